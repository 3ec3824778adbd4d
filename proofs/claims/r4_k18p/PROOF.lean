import PyProof.Rows.All
import Wide.All
import OpenK.AllK
import Wide.FinOn
import Lean
import PyProof.EqAt
import PyProof.EqKinds
import PyProof.TupleCall
import PySem.Challenge.RW_rimsteps_k18_whole_the_reader_and_the_wa
set_option Elab.async false
set_option linter.all false
set_option maxRecDepth 100000
open PySem renaming wpAny_bind → Aa,Value → Ac,Shared → Ae,wpAny_pure → Af,wpAny → Ak,model → An,Program → AQ,mainGlobals → AU,Around → AY,wpAny_holding → Bb,wpAny_setField_rec → Bc,wpAny_field → Be,World → Bg,starEach → Bh,wpAny_callSpecial?_slot → Bi,wpAny_newObj_type → Bl,wpAny_call_entry → Bo,compareOp → Bw,wpAny_loadPart' → BK,sysModules → BP,Spec → BW,foldedSetIterable → BY,wpAny_mono → B3,wpAny_rule → B9,FuncData → Cc,wpAny_dictEntries → Ce,rawInt → Cg,wpAny_truthy_bool → Co,wpAny_seqItems → Cq,wpAny_Call_Name_kw → Cw,keywordEach → Cz,tupleKind_room_in1 → CO,wpAny_typeNameOfWhole_itemiter → CS,codeAny → CT,wpAny_typeNameOfWhole_keyiter → CY,assignEach → C4,mem_of_lookup → C8,wpAny_standAt → De,sizeLine_eq → Dg,wpAny_letGo → Dh,wpAny_passesOwn → Dr,wpAny_comprehension_free → DH,wpAny_attempt → DI,IsPair → DJ,Builtin → DL,backToKw → DN,compEnvC → DO,pyNext → DU,wpAny_nextOf_list_item → D1,wpAny_updateSeq → D3,wpAny_dictEpoch → D4,tupleKind → D5,wpAny_notOrdered_dict → Eb,wpAny_tryCatch → Eg,codeAny_mono → Ek,wpAny_getItem_of → El,behindInMarks → Ew,bindArgs → Ex,atKey → Ey,wpAny_execs_nil → EH,letOwnedTupleGo → EI,size_of_entries → EM,backTo → EO,IsItemIter → ES,sliceBounds → EU
open List renaming getElem?_eq_getElem → Ab,getElem?_eq_some_iff → Ad,length_map → Ah,mem_of_getElem? → Aj,mem_singleton → Am,mem_cons_self → Ap,replicate → Ar,mem_cons_of_mem → As,length_append → Av,mem_append_right → Aw,mem_cons → Ax,map_append → Ay,getElem?_map → AA,mem_append → AC,getElem_of_mem → AD,mem_map → AE,size_toArray → AF,getElem?_append_left → AH,take_length → AI,append_assoc → AN,map_cons → AO,length_take → AS,getElem?_append_right → AW,pairwise_append → AX,length_cons → AZ,getD_eq_getElem?_getD → A8,getElem_mem → Bj,range → Bk,mem_of_mem_take → Bq,flatten_cons → Br,nodup_cons → Bs,mem_filter → Bz,pairwise_iff_getElem → BA,mem_append_left → BF,mem_of_mem_drop → BG,sum_cons → BH,lookup_cons → BI,append_nil → BJ,set_cons_succ → BL,set_cons_zero → BM,length_filter_le → BV,take_of_length_le → B5,pairwise_map → Cf,pairwise_cons → Ch,take_sublist → Cp,length_nil → Cu,mem_flatten → CA,length_range → CH,take_succ_cons → CI,sum_append → CJ,extract_eq_take_drop → CK,length_replicate → CL,drop_sublist → C1,getElem?_inj → C3,find?_cons → C5,replicate_succ → C9,not_mem_nil → Di,zip_cons_cons → Dk,take_append_drop → Do,perm_append_comm → Dp,forIn_cons → Dt,length → Dv,nodup_append → DD,take_succ → DP,mem_range → DQ,getElem?_cons_succ → DR,map_nil → DV,filterMap_map → DW,filter_append → DZ,map_drop → D8,map_take → D9,length_singleton → Ea,getElem?_eq_none → Ed,replicate_succ' → Ej,drop_eq_getElem_cons → Ep,mem_of_find?_eq_some → Er,flatten_append → Ev,length_filterMap_le → EE,getElem?_drop → ER,eraseIdx_cons_succ → EV
open PySem.Heap renaming get?_push_of_some → Ag,lt_size → Aq,get?_push_size → At,get?_update_other → BE,SameBut → BR,get?_update_self → CN,DictOfH → DX
open Nat renaming le_refl → Ai,lt_of_lt_of_le → AG,ne_of_lt → AK,le_trans → A3,lt_or_ge → A6,zero_le → Bd,le_of_lt → BZ,mod_lt → Ci,ne_of_gt → CC,lt_of_le_of_lt → CP,zero_add → Da,lt_irrefl → Dd,le_add_right → Dj,le_succ → Dz
open PyProof.Rows renaming wpS_bind → Ao,wpS_pure → Az,arrOf → AB,SortSt → AR,pendingOf → AV,wpS_forRange → BN,seqObj → BS,callWith_type1 → BT,slot_tuple_getitem → BU,getElem?_mirror_all → B7,wpS_modify → Ca,wpS_mono → CM,IntsAre → CU,failedOf → CW,SortKind → Dl,get?_update_seq → EJ,wpS_get → EK
open PySem.Value renaming ref → Au,none → B8,type → DE,int → DM,bool → EN
open Array renaming length_toList → AJ,toList_append → Bp,getElem?_eq_some_iff → Bv,getElem?_toList → By,getElem?_eq_getElem → BQ,size_extract → CQ,toList_push → DB,toList_extract → DC,perm_iff_toList_perm → Ei
open PySem.Builtin.SmallTypes renaming nextOf → AL,ownedTupleIsFree → AM,ownedTupleHandOut → Cn
open Bool renaming false_ne_true → AT,false_eq_true → Bn,and_eq_true → B6,eq_iff_iff → Ds
open Option renaming map_eq_some_iff → A4,map_some → D2
open PySem.F renaming plainAttrs_list → A5,slot_list_append → Bt,type_list_append → Bu,slot_zip_next → Cb,plain_min_loop → Ck,slot_dict_itemiterator_next → Cr,slot_dict_keyiterator_next → Cy,plainAttrs_dict → C0,slot_dict_setdefault → C7,slot_enumerate_next → Dc,args_zip_next_1 → DT,entry_zip_next → D0,args_dict_itemiterator_next_1 → Em,slot_dict_getitem → En,args_dict_keyiterator_next_1 → Et,entry_dict_itemiterator_next → Eu,entry_dict_keyiterator_next → EA,slot_list_extend → EF,type_list_extend → EG
open PySem.Obj renaming mapSeq → A7
open Option.some renaming inj → A9
open Classical renaming byContradiction → Ba
open PySem.PassesOwn renaming never → Bf
open PySem.Str renaming ofString → Bx
open PySem.Heap.SameBut renaming update → BB,extBut → BC
open False renaming elim → BD
open PySem.NameKind renaming free → BO,cell → D7
open PySem.PyData renaming keyHash → BX,eqv → C6,canLayAll0 → Dx,depth → Dy,int → Ef
open PySem.Calls renaming spliced_cons → B4,callWith_builtin → CF,spliced_nil → Du,evalArgs_plain → Dw
open PySem.SeqAt renaming shaped → Cd
open Ne renaming symm → Cj
open PySem.W renaming mg_none_of → Cm,nsIn → DS,codeHdIn → DY,kia_one → D6,kas_item → Eh,fnOf → Es
open Sum renaming inl → Ct
open PySem.Builtin.Dict_items renaming ownsTuple → Cv,ownedTupleFields → EB,ownedTupleIsFree → EC
open PySem.Paired renaming length → CB
open True renaming intro → CD
open Int renaming toNat_natCast → CG,emod_lt_of_pos → ET
open Lean renaming maxHeartbeats → CV
open PySem.Builtin.Range renaming rangeSize → CZ
open PySem.Builtin.List renaming listExtendWith → Db,listTooLong → DG
open Break.runK renaming match_1 → Dm
open PySem.Builtin.Slice renaming slicePlaces → Dq,sliceAdjust → Eo
open PySem.Builtin.Tuple renaming tupleExact → DF,tupleCompareSizes → DK
open PySem.Builtin.Dict renaming showsAll → Ec
open Sum.inl renaming inj → Ee
open PySem.AutoSeq1 renaming sub_tuple_tuple → Ez
open List.Pairwise renaming imp_of_mem → ED
open Array.Perm renaming refl → EL
open Or renaming inr → EQ
namespace L2
open PySem PySem.Spec PyProof.Rows
noncomputable abbrev Key:=Sum Int Str
noncomputable def keyIs:Key->Ac->Bool
 |.inl k,v=>Value.isInt k v
 |.inr x,v=>Value.isStrOf x v
noncomputable def keyH(w:Bg):Key->Int
 |.inl k=>hashInt k
 |.inr x=>hashStr w x
theorem zaL:∀{k:Key}{v:Ac},keyIs k v=true->(∃i t,k=Ct i/\v=DM i t)∨(∃x t,k=Sum.inr x/\v=Value.str x t)
 |.inl i,v,h=>by
  obtain⟨t,e⟩:=Value.isInt_shape (k:=i) (v:=v) h;exact .inl ⟨i,t,rfl,e⟩
 |.inr x,v,h=>by
  obtain⟨t,e⟩:=Value.isStrOf_shape (x:=x) (v:=v) h;exact .inr ⟨x,t,rfl,e⟩
theorem zkD(i:Int)(t:Tok):keyIs (.inl i) (.int i t)=true:=by simp[keyIs,Value.isInt]
theorem zkC(x:Str)(t:Tok):keyIs (.inr x) (.str x t)=true:=by simp[keyIs,Value.isStrOf]
theorem zof(a b:Int):decide ((Ct a:Key)=Ct b)=(a == b):=by
 by_cases e:a=b
 .subst e;simp
 .have h:¬ (Ct a:Key)=Ct b:=λq=>e (Ee q)
  rw[decide_eq_false h];exact (beq_eq_false_iff_ne.mpr e).symm
theorem zoc(a b:Str):decide ((Sum.inr a:Key)=Sum.inr b)=decide (a=b):=by
 by_cases e:a=b
 .subst e;simp
 .have h:¬ (Sum.inr a:Key)=Sum.inr b:=λq=>e (Sum.inr.inj q)
  rw[decide_eq_false h,decide_eq_false e]
theorem zoe(a:Int)(b:Str):decide ((Ct a:Key)=Sum.inr b)=false:=decide_eq_false (λq=>nomatch q)
theorem zod(a:Str)(b:Int):decide ((Sum.inr a:Key)=Ct b)=false:=decide_eq_false (λq=>nomatch q)
noncomputable def zay(prog:AQ)(w:Bg):PySem.KeyKind prog w Key where
 is:=keyIs
 hash:=keyH w
 inj:=λv a b ha hb=>by
  rcases zaL ha with⟨i,t,rfl,rfl⟩ |⟨x,t,rfl,rfl⟩
  .rcases zaL hb with⟨j,u,rfl,e⟩ |⟨y,u,rfl,e⟩
   .injection e with e1 _;rw[e1]
   .exact nomatch e
  .rcases zaL hb with⟨j,u,rfl,e⟩ |⟨y,u,rfl,e⟩
   .exact nomatch e
   .injection e with e1 _;rw[e1]
 byValue:=λk v h=>by rcases zaL h with⟨i,t,rfl,rfl⟩ |⟨x,t,rfl,rfl⟩ <;> rfl
 pyHash:=λhv h=>by
  rcases zaL hv with⟨i,t,rfl,rfl⟩ |⟨x,t,rfl,rfl⟩
  .exact wpAny_pyHash_int h
  .exact wpAny_pyHash_str h
 eqBool:=λhu hv h=>by
  rcases zaL hu with⟨i,t,rfl,rfl⟩ |⟨x,t,rfl,rfl⟩
  .rcases zaL hv with⟨j,u,rfl,rfl⟩ |⟨y,u,rfl,rfl⟩
   .rw[zof]at h;exact wpAny_eqBool_int h
   .rw[zoe]at h;exact SeqAt.EqAt.int_str i t y u _ _ _ _ h
  .rcases zaL hv with⟨j,u,rfl,rfl⟩ |⟨y,u,rfl,rfl⟩
   .rw[zod]at h;exact SeqAt.EqAt.str_int x t j u _ _ _ _ h
   .rw[zoc]at h;exact wpAny_eqBool_str h
 «strs»:=λk x t v h=>by
  rcases zaL h with⟨i,u,rfl,e⟩ |⟨y,u,rfl,e⟩
  .exact nomatch e
  .injection e with e1 _;subst e1
   cases v <;> rfl
theorem zhI(prog:AQ)(w:Bg)(i:Int)(t:Tok):(zay prog w).is (.inl i) (.int i t)=true:=zkD i t
theorem zba(prog:AQ)(w:Bg)(x:Str)(t:Tok):(zay prog w).is (.inr x) (.str x t)=true:=zkC x t
inductive V where
 |non |bl (b:Bool) |int (i:Int) |str (x:Str) |byt (b:Array UInt8) |flt (b:UInt64) |ref (a:Addr) |ty (n:String)
 deriving DecidableEq
noncomputable def RelV:V->Ac->Prop
 |.non,u=>u=B8
 |.bl b,u=>u=EN b
 |.int i,u=>∃t,u=DM i t
 |.str x,u=>∃t,u=Value.str x t
 |.byt b,u=>∃t,u=Value.bytes b t
 |.flt b,u=>∃t,u=Value.float b t
 |.ref a,u=>u=Au a
 |.ty n,u=>u=DE n
noncomputable abbrev Vals:List V->List Ac->Prop:=Paired RelV
theorem Vals.length{xs:List V}{us:List Ac}(r:Vals xs us):xs.length=us.length:=CB r
theorem Vals.get:∀{xs:List V}{us:List Ac}{i:Nat}{x:V},Vals xs us->xs[i]?=some x->∃u,us[i]?=some u/\RelV x u
 |_,_,_,_,.nil,e=>by simp at e
 |_,_,0,_,.cons r _,e=>by simp at e;subst e;exact⟨_,rfl,r⟩
 |_,_,i+1,x,.cons _ t,e=>by
  obtain⟨u,h1,h2⟩:=Vals.get (i:=i) (x:=x) t (by simpa using e);exact⟨u,by simpa using h1,h2⟩
theorem Vals.append:∀{xs ys:List V}{us ws:List Ac},Vals xs us->Vals ys ws->Vals (xs++ys) (us++ws)
 |_,_,_,_,.nil,s=>s
 |_,_,_,_,.cons r t,s=>.cons r (Vals.append t s)
theorem Vals.take:∀{xs:List V}{us:List Ac}(n:Nat),Vals xs us->Vals (xs.take n) (us.take n)
 |_,_,0,_=>.nil
 |_,_,_+1,.nil=>.nil
 |_,_,n+1,.cons r t=>.cons r (Vals.take n t)
theorem Vals.drop:∀{xs:List V}{us:List Ac}(n:Nat),Vals xs us->Vals (xs.drop n) (us.drop n)
 |_,_,0,r=>r
 |_,_,_+1,.nil=>.nil
 |_,_,n+1,.cons _ t=>Vals.drop n t
noncomputable def RelO:Option V->Option Ac->Prop
 |some v,some u=>RelV v u
 |none,none=>True
 |_,_=>False
noncomputable def KV{κ:Type}:List (κ×V)->List (κ×Ac)->Prop:=Paired λ(p:κ×V) (q:κ×Ac)=>p.1=q.1/\RelV p.2 q.2
noncomputable def kV:Key->V
 |.inl i=>.int i
 |.inr x=>.str x
inductive HO where
 /-- a list -/
 |lst (xs:List V)
 /-- a tuple (never changes) -/
 |tup (xs:List V)
 /-- a dict whose keys are ints and texts;one whose keys are tuples of ints and texts (the empty one is both) -/
 |dK (kvs:List (Key×V)) |dT (kvs:List (List Key×V))
 /-- a set of ints: its members,its size -/
 |set (S:Int->Bool) (n:Nat)
 /-- an instance of the class at C,its dict at dx,its attributes -/
 |ins (C dx:Addr) (fs:List (Str×V))
 /-- the dict of the instance at x -/
 |own (x:Addr)
 /-- the dict of an exception -/
 |xd (fs:List (Str×V))
 /-- a bound method,f of x -/
 |met (f x:Addr)
 /-- a range object lo,lo+1,.. below hi -/
 |rng (lo hi:Int)
 /-- a thing that is known to the object (the script;a dict while a loop walks it): read,never written while it is so -/
 |frz (o:Obj) (u:HO)
 /-- a code object's table -/
 |tbl (ps:Array Ac)
 /-- any other thing,by what is true of its one object (a def of one's own: SetO a S n:=HO.ext λh=>..) -/
 |ext (φ:Heap->Prop)
noncomputable abbrev Hp:=Addr->Option HO
noncomputable def upd(H:Hp)(a:Addr)(o:HO):Hp:=λb=>if b=a then some o else H b
theorem zaa{H:Hp}{a:Addr}{o:HO}:upd H a o a=some o:=by unfold upd;rw[if_pos rfl]
theorem zag{H:Hp}{a b:Addr}{o:HO}(h:b≠a):upd H a o b=H b:=by unfold upd;rw[if_neg h]
theorem ne_of{H:Hp}{a b:Addr}{o u:HO}(h:H a=some o)(h':H b=some u)(d:o≠u):a≠b:=by intro e;subst e;rw[h]at h';exact d (A9 h')
theorem zam{H:Hp}{a b:Addr}{o:HO}(h:H a=some o)(h':H b=none):a≠b:=by intro e;subst e;rw[h]at h';cases h'
section
variable (P:AQ) (w:Bg)
noncomputable def ObjOk(H:Hp)(h:Heap)(a:Addr):HO->Prop
  |.lst xs=>xs.length<=sizeLine/\∃(its:List Ac) (n:Nat),Vals xs its/\h.get? a=some { cls:=.type "list",data:=.seq its.toArray n }
  |.tup xs=>xs.length<=sizeLine/\∃its:List Ac,Vals xs its/\IsTup h a its.toArray
  |.dK kvs=>kvs.length<=sizeLine/\(a == BP)=false/\∃vs,KV kvs vs/\h.DictOf (zay P w) a vs
  |.dT kvs => kvs.length <= sizeLine /\ (a == BP)=false /\ ∃xs:List (List Key × Addr × Ac),
      Paired (λ(p:List Key×V) (q:List Key×Addr×Ac)=>p.1=q.1/\H q.2.1=some (.tup (p.1.map kV))/\RelV p.2 q.2.2) kvs xs /\
      ∃o es ep,h.get? a=some o/\o.ExactDict/\o.data=.dict es ep/\es.toList=xs.map (entryOfKey (D5 (zay P w)))/\(xs.map (·.1)).Nodup
  |.set S n=>h.SetOf (intKind P w) a S n
  |.ins C dx fs => H dx=some (.own a) /\ fs.length <= 1000 /\ dx ≠ a /\ h.get? a=some (W.instObj C dx) /\
      ∃mA,h.Ns1 dx mA/\(∀f,RelO (fs.lookup f) (mA f))/\PySem.Within mA (fs.map (·.1))
  |.own _=>∃o,h.get? a=some o
  |.xd fs=>∃mA,h.Ns1 a mA/\∀f,RelO (fs.lookup f) (mA f)
  |.rng lo hi=>∃t u v,h.get? a=some { cls:=.type "range",data:=.fields #[.int lo t,.int hi u,.int 1 v] }
  |.frz o u=>h.get? a=some o/\ObjOk H h a u
  |.tbl ps=>h.get? a=some { cls:=.none,data:=.fields ps }
  |.met f x=>h.get? a=some (W.methodObj (.ref f) (.ref x))
  |.ext φ=>φ h/\(∃o,h.get? a=some o)/\∀h1 h2:Heap,φ h1->(∀o,h1.get? a=some o->h2.get? a=some o)->φ h2
noncomputable def HOk(H:Hp)(h:Heap):Prop:=∀a o,H a=some o->ObjOk P w H h a o
end
section
variable {P:AQ}{w:Bg}{H H':Hp}{h h':Heap}{a:Addr}{o:HO}
theorem ObjOk.lt(x:ObjOk P w H h a o):a<h.objs.size:=by
 cases o with
 |lst xs=>obtain⟨_,_,_,_,e⟩:=x;exact Aq e
 |tup xs=>obtain⟨_,_,_,p⟩:=x;exact p.lt
 |dK kvs=>obtain⟨_,_,_,_,o,_,_,e,_⟩:=x;exact Aq e
 |dT kvs=>obtain⟨_,_,_,_,o,_,_,e,_⟩:=x;exact Aq e
 |set S n=>obtain⟨o,_,_,_,e,_⟩:=x;exact Aq e
 |ins C dx fs=>obtain⟨_,_,_,e,_⟩:=x;exact Aq e
 |own y=>obtain⟨_,e⟩:=x;exact Aq e
 |xd fs=>obtain⟨_,⟨_,_,_,e,_⟩,_⟩:=x;exact Aq e
 |rng lo hi=>obtain⟨_,_,_,e⟩:=x;exact Aq e
 |frz ob u=>obtain⟨e,_⟩:=x;exact Aq e
 |tbl ps=>exact Aq (show h.get? a=some _ from x)
 |met f y=>exact Aq (show h.get? a=some _ from x)
 |ext φ=>obtain⟨_,⟨_,e⟩,_⟩:=x;exact Aq e
theorem Paired.mapP{α β:Type}{F G:α->β->Prop}:∀{l₁:List α}{l₂:List β},Paired F l₁ l₂->(∀a b,F a b->G a b)->Paired G l₁ l₂
 |_,_,.nil,_=>.nil
 |_,_,.cons r t,f=>.cons (f _ _ r) (Paired.mapP t f)
theorem ObjOk.stay(x:ObjOk P w H h a o)(k:∀b u, (b=a ∨ H b=some (.own a)) -> h.get? b=some u -> h'.get? b=some u)
  (ho:∀b,H b=some (.own a)->H' b=some (.own a)) (ht:∀b xs,H b=some (.tup xs)->H' b=some (.tup xs)):ObjOk P w H' h' a o:=by
 induction o with
 |lst xs=>obtain⟨z,its,n,r,e⟩:=x;exact⟨z,its,n,r,k _ _ (.inl rfl) e⟩
 |tup xs=>obtain⟨z,its,r,ob,e,c⟩:=x;exact⟨z,its,r,ob,k _ _ (.inl rfl) e,c⟩
 |dK kvs=>obtain⟨z,y,vs,r,ob,es,ep,e,c⟩:=x;exact⟨z,y,vs,r,ob,es,ep,k _ _ (.inl rfl) e,c⟩
 |dT kvs =>
  obtain⟨z,y,xs,r,ob,es,ep,e,c⟩:=x;exact⟨z,y,xs,Paired.mapP r λp q z=>⟨z.1,ht _ _ z.2.1,z.2.2⟩,ob,es,ep,k _ _ (.inl rfl) e,c⟩
 |set S n=>obtain⟨ob,es,ep,t,e,c⟩:=x;exact⟨ob,es,ep,t,k _ _ (.inl rfl) e,c⟩
 |ins C dx fs =>
  obtain⟨d,z,ne,e,mA,⟨od,es,ep,e2,c⟩,r⟩:=x;exact⟨ho _ d,z,ne,k _ _ (.inl rfl) e,mA,⟨od,es,ep,k _ _ (.inr d) e2,c⟩,r⟩
 |own y=>obtain⟨ob,e⟩:=x;exact⟨ob,k _ _ (.inl rfl) e⟩
 |xd fs=>obtain⟨mA,⟨od,es,ep,e,c⟩,r⟩:=x;exact⟨mA,⟨od,es,ep,k _ _ (.inl rfl) e,c⟩,r⟩
 |rng lo hi=>obtain⟨t,u,v,e⟩:=x;exact⟨t,u,v,k _ _ (.inl rfl) e⟩
 |frz ob u ih=>obtain⟨e,q⟩:=x;exact⟨k _ _ (.inl rfl) e,ih q⟩
 |tbl ps =>
  have e:h.get? a=some { cls:=.none,data:=.fields ps }:=x;show h'.get? a=some { cls:=.none,data:=.fields ps };exact k a _ (.inl rfl) e
 |met f y =>
  have e:h.get? a=some (W.methodObj (.ref f) (.ref y)):=x;show h'.get? a=some (W.methodObj (.ref f) (.ref y));exact k a _ (.inl rfl) e
 |ext φ=>obtain⟨p,⟨o,e⟩,st⟩:=x;exact⟨st _ _ p λo q=>k _ _ (.inl rfl) q,⟨o,k _ _ (.inl rfl) e⟩,st⟩
theorem HOk.lt(x:HOk P w H h)(e:H a=some o):a<h.objs.size:=(x a o e).lt
theorem HOk.fresh(x:HOk P w H h)(e:h.objs.size<=a):H a=none:=by
 cases q:H a with
 |none=>rfl
 |some u=>exact absurd (AG (x.lt q) e) (Dd _)
theorem HOk.kept(x:HOk P w H h)(k:∀b u,h.get? b=some u->h'.get? b=some u):HOk P w H h':=λa o e =>
 (x a o e).stay (λb u _ q=>k b u q) (λ_ q=>q) λ_ _ q=>q
theorem HOk.laid(x:HOk P w H h)(k:∀b u,h.get? b=some u->h'.get? b=some u)(hp:h.objs.size<=a)(new:ObjOk P w (upd H a o) h' a o):HOk P w (upd H a o) h':=λb u e=>by
 have hn:=x.fresh hp
 by_cases hb:b=a
 .subst hb;rw[zaa]at e;cases e;exact new
 .rw[zag hb]at e;exact (x b u e).stay (λc v _ q=>k c v q) (λc q=>by rw[zag (zam q hn)];exact q) λc xs q=>by rw[zag (zam q hn)];exact q
end
noncomputable def Rd(H:Hp)(a:Addr)(u:HO):Prop:=H a=some u∨∃o,H a=some (.frz o u)
theorem Rd.of{H:Hp}{a:Addr}{u:HO}(h:H a=some u):Rd H a u:=.inl h
theorem Rd.ok{P:AQ}{w:Bg}{H:Hp}{h:Heap}{a:Addr}{u:HO}(r:Rd H a u)(x:HOk P w H h):ObjOk P w H h a u:=by
 rcases r with r |⟨o,r⟩
 .exact x a u r
 .obtain⟨_,q⟩:=x a _ r;exact q
noncomputable def Mut:Option HO->Prop
 |some (.lst _)=>True
 |some (.dK _)=>True
 |some (.dT _)=>True
 |some (.set _ _)=>True
 |some (.ins _ _ _)=>True
 |some (.ext _)=>True
 |_=>False
section
variable {P:AQ}{w:Bg}{H:Hp}{h h':Heap}{x e:Addr}{o':HO}
theorem HOk.write(ok:HOk P w H h)(mu:Mut (H x))(he:e=x ∨ H e=some (.own x))(k:∀b u, b ≠ e -> h.get? b=some u -> h'.get? b=some u)(heo:∃u, h'.get? e=some u)
  (new:ObjOk P w (upd H x o') h' x o'):HOk P w (upd H x o') h':=λb u q=>by
 have nown:∀c y,H c=some (.own y)->c≠x:=λc y r z=>by subst z;rw[r]at mu;exact mu
 have ntup:∀c xs,H c=some (.tup xs)->c≠x:=λc xs r z=>by subst z;rw[r]at mu;exact mu
 by_cases hb:b=x
 .subst hb;rw[zaa]at q;cases q;exact new
 .rw[zag hb]at q
  by_cases hbe:b=e
  .have q':H b=some (.own x) := by
    rcases he with z |z
    .exact absurd (hbe.trans z) hb
    .rw[hbe];exact z
   rw[q]at q';cases q';obtain⟨v,hv⟩:=heo;exact⟨v,by rw[hbe];exact hv⟩
  .refine (ok b u q).stay (λc v hc r=>k c v ?_ r) (λc r=>by rw[zag (nown c b r)];exact r) λc xs r=>by rw[zag (ntup c xs r)];exact r
   rcases hc with rfl |hc
   .exact hbe
   .rintro rfl;rcases he with z |z
    .exact nown c b hc z
    .rw[hc]at z;cases z;exact hb rfl
end
structure Un (fs ex:List Addr) (H H':Hp) (h h':Heap):Prop where
 keep:∀b o,h.get? b=some o->H b=none->b ∉ fs->b ∉ ex->h'.get? b=some o
 slot:∀b o,h.get? b=some o->H b=none->b∈fs->b ∉ ex->∃sl,h'.get? b=some { o with slots:=sl }
 free:∀b o,h.get? b=some o->H b=none->b ∉ ex->H' b=none
 there:∀b o,h.get? b=some o->b ∉ ex->∃o',h'.get? b=some o'
 tups:∀b xs,H b=some (.tup xs)->H' b=some (.tup xs)
 frzs:∀b o u,H b=some (.frz o u)->H' b=some (.frz o u)
 tbls:∀b ps,H b=some (.tbl ps)->∃more,H' b=some (.tbl (ps++more))
section
variable {fs fs' ex ex':List Addr}{H H1 H2:Hp}{h h1 h2 h':Heap}{a x e:Addr}{o:HO}
theorem Un.any(u:Un fs ex H H1 h h1){b:Addr}{ob:Obj}(q:h.get? b=some ob)(n:H b=none)(hx:b ∉ ex):∃sl,h1.get? b=some { ob with slots:=sl }:=by
 by_cases hb:b∈fs
 .exact u.slot b ob q n hb hx
 .exact⟨ob.slots,u.keep b ob q n hb hx⟩
theorem Un.kept(k:∀b u,h.get? b=some u->h'.get? b=some u):Un fs ex H H h h' :=
 ⟨λb ob q _ _ _=>k b ob q,λb ob q _ _ _=>⟨ob.slots,k b ob q⟩,λ_ _ _ n _=>n,λb ob q _=>⟨ob,k b ob q⟩,λ_ _ q=>q,λ_ _ _ q=>q,λ_ ps q=>⟨#[],by rw[q];simp⟩⟩
theorem Un.refl:Un fs ex H H h h:=Un.kept λ_ _ q=>q
theorem Un.laid(k:∀b u,h.get? b=some u->h'.get? b=some u)(hp:h.objs.size<=a)(hn:H a=none):Un fs ex H (upd H a o) h h' where
 keep:=λb u q _ _ _=>k b u q
 slot:=λb u q _ _ _=>⟨u.slots,k b u q⟩
 free:=λb u q n _=>by rw[zag (AK (AG (Aq q) hp))];exact n
 there:=λb u q _=>⟨u,k b u q⟩
 tups:=λb xs q=>by rw[zag (zam q hn)];exact q
 frzs:=λb u xs q=>by rw[zag (zam q hn)];exact q
 tbls:=λb ps q=>⟨#[],by rw[zag (zam q hn),q];simp⟩
theorem Un.write(mu:Mut (H x))(he:e=x∨H e=some (.own x))(k:∀b u,b≠e->h.get? b=some u->h'.get? b=some u)(heo:∃u,h'.get? e=some u):Un fs ex H (upd H x o) h h':=by
 have hx:∀b,H b=none->b≠x:=λb n z=>by subst z;rw[n]at mu;exact mu
 have hb:∀b,H b=none->b≠e:=λb n z=>by
  subst z;rcases he with r |r
  .exact hx b n r
  .rw[n]at r;cases r
 have hm:∀b u,H b=some u->¬ Mut (some u)->b≠x:=λb u q nm z=>by subst z;rw[q]at mu;exact nm mu
 refine⟨λb u q n _ _=>k b u (hb b n) q,λb u q n _ _=>⟨u.slots,k b u (hb b n) q⟩,λb u q n _=>by rw[zag (hx b n)];exact n,λb u q _=>?_,
  λb xs q=>by rw[zag (hm b _ q λz=>z)];exact q,λb u xs q=>by rw[zag (hm b _ q λz=>z)];exact q,λb ps q=>⟨#[],by rw[zag (hm b _ q λz=>z),q];simp⟩⟩
 by_cases hbe:b=e
 .subst hbe;exact heo
 .exact⟨u,k b u hbe q⟩
end
noncomputable def trk(h:Heap)(H:Hp):List Addr:=(Bk h.objs.size).filter λa=>(H a).isSome
noncomputable def hidT(h:Heap)(H:Hp):Heap:=W.hideAll h (trk h H)
theorem zkK(h:Heap)(H:Hp):(hidT h H).objs.size=h.objs.size:=W.hideAll_size _ _
theorem zlY{h:Heap}{H:Hp}{b:Addr}{o:Obj}(e:h.get? b=some o)(n:H b=none):(hidT h H).get? b=some o :=
 W.hideAll_get _ e λhm=>by have q:(H b).isSome=true:=(Bz.mp hm).2;rw[n]at q;simp at q
theorem zm5{h:Heap}{H:Hp}{b:Addr}{o:Obj}(e:(hidT h H).get? b=some o):h.get? b=some o/\H b=none:=by
 have e':h.get? b=some o:=W.of_hideAll (trk h H) e;refine⟨e',?_⟩
 cases q:H b with
 |none=>rfl
 |some x =>
  have hm:b∈trk h H:=Bz.mpr ⟨List.mem_range.mpr (Aq e'),by simp[q]⟩;have z:(hidT h H).get? b=none:=W.hideAll_none (trk h H) hm;rw[z]at e;cases e
noncomputable def zns(g h:Heap)(L:Addr):List (Addr×Obj):=(Bk h.objs.size).filterMap λa=>if a=L∨(g.get? a).isSome=true then none else (h.get? a).map λo=>(a,o)
noncomputable def rest(g h:Heap)(L d:Addr):List (Addr×Obj):=(zns g h L).filter λp=>decide (p.1≠d)
structure Mod (K:W.Frag) (mg:Str->Option Ac) (base:Heap):Prop where
 kin:K.In base
 glob:base.Ns AU mg
 blt:∃mb,base.Ns builtinsNs mb/\∀x:Str,x ≠ "__name__" -> mb x=bootBuiltins x
 nolimit:base.NoLimit
structure Cx where
 prog:AQ
 w:Bg
 K:W.Frag
 mg:Str->Option Ac
 base:Heap
 A:AY
 N:List Str
 s₀:Ae
 H₀:Hp
 env:Env
 outer:List Env
 stack:List Env
 ex:List Addr
 fn:Str->Bool
 calm:Bool
 pn:List (Addr×Obj)
 xe:Ac->Ae->Prop
noncomputable def frs(l:List Env):List Addr:=l.filterMap (·.frame)
noncomputable abbrev Cx.fs(X:Cx):List Addr:=frs X.outer
noncomputable def Vis(sc:Scope)(x:Str):Prop:=sc.names.lookup x=some .local∨sc.names.lookup x=some .cell∨sc.names.lookup x=some .free
noncomputable def Loc(sc:Scope)(x:Str):Prop:=sc.names.lookup x=some .local∨sc.names.lookup x=some .cell
noncomputable def Look(env:Env)(h:Heap)(m:Str->Option Ac)(x:Str)(u:Ac):Prop :=
 (env.kindOf x=some .local/\m x=some u)∨((env.kindOf x=some .cell∨env.kindOf x=some .free)/\∃c,env.cells.lookup x=some c/\h.IsCell c (some u))
structure Cx.Ok (X:Cx):Prop where
 mod:Mod X.K X.mg X.base
 kind:X.env.scope.kind=.function
 glob:X.env.globals=AU
 blt:X.env.builtins=builtinsNs
 above:X.s₀.heap.objs.size<=X.env.locals
 inj:∀x y c,X.env.cells.lookup x=some c->X.env.cells.lookup y=some c->x=y
 has:∀x,(X.env.kindOf x=some .cell∨X.env.kindOf x=some .free)->∃c,X.env.cells.lookup x=some c
 cab:∀x c,X.fn x=true->X.env.cells.lookup x=some c->X.s₀.heap.objs.size<=c
 hd:X.calm=true->X.A.handled=none
 frames:X.A.frames=some X.stack
 stk:X.stack=X.outer∨(X.stack=X.env::X.outer/\X.env.frame=some X.env.locals)
 exf:∀b∈X.ex,b≠X.env.locals/\∀x c,X.env.cells.lookup x=some c->c≠b
 bs:∀b o,X.base.get? b=some o->X.s₀.heap.get? b=some o/\X.H₀ b=none
 bsz:X.base.objs.size<=X.s₀.heap.objs.size
 noex:∀b o,X.base.get? b=some o->b ∉ X.ex
 exfs:∀b∈X.ex,b ∉ X.fs
 funs:X.s₀.heap.FunFrames X.base X.outer
 frf:∀b∈X.fs,X.H₀ b=none
structure Inv (X:Cx) (pins:List (Addr×Obj)) (σ:List (Option V)) (H:Hp) (s:Ae):Prop where
 ok:X.Ok
 os:s.os=X.s₀.os
 bare:AllBare s.gens
 base:Un X.fs X.ex X.H₀ H X.s₀.heap s.heap
 loc:∃m,s.heap.Ns X.env.locals m/\∀(i:Nat) (x:Str) (v:V),X.N[i]?=some x->σ[i]?=some (some v)->Vis X.env.scope x->∃u,RelV v u/\Look X.env s.heap m x u
 cell:∀x c,X.env.cells.lookup x=some c->∃v,s.heap.IsCell c v
 free:H X.env.locals=none
 freeC:∀x c,X.env.cells.lookup x=some c->H c=none
 pin:∀p∈X.pn++pins,s.heap.get? p.1=some p.2/\H p.1=none/\p.1≠X.env.locals/\p.1 ∉ X.fs/\∀v,p.2.data≠.cell v
 hok:HOk X.prog X.w H s.heap
 len:σ.length=X.N.length
section
variable {X:Cx}{pins:List (Addr×Obj)}{σ:List (Option V)}{H H':Hp}{s:Ae}{h':Heap}
theorem Cx.Ok.nofr(ok:X.Ok){b:Addr}{o:Obj}(e:X.base.get? b=some o):b ∉ X.fs:=λhb=>by have:=(ok.funs.mem hb).1;rw[e]at this;cases this
theorem Inv.bs(I:Inv X pins σ H s):∀b o,X.base.get? b=some o->s.heap.get? b=some o/\H b=none:=λb o e =>
 ⟨I.base.keep b o (I.ok.bs b o e).1 (I.ok.bs b o e).2 (I.ok.nofr e) (I.ok.noex b o e),I.base.free b o (I.ok.bs b o e).1 (I.ok.bs b o e).2 (I.ok.noex b o e)⟩
theorem Inv.bk(I:Inv X pins σ H s):∀b o,X.base.get? b=some o->s.heap.get? b=some o:=λb o e=>(I.bs b o e).1
theorem Inv.mod(I:Inv X pins σ H s):Mod X.K X.mg X.base:=I.ok.mod
theorem Inv.kIn(I:Inv X pins σ H s):X.K.In s.heap:=I.ok.mod.kin.keeps I.bk
theorem Inv.lt(I:Inv X pins σ H s):X.env.locals<s.heap.objs.size:=let ⟨_,hn,_⟩:=I.loc;hn.lt
theorem Inv.sz(I:Inv X pins σ H s):X.s₀.heap.objs.size<=s.heap.objs.size:=A3 I.ok.above (BZ I.lt)
theorem Inv.nofs(I:Inv X pins σ H s){a:Addr}(h:s.heap.objs.size<=a):a ∉ X.fs:=λhb=>by obtain⟨_,o,ho,_⟩:=I.ok.funs.mem hb;exact absurd (AG (Aq ho) (A3 I.sz h)) (Dd _)
theorem Inv.cne(I:Inv X pins σ H s):∀x c,X.env.cells.lookup x=some c->c≠X.env.locals:=λx c e z=>by obtain⟨v,o,ho,hd⟩:=I.cell x c e;obtain⟨m,⟨o',es,ep,ho',hd',_⟩,_⟩:=I.loc;rw[z,ho']at ho;cases ho;rw[hd']at hd;cases hd
theorem Inv.funs(I:Inv X pins σ H s):s.heap.FunFrames X.base X.outer:=by
 have all:∀(l:List Env),(∀b∈frs l,b∈X.fs)->X.s₀.heap.FunFrames X.base l->s.heap.FunFrames X.base l:=by
  intro l
  induction l with
  |nil=>intro _ _;trivial
  |cons env r ih =>
   intro hs hl;obtain⟨hk,⟨L,o,hf,hn,ho,hd⟩,hr⟩:=hl;have hL:L∈X.fs:=hs L (by unfold frs;rw[List.filterMap_cons,hf];exact Ap);obtain⟨sl,e⟩:=I.base.slot L o ho (I.ok.frf L hL) hL λz=>I.ok.exfs L z hL
   exact⟨hk,⟨L,_,hf,hn,e,hd⟩,ih (λb hb=>hs b (by unfold frs;rw[List.filterMap_cons,hf];exact As _ hb)) hr⟩
 exact all X.outer (λ_ hb=>hb) I.ok.funs
theorem Inv.stack(I:Inv X pins σ H s):s.heap.FunFrames X.base X.stack:=by
 rcases I.ok.stk with e |⟨e,hf⟩
 .rw[e];exact I.funs
 .rw[e];obtain⟨m,hn,_⟩:=I.loc;refine .cons (by rw[I.ok.kind];decide) hf hn ?_ I.funs;exact Heap.get?_none_of_le (A3 I.ok.bsz I.ok.above)
theorem Inv.stkSub(I:Inv X pins σ H s):∀b∈frs X.stack,b∈X.env.locals::X.fs:=λb hb=>by
 rcases I.ok.stk with e |⟨e,hf⟩
 .rw[e]at hb;exact As _ hb
 .rw[e]at hb;unfold frs at hb;rw[List.filterMap_cons,hf]at hb;exact hb
theorem Inv.stkFree(I:Inv X pins σ H s):∀b∈frs X.stack,H b=none:=λb hb=>by
 rcases Ax.mp (I.stkSub b hb) with e |hb
 .rw[e];exact I.free
 .obtain⟨_,o,ho,_⟩:=I.ok.funs.mem hb;exact I.base.free b o ho (I.ok.frf b hb) λz=>I.ok.exfs b z hb
theorem Inv.step{g':Array GenState}{t':Nat}{d':Drawn}{ch:List Addr}(I:Inv X pins σ H s)
  (hch:∀b∈ch,(b∈X.ex∨X.s₀.heap.objs.size<=b)/\b≠X.env.locals/\(∀x c,X.env.cells.lookup x=some c->c≠b)/\∀p∈X.pn++pins,p.1≠b)
  (keep:∀b o,b≠X.env.locals->b ∉ X.fs->b ∉ ch->s.heap.get? b=some o->H b=none->h'.get? b=some o)
  (slot:∀b o,b≠X.env.locals->b∈X.fs->b ∉ ch->s.heap.get? b=some o->H b=none->∃sl,h'.get? b=some { o with slots:=sl }) (free:∀b o,b ∉ ch->s.heap.get? b=some o->H b=none->H' b=none)
  (there:∀b o,b ∉ ch->s.heap.get? b=some o->∃o',h'.get? b=some o')
  (tups:∀b xs,H b=some (.tup xs)->H' b=some (.tup xs)) (frzs:∀b o u,H b=some (.frz o u)->H' b=some (.frz o u)) (tbls:∀b ps,H b=some (.tbl ps)->∃more,H' b=some (.tbl (ps++more)))
  (ns:∀m,s.heap.Ns X.env.locals m->h'.Ns X.env.locals m) (hok:HOk X.prog X.w H' h') (hg:AllBare g') :
  Inv X pins σ H' { s with heap:=h',gens:=g',drawn:=d',toks:=t' }:=by
 have neL:∀b o,X.s₀.heap.get? b=some o->b≠X.env.locals:=λb o e=>AK (AG (Aq e) I.ok.above)
 have neC:∀b o,X.s₀.heap.get? b=some o->b ∉ X.ex->b ∉ ch:=λb o e hx hb=>by
  rcases (hch b hb).1 with z |z
  .exact hx z
  .exact absurd (AG (Aq e) z) (Dd _)
 have cellK:∀x c,X.env.cells.lookup x=some c->∀v,s.heap.IsCell c v->h'.IsCell c v:=λx c e v ⟨o,ho,hd⟩=>by
  have nch:c ∉ ch:=λz=>(hch c z).2.2.1 x c e rfl
  by_cases hc:c∈X.fs
  .obtain⟨sl,q⟩:=slot c o (I.cne x c e) hc nch ho (I.freeC x c e);exact⟨_,q,hd⟩
  .exact⟨o,keep c o (I.cne x c e) hc nch ho (I.freeC x c e),hd⟩
 refine⟨I.ok,I.os,hg,⟨λb o e n hb hx=>?_,λb o e n hb hx=>?_,λb o e n hx=>?_,λb o e hx=>?_,λb xs e=>tups b xs (I.base.tups b xs e),λb o xs e=>frzs b o xs (I.base.frzs b o xs e),λb ps e=>?_⟩,?_,λx c e=>?_,?_,λx c e=>?_,λp hp=>?_,hok,I.len⟩
 .exact keep b o (neL b o e) hb (neC b o e hx) (I.base.keep b o e n hb hx) (I.base.free b o e n hx)
 .obtain⟨sl,e1⟩:=I.base.slot b o e n hb hx;obtain⟨sl',e2⟩:=slot b _ (neL b o e) hb (neC b o e hx) e1 (I.base.free b o e n hx);exact⟨sl',e2⟩
 .obtain⟨o',e1⟩:=I.base.there b o e hx;exact free b o' (neC b o e hx) e1 (I.base.free b o e n hx)
 .obtain⟨o',e1⟩:=I.base.there b o e hx;exact there b o' (neC b o e hx) e1
 .obtain⟨m1,e1⟩:=I.base.tbls b ps e;obtain⟨m2,e2⟩:=tbls b _ e1;exact⟨m1++m2,by rw[e2,Array.append_assoc]⟩
 .obtain⟨m,hn,hl⟩:=I.loc;refine⟨m,ns m hn,λi x v e1 e2 e3=>?_⟩;obtain⟨u,r,l⟩:=hl i x v e1 e2 e3;refine⟨u,r,?_⟩;rcases l with l |⟨k,c,e,z⟩
  .exact .inl l
  .exact .inr ⟨k,c,e,cellK x c e _ z⟩
 .obtain⟨v,z⟩:=I.cell x c e;exact⟨v,cellK x c e v z⟩
 .obtain⟨m,⟨o,_,_,ho,_⟩,_⟩:=I.loc;exact free _ o (λz=>(hch _ z).2.1 rfl) ho I.free
 .obtain⟨v,o,ho,hd⟩:=I.cell x c e;exact free c o (λz=>(hch c z).2.2.1 x c e rfl) ho (I.freeC x c e)
 .obtain⟨e,n,ne,nf,d⟩:=I.pin p hp;have nch:p.1 ∉ ch:=λz=>(hch p.1 z).2.2.2 p hp rfl
  exact⟨keep p.1 p.2 ne nf nch e n,free p.1 p.2 nch e n,ne,nf,d⟩
theorem Inv.un{t':Nat}(I:Inv X pins σ H s)(u:Un X.fs [] H H' s.heap h')(hok:HOk X.prog X.w H' h'):Inv X pins σ H' { s with heap:=h',toks:=t' }:=by
 obtain⟨m,⟨o,es,ep,ho,r⟩,_⟩:=id I.loc;obtain⟨sl,hL⟩:=u.any ho I.free (by simp)
 exact I.step (g':=s.gens) (d':=s.drawn) (ch:=[]) (λ_ z=>nomatch z) (λb o _ hb _ e n=>u.keep b o e n hb (by simp)) (λb o _ hb _ e n=>u.slot b o e n hb (by simp)) (λb o _ e n=>u.free b o e n (by simp)) (λb o _ e=>u.there b o e (by simp)) u.tups u.frzs u.tbls (λm' hm=>by obtain⟨o',es',ep',ho',r'⟩:=hm;rw[ho]at ho';cases ho';exact⟨_,es',ep',hL,r'⟩) hok I.bare
theorem Inv.call{g':Array GenState}{t':Nat}{d':Drawn}{ch:List Addr}(I:Inv X pins σ H s)(u:Un (frs X.stack) ch H H' s.heap h')(hok:HOk X.prog X.w H' h')(hg:AllBare g')
  (hch:∀b∈ch,(b∈X.ex∨X.s₀.heap.objs.size<=b)/\b≠X.env.locals/\(∀x c,X.env.cells.lookup x=some c->c≠b)/\∀p∈X.pn++pins,p.1≠b) :
  Inv X pins σ H' { s with heap:=h',gens:=g',drawn:=d',toks:=t' }:=by
 obtain⟨m,⟨o,es,ep,ho,r⟩,_⟩:=id I.loc;obtain⟨sl,hL⟩:=u.any ho I.free λz=>(hch _ z).2.1 rfl
 exact I.step (ch:=ch) hch (λb o hL hb hc e n=>u.keep b o e n (λz=>(Ax.mp (I.stkSub b z)).elim hL hb) hc) (λb o _ _ hc e n=>u.any e n hc) (λb o hc e n=>u.free b o e n hc) (λb o hc e=>u.there b o e hc) u.tups u.frzs u.tbls (λm' hm=>by obtain⟨o',es',ep',ho',r'⟩:=hm;rw[ho]at ho';cases ho';exact⟨_,es',ep',hL,r'⟩) hok hg
theorem Inv.turned{t':Nat}{it:Addr}(I:Inv X pins σ H s)(k:∀b o, b ≠ it -> s.heap.get? b=some o -> h'.get? b=some o)(hn:H it=none)(hL:it ≠ X.env.locals)
  (h1:it∈X.ex∨X.s₀.heap.objs.size<=it) (h2:∀x c,X.env.cells.lookup x=some c->c≠it) (h3:∀p∈X.pn++pins,p.1≠it):Inv X pins σ H { s with heap:=h',toks:=t' }:=by
 have nit:∀b u,H b=some u->b≠it:=λb u e z=>by rw[z,hn]at e;cases e
 refine I.step (g':=s.gens) (d':=s.drawn) (ch:=[it]) (λb hb=>?_) (λb o _ _ hc e _=>k b o (λz=>hc (by simp[z])) e) (λb o _ _ hc e _=>⟨o.slots,k b o (λz=>hc (by simp[z])) e⟩) (λ_ _ _ _ n=>n)
  (λb o hc e=>⟨o,k b o (λz=>hc (by simp[z])) e⟩) (λ_ _ e=>e) (λ_ _ _ e=>e) (λb ps e=>⟨#[],by rw[e];simp⟩) (λm hm=>?_) (λb u e=>?_) I.bare
 .have e:b=it:=by simpa using hb
  subst e;exact⟨h1,hL,h2,h3⟩
 .obtain⟨o,es,ep,ho,r⟩:=hm;exact⟨o,es,ep,k _ o (Cj hL) ho,r⟩
 .refine (I.hok b u e).stay (λc v hc q=>k c v ?_ q) (λ_ q=>q) λ_ _ q=>q
  rcases hc with z |z
  .rw[z];exact nit b u e
  .exact nit c _ z
theorem Inv.tok(I:Inv X pins σ H s)(t:Nat):Inv X pins σ H { s with toks:=t }:=I.un (h':=s.heap) (t':=t) Un.refl I.hok
theorem Inv.kept{t':Nat}(I:Inv X pins σ H s)(k:∀b u,s.heap.get? b=some u->h'.get? b=some u):Inv X pins σ H { s with heap:=h',toks:=t' }:=I.un (Un.kept k) (I.hok.kept k)
theorem Inv.laid{a:Addr}{o:HO}{t':Nat}(I:Inv X pins σ H s)(k:∀b u, s.heap.get? b=some u -> h'.get? b=some u)(hp:s.heap.objs.size <= a)(new:ObjOk X.prog X.w (upd H a o) h' a o) :
  Inv X pins σ (upd H a o) { s with heap:=h',toks:=t' }:=I.un (Un.laid k hp (I.hok.fresh hp)) (I.hok.laid k hp new)
theorem Inv.write{x e:Addr}{o:HO}{t':Nat}(I:Inv X pins σ H s)(mu:Mut (H x))(he:e=x ∨ H e=some (.own x))(k:∀b u, b ≠ e -> s.heap.get? b=some u -> h'.get? b=some u)(heo:∃u, h'.get? e=some u)
  (new:ObjOk X.prog X.w (upd H x o) h' x o):Inv X pins σ (upd H x o) { s with heap:=h',toks:=t' }:=I.un (Un.write mu he k heo) (I.hok.write mu he k heo new)
theorem Inv.pins_of{pins':List (Addr×Obj)}(I:Inv X pins σ H s)(h:∀p∈pins',s.heap.get? p.1=some p.2/\H p.1=none/\p.1≠X.env.locals/\p.1 ∉ X.fs/\∀v,p.2.data≠.cell v):Inv X pins' σ H s :=
 ⟨I.ok,I.os,I.bare,I.base,I.loc,I.cell,I.free,I.freeC,λp hp=>(AC.mp hp).elim (λz=>I.pin p (BF _ z)) (h p),I.hok,I.len⟩
theorem zij{N:List Str}(hN:N.Nodup){i j:Nat}{x:Str}(a:N[i]?=some x)(b:N[j]?=some x):i=j:=by obtain⟨h1,e1⟩:=Ad.mp a;obtain⟨h2,e2⟩:=Ad.mp b;exact (List.getElem_inj hN).mp (e1.trans e2.symm)
theorem zeb{M:Model}{A:AY}{E:Ac -> Ae -> Prop}{i:Nat}{x:Str}{v:V}{u:Ac}{Q:Unit -> Ae -> Prop}(I:Inv X pins σ H s)(hN:X.N.Nodup)(hi:X.N[i]? = some x)(hx:Loc X.env.scope x)(r:RelV v u)
  (h:∀s',Inv X pins (σ.set i (some v)) H s'->(∃a,BR a s.heap s'.heap/\(a=X.env.locals∨X.env.cells.lookup x=some a))->Q () s') (hf:X.fn x=true∨X.env.scope.names.lookup x=some .local:=by first |exact .inl rfl |exact .inr rfl |assumption):Ak M A (storeName X.env x u) Q E s:=by
 obtain⟨m,hn,hl⟩:=id I.loc;have hcls:(X.env.scope.kind == .class || (X.env.scope.kind == .module && X.env.locals != X.env.globals))=false:=by rw[I.ok.kind];rfl
 have hiσ:i<σ.length:=by rw[I.len];exact (Ad.mp hi).1
 have cne:=I.cne
 have tracked:∀{a:Addr} {h':Heap},(∃o,s.heap.get? a=some o/\H a=none)->BR a s.heap h'->HOk X.prog X.w H h':=λ{a h'} ha hs b ob e=>by
  obtain⟨_,_,hfree⟩:=ha;refine (I.hok b ob e).stay (λc w' hc q=>(hs.2 c ?_).trans q) (λ_ q=>q) λ_ _ q=>q
  rintro rfl;rcases hc with rfl |hc
  .rw[hfree]at e;cases e
  .rw[hfree]at hc;cases hc
 rcases hx with hk |hk
 .refine wpAny_storeName_local hk hn (λh' hn' hs=>?_) hcls;obtain⟨oL,_,_,hoL,_⟩:=id hn;refine h _ ⟨I.ok,I.os,I.bare,⟨λb o e n hb hx=>?_,λb o e n hb hx=>?_,I.base.free,λb o e hx=>?_,I.base.tups,I.base.frzs,I.base.tbls⟩,⟨_,hn',λj y v' e1 e2 e3=>?_⟩,λy c e=>?_,I.free,I.freeC,λp hp=>?_,tracked ⟨oL,hoL,I.free⟩ hs,by simpa using I.len⟩ ⟨_,hs,.inl rfl⟩
  .exact (hs.2 b (AK (AG (Aq e) I.ok.above))).trans (I.base.keep b o e n hb hx)
  .obtain⟨sl,e1⟩:=I.base.slot b o e n hb hx;exact⟨sl,(hs.2 b (AK (AG (Aq e) I.ok.above))).trans e1⟩
  .obtain⟨o',e1⟩:=I.base.there b o e hx;exact⟨o',(hs.2 b (AK (AG (Aq e) I.ok.above))).trans e1⟩
  .by_cases hj:j=i
   .subst hj;rw[hi]at e1;cases e1;rw[List.getElem?_set_self hiσ]at e2
    cases e2
    exact⟨u,r,.inl ⟨hk,by simp⟩⟩
   .rw[List.getElem?_set_ne (Cj hj)]at e2;obtain⟨u',r',q⟩:=hl j y v' e1 e2 e3;refine⟨u',r',?_⟩;rcases q with⟨k,e⟩ |⟨k,c,e,z⟩
    .refine .inl ⟨k,?_⟩;have:y≠x:=λe=>hj (zij hN e1 (e ▸ hi))
     simp[this,e]
    .exact .inr ⟨k,c,e,z.sameBut hs (cne y c e)⟩
  .obtain⟨w',z⟩:=I.cell y c e;exact⟨w',z.sameBut hs (cne y c e)⟩
  .obtain⟨e,n,ne,nf,d⟩:=I.pin p hp;exact⟨(hs.2 p.1 ne).trans e,n,ne,nf,d⟩
 .have hfn:X.fn x=true := by
   rcases hf with z |z
   .exact z
   .rw[z]at hk;cases hk
  obtain⟨c,hc⟩:=I.ok.has x (.inl hk);obtain⟨w',z⟩:=I.cell x c hc;refine wpAny_storeName_cell I.ok.kind hk hc z (λh' hc' hs=>?_);obtain⟨oc,hoc,hocd⟩:=id z;refine h { s with heap:=h' } ⟨I.ok,I.os,I.bare,⟨λb o e n hb hx=>?_,λb o e n hb hx=>?_,I.base.free,λb o e hx=>?_,I.base.tups,I.base.frzs,I.base.tbls⟩,⟨m,hn.sameBut hs (Cj (cne x c hc)),λj y v' e1 e2 e3=>?_⟩,λy c' e=>?_,I.free,I.freeC,λp hp=>?_,tracked ⟨oc,hoc,I.freeC x c hc⟩ hs,by simpa using I.len⟩ ⟨c,hs,.inr hc⟩
  .exact (hs.2 b (AK (AG (Aq e) (I.ok.cab x c hfn hc)))).trans (I.base.keep b o e n hb hx)
  .obtain⟨sl,e1⟩:=I.base.slot b o e n hb hx;exact⟨sl,(hs.2 b (AK (AG (Aq e) (I.ok.cab x c hfn hc)))).trans e1⟩
  .obtain⟨o',e1⟩:=I.base.there b o e hx;exact⟨o',(hs.2 b (AK (AG (Aq e) (I.ok.cab x c hfn hc)))).trans e1⟩
  .by_cases hj:j=i
   .subst hj;rw[hi]at e1;cases e1;rw[List.getElem?_set_self hiσ]at e2
    cases e2
    exact⟨u,r,.inr ⟨.inl hk,c,hc,hc'⟩⟩
   .rw[List.getElem?_set_ne (Cj hj)]at e2;obtain⟨u',r',q⟩:=hl j y v' e1 e2 e3;refine⟨u',r',?_⟩;rcases q with q |⟨k,c',e,z'⟩
    .exact .inl q
    .refine .inr ⟨k,c',e,z'.sameBut hs ?_⟩;rintro rfl;exact hj (zij hN e1 (I.ok.inj _ _ _ e hc ▸ hi))
  .by_cases hcc:c'=c
   .subst hcc;exact⟨_,hc'⟩
   .obtain⟨w2,z2⟩:=I.cell y c' e;exact⟨w2,z2.sameBut hs hcc⟩
  .obtain⟨e,n,ne,nf,d⟩:=I.pin p hp;refine⟨(hs.2 p.1 ?_).trans e,n,ne,nf,d⟩;intro q;rw[q,hoc]at e;have q':oc=p.2:=A9 e;exact d w' (by rw[<- q'];exact hocd)
theorem zc9{M:Model}{A:AY}{E:Ac -> Ae -> Prop}{i:Nat}{x:Str}{v:V}{u:Ac}{Q:Unit -> Ae -> Prop}(I:Inv X pins σ H s)(hN:X.N.Nodup)(hi:X.N[i]? = some x)(hx:Loc X.env.scope x)(r:RelV v u)
  (h:∀s',Inv X pins (σ.set i (some v)) H s'->Q () s') (hf:X.fn x=true∨X.env.scope.names.lookup x=some .local:=by first |exact .inl rfl |exact .inr rfl |assumption):Ak M A (storeName X.env x u) Q E s :=
 zeb I hN hi hx r (λs' I' _=>h s' I') hf
theorem Inv.call'{s':Ae}{ch:List Addr}(I:Inv X pins σ H s)(ho:s'.os=s.os)(u:Un (frs X.stack) ch H H' s.heap s'.heap)(hok:HOk X.prog X.w H' s'.heap)(hg:AllBare s'.gens)
  (hch:∀b∈ch,(b∈X.ex∨X.s₀.heap.objs.size<=b)/\b≠X.env.locals/\(∀x c,X.env.cells.lookup x=some c->c≠b)/\∀p∈X.pn++pins,p.1≠b):Inv X pins σ H' s':=by
 obtain⟨h',g',d',t',o'⟩:=s';have e:o'=s.os:=ho;subst e;exact I.call (g':=g') (t':=t') (d':=d') u hok hg hch
end
noncomputable abbrev XK:=Ac->Option Addr->Hp->Prop
noncomputable abbrev St:=List (Option V)
noncomputable abbrev VK:=V->Hp->Prop
noncomputable abbrev TE:=St->Hp->VK->Prop
noncomputable abbrev TT:=St->Hp->(Bool->Hp->Prop)->Prop
noncomputable abbrev TA:=St->Hp->(List V->Hp->Prop)->Prop
structure Ends where
 nx:St->Hp->Prop
 rt:VK
 bk:St->Hp->Prop:=λ_ _=>False
 ct:St->Hp->Prop:=λ_ _=>False
noncomputable abbrev TS:=Ends->St->Hp->Prop
noncomputable def EP(X:Cx)(pins:List (Addr×Obj))(σ:St)(Q:VK)(u:Ac)(s':Ae):Prop:=∃v H',Inv X pins σ H' s'/\RelV v u/\Q v H'
noncomputable def TP(X:Cx)(pins:List (Addr×Obj))(σ:St)(Q:Bool->Hp->Prop)(b:Bool)(s':Ae):Prop:=∃H',Inv X pins σ H' s'/\Q b H'
noncomputable def AP(X:Cx)(pins:List (Addr×Obj))(σ:St)(Q:List V->Hp->Prop)(us:List Ac)(s':Ae):Prop:=∃vs H',Inv X pins σ H' s'/\Vals vs us/\Q vs H'
noncomputable def SP(X:Cx)(pins:List (Addr×Obj))(D:Ends)(f:Flow)(s':Ae):Prop :=
 match f with
 |.next=>∃ σ' H',Inv X pins σ' H' s'/\D.nx σ' H'
 |.brk=>∃ σ' H',Inv X pins σ' H' s'/\D.bk σ' H'
 |.cont=>∃ σ' H',Inv X pins σ' H' s'/\D.ct σ' H'
 |.ret u=>∃v σ' H',Inv X pins σ' H' s'/\RelV v u/\D.rt v H'
noncomputable def PE(X:Cx)(e:Expr)(t:TE):Prop :=
 ∀(pins:List (Addr×Obj)) (s:Ae) (σ:St) (H:Hp) (Q:VK),Inv X pins σ H s->t σ H Q->Ak (An X.prog X.w) X.A (eval e X.env) (EP X pins σ Q) X.xe s
noncomputable def PT(X:Cx)(e:Expr)(t:TT):Prop :=
 ∀(pins:List (Addr×Obj)) (s:Ae) (σ:St) (H:Hp) (Q:Bool->Hp->Prop),Inv X pins σ H s->t σ H Q->Ak (An X.prog X.w) X.A (isTrue e X.env (eval e X.env)) (TP X pins σ Q) X.xe s
noncomputable def PW(X:Cx)(e:Expr)(t:TT):Prop :=
 ∀(whole:Sem Ac) (pins:List (Addr×Obj)) (s:Ae) (σ:St) (H:Hp) (Q:Bool->Hp->Prop),Inv X pins σ H s->t σ H Q->Ak (An X.prog X.w) X.A (isTrue e X.env whole) (TP X pins σ Q) X.xe s
theorem PW.pt{X:Cx}{e:Expr}{t:TT}(h:PW X e t):PT X e t:=h _
noncomputable def PA(X:Cx)(es:List Expr)(t:TA):Prop :=
 ∀(pos:Pos) (pins:List (Addr×Obj)) (s:Ae) (σ:St) (H:Hp) (Q:List V->Hp->Prop),Inv X pins σ H s->t σ H Q->Ak (An X.prog X.w) X.A (spliced (EO pos (Bh es X.env))) (AP X pins σ Q) X.xe s
noncomputable def PS(X:Cx)(st:Stmt)(t:TS):Prop :=
 ∀(pins:List (Addr×Obj)) (s:Ae) (σ:St) (H:Hp) (D:Ends),Inv X pins σ H s->t D σ H->Ak (An X.prog X.w) X.A (exec st X.env) (SP X pins D) X.xe s
noncomputable def PSs(X:Cx)(st:List Stmt)(t:TS):Prop :=
 ∀(pins:List (Addr×Obj)) (s:Ae) (σ:St) (H:Hp) (D:Ends),Inv X pins σ H s->t D σ H->Ak (An X.prog X.w) X.A (execs st X.env) (SP X pins D) X.xe s
theorem thn{α:Type}{t:Sem α}{Q Q':α->Ae->Prop}{M:Model}{A:AY}{E:Ac->Ae->Prop}{s:Ae}(h:Ak M A t Q E s)(hQ:∀a s,Q a s->Q' a s):Ak M A t Q' E s:=B3 h hQ λ_ _ x=>x
section
variable {X:Cx}
noncomputable def tVar(i:Nat):TE:=λσ H Q=>∃v,σ[i]?=some (some v)/\Q v H
noncomputable def tC(v:V):TE:=λ_ H Q=>Q v H
theorem zn1 {i:Nat}{x:Str}{pos:Pos}(hN:X.N[i]?=some x) (hv:Vis X.env.scope x) (hd:(x == ("__debug__" : Str))=false:=by decide) (hcd:(x == ("__classdict__" : Str))=false:=by decide):PE X (.Name x pos) (tVar i):=by
 intro pins s σ H Q I h;obtain⟨v,e,h⟩:=h;obtain⟨m,hn,hl⟩:=I.loc;obtain⟨u,r,l⟩:=hl i x v hN e hv;have fin:EP X pins σ Q u s:=⟨v,H,I,r,h⟩;rcases l with⟨hk,hm⟩ |⟨hk,c,hc,hcell⟩
 .exact wpAny_Name (wpAny_loadName_local I.ok.kind hk hn hm fin) hd
 .rcases hk with hk |hk
  .exact wpAny_Name (wpAny_loadName_cell I.ok.kind hk hc hcell fin) hd
  .exact wpAny_Name (wpAny_loadName_free I.ok.kind hk hc hcell fin hcd) hd
theorem zah{i j pos}:PE X (.Constant (.int i) j pos) (tC (.int i)):=λ_ _ _ H _ I h=>wpAny_Constant_int ⟨.int i,H,I.tok _,⟨_,rfl⟩,h⟩
theorem pe_bl{b j pos}:PE X (.Constant (.bool b) j pos) (tC (.bl b)):=λ_ _ _ H _ I h=>Constant_bool ⟨.bl b,H,I,rfl,h⟩
theorem zb0{j pos}:PE X (.Constant .none j pos) (tC .non):=λ_ _ _ H _ I h=>Constant_none ⟨.non,H,I,rfl,h⟩
theorem zie{x j pos}:PE X (.Constant (.str x) j pos) (tC (.str x)):=λ_ _ _ H _ I h=>Calls.Constant_str ⟨.str x,H,I.tok _,⟨_,rfl⟩,h⟩
noncomputable def Gl(X:Cx)(x:Str):Prop:=X.env.kindOf x=some .globalImplicit
theorem zkx{E:Ac -> Ae -> Prop}{pins:List (Addr × Obj)}{s:Ae}{σ : St}{H:Hp}{x:Str}{u:Ac}{pos:Pos}{Q:Ac -> Ae -> Prop}(I:Inv X pins σ H s)(hg:Gl X x)(hm:X.mg x=some u)(h:Q u s)
  (hd:(x == ("__debug__" : Str))=false:=by decide):Ak (An X.prog X.w) X.A (eval (.Name x pos) X.env) Q E s :=
 Calls.Name_function_global I.ok.kind hg (Calls.loadGlobal_global (by rw[I.ok.glob];exact I.mod.glob.keeps I.bk) hm h) hd
theorem zck{E:Ac -> Ae -> Prop}{pins:List (Addr × Obj)}{s:Ae}{σ : St}{H:Hp}{x:Str}{u:Ac}{pos:Pos}{Q:Ac -> Ae -> Prop}(I:Inv X pins σ H s)(hg:Gl X x)(hm:X.mg x=none)(hv:bootBuiltins x=some u)(h:Q u s)
  (hn:x ≠ "__name__":=by decide) (hd:(x == ("__debug__" : Str))=false:=by decide):Ak (An X.prog X.w) X.A (eval (.Name x pos) X.env) Q E s:=by
 obtain⟨mb,h1,h2⟩:=I.mod.blt;exact Calls.Name_function_global I.ok.kind hg (Calls.loadGlobal_builtin (by rw[I.ok.glob];exact I.mod.glob.keeps I.bk) hm (by rw[I.ok.blt];exact h1.keeps I.bk) ((h2 x hn).trans hv) h) hd
theorem zdy {x:Str}{v:V}{u:Ac}{pos:Pos}(hg:Gl X x) (hm:X.mg x=some u) (r:RelV v u) (hd:(x == ("__debug__" : Str))=false:=by decide):PE X (.Name x pos) (tC v) :=
 λ_ _ _ H _ I h=>zkx I hg hm ⟨v,H,I,r,h⟩ hd
theorem zcY {x:Str}{v:V}{u:Ac}{pos:Pos}(hg:Gl X x) (hm:X.mg x=none) (hv:bootBuiltins x=some u) (r:RelV v u) (hn:x ≠ "__name__":=by decide) (hd:(x == ("__debug__" : Str))=false:=by decide):PE X (.Name x pos) (tC v) :=
 λ_ _ _ H _ I h=>zck I hg hm hv ⟨v,H,I,r,h⟩ hn hd
variable {a b:Expr}{ta tb:TE}{pos:Pos}
noncomputable def PC(X:Cx)(op:CmpOp)(a b:Expr)(t:TE):Prop :=
 ∀(pins:List (Addr×Obj)) (s:Ae) (σ:St) (H:Hp) (Q:VK),Inv X pins σ H s->t σ H Q ->
  Ak (An X.prog X.w) X.A (eval a X.env) (λv s₁=>Ak (An X.prog X.w) X.A (eval b X.env) (λu s₂=>Ak (An X.prog X.w) X.A (Bw op v u) (EP X pins σ Q) X.xe s₂) X.xe s₁) X.xe s
noncomputable def tB(t:TE):TT:=λσ H Q=>t σ H λx H1=>∃c,x=.bl c/\Q c H1
theorem zke{op:CmpOp}{t:TE}(h:PC X op a b t)(h1:Ew op b=false:=by first |exact nobehind _ (by decide) (by decide) |rfl):PE X (.Compare a [op] [b] pos) t:=λpins s σ H Q I hw=>wpAny_Compare1 (h pins s σ H Q I hw) h1
theorem zj5{op:CmpOp}{t:TE}(h:PC X op a b t)(h1:Ew op b=false:=by first |exact nobehind _ (by decide) (by decide) |rfl):PT X (.Compare a [op] [b] pos) (tB t):=by
 intro pins s σ H Q I hw;refine wpAny_isTrue_Compare1 (thn (h pins s σ H _ I hw) λv s1 h1=>thn h1 λu s2 h2=>thn h2 λc s3 ⟨x,H1,I1,r1,q1⟩=>?_) h1;obtain⟨d,rfl,q⟩:=q1
 cases r1
 exact Co ⟨H1,I1,q⟩
theorem zci{e:Expr}{t:TE}(h:PE X e t)(he:∀whole,isTrue e X.env whole=(do let v <- whole;standAt e.pos;holding [v] (truthy v)):=by intro _;rfl):PT X e (tB t):=by
 intro pins s σ H Q I hw;refine isTrue_plain (thn (h pins s σ H _ I hw) λv s1 ⟨x,H1,I1,r1,q1⟩=>?_) (he _);obtain⟨d,rfl,q⟩:=q1
 cases r1
 exact Co ⟨H1,I1,q⟩
variable {tA tB':TT}{rest:List Expr}
noncomputable def tAnd(t u:TT):TT:=λσ H Q=>t σ H λc H1=>if c=true then u σ H1 Q else Q false H1
noncomputable def tOr(t u:TT):TT:=λσ H Q=>t σ H λc H1=>if c=true then Q true H1 else u σ H1 Q
noncomputable def tNot(t:TT):TT:=λσ H Q=>t σ H λc H1=>Q (!c) H1
theorem zmW(ha:PT X a tA):PW X (.BoolOp .And [a] pos) tA:=by
 intro wh pins s σ H Q I h;refine isTrue_and (thn (ha pins s σ H Q I h) λc s1 e=>?_)
 cases c with
 |true=>exact isTrue_and_nil e
 |false=>exact e
theorem zem(ha:PT X a tA):PW X (.BoolOp .Or [a] pos) tA:=by
 intro wh pins s σ H Q I h;refine isTrue_or (thn (ha pins s σ H Q I h) λc s1 e=>?_)
 cases c with
 |false=>exact isTrue_or_nil e
 |true=>exact e
theorem znY(ha:PT X a tA)(hb:PW X (.BoolOp .And (b::rest) pos) tB'):PW X (.BoolOp .And (a::b::rest) pos) (tAnd tA tB'):=by
 intro wh pins s σ H Q I h;refine isTrue_and (thn (ha pins s σ H _ I h) λc s1 ⟨H1,I1,q1⟩=>?_)
 cases c with
 |true=>exact hb wh pins s1 σ H1 Q I1 q1
 |false=>exact⟨H1,I1,q1⟩
theorem pw_or(ha:PT X a tA)(hb:PW X (.BoolOp .Or (b::rest) pos) tB'):PW X (.BoolOp .Or (a::b::rest) pos) (tOr tA tB'):=by
 intro wh pins s σ H Q I h;refine isTrue_or (thn (ha pins s σ H _ I h) λc s1 ⟨H1,I1,q1⟩=>?_)
 cases c with
 |true=>exact⟨H1,I1,q1⟩
 |false=>exact hb wh pins s1 σ H1 Q I1 q1
theorem zcN(ha:PT X a tA):PT X (.UnaryOp .Not a pos) (tNot tA):=by intro pins s σ H Q I h;exact isTrue_not (ha pins s σ H (λc H1=>Q (!c) H1) I h)
noncomputable def tAndV(ta tb:TE):TE:=λσ H Q=>ta σ H λx H1=>∃c,x=.bl c/\if c=true then tb σ H1 Q else Q (.bl false) H1
noncomputable def tNotV(ta:TE):TE:=λσ H Q=>ta σ H λx H1=>∃c,x=.bl c/\Q (.bl (!c)) H1
theorem zdg{op}{t:TE}(h:PE X a t):PE X (.BoolOp op [a] pos) t:=λpins s σ H Q I hw=>BoolOp_one (h pins s σ H Q I hw)
theorem zcj(ha:PE X a ta)(hb:PE X (.BoolOp .And (b::rest) pos) tb):PE X (.BoolOp .And (a::b::rest) pos) (tAndV ta tb):=by
 intro pins s σ H Q I h;refine BoolOp_and (thn (ha pins s σ H _ I h) λv s1 ⟨x,H1,I1,r1,q1⟩=>?_);obtain⟨c,rfl,q1⟩:=q1
 cases r1
 refine Co ?_
 cases c with
 |true=>exact hb pins s1 σ H1 Q I1 q1
 |false=>exact⟨.bl false,H1,I1,rfl,q1⟩
theorem zn3(ha:PE X a ta):PE X (.UnaryOp .Not a pos) (tNotV ta):=by
 intro pins s σ H Q I h;refine UnaryOp_ (thn (ha pins s σ H _ I h) λv s1 ⟨x,H1,I1,r1,q1⟩=>?_);obtain⟨c,rfl,q1⟩:=q1
 cases r1
 exact not_of (Co ⟨.bl (!c),H1,I1,rfl,q1⟩)
noncomputable def tIf(t:TT)(ta tb:TE):TE:=λσ H Q=>t σ H λc H1=>if c=true then ta σ H1 Q else tb σ H1 Q
theorem zfH{c:Expr}(hc:PT X c tA)(ha:PE X a ta)(hb:PE X b tb):PE X (.IfExp c a b pos) (tIf tA ta tb):=by
 intro pins s σ H Q I h;refine wpAny_IfExp (thn (hc pins s σ H _ I h) λd s1 ⟨H1,I1,q1⟩=>?_)
 cases d with
 |true=>exact ha pins s1 σ H1 Q I1 q1
 |false=>exact hb pins s1 σ H1 Q I1 q1
end
noncomputable def SqL(K:W.Frag)(H:Hp)(a:Addr)(xs:List V):Prop :=
 Rd H a (.lst xs) ∨
  ∃(o:Obj) (its:Array Ac) (n:Nat),K.lookup a=some o/\o.cls=.type "list" /\ o.dict=none/\o.data=.seq its n/\its.size<=sizeLine/\Vals xs its.toList
noncomputable def SqT(K:W.Frag)(H:Hp)(a:Addr)(xs:List V):Prop :=
 Rd H a (.tup xs) ∨
  ∃(o:Obj) (its:Array Ac) (n:Nat),K.lookup a=some o/\o.cls=.type "tuple" /\ o.data=.seq its n/\its.size<=sizeLine/\Vals xs its.toList
noncomputable def absV:Ac->Option V
 |.none=>some .non
 |.bool b=>some (.bl b)
 |.int i _=>some (.int i)
 |.str x _=>some (.str x)
 |.bytes b _=>some (.byt b)
 |.float b _=>some (.flt b)
 |.ref a=>some (.ref a)
 |.type n=>some (.ty n)
 |_=>none
theorem RelV.abs{x:V}{u:Ac}(r:RelV x u):absV u=some x:=by
 cases x with
 |non=>cases r;rfl
 |bl _=>cases r;rfl
 |int _=>obtain⟨t,rfl⟩:=r;rfl
 |str _=>obtain⟨t,rfl⟩:=r;rfl
 |byt _=>obtain⟨t,rfl⟩:=r;rfl
 |flt _=>obtain⟨t,rfl⟩:=r;rfl
 |ref _=>cases r;rfl
 |ty _=>cases r;rfl
theorem RelV.inj{x y:V}{u:Ac}(r:RelV x u)(q:RelV y u):x=y:=A9 (r.abs.symm.trans q.abs)
theorem Vals.inj:∀{xs ys:List V}{us:List Ac},Vals xs us->Vals ys us->xs=ys
 |_,_,_,.nil,.nil=>rfl
 |_,_,_,.cons r t,.cons r' t'=>by rw[r.inj r',Vals.inj t t']
section
variable {X:Cx}{pins:List (Addr×Obj)}{σ:St}{H:Hp}{s:Ae}{a:Addr}{xs ys:List V}
theorem SqL.of{K:W.Frag}(h:H a=some (.lst xs)):SqL K H a xs:=.inl (.inl h)
theorem SqT.of{K:W.Frag}(h:H a=some (.tup xs)):SqT K H a xs:=.inl (.inl h)
theorem Inv.list(I:Inv X pins σ H s)(h:SqL X.K H a xs):∃its:List Ac,Vals xs its/\PlainL s.heap a its.toArray/\xs.length<=sizeLine:=by
 rcases h with h |⟨o,its,n,hk,hc,hd,hs,hz,r⟩
 .obtain⟨z,its,n,r,e⟩:=h.ok I.hok;exact⟨its,r,⟨_,n,e,rfl,rfl,rfl⟩,z⟩
 .refine⟨its.toList,r,⟨o,n,I.kIn a o hk,hc,hd,by simpa using hs⟩,?_⟩;have e:=r.length;simp only[AJ]at e;lia
theorem Inv.tuple(I:Inv X pins σ H s)(h:SqT X.K H a xs):∃its:List Ac,Vals xs its/\IsTup s.heap a its.toArray/\xs.length<=sizeLine:=by
 rcases h with h |⟨o,its,n,hk,hc,hs,hz,r⟩
 .obtain⟨z,its,r,p⟩:=h.ok I.hok;exact⟨its,r,p,z⟩
 .refine⟨its.toList,r,⟨o,I.kIn a o hk,hc,n,by simpa using hs⟩,?_⟩;have e:=r.length;simp only[AJ]at e;lia
theorem Inv.list_inj(I:Inv X pins σ H s)(h:SqL X.K H a xs)(h':SqL X.K H a ys):xs=ys:=by
 obtain⟨its,r,⟨o,n,e,_,_,d⟩,_⟩:=I.list h;obtain⟨its',r',⟨o',n',e',_,_,d'⟩,_⟩:=I.list h';rw[e]at e';cases e';rw[d]at d';injection d' with d1 _;have:its=its':=by simpa using congrArg Array.toList d1
 subst this;exact r.inj r'
theorem Inv.tuple_inj(I:Inv X pins σ H s)(h:SqT X.K H a xs)(h':SqT X.K H a ys):xs=ys:=by
 obtain⟨its,r,⟨o,e,_,n,d⟩,_⟩:=I.tuple h;obtain⟨its',r',⟨o',e',_,n',d'⟩,_⟩:=I.tuple h';rw[e]at e';cases e';rw[d]at d';injection d' with d1 _;have:its=its':=by simpa using congrArg Array.toList d1
 subst this;exact r.inj r'
end
noncomputable abbrev Cx.wish(X:Cx)(E:Ac->Ae->Prop):Cx:={ X with xe:=E }
noncomputable abbrev Cx.nox(X:Cx):Cx:=X.wish λ_ _=>False
theorem Cx.Ok.wish{X:Cx}(ok:X.Ok)(E:Ac->Ae->Prop):(X.wish E).Ok :=
 ⟨ok.mod,ok.kind,ok.glob,ok.blt,ok.above,ok.inj,ok.has,ok.cab,ok.hd,ok.frames,ok.stk,ok.exf,ok.bs,ok.bsz,ok.noex,ok.exfs,ok.funs,ok.frf⟩
theorem Cx.Ok.unwish{X:Cx}{E:Ac->Ae->Prop}(ok:(X.wish E).Ok):X.Ok :=
 ⟨ok.mod,ok.kind,ok.glob,ok.blt,ok.above,ok.inj,ok.has,ok.cab,ok.hd,ok.frames,ok.stk,ok.exf,ok.bs,ok.bsz,ok.noex,ok.exfs,ok.funs,ok.frf⟩
section
variable {X:Cx}{pins:List (Addr×Obj)}{σ:St}{H:Hp}{s:Ae}{E:Ac->Ae->Prop}
theorem Inv.wish(I:Inv X pins σ H s)(E:Ac->Ae->Prop):Inv (X.wish E) pins σ H s:=⟨I.ok.wish E,I.os,I.bare,I.base,I.loc,I.cell,I.free,I.freeC,I.pin,I.hok,I.len⟩
theorem Inv.unwish(I:Inv (X.wish E) pins σ H s):Inv X pins σ H s:=⟨I.ok.unwish,I.os,I.bare,I.base,I.loc,I.cell,I.free,I.freeC,I.pin,I.hok,I.len⟩
theorem SP.unwish{D:Ends}{f:Flow}{s':Ae}(h:SP (X.wish E) pins D f s'):SP X pins D f s':=by
 cases f with
 |next=>obtain⟨σ',H',I,q⟩:=h;exact⟨σ',H',I.unwish,q⟩
 |brk=>obtain⟨σ',H',I,q⟩:=h;exact⟨σ',H',I.unwish,q⟩
 |cont=>obtain⟨σ',H',I,q⟩:=h;exact⟨σ',H',I.unwish,q⟩
 |ret u=>obtain⟨v,σ',H',I,r,q⟩:=h;exact⟨v,σ',H',I.unwish,r,q⟩
theorem PE.nox{e:Expr}{t:TE}(h:PE X.nox e t):PE X e t:=λpins s σ H Q I hw =>
 B3 (h pins s σ H Q (I.wish _) hw) (λ_ _ ⟨v,H',I',r,q⟩=>⟨v,H',I'.unwish,r,q⟩) λ_ _ z=>BD z
theorem PSs.nox{st:List Stmt}{t:TS}(h:PSs X.nox st t):PSs X st t:=λpins s σ H D I hw =>
 B3 (h pins s σ H D (I.wish _) hw) (λ_ _ q=>q.unwish) λ_ _ z=>BD z
end
section
variable {X:Cx}{st:Stmt}{rest:List Stmt}{t u:TS}{e:Expr}{te:TE}{pos:Pos}
noncomputable def tNext:TS:=λD σ H=>D.nx σ H
noncomputable def tSeq(t u:TS):TS:=λD σ H=>t { D with nx:=u D } σ H
theorem zaB:PSs X [] tNext:=λ_ _ σ H _ I h=>EH ⟨σ,H,I,h⟩
theorem zac(h1:PS X st t)(h2:PSs X rest u):PSs X (st::rest) (tSeq t u):=by
 intro pins s σ H D I h;refine wpAny_execs_cons (thn (h1 pins s σ H { D with nx:=u D } I h) λf s1 q=>?_)
 cases f with
 |next =>
  obtain⟨σ',H',I',q⟩:=q;exact h2 pins s1 σ' H' D I' q
 |ret v=>exact q
 |brk=>exact q
 |cont=>exact q
theorem zaf(h1:PS X st t):PSs X [st] t:=by
 intro pins s σ H D I h;refine wpAny_execs_cons (thn (h1 pins s σ H D I h) λf s1 q=>?_)
 cases f with
 |next=>exact EH q
 |ret v=>exact q
 |brk=>exact q
 |cont=>exact q
theorem Inv.quiet{pins:List (Addr×Obj)}{σ:St}{H:Hp}{s:Ae}(I:Inv X pins σ H s):interactive X.env=false:=by simp[interactive,I.ok.kind]
noncomputable def tDrop(te:TE):TS:=λD σ H=>te σ H λ_ H1=>D.nx σ H1
theorem zaY(he:PE X e te)(hs:swapsWith e none pos.line X.env=pure false:=by rfl):PS X (.Expr e pos) (tDrop te):=by intro pins s σ H D I h;exact wpAny_Expr_any (thn (he pins s σ H _ I h) λv s1 ⟨x,H1,I1,r1,q1⟩=>⟨σ,H1,I1,q1⟩) I.quiet hs
noncomputable def tRet(te:TE):TS:=λD σ H=>te σ H D.rt
theorem zak(he:PE X e te):PS X (.Return (some e) pos) (tRet te):=by intro pins s σ H D I h;exact wpAny_Return_some (thn (he pins s σ H _ I h) λv s1 ⟨x,H1,I1,r1,q1⟩=>⟨x,σ,H1,I1,r1,q1⟩)
noncomputable def tIfS(c:TT)(t u:TS):TS:=λD σ H=>c σ H λb H1=>if b=true then t D σ H1 else u D σ H1
theorem ps_if{c:Expr}{a b:List Stmt}{tc:TT}(hc:PT X c tc)(ha:PSs X a t)(hb:PSs X b u):PS X (.If c a b pos) (tIfS tc t u):=by
 intro pins s σ H D I h;refine wpAny_If (thn (hc pins s σ H _ I h) λd s1 ⟨H1,I1,q1⟩=>?_)
 cases d with
 |true=>exact ha pins s1 σ H1 D I1 q1
 |false=>exact hb pins s1 σ H1 D I1 q1
noncomputable def znB:TS:=λ_ _ _=>False
theorem zd2:PS X st znB:=λ_ _ _ _ _ _ h=>h.elim
end
noncomputable abbrev TG:=V->St->Hp->(St->Hp->Prop)->Prop
noncomputable abbrev TGs:=List V->St->Hp->(St->Hp->Prop)->Prop
noncomputable def PG(X:Cx)(target:Expr)(t:TG):Prop :=
 ∀(pins:List (Addr×Obj)) (s:Ae) (σ:St) (H:Hp) (v:V) (u:Ac) (Q:St->Hp->Prop),Inv X pins σ H s->RelV v u->t v σ H Q ->
  Ak (An X.prog X.w) X.A (assign target X.env u) (λ_ s'=>∃ σ' H',Inv X pins σ' H' s'/\Q σ' H') X.xe s
noncomputable def PGs(X:Cx)(ts:List Expr)(t:TGs):Prop :=
 ∀(pins:List (Addr×Obj)) (s:Ae) (σ:St) (H:Hp) (vs:List V) (us:List Ac) (Q:St->Hp->Prop),Inv X pins σ H s->Vals vs us->t vs σ H Q ->
  Ak (An X.prog X.w) X.A (assignInOrder ((C4 ts X.env).map (·.2)) us) (λ_ s'=>∃ σ' H',Inv X pins σ' H' s'/\Q σ' H') X.xe s
noncomputable abbrev TIp:=V->V->Hp->VK->Prop
noncomputable def PIp(X:Cx)(op:Operator)(t:TIp):Prop :=
 ∀(pins:List (Addr×Obj)) (s:Ae) (σ:St) (H:Hp) (x y:V) (v u:Ac) (Q:VK),Inv X pins σ H s->RelV x v->RelV y u->t x y H Q ->
  Ak (An X.prog X.w) X.A (inplaceOp op v u) (EP X pins σ Q) X.xe s
section
variable {X:Cx}{pos:Pos}
noncomputable def gName(i:Nat):TG:=λv σ H Q=>Q (σ.set i (some v)) H
theorem zdx{i:Nat}{x:Str}(hN:X.N.Nodup)(hi:X.N[i]?=some x)(hx:Loc X.env.scope x)(hf:X.fn x=true∨X.env.scope.names.lookup x=some .local:=by first |exact .inl rfl |exact .inr rfl |assumption):PG X (.Name x pos) (gName i):=by intro pins s σ H v u Q I r h;exact wpAny_assign_Name (zc9 I hN hi hx r (λs' I'=>⟨_,H,I',h⟩) hf)
noncomputable def gNil:TGs:=λvs σ H Q=>vs=[]/\Q σ H
noncomputable def gCons(t:TG)(u:TGs):TGs:=λvs σ H Q=>∃v r,vs=v::r/\t v σ H λσ' H'=>u r σ' H' Q
theorem zat:PGs X [] gNil:=by
 intro pins s σ H vs us Q I r h;obtain⟨e,h⟩:=h;subst e
 cases r
 exact assignInOrder_nil ⟨σ,H,I,h⟩
theorem zae{e:Expr}{es:List Expr}{t:TG}{u:TGs}(h1:PG X e t)(h2:PGs X es u)
  (hs:(C4 (e::es) X.env).map (·.2)=assign e X.env::(C4 es X.env).map (·.2):=by rfl):PGs X (e::es) (gCons t u):=by
 intro pins s σ H vs us Q I r h;obtain⟨v,vr,e1,h⟩:=h;subst e1
 cases r with
 |cons r rr =>
  rw[hs];refine assignInOrder_cons (thn (h1 pins s σ H _ _ _ I r h) λ_ s1 ⟨σ1,H1,I1,q1⟩=>?_);exact h2 pins s1 σ1 H1 _ _ Q I1 rr q1
noncomputable def gTup(K:W.Frag)(n:Nat)(t:TGs):TG:=λv σ H Q=>∃a xs,v=.ref a/\SqT K H a xs/\xs.length=n/\t xs σ H Q
theorem zbh{es:List Expr}{k:Nat}{t:TGs}{n:Nat}(hc:X.calm=true)(h:PGs X es t)
  (hn:(C4 es X.env).length=n:=by rfl) (hst:(C4 es X.env).findIdx? (·.1)=none:=by rfl):PG X (.Tuple es k pos) (gTup X.K n t):=by
 intro pins s σ H v u Q I r hw;obtain⟨a,xs,e1,hq,hl,hw⟩:=hw;subst e1
 cases r
 obtain⟨its,rv,ht,hz⟩:=I.tuple hq;refine assign_Tuple_tuple (I.ok.hd hc) ht (by simp[hn,<- hl,rv.length]) hst λh' hx=>?_
 have I1:Inv X pins σ H { s with heap:=h' }:=I.kept (t':=s.toks) λb o e=>hx b o (AK (Aq e)) e
 exact h pins _ σ H xs _ Q I1 (by simpa using rv) hw
noncomputable def tAsg(te:TE)(g:TG):TS:=λD σ H=>te σ H λx H1=>g x σ H1 D.nx
theorem zbP{tg e:Expr}{te:TE}{g:TG}(he:PE X e te)(hg:PG X tg g)(hs:swapsWithSole [tg] e pos.line X.env=pure false := by rfl)(hw:swappedStores [tg] e X.env=pure none := by rfl)
  (h1:(C4 [tg] X.env).map (·.2)=[assign tg X.env]:=by rfl):PS X (.Assign [tg] e pos) (tAsg te g):=by
 intro pins s σ H D I h;refine wpAny_Assign_stores (thn (he pins s σ H _ I h) λv s1 ⟨x,H1,I1,r1,q1⟩=>?_) hs hw;rw[h1];exact thn (hg pins s1 σ H1 x v _ I1 r1 q1) λ_ s2 q=>q
theorem zgB{i:Nat}{x:Str}{e:Expr}{te:TE}{pos':Pos}(hN:X.N.Nodup)(hi:X.N[i]? = some x)(hx:Loc X.env.scope x)(he:PE X e te)(hs:swapsWith e (some (.Name x pos')) pos.line X.env=pure false := by rfl)(hf:X.fn x=true ∨ X.env.scope.names.lookup x=some .local := by first |exact .inl rfl |exact .inr rfl |assumption) :
  PS X (.Assign [.Name x pos'] e pos) (tAsg te (gName i)):=by
 intro pins s σ H D I h;refine wpAny_Assign_Name (thn (he pins s σ H _ I h) λv s1 ⟨y,H1,I1,r1,q1⟩=>?_) hs;exact zc9 I1 hN hi hx r1 (λs2 I2=>⟨_,H1,I2,q1⟩) hf
noncomputable def tPar(i j:Nat)(ta:TA):TS:=λD σ H=>ta σ H λvs H1=>∃v w,vs=[v,w]/\D.nx ((σ.set i (some v)).set j (some w)) H1
theorem znZ{i j:Nat}{x y:Str}{a b:Expr}{ta:TA}{px py pt:Pos}{kt k2 pt2}(hc:X.calm=true)(hN:X.N.Nodup)(hi:X.N[i]? = some x)(hj:X.N[j]? = some y)(hij:i ≠ j)
  (hx:X.env.scope.names.lookup x=some .local) (hy:X.env.scope.names.lookup y=some .local) (ha:PA X [a,b] ta)
  (hw:swappedStores [.Tuple [.Name x px,.Name y py] kt pt] (.Tuple [a,b] k2 pt2) X.env=pure (some [x,y]))
  (hs:swapsWithSole [.Tuple [.Name x px,.Name y py] kt pt] (.Tuple [a,b] k2 pt2) pos.line X.env=pure false:=by rfl) :
  PS X (.Assign [.Tuple [.Name x px,.Name y py] kt pt] (.Tuple [a,b] k2 pt2) pos) (tPar i j ta):=by
 intro pins s σ H D I h;rw[exec_Assign_arm];refine Aa (De ?_);rw[hs];refine Aa (Af ?_);rw[if_neg (by decide)];refine Aa (Tuple_ (thn (ha _ pins s σ H _ I h) λus s1 ⟨vs,H1,I1,r1,q1⟩=>?_));obtain⟨v,w,e1,q1⟩:=q1;subst e1
 obtain⟨u1,u2,rfl,rv,rw'⟩:∃u1 u2,us=[u1,u2]/\RelV v u1/\RelV w u2:=by
  cases r1 with
  |cons p q =>
   cases q with
   |cons p' q' =>
    cases q'
    exact⟨_,_,rfl,p,p'⟩
 refine Bl ?_ (by show 2<=sizeLine;decide)
 have I2:Inv X pins σ H1 { s1 with heap:=s1.heap.push { cls:=.type "tuple",data:=.seq [u1,u2].toArray } }:=I1.kept (t':=s1.toks) λb o e=>Ag _ e
 rw[hw];refine Aa (Af ?_);show Ak (An X.prog X.w) X.A (do rule "assign.swapped-stores";let items <- unpackItems (.ref s1.heap.objs.size) 2 none;assignInOrder [λv=>bindName X.env y v,λv=>bindName X.env x v] items.reverse;pure Flow.next) _ _ _;refine Aa (B9 (Aa (unpackItems_tuple (items:=#[u1,u2]) (I.ok.hd hc) (IsTup.new s1.heap _) λh' hx'=>?_)));have I3:=I2.kept (h':=h') (t':=s1.toks) λb o e=>hx' b o (AK (Aq e)) e
 show Ak _ _ (assignInOrder [λv=>bindName X.env y v,λv=>bindName X.env x v] [u2,u1] >>= λ_=>pure Flow.next) _ _ _;refine Aa (assignInOrder_cons (wpAny_bindName (zc9 I3 hN hj (.inl hy) rw' (λs2 I4=>?_) (.inr hy))));refine assignInOrder_cons (wpAny_bindName (zc9 I4 hN hi (.inl hx) rv (λs3 I5=>assignInOrder_nil (Af ?_)) (.inr hx)));rw[List.set_comm _ _ (Cj hij)]at I5;exact⟨_,H1,I5,q1⟩
noncomputable def tAug(i:Nat)(te:TE)(ti:TIp):TS:=λD σ H=>∃x,σ[i]?=some (some x)/\te σ H λy H1=>ti x y H1 λz H2=>D.nx (σ.set i (some z)) H2
theorem zn0{i:Nat}{x:Str}{e:Expr}{te:TE}{op:Operator}{ti:TIp}{pos':Pos}(hN:X.N.Nodup)(hi:X.N[i]? = some x)(hx:Loc X.env.scope x)(he:PE X e te)(ho:PIp X op ti)(hf:X.fn x=true ∨ X.env.scope.names.lookup x=some .local := by first |exact .inl rfl |exact .inr rfl |assumption) :
  PS X (.AugAssign (.Name x pos') op e pos) (tAug i te ti):=by
 intro pins s σ H D I h;obtain⟨v,e1,h⟩:=h;obtain⟨m,hn,hl⟩:=I.loc;have vis:Vis X.env.scope x:=by rcases hx with k |k;exact .inl k;exact .inr (.inl k)
 obtain⟨u,r,l⟩:=hl i x v hi e1 vis;refine wpAny_AugAssign_Name ?_
 have go:Ak (An X.prog X.w) X.A (eval e X.env) (λw s₂=>Ak (An X.prog X.w) X.A (inplaceOp op u w) (λr s₃=>Ak (An X.prog X.w) X.A (storeName X.env x r) (λ_=>SP X pins D .next) X.xe s₃) X.xe s₂) X.xe s:=by
  refine thn (he pins s σ H _ I h) λw s1 ⟨y,H1,I1,r1,q1⟩=>?_
  refine thn (ho pins s1 σ H1 v y u w _ I1 r r1 q1) λz s2 ⟨zv,H2,I2,r2,q2⟩=>?_
  exact zc9 I2 hN hi hx r2 (λs3 I3=>⟨_,H2,I3,q2⟩) hf
 rcases l with⟨hk,hm⟩ |⟨hk,c,hc,hcell⟩
 .exact wpAny_loadName_local I.ok.kind hk hn hm go
 .rcases hk with hk |hk
  .exact wpAny_loadName_cell I.ok.kind hk hc hcell go
  .rcases hx with k |k
   .have:X.env.scope.names.lookup x=some .free:=hk;rw[k]at this;cases this
   .have:X.env.scope.names.lookup x=some .free:=hk;rw[k]at this;cases this
noncomputable def ipI(f:Int->Int->Int):TIp:=λx y H Q=>∃i j,x=.int i/\y=.int j/\Q (.int (f i j)) H
theorem zoi:PIp X .Add (ipI λi j=>i+j):=by intro pins s σ H x y v u Q I r1 r2 h;obtain⟨i,j,e1,e2,q⟩:=h;subst e1;subst e2;obtain⟨t,rfl⟩:=r1;obtain⟨t',rfl⟩:=r2;exact iadd_int ⟨.int _,H,I.tok _,⟨_,rfl⟩,q⟩
end
section
variable {X:Cx}{pos:Pos}
noncomputable def zmi(c:TT)(tb:TS):TS:=λD σ H=>∃W:Nat->St->Hp->Prop,(∃m,W m σ H)/\∀m σ H,W m σ H ->
 c σ H λb H1=>if b=true then ∃N:St->Hp->Prop,(∀ σ' H',N σ' H'->∃m',m'<m/\W m' σ' H')/\tb { D with nx:=N,ct:=N,bk:=D.nx } σ H1 else D.nx σ H1
theorem zlB{c:Expr}{body:List Stmt}{tc:TT}{tb:TS}(hp:PassesOwn (An X.prog X.w) X.A X.env X.xe)(hc:PT X c tc)(hb:PSs X body tb):PS X (.While c body [] pos) (zmi tc tb):=by
 intro pins s σ H D I h;obtain⟨W,⟨m0,w0⟩,turn⟩:=h;refine wpAny_While (codeAny_whileLoop (λn s'=>∃ σ' H',Inv X pins σ' H' s'/\W n σ' H') ?_ m0 ⟨σ,H,I,w0⟩);rintro n s1 ⟨σ1,H1,I1,w1⟩;refine Dr hp (thn (hc pins s1 σ1 H1 _ I1 (turn n σ1 H1 w1)) λb s2 ⟨H2,I2,q2⟩=>?_)
 cases b with
 |true =>
  obtain⟨N,hN,q2⟩:=q2;rw[if_pos rfl];refine Dr hp (thn (hb pins s2 σ1 H2 _ I2 q2) λf s3 q3=>?_)
  cases f with
  |next =>
   obtain⟨σ3,H3,I3,n3⟩:=q3;obtain⟨m',hm,w3⟩:=hN σ3 H3 n3;exact⟨m',hm,σ3,H3,I3,w3⟩
  |cont =>
   obtain⟨σ3,H3,I3,n3⟩:=q3;obtain⟨m',hm,w3⟩:=hN σ3 H3 n3;exact⟨m',hm,σ3,H3,I3,w3⟩
  |brk=>exact q3
  |ret v=>exact q3
 |false =>
  rw[if_neg AT];exact EH ⟨σ1,H2,I2,q2⟩
end
structure It where
 go:Nat->Hp->Prop
 yld:Nat->Hp->V->Hp->Prop
 stop:Nat->Hp->Prop
noncomputable def FpOk(X:Cx)(pins:List (Addr×Obj))(H:Hp)(b:Addr):Prop :=
 H b=none/\b≠X.env.locals/\b ∉ X.fs/\(b∈X.ex∨X.s₀.heap.objs.size<=b)/\(∀x c,X.env.cells.lookup x=some c->c≠b)/\∀p∈X.pn++pins,p.1≠b
theorem Inv.fpOk{X:Cx}{pins:List (Addr×Obj)}{σ:St}{H H':Hp}{s:Ae}{b:Addr}(I:Inv X pins σ H s)(hb:s.heap.objs.size<=b)(hn:H' b=none):FpOk X pins H' b:=by
 refine⟨hn,CC (AG I.lt hb),I.nofs hb,.inr (A3 I.sz hb),λx c e z=>?_,λp hp z=>?_⟩
 .obtain⟨v,q⟩:=I.cell x c e;exact absurd (AG q.lt (by rw[z];exact hb)) (Dd _)
 .exact absurd (AG (Aq (I.pin p hp).1) (by rw[z];exact hb)) (Dd _)
structure Turn (P:AQ) (w:Bg) (K:W.Frag) (tg:Expr) (J:It) (fp:List Addr) (it:Addr) (tn:Nat->Heap->Prop):Prop where
 mem:it∈fp
 obj:∀i h,tn i h->∀b∈fp,∃o,h.get? b=some o/\∀v,o.data≠.cell v
 keep:∀i h h',tn i h->(∀b∈fp,∀o,h.get? b=some o->h'.get? b=some o)->tn i h'
 item:∀(X:Cx),X.prog=P->X.w=w->X.K=K->X.calm=true->∀(i:Nat) (pins:List (Addr×Obj)) (s:Ae) (σ:St) (H:Hp) (E:Ac->Ae->Prop),Inv X pins σ H s->(∀b∈fp,FpOk X pins H b)->tn i s.heap->J.go i H ->
  Ak (An P w) X.A (DU (.ref it)) (λr s1=>∃u,r=some u /\
   Ak (An P w) X.A (EI tg (.ref it) u) (λ_ s2=>∃x H',Inv X pins σ H' s2/\RelV x u/\J.yld i H x H'/\tn (i+1) s2.heap/\∀b∈fp,H' b=none) E s1) E s
 done:∀(X:Cx),X.prog=P->X.w=w->X.K=K->X.calm=true->∀(i:Nat) (pins:List (Addr×Obj)) (s:Ae) (σ:St) (H:Hp) (E:Ac->Ae->Prop),Inv X pins σ H s->(∀b∈fp,FpOk X pins H b)->tn i s.heap->J.stop i H ->
  Ak (An P w) X.A (DU (.ref it)) (λr s1=>r=none/\Inv X pins σ H s1) E s
 self:∀(A:AY) (i:Nat) (s:Ae) (Q:Ac->Ae->Prop) (E:Ac->Ae->Prop),tn i s.heap->Q (.ref it) s->Ak (An P w) A (pyIter (.ref it)) Q E s
noncomputable abbrev TI:=St->Hp->(It->Hp->Prop)->Prop
noncomputable def PIE(X:Cx)(pins:List (Addr×Obj))(σ:St)(tg:Expr)(R:It->Hp->Prop)(itv:Ac)(s2:Ae):Prop :=
 ∃(it:Addr) (fp:List Addr) (tn:Nat->Heap->Prop) (J:It) (H':Hp),itv=.ref it/\Inv X pins σ H' s2/\Turn X.prog X.w X.K tg J fp it tn/\tn 0 s2.heap/\(∀b∈fp,FpOk X pins H' b)/\R J H'
noncomputable def PI(X:Cx)(tg iter:Expr)(wi:TI):Prop :=
 ∀(pins:List (Addr×Obj)) (s:Ae) (σ:St) (H:Hp) (R:It->Hp->Prop),Inv X pins σ H s->wi σ H R ->
  Ak (An X.prog X.w) X.A (eval iter X.env) (λv s1=>Ak (An X.prog X.w) X.A (pyIter v) (PIE X pins σ tg R) X.xe s1) X.xe s
theorem go_of {M : Model}{A : AY}{E : Ac → Ae → Prop}{s : Ae}{tg : Expr}{it : Addr}{u : Ac}{o : Obj}{n : String}{vs : Array Ac}{Q : Unit → Ae → Prop}(ho : s.heap.get? it = some o) (hc : o.cls = .type n) (hd : o.data = .fields vs)
    (hn:["enumerate","zip","dict_itemiterator","dict_reverseitemiterator","odict_iterator","itertools.zip_longest","itertools.pairwise"].contains n=false) (hQ:Q () s):Ak M A (EI tg (.ref it) u) Q E s:=by
  unfold EI
  cases tg <;> first
    | exact Af hQ
    | (cases u <;> first
        | exact Af hQ
        | (refine Aa (wpAny_load ho ?_)
           rw[hc,hd]
           show Ak M A (if (["enumerate","zip","dict_itemiterator","dict_reverseitemiterator","odict_iterator","itertools.zip_longest","itertools.pairwise"].contains n && vs[0]? == some (Cg _))=true then _ else _) Q E s
           rw[if_neg (by intro h;rw[hn,Bool.false_and] at h;cases h)]
           exact Af hQ))
noncomputable def Itl(K:W.Frag)(a:Addr):It :=
 ⟨λi H=>∃xs x,SqL K H a xs/\xs[i]?=some x,λi H x H'=>H'=H/\∀xs,SqL K H a xs->xs[i]?=some x,λi H=>∃xs,SqL K H a xs/\xs.length<=i⟩
noncomputable def Itt(K:W.Frag)(a:Addr):It :=
 ⟨λi H=>∃xs x,SqT K H a xs/\xs[i]?=some x,λi H x H'=>H'=H/\∀xs,SqT K H a xs->xs[i]?=some x,λi H=>∃xs,SqT K H a xs/\xs.length<=i⟩
noncomputable def Itr(lo:Int)(n:Nat):It:=⟨λi _=>i<n,λi H x H'=>H'=H/\x=.int (lo+i),λi _=>n<=i⟩
theorem zjz{P:AQ}{w:Bg}{K:W.Frag}{tg:Expr}(a it:Addr):Turn P w K tg (Itl K a) [it] it (λi h=>h.IsListIter it a i) where
 mem:=by simp
 obj:=λi h st b hb=>by
  have e:b=it:=by simpa using hb
  subst e;obtain⟨o,e,c,d⟩:=st;exact⟨o,e,λv z=>by rw[d]at z;cases z⟩
 keep:=λi h h' st k=>st.at λo e=>k it (by simp) o e
 item:=by
  intro X hP hw hK hc i pins s σ H E I hf st hg;subst hP hw hK;obtain⟨xs,x,hq,hx⟩:=hg;obtain⟨its,rv,p,hz⟩:=I.list hq;obtain⟨u,hu,ru⟩:=rv.get hx;obtain⟨f0,f1,f2,f3,f4,f5⟩:=hf it (by simp);refine wpAny_pyNext_list_item st p.isList (x:=u) (by simpa using hu) λh' st' sb=>?_
  have I1:Inv X pins σ H { s with heap:=h' }:=I.turned (t':=s.toks) (λb o hb e=>(sb.2 b hb).trans e) f0 f1 f3 f4 f5;obtain⟨o,e,c,d⟩:=id st';exact⟨u,rfl,go_of (s:={ s with heap:=h' }) e c d (by decide) ⟨x,H,I1,ru,⟨rfl,λys hy=>by rw[I.list_inj hy hq];exact hx⟩,st',λb hb=>(hf b hb).1⟩⟩
 done:=by intro X hP hw hK hc i pins s σ H E I hf st hg;subst hP hw hK;obtain⟨xs,hq,hx⟩:=hg;obtain⟨its,rv,p,hz⟩:=I.list hq;obtain⟨f0,f1,f2,f3,f4,f5⟩:=hf it (by simp);have hl:=rv.length;exact wpAny_pyNext_list_end (I.ok.hd hc) st p.isList (by simp;lia) λh' eb=>⟨rfl,I.turned (t':=s.toks) (λb o hb e=>eb b o hb e) f0 f1 f3 f4 f5⟩
 self:=λ_ _ _ _ _ st h=>wpAny_pyIter_listiter st h
theorem ziN{P:AQ}{w:Bg}{K:W.Frag}{tg:Expr}(a it:Addr):Turn P w K tg (Itt K a) [it] it (λi h=>h.IsTupleIter it a i) where
 mem:=by simp
 obj:=λi h st b hb=>by
  have e:b=it:=by simpa using hb
  subst e;obtain⟨o,e,c,d⟩:=st;exact⟨o,e,λv z=>by rw[d]at z;cases z⟩
 keep:=λi h h' st k=>st.at λo e=>k it (by simp) o e
 item:=by
  intro X hP hw hK hc i pins s σ H E I hf st hg;subst hP hw hK;obtain⟨xs,x,hq,hx⟩:=hg;obtain⟨its,rv,p,hz⟩:=I.tuple hq;obtain⟨u,hu,ru⟩:=rv.get hx;obtain⟨f0,f1,f2,f3,f4,f5⟩:=hf it (by simp);refine wpAny_pyNext_tuple_item st (show s.heap.IsTuple a its.toArray from p) (x:=u) (by simpa using hu) λh' st' sb=>?_
  have I1:Inv X pins σ H { s with heap:=h' }:=I.turned (t':=s.toks) (λb o hb e=>(sb.2 b hb).trans e) f0 f1 f3 f4 f5;obtain⟨o,e,c,d⟩:=id st';exact⟨u,rfl,go_of (s:={ s with heap:=h' }) e c d (by decide) ⟨x,H,I1,ru,⟨rfl,λys hy=>by rw[I.tuple_inj hy hq];exact hx⟩,st',λb hb=>(hf b hb).1⟩⟩
 done:=by intro X hP hw hK hc i pins s σ H E I hf st hg;subst hP hw hK;obtain⟨xs,hq,hx⟩:=hg;obtain⟨its,rv,p,hz⟩:=I.tuple hq;obtain⟨f0,f1,f2,f3,f4,f5⟩:=hf it (by simp);have hl:=rv.length;exact wpAny_pyNext_tuple_end (I.ok.hd hc) st (show s.heap.IsTuple a its.toArray from p) (by simp;lia) λh' eb=>⟨rfl,I.turned (t':=s.toks) (λb o hb e=>eb b o hb e) f0 f1 f3 f4 f5⟩
 self:=λ_ _ _ _ _ st h=>wpAny_pyIter_tupleiter st h
theorem ze3{P:AQ}{w:Bg}{K:W.Frag}{tg:Expr}(it:Addr)(lo:Int)(n:Nat):Turn P w K tg (Itr lo n) [it] it (λi h=>IsRangeIter h it (lo+(i:Nat)*1) ((n:Int)-(i:Nat)) 1) where
 mem:=by simp
 obj:=λi h st b hb=>by
  have e:b=it:=by simpa using hb
  subst e
  exact⟨_,st,λv z=>by
   have z':Data.fields _=Data.cell v:=z
   cases z'⟩
 keep:=λi h h' st k=>k it (by simp) _ st
 item:=by
  intro X hP hw hK hc i pins s σ H E I hf st hg;subst hP hw hK;obtain⟨f0,f1,f2,f3,f4,f5⟩:=hf it (by simp);have W:=Walks.range (prog:=X.prog) (w:=X.w) (I.ok.hd hc) it lo 1 n;refine W.item i s _ _ hg st λv h' tk hv st' kk=>?_
  obtain⟨t,rfl⟩:=hv;have I1:Inv X pins σ H { s with heap:=h',toks:=tk }:=I.turned (λb o hb e=>kk b o (by simpa using hb) e) f0 f1 f3 f4 f5;refine⟨_,rfl,go_of (s:={ s with heap:=h',toks:=tk }) (n:="range_iterator") st' rfl rfl (by decide) ⟨.int (lo+i),H,I1,⟨t,?_⟩,⟨rfl,rfl⟩,st',λb hb=>(hf b hb).1⟩⟩;rw[Int.mul_one]
 done:=by intro X hP hw hK hc i pins s σ H E I hf st hg;subst hP hw hK;obtain⟨f0,f1,f2,f3,f4,f5⟩:=hf it (by simp);exact wpAny_pyNext_range_end (I.ok.hd hc) st (by have:n<=i:=hg;lia) λh' eb=>⟨rfl,I.turned (t':=s.toks) (λb o hb e=>eb b o hb e) f0 f1 f3 f4 f5⟩
 self:=λ_ _ _ _ _ st h=>wpAny_pyIter_rangeiter st h
section
variable {X:Cx}{tg:Expr}
noncomputable def iList(K:W.Frag)(tl:TE):TI:=λσ H R=>tl σ H λx H1=>∃a,x=.ref a/\(∃xs,SqL K H1 a xs)/\R (Itl K a) H1
noncomputable def iTup(K:W.Frag)(tl:TE):TI:=λσ H R=>tl σ H λx H1=>∃a,x=.ref a/\(∃xs,SqT K H1 a xs)/\R (Itt K a) H1
theorem zaz{l:Expr}{tl:TE}(hl:PE X l tl):PI X tg l (iList X.K tl):=by
 intro pins s σ H R I h;refine thn (hl pins s σ H _ I h) λv s1 ⟨x,H1,I1,r1,q1⟩=>?_
 obtain⟨a,e,⟨xs,hq⟩,q⟩:=q1;subst e
 cases r1
 obtain⟨its,rv,p,hz⟩:=I1.list hq;refine wpAny_pyIter_list p.isList ?_
 refine⟨s1.heap.objs.size,[s1.heap.objs.size],_,_,H1,rfl,I1.kept (t':=s1.toks) λb o e=>Ag _ e,zjz a _,⟨_,At _ rfl,rfl,rfl⟩,λb hb=>?_,q⟩;have e:b=s1.heap.objs.size:=by simpa using hb
 subst e;exact I1.fpOk (Ai _) (I1.hok.fresh (Ai _))
theorem zka{l:Expr}{tl:TE}(hl:PE X l tl):PI X tg l (iTup X.K tl):=by
 intro pins s σ H R I h;refine thn (hl pins s σ H _ I h) λv s1 ⟨x,H1,I1,r1,q1⟩=>?_
 obtain⟨a,e,⟨xs,hq⟩,q⟩:=q1;subst e
 cases r1
 obtain⟨its,rv,p,hz⟩:=I1.tuple hq;refine wpAny_pyIter_tuple (show s1.heap.IsTuple a its.toArray from p) ?_
 refine⟨s1.heap.objs.size,[s1.heap.objs.size],_,_,H1,rfl,I1.kept (t':=s1.toks) λb o e=>Ag _ e,ziN a _,⟨_,At _ rfl,rfl,rfl⟩,λb hb=>?_,q⟩;have e:b=s1.heap.objs.size:=by simpa using hb
 subst e;exact I1.fpOk (Ai _) (I1.hok.fresh (Ai _))
theorem zid{pins:List (Addr × Obj)}{σ : St}{H:Hp}{s:Ae}{R:It -> Hp -> Prop}{E:Ac -> Ae -> Prop}{lo hi:Int}{t u v:Tok}{tk:Nat}(I:Inv X pins σ H s)(h1 : -(2 ^ 62) <= lo)(h2:lo < 2 ^ 62)(h3 : -(2 ^ 62) <= hi)(h4:hi < 2 ^ 62)
  (q:R (Itr lo (hi-lo).toNat) H):Ak (An X.prog X.w) X.A (pyIter (.ref s.heap.objs.size)) (PIE X pins σ tg R) E { s with heap:=s.heap.push { cls:=.type "range",data:=.fields #[.int lo t,.int hi u,.int 1 v] },toks:=tk }:=by
 refine wpAny_pyIter_range (IsRange.new ..) (small_one h1 h2 h3 h4) ?_
 have I1:Inv X pins σ H { s with heap:=s.heap.push { cls:=.type "range",data:=.fields #[.int lo t,.int hi u,.int 1 v] },toks:=tk }:=I.kept λb o e=>Ag _ e
 refine⟨(s.heap.push { cls:=.type "range",data:=.fields #[.int lo t,.int hi u,.int 1 v] }).objs.size,[(s.heap.push { cls:=.type "range",data:=.fields #[.int lo t,.int hi u,.int 1 v] }).objs.size],_,_,H,rfl,
  I1.kept (t':=tk) λb o e=>Ag _ e,ze3 _ lo (hi-lo).toNat,?_,λb hb=>?_,q⟩
 .have e1:lo+((0:Nat):Int)*1=lo:=by simp
  have e2:(((hi-lo).toNat:Nat):Int)-((0:Nat):Int)=CZ lo hi 1:=by rw[rangeSize_one];split <;> lia
  show IsRangeIter _ _ (lo+((0:Nat):Int)*1) ((((hi-lo).toNat:Nat):Int)-((0:Nat):Int)) 1;rw[e1,e2];exact At _ rfl
 .have e:b=(s.heap.push { cls:=.type "range",data:=.fields #[.int lo t,.int hi u,.int 1 v] }).objs.size:=by simpa using hb
  subst e;exact I1.fpOk (Ai _) (I1.hok.fresh (Ai _))
noncomputable def iRng1(ta:TA):TI:=λσ H R=>ta σ H λvs H1=>∃j:Int,vs=[.int j]/\-(2 ^ 62)<=j/\j<2 ^ 62/\R (Itr 0 j.toNat) H1
noncomputable def iRng2(ta:TA):TI:=λσ H R=>ta σ H λvs H1=>∃i j:Int,vs=[.int i,.int j]/\(-(2 ^ 62)<=i/\i<2 ^ 62/\-(2 ^ 62)<=j/\j<2 ^ 62)/\R (Itr i (j-i).toNat) H1
theorem zdf {a:Expr}{ta:TA}{p pos:Pos}(hg:Gl X "range") (hm:X.mg "range" = none) (ha:PA X [a] ta) (hs:Bh [a] X.env=[(false,eval a X.env)]:=by rfl):PI X tg (.Call (.Name "range" p) [a] [] pos) (iRng1 ta):=by
 intro pins s σ H R I h;refine Call_ (zck I hg hm boot_range (BT (thn (ha pos pins s σ H _ I h) λus s1 ⟨vs,H1,I1,r1,q1⟩=>?_) hs rfl));obtain⟨j,e,q1,q2,q⟩:=q1;subst e
 cases r1 with
 |cons r rr =>
  cases rr
  obtain⟨t,rfl⟩:=r;exact call_range_1 (zid I1 (by lia) (by lia) q1 q2 (by simpa using q))
theorem zgC {a b:Expr}{ta:TA}{p pos:Pos}(hg:Gl X "range") (hm:X.mg "range" = none) (ha:PA X [a, b] ta) (hs:Bh [a, b] X.env = [(false, eval a X.env), (false, eval b X.env)] := by rfl) (hs2:Bh [b] X.env = [(false, eval b X.env)] := by rfl) :
  PI X tg (.Call (.Name "range" p) [a,b] [] pos) (iRng2 ta):=by
 intro pins s σ H R I h;refine Call_ (zck I hg hm boot_range (BT (thn (ha pos pins s σ H _ I h) λus s1 ⟨vs,H1,I1,r1,q1⟩=>?_) (by rw[hs,hs2]) (by rw[hs2];rfl)));obtain⟨i,j,e,⟨q1,q2,q3,q4⟩,q⟩:=q1;subst e
 cases r1 with
 |cons r rr =>
  cases rr with
  |cons r' rr =>
   cases rr
   obtain⟨t,rfl⟩:=r;obtain⟨t',rfl⟩:=r';exact call_range_2 (zid I1 q1 q2 q3 q4 q)
noncomputable def tFor(wi:TI)(g:TG)(tb:TS):TS:=λD σ H=>wi σ H λJ H1=>∃W:Nat->Nat->St->Hp->Prop,(∃m,W 0 m σ H1)/\∀i m σ H,W i m σ H ->
 (J.stop i H/\D.nx σ H)∨(J.go i H/\∃N:St->Hp->Prop,(∀ σ' H',N σ' H'->∃m',m'<m/\W (i+1) m' σ' H')/\∀x H',J.yld i H x H'->g x σ H' λσ2 H2=>tb { D with nx:=N,ct:=N,bk:=D.nx } σ2 H2)
noncomputable def zdK(fp:List Addr)(h:Heap):List (Addr×Obj):=fp.filterMap λb=>(h.get? b).map λo=>(b,o)
theorem zaS{fp:List Addr}{h:Heap}{b:Addr}{o:Obj}(hb:b∈fp)(e:h.get? b=some o):(b,o)∈zdK fp h:=List.mem_filterMap.mpr ⟨b,hb,by rw[e];rfl⟩
theorem zkn{fp:List Addr}{h:Heap}{p:Addr×Obj}(hp:p∈zdK fp h):p.1∈fp/\h.get? p.1=some p.2:=by
 obtain⟨b,hb,e⟩:=List.mem_filterMap.mp hp
 cases q:h.get? b with
 |none=>rw[q]at e;cases e
 |some o =>
  rw[q]at e;have e':(b,o)=p:=A9 e;subst e';exact⟨hb,q⟩
theorem Inv.pinned{pins:List (Addr×Obj)}{σ:St}{H:Hp}{s:Ae}{fp:List Addr}(I:Inv X pins σ H s)(hf:∀b∈fp,FpOk X pins H b)(ho:∀b∈fp,∃o,s.heap.get? b=some o/\∀v,o.data≠.cell v):Inv X (pins++zdK fp s.heap) σ H s :=
 I.pins_of λp hp=>(AC.mp hp).elim (λz=>I.pin p (Aw _ z)) λz=>by obtain⟨hb,e⟩:=zkn z;obtain⟨f0,f1,f2,_⟩:=hf p.1 hb;obtain⟨o,e',d⟩:=ho p.1 hb;rw[e]at e';cases e';exact⟨e,f0,f1,f2,d⟩
theorem Inv.unpinned{pins pl:List (Addr×Obj)}{σ:St}{H:Hp}{s:Ae}(I:Inv X (pins++pl) σ H s):Inv X pins σ H s:=I.pins_of λp hp=>I.pin p (Aw _ (BF _ hp))
theorem zbm{iter:Expr}{body:List Stmt}{wi:TI}{g:TG}{tb:TS}{pos:Pos}(hp:PassesOwn (An X.prog X.w) X.A X.env X.xe)(hc:X.calm=true)(hi:PI X tg iter wi)(hg:PG X tg g)(hb:PSs X body tb)
  (hs:∀x,BY iter X.env x=pure x:=by intro _;rfl):PS X (.For tg iter body [] pos) (tFor wi g tb):=by
 intro pins s σ H D I h;refine wpAny_For (thn (hi pins s σ H _ I h) λv s1 h1=>thn h1 λitv s2 h2=>?_) hs;obtain⟨it,fp,tn,J,H2,e,I2,T,st2,f2,W,⟨m0,w0⟩,turn⟩:=h2;subst e;have stat:∀{H':Hp},(∀b∈fp,H' b=none)->∀b∈fp,FpOk X pins H' b:=λhn b hb=>⟨hn b hb,(f2 b hb).2⟩
 refine codeAny_forLoop_any (λn s'=>∃i σ' H',Inv X pins σ' H' s'/\tn i s'.heap/\(∀b∈fp,H' b=none)/\W i n σ' H') ?_ m0 ⟨0,σ,H2,I2,st2,λb hb=>(f2 b hb).1,w0⟩;rintro n s3 ⟨i,σ3,H3,I3,st3,fr3,w3⟩;rcases turn i n σ3 H3 w3 with⟨stop,qn⟩ |⟨go,N,hN,step⟩
 .refine Dr hp (thn (T.done X rfl rfl rfl hc i pins s3 σ3 H3 X.xe I3 (stat fr3) st3 stop) λr s4 ⟨hr,I4⟩=>?_);subst hr;exact EH ⟨σ3,H3,I4,qn⟩
 .refine Dr hp (thn (T.item X rfl rfl rfl hc i pins s3 σ3 H3 X.xe I3 (stat fr3) st3 go) λr s4 ⟨u,hr,h4⟩=>?_);subst hr;refine Dr hp (thn h4 λ_ s5 ⟨x,H5,I5,r5,y5,st5,fr5⟩=>?_);have I5':=I5.pinned (stat fr5) (T.obj _ _ st5);refine Dr hp (thn (hg _ s5 σ3 H5 x u _ I5' r5 (step x H5 y5)) λ_ s6 ⟨σ6,H6,I6,q6⟩=>?_);refine Dr hp (thn (hb _ s6 σ6 H6 _ I6 q6) λf s7 q7=>?_)
  have again:∀{σ7:St} {H7:Hp},Inv X (pins++zdK fp s5.heap) σ7 H7 s7->N σ7 H7->∃m,m<n/\∃i σ' H',Inv X pins σ' H' s7/\tn i s7.heap/\(∀b∈fp,H' b=none)/\W i m σ' H':=λ{σ7 H7} I7 n7=>by obtain⟨m',hm,w7⟩:=hN σ7 H7 n7;refine⟨m',hm,i+1,σ7,H7,I7.unpinned,T.keep _ _ _ st5 λb hb o e=>(I7.pin (b,o) (Aw _ (Aw _ (zaS hb e)))).1,λb hb=>?_,w7⟩;obtain⟨o,e,d⟩:=T.obj _ _ st5 b hb;exact (I7.pin (b,o) (Aw _ (Aw _ (zaS hb e)))).2.1
  cases f with
  |next=>obtain⟨σ7,H7,I7,n7⟩:=q7;exact again I7 n7
  |cont=>obtain⟨σ7,H7,I7,n7⟩:=q7;exact again I7 n7
  |brk=>obtain⟨σ7,H7,I7,q7⟩:=q7;exact⟨σ7,H7,I7.unpinned,q7⟩
  |ret v=>obtain⟨x7,σ7,H7,I7,r7,q7⟩:=q7;exact⟨x7,σ7,H7,I7.unpinned,r7,q7⟩
end
theorem zao{K:W.Frag}{a:Addr}{xs:List V}{g:TG}{tb:TS}{D:Ends}{σ : St}{H:Hp}(Pv:Nat -> St -> Hp -> Prop)(h0:Pv 0 σ H)(hl:∀i σ H, i <= xs.length -> Pv i σ H -> SqL K H a xs)
  (hs:∀i x σ H,xs[i]?=some x->Pv i σ H->g x σ H λσ2 H2=>tb { D with nx:=Pv (i+1),ct:=Pv (i+1),bk:=D.nx } σ2 H2) (hd:∀ σ H,Pv xs.length σ H->D.nx σ H) :
  ∃W:Nat->Nat->St->Hp->Prop,(∃m,W 0 m σ H)/\∀i m σ H,W i m σ H ->
   ((Itl K a).stop i H/\D.nx σ H)∨((Itl K a).go i H/\∃N:St->Hp->Prop,(∀ σ' H',N σ' H'->∃m',m'<m/\W (i+1) m' σ' H')/\∀x H',(Itl K a).yld i H x H'->g x σ H' λσ2 H2=>tb { D with nx:=N,ct:=N,bk:=D.nx } σ2 H2):=by
 refine⟨λi m σ H=>m=xs.length-i/\i<=xs.length/\Pv i σ H,⟨xs.length,by simp,Bd _,h0⟩,?_⟩;rintro i m σ H ⟨rfl,hi,p⟩;have q:=hl i σ H hi p
 by_cases hlt:i<xs.length
 .refine .inr ⟨⟨xs,xs[i],q,by simp[hlt]⟩,Pv (i+1),λσ' H' p'=>⟨xs.length-(i+1),by lia,rfl,hlt,p'⟩,λx H' y=>?_⟩;obtain⟨e,y⟩:=y;subst e;exact hs i x σ _ (y xs q) p
 .have e:i=xs.length:=by lia
  subst e;exact .inl ⟨⟨xs,q,Ai _⟩,hd σ H p⟩
theorem zhL{K:W.Frag}{a:Addr}{xs:List V}{g:TG}{tb:TS}{D:Ends}{σ : St}{H:Hp}(Pv:Nat -> St -> Hp -> Prop)(h0:Pv 0 σ H)(hl:∀i σ H, i <= xs.length -> Pv i σ H -> SqT K H a xs)
  (hs:∀i x σ H,xs[i]?=some x->Pv i σ H->g x σ H λσ2 H2=>tb { D with nx:=Pv (i+1),ct:=Pv (i+1),bk:=D.nx } σ2 H2) (hd:∀ σ H,Pv xs.length σ H->D.nx σ H) :
  ∃W:Nat->Nat->St->Hp->Prop,(∃m,W 0 m σ H)/\∀i m σ H,W i m σ H ->
   ((Itt K a).stop i H/\D.nx σ H)∨((Itt K a).go i H/\∃N:St->Hp->Prop,(∀ σ' H',N σ' H'->∃m',m'<m/\W (i+1) m' σ' H')/\∀x H',(Itt K a).yld i H x H'->g x σ H' λσ2 H2=>tb { D with nx:=N,ct:=N,bk:=D.nx } σ2 H2):=by
 refine⟨λi m σ H=>m=xs.length-i/\i<=xs.length/\Pv i σ H,⟨xs.length,by simp,Bd _,h0⟩,?_⟩;rintro i m σ H ⟨rfl,hi,p⟩;have q:=hl i σ H hi p
 by_cases hlt:i<xs.length
 .refine .inr ⟨⟨xs,xs[i],q,by simp[hlt]⟩,Pv (i+1),λσ' H' p'=>⟨xs.length-(i+1),by lia,rfl,hlt,p'⟩,λx H' y=>?_⟩;obtain⟨e,y⟩:=y;subst e;exact hs i x σ _ (y xs q) p
 .have e:i=xs.length:=by lia
  subst e;exact .inl ⟨⟨xs,q,Ai _⟩,hd σ H p⟩
theorem zbJ{lo:Int}{n:Nat}{g:TG}{tb:TS}{D:Ends}{σ : St}{H:Hp}(Pv:Nat -> St -> Hp -> Prop)(h0:Pv 0 σ H)
  (hs:∀i σ H,i<n->Pv i σ H->g (.int (lo+i)) σ H λσ2 H2=>tb { D with nx:=Pv (i+1),ct:=Pv (i+1),bk:=D.nx } σ2 H2) (hd:∀ σ H,Pv n σ H->D.nx σ H) :
  ∃W:Nat->Nat->St->Hp->Prop,(∃m,W 0 m σ H)/\∀i m σ H,W i m σ H ->
   ((Itr lo n).stop i H/\D.nx σ H)∨((Itr lo n).go i H/\∃N:St->Hp->Prop,(∀ σ' H',N σ' H'->∃m',m'<m/\W (i+1) m' σ' H')/\∀x H',(Itr lo n).yld i H x H'->g x σ H' λσ2 H2=>tb { D with nx:=N,ct:=N,bk:=D.nx } σ2 H2):=by
 refine⟨λi m σ H=>m=n-i/\i<=n/\Pv i σ H,⟨n,by simp,Bd _,h0⟩,?_⟩;rintro i m σ H ⟨rfl,hi,p⟩
 by_cases hlt:i<n
 .refine .inr ⟨hlt,Pv (i+1),λσ' H' p'=>⟨n-(i+1),by lia,rfl,hlt,p'⟩,λx H' y=>?_⟩;obtain⟨e,y⟩:=y;subst e y;exact hs i σ _ hlt p
 .have e:i=n:=by lia
  subst e;exact .inl ⟨Ai _,hd σ H p⟩
theorem zlm{c:TT}{tb:TS}{D:Ends}{σ : St}{H:Hp}(Pv:St -> Hp -> Prop)(μ : St -> Hp -> Nat)(h0:Pv σ H)
  (hs:∀ σ H,Pv σ H->c σ H λb H1=>if b=true then tb { D with nx:=λσ' H'=>Pv σ' H'/\μ σ' H'<μ σ H,ct:=λσ' H'=>Pv σ' H'/\μ σ' H'<μ σ H,bk:=D.nx } σ H1 else D.nx σ H1)
  (mono:∀ σ H Q Q',(∀b H1,Q b H1->Q' b H1)->c σ H Q->c σ H Q'):zmi c tb D σ H:=by
 refine⟨λm σ H=>m=μ σ H/\Pv σ H,⟨_,rfl,h0⟩,?_⟩;rintro m σ H ⟨rfl,p⟩;refine mono σ H _ _ (λb H1 q=>?_) (hs σ H p)
 cases b with
 |true=>exact⟨_,λσ' H' ⟨p',l⟩=>⟨_,l,rfl,p'⟩,q⟩
 |false=>exact q
noncomputable abbrev R2:=V->V->Hp->VK->Prop
noncomputable def OpR(X:Cx)(f:Ac->Ac->Sem Ac)(r:R2):Prop :=
 ∀(pins:List (Addr×Obj)) (s:Ae) (σ:St) (H:Hp) (x y:V) (v u:Ac) (Q:VK),Inv X pins σ H s->RelV x v->RelV y u->r x y H Q ->
  Ak (An X.prog X.w) X.A (f v u) (EP X pins σ Q) X.xe s
noncomputable def UnR(X:Cx)(f:Ac->Sem Ac)(r:V->Hp->VK->Prop):Prop :=
 ∀(pins:List (Addr×Obj)) (s:Ae) (σ:St) (H:Hp) (x:V) (v:Ac) (Q:VK),Inv X pins σ H s->RelV x v->r x H Q ->
  Ak (An X.prog X.w) X.A (f v) (EP X pins σ Q) X.xe s
noncomputable def CallR(X:Cx)(f:Ac)(r:List V->Hp->VK->Prop):Prop :=
 ∀(pins:List (Addr×Obj)) (s:Ae) (σ:St) (H:Hp) (xs:List V) (us:List Ac) (Q:VK),Inv X pins σ H s->Vals xs us->r xs H Q ->
  Ak (An X.prog X.w) X.A (call f us) (EP X pins σ Q) X.xe s
noncomputable def TruR(X:Cx)(r:V->Hp->(Bool->Hp->Prop)->Prop):Prop :=
 ∀(pins:List (Addr×Obj)) (s:Ae) (σ:St) (H:Hp) (x:V) (v:Ac) (Q:Bool->Hp->Prop),Inv X pins σ H s->RelV x v->r x H Q ->
  Ak (An X.prog X.w) X.A (truthy v) (TP X pins σ Q) X.xe s
noncomputable def tOp(r:R2)(ta tb:TE):TE:=λσ H Q=>ta σ H λx H1=>tb σ H1 λy H2=>r x y H2 Q
noncomputable def tUn(r:V->Hp->VK->Prop)(ta:TE):TE:=λσ H Q=>ta σ H λx H1=>r x H1 Q
noncomputable def rI(C:Int->Int->Prop)(g:Int->Int->V):R2:=λx y H Q=>∃i j,x=.int i/\y=.int j/\C i j/\Q (g i j) H
noncomputable def rI0(g:Int->Int->V):R2:=λx y H Q=>∃i j,x=.int i/\y=.int j/\Q (g i j) H
noncomputable def rU(g:Int->V):V->Hp->VK->Prop:=λx H Q=>∃i,x=.int i/\Q (g i) H
section
variable {X:Cx}{a b c:Expr}{ta tb tc:TE}{pos:Pos}
theorem binT(ha:PE X a ta)(hb:PE X b tb){pins:List (Addr × Obj)}{s:Ae}{σ : St}{H:Hp}{R:V -> V -> Hp -> Prop}(I:Inv X pins σ H s)
  (h:ta σ H λx H1=>tb σ H1 λy H2=>R x y H2) {Q:Ac->Ae->Prop} {f:Ac->Ac->Sem Ac}
  (hf:∀v u s2 x y H2,Inv X pins σ H2 s2->RelV x v->RelV y u->R x y H2->Ak (An X.prog X.w) X.A (f v u) Q X.xe s2) :
  Ak (An X.prog X.w) X.A (eval a X.env) (λv s₁=>Ak (An X.prog X.w) X.A (eval b X.env) (λu s₂=>Ak (An X.prog X.w) X.A (f v u) Q X.xe s₂) X.xe s₁) X.xe s:=by
 refine thn (ha pins s σ H _ I h) λv s1 ⟨x,H1,I1,r1,q1⟩=>?_
 refine thn (hb pins s1 σ H1 _ I1 q1) λu s2 ⟨y,H2,I2,r2,q2⟩=>?_
 exact hf v u s2 x y H2 I2 r1 r2 q2
theorem pe_op{op:Operator}{r:R2}(ho:OpR X (binaryOp op) r)(ha:PE X a ta)(hb:PE X b tb):PE X (.BinOp a op b pos) (tOp r ta tb):=by intro pins s σ H Q I h;exact wpAny_BinOp (binT ha hb I h λv u s2 x y H2 I2 rx ry q=>ho pins s2 σ H2 x y v u Q I2 rx ry q)
theorem pe_un{op:UnaryOp}{r:V->Hp->VK->Prop}(ho:UnR X (unaryOp op) r)(ha:PE X a ta):PE X (.UnaryOp op a pos) (tUn r ta):=by intro pins s σ H Q I h;exact UnaryOp_ (thn (ha pins s σ H _ I h) λv s1 ⟨x,H1,I1,r1,q1⟩=>ho pins s1 σ H1 x v Q I1 r1 q1)
theorem opI{f:Ac -> Ac -> Sem Ac}{C:Int -> Int -> Prop}{g:Int -> Int -> Int}
  (rule:∀(i j:Int) (t u:Tok) (s:Ae) (Q:Ac->Ae->Prop) (E:Ac->Ae->Prop),C i j->Q (.int (g i j) s.toks) { s with toks:=s.toks+1 }->Ak (An X.prog X.w) X.A (f (.int i t) (.int j u)) Q E s) :
  OpR X f (rI C λi j=>.int (g i j)):=by
 intro pins s σ H x y v u Q I rx ry h;obtain⟨i,j,rfl,rfl,hc,q⟩:=h;obtain⟨t,rfl⟩:=rx;obtain⟨t',rfl⟩:=ry;exact rule i j t t' s _ _ hc ⟨.int (g i j),H,I.tok _,⟨_,rfl⟩,q⟩
theorem opI0{f:Ac -> Ac -> Sem Ac}{g:Int -> Int -> Int}
  (rule:∀(i j:Int) (t u:Tok) (s:Ae) (Q:Ac->Ae->Prop) (E:Ac->Ae->Prop),Q (.int (g i j) s.toks) { s with toks:=s.toks+1 }->Ak (An X.prog X.w) X.A (f (.int i t) (.int j u)) Q E s) :
  OpR X f (rI0 λi j=>.int (g i j)):=by
 intro pins s σ H x y v u Q I rx ry h;obtain⟨i,j,rfl,rfl,q⟩:=h;obtain⟨t,rfl⟩:=rx;obtain⟨t',rfl⟩:=ry;exact rule i j t t' s _ _ ⟨.int (g i j),H,I.tok _,⟨_,rfl⟩,q⟩
theorem opB0{f:Ac -> Ac -> Sem Ac}{g:Int -> Int -> Bool}
  (rule:∀(i j:Int) (t u:Tok) (s:Ae) (Q:Ac->Ae->Prop) (E:Ac->Ae->Prop),Q (.bool (g i j)) s->Ak (An X.prog X.w) X.A (f (.int i t) (.int j u)) Q E s) :
  OpR X f (rI0 λi j=>.bl (g i j)):=by
 intro pins s σ H x y v u Q I rx ry h;obtain⟨i,j,rfl,rfl,q⟩:=h;obtain⟨t,rfl⟩:=rx;obtain⟨t',rfl⟩:=ry;exact rule i j t t' s _ _ ⟨.bl (g i j),H,I,rfl,q⟩
noncomputable def CDiv(i j:Int):Prop:=0<j/\j<1073741824
noncomputable def CPow(i j:Int):Prop:=0<=j/\j<=1000000/\i.natAbs<2 ^ 64
noncomputable def CMul(i j:Int):Prop:=(-(2 ^ 64)<i/\i<2 ^ 64)∨(-(2 ^ 64)<j/\j<2 ^ 64)
theorem CMul.ok{i j:Int}(h:CMul i j):IntMulOk i j:=by
 rcases h with⟨h1,h2⟩ |⟨h1,h2⟩
 .exact .of_left (intBits_le_64 h1 h2)
 .exact .of_right (intBits_le_64 h1 h2)
theorem zaW:OpR X (binaryOp .Add) (rI0 λi j=>.int (i+j)):=opI0 λ_ _ _ _ _ _ _ q=>add_int q
theorem zdh:OpR X (binaryOp .Sub) (rI0 λi j=>.int (i-j)):=opI0 λ_ _ _ _ _ _ _ q=>sub_int q
theorem zdi:OpR X (binaryOp .Mult) (rI CMul λi j=>.int (i*j)):=opI λ_ _ _ _ _ _ _ hc q=>mul_int q hc.ok
theorem zfI:OpR X (binaryOp .FloorDiv) (rI CDiv λi j=>.int (i / j)):=opI λi j _ _ _ _ _ hc q=>by have h1:(0:Int)<j:=hc.1;have h2:j<1073741824:=hc.2;exact floordiv_int (by lia) (by rw[Int.fdiv_eq_ediv_of_nonneg i (by lia)];exact q) (.inl (PyProof.noPylong_small (by lia)))
theorem zaV:OpR X (binaryOp .Mod) (rI (λ_ j=>0<j) λi j=>.int (i % j)):=opI λi j _ _ _ _ _ hc q=>by have h1:(0:Int)<j:=hc;exact mod_int' (by lia) (by rw[Int.fmod_eq_emod_of_nonneg i (by lia)];exact q)
theorem zkh:OpR X (binaryOp .Pow) (rI CPow λi j=>.int (i ^ j.toNat)):=opI λ_ _ _ _ _ _ _ hc q=>pow_int_small hc.1 hc.2.1 hc.2.2 q
theorem unI{f:Ac -> Sem Ac}{g:Int -> Int}
  (rule:∀(i:Int) (t:Tok) (s:Ae) (Q:Ac->Ae->Prop) (E:Ac->Ae->Prop),Q (.int (g i) s.toks) { s with toks:=s.toks+1 }->Ak (An X.prog X.w) X.A (f (.int i t)) Q E s) :
  UnR X f (rU λi=>.int (g i)):=by
 intro pins s σ H x v Q I rx h;obtain⟨i,rfl,q⟩:=h;obtain⟨t,rfl⟩:=rx;exact rule i t s _ _ ⟨.int (g i),H,I.tok _,⟨_,rfl⟩,q⟩
theorem zmh:UnR X (unaryOp .USub) (rU λi=>.int (-i)):=unI λ_ _ _ _ _ q=>neg_int q
end
noncomputable def scal:V->V->Bool
 |.non,.non=>true |.non,.int _=>true |.int _,.non=>true |.non,.bl _=>true |.bl _,.non=>true |.non,.str _=>true |.str _,.non=>true
 |.int _,.int _=>true |.bl _,.bl _=>true |.str _,.str _=>true |.byt _,.byt _=>true
 |.int _,.str _=>true |.str _,.int _=>true |.bl _,.str _=>true |.str _,.bl _=>true
 |_,_=>false
noncomputable def rEq:R2:=λx y H Q=>scal x y=true/\Q (.bl (decide (x=y))) H
noncomputable def rNe:R2:=λx y H Q=>scal x y=true/\Q (.bl (!decide (x=y))) H
theorem zkX{i j:Int}:decide (V.int i=V.int j)=(i == j):=by rw[Ds];simp
theorem zmC{i j:Bool}:decide (V.bl i=V.bl j)=(i == j):=by rw[Ds];simp
theorem zkW{i j:Str}:decide (V.str i=V.str j)=(i == j):=by rw[Ds];simp
theorem zkY{i j:Array UInt8}:decide (V.byt i=V.byt j)=(i.toList == j.toList):=by
 rw[Ds]
 cases i
 cases j
 simp
section
variable {X:Cx}{a b c:Expr}{ta tb tc:TE}{pos:Pos}
theorem zaD{pins:List (Addr×Obj)}{σ:St}{H:Hp}{s:Ae}{Q:VK}{k k':Bool}(I:Inv X pins σ H s)(q:Q (.bl k) H)(e:k=k'):EP X pins σ Q (.bool k') s:=by subst e;exact⟨.bl k,H,I,rfl,q⟩
theorem op_eq:OpR X (Bw .Eq) rEq:=by
 intro pins s σ H x y v u Q I rx ry h;obtain⟨hs,q⟩:=h
 cases x with
 |non =>
  cases rx
  cases y with
  |non=>cases ry;exact PySem.EqNone.eq_none_none (zaD I q (by simp))
  |bl j=>cases ry;exact PySem.EqNone.eq_none_bool (zaD I q (by simp))
  |int j=>obtain⟨t',rfl⟩:=ry;exact PySem.EqNone.eq_none_int (zaD I q (by simp))
  |str j=>obtain⟨t',rfl⟩:=ry;exact PySem.EqNone.eq_none_str (zaD I q (by simp))
  |_=>exact absurd (show false=true from hs) AT
 |bl i =>
  cases rx
  cases y with
  |non=>cases ry;exact PySem.EqNone.eq_bool_none (zaD I q (by simp))
  |bl j=>cases ry;exact eq_bool (zaD I q zmC)
  |str j=>obtain⟨t',rfl⟩:=ry;exact PySem.EqMixed.eq_bool_str (zaD I q (by simp))
  |_=>exact absurd (show false=true from hs) AT
 |int i =>
  obtain⟨t,rfl⟩:=rx
  cases y with
  |non=>cases ry;exact PySem.EqNone.eq_int_none (zaD I q (by simp))
  |int j=>obtain⟨t',rfl⟩:=ry;exact eq_int (zaD I q zkX)
  |str j=>obtain⟨t',rfl⟩:=ry;exact PySem.EqMixed.eq_int_str (zaD I q (by simp))
  |_=>exact absurd (show false=true from hs) AT
 |str i =>
  obtain⟨t,rfl⟩:=rx
  cases y with
  |non=>cases ry;exact PySem.EqNone.eq_str_none (zaD I q (by simp))
  |bl j=>cases ry;exact PySem.EqMixed.eq_str_bool (zaD I q (by simp))
  |int j=>obtain⟨t',rfl⟩:=ry;exact PySem.EqMixed.eq_str_int (zaD I q (by simp))
  |str j=>obtain⟨t',rfl⟩:=ry;exact eq_str (zaD I q zkW)
  |_=>exact absurd (show false=true from hs) AT
 |byt i =>
  obtain⟨t,rfl⟩:=rx
  cases y with
  |byt j=>obtain⟨t',rfl⟩:=ry;exact W.eq_bytes (zaD I q zkY)
  |_=>exact absurd (show false=true from hs) AT
 |_=>cases y <;> exact absurd (show false=true from hs) AT
theorem op_ne:OpR X (Bw .NotEq) rNe:=by
 intro pins s σ H x y v u Q I rx ry h;obtain⟨hs,q⟩:=h
 cases x with
 |non =>
  cases rx
  cases y with
  |non=>cases ry;exact PySem.EqNone.ne_none_none (zaD I q (by simp))
  |bl j=>cases ry;exact PySem.EqNone.ne_none_bool (zaD I q (by simp))
  |int j=>obtain⟨t',rfl⟩:=ry;exact PySem.EqNone.ne_none_int (zaD I q (by simp))
  |str j=>obtain⟨t',rfl⟩:=ry;exact PySem.EqNone.ne_none_str (zaD I q (by simp))
  |_=>exact absurd (show false=true from hs) AT
 |bl i =>
  cases rx
  cases y with
  |non=>cases ry;exact PySem.EqNone.ne_bool_none (zaD I q (by simp))
  |bl j=>cases ry;exact ne_bool (zaD I q (congrArg not zmC))
  |str j=>obtain⟨t',rfl⟩:=ry;exact PySem.EqMixed.ne_bool_str (zaD I q (by simp))
  |_=>exact absurd (show false=true from hs) AT
 |int i =>
  obtain⟨t,rfl⟩:=rx
  cases y with
  |non=>cases ry;exact PySem.EqNone.ne_int_none (zaD I q (by simp))
  |int j=>obtain⟨t',rfl⟩:=ry;exact ne_int (zaD I q (congrArg not zkX))
  |str j=>obtain⟨t',rfl⟩:=ry;exact PySem.EqMixed.ne_int_str (zaD I q (by simp))
  |_=>exact absurd (show false=true from hs) AT
 |str i =>
  obtain⟨t,rfl⟩:=rx
  cases y with
  |non=>cases ry;exact PySem.EqNone.ne_str_none (zaD I q (by simp))
  |bl j=>cases ry;exact PySem.EqMixed.ne_str_bool (zaD I q (by simp))
  |int j=>obtain⟨t',rfl⟩:=ry;exact PySem.EqMixed.ne_str_int (zaD I q (by simp))
  |str j=>obtain⟨t',rfl⟩:=ry;exact ne_str (zaD I q (congrArg not zkW))
  |_=>exact absurd (show false=true from hs) AT
 |byt i =>
  obtain⟨t,rfl⟩:=rx
  cases y with
  |byt j=>obtain⟨t',rfl⟩:=ry;exact W.ne_bytes (zaD I q (congrArg not zkY))
  |_=>exact absurd (show false=true from hs) AT
 |_=>cases y <;> exact absurd (show false=true from hs) AT
theorem op_lt:OpR X (Bw .Lt) (rI0 λi j=>.bl (decide (i<j))):=opB0 λ_ _ _ _ _ _ _ q=>lt_int q
theorem op_le:OpR X (Bw .LtE) (rI0 λi j=>.bl (decide (i<=j))):=opB0 λ_ _ _ _ _ _ _ q=>le_int q
theorem op_gt:OpR X (Bw .Gt) (rI0 λi j=>.bl (decide (j<i))):=opB0 λ_ _ _ _ _ _ _ q=>gt_int q
theorem op_ge:OpR X (Bw .GtE) (rI0 λi j=>.bl (decide (j<=i))):=opB0 λ_ _ _ _ _ _ _ q=>ge_int q
theorem zkk:OpR X (Bw .Is) (λx y H Q=>y=.non/\Q (.bl (decide (x=.non))) H):=by
 intro pins s σ H x y v u Q I rx ry h;obtain⟨rfl,q⟩:=h
 cases ry
 refine is_none_gen (zaD I q ?_)
 cases x <;> first
  | (cases rx;rfl)
  | (obtain⟨t,rfl⟩:=rx;rfl)
theorem zep:OpR X (Bw .IsNot) (λx y H Q=>y=.non/\Q (.bl (!decide (x=.non))) H):=by
 intro pins s σ H x y v u Q I rx ry h;obtain⟨rfl,q⟩:=h
 cases ry
 refine isnot_none_gen (zaD I q ?_)
 cases x <;> first
  | (cases rx;rfl)
  | (obtain⟨t,rfl⟩:=rx;rfl)
theorem zau(b:Expr){op:CmpOp}(h:op≠.In:=by decide)(h2:op≠.NotIn:=by decide):Ew op b=false:=by
 have e1:(op == CmpOp.In)=false:=by cases op <;> first |rfl |exact absurd rfl h
 have e2:(op == CmpOp.NotIn)=false:=by cases op <;> first |rfl |exact absurd rfl h2
 cases b <;> simp[Ew,e1,e2]
theorem zbH{op:CmpOp}{r:R2}(ho:OpR X (Bw op) r)(ha:PE X a ta)(hb:PE X b tb)(hm:Ew op b=false):PE X (.Compare a [op] [b] pos) (tOp r ta tb):=by intro pins s σ H Q I h;exact wpAny_Compare1 (binT ha hb I h λv u s2 x y H2 I2 rx ry q=>ho pins s2 σ H2 x y v u Q I2 rx ry q) hm
noncomputable def tTest(t:TE):TT:=λσ H Q=>t σ H λx H'=>∃k,x=.bl k/\Q k H'
theorem zax{op:CmpOp}{r:R2}(ho:OpR X (Bw op) r)(ha:PE X a ta)(hb:PE X b tb)(hm:Ew op b=false):PT X (.Compare a [op] [b] pos) (tTest (tOp r ta tb)):=by
 intro pins s σ H Q I h
 refine wpAny_isTrue_Compare1 (thn (ha pins s σ H _ I h) λv s1 ⟨x,H1,I1,r1,q1⟩=>thn (hb pins s1 σ H1 _ I1 q1) λu s2 ⟨y,H2,I2,r2,q2⟩ =>
  thn (ho pins s2 σ H2 x y v u _ I2 r1 r2 q2) λc s3 ⟨z,H3,I3,r3,k,e,q3⟩=>?_) hm
 subst e
 cases r3
 exact Co ⟨H3,I3,q3⟩
noncomputable def znK(r r':R2)(ta tb tc:TE):TE:=λσ H Q=>ta σ H λx H1=>tb σ H1 λy H2=>r x y H2 λz H3=>∃k,z=.bl k /\
 (if k=true then tc σ H3 λw' H4=>r' y w' H4 Q else Q (.bl false) H3)
theorem zlL{op op':CmpOp}{r r':R2}(ho:OpR X (Bw op) r)(ho':OpR X (Bw op') r')(ha:PE X a ta)(hb:PE X b tb)(hc:PE X c tc)
  (hm:lastMarks [op,op'] [b,c]=false:=by with_unfolding_all rfl):PE X (.Compare a [op,op'] [b,c] pos) (znK r r' ta tb tc):=by
 intro pins s σ H Q I h
 refine Compare_chain (thn (ha pins s σ H _ I h) λv s1 ⟨x,H1,I1,r1,q1⟩=>chain_link (thn (hb pins s1 σ H1 _ I1 q1) λu s2 ⟨y,H2,I2,r2,q2⟩ =>
  thn (ho pins s2 σ H2 x y v u _ I2 r1 r2 q2) λd s3 ⟨z,H3,I3,r3,k,e,q3⟩=>?_)) hm
 subst e
 cases r3
 refine Co ?_
 cases k with
 |false=>exact ite_ff ⟨.bl false,H3,I3,rfl,q3⟩
 |true=>exact ite_tt (chain_last (thn (hc pins s3 σ H3 _ I3 q3) λw' s4 ⟨z',H4,I4,r4,q4⟩=>ho' pins s4 σ H4 y z' u w' Q I4 r2 r4 q4))
noncomputable def TruV(K:W.Frag)(x:V)(H:Hp)(k:Bool):Prop :=
 match x with
 |.non=>k=false
 |.bl b=>k=b
 |.int i=>k=(i != 0)
 |.str y=>y.length<=sizeLine/\k=((y.length:Int) != 0)
 |.byt y=>y.size<=sizeLine/\k=((y.size:Int) != 0)
 |.ref p=>(∃xs,SqL K H p xs/\k=!xs.isEmpty)∨(∃xs,SqT K H p xs/\k=!xs.isEmpty)∨∃kvs,H p=some (.dK kvs)/\k=!kvs.isEmpty
 |_=>False
theorem zi9{κ:Type}{kvs:List (κ×V)}{vs:List (κ×Ac)}(r:KV kvs vs):(!vs.isEmpty)=!kvs.isEmpty:=by
 cases r <;> rfl
theorem zfc{xs:List V}{its:List Ac}(r:Vals xs its):(!its.toArray.isEmpty)=!xs.isEmpty:=by
 cases r <;> simp
theorem zim:(sizeLine:Nat)<2 ^ 63:=by rw[Dg];decide
theorem znx:TruR X (λx H Q=>∃k,TruV X.K x H k/\Q k H):=by
 intro pins s σ H x v Q I rx h;obtain⟨k,e,q⟩:=h;have hl:=zim;have hs:sizeLine=16777216:=Dg
 cases x with
 |non =>
  cases rx
  have e':k=false:=e;subst e';exact truthy_none ⟨H,I,q⟩
 |bl b =>
  cases rx
  have e':k=b:=e;subst e';exact Co ⟨H,I,q⟩
 |int i =>
  obtain⟨t,rfl⟩:=rx;have e':k=(i != 0):=e;subst e';exact PySem.P.truthy_int ⟨H,I,q⟩
 |str y =>
  obtain⟨t,rfl⟩:=rx;obtain⟨hy,e'⟩:y.length<=sizeLine/\k=((y.length:Int) != 0):=e;subst e';exact PySem.P.truthy_str (by lia) ⟨H,I.tok _,q⟩
 |byt y =>
  obtain⟨t,rfl⟩:=rx;obtain⟨hy,e'⟩:y.size<=sizeLine/\k=((y.size:Int) != 0):=e;subst e';exact W.truthy_bytes (by lia) ⟨H,I.tok _,q⟩
 |ref p =>
  cases rx
  have e':(∃xs,SqL X.K H p xs/\k=!xs.isEmpty)∨(∃xs,SqT X.K H p xs/\k=!xs.isEmpty)∨∃kvs,H p=some (.dK kvs)/\k=!kvs.isEmpty:=e;rcases e' with⟨xs,hx,e'⟩ |⟨xs,hx,e'⟩ |⟨kvs,hx,e'⟩
  .subst e';obtain⟨its,r,pl,hz⟩:=I.list hx;have hlen:=r.length;exact wpAny_truthy_list pl.isList (by simp only[AF];lia) ⟨H,I.tok _,by rw[zfc r];exact q⟩
  .subst e';obtain⟨its,r,pl,hz⟩:=I.tuple hx;have hlen:=r.length;exact truthy_tuple pl (by simp only[AF];lia) ⟨H,I.tok _,by rw[zfc r];exact q⟩
  .subst e';obtain⟨hz,hS,vs,r,m⟩:kvs.length<=sizeLine/\(p == BP)=false/\∃vs,KV kvs vs/\s.heap.DictOf (zay X.prog X.w) p vs:=I.hok p _ hx;have hlen:kvs.length=vs.length:=CB r;exact wpAny_truthy_dict hS m (by lia) ⟨H,I.tok _,by rw[zi9 r];exact q⟩
 |_=>exact (show False from e).elim
theorem zlA(ha:PE X a ta)(he:∀whole, isTrue a X.env whole=(do let v <- whole; standAt a.pos; holding [v] (truthy v))) :
  PT X a (λσ H Q=>ta σ H λx H'=>∃k,TruV X.K x H' k/\Q k H'):=by
 intro pins s σ H Q I h;exact isTrue_plain (thn (ha pins s σ H _ I h) λv s1 ⟨x,H1,I1,r1,q1⟩=>znx pins s1 σ H1 x v Q I1 r1 q1) (he _)
theorem vals1{x:V}{us:List Ac}(r:Vals [x] us):∃u,us=[u]/\RelV x u:=by
 cases r with
 |cons r1 r2=>cases r2;exact⟨_,rfl,r1⟩
theorem vals2{x y:V}{us:List Ac}(r:Vals [x,y] us):∃u w',us=[u,w']/\RelV x u/\RelV y w':=by
 cases r with
 |cons r1 r2 =>
  cases r2 with
  |cons r3 r4=>cases r4;exact⟨_,_,rfl,r1,r3⟩
theorem zla (hc:X.calm=true):CallR X (.builtin "min") (λxs H Q=>∃i j,xs=[.int i,.int j]/\Q (.int (if j<i then j else i)) H):=by
 intro pins s σ H xs us Q I r h;obtain⟨i,j,rfl,q⟩:=h;obtain⟨u,w',rfl,⟨t,rfl⟩,⟨t',rfl⟩⟩:=vals2 r;refine min_two_ints (I.ok.hd hc) λh' tk k=>⟨_,H,I.kept k,?_,q⟩
 by_cases hj:j<i
 .rw[if_pos hj,if_pos hj];exact⟨_,rfl⟩
 .rw[if_neg hj,if_neg hj];exact⟨_,rfl⟩
end
structure ObjM (h:Heap) (x dx C:Addr) (mA:Str->Option Ac):Prop where
 obj:h.get? x=some (W.instObj C dx)
 ns:h.Ns1 dx mA
 ne:dx≠x
theorem zku{h:Heap}{dx:Addr}{mA:Str->Option Ac}(n:h.Ns1 dx mA):∃od,h.get? dx=some od/\∀name,W.lookIn name od=some (mA name):=by
 obtain⟨o,es,ep,ho,hd,hk,_,hm⟩:=n;refine⟨o,ho,λname=>?_⟩;have e:=hm name;unfold nsFind findBy at e;rw[<- Array.find?_toList]at e;unfold W.lookIn;rw[hd];dsimp only;split
 .rename_i y q
  rw[q]at e;exact congrArg some e
 .rename_i q
  rw[q]at e
  have a:es.toList.any (·.refKey)=false:=by rw[List.any_eq_false];intro y hy;obtain⟨z,t,hkey⟩:=hk y (Array.mem_toList_iff.mp hy);simp[DictEntry.refKey,hkey]
  have a':¬ es.toList.any (·.refKey)=true:=by rw[a];exact AT
  rw[if_neg a'];exact congrArg some e
theorem ObjM.look{h:Heap}{x dx C:Addr}{mA:Str->Option Ac}(I:ObjM h x dx C mA):∃od,W.InstAt h x (W.instObj C dx) C (some od)/\∀name,W.lookIn name od=some (mA name) :=
 let ⟨od,ho,hl⟩:=zku I.ns
 ⟨od,⟨I.obj,rfl,rfl,ho⟩,hl⟩
section
variable {prog:AQ}{w:Bg}{A:AY}{E:Ac->Ae->Prop}{s:Ae}{K:W.Frag}{x dx C f:Addr}{mA:Str->Option Ac}{name:Str}{v:Ac}
end
theorem RelO.some_of{v:V}{o:Option Ac}(r:RelO (some v) o):∃u,o=some u/\RelV v u:=by
 cases o with
 |none=>exact (show False from r).elim
 |some u=>exact⟨u,rfl,r⟩
section
variable {P:AQ}{w:Bg}{H H':Hp}{h h':Heap}{a C dx:Addr}{fs fs':List (Str×V)}
theorem znk(hok:HOk P w H h)(e:H a=some (.ins C dx fs)):∃mA,ObjM h a dx C mA/\(∀f,RelO (fs.lookup f) (mA f))/\PySem.Within mA (fs.map (·.1))/\fs.length<=1000/\H dx=some (.own a):=by obtain⟨d,z,ne,ob,mA,n,r,q⟩:=(show ObjOk P w H h a (.ins C dx fs) from hok a _ e);exact⟨mA,⟨ob,n,ne⟩,r,q,z,d⟩
end
structure Cls (K:W.Frag) (C:Addr):Prop where
 pg:W.plainGet K C Str.empty=true
 hd:W.hasDictIn K C=true
 po:W.plainOver K C=true
 sa:W.findIn K (.ref C) "__setattr__" = some (some (.builtin "object.__setattr__"))
theorem Cls.get{K:W.Frag}{C:Addr}(c:Cls K C)(f:Str):W.plainGet K C f=true:=c.pg
structure Con (K:W.Frag) (C:Addr) (f:Str) (v:V) (u:Ac):Prop where
 at_:W.findIn K (.ref C) f=some (some u)
 rel:RelV v u
 get:W.specialIn K u "__get__" = some none
 cp:W.copiedNames.contains f=false
structure Meth (K:W.Frag) (C:Addr) (m:Str) (f:Addr):Prop where
 at_:W.findIn K (.ref C) m=some (some (.ref f))
 fn:W.isFn K (.ref f)=true
 kp:W.keepIn K (.ref f)=true
section
variable {X:Cx}{pins:List (Addr×Obj)}{σ:St}{H:Hp}{s:Ae}{a C dx:Addr}{fs:List (Str×V)}{f:Str}{v:V}{A:AY}{E:Ac->Ae->Prop}
end
section
variable {X:Cx}{o e value:Expr}{f:Str}{pos pos' tpos:Pos}{ta tv:TE}
end
section
variable {X:Cx}{pins:List (Addr×Obj)}{σ:St}{H:Hp}{s:Ae}{A:AY}{E:Ac->Ae->Prop}{Q:Ac->Ae->Prop}{c:Ac}{b:Bool}
inductive TyOf (K:W.Frag) (H:Hp):V->Ac->Prop where
  |non:TyOf K H .non (.type "NoneType")
  |bl (x:Bool):TyOf K H (.bl x) (.type "bool")
  |int (i:Int):TyOf K H (.int i) (.type "int")
  |str (x:Str):TyOf K H (.str x) (.type "str")
  |flt (x:UInt64):TyOf K H (.flt x) (.type "float")
  |lst {a:Addr} {xs:List V} (e:H a=some (.lst xs)):TyOf K H (.ref a) (.type "list")
  |frz {a:Addr} {o:Obj} {xs:List V} (e:H a=some (.frz o (.lst xs))):TyOf K H (.ref a) (.type "list")
  |tup {a:Addr} {xs:List V} (e:H a=some (.tup xs)):TyOf K H (.ref a) (.type "tuple")
  |dK {a:Addr} {kvs:List (Key×V)} (e:H a=some (.dK kvs)):TyOf K H (.ref a) (.type "dict")
  |dT {a:Addr} {kvs:List (List Key×V)} (e:H a=some (.dT kvs)):TyOf K H (.ref a) (.type "dict")
  |ins {a C dx:Addr} {fs:List (Str × V)} (e:H a=some (.ins C dx fs)) (cl:Cls K C) (ha:W.findIn K (.ref C) "__class__" = some (some (.builtin "object.__class__")))
      (hn:W.specialIn K (.builtin "object.__class__") "__get__" = some (some (.builtin "getset_descriptor.__get__"))) (htk:W.takesIn K (.builtin "object.__class__")=some true)
      (hm:W.mroIn K C (.type "object")=some true):TyOf K H (.ref a) (.ref C)
theorem zkG{x:V}{u t:Ac}(I:Inv X pins σ H s)(rx:RelV x u)(ty:TyOf X.K H x t)(e:W.kitOne X.K t c=some b)(h:∀tk, Q (.bool b) { s with toks := tk }) :
  Ak (An X.prog X.w) A (call (.builtin "isinstance") [u,c]) Q E s:=by
 cases ty with
 |non=>cases (show u=B8 from rx);exact D6 W.kitx_none I.kIn CD e (λz=>nomatch z) h
 |bl y=>cases (show u=EN y from rx);exact D6 W.kitx_bool I.kIn CD e (λz=>nomatch z) h
 |int i=>obtain⟨t,q⟩:=(show ∃t,u=DM i t from rx);cases q;exact D6 W.kitx_int I.kIn CD e (λz=>nomatch z) h
 |str y=>obtain⟨t,q⟩:=(show ∃t,u=Value.str y t from rx);cases q;exact D6 W.kitx_str I.kIn CD e (λz=>nomatch z) h
 |flt y=>obtain⟨t,q⟩:=(show ∃t,u=Value.float y t from rx);cases q;exact D6 W.kitx_float I.kIn CD e (λz=>nomatch z) h
 |@lst a xs ea =>
  cases (show u=Au a from rx)
  obtain⟨_,_,n,_,h1⟩:=(show ObjOk X.prog X.w H s.heap a (.lst xs) from I.hok a _ ea);exact D6 W.kitx_list I.kIn ⟨_,h1,rfl⟩ e (λz=>nomatch z) h
 |@frz a ob xs ea =>
  cases (show u=Au a from rx)
  obtain⟨_,_,_,n,_,h1⟩:=(show ObjOk X.prog X.w H s.heap a (.frz ob (.lst xs)) from I.hok a _ ea);exact D6 W.kitx_list I.kIn ⟨_,h1,rfl⟩ e (λz=>nomatch z) h
 |@tup a xs ea =>
  cases (show u=Au a from rx)
  obtain⟨_,_,_,p⟩:=(show ObjOk X.prog X.w H s.heap a (.tup xs) from I.hok a _ ea);obtain⟨o,h1,h2,_⟩:=p;exact D6 W.kitx_tuple I.kIn ⟨o,h1,h2⟩ e (λz=>nomatch z) h
 |@dK a kvs ea =>
  cases (show u=Au a from rx)
  obtain⟨_,_,vs,_,p⟩:=(show ObjOk X.prog X.w H s.heap a (.dK kvs) from I.hok a _ ea);obtain⟨o,es,ep,h1,h2,_⟩:=p;exact D6 W.kitx_dict I.kIn ⟨o,h1,h2.1⟩ e (λz=>nomatch z) h
 |@dT a kvs ea =>
  cases (show u=Au a from rx)
  obtain⟨_,_,xs,_,o,es,ep,h1,h2,_⟩:=(show ObjOk X.prog X.w H s.heap a (.dT kvs) from I.hok a _ ea);exact D6 W.kitx_dict I.kIn ⟨o,h1,h2.1⟩ e (λz=>nomatch z) h
 |@ins a C dx fs ea cl ha hn htk hm =>
  cases (show u=Au a from rx)
  obtain⟨mA,O,_⟩:=znk I.hok ea;obtain⟨od,J,_⟩:=O.look;exact D6 (W.kitx_own (cl.get _) cl.hd ha hn htk hm) I.kIn J e (λz=>nomatch z) h
end
structure Room (k:Nat) (A:AY):Prop where
 hd:A.handled=none
 dp:A.depth+3*k+5<recursionLimit
 un:A.units+16*k+200<cLine
theorem Room.mono{j k:Nat}{A:AY}(r:Room k A)(h:j<=k):Room j A:=⟨r.hd,by have:=r.dp;lia,by have:=r.un;lia⟩
theorem Room.deeper{k:Nat}{A:AY}(r:Room (k+1) A)(env:Env):Room k (A.deeper env) :=
 ⟨r.hd,by have:=r.dp;show A.depth+1+3*k+5<_;lia,by have:=r.un;show A.units+3+16*k+200<_;lia⟩
theorem Room.in1{k:Nat}{A:AY}(r:Room (k+1) A):Room k A.in1 :=
 ⟨r.hd,by have:=r.dp;show A.depth+3*k+5<_;lia,by have:=r.un;show A.units+1+16*k+200<_;lia⟩
theorem Room.depth{k:Nat}{A:AY}(r:Room k A):A.depth<recursionLimit:=by have:=r.dp;lia
theorem Room.units{k:Nat}{A:AY}(r:Room k A):A.units+64<cLine:=by have:=r.un;lia
theorem Room.units0{k:Nat}{A:AY}(r:Room k A):A.units<cLine:=by have:=r.un;lia
noncomputable def tNil:TA:=λ_ H Q=>Q [] H
noncomputable def tCons(ta:TE)(tr:TA):TA:=λσ H Q=>ta σ H λx H1=>tr σ H1 λxs H2=>Q (x::xs) H2
section
variable {X:Cx}{e:Expr}{es:List Expr}{te:TE}{t:TA}{pos:Pos}
theorem zab:PA X [] tNil:=λ_ _ _ _ H Q I h=>Du ⟨[],H,I,.nil,h⟩
theorem zai(ha:PE X e te)(hr:PA X es t)(hs:Bh (e::es) X.env=(false,eval e X.env)::Bh es X.env:=by rfl):PA X (e::es) (tCons te t):=by intro pos pins s σ H Q I h;rw[hs];show Ak _ _ (spliced ((false,eval e X.env)::EO pos (Bh es X.env))) _ _ s;refine B4 (thn (ha pins s σ H _ I h) λu s1 ⟨x,H1,I1,r1,q1⟩=>?_);exact thn (hr pos pins s1 σ H1 _ I1 q1) λus s2 ⟨xs,H2,I2,r2,q2⟩=>⟨x::xs,H2,I2,.cons r1 r2,q2⟩
noncomputable def tTup(t:TA):TE:=λσ H Q=>t σ H λxs H1=>xs.length<=sizeLine/\∀p,H1 p=none->Q (.ref p) (upd H1 p (.tup xs))
noncomputable def tLst(t:TA):TE:=λσ H Q=>t σ H λxs H1=>xs.length<=sizeLine/\∀p,H1 p=none->Q (.ref p) (upd H1 p (.lst xs))
theorem zaO{x1}(h:PA X es t):PE X (.Tuple es x1 pos) (tTup t):=by intro pins s σ H Q I hq;refine wpAny_Tuple_spliced (thn (h pos pins s σ H _ I hq) λus s1 ⟨xs,H1,I1,r,z,q⟩=>⟨by rw[<- r.length];exact z,?_⟩);have hf:H1 s1.heap.objs.size=none:=I1.hok.fresh (Ai _);refine⟨.ref s1.heap.objs.size,upd H1 s1.heap.objs.size (.tup xs),I1.laid (t':=s1.toks) (λb u e=>Ag _ e) (Ai _) ?_,rfl,q _ hf⟩;exact⟨z,us,r,⟨_,At _ rfl,rfl,_,rfl⟩⟩
theorem zbw(h:PA X es t):PE X (.List es pos) (tLst t):=by intro pins s σ H Q I hq;refine wpAny_List_spliced (thn (h pos pins s σ H _ I hq) λus s1 ⟨xs,H1,I1,r,z,q⟩=>⟨by rw[<- r.length];exact z,?_⟩);have hf:H1 s1.heap.objs.size=none:=I1.hok.fresh (Ai _);refine⟨.ref s1.heap.objs.size,upd H1 s1.heap.objs.size (.lst xs),I1.laid (t':=s1.toks) (λb u e=>Ag _ e) (Ai _) ?_,rfl,q _ hf⟩;exact⟨z,us,0,r,At _ rfl⟩
end
noncomputable abbrev Sp:=List V->Hp->VK->XK->Prop
noncomputable abbrev CXT:=List Env->Hp->Ae->XK->Ac->Ae->Prop
structure Env0 (P:AQ) (w:Bg) (K:W.Frag) (mg:Str->Option Ac) (base:Heap) (A:AY) (outer:List Env) (s:Ae) (H:Hp):Prop where
 frames:A.frames=some outer
 mod:Mod K mg base
 bs:∀b o,base.get? b=some o->s.heap.get? b=some o/\H b=none
 bsz:base.objs.size<=s.heap.objs.size
 funs:s.heap.FunFrames base outer
 frf:∀b∈frs outer,H b=none
 hok:HOk P w H s.heap
 bare:AllBare s.gens
noncomputable def CE(outer:List Env)(P:AQ)(w:Bg)(H:Hp)(s:Ae)(Q:VK)(u:Ac)(s':Ae):Prop :=
 ∃v H',s'.os=s.os/\AllBare s'.gens/\Un (frs outer) [] H H' s.heap s'.heap/\HOk P w H' s'.heap/\RelV v u/\Q v H'
noncomputable def CR(CX:CXT)(outer:List Env)(P:AQ)(w:Bg)(H:Hp)(s:Ae)(Q:VK)(E:XK)(r:Result)(s':Ae):Prop :=
 match r with
 |.ok (.ret u)=>CE outer P w H s Q u s'
 |.ok _=>False
 |.error e=>CX outer H s E e s'
structure FnOk (P:AQ) (w:Bg) (K:W.Frag) (mg:Str->Option Ac) (base:Heap) (CX:CXT) (k:Nat) (f:Addr) (fd:Cc) (ps:List Str) (sp:Sp):Prop where
 len:∀vs H Q E,sp vs H Q E->vs.length=ps.length
 run:∀(A:AY) (outer:List Env) (s:Ae) (H:Hp) (args:Args) (us:List Ac) (vs:List V) (Q:VK) (E:XK),Room k A->Env0 P w K mg base A outer s H->BindsTo s fd args (ps.zip us)->Vals vs us->sp vs H Q E ->
  CT (An P w) A (.call (.ref f) args) (CR CX outer P w H s Q E) s
theorem Env0.in1{P:AQ}{w:Bg}{K:W.Frag}{mg:Str -> Option Ac}{base:Heap}{A:AY}{outer:List Env}{s:Ae}{H:Hp}(e:Env0 P w K mg base A outer s H) :
  Env0 P w K mg base A.in1 outer s H:=⟨e.frames,e.mod,e.bs,e.bsz,e.funs,e.frf,e.hok,e.bare⟩
section
variable {X:Cx}{pins:List (Addr×Obj)}{σ:St}{H:Hp}{s s':Ae}
theorem Inv.env0(I:Inv X pins σ H s):Env0 X.prog X.w X.K X.mg X.base X.A X.stack s H :=
 ⟨I.ok.frames,I.ok.mod,I.bs,A3 I.ok.bsz I.sz,I.stack,I.stkFree,I.hok,I.bare⟩
theorem Inv.after{Q:VK}{u:Ac}(I:Inv X pins σ H s)(h:CE X.stack X.prog X.w H s Q u s'):EP X pins σ Q u s':=by obtain⟨v,H',os,bare,un,hok,r,q⟩:=h;obtain⟨hh,g,d,t,os'⟩:=s';obtain rfl:os'=s.os:=os;exact⟨v,H',I.call (h':=hh) (g':=g) (d':=d) (t':=t) (ch:=[]) un hok bare (λb z=>absurd z (by simp)),r,q⟩
end
noncomputable def tCall(sp:Sp)(dvs:List V)(E:XK)(t:TA):TE:=λσ H Q=>t σ H λvs H1=>sp (vs++dvs) H1 Q E
noncomputable def Binds(K:W.Frag)(fd:Cc)(ps:List Str)(ds:List Ac):Prop :=
 ∀(s:Ae) (us:List Ac),K.In s.heap->(us++ds).length=ps.length->BindsTo s fd ⟨us,[]⟩ (ps.zip (us++ds))
theorem Binds.all{K:W.Frag}{fd:Cc}{ps:List Str}(h:∀us:List Ac,us.length=ps.length->Ex fd ⟨us,[]⟩=pure (ps.zip us)):Binds K fd ps []:=λs us _ hl=>by rw[BJ]at hl ⊢;exact .of_eq (h us hl)
noncomputable def zld(CX:CXT)(X:Cx)(E:XK):Prop:=∀(pins:List (Addr×Obj)) (σ:St) (H:Hp) (s:Ae) (e:Ac) (s':Ae),Inv X pins σ H s->CX X.stack H s E e s'->X.xe e s'
section
variable {X:Cx}{CX:CXT}{k:Nat}{f C:Addr}{fd:Cc}{ps:List Str}{sp:Sp}{dvs:List V}{ds:List Ac}{E:XK}{x m:Str}{p pos apos:Pos}{e o:Expr}{es:List Expr}{ta:TE}{t:TA}
theorem znU{pins:List (Addr × Obj)}{σ : St}{H:Hp}{s:Ae}{Q:VK}{us:List Ac}{vs:List V}(F:FnOk X.prog X.w X.K X.mg X.base CX k f fd ps sp)(hr:Room k X.A)(hb:Binds X.K fd ps ds)(hd:Vals dvs ds)(hx:zld CX X E)
  (I:Inv X pins σ H s) (r:Vals vs us) (h:sp (vs++dvs) H Q E):Ak (An X.prog X.w) X.A (call (.ref f) us) (EP X pins σ Q) X.xe s:=by
 have r2:Vals (vs++dvs) (us++ds):=r.append hd;have hl:(us++ds).length=ps.length:=by rw[<- r2.length];exact F.len _ _ _ _ h
 refine wpAny_call (Ek (F.run X.A X.stack s H ⟨us,[]⟩ (us++ds) (vs++dvs) Q E hr I.env0 (hb s us I.kIn hl) r2 h) λr s' hq=>?_)
 cases r with
 |error e=>exact hx pins σ H s e s' I hq
 |ok fl =>
  cases fl with
  |ret u=>exact I.after hq
  |next=>exact BD hq
  |brk=>exact BD hq
  |cont=>exact BD hq
theorem zm0(F:FnOk X.prog X.w X.K X.mg X.base CX k f fd ps sp)(hr:Room k X.A)(hg:Gl X x)(hm:X.mg x=some (.ref f))(hk:W.keepIn X.K (.ref f)=true)(hb:Binds X.K fd ps ds)(hd:Vals dvs ds)(hx:zld CX X E)
  (ha:PA X (e::es) t) (hdb:(x == ("__debug__" : Str))=false:=by decide) (he:Bh (e::es) X.env=(false,eval e X.env)::Bh es X.env:=by rfl) (hpl:(EO pos (Bh es X.env)).any (·.1)=false:=by rfl) :
  PE X (.Call (.Name x p) (e::es) [] pos) (tCall sp dvs E t):=by
 intro pins s σ H Q I h;refine Cw (zkx I hg hm ?_ hdb);refine W.callWith_K (h₀:=X.base) I.ok.mod.kin hk (thn (ha pos pins s σ H _ I h) λus s1 ⟨vs,H1,I1,r,q⟩=>⟨I1.kIn,?_⟩) he hpl;exact znU F hr hb hd hx I1 r q
structure Mk (K:W.Frag) (C f:Addr):Prop where
 makes:W.makesIn K C=true
 init:W.findIn K (.ref C) "__init__" = some (some (.ref f))
 fn:W.isFn K (.ref f)=true
 kp:W.keepIn K (.ref C)=true
end
noncomputable def PK(X:Cx)(kws:List Keyword)(t:TA):Prop :=
 ∀(pos:Pos) (pins:List (Addr×Obj)) (s:Ae) (σ:St) (H:Hp) (Q:List V->Hp->Prop),Inv X pins σ H s->t σ H Q->Ak (An X.prog X.w) X.A (evalAll ((DN pos (Cz kws X.env)).map (·.2))) (AP X pins σ Q) X.xe s
section
variable {X:Cx}{CX:CXT}{k:Nat}{f C:Addr}{fd:Cc}{ps ks:List Str}{sp:Sp}{E:XK}{x m:Str}{p pos apos kpos:Pos}{e o:Expr}{es:List Expr}{kws:List Keyword}{te ta:TE}{t tk:TA}{nm:Option Str}
theorem zj9:PK X [] tNil:=λ_ _ _ _ H Q I h=>wpAny_evalAll_nil ⟨[],H,I,.nil,h⟩
theorem zhy(ha:PE X e te)(hr:PK X kws t):PK X (⟨nm,e,kpos⟩::kws) (tCons te t):=by intro pos pins s σ H Q I h;show Ak _ _ (evalAll ((do let v <- eval e X.env;standAt pos;pure v)::(DN pos (Cz kws X.env)).map (·.2))) _ _ s;refine wpAny_evalAll_cons (Aa (thn (ha pins s σ H _ I h) λu s1 ⟨x,H1,I1,r1,q1⟩=>Aa (De (Af ?_))));exact thn (hr pos pins s1 σ H1 _ I1 q1) λus s2 ⟨xs,H2,I2,r2,q2⟩=>⟨x::xs,H2,I2,.cons r1 r2,q2⟩
structure KBinds (K:W.Frag) (fd:Cc) (ps ks:List Str) (g:List Ac->List Ac->List Ac) (gV:List V->List V->List V):Prop where
 to:∀(s:Ae) (us ws:List Ac),K.In s.heap->(g us ws).length=ps.length->BindsTo s fd ⟨us,ks.zip ws⟩ (ps.zip (g us ws))
 rel:∀{vs:List V} {us:List Ac} {zs:List V} {ws:List Ac},Vals vs us->Vals zs ws->Vals (gV vs zs) (g us ws)
variable {g:List Ac->List Ac->List Ac}{gV:List V->List V->List V}
end
structure FnScope (N P:List Str) (sc:Scope):Prop where
 kind:sc.kind=.function
 co:sc.isCoroutine=false
 gen:sc.isGenerator=false
 nd:N.Nodup
 pre:N.take P.length=P
 par:∀x∈P,sc.names.lookup x=some .local∨sc.names.lookup x=some .cell
 nofree:∀y∈sc.names,y.2≠.free
theorem zg5{kindOf:Str->Option NameKind}{x:Str}:∀{binds:List (Str×Ac)}{m:Str->Option Ac},(∀v,(x,v) ∉ binds)->bindL kindOf binds m x=m x
 |[],_,_=>rfl
 | (n,v)::r,m,h=>by
  unfold bindL;rw[zg5 λw hw=>h w (As _ hw)];split
  .have:x≠n:=by rintro rfl;exact h v Ap
   simp[this]
  .rfl
theorem zg7{kindOf:Str->Option NameKind}{x:Str}:∀{binds:List (Str×Ac)}{m:Str->Option Ac},(∀v,(x,v) ∉ binds)->bindC kindOf binds m x=m x
 |[],_,_=>rfl
 | (n,v)::r,m,h=>by
  unfold bindC;rw[zg7 λw hw=>h w (As _ hw)];split
  .rfl
  .have:x≠n:=by rintro rfl;exact h v Ap
   simp[this]
theorem zg6{kindOf:Str -> Option NameKind}{x:Str}{v:Ac} : ∀{P:List Str}{vs:List Ac}{i:Nat}{m:Str -> Option Ac}, P.Nodup -> P[i]? = some x -> vs[i]? = some v -> kindOf x=some .local ->
  bindL kindOf (P.zip vs) m x=some v
 |[],_,_,_,_,h,_,_=>by simp at h
 |_::_,[],_,_,_,_,h,_=>by simp at h
 |p::P,w::vs,0,m,nd,h1,h2,hk=>by
  simp at h1 h2;subst h1;subst h2;show bindL kindOf ((p,w)::P.zip vs) m p=_;unfold bindL;rw[zg5 λv hv=>(Bs.mp nd).1 (List.of_mem_zip hv).1,if_pos hk];simp
 |p::P,w::vs,i+1,m,nd,h1,h2,hk=>by
  show bindL kindOf ((p,w)::P.zip vs) m x=_;unfold bindL;exact zg6 (i:=i) (Bs.mp nd).2 (by simpa using h1) (by simpa using h2) hk
theorem zg8{kindOf:Str -> Option NameKind}{x:Str}{v:Ac} : ∀{P:List Str}{vs:List Ac}{i:Nat}{m:Str -> Option Ac}, P.Nodup -> P[i]? = some x -> vs[i]? = some v -> kindOf x ≠ some .local ->
  bindC kindOf (P.zip vs) m x=some v
 |[],_,_,_,_,h,_,_=>by simp at h
 |_::_,[],_,_,_,_,h,_=>by simp at h
 |p::P,w::vs,0,m,nd,h1,h2,hk=>by
  simp at h1 h2;subst h1;subst h2;show bindC kindOf ((p,w)::P.zip vs) m p=_;unfold bindC;rw[zg7 λv hv=>(Bs.mp nd).1 (List.of_mem_zip hv).1,if_neg hk];simp
 |p::P,w::vs,i+1,m,nd,h1,h2,hk=>by
  show bindC kindOf ((p,w)::P.zip vs) m x=_;unfold bindC;exact zg8 (i:=i) (Bs.mp nd).2 (by simpa using h1) (by simpa using h2) hk
noncomputable def start(N:List Str)(vs:List V):St:=vs.map some++Ar (N.length-vs.length) none
noncomputable def cxOf(CX:CXT)(P:AQ)(w:Bg)(K:W.Frag)(mg:Str->Option Ac)(base:Heap)(N:List Str)(qual:Str)(scope:Scope)(f:Addr)(cd:Ac)(A:AY)(outer:List Env)(s:Ae)(H:Hp)(E:XK):Cx where
 prog:=P
 w:=w
 K:=K
 mg:=mg
 base:=base
 A:=A.deeper (envOfC qual scope s.heap.objs.size f cd)
 N:=N
 s₀:=s
 H₀:=H
 env:=envOfC qual scope s.heap.objs.size f cd
 outer:=outer
 stack:=envOfC qual scope s.heap.objs.size f cd::outer
 ex:=[]
 calm:=true
 fn:=λ_=>true
 pn:=[]
 xe:=λe s'=>Ak (An P w) (A.deeper (envOfC qual scope s.heap.objs.size f cd)) (leaving (envOfC qual scope s.heap.objs.size f cd) e) (λ_ s''=>CX outer H s E e s'') (λe' s''=>CX outer H s E e' s'') s'
theorem ziI{sc:Scope}{n:Nat}{x:Str}(h:sc.names.lookup x=some .cell):∃c,(cellsFrom n sc.names []).lookup x=some c:=by have q:=W.cellsFrom_some sc.names n [] (.inl h);exact Option.isSome_iff_exists.mp q
theorem zgU{CX:CXT}{P:AQ}{w:Bg}{K:W.Frag}{mg:Str -> Option Ac}{base:Heap}{N ps:List Str}{qual:Str}{scope:Scope}{f:Addr}{cd:Ac}{A:AY}{outer:List Env}{s s1:Ae}{H:Hp}{E:XK}{us:List Ac}{vs:List V}
  (S:FnScope N ps scope) (hd:A.handled=none) (e0:Env0 P w K mg base A outer s H) (hl:vs.length=ps.length) (r:Vals vs us)
  (x:InCallC s s.heap.objs.size (bindL (envOfC qual scope s.heap.objs.size f cd).kindOf (ps.zip us) λ_=>none) (cellsFrom (s.heap.objs.size+1) scope.names []) (bindC (envOfC qual scope s.heap.objs.size f cd).kindOf (ps.zip us) λ_=>none) s1) :
  Inv (cxOf CX P w K mg base N qual scope f cd A outer s H E) [] (start N vs) H s1:=by
 have hpl:ps.length<=N.length:=by have:=congrArg Dv S.pre;rw[AS]at this;lia
 obtain⟨h1,tk,rfl,hk⟩:=x.done;have noA:∀b:Addr,b ∉ (cxOf CX P w K mg base N qual scope f cd A outer s H E).ex:=λb z=>absurd (show b∈([]:List Addr) from z) (by simp)
 refine⟨⟨e0.mod,S.kind,rfl,rfl,Ai _,λy z c h1 h2=>?_,λy hy=>?_,λy c _ h=>?_,λ_=>hd,Around.frames_deeper e0.frames,.inr ⟨rfl,rfl⟩,λb z=>absurd z (noA b),e0.bs,e0.bsz,λb _ _=>noA b,λb z=>absurd z (noA b),e0.funs,e0.frf⟩,
  rfl,e0.bare,Un.kept hk,⟨_,x.toInCall.ns,λi y v h1 h2 h3=>?_⟩,λy c h=>⟨_,x.cell y c h⟩,e0.hok.fresh (Ai _),λy c h=>?_,λp hp=>absurd (show p∈([]:List (Addr×Obj)) from hp) (by simp),e0.hok.kept hk,?_⟩
 .exact name_of_addr x.apart (C8 h1) (C8 h2)
 .have hy:scope.names.lookup y=some .cell∨scope.names.lookup y=some .free:=hy;rcases hy with hy |hy
  .exact ziI hy
  .exact absurd rfl (S.nofree _ (C8 hy))
 .exact BZ (x.above y c (C8 h))
 .have hi:i < vs.length := by
   unfold start at h2
   by_cases hi:i<vs.length
   .exact hi
   .rw[AW (by simpa using hi)]at h2;rw[List.getElem?_replicate]at h2;split at h2 <;> cases h2
  have ha:vs[i]?=some v:=by
   unfold start at h2;rw[AH (by simpa using hi),AA]at h2
   cases e:vs[i]? with
   |none=>rw[e]at h2;cases h2
   |some a=>rw[e]at h2;cases h2;rfl
  obtain⟨u,hu,rv⟩:=r.get ha
  have hp:ps[i]?=some y:=by rw[<- S.pre,List.getElem?_take_of_lt (by lia)];exact h1
  have ndP:ps.Nodup:=by rw[<- S.pre];exact S.nd.sublist (Cp _ _)
  refine⟨u,rv,?_⟩;rcases S.par y (Aj hp) with k |k
  .exact .inl ⟨k,zg6 ndP hp hu k⟩
  .obtain⟨c,e⟩:=ziI (n:=s.heap.objs.size+1) k;refine .inr ⟨.inl k,c,e,?_⟩;have q:=x.cell y c e;rw[zg8 ndP hp hu (by show scope.names.lookup y≠_;rw[k];decide)]at q;exact q
 .exact e0.hok.fresh (BZ (x.above y c (C8 h)))
 .unfold start;show _=N.length;rw[Av,Ah,CL];lia
theorem fn_of{CX:CXT}{P:AQ}{w:Bg}{K:W.Frag}{mg:Str -> Option Ac}{base:Heap}{k:Nat}{f:Addr}{name qual:Str}{params:Arguments}{body:List Stmt}{scope:Scope}{dV kV doc pm cdv ct oc:Ac}{an od:Option Addr}
  {osl:Array (Option Ac)} {N ps:List Str} {sp:Sp} (lk:K.lookup f=some ⟨oc,od,.func (Es name qual params body scope dV kV doc pm an cdv ct),osl⟩) (hcd:W.codeIn K cdv qual=true) (S:FnScope N ps scope)
  (len:∀vs H Q E,sp vs H Q E->vs.length=ps.length)
  (hbody:∀(A:AY) (outer:List Env) (s:Ae) (H:Hp) (vs:List V) (Q:VK) (E:XK),Room k (A.deeper (envOfC qual scope s.heap.objs.size f cdv))->sp vs H Q E ->
   ∃t,PSs (cxOf CX P w K mg base N qual scope f cdv A outer s H E) body t/\t { nx:=λ_ H'=>Q .non H',rt:=Q } (start N vs) H) :
  FnOk P w K mg base CX (k+1) f (Es name qual params body scope dV kV doc pm an cdv ct) ps sp:=by
 refine⟨len,λA outer s H args us vs Q E hr e0 hb r hsp=>?_⟩;have hl:=len _ _ _ _ hsp;have KX:K.In s.heap:=e0.mod.kin.keeps λb o e=>(e0.bs b o e).1
 have lim:s.heap.NoLimit:=e0.mod.nolimit.keeps λb o e=>(e0.bs b o e).1
 have hkind:∀y∈ps.zip us,scope.names.lookup y.1=some .local∨(scope.names.lookup y.1=some .cell/\((cellsFrom (s.heap.objs.size+1) scope.names []).lookup y.1).isSome=true):=λ⟨n,v⟩ hy=>by
  rcases S.par n (List.of_mem_zip hy).1 with q |q
  .exact .inl q
  .exact .inr ⟨q,W.cellsFrom_some _ _ _ (.inl q)⟩
 refine codeAny_call_function hr.depth (KX _ _ lk) rfl S.co S.gen rfl (W.codeRec_of KX hcd) (hb _ _ _ _ ?_);refine wpAny_newFunctionEnv_cells S.kind hkind λenv he s1 x=>?_
 subst he;refine⟨lim.keeps x.toInCall.keep,codeAny_func ?_⟩;obtain⟨t,ht,hq⟩:=hbody A outer s H vs Q E (hr.deeper _) hsp;have I:Inv (cxOf CX P w K mg base N qual scope f cdv A outer s H E) [] (start N vs) H s1:=zgU S hr.hd e0 hl r x;refine B3 (ht [] s1 (start N vs) H _ I hq) (λfl s' hs=>?_) λe s' hs=>hs
 have fin:∀{σ':St} {H':Hp} {v:V} {u:Ac},Inv (cxOf CX P w K mg base N qual scope f cdv A outer s H E) [] σ' H' s'->RelV v u->Q v H'->CE outer P w H s Q u s' :=
  λ{σ' H' v u} J rv q=>⟨v,H',J.os,J.bare,J.base,J.hok,rv,q⟩
 cases fl with
 |ret u =>
  obtain⟨v,σ',H',J,rv,q⟩:=hs;exact fin J rv q
 |next =>
  obtain⟨σ',H',J,q⟩:=hs;exact fin (v:=V.non) (u:=B8) J rfl q
 |brk =>
  obtain⟨_,_,_,q⟩:=hs;exact BD q
 |cont =>
  obtain⟨_,_,_,q⟩:=hs;exact BD q
section
variable {X:Cx}{x:Str}{p pos:Pos}{e:Expr}{es:List Expr}{t:TA}{id T:String}{r:List V->Hp->VK->Prop}
noncomputable def tCB(r:List V->Hp->VK->Prop)(t:TA):TE:=λσ H Q=>t σ H λvs H1=>r vs H1 Q
theorem zan (hc:CallR X (.builtin id) r) (hg:Gl X x) (hm:X.mg x=none) (hv:bootBuiltins x=some (.builtin id)) (ha:PA X (e :: es) t) (hn:x ≠ "__name__" := by decide) (hdb:(x == ("__debug__" : Str))=false := by decide)
  (he:Bh (e::es) X.env=(false,eval e X.env)::Bh es X.env:=by rfl) (hpl:(EO pos (Bh es X.env)).any (·.1)=false:=by rfl):PE X (.Call (.Name x p) (e::es) [] pos) (tCB r t):=by
 intro pins s σ H Q I h;refine Cw (zck I hg hm hv ?_ hn hdb);exact PyProof.Rows.callWith_builtin1 (thn (ha pos pins s σ H _ I h) λus s1 ⟨vs,H1,I1,r1,q1⟩=>hc pins s1 σ H1 vs us Q I1 r1 q1) he hpl
theorem zgE (hc:CallR X (.type T) r) (hg:Gl X x) (hm:X.mg x=none) (hv:bootBuiltins x=some (.type T)) (ha:PA X (e :: es) t) (hn:x ≠ "__name__" := by decide) (hdb:(x == ("__debug__" : Str))=false := by decide)
  (he:Bh (e::es) X.env=(false,eval e X.env)::Bh es X.env:=by rfl) (hpl:(EO pos (Bh es X.env)).any (·.1)=false:=by rfl):PE X (.Call (.Name x p) (e::es) [] pos) (tCB r t):=by
 intro pins s σ H Q I h;refine Cw (zck I hg hm hv ?_ hn hdb);exact BT (thn (ha pos pins s σ H _ I h) λus s1 ⟨vs,H1,I1,r1,q1⟩=>hc pins s1 σ H1 vs us Q I1 r1 q1) he hpl
end
section
variable {κ:Type} [DecidableEq κ]
noncomputable def valV(kvs:List (κ×V))(k:κ):Option V:=(kvs.find? λkv=>decide (kv.1=k)).map (·.2)
noncomputable def putK(kvs:List (κ×V))(k:κ)(v:V):List (κ×V) :=
 if (kvs.any λkv=>decide (kv.1=k))=true then kvs.map (λkv=>if kv.1=k then (kv.1,v) else kv) else kvs++[(k,v)]
noncomputable def dropK(kvs:List (κ×V))(k:κ):List (κ×V):=kvs.filter λkv=>decide (kv.1≠k)
theorem za3{p:κ×V}{r:List (κ×V)}{k:κ}(e:p.1=k):valV (p::r) k=some p.2:=by simp[valV,C5,e]
theorem za4{p:κ×V}{r:List (κ×V)}{k:κ}(e:¬ p.1=k):valV (p::r) k=valV r k:=by simp[valV,C5,e]
theorem zcD(k:κ):∀kvs:List (κ×V),(kvs.any λkv=>decide (kv.1=k))=(valV kvs k).isSome
 |[]=>rfl
 |p::r=>by
  rw[List.any_cons]
  by_cases e:p.1=k
  .simp only[za3 e,decide_eq_true e,Bool.true_or,Option.isSome_some]
  .rw[za4 e,decide_eq_false e,Bool.false_or];exact zcD k r
theorem zhY(k j:κ)(y:V):∀kvs:List (κ×V),valV (kvs.map λkv=>if kv.1=k then (kv.1,y) else kv) j=(valV kvs j).map λx=>if j=k then y else x
 |[]=>rfl
 |p::r=>by
  have ih:=zhY k j y r;rw[AO]
  by_cases h:p.1=k
  .rw[if_pos h]
   by_cases e:p.1=j
   .rw[za3 (p:=(p.1,y)) e,za3 e,D2,if_pos (e.symm.trans h)]
   .rw[za4 (p:=(p.1,y)) e,za4 e,ih]
  .rw[if_neg h]
   by_cases e:p.1=j
   .rw[za3 (p:=p) e,za3 e,D2,if_neg (λz=>h (e.trans z))]
   .rw[za4 (p:=p) e,za4 e,ih]
theorem zgk(k j:κ)(y:V):∀kvs:List (κ×V),valV kvs k=none->valV (kvs++[(k,y)]) j=if j=k then some y else valV kvs j
 |[],_=>by
  by_cases e:k=j
  .rw[if_pos e.symm];exact za3 (p:=(k,y)) e
  .rw[if_neg (λz=>e z.symm)];exact za4 (p:=(k,y)) e
 |p::r,hn=>by
  rw[List.cons_append];have hk:¬ p.1=k:=λz=>by rw[za3 z]at hn;cases hn
  rw[za4 hk]at hn;have ih:=zgk k j y r hn
  by_cases e:p.1=j
  .rw[za3 e,za3 e,if_neg (λz=>hk (e.trans z))]
  .rw[za4 e,za4 e,ih]
theorem zcC(kvs:List (κ×V))(k j:κ)(y:V):valV (putK kvs k y) j=if j=k then some y else valV kvs j:=by
 unfold putK
 by_cases a:(kvs.any λkv=>decide (kv.1=k))=true
 .rw[if_pos a,zhY];rw[zcD]at a
  by_cases e:j=k
  .obtain⟨x,hx⟩:=Option.isSome_iff_exists.mp a;rw[if_pos e,e,hx,D2,if_pos rfl]
  .rw[if_neg e]
   cases valV kvs j with
   |none=>rfl
   |some x=>rw[D2,if_neg e]
 .rw[if_neg a];refine zgk k j y kvs ?_
  rw[zcD]at a
  cases q:valV kvs k with
  |none=>rfl
  |some x=>rw[q]at a;exact (a rfl).elim
theorem zaK(kvs:List (κ×V))(k:κ)(v:V):(putK kvs k v).length<=kvs.length+1:=by
 unfold putK;split
 .rw[Ah];lia
 .rw[Av,AZ,Cu];lia
theorem zd1{kvs:List (κ×V)}{k:κ}(v:V)(h:valV kvs k=none):putK kvs k v=kvs++[(k,v)]:=by unfold putK;rw[zcD,h];exact if_neg (by decide)
theorem RelO.isSome_eq{o:Option V}{u:Option Ac}(r:RelO o u):o.isSome=u.isSome:=by
 cases o with
 |none=>cases u with
  |none=>rfl
  |some _=>exact (show False from r).elim
 |some _=>cases u with
  |none=>exact (show False from r).elim
  |some _=>rfl
theorem RelO.getD{o:Option V}{u:Option Ac}{d:V}{d':Ac}(r:RelO o u)(rd:RelV d d'):RelV (o.getD d) (u.getD d'):=by
 cases o with
 |none=>cases u with
  |none=>exact rd
  |some _=>exact (show False from r).elim
 |some _=>cases u with
  |none=>exact (show False from r).elim
  |some _=>exact r
theorem KV.val{kvs:List (κ×V)}{vs:List (κ×Ac)}(r:KV kvs vs)(k:κ):RelO (valV kvs k) (valueAt vs k):=by
 unfold KV at r
 induction r with
 |nil=>exact CD
 |@cons p q ps qs h t ih =>
  obtain⟨h1,h2⟩:=h
  by_cases e:p.1=k
  .have e':q.1=k:=h1.symm.trans e;have b:valueAt (q::qs) k=some q.2:=by simp[valueAt,C5,e']
   rw[za3 e,b];exact h2
  .have e':¬ q.1=k:=λz=>e (h1.trans z)
   have b:valueAt (q::qs) k=valueAt qs k:=by simp[valueAt,C5,e']
   rw[za4 e,b];exact ih
theorem KV.any{kvs:List (κ×V)}{vs:List (κ×Ac)}(r:KV kvs vs)(k:κ):(kvs.any λkv=>decide (kv.1=k))=vs.any λkv=>decide (kv.1=k):=by
 unfold KV at r
 induction r with
 |nil=>rfl
 |cons h t ih=>rw[List.any_cons,List.any_cons,ih,h.1]
theorem KV.repl{kvs:List (κ × V)}{vs:List (κ × Ac)}(r:KV kvs vs)(k : κ){y:V}{u:Ac}(ry:RelV y u) :
  KV (kvs.map λkv=>if kv.1=k then (kv.1,y) else kv) (vs.map λkv=>if kv.1=k then (kv.1,u) else kv):=by
 unfold KV at r ⊢
 induction r with
 |nil=>exact .nil
 |@cons p q ps qs h t ih =>
  rw[AO,AO];refine .cons ?_ ih;obtain⟨h1,h2⟩:=h
  by_cases e:p.1=k
  .rw[if_pos e,if_pos (h1.symm.trans e)];exact⟨h1,ry⟩
  .rw[if_neg e,if_neg (λz=>e (h1.trans z))];exact⟨h1,h2⟩
theorem KV.put{kvs:List (κ×V)}{vs:List (κ×Ac)}(r:KV kvs vs)(k:κ){y:V}{u:Ac}(ry:RelV y u):KV (putK kvs k y) (stored vs k u):=by
 unfold putK stored;rw[r.any k]
 by_cases e:(vs.any λkv=>decide (kv.1=k))=true
 .rw[if_pos e,if_pos e];exact r.repl k ry
 .rw[if_neg e,if_neg e];exact Paired.snoc r ⟨rfl,ry⟩
theorem KV.length{kvs:List (κ×V)}{vs:List (κ×Ac)}(r:KV kvs vs):kvs.length=vs.length:=CB r
theorem zl8(kvs:List (κ×V))(k:κ):(dropK kvs k).length<=kvs.length:=BV _ _
end
theorem kV_is{P:AQ}{w:Bg}{k:Key}{u:Ac}(r:RelV (kV k) u):(zay P w).is k u=true:=by
 cases k with
 |inl i=>obtain⟨t,e⟩:=(show ∃t,u=DM i t from r);subst e;exact zhI P w i t
 |inr x=>obtain⟨t,e⟩:=(show ∃t,u=Value.str x t from r);subst e;exact zba P w x t
theorem zgT{P:AQ}{w:Bg}:∀{ks:List Key}{us:List Ac},Vals (ks.map kV) us->ItemsAre (zay P w) ks us
 |[],_,r=>by rw[DV]at r;cases r;exact .nil
 |k::ks,_,r=>by
  rw[AO]at r
  cases r with
  |cons h t=>exact .cons (kV_is h) (zgT t)
noncomputable abbrev KT(H:Hp):List (List Key×V)->List (List Key×Addr×Ac)->Prop:=Paired λp q=>p.1=q.1/\H q.2.1=some (.tup (p.1.map kV))/\RelV p.2 q.2.2
theorem KT.val{H:Hp}{kvs:List (List Key×V)}{xs:List (List Key×Addr×Ac)}(r:KT H kvs xs)(k:List Key):RelO (valV kvs k) ((Ey xs k).map (·.2)):=by
 induction r with
 |nil=>exact CD
 |@cons p q ps qs h t ih =>
  obtain⟨h1,_,h2⟩:=h
  by_cases e:p.1=k
  .have e':q.1=k:=h1.symm.trans e;have b:Ey (q::qs) k=some q.2:=by simp[Ey,C5,e']
   rw[za3 e,b];exact h2
  .have e':¬ q.1=k:=λz=>e (h1.trans z)
   have b:Ey (q::qs) k=Ey qs k:=by simp[Ey,C5,e']
   rw[za4 e,b];exact ih
theorem KT.repl{H:Hp}{kvs:List (List Key × V)}{xs:List (List Key × Addr × Ac)}(r:KT H kvs xs)(k:List Key){y:V}{u:Ac}(ry:RelV y u) :
  KT H (kvs.map λkv=>if kv.1=k then (kv.1,y) else kv) (xs.map (putAt k u)):=by
 induction r with
 |nil=>exact .nil
 |@cons p q ps qs h t ih =>
  rw[AO,AO];refine .cons ?_ ih;obtain⟨h1,h2,h3⟩:=h;unfold putAt
  by_cases e:p.1=k
  .rw[if_pos e,if_pos (h1.symm.trans e)];exact⟨h1,h2,ry⟩
  .rw[if_neg e,if_neg (λz=>e (h1.trans z))];exact⟨h1,h2,h3⟩
theorem KT.put{H:Hp}{kvs:List (List Key × V)}{xs:List (List Key × Addr × Ac)}(r:KT H kvs xs)(k:List Key){b:Addr}{y:V}{u:Ac}(hb:H b=some (.tup (k.map kV)))(ry:RelV y u) :
  KT H (putK kvs k y) (storedH xs k b u):=by
 have e:(kvs.any λkv=>decide (kv.1=k))=(Ey xs k).isSome:=by rw[zcD,(r.val k).isSome_eq,Option.isSome_map]
 unfold putK storedH;rw[e]
 by_cases q:(Ey xs k).isSome=true
 .rw[if_pos q,if_pos q];exact r.repl k ry
 .rw[if_neg q,if_neg q];exact Paired.snoc r ⟨rfl,hb,ry⟩
theorem KT.keeps{H H':Hp}{kvs:List (List Key×V)}{xs:List (List Key×Addr×Ac)}(r:KT H kvs xs)(ht:∀b ys,H b=some (.tup ys)->H' b=some (.tup ys)):KT H' kvs xs :=
 Paired.mapP r λ_ _ z=>⟨z.1,ht _ _ z.2.1,z.2.2⟩
section
variable {P:AQ}{w:Bg}{H:Hp}{h:Heap}{a:Addr}
theorem rd_of{u:HO}(ok:HOk P w H h)(e:Rd H a u):ObjOk P w H h a u:=e.ok ok
theorem dk_rd{kvs:List (Key×V)}(ok:HOk P w H h)(e:Rd H a (.dK kvs)):kvs.length<=sizeLine/\(a == BP)=false/\∃vs,KV kvs vs/\h.DictOf (zay P w) a vs :=
 show ObjOk P w H h a (.dK kvs) from rd_of ok e
theorem dk_of{kvs:List (Key×V)}(ok:HOk P w H h)(e:H a=some (.dK kvs)):kvs.length<=sizeLine/\(a == BP)=false/\∃vs,KV kvs vs/\h.DictOf (zay P w) a vs:=dk_rd ok (.inl e)
theorem zdj{ks:List Key}(ok:HOk P w H h)(e:H a=some (.tup (ks.map kV))):(D5 (zay P w)).is h ks a:=by obtain⟨_,its,r,o,h1,h2,n,h3⟩:=(show ObjOk P w H h a (.tup (ks.map kV)) from ok a _ e);exact⟨o,its.toArray,n,h1,h2,h3,by simpa using zgT r⟩
theorem dt_rd{kvs:List (List Key × V)}(ok:HOk P w H h)(e:Rd H a (.dT kvs)):kvs.length <= sizeLine /\ (a == BP)=false /\
  ∃xs,KT H kvs xs/\h.DictOfH (D5 (zay P w)) a xs:=by
 obtain⟨z,y,xs,r,o,es,ep,h1,h2,h3,h4,h5⟩:=(show ObjOk P w H h a (.dT kvs) from rd_of ok e);refine⟨z,y,xs,r,o,es,ep,h1,h2,h3,h4,λx hx=>?_,h5⟩
 have all:∀{l:List (List Key×V)} {m:List (List Key×Addr×Ac)},KT H l m->∀x∈m,(D5 (zay P w)).is h x.1 x.2.1:=by
  intro l m q
  induction q with
  |nil=>intro x hx;exact nomatch hx
  |@cons p q ps qs hq t ih =>
   intro x hx;rcases Ax.mp hx with e |hx
   .subst e;exact zdj ok (by rw[<- hq.1];exact hq.2.1)
   .exact ih x hx
 exact all r x hx
theorem dt_of{kvs:List (List Key × V)}(ok:HOk P w H h)(e:H a=some (.dT kvs)):kvs.length <= sizeLine /\ (a == BP)=false /\
  ∃xs,KT H kvs xs/\h.DictOfH (D5 (zay P w)) a xs:=dt_rd ok (.inl e)
end
noncomputable def DGet(H:Hp)(a:Addr)(y:V)(r:Option V):Prop :=
 (∃kvs k,Rd H a (.dK kvs)/\y=kV k/\r=valV kvs k)∨∃kvs k b,Rd H a (.dT kvs)/\y=.ref b/\H b=some (.tup (k.map kV))/\r=valV kvs k
noncomputable def DPut(H:Hp)(a:Addr)(y v:V)(H':Hp):Prop :=
 (∃kvs k,H a=some (.dK kvs)/\y=kV k/\kvs.length<sizeLine/\H'=upd H a (.dK (putK kvs k v))) ∨
 ∃kvs k b,H a=some (.dT kvs)/\y=.ref b/\H b=some (.tup (k.map kV))/\kvs.length<sizeLine/\H'=upd H a (.dT (putK kvs k v))
theorem DGet.k{H:Hp}{a:Addr}{kvs:List (Key×V)}{k:Key}(e:H a=some (.dK kvs)):DGet H a (kV k) (valV kvs k):=.inl ⟨kvs,k,.inl e,rfl,rfl⟩
section
variable {X:Cx}{pins:List (Addr×Obj)}{σ:St}{H:Hp}{s:Ae}{a:Addr}{y v:V}{u r:Ac}{o:Option V}{A:AY}{E:Ac->Ae->Prop}
theorem Inv.big(I:Inv X pins σ H s):BP<s.heap.objs.size:=by have h:AU<s.heap.objs.size:=(I.mod.glob.keeps I.bk).lt;exact Nat.lt_trans (by decide) h
theorem zk1{Q:Ac -> Ae -> Prop}(hu:A.units + 1 < cLine)(I:Inv X pins σ H s)(g:DGet H a y (some v))(ry:RelV y u)(h:∀w' s', Inv X pins σ H s' -> RelV v w' -> Q w' s') :
  Ak (An X.prog X.w) A (getItem (.ref a) u) Q E s:=by
 rcases g with⟨kvs,k,e,ey,l⟩ |⟨kvs,k,b,e,ey,eb,l⟩
 .subst ey;obtain⟨z,hd,vs,rel,dd⟩:=dk_rd I.hok e;obtain⟨w',hw,rw'⟩:=RelO.some_of (v:=v) (o:=valueAt vs k) (by rw[l];exact rel.val k);exact El (kV_is ry) dd.mapOf hw (h w' _ (I.tok _) rw')
 .subst ey
  cases (show u=Au b from ry)
  obtain⟨z,hd,xs,rel,dd⟩:=dt_rd I.hok e;obtain⟨w',hw,rw'⟩:=RelO.some_of (v:=v) (o:=(Ey xs k).map (·.2)) (by rw[l];exact rel.val k);obtain⟨p,hp,hp2⟩:=A4.mp hw;refine wpAny_getItem_heap (CO hu) (zdj I.hok eb) dd hp ?_
  rw[hp2];exact h w' _ (I.tok _) rw'
theorem d_in{Q:Ac -> Ae -> Prop}(hu:A.units + 1 < cLine)(I:Inv X pins σ H s)(g:DGet H a y o)(ry:RelV y u)(h:∀s', Inv X pins σ H s' -> Q (.bool o.isSome) s') :
  Ak (An X.prog X.w) A (Bw .In u (.ref a)) Q E s:=by
 rcases g with⟨kvs,k,e,ey,l⟩ |⟨kvs,k,b,e,ey,eb,l⟩
 .subst ey;obtain⟨z,hd,vs,rel,dd⟩:=dk_rd I.hok e;refine wpAny_in_of (kV_is ry) hd dd.mapOf ?_
  rw[<- (rel.val k).isSome_eq,<- l];exact h _ (I.tok _)
 .subst ey
  cases (show u=Au b from ry)
  obtain⟨z,hd,xs,rel,dd⟩:=dt_rd I.hok e;refine wpAny_in_heap (CO hu) (zdj I.hok eb) hd dd ?_
  have q:=(rel.val k).isSome_eq;rw[Option.isSome_map]at q;rw[<- q,<- l];exact h _ (I.tok _)
theorem znm{Q:Ac -> Ae -> Prop}(hu:A.units + 1 < cLine)(I:Inv X pins σ H s)(g:DGet H a y o)(ry:RelV y u)(h:∀s', Inv X pins σ H s' -> Q (.bool (!o.isSome)) s') :
  Ak (An X.prog X.w) A (Bw .NotIn u (.ref a)) Q E s:=by
 rcases g with⟨kvs,k,e,ey,l⟩ |⟨kvs,k,b,e,ey,eb,l⟩
 .subst ey;obtain⟨z,hd,vs,rel,dd⟩:=dk_rd I.hok e;refine wpAny_notIn_of (kV_is ry) hd dd.mapOf ?_
  rw[<- (rel.val k).isSome_eq,<- l];exact h _ (I.tok _)
 .subst ey
  cases (show u=Au b from ry)
  obtain⟨z,hd,xs,rel,dd⟩:=dt_rd I.hok e;refine wpAny_notIn_heap (CO hu) (zdj I.hok eb) hd dd ?_
  have q:=(rel.val k).isSome_eq;rw[Option.isSome_map]at q;rw[<- q,<- l];exact h _ (I.tok _)
theorem zc3{h':Heap}{t':Nat}{ob:HO}(I:Inv X pins σ H s)(mu:Mut (H a))(hs:BR a s.heap h')(he:∃q, h'.get? a=some q)(new:ObjOk X.prog X.w (upd H a ob) h' a ob) :
  Inv X pins σ (upd H a ob) { s with heap:=h',toks:=t' } :=
 I.write (x:=a) (e:=a) mu (.inl rfl) (λb q hb z=>(hs.2 b hb).trans z) he new
theorem zkU{P:AQ}{w:Bg}{H':Hp}{h':Heap}{kvs:List (Key × V)}{vs:List (Key × Ac)}(z:kvs.length <= sizeLine)(hd:(a == BP)=false)(rel:KV kvs vs)(dd:h'.DictOf (zay P w) a vs) :
  ObjOk P w H' h' a (.dK kvs):=⟨z,hd,vs,rel,dd⟩
theorem zk0{H':Hp}{Q:Unit -> Ae -> Prop}(hu:A.units + 1 < cLine)(I:Inv X pins σ H s)(g:DPut H a y v H')(ry:RelV y u)(rv:RelV v r)(h:∀s', Inv X pins σ H' s' -> Q () s') :
  Ak (An X.prog X.w) A (setItem (.ref a) u r) Q E s:=by
 rcases g with⟨kvs,k,e,ey,l,eH⟩ |⟨kvs,k,b,e,ey,eb,l,eH⟩
 .subst ey eH;obtain⟨z,hd,vs,rel,dd⟩:=dk_of I.hok e;have hz:vs.length<=sizeLine:=by rw[<- rel.length];exact z
  have hl:(putK kvs k v).length<=sizeLine:=by have:=zaK kvs k v;lia
  refine wpAny_setItem_pairs (hsz:=hz) (kV_is ry) dd λh' dd' hs=>h _ ?_
  have he:∃q,h'.get? a=some q:=let ⟨q,_,_,hq,_⟩:=dd';⟨q,hq⟩
  exact zc3 I (by rw[e];exact CD) hs he (zkU hl hd (rel.put k rv) dd')
 .subst ey eH
  cases (show u=Au b from ry)
  obtain⟨z,hd,xs,rel,dd⟩:=dt_of I.hok e;have hz:xs.length<=sizeLine:=by rw[<- CB rel];exact z
  have hl:(putK kvs k v).length<=sizeLine:=by have:=zaK kvs k v;lia
  refine wpAny_setItem_heap (hsz:=hz) (CO hu) (zdj I.hok eb) dd λh' dd' hs=>h _ ?_
  obtain⟨q,es,ep,hq,h2,h3,h4,_,h5⟩:=dd';refine zc3 I (by rw[e];exact CD) hs ⟨q,hq⟩ ⟨hl,hd,_,(rel.put k eb rv).keeps λc ys ec=>?_,q,es,ep,hq,h2,h3,h4,h5⟩;rw[zag (ne_of ec e (λz=>nomatch z))];exact ec
end
section
variable {X:Cx}{pins:List (Addr×Obj)}{σ:St}{H:Hp}{s:Ae}{a:Addr}{kvs:List (Key×V)}{k:Key}{u:Ac}{A:AY}{E:Ac->Ae->Prop}
end
noncomputable def NoSl(i:Expr):Prop:=∀ov iv,subscripted i false ov iv=operate [ov,iv] (getItem ov iv)
theorem zhn{prog:AQ}{w:Bg}{A:AY}{E:Ac -> Ae -> Prop}{s:Ae}{env:Env}{value slice:Expr}{pos:Pos}{T id:String}{Q:Ac -> Ae -> Prop}
  (hl:typeLookup (.type T) "__getitem__" = pure (some (.builtin id))) (hs:NoSl slice)
  (h:Ak (An prog w) A (eval value env) (λo s₁=>Ak (An prog w) A (eval slice env) (λi s₂=>s₂.TypeIs o T/\Ak (An prog w) A (getItem o i) Q E s₂) E s₁) E s) :
  Ak (An prog w) A (eval (.Subscript value slice pos) env) Q E s:=by
 refine Subscript_ (B3 h (λo s₁ h₁=>B3 h₁ (λi s₂ h₂=>?_) λ_ _ x=>x) λ_ _ x=>x);obtain⟨hT,h₂⟩:=h₂;unfold subscriptTail;refine Aa ?_
 rw[getitemInPython_of_ne hT.not_modules];refine Aa (wpAny_specialOf hT hl ?_)
 have fin:Ak (An prog w) A (subscripted slice false o i) (λr s₃=>Ak (An prog w) A (letTemporaryGo value o r >>= λ_=>pure r) Q E s₃) E s₂:=by rw[hs o i];exact wpAny_operating (B3 h₂ (λr s₃ h₃=>Aa (wpAny_letTemporaryGo (Af h₃))) λ_ _ x=>x)
 first
  |exact Af (Aa fin)
  |exact Aa (Af (Aa fin))
  |exact Aa fin
theorem zhO {X:Cx}{pins:List (Addr×Obj)}{σ:St}{H:Hp}{s:Ae}{a:Addr}{y:V}{o:Option V}(I:Inv X pins σ H s) (g:DGet H a y o):s.TypeIs (.ref a) "dict":=by
 rcases g with⟨kvs,k,e,_,_⟩ |⟨kvs,k,b,e,_,_,_⟩
 .obtain⟨_,_,vs,_,dd⟩:=dk_rd I.hok e;exact dd.typeIs
 .obtain⟨_,_,xs,_,dd⟩:=dt_rd I.hok e;exact dd.typeIs
noncomputable def tDGet(td ty:TE):TE:=λσ H Q=>td σ H λx H1=>ty σ H1 λy H2=>∃a v,x=.ref a/\DGet H2 a y (some v)/\Q v H2
noncomputable def tDIn(ty td:TE):TE:=λσ H Q=>ty σ H λy H1=>td σ H1 λx H2=>∃a o,x=.ref a/\DGet H2 a y o/\Q (.bl o.isSome) H2
noncomputable def zjD(ty td:TE):TE:=λσ H Q=>ty σ H λy H1=>td σ H1 λx H2=>∃a o,x=.ref a/\DGet H2 a y o/\Q (.bl (!o.isSome)) H2
noncomputable def sDPut(td ty tv:TE):TS:=λD σ H=>tv σ H λv H1=>td σ H1 λx H2=>ty σ H2 λy H3=>∃a H4,x=.ref a/\DPut H3 a y v H4/\D.nx σ H4
section
variable {X:Cx}{o i e value:Expr}{pos pos' tpos:Pos}{td ty tv:TE}
theorem zmZ(hu:X.A.units+1<cLine)(ho:PE X o td)(hi:PE X i ty)(hs:NoSl i):PE X (.Subscript o i pos) (tDGet td ty):=by intro pins s σ H Q I h;refine zhn En.lookup hs (thn (ho pins s σ H _ I h) λu s1 ⟨x,H1,I1,rx,q1⟩=>thn (hi pins s1 σ H1 _ I1 q1) λiv s2 ⟨y,H2,I2,ry,a,v,ex,g,q2⟩=>?_);subst ex;obtain rfl:u=Au a:=rx;exact⟨zhO I2 g,zk1 hu I2 g ry λw' s3 I3 rw'=>⟨v,H2,I3,rw',q2⟩⟩
theorem zmv(hu:X.A.units+1<cLine)(hi:PE X i ty)(ho:PE X o td):PC X .In i o (tDIn ty td):=by
 intro pins s σ H Q I h;refine thn (hi pins s σ H _ I h) λiv s1 ⟨y,H1,I1,ry,q1⟩=>thn (ho pins s1 σ H1 _ I1 q1) λu s2 ⟨x,H2,I2,rx,a,ov,ex,g,q2⟩=>?_
 subst ex;obtain rfl:u=Au a:=rx;exact d_in hu I2 g ry λs3 I3=>⟨.bl ov.isSome,H2,I3,rfl,q2⟩
theorem zen(hu:X.A.units+1<cLine)(hi:PE X i ty)(ho:PE X o td):PC X .NotIn i o (zjD ty td):=by
 intro pins s σ H Q I h;refine thn (hi pins s σ H _ I h) λiv s1 ⟨y,H1,I1,ry,q1⟩=>thn (ho pins s1 σ H1 _ I1 q1) λu s2 ⟨x,H2,I2,rx,a,ov,ex,g,q2⟩=>?_
 subst ex;obtain rfl:u=Au a:=rx;exact znm hu I2 g ry λs3 I3=>⟨.bl (!ov.isSome),H2,I3,rfl,q2⟩
theorem zfG(hu:X.A.units + 1 < cLine)(ho:PE X o td)(hi:PE X i ty)(hv:PE X value tv)(hs:swapsWith value (some (.Subscript o i pos')) pos.line X.env=pure false) :
  PS X (.Assign [.Subscript o i pos'] value pos) (sDPut td ty tv):=by
 intro pins s σ H D I h;refine wpAny_Assign_Subscript (thn (hv pins s σ H _ I h) λr s1 ⟨v,H1,I1,rv,q1⟩=>thn (ho pins s1 σ H1 _ I1 q1) λu s2 ⟨x,H2,I2,rx,q2⟩=>thn (hi pins s2 σ H2 _ I2 q2) λiv s3 ⟨y,H3,I3,ry,a,H4,ex,g,q3⟩=>?_) hs;subst ex;obtain rfl:u=Au a:=rx;exact zk0 hu I3 g ry rv λs4 I4=>⟨σ,H4,I4,q3⟩
end
theorem zl9 {P:AQ}{w:Bg}{H:Hp}(h:Heap) (hb:BP<h.objs.size):ObjOk P w H (h.push { cls:=.type "dict",data:=.dict #[] }) h.objs.size (.dK []) :=
 ⟨Bd _,beq_eq_false_iff_ne.mpr (Cj (AK hb)),[],.nil,Heap.DictOf.new h⟩
theorem ziz {P:AQ}{w:Bg}{H:Hp}(h:Heap) (hb:BP<h.objs.size):ObjOk P w H (h.push { cls:=.type "dict",data:=.dict #[] }) h.objs.size (.dT []) :=
 ⟨Bd _,beq_eq_false_iff_ne.mpr (Cj (AK hb)),[],.nil,_,#[],0,At _ rfl,⟨rfl,rfl,rfl⟩,rfl,rfl,List.nodup_nil⟩
noncomputable def znG:TE:=λ_ H Q=>∀p,H p=none->Q (.ref p) (upd H p (.dK []))
noncomputable def znF:TE:=λ_ H Q=>∀p,H p=none->Q (.ref p) (upd H p (.dT []))
section
variable {X:Cx}{pos:Pos}
theorem zlI:PE X (.Dict [] [] pos) znG:=λpins s σ H Q I h =>
 wpAny_Dict_empty ⟨.ref s.heap.objs.size,_,I.laid (a:=s.heap.objs.size) (o:=.dK []) (t':=s.toks) (λ_ _ q=>Ag _ q) (Ai _) (zl9 s.heap I.big),rfl,h _ (I.hok.fresh (Ai _))⟩
theorem zd3:PE X (.Dict [] [] pos) znF:=λpins s σ H Q I h =>
 wpAny_Dict_empty ⟨.ref s.heap.objs.size,_,I.laid (a:=s.heap.objs.size) (o:=.dT []) (t':=s.toks) (λ_ _ q=>Ag _ q) (Ai _) (ziz s.heap I.big),rfl,h _ (I.hok.fresh (Ai _))⟩
end
structure M1 (X:Cx) (o:Expr) (m:Str) (apos:Pos) (e:Expr) (cpos:Pos):Prop where
 base:attributeBase o m X.env (eval o X.env)=eval o X.env
 few:((EO cpos (Bh [e] X.env)).all (λx=>!x.1) && (DN cpos (Cz [] X.env)).all (λx=>x.1.isSome)
  && decide (([e]:List Expr).length+([]:List Keyword).length+(if ([]:List Keyword).isEmpty then 0 else 1)<30))=true
 line:(apos.endLine == cpos.line)=true
 trees:EO cpos (Bh [e] X.env)=[(false,eval e X.env)]
structure M2 (X:Cx) (o:Expr) (m:Str) (apos:Pos) (e f:Expr) (cpos:Pos):Prop where
 base:attributeBase o m X.env (eval o X.env)=eval o X.env
 few:((EO cpos (Bh [e,f] X.env)).all (λx=>!x.1) && (DN cpos (Cz [] X.env)).all (λx=>x.1.isSome)
  && decide (([e,f]:List Expr).length+([]:List Keyword).length+(if ([]:List Keyword).isEmpty then 0 else 1)<30))=true
 line:(apos.endLine == cpos.line)=true
 trees:EO cpos (Bh [e,f] X.env)=[(false,eval e X.env),(false,eval f X.env)]
noncomputable def IsD(H:Hp)(a:Addr):Prop:=(∃kvs,Rd H a (.dK kvs))∨∃kvs,Rd H a (.dT kvs)
theorem ziq{X:Cx}{pins:List (Addr × Obj)}{σ : St}{H:Hp}{s:Ae}{a:Addr}(I:Inv X pins σ H s)(d:IsD H a) :
  s.TypeIs (.ref a) "dict" /\ (∀b,Au a=.ref b->∃ob,s.heap.get? b=some ob/\ob.dict=none)/\(a == BP)=false:=by
 rcases d with⟨kvs,e⟩ |⟨kvs,e⟩
 .obtain⟨_,hd,vs,_,dd⟩:=dk_rd I.hok e;refine⟨dd.typeIs,λb q=>?_,hd⟩
  cases q
  obtain⟨ob,_,_,h1,h2,_⟩:=dd;exact⟨ob,h1,h2.2.1⟩
 .obtain⟨_,hd,xs,_,dd⟩:=dt_rd I.hok e;refine⟨dd.typeIs,λb q=>?_,hd⟩
  cases q
  obtain⟨ob,_,_,h1,h2,_⟩:=dd;exact⟨ob,h1,h2.2.1⟩
section
variable {X:Cx}{pins:List (Addr×Obj)}{σ:St}{H:Hp}{s:Ae}{a:Addr}{y d:V}{u r:Ac}{o:Option V}{A:AY}{E:Ac->Ae->Prop}
theorem zom{Q:Ac -> Ae -> Prop}(hu:A.units + 1 < cLine)(I:Inv X pins σ H s)(g:DGet H a y o)(ry:RelV y u)(rd:RelV d r)(h:∀w' s', Inv X pins σ H s' -> RelV (o.getD d) w' -> Q w' s') :
  Ak (An X.prog X.w) A (call (.builtin "dict.get") [.ref a,u,r]) Q E s:=by
 rcases g with⟨kvs,k,e,ey,l⟩ |⟨kvs,k,b,e,ey,eb,l⟩
 .subst ey;obtain⟨z,hd,vs,rel,dd⟩:=dk_rd I.hok e;refine call_meetsIn PySem.F.slot_dict_get dd.typeIs PySem.F.entry_dict_get (PySem.F.args_dict_get_3 _ _ _) (meets_dict_get_default (zay X.prog X.w) a (kV_is ry) hd r) ⟨_,dd.mapOf,h _ _ (I.tok _) ?_⟩;rw[l];exact (rel.val k).getD rd
 .subst ey
  cases (show u=Au b from ry)
  obtain⟨z,hd,xs,rel,dd⟩:=dt_rd I.hok e;refine call_meetsIn PySem.F.slot_dict_get dd.typeIs PySem.F.entry_dict_get (PySem.F.args_dict_get_3 _ _ _) (meetsH_dict_get_default (D5 (zay X.prog X.w)) a b hd r) ⟨CO hu,k,xs,zdj I.hok eb,dd,h _ _ (I.tok _) ?_⟩;rw[l];exact (rel.val k).getD rd
end
noncomputable def znH(td ty tx:TE):TE:=λσ H Q=>td σ H λx H1=>∃a,x=.ref a/\IsD H1 a/\ty σ H1 λy H2=>tx σ H2 λz H3=>∃o,DGet H3 a y o/\Q (o.getD z) H3
section
variable {X:Cx}{o e f:Expr}{apos cpos:Pos}{td ty tx:TE}
theorem zlJ (hu:X.A.units+1<cLine) (ho:PE X o td) (he:PE X e ty) (hf:PE X f tx) (m:M2 X o "get" apos e f cpos):PE X (.Call (.Attribute o "get" apos) [e,f] [] cpos) (znH td ty tx):=by
 intro pins s σ H Q I h;refine wpAny_Call_method m.base m.few m.line C0 PySem.F.slot_dict_get PySem.F.type_dict_get (thn (ho pins s σ H _ I h) λu s1 ⟨x,H1,I1,rx,a,ex,d,q1⟩=>?_);subst ex;obtain rfl:u=Au a:=rx;obtain⟨t1,t2,_⟩:=ziq I1 d;refine⟨t1,t2,?_⟩;rw[m.trees]
 refine CF rfl (Dw (B4 (thn (he pins s1 σ H1 _ I1 q1) λiv s2 ⟨y,H2,I2,ry,q2⟩ =>
  B4 (thn (hf pins s2 σ H2 _ I2 q2) λfv s3 ⟨z,H3,I3,rz,ov,g,q3⟩=>Du ?_))))
 exact zom hu I3 g ry rz λw' s4 I4 rw'=>⟨_,H3,I4,rw',q3⟩
end
section
variable {X:Cx}{pins:List (Addr×Obj)}{σ:St}{H:Hp}{s:Ae}{a:Addr}{kvs:List (Key×V)}{A:AY}{E:Ac->Ae->Prop}
end
section
variable {X:Cx}{pins:List (Addr×Obj)}{σ:St}{H:Hp}{s:Ae}{a:Addr}{y:V}{u:Ac}{A:AY}{E:Ac->Ae->Prop}
end
end L2
namespace HT
open PySem PyProof.Rows
noncomputable def lexLt:List Int->List Int->Bool
 |[],[]=>false
 |[],_::_=>true
 |_::_,[]=>false
 |x::xs,y::ys=>if x=y then lexLt xs ys else decide (x<y)
theorem lexLt_cons(x y:Int)(xs ys:List Int):lexLt (x::xs) (y::ys)=if x=y then lexLt xs ys else decide (x<y):=rfl
theorem lexLt_nil_nil:lexLt [] []=false:=rfl
theorem zeS(y:Int)(ys:List Int):lexLt [] (y::ys)=true:=rfl
theorem zeT(x:Int)(xs:List Int):lexLt (x::xs) []=false:=rfl
theorem ziw(A:AY)(s:Ae)(a:Int)(t:Tok)(c:Int)(u:Tok):∃e,SeqAt.EqAt A s (.int a t) (.int c u) e/\(e=true ↔ a=c) :=
 ⟨(a == c),SeqAt.EqAt.int_int a t c u,by simp⟩
theorem zlx(A:AY)(s:Ae)(a:Int)(t:Tok)(c:Int)(u:Tok)(prog:AQ)(w:Bg)(E:Ac -> Ae -> Prop)(Q:Ac -> Ae -> Prop)(h:Q (.bool (decide (a < c))) s) :
  Ak (An prog w) A (richCompare .Lt (.int a t) (.int c u)) Q E s :=
 (PyProof.Rows.lt_int h:Ak (An prog w) A (Bw .Lt (.int a t) (.int c u)) Q E s)
section
open PySem.SeqAt
open PySem.AutoSeq1 (wpAny_loadPart')
open PySem.MeetsSeq PySem.MeetsSeq2 PySem.MeetsSeq3
theorem zfm(l b:Addr)(items items2:Array Ac)(n n2:Nat)(dd dd2:Option Addr)(sl sl2:Array (Option Ac))(ns ms:List Int)(hi:CU items.toList ns)(hj:CU items2.toList ms) :
  Meets (DL.«tuple.__lt__» ⟨[.ref l,.ref b],[]⟩)
   (λ_ R s=>s.heap.get? l=some { cls:=.type "tuple",dict:=dd,data:=.seq items n,slots:=sl }/\s.heap.get? b=some { cls:=.type "tuple",dict:=dd2,data:=.seq items2 n2,slots:=sl2 } /\
    R (.ok (.ret (.bool (lexLt ns ms)))) s) :=
 .of_wp λprog w A R s h=>by
  obtain⟨hp,g,d,tk,os⟩:=s;obtain⟨hl,hb,h⟩:=h;have f2:=Ez;have z1:items.size=ns.length:=by rw[<- hi.length];simp
  have z2:items2.size=ms.length:=by rw[<- hj.length];simp
  wp_walk using BK hl,BK hb,wpAny_forIn_list _ (λrest b s'=>b.1=none/\s'=⟨hp,g,d,tk,os⟩/\∃(vs ws:List Ac) (ns' ms':List Int),rest=vs.zip ws /\
   CU vs ns'/\CU ws ms'/\ns'.length+items2.size=ms'.length+items.size/\R (.ok (.ret (.bool (lexLt ns' ms')))) ⟨hp,g,d,tk,os⟩) _
  case turn =>
   rintro⟨y,x⟩ rest b s' ⟨hb',rfl,vs,ws,ns',ms',hz,hvi,hwi,hlen,hR⟩
   cases hvi with
   |nil=>rw[List.zip_nil_left]at hz;cases hz
   |cons a t hvi' =>
    cases hwi with
    |nil=>rw[List.zip_nil_right]at hz;cases hz
    |cons c u hwi' =>
     rw[Dk]at hz;injection hz with hyx hrest;injection hyx with hy hx;subst hy hx;rw[lexLt_cons]at hR;simp only[AZ]at hlen;obtain⟨e,he,hiff⟩:=ziw A.in1 ⟨hp,g,d,tk,os⟩ a t c u;refine Aa (he prog w _ _ ?_)
     cases e with
     |true =>
      rw[if_pos (hiff.mp rfl)]at hR
      wp_walk
      exact⟨rfl,rfl,_,_,_,_,hrest,hvi',hwi',by lia,hR⟩
     |false =>
      rw[if_neg (λq=>absurd (hiff.mpr q) AT)]at hR;have hri:=zlx A.in1 ⟨hp,g,d,tk,os⟩ a t c u prog w
      wp_walk using hri
      exact⟨_,rfl,by simpa using hR⟩
  case fin =>
   rintro⟨b1,b2⟩ s' ⟨hb',rfl,vs,ws,ns',ms',hz,hvi,hwi,hlen,hR⟩;simp only at hb';subst hb'
   have hv:lexLt ns' ms'=decide (items.size<items2.size):=by
    cases hvi with
    |nil =>
     cases hwi with
     |nil =>
      simp only[Cu]at hlen;rw[lexLt_nil_nil];exact (decide_eq_false (by lia)).symm
     |cons c u hw =>
      simp only[Cu,AZ]at hlen;rw[zeS];exact (decide_eq_true (by lia)).symm
    |cons a t hv =>
     cases hwi with
     |nil =>
      simp only[Cu,AZ]at hlen;rw[zeT];exact (decide_eq_false (by lia)).symm
     |cons c u hw =>
      rw[Dk]at hz
      cases hz
   rw[hv]at hR
   wp_walk
   exact⟨_,rfl,by simpa[DK]using hR⟩
  case h =>
   exact⟨rfl,rfl,items.toList,items2.toList,ns,ms,rfl,hi,hj,by lia,h⟩
end
section
variable {prog:AQ}{w:Bg}{A:AY}{E:Ac->Ae->Prop}{s:Ae}
theorem lt_tupInts{l b:Addr}{items items2:Array Ac}{ns ms:List Int}{Q:Ac -> Ae -> Prop}(hl:IsTup s.heap l items)(hb:IsTup s.heap b items2)(hi:CU items.toList ns)(hj:CU items2.toList ms)
  (hu:A.units<cLine) (h:Q (.bool (lexLt ns ms)) s):Ak (An prog w) A (Bw .Lt (.ref l) (.ref b)) Q E s:=by
 obtain⟨⟨cls,dd,data,sl⟩,ho,hc,n,hd⟩:=id hl;obtain⟨⟨cls2,dd2,data2,sl2⟩,ho2,hc2,n2,hd2⟩:=id hb;simp only at hc hd hc2 hd2;subst hc hd hc2 hd2
 exact richCompare_meets_room (op:=.Lt) ⟨_,ho,rfl⟩ ⟨_,ho2,rfl⟩ PySem.F.slot_tuple_lt PySem.F.entry_tuple_lt (PySem.F.args_tuple_lt_2 _ _) (zfm l b items items2 n n2 dd dd2 sl sl2 ns ms hi hj)
  ⟨ho,ho2,show EN (lexLt ns ms)≠Value.notImplemented/\Q (.bool (lexLt ns ms)) s from ⟨(λx=>nomatch x),h⟩⟩ hu
noncomputable def sIx(n d:Nat):Option Int->Nat
 |none=>d
 |some v=>if v<0 then (v+(n:Int)).toNat else min v.toNat n
theorem sIx_none(n d:Nat):sIx n d none=d:=rfl
theorem sIx_nat(n d k:Nat):sIx n d (some (k:Int))=min k n:=by show (if (k:Int)<0 then ((k:Int)+(n:Int)).toNat else min (k:Int).toNat n)=min k n;rw[if_neg (by lia),CG]
theorem znR(n d:Nat)(hd:d<=n)(o:Option Int):sIx n d o<=n:=by
 cases o with
 |none=>exact hd
 |some v =>
  show (if v<0 then (v+(n:Int)).toNat else min v.toNat n)<=n
  by_cases hv:v<0
  .rw[if_pos hv];lia
  .rw[if_neg hv];exact Nat.min_le_right _ _
theorem zk5(v:Int)(n d:Nat):(if v<0 then max (v+(n:Int)) 0 else min v (n:Int))=((sIx n d (some v):Nat):Int):=by
 show (if v<0 then max (v+(n:Int)) 0 else min v (n:Int))=(((if v<0 then (v+(n:Int)).toNat else min v.toNat n):Nat):Int)
 by_cases hv:v<0
 .simp only[if_pos hv];lia
 .simp only[if_neg hv];lia
theorem zjh(lo hi:Option Int)(n:Nat):Eo lo hi 1 (n:Int)=(((sIx n 0 lo:Nat):Int),((sIx n n hi:Nat):Int)):=by
 have h1:¬ ((1:Int)<0):=by lia
 unfold Eo;simp only[h1,if_false];refine Prod.ext ?_ ?_
 .cases lo with
  |none=>rfl
  |some v=>exact zk5 v n 0
 .cases hi with
  |none=>rfl
  |some v=>exact zk5 v n n
theorem ziV(i j:Nat):Dq (i:Int) (j:Int) 1=j-i:=by
 unfold Dq;have h1:(1:Int) > 0:=by lia
 simp only[h1,if_true,Int.ediv_one];split <;> lia
theorem ze9{v:Ac}{o:Option Int}{Q:Option Int->Ae->Prop}(p:IsPart v o)(h:Q o s):Ak (An prog w) A (Builtin.Slice.slicePartIndex v) Q E s:=by
 cases p with
 |none=>exact slicePart_none h
 |int i t=>exact slicePart_int h
theorem zch{sl:Addr}{vl vu:Ac}{lo hi:Option Int}{n:Nat}{Q:Int × Int × Nat -> Ae -> Prop}(hs:s.heap.IsSliceOf sl vl vu .none)(pl:IsPart vl lo)(pu:IsPart vu hi)
  (h:Q (((sIx n 0 lo:Nat):Int),1,sIx n n hi-sIx n 0 lo) s):Ak (An prog w) A (Builtin.Slice.sliceApplied (.ref sl) (pure (n:Int))) Q E s:=by
 obtain⟨os,hos,hcs,hds⟩:=id hs;unfold Builtin.Slice.sliceApplied Builtin.Slice.sliceFields;refine Aa (Aa (Be hos hds (x:=vl) rfl (Aa (Be hos hds (x:=vu) rfl (Aa (Be hos hds (x:=.none) rfl (Af ?_)))))));refine Aa (slicePart_none ?_);show Ak _ _ (if ((1:Int) == 0)=true then _ else _) _ _ s;rw[if_neg (by decide)];refine Aa (ze9 pl (Aa (ze9 pu (Aa (Af ?_)))));show Ak _ _ (match Eo lo hi 1 (n:Int) with | (lo,hi)=>pure (lo,(1:Int),Dq lo hi 1)) _ _ s;rw[zjh lo hi n];show Ak _ _ (pure (((sIx n 0 lo:Nat):Int),(1:Int),Dq ((sIx n 0 lo:Nat):Int) ((sIx n n hi:Nat):Int) 1)) _ _ s;rw[ziV];exact Af h
theorem zlD(xs:Array Ac)(i k:Nat):((Bk k).filterMap λ(m:Nat)=>xs[((i:Int)+(m:Int)*1).toNat]?).toArray=((xs.toList.drop i).take k).toArray:=by
 have e:(λ(m:Nat)=>xs[((i:Int)+(m:Int)*1).toNat]?)=λm=>xs[i+m]?:=by
  funext m
  have:((i:Int)+(m:Int)*1).toNat=i+m:=by lia
  rw[this]
 rw[e];have:=pick_run xs i k;rw[DW]at this;have e2:((λx=>xs[x]?) ∘ λx=>i+x)=λm=>xs[i+m]?:=rfl
 rw[e2]at this;rw[this]
theorem getItem_tuple_cut{t sl:Addr}{items:Array Ac}{vl vu:Ac}{lo hi:Option Int}{Q:Ac -> Ae -> Prop}(ht:IsTup s.heap t items)(hs:s.heap.IsSliceOf sl vl vu .none)(pl:IsPart vl lo)(pu:IsPart vu hi)
  (hw:¬ (sIx items.size 0 lo=0/\sIx items.size items.size hi=items.size))
  (h:Q (.ref s.heap.objs.size) { s with heap:=s.heap.push { cls:=.type "tuple",data:=.seq ((items.toList.drop (sIx items.size 0 lo)).take (sIx items.size items.size hi-sIx items.size 0 lo)).toArray } })
  (hsz:items.size<=sizeLine):Ak (An prog w) A (getItem (.ref t) (.ref sl)) Q E s:=by
 have htake:sizeOk (.seq ((items.toList.drop (sIx items.size 0 lo)).take (sIx items.size items.size hi-sIx items.size 0 lo)).toArray):=by show ((items.toList.drop (sIx items.size 0 lo)).take (sIx items.size items.size hi-sIx items.size 0 lo)).toArray.size<=sizeLine;rw[AF,AS,List.length_drop,AJ];lia
 have hj:sIx items.size items.size hi<=items.size:=znR _ _ (Ai _) hi;obtain⟨os,hos,hcs,hds⟩:=id hs;have hTs:s.TypeIs (.ref sl) "slice":=⟨os,hos,hcs⟩;unfold getItem
 try with_reducible refine Bb ?_
 first |refine Aa (Af ?_) |skip
 refine Aa (wpAny_sequenceKey ht.typeIs (by decide) ?_)
 refine Aa (Bi (name:=Bx "__getitem__") ht.typeIs BU
  (Bo BU ht.typeIs entry_tuple_getitem ?_ (args_tuple_getitem _ _)))
 show Ak _ _ (Builtin.Tuple.tupleItemsOf (.ref t) >>= _) _ _ s;refine Aa (tupleItemsOf_ ht ?_);refine Aa (wpAny_typeOf hTs ?_);rw[if_pos (by decide)];refine Aa (zch hs pl pu ?_)
 have hno:¬ ((((sIx items.size 0 lo:Nat):Int) == 0 && (1:Int) == 1 && (sIx items.size items.size hi-sIx items.size 0 lo) == items.size)=true):=by intro q;rw[B6,B6]at q;have q1:((sIx items.size 0 lo:Nat):Int)=0:=eq_of_beq q.1.1;have q2:sIx items.size items.size hi-sIx items.size 0 lo=items.size:=eq_of_beq q.2;exact hw ⟨by lia,by lia⟩
 show Ak _ _ (if (((sIx items.size 0 lo:Nat):Int) == 0 && (1:Int) == 1 && (sIx items.size items.size hi-sIx items.size 0 lo) == items.size)=true then _ else _) _ _ s;rw[if_neg hno,zlD]
 first
  |exact Aa (m:=DF _) (Bl (Af ⟨_,rfl,Af h⟩) htake)
  |exact Aa (m:=DF _) (Bl (Aa (Af (Af ⟨_,rfl,Af h⟩))) htake)
  |exact Aa (Aa (m:=DF _) (Bl (Af (Af ⟨_,rfl,Af h⟩)) htake))
  |exact Aa (Aa (m:=DF _) (Bl (Af ⟨_,rfl,Af h⟩) htake))
end
end HT
namespace L2
open PySem PySem.Spec PyProof.Rows
noncomputable abbrev TO:=St->Hp->(Option Int->Hp->Prop)->Prop
noncomputable def PO(X:Cx)(e:Option Expr)(t:TO):Prop :=
 ∀(pins:List (Addr×Obj)) (s:Ae) (σ:St) (H:Hp) (Q:Option Int->Hp->Prop),Inv X pins σ H s->t σ H Q ->
  Ak (An X.prog X.w) X.A (evalPart e X.env) (λu s'=>∃o H',Inv X pins σ H' s'/\IsPart u o/\Q o H') X.xe s
noncomputable def zjC:TO:=λ_ H Q=>Q none H
noncomputable def tPart(t:TE):TO:=λσ H Q=>t σ H λx H1=>∃i,x=.int i/\Q (some i) H1
theorem zbB{ns:List Int}:∀{us:List Ac},Vals (ns.map V.int) us->CU us ns:=by
 induction ns with
 |nil=>intro us r;rw[DV]at r;cases r;exact .nil
 |cons n ns ih =>
  intro us r;rw[AO]at r
  cases r with
  |cons r1 r2 =>
   obtain⟨t,e⟩:=r1;subst e;exact .cons n t (ih r2)
section
variable {X:Cx}{e:Expr}{te:TE}{lo hi:Option Expr}{tl th:TO}{pos p2:Pos}
theorem zdw:PO X none zjC:=by intro pins s σ H Q I h;rw[evalPart_none];exact Af ⟨none,H,I,.none,h⟩
theorem zdv(h:PE X e te):PO X (some e) (tPart te):=by
 intro pins s σ H Q I hw;rw[evalPart_some];refine thn (h pins s σ H _ I hw) λu s1 ⟨x,H1,I1,r1,q1⟩=>?_
 obtain⟨i,rfl,q⟩:=q1;obtain⟨t,rfl⟩:=r1;exact⟨some i,H1,I1,.int i t,q⟩
noncomputable def SlR(X:Cx)(r:V->Option Int->Option Int->Hp->VK->Prop):Prop :=
 ∀(pins:List (Addr×Obj)) (s:Ae) (σ:St) (H:Hp) (x:V) (v vl vu:Ac) (lo hi:Option Int) (sl:Addr) (Q:VK),Inv X pins σ H s->RelV x v->s.heap.IsSliceOf sl vl vu .none->IsPart vl lo->IsPart vu hi->r x lo hi H Q ->
  ∃T id,typeLookup (.type T) "__getitem__" = pure (some (.builtin id))/\s.TypeIs v T/\Ak (An X.prog X.w) X.A (getItem v (.ref sl)) (EP X pins σ Q) X.xe s
noncomputable def tSl(r:V->Option Int->Option Int->Hp->VK->Prop)(te:TE)(tl th:TO):TE:=λσ H Q=>te σ H λx H1=>tl σ H1 λl H2=>th σ H2 λu H3=>r x l u H3 Q
theorem zcH{r:V->Option Int->Option Int->Hp->VK->Prop}(hr:SlR X r)(he:PE X e te)(hl:PO X lo tl)(hu:PO X hi th):PE X (.Subscript e (.Slice lo hi none p2) pos) (tSl r te tl th):=by
 intro pins s σ H Q I h;refine Subscript_ (thn (he pins s σ H _ I h) λv s1 ⟨x,H1,I1,r1,q1⟩=>?_);refine wpAny_Slice (thn (hl pins s1 σ H1 _ I1 q1) λvl s2 ⟨l,H2,I2,pl,q2⟩=>thn (hu pins s2 σ H2 _ I2 q2) λvu s3 ⟨u,H3,I3,pu,q3⟩=>?_);rw[evalPart_none];refine Af ?_
 have I4:Inv X pins σ H3 { s3 with heap:=s3.heap.push { cls:=.type "slice",data:=.fields #[vl,vu,.none] } }:=I3.kept (t':=s3.toks) λb ob q=>Ag _ q
 obtain⟨T,id,hT,ht,hg⟩:=hr pins { s3 with heap:=s3.heap.push { cls:=.type "slice",data:=.fields #[vl,vu,.none] } } σ H3 x v vl vu l u s3.heap.objs.size Q I4 r1 (Heap.IsSliceOf.new ..) pl pu q3;show Ak (An X.prog X.w) X.A (subscriptTail e (.Slice lo hi none p2) v (.ref s3.heap.objs.size)) (EP X pins σ Q) X.xe { s3 with heap:=s3.heap.push { cls:=.type "slice",data:=.fields #[vl,vu,.none] } };exact tail_any (ops:=[.ref s3.heap.objs.size,v]) ht hT hg (by with_unfolding_all rfl)
noncomputable def cutV(xs:List V)(lo hi:Option Int):List V:=(xs.drop (HT.sIx xs.length 0 lo)).take (HT.sIx xs.length xs.length hi-HT.sIx xs.length 0 lo)
theorem zeE(xs:List V)(lo hi:Option Int):(cutV xs lo hi).length<=xs.length:=by unfold cutV;rw[AS,List.length_drop];lia
noncomputable def rSlT(K:W.Frag):V->Option Int->Option Int->Hp->VK->Prop:=λx lo hi H Q=>∃a xs,x=.ref a/\SqT K H a xs /\
 ¬ (HT.sIx xs.length 0 lo=0/\HT.sIx xs.length xs.length hi=xs.length)/\∀p,H p=none->Q (.ref p) (upd H p (.tup (cutV xs lo hi)))
theorem znL:SlR X (rSlT X.K):=by
 intro pins s σ H x v vl vu lo hi sl Q I rx hs pl pu h;obtain⟨a,xs,rfl,hx,hw,q⟩:=h
 cases rx
 obtain⟨its,r,ht,hz⟩:=I.tuple hx;have hlen:its.toArray.size=xs.length:=by rw[AF];exact r.length.symm
 refine⟨"tuple",_,BU.lookup,ht.typeIs,?_⟩;refine HT.getItem_tuple_cut ht hs pl pu (by rw[hlen];exact hw) ?_ (by rw[hlen];exact hz)
 rw[hlen];refine⟨.ref s.heap.objs.size,_,I.laid (t':=s.toks) (o:=.tup (cutV xs lo hi)) (λb ob q=>Ag _ q) (Ai _) ?_,rfl,q _ (I.hok.fresh (Ai _))⟩;exact⟨A3 (zeE xs lo hi) hz,_,(r.drop (HT.sIx xs.length 0 lo)).take (HT.sIx xs.length xs.length hi-HT.sIx xs.length 0 lo),IsTup.new _ _⟩
end
noncomputable def ixN(n:Nat)(i:Int):Option Nat:=if 0<=i then (if i<n then some i.toNat else none) else if -(n:Int)<=i then some (i+n).toNat else none
noncomputable def atI{α:Type}(xs:List α)(i:Int):Option α:=(ixN xs.length i).bind λj=>xs[j]?
theorem znh{n:Nat}{i:Int}{j:Nat}(h:ixN n i=some j):seqIndex? i n=some j/\j<n/\-(n:Int)<=i/\i<n:=by
 unfold ixN at h
 by_cases h0:0<=i
 .rw[if_pos h0]at h
  by_cases h1:i<n
  .rw[if_pos h1]at h;have e:i.toNat=j:=A9 h;exact⟨by rw[seqIndex_of h0 h1,e],by lia,by lia,h1⟩
  .rw[if_neg h1]at h;cases h
 .rw[if_neg h0]at h
  by_cases h1:-(n:Int)<=i
  .rw[if_pos h1]at h;have e:(i+n).toNat=j:=A9 h;exact⟨by rw[seqIndex_neg (by lia) h1,e],by lia,h1,by lia⟩
  .rw[if_neg h1]at h;cases h
theorem zlc{α:Type}{xs:List α}{i:Int}{v:α}(h:atI xs i=some v):∃j,seqIndex? i xs.length=some j/\xs[j]?=some v/\j<xs.length/\-(xs.length:Int)<=i/\i<xs.length:=by
 unfold atI at h
 cases e:ixN xs.length i with
 |none=>rw[e]at h;cases h
 |some j =>
  rw[e]at h;obtain⟨h1,h2,h3,h4⟩:=znh e;exact⟨j,h1,h,h2,h3,h4⟩
theorem zaG{α:Type}{xs:List α}{j:Nat}{v:α}(h:xs[j]?=some v):atI xs (j:Int)=some v:=by
 have hj:j<xs.length:=(Ad.mp h).1
 have e:ixN xs.length (j:Int)=some j:=by unfold ixN;rw[if_pos (by lia),if_pos (by lia)];simp
 unfold atI;rw[e];exact h
noncomputable def znt(b:Expr):Prop:=∀o i,subscripted b false o i=operate [o,i] (getItem o i)
noncomputable def IxR(X:Cx)(r:R2):Prop :=
 ∀(value slice:Expr) (pins:List (Addr×Obj)) (s:Ae) (σ:St) (H:Hp) (x y:V) (v u:Ac) (Q:VK),Inv X pins σ H s->RelV x v->RelV y u->r x y H Q ->
  subscripted slice false v u=operate [v,u] (getItem v u)->Ak (An X.prog X.w) X.A (subscriptTail value slice v u) (EP X pins σ Q) X.xe s
noncomputable def MtR(X:Cx)(id:String)(r:V->List V->Hp->VK->Prop):Prop :=
 ∀(pins:List (Addr×Obj)) (s:Ae) (σ:St) (H:Hp) (x:V) (xs:List V) (v:Ac) (us:List Ac) (Q:VK),Inv X pins σ H s->RelV x v->Vals xs us->r x xs H Q ->
  Ak (An X.prog X.w) X.A (call (.builtin id) (v::us)) (EP X pins σ Q) X.xe s
section
variable {X:Cx}{a b:Expr}{ta tb:TE}{pos:Pos}
theorem pe_ix{r:R2}(hr:IxR X r)(ha:PE X a ta)(hb:PE X b tb)(hs:znt b):PE X (.Subscript a b pos) (tOp r ta tb):=by intro pins s σ H Q I h;exact Subscript_ (binT ha hb I h λv u s2 x y H2 I2 rx ry q=>hr a b pins s2 σ H2 x y v u Q I2 rx ry q (hs _ _))
noncomputable def rIxL(K:W.Frag):R2:=λx y H Q=>∃p xs i v,x=.ref p/\y=.int i/\SqL K H p xs/\atI xs i=some v/\Q v H
noncomputable def rIxT(K:W.Frag):R2:=λx y H Q=>∃p xs i v,x=.ref p/\y=.int i/\SqT K H p xs/\atI xs i=some v/\Q v H
theorem zbX:IxR X (rIxL X.K):=by
 intro value slice pins s σ H x y v u Q I rx ry h hs;obtain⟨p,xs,i,z,rfl,rfl,hq,he,q⟩:=h
 cases rx
 obtain⟨t,rfl⟩:=ry;obtain⟨its,r,pl,hz⟩:=I.list hq;obtain⟨j,h1,h2,h3,h4,h5⟩:=zlc he;obtain⟨w,ew,rw'⟩:=r.get h2;have hl:=r.length;have hn:=zim;have fin:EP X pins σ Q w s:=⟨z,H,I,rw',q⟩
 by_cases h0:0<=i
 .have hj:i.toNat=j := by rw[seqIndex_of h0 h5]at h1;exact A9 h1
  exact item_listR pl.isList h0 (by lia) (by rw[hj];simpa using ew) fin hs
 .have hj:(i + (its.toArray.size:Int)).toNat=j := by rw[seqIndex_neg (by lia) h4]at h1;rw[AF,<- hl];exact A9 h1
  exact subscriptTail_builtinR (x:=w) pl.isList.typeIs slot_list_getitem.lookup
   (wpAny_getItem_list_neg (Q:=λr s'=>r=w/\EP X pins σ Q r s') pl.isList (by lia) (by rw[AF] <;> lia) (by lia) (by rw[hj];simpa using ew) ⟨rfl,fin⟩) hs
theorem zcO:IxR X (rIxT X.K):=by
 intro value slice pins s σ H x y v u Q I rx ry h hs;obtain⟨p,xs,i,z,rfl,rfl,hq,he,q⟩:=h
 cases rx
 obtain⟨t,rfl⟩:=ry;obtain⟨its,r,pl,hz⟩:=I.tuple hq;obtain⟨j,h1,h2,h3,h4,h5⟩:=zlc he;obtain⟨w,ew,rw'⟩:=r.get h2;have hl:=r.length;have hn:=zim;have fin:EP X pins σ Q w s:=⟨z,H,I,rw',q⟩
 exact subscriptTail_builtinR (x:=w) pl.typeIs slot_tuple_getitem.lookup
  (getItem_tuple (j:=j) (Q:=λr s'=>r=w/\EP X pins σ Q r s') pl (by lia) (by lia) (by rw[AF,<- hl];exact h1) (by simpa using ew) ⟨rfl,fin⟩) hs
theorem zgv(lo hi:Option Int)(n:Nat):(EU lo hi none n).1=((HT.sIx n 0 lo:Nat):Int)/\(EU lo hi none n).2.1=((HT.sIx n n hi:Nat):Int)/\(EU lo hi none n).2.2=1:=by
 refine⟨?_,?_,rfl⟩
 .cases lo with
  |none=>simp[EU,HT.sIx]
  |some i =>
   simp only[EU,HT.sIx,Option.getD_none,show (1:Int) > 0 by decide,if_true]
   by_cases h:i<0
   .simp only[h,if_true] <;> lia
   .simp only[h,if_false] <;> lia
 .cases hi with
  |none=>simp[EU,HT.sIx]
  |some i =>
   simp only[EU,HT.sIx,Option.getD_none,show (1:Int) > 0 by decide,if_true]
   by_cases h:i<0
   .simp only[h,if_true] <;> lia
   .simp only[h,if_false] <;> lia
theorem zfv(its:List Ac)(lo hi:Option Int):slicePick its.toArray lo hi none=((its.drop (HT.sIx its.length 0 lo)).take (HT.sIx its.length its.length hi-HT.sIx its.length 0 lo)).toArray:=by obtain⟨h1,h2,h3⟩:=zgv lo hi its.toArray.size;unfold slicePick;rw[h1,h2,h3];simp only[sliceRange_one,pick_run,AF] <;> rfl
noncomputable def rSlL(K:W.Frag):V->Option Int->Option Int->Hp->VK->Prop:=λx lo hi H Q=>∃a xs,x=.ref a/\SqL K H a xs/\∀p,H p=none->Q (.ref p) (upd H p (.lst (cutV xs lo hi)))
theorem zfw:SlR X (rSlL X.K):=by
 intro pins s σ H x v vl vu lo hi sl Q I rx hs pl pu h;obtain⟨a,xs,rfl,hx,q⟩:=h
 cases rx
 obtain⟨its,r,ht,hz⟩:=I.list hx;have hlen:=r.length;refine⟨"list",_,slot_list_getitem.lookup,ht.isList.typeIs,?_⟩;refine wpAny_getItem_list_slice ht.isList hs pl pu .none (by simp) ?_ (by rw[AF] <;> lia)
 rw[zfv,<- hlen];refine⟨.ref s.heap.objs.size,_,I.laid (t':=s.toks) (o:=.lst (cutV xs lo hi)) (λb ob q=>Ag _ q) (Ai _) ?_,rfl,q _ (I.hok.fresh (Ai _))⟩;exact⟨A3 (zeE xs lo hi) hz,_,0,(r.drop (HT.sIx xs.length 0 lo)).take (HT.sIx xs.length xs.length hi-HT.sIx xs.length 0 lo),At _ rfl⟩
theorem zas:CallR X (.builtin "len") (λxs H Q=>∃p ys,xs=[.ref p]/\(SqL X.K H p ys∨SqT X.K H p ys)/\Q (.int ys.length) H):=by
 intro pins s σ H xs us Q I r h;obtain⟨p,ys,rfl,hq,q⟩:=h;obtain⟨u,rfl,rx⟩:=vals1 r
 cases rx
 have hn:=zim;rcases hq with hq |hq
 .obtain⟨its,r',pl,hz⟩:=I.list hq;have hlen:=r'.length;exact Calls.call_len_list pl.isList (by simp only[AF] <;> lia) ⟨.int ys.length,H,I.tok _,⟨s.toks+1,by rw[AF,hlen]⟩,q⟩
 .obtain⟨its,r',pl,hz⟩:=I.tuple hq;have hlen:=r'.length;exact len_tuple pl (by simp only[AF] <;> lia) ⟨.int ys.length,H,I.tok _,⟨s.toks+1,by rw[AF,hlen]⟩,q⟩
theorem zf7:CallR X (.type "tuple") (λxs H Q=>∃p ys,xs=[.ref p]/\((SqL X.K H p ys/\∀l,H l=none->Q (.ref l) (upd H l (.tup ys)))∨(SqT X.K H p ys/\Q (.ref p) H))):=by
 intro pins s σ H xs us Q I r h;obtain⟨p,ys,rfl,h⟩:=h;obtain⟨u,rfl,rx⟩:=vals1 r
 cases rx
 rcases h with⟨hq,q⟩ |⟨hq,q⟩
 .obtain⟨its,r',pl,hz⟩:=I.list hq;have hlen:=r'.length;refine call_tuple_list pl.isList (λh' kp=>?_) (by simp only[AF] <;> lia);have I1:Inv X pins σ H { s with heap:=h' }:=I.kept (t':=s.toks) kp
  have I2:Inv X pins σ (upd H h'.objs.size (.tup ys)) { s with heap:=h'.push { cls:=.type "tuple",data:=.seq its.toArray } } :=
   I1.laid (t':=s.toks) (λb o e=>Ag _ e) (Ai _) (show ObjOk X.prog X.w _ _ _ (.tup ys) from ⟨hz,its,r',IsTup.new _ _⟩)
  exact⟨.ref h'.objs.size,_,I2,rfl,q _ (I1.hok.fresh (Ai _))⟩
 .obtain⟨its,r',pl,hz⟩:=I.tuple hq;exact call_tuple_same pl ⟨.ref p,H,I,rfl,q⟩
noncomputable def tyV(K:W.Frag)(T:String)(x:V)(H:Hp):Prop:=match x with
  |.str _=>T = "str"
  |.int _=>T = "int"
  |.ref p => (T = "list" /\ ∃xs, SqL K H p xs) ∨ (T = "tuple" /\ ∃o, K.lookup p=some o /\ o.cls = .type "tuple" /\ o.dict=none) ∨
      (T = "dict" /\ ((∃kvs,H p=some (.dK kvs))∨∃kvs,H p=some (.dT kvs)))∨(T = "set" /\ ∃S n,H p=some (.set S n))
  |_=>False
theorem znw{pins:List (Addr × Obj)}{σ : St}{H:Hp}{s:Ae}{T:String}{x:V}{v:Ac}(I:Inv X pins σ H s)(r:RelV x v)(ty:tyV X.K T x H) :
  s.TypeIs v T/\∀a,v=.ref a->∃ob,s.heap.get? a=some ob/\ob.dict=none:=by
 cases x with
 |str z =>
  obtain⟨t,rfl⟩:=r
  cases (show T = "str" from ty)
  exact⟨typeIs_str s z t,λ_ e=>nomatch e⟩
 |int i =>
  obtain⟨t,rfl⟩:=r
  cases (show T = "int" from ty)
  exact⟨typeIs_int s i t,λ_ e=>nomatch e⟩
 |ref p =>
  cases r
  rcases ty with⟨rfl,xs,hq⟩ |⟨rfl,o,hk,hc,hd⟩ |⟨rfl,hk⟩ |⟨rfl,S,n,hk⟩
  .obtain⟨its,_,pl,_⟩:=I.list hq;refine⟨pl.isList.typeIs,λa e=>?_⟩
   cases e
   obtain⟨o,n,e,c,hd,_⟩:=pl;exact⟨o,e,hd⟩
  .refine⟨⟨o,I.kIn p o hk,hc⟩,λa e=>?_⟩
   cases e
   exact⟨o,I.kIn _ o hk,hd⟩
  .have z:∃o, s.heap.get? p=some o /\ o.ExactDict := by
    rcases hk with⟨kvs,hk⟩ |⟨kvs,hk⟩
    .obtain⟨_,_,_,_,o,_,_,e,ex,_⟩:=I.hok p _ hk;exact⟨o,e,ex⟩
    .obtain⟨_,_,_,_,o,_,_,e,ex,_⟩:=I.hok p _ hk;exact⟨o,e,ex⟩
   obtain⟨o,e,ex⟩:=z;refine⟨⟨o,e,ex.1⟩,λa e2=>?_⟩
   cases e2
   exact⟨o,e,ex.2.1⟩
  .obtain⟨o,_,_,_,e,ex,_⟩:=I.hok p _ hk;refine⟨⟨o,e,ex.1⟩,λa e2=>?_⟩
   cases e2
   exact⟨o,e,ex.2.1⟩
 |_=>exact BD ty
noncomputable def tBM(K:W.Frag)(T:String)(r:V->List V->Hp->VK->Prop)(to:TE)(t:TA):TE:=λσ H Q=>to σ H λx H1=>tyV K T x H1/\t σ H1 λxs H2=>r x xs H2 Q
variable {o e:Expr}{es:List Expr}{to:TE}{t:TA}{name:Str}{apos cpos:Pos}{T id:String}{r:V->List V->Hp->VK->Prop}
theorem pe_bm (pa:PlainAttrs T) (slot:Slot T name id) (hty:typeOf (.builtin id)=pure (.type "method_descriptor")) (hm:MtR X id r) (ho:PE X o to) (ha:PA X (e :: es) t)
  (hbase:attributeBase o name X.env (eval o X.env)=eval o X.env:=by rfl)
  (hfew:((EO cpos (Bh (e::es) X.env)).all (λx=>!x.1) && (DN cpos (Cz [] X.env)).all (λx=>x.1.isSome)
   && decide ((e::es).length+([]:List Keyword).length+(if ([]:List Keyword).isEmpty then 0 else 1)<30))=true:=by rfl)
  (hline:(apos.endLine == cpos.line)=true:=by rfl) (hs:Bh (e::es) X.env=(false,eval e X.env)::Bh es X.env:=by rfl) (hplain:(EO cpos (Bh es X.env)).any (·.1)=false:=by rfl) :
  PE X (.Call (.Attribute o name apos) (e::es) [] cpos) (tBM X.K T r to t):=by
 intro pins s σ H Q I h;refine wpAny_Call_method_late hbase hfew hline rfl (thn (ho pins s σ H _ I h) λv s1 ⟨x,H1,I1,r1,ty,q1⟩=>?_);obtain⟨h1,h2⟩:=znw I1 r1 ty;refine⟨T,id,pa,slot,hty,h1,h2,?_⟩;have hA:=ha cpos pins s1 σ H1 _ I1 q1;rw[hs]at hA ⊢;refine CF (by show (false || (EO cpos (Bh es X.env)).any (·.1))=false;rw[hplain] <;> rfl) (Dw ?_);exact thn hA λus s2 ⟨vs,H2,I2,r2,q2⟩=>hm pins s2 σ H2 x vs v us Q I2 r1 r2 q2
/- xs.append(e),list.index on a module's tuple .. are MtR facts of 06m -/
end
noncomputable def MtM(X:Cx)(id:String)(r:V->List V->Hp->VK->Prop):Prop :=
 ∀(pins:List (Addr×Obj)) (s:Ae) (σ:St) (H:Hp) (x:V) (xs:List V) (v:Ac) (us:List Ac) (Q:VK),Inv X pins σ H s->RelV x v->Vals xs us->r x xs H Q ->
  Ak (An X.prog X.w) X.A (call (.builtin id) (v::us)) (EP X pins σ Q) X.xe s
theorem Vals.one:∀{x:V}{us:List Ac},Vals [x] us->∃u,us=[u]/\RelV x u
 |_,_,.cons r .nil=>⟨_,rfl,r⟩
theorem Vals.rep{xs:List V}{us:List Ac}(h:Vals xs us):∀k:Nat,Vals (Ar k xs).flatten (Ar k us).flatten
 | 0=>.nil
 |k+1=>by
  rw[C9,C9,Br,Br];exact Vals.append h (Vals.rep h k)
theorem zgV(its:List Ac):∀(k:Nat) (acc:List Ac),
  List.foldl (λx1 x2=>x1++x2) acc.toArray (Ar k its.toArray)=(acc++(Ar k its).flatten).toArray
 | 0,acc=>by simp
 |k+1,acc=>by
  have e:acc.toArray++its.toArray=(acc++its).toArray:=by simp
  have e2:(acc++its)++(Ar k its).flatten=acc++(Ar (k+1) its).flatten:=by rw[C9,Br,AN]
  rw[<- e2,<- zgV its k (acc++its),<- e,C9,List.foldl_cons]
section
variable {X:Cx}{pins:List (Addr×Obj)}{σ:St}{H:Hp}{s:Ae}{l b:Addr}{xs ys zs:List V}
theorem Inv.lset{its its':List Ac}{n:Nat}{f:Array Ac -> Array Ac}{t':Nat}(I:Inv X pins σ H s)(hH:H l=some (.lst xs))
  (e:s.heap.get? l=some { cls:=.type "list",data:=.seq its.toArray n }) (hf:f its.toArray=its'.toArray) (hv:Vals ys its') (hz:ys.length<=sizeLine) :
  Inv X pins σ (upd H l (.lst ys)) { s with heap:=s.heap.update l (A7 f),toks:=t' }:=by
 have q:=PySem.IsL.update e f;rw[hf]at q;refine I.write (x:=l) (e:=l) (by rw[hH];exact trivial) (.inl rfl) (λb' u hb hu=>(BE s.heap (A7 f) (Cj hb)).trans hu) ⟨_,q⟩ ?_
 exact⟨hz,its',_,hv,q⟩
theorem Inv.lnew{its:List Ac}{t':Nat}(I:Inv X pins σ H s)(hv:Vals ys its)(hz:ys.length <= sizeLine) :
  Inv X pins σ (upd H s.heap.objs.size (.lst ys)) { s with heap:=s.heap.push { cls:=.type "list",data:=.seq its.toArray },toks:=t' } :=
 I.laid (λ_ _ q=>Ag _ q) (Ai _) ⟨hz,its,0,hv,At _ rfl⟩
theorem Inv.fresh(I:Inv X pins σ H s):H s.heap.objs.size=none:=I.hok.fresh (Ai _)
theorem Inv.lstM (I:Inv X pins σ H s) (hH:H l=some (.lst xs)):xs.length<=sizeLine/\∃(its:List Ac) (n:Nat),Vals xs its/\xs.length=its.length/\s.heap.get? l=some { cls:=.type "list",data:=.seq its.toArray n }:=by obtain⟨z,its,n,r,e⟩:=I.hok l _ hH;exact⟨z,its,n,r,r.length,e⟩
theorem zih{n:Nat}(h:n<=sizeLine):DG n=false:=by unfold DG;exact decide_eq_false (by lia)
end
section
variable {X:Cx}
noncomputable def zmV:V->List V->Hp->VK->Prop:=λx vs H Q=>∃l xs y,x=.ref l/\vs=[y]/\H l=some (.lst xs)/\xs.length<sizeLine/\Q .non (upd H l (.lst (xs++[y])))
theorem zaT:MtM X "list.append" zmV:=by
 intro pins s σ H x vs v us Q I rx rv h;obtain⟨l,xs,y,rfl,rfl,hH,hz,q⟩:=h
 cases rx
 obtain⟨u,rfl,ru⟩:=rv.one;obtain⟨z,its,n,r,hl,e⟩:=I.lstM hH;refine call_meets F.slot_list_append ⟨_,e,rfl⟩ F.entry_list_append (F.args_list_append_2 _ _) (PySem.list_append l its.toArray n u (by rw[AF];lia)) ⟨e,?_⟩;refine⟨.non,_,I.lset (its':=its++[u]) hH e (by simp) (r.append (.cons ru .nil)) ?_,rfl,q⟩;rw[Av,Ea];lia
noncomputable def zmU:V->List V->Hp->VK->Prop:=λx vs H Q=>∃l b xs zs,x=.ref l/\vs=[.ref b]/\H l=some (.lst xs)/\H b=some (.lst zs)/\xs.length+zs.length<=sizeLine/\Q .non (upd H l (.lst (xs++zs)))
theorem zex:MtM X "list.extend" zmU:=by
 intro pins s σ H x vs v us Q I rx rv h;obtain⟨l,b,xs,zs,rfl,rfl,hH,hB,hz,q⟩:=h
 cases rx
 obtain⟨u,rfl,ru⟩:=rv.one
 cases ru
 obtain⟨z,its,n,r,hl,e⟩:=I.lstM hH;obtain⟨z2,its2,n2,r2,hl2,e2⟩:=I.lstM hB;have hsz:its.toArray.size+its2.toArray.size<=sizeLine:=by rw[AF,AF];lia
 have hlong:¬ (!its.toArray.isEmpty && DG (its.toArray.size+its2.toArray.size))=true:=by rw[zih hsz,Bool.and_false];exact AT
 refine call_meets F.slot_list_extend ⟨_,e,rfl⟩ F.entry_list_extend (F.args_list_extend_2 _ _)
  (AutoSeq1.list_extend_list_list_0 l its.toArray n b its2.toArray n2 hlong (by rw[AF];lia) (by lia)) ⟨e,e2,?_⟩
 refine⟨.non,_,I.lset (its':=its++its2) hH e (by simp) (r.append r2) ?_,rfl,q⟩;rw[Av];lia
noncomputable def rCat:R2:=λx y H Q=>∃l b xs zs,x=.ref l/\y=.ref b/\H l=some (.lst xs)/\H b=some (.lst zs)/\xs.length+zs.length<=sizeLine/\∀p,H p=none->Q (.ref p) (upd H p (.lst (xs++zs)))
theorem zmx:OpR X (binaryOp .Add) rCat:=by
 intro pins s σ H x y v u Q I rx ry h;obtain⟨l,b,xs,zs,rfl,rfl,hH,hB,hz,q⟩:=h
 cases rx
 cases ry
 obtain⟨z,its,n,r,hl,e⟩:=I.lstM hH;obtain⟨z2,its2,n2,r2,hl2,e2⟩:=I.lstM hB;refine PySem.P.add_list e e2 ?_ (by rw[AF,AF];lia)
 have ea:its.toArray++its2.toArray=(its++its2).toArray:=by simp
 rw[ea];exact⟨.ref _,_,I.lnew (t':=s.toks) (r.append r2) (by rw[Av];lia),rfl,q _ I.fresh⟩
noncomputable def rRep:R2:=λx y H Q=>∃l k xs,x=.ref l/\y=.int k/\H l=some (.lst xs)/\-(2 ^ 63)<=k/\k<2 ^ 63/\xs.length*k.toNat<=sizeLine /\
 ∀p,H p=none->Q (.ref p) (upd H p (.lst (Ar k.toNat xs).flatten))
theorem zne{α:Type}(xs:List α)(k:Nat):(Ar k xs).flatten.length=k*xs.length:=by
 induction k with
 |zero=>simp
 |succ k ih=>rw[C9,Br,Av,ih,Nat.succ_mul,Nat.add_comm]
theorem zmw:OpR X (binaryOp .Mult) rRep:=by
 intro pins s σ H x y v u Q I rx ry h;obtain⟨l,k,xs,rfl,rfl,hH,h1,h2,hz,q⟩:=h
 cases rx
 obtain⟨t,rfl⟩:=ry;obtain⟨z,its,n,r,hl,e⟩:=I.lstM hH;have hlen:its.toArray.size*k.toNat<=sizeLine:=by rw[AF,<- hl];exact hz
 have hcap:¬ its.toArray.size*k.toNat > (2 ^ 63-1) / 8:=by
  have:(sizeLine:Nat)<=(2 ^ 63-1) / 8:=by decide
  lia
 have hfit:¬ (!Builtin.List.listFitsIndex k)=true:=by rw[fitsIndex_both h1 h2];exact AT
 have hlong:¬ DG (its.toArray.size*k.toNat)=true:=by rw[zih hlen];exact AT
 have hnew:List.foldl (λx1 x2=>x1++x2) #[] (Ar (if its.toArray.isEmpty=true then 0 else k.toNat) its.toArray)=(Ar k.toNat its).flatten.toArray:=by
  have f0:∀m:Nat,List.foldl (λx1 x2=>x1++x2) #[] (Ar m its.toArray)=(Ar m its).flatten.toArray:=λm=>by have:=zgV its m [];rw[List.nil_append]at this;exact this
  rw[f0]
  cases its with
  |nil=>simp
  |cons a r'=>rw[if_neg (by simp)]
 refine wpAny_binaryOp_repeat_ref (T:="list") (U:="int") (by decide) ⟨_,e,rfl⟩ (λs'=>typeIs_int s' k t) noFill_list_mul F.fills_int_mul F.slot_int_rmul repeat_list F.slot_int_index.lookup
  (call_meets F.slot_int_rmul (typeIs_int s k t) F.entry_int_rmul (F.args_int_rmul_2 _ _) (int___rmul___int_list k t l its.toArray n)
   ⟨e,rfl,⟨_,e,rfl⟩,call_meets F.slot_list_mul ⟨_,e,rfl⟩ F.entry_list_mul (F.args_list_mul_2 _ _) (AutoListH.list___mul___list_int_3 l its.toArray n k t hfit hcap hlong) ⟨e,?_⟩⟩)
 rw[hnew];exact⟨.ref _,_,I.lnew (t':=s.toks) (r.rep k.toNat) (by rw[zne,Nat.mul_comm];exact hz),rfl,q _ I.fresh⟩
end
section
variable {prog:AQ}{w:Bg}{A:AY}{E:Ac->Ae->Prop}{s:Ae}
end
section
variable {X:Cx}
end
end L2
namespace Att
open PySem PySem.W PySem.Calls PyProof.Rows
theorem zey{P:Params}{h:Heap}:∀(ns:List Int) (vs:List Ac),WellAll P h vs (ns.map WData.int)->CU vs ns:=by
 intro ns
 induction ns with
 |nil =>
  intro vs w;rw[DV]at w
  cases w
  exact .nil
 |cons n ns ih =>
  intro vs w;rw[AO]at w
  cases w with
  |cons a b =>
   cases a
   exact .cons _ _ (ih _ b)
theorem zjW{l:OpenLaw}{n:Nat}(hn:l.most=some n){P:Params}{h:Heap}{args:List WData}{vals:List Ac}
  (hpre:l.row.toRowW.claim.pre args=true) (hwl:WellAll P h vals args) :
  ∃a vs ns,vals=[Au a]/\args=[WData.list (ns.map WData.int)]/\h.get? a=some { cls:=.type "list",data:=.seq vs.toArray }/\CU vs ns/\ns.length<=n:=by
 have hsh:WShape.hasAll [] args [.list .int]=true:=(pre_splitW hpre).1;have hc:l.pre.holds [] { args:=args }=true:=(pre_splitW hpre).2;obtain⟨d,r,rfl,h1,h2⟩:=hasAllW_cons hsh;obtain rfl:=hasAllW_nil h2;obtain⟨xs,rfl,h3⟩:=hasW_list h1;obtain⟨ns,rfl⟩:=items_int h3
 have hlen:ns.length<=n:=by
  unfold OpenLaw.pre at hc
  have h4:(WTm.not (.lt (.lit (.int (n:Int))) (.len (.arg 0)))).holds [] { args:=[.list (ns.map .int)] }=true:=by have h4:=(holds_andW hc).1;rw[hn]at h4;exact h4
  have h5:=condW_of h4 (w_not (w_lt w_lit (w_len_list (w_arg rfl))));rw[Ah]at h5;refine Nat.le_of_not_lt λq=>?_
  have q':(n:Int)<((ns.length:Nat):Int):=by lia
  first
   | (rw[decide_eq_true q']at h5;exact absurd h5 (by decide))
   | (simp at h5;lia)
 cases hwl with
 |cons w1 w2 =>
  cases w2
  cases w1 with
  |list ho hall=>exact⟨_,_,ns,rfl,rfl,ho,zey ns _ hall,hlen⟩
theorem zj8(l:OpenLaw)(args:List WData):l.row.toRowW.claim.post args (.bool true) args=true :=
 postW_of (r:=l.row.toRowW) (X:=(true == true))
  (show WShape.has [] (.bool true) .bool=true by first |rfl |decide |simp[WShape.has,WShape.arms,WShape.armsAll])
  (show (WTm.eq .res (.lit (.bool true))).value [] { args:=args,res:=some (.bool true),after:=args }=some (.bool (true == true)) from w_eq_bool (w_res rfl) w_lit) rfl
theorem attach_call{l:OpenLaw}{n:Nat}{q:AQ}{loose:List Str}{XP:(Str -> Option Ac) -> Heap -> Prop}{YP:Bg -> Heap -> Prop}{d:DefRec}
  (hn:l.most=some n) (hdf:d.params.defaults=[])
  (call:∀(w:Bg) (s₀ s₁:Ae) (mg mb:Str->Option Ac) (fa:Addr) (o:Obj) (pm cd doc:Ac) (a:Addr) (vs:List Ac) (ns:List Int),
   Ground q loose [] XP w s₀ mg mb s₁.heap->YP w s₁.heap ->
   s₁.heap.get? fa=some o->o.data=.func (docDef d.name d.params d.body d.scope pm cd doc)->s₁.heap.CodeRec cd d.name->mg d.name=some (.ref fa) ->
   s₁.heap.get? a=some { cls:=.type "list",data:=.seq vs.toArray }->CU vs ns->ns.length<=n->s₁.gens=#[] ->
   CT (An l.prog w) callerA (.call (.ref fa) ⟨[.ref a],[]⟩) (λr s'=>r=.ok (.ret (.bool true))/\OldK s₁.heap s'.heap/\s'.os=s₁.os/\AllBare s'.gens) s₁) :
  WalkO q loose XP YP l.row.toRowW d [] (λf vs=>PySem.call f vs):=by
 intro w s₀ s₁ mg mb G Y fa o pm cd doc dV kV ho hd hcd hD hmg hg args vals as hpre hlay hrd hwl hlo;obtain rfl:dV=.none:=Dflts.none hD hdf;obtain rfl:kV=.none:=Dflts.noKw hD;obtain⟨a,vs,ns,rfl,rfl,hobj,hints,hlen⟩:=zjW hn hpre hwl;refine enter_call (Ek (call w s₀ s₁ mg mb fa o pm cd doc a vs ns G Y ho (fd_plain hd) hcd hmg hobj hints hlen hg) λr s' hq=>?_);obtain⟨rfl,h2,h3,h4⟩:=hq;exact⟨.inl ⟨.bool true,.bool true,[],rfl,λ_=>rfl,.bool true,zj8 l _,λ_=>⟨List.Pairwise.nil,λ_ hm=>(nomatch hm)⟩⟩,h2,h3,h4⟩
section
variable {prog:AQ}{w:Bg}{A:AY}{E:Ac->Ae->Prop}{s:Ae}{K:Frag}
noncomputable def zow(h:Heap)(L d:Addr):List (Addr×Obj):=(Bk h.objs.size).filterMap λa=>if a=L∨a=d then none else (h.get? a).map λo=>(a,o)
end
end Att
namespace L2
open PySem PySem.Spec PyProof.Rows
theorem zc8:∀{vs:List Ac}{ns:List Int},CU vs ns->Vals (ns.map V.int) vs
 |_,_,.nil=>.nil
 |_,_,.cons n t h=>.cons ⟨t,rfl⟩ (zc8 h)
noncomputable abbrev KOf{K:W.Frag}{h:Heap}(_:K.In h):W.Frag:=K
end L2
/- THE LAST THEOREM (shape; LID, My.* are yours):
  My.Adr: a structure of the addresses that your layer names (classes,functions);My.Txt K t: a structure (Prop) of the equations over K;
  My.txt_mk:{K} {implicit addresses ..} (e1:nsIn K AU "law" = some (some (.ref f))) (e2:K.lookup f=some ⟨oc,od,.func (fnOf "law" "law" params body scope dV kV doc pm an cdv ct),sl⟩) (e3:codeIn K cdv "law" = true) ..:∃t,My.Txt K t
set_option maxRecDepth 100000 in
set_option maxHeartbeats 0 in
theorem PySem.Challenge.cw_LID_holds : PySem.Challenge.rw_LID.Holds := by
 w_on;o_law;k_head;(case hw=>w_witness2)
 k_fill
 refine L2.walk_of (l:=PySem.Challenge.rw_LID) (n:=63) (k:=40) (x:="script") (CX:=λw=>..) (sp:=λ_=>My.sp_law) rfl (by decide) rfl ⟨rfl,by decide,by decide⟩ (λw h Y=>W.kIn_of Y) ?F ?S ?C
 case F =>
  intro w mg fa h KX G hmg
  have T:∃ t,My.Txt (L2.KOf KX) t:=by
   dsimp only[L2.KOf]                          -- K must stand as «<heap const> w.params» for k_is
   refine' My.txt_mk ?e1 ?e2 ?e3 ..
   (case e1=>W.k_is)                    -- in the order: a name -> its address -> its object -> its parts
   (case e2=>W.k_is)
   ..
  obtain⟨t,T⟩:=T
  have e0:=hmg.symm.trans (W.mg_of KX G T.law)
  cases e0                                       -- fa is the law's own address
  exact⟨_,λs u=>.of_eq rfl,λbase kb nb=>My.law_fn T kb nb⟩     -- if «.of_eq rfl» comes too early: refine' ⟨_,?b,λbase kb nb=>My.law_fn T kb nb⟩;exact λs u=>.of_eq rfl
 case S=>exact λw H a ns hl hO hS=>..
 case C=>exact ..
(the tactic k_is has no namespace: write k_is) -/
namespace L2
open PySem PySem.Spec PyProof.Rows
noncomputable def zbb(s:Stmt):Arguments:=match s with
 |.FunctionDef _ a _ _ _ _ _ _ _ _=>a
 |_=>{ posonlyargs:=[],args:=[],vararg:=none,kwonlyargs:=[],kw_defaults:=[],kwarg:=none,defaults:=[] }
noncomputable def zaU(s:Stmt):List Stmt:=match s with
 |.FunctionDef _ _ b _ _ _ _ _ _ _=>b
 |_=>[]
noncomputable def zad(s:Stmt):Scope:=match s with
 |.FunctionDef _ _ _ _ _ _ sc _ _ _=>sc
 |_=>{ kind:=.function,names:=[],isGenerator:=false,isCoroutine:=false }
noncomputable abbrev CX0:CXT:=λ_ _ _ _ _ _=>False
noncomputable abbrev E0:XK:=λ_ _ _=>False
theorem pass0{X:Cx}:zld CX0 X E0:=λ_ _ _ _ _ _ _ h=>h.elim
structure Fun (K:W.Frag) (x qual:Str) (st:Stmt) (f:Addr) (fd:Cc):Prop where
 ex:∃(oc:Ac) (od:Option Addr) (kV doc pm:Ac) (an:Option Addr) (cdv ct:Ac) (osl:Array (Option Ac)),
  fd=Es x qual (zbb st) (zaU st) (zad st) .none kV doc pm an cdv ct/\K.lookup f=some ⟨oc,od,.func fd,osl⟩/\W.codeIn K cdv qual=true
 kp:W.keepIn K (.ref f)=true
section
variable {P:AQ}{w:Bg}{K:W.Frag}{mg:Str->Option Ac}{base:Heap}
theorem Fun.ok{x qual:Str}{st:Stmt}{f:Addr}{fd:Cc}{N ps:List Str}{k:Nat}{sp:Sp}(F:Fun K x qual st f fd)(S:FnScope N ps (zad st))(len:∀vs H Q E, sp vs H Q E -> vs.length=ps.length)
  (hbody:∀(cdv:Ac) (A:AY) (outer:List Env) (s:Ae) (H:Hp) (vs:List V) (Q:VK) (E:XK),Room k (A.deeper (envOfC qual (zad st) s.heap.objs.size f cdv))->sp vs H Q E ->
   ∃t,PSs (cxOf CX0 P w K mg base N qual (zad st) f cdv A outer s H E).nox (zaU st) t/\t { nx:=λ_ H'=>Q .non H',rt:=Q } (start N vs) H):FnOk P w K mg base CX0 (k+1) f fd ps sp:=by
 obtain⟨oc,od,kV,doc,pm,an,cdv,ct,osl,rfl,lk,hcd⟩:=F.ex;refine fn_of lk hcd S len λA outer s H vs Q E hr hsp=>?_
 obtain⟨t,h,q⟩:=hbody cdv A outer s H vs Q E hr hsp;exact⟨t,h.nox,q⟩
theorem Fun.binds{x qual:Str}{st:Stmt}{f:Addr}{fd:Cc}{ps:List Str}(F:Fun K x qual st f fd)
  (h:∀(kV doc pm:Ac) (an:Option Addr) (cdv ct:Ac) (us:List Ac),us.length=ps.length->Ex (Es x qual (zbb st) (zaU st) (zad st) .none kV doc pm an cdv ct) ⟨us,[]⟩=pure (ps.zip us)):Binds K fd ps []:=by
 obtain⟨oc,od,kV,doc,pm,an,cdv,ct,osl,rfl,lk,hcd⟩:=F.ex;exact .all (h kV doc pm an cdv ct)
theorem zdM{x qual:Str}{st:Stmt}{f:Addr}{oc:Ac}{od an:Option Addr}{osl:Array (Option Ac)}{kV doc pm cdv ct:Ac}(l:K.lookup f=some ⟨oc, od, .func (Es x qual (zbb st) (zaU st) (zad st) .none kV doc pm an cdv ct), osl⟩)
  (c:W.codeIn K cdv qual=true) (k:W.keepIn K (.ref f)=true):Fun K x qual st f (Es x qual (zbb st) (zaU st) (zad st) .none kV doc pm an cdv ct):=⟨⟨oc,od,kV,doc,pm,an,cdv,ct,osl,rfl,l,c⟩,k⟩
end
theorem hu_of{A:AY}{k:Nat}(hr:Room k A):A.units+1<cLine:=CP (Nat.add_le_add_left (by decide:1<=64) _) hr.units
theorem zaj{n:Nat}(h:n<=1000):n<sizeLine:=CP h (by decide)
section
variable {X:Cx}
theorem pv (i:Nat){x:Str}{pos:Pos}(hN:X.N[i]? = some x := by rfl) (hv:Vis X.env.scope x := by first |exact Or.inl rfl |exact EQ (Or.inl rfl) |exact EQ (EQ rfl)) (hd:(x == ("__debug__" : Str))=false := by decide)
  (hcd:(x == ("__classdict__" : Str))=false:=by decide):PE X (.Name x pos) (tVar i):=zn1 hN hv hd hcd
end
theorem iteF{A B:Prop}(h:B):if false=true then A else B:=by rw[if_neg AT];exact h
theorem iteT{A B:Prop}(h:A):if true=true then A else B:=by rw[if_pos rfl];exact h
theorem ite2{c A B:Prop} [Decidable c](h1:c->A)(h2:¬ c->B):if c then A else B:=by
 by_cases h:c
 .rw[if_pos h];exact h1 h
 .rw[if_neg h];exact h2 h
noncomputable def Same(H H':Hp):Prop:=∀b o,H b=some o->H' b=some o
theorem Same.refl(H:Hp):Same H H:=λ_ _ h=>h
theorem Same.trans{H H1 H2:Hp}(a:Same H H1)(b:Same H1 H2):Same H H2:=λc o h=>b c o (a c o h)
theorem Same.free{H H':Hp}(e:Same H H'){l:Addr}(h:H' l=Option.none):H l=Option.none:=by
 cases q:H l with
 |none=>rfl
 |some o =>
  rw[e l o q]at h
  cases h
theorem Same.seq{K:W.Frag}{H H':Hp}{a:Addr}{xs:List V}(e:Same H H')(h:SqL K H a xs):SqL K H' a xs:=by
 rcases h with (h |⟨o,h⟩) |h
 .exact .inl (.inl (e _ _ h))
 .exact .inl (.inr ⟨o,e _ _ h⟩)
 .exact .inr h
section
variable {κ:Type} [DecidableEq κ]
theorem zlr{kvs:List (κ×V)}{k:κ}(h:valV kvs k=none):¬ k∈kvs.map (·.1):=by intro m;obtain⟨p,hp,e⟩:=AE.mp m;have q:(kvs.any λkv=>decide (kv.1=k))=true:=List.any_eq_true.mpr ⟨p,hp,decide_eq_true e⟩;rw[zcD,h]at q;exact absurd q (by simp)
theorem zko:∀{l:List κ}{k:κ},l.Nodup->¬ k∈l->(l++[k]).Nodup
 |[],k,_,_=>by simp
 |a::r,k,h,hk=>by
  obtain⟨h1,h2⟩:=Bs.mp h;show (a::(r++[k])).Nodup;refine List.nodup_cons.mpr ⟨λm=>?_,zko h2 λm=>hk (List.mem_cons.mpr (EQ m))⟩;rcases AC.mp m with q |q
  .exact h1 q
  .exact hk (List.mem_cons.mpr (Or.inl (Am.mp q).symm))
theorem zna{kvs:List (κ×V)}{k:κ}(v:V)(hn:(kvs.map (·.1)).Nodup)(h:valV kvs k=none):((putK kvs k v).map (·.1)).Nodup:=by rw[zd1 v h,Ay];exact zko hn (zlr h)
theorem zkT{p:κ×V}{r:List (κ×V)}{k:κ}(e:p.1=k):dropK (p::r) k=dropK r k:=by unfold dropK;rw[List.filter_cons,if_neg (by simp[e])]
theorem zgZ{p:κ×V}{r:List (κ×V)}{k:κ}(e:¬ p.1=k):dropK (p::r) k=p::dropK r k:=by unfold dropK;rw[List.filter_cons,if_pos (by simp[e])]
theorem ziA:∀{kvs:List (κ×V)}{k:κ},¬ k∈kvs.map (·.1)->dropK kvs k=kvs
 |[],_,_=>rfl
 |p::r,k,h=>by
  have h':¬ k∈r.map (·.1):=λm=>by obtain⟨q,hq,e⟩:=AE.mp m;exact h (AE.mpr ⟨q,List.mem_cons.mpr (EQ hq),e⟩)
  rw[zgZ λe=>h (AE.mpr ⟨p,List.mem_cons.mpr (Or.inl rfl),e⟩),ziA h']
end
end L2
set_option maxHeartbeats 4000000
namespace L2
open PySem PySem.Spec PyProof.Rows
noncomputable def zcm(J:It)(g:TG)(tb:TS):TS:=λD σ H=>∃W:Nat->Nat->St->Hp->Prop,(∃m,W 0 m σ H)/\∀i m σ H,W i m σ H ->
 (J.stop i H/\D.nx σ H)∨(J.go i H/\∃N:St->Hp->Prop,(∀ σ' H',N σ' H'->∃m',m'<m/\W (i+1) m' σ' H')/\∀x H',J.yld i H x H'->g x σ H' λσ2 H2=>tb { D with nx:=N,ct:=N,bk:=D.nx } σ2 H2)
noncomputable def PTs(X:Cx)(ifs:List Expr)(t:TT):Prop :=
 ∀(pins:List (Addr×Obj)) (s:Ae) (σ:St) (H:Hp) (Q:Bool->Hp->Prop),Inv X pins σ H s->t σ H Q ->
  Ak (An X.prog X.w) X.A (forIn ifs true λc r=>if r=true then do let ok <- isTrue c X.env (eval c X.env);pure (ForInStep.yield ok) else pure (ForInStep.yield r)) (TP X pins σ Q) X.xe s
theorem zbl{X:Cx}:PTs X [] (λ_ H Q=>Q true H):=λpins s σ H Q I h=>Af ⟨H,I,h⟩
theorem zcX{X:Cx}{c:Expr}{t:TT}(hc:PT X c t):PTs X [c] t:=λpins s σ H Q I h=>wpAny_tests_one (hc pins s σ H Q I h)
noncomputable def PB(X:Cx)(inner:Sem Unit)(t:TS):Prop :=
 ∀(pins:List (Addr×Obj)) (s:Ae) (σ:St) (H:Hp) (D:Ends),Inv X pins σ H s->t D σ H->Ak (An X.prog X.w) X.A inner (λ_ s'=>∃ σ' H',Inv X pins σ' H' s'/\D.nx σ' H') X.xe s
noncomputable def tIfs(tt:TT)(tb:TS):TS:=λD σ H=>tt σ H λb H1=>if b=true then tb D σ H1 else D.nx σ H1
theorem zdk{X:Cx}{e tg:Expr}{d:Nat}{ifs:List Expr}{p:Pos}{acc:Ac}{inner:Sem Unit}{g:TG}{tt:TT}{tb:TS}{it:Addr}{fp:List Addr}{tn:Nat -> Heap -> Prop}{J:It}
  {pins:List (Addr×Obj)} {s:Ae} {σ:St} {H:Hp} {D:Ends} {R:Result->Ae->Prop}
  (hq:(Code.compLoop e d (.ref it) acc X.env).quiet=true)
  (hden:(An X.prog X.w).den (.compLoop e d (.ref it) acc X.env)=(compTurn e d (.ref it) acc X.env).onRaise (λx=>do noteFrame x X.env;theTreesLotGoes x))
  (hT:compTurn e d (.ref it) acc X.env=(do
   standAt p
   match <- DU (.ref it) with
   |none=>pure (.done .next)
   |some v =>
    EI tg (.ref it) v
    assign tg X.env v
    let mut ok:=true
    for c in ifs do
     if ok then ok <- isTrue c X.env (eval c X.env)
    if ok then
     inner
    again (.compLoop e d (.ref it) acc X.env)))
  (hA:∀(B:AY) {α:Type} {t:Sem α} {Q:α->Ae->Prop} {E:Ac->Ae->Prop} {s:Ae},B=X.A.under (.compLoop e d (.ref it) acc X.env)->Ak (An X.prog X.w) X.A t Q E s->Ak (An X.prog X.w) B t Q E s)
  (hc:X.calm=true) (hx:X.xe=λ_ _=>False) (hg:PG X tg g) (ht:PTs X ifs tt) (hb:PB X inner tb)
  (I:Inv X pins σ H s) (T:Turn X.prog X.w X.K tg J fp it tn) (st:tn 0 s.heap) (f:∀b∈fp,FpOk X pins H b) (W:zcm J g (tIfs tt tb) D σ H)
  (hR:∀fl s',(∃ σ' H',Inv X pins σ' H' s'/\(∀b∈fp,H' b=none)/\D.nx σ' H')->R (.ok fl) s') :
  CT (An X.prog X.w) X.A (.compLoop e d (.ref it) acc X.env) R s:=by
 obtain⟨W,⟨m0,w0⟩,turn⟩:=W;have stat:∀{H':Hp},(∀b∈fp,H' b=none)->∀b∈fp,FpOk X pins H' b:=λhn b hb=>⟨hn b hb,(f b hb).2⟩
 refine codeAny_loop hq (λn s'=>∃i σ' H',Inv X pins σ' H' s'/\tn i s'.heap/\(∀b∈fp,H' b=none)/\W i n σ' H') ?_ m0 ⟨0,σ,H,I,st,λb hb=>(f b hb).1,w0⟩;rintro n s3 ⟨i,σ3,H3,I3,st3,fr3,w3⟩;refine hA _ rfl ?_
 rw[hden];refine wpAny_noted (wpAny_noRaise ?_);rw[hT];refine Aa (De ?_)
 have nx:∀{α:Type} {t:Sem α} {Q:α->Ae->Prop} {s:Ae},Ak (An X.prog X.w) X.A t Q X.xe s->Ak (An X.prog X.w) X.A t Q (λ_ _=>False) s:=λ{α t Q s} h=>by rw[hx]at h;exact h
 rcases turn i n σ3 H3 w3 with⟨stop,qn⟩ |⟨go,N,hN,step⟩
 .refine Aa (thn (T.done X rfl rfl rfl hc i pins s3 σ3 H3 _ I3 (stat fr3) st3 stop) λr s4 ⟨hr,I4⟩=>?_);subst hr;exact Af (hR _ _ ⟨σ3,H3,I4,fr3,qn⟩)
 .refine Aa (thn (T.item X rfl rfl rfl hc i pins s3 σ3 H3 _ I3 (stat fr3) st3 go) λr s4 ⟨u,hr,h4⟩=>?_);subst hr;refine Aa (thn h4 λ_ s5 ⟨x,H5,I5,r5,y5,st5,fr5⟩=>?_);have I5':=I5.pinned (stat fr5) (T.obj _ _ st5)
  have again:∀{σ7:St} {H7:Hp} {s7:Ae},Inv X (pins++zdK fp s5.heap) σ7 H7 s7->N σ7 H7->∃m,m<n/\∃i σ' H',Inv X pins σ' H' s7/\tn i s7.heap/\(∀b∈fp,H' b=none)/\W i m σ' H':=λ{σ7 H7 s7} I7 n7=>by obtain⟨m',hm,w7⟩:=hN σ7 H7 n7;refine⟨m',hm,i+1,σ7,H7,I7.unpinned,T.keep _ _ _ st5 λb hb o e=>(I7.pin (b,o) (Aw _ (Aw _ (zaS hb e)))).1,λb hb=>?_,w7⟩;obtain⟨o,e,d⟩:=T.obj _ _ st5 b hb;exact (I7.pin (b,o) (Aw _ (Aw _ (zaS hb e)))).2.1
  refine Aa (thn (nx (hg _ s5 σ3 H5 x u _ I5' r5 (step x H5 y5))) λ_ s6 ⟨σ6,H6,I6,q6⟩=>?_);refine Aa (thn (nx (ht _ s6 σ6 H6 _ I6 q6)) λok s7 ⟨H7,I7,q7⟩=>?_)
  cases ok with
  |false =>
   exact Af ⟨rfl,again I7 q7⟩
  |true =>
   refine Aa (thn (nx (hb _ s7 σ6 H7 _ I7 q7)) λ_ s8 ⟨σ8,H8,I8,q8⟩=>?_);exact Af ⟨rfl,again I8 q8⟩
noncomputable abbrev blk(X:Cx)(sc:Scope)(cl:List (Str×Addr))(C:Addr)(N':List Str)(s0:Ae)(H0:Hp)(ex:List Addr):Cx :=
 { X with N:=N',s₀:=s0,H₀:=H0,env:=DO sc cl C X.env,outer:=X.stack,stack:=X.stack,ex:=ex,fn:=λ_=>false,pn:=[],xe:=λ_ _=>False }
structure BlkOk (osc:Scope) (N:List Str) (sc:Scope) (N':List Str) (sel:List (Option Nat)):Prop where
 kind:sc.kind=.function
 nocell:∀y∈sc.names,y.2≠.cell
 names:∀y∈sc.names,y.2=.local->sc.names.lookup y.1=some .local
 free:∀y∈sc.names,y.2=.free->osc.names.lookup y.1=some .cell∨osc.names.lookup y.1=some .free
 len:sel.length=N'.length
 sel:∀p∈sel.zip N',∀i∈p.1,N[i]?=some p.2/\sc.names.lookup p.2=some .free
noncomputable def selSt(sel:List (Option Nat))(σ:St):St:=sel.map λo=>o.bind λi=>(σ[i]?).join
theorem zc4{env:Env} : ∀(names:List (Str × NameKind)) (acc:List (Str × Addr)), (∀y ∈ names, y.2 = .free -> ∃c, env.cells.lookup y.1=some c) ->
  ∃cl,(forIn names acc λ(x:Str×NameKind) (r:List (Str×Addr))=>(if (x.2 == .free)=true then do let c <- cellOf env x.1;pure (ForInStep.yield ((x.1,c)::r)) else pure (ForInStep.yield r):Sem (ForInStep (List (Str×Addr)))))=pure cl /\
   (∀x c,cl.lookup x=some c->acc.lookup x=some c∨(env.cells.lookup x=some c/\(x,BO)∈names))/\(∀y∈names,y.2=.free->∃c,cl.lookup y.1=some c)/\(∀x c,acc.lookup x=some c->∃c',cl.lookup x=some c')
 |[],acc,_=>⟨acc,rfl,λ_ _ h=>.inl h,(λ_ h=>nomatch h),λx c h=>⟨c,h⟩⟩
 | (n,k)::r,acc,h=>by
  by_cases hk:k=.free
  .subst hk;obtain⟨c,hc⟩:=h (n,.free) Ap rfl;obtain⟨cl,e,h1,h2,h3⟩:=zc4 r ((n,c)::acc) λy hy=>h y (As _ hy)
   refine⟨cl,?_,λx c' hx=>?_,λy hy hf=>?_,λx c' hx=>?_⟩
   .rw[Dt];have e1:cellOf env n=pure c:=by unfold cellOf;rw[hc]
    simp only[beq_self_eq_true,if_true,e1,pure_bind];exact e
   .rcases h1 x c' hx with q |⟨q,m⟩
    .by_cases hn:x=n
     .subst hn;rw[BI,beq_self_eq_true]at q
      cases q
      exact .inr ⟨hc,Ap⟩
     .have hb:(x == n)=false:=by simpa using hn
      rw[BI,hb]at q;exact .inl q
    .exact .inr ⟨q,As _ m⟩
   .rcases Ax.mp hy with z |z
    .subst z;exact h3 n c (by rw[BI,beq_self_eq_true])
    .exact h2 y z hf
   .by_cases hn:x=n
    .subst hn;exact h3 x c (by rw[BI,beq_self_eq_true])
    .have hb:(x == n)=false:=by simpa using hn
     exact h3 x c' (by rw[BI,hb];exact hx)
  .obtain⟨cl,e,h1,h2,h3⟩:=zc4 r acc λy hy=>h y (As _ hy)
   refine⟨cl,?_,λx c' hx=>?_,λy hy hf=>?_,h3⟩
   .rw[Dt];have hb:(k == BO)=false:=by simpa using hk
    simp only[hb,Bn,if_false,pure_bind];exact e
   .rcases h1 x c' hx with q |⟨q,m⟩
    .exact .inl q
    .exact .inr ⟨q,As _ m⟩
   .rcases Ax.mp hy with z |z
    .subst z;exact absurd hf hk
    .exact h2 y z hf
structure Clo (env:Env) (sc:Scope) (cl:List (Str×Addr)):Prop where
 run:closureFor sc env=pure cl
 old:∀x c,cl.lookup x=some c->env.cells.lookup x=some c/\(x,BO)∈sc.names
 has:∀y∈sc.names,y.2=.free->∃c,cl.lookup y.1=some c
theorem ziG{X:Cx}{osc:Scope}{N:List Str}{sc:Scope}{N':List Str}{sel:List (Option Nat)}(ok:X.Ok)(B:BlkOk osc N sc N' sel)(ho:X.env.scope=osc):∃cl,Clo X.env sc cl:=by
 have hc:∀y∈sc.names,y.2=.free->∃c,X.env.cells.lookup y.1=some c:=λy hy hf=>ok.has y.1 (by
  show X.env.scope.names.lookup y.1=_∨X.env.scope.names.lookup y.1=_;rw[ho];exact B.free y hy hf)
 obtain⟨cl,e,h1,h2,_⟩:=zc4 (env:=X.env) sc.names [] hc;refine⟨cl,?_,λx c h=>?_,h2⟩
 .unfold closureFor;have e':=e;show (do let r <- forIn sc.names [] _;pure r)=_;simp only[bind_pure];exact e'
 .rcases h1 x c h with q |q
  .cases q
  .exact q
theorem zbW{env:Env} : ∀{names:List (Str × NameKind)}{x:Str}{k:NameKind}, (names.map λ(n, k) => if (k == BO && env.scope.kind == .function && env.kindOf n == some .cell) then (n, D7) else (n, k)).lookup x=some k ->
  ∃k',(x,k')∈names/\(k=k'∨(k=.cell/\k'=.free))
 |[],x,k,h=>nomatch h
 | (n,j)::r,x,k,h=>by
  have ih:=@zbW env r x k;have h:List.lookup x ((if (j == BO && env.scope.kind == .function && env.kindOf n == some .cell)=true then (n,D7) else (n,j))::_)=some k:=h
  by_cases hx:x=n
  .subst hx
   by_cases hc:(j == BO && env.scope.kind == .function && env.kindOf x == some .cell)=true
   .rw[if_pos hc,BI,beq_self_eq_true]at h
    cases h
    refine⟨j,Ap,.inr ⟨rfl,?_⟩⟩;simp only[B6,beq_iff_eq]at hc;exact hc.1.1
   .rw[if_neg hc,BI,beq_self_eq_true]at h
    cases h
    exact⟨j,Ap,.inl rfl⟩
  .have hb:(x == n)=false:=by simpa using hx
   have h':List.lookup x (r.map λ(n,k)=>if (k == BO && env.scope.kind == .function && env.kindOf n == some .cell) then (n,D7) else (n,k))=some k:=by
    by_cases hc:(j == BO && env.scope.kind == .function && env.kindOf n == some .cell)=true
    .rw[if_pos hc,BI,hb]at h;exact h
    .rw[if_neg hc,BI,hb]at h;exact h
   obtain⟨k',m,e⟩:=ih h';exact⟨k',As _ m,e⟩
theorem zbI{env:Env} : ∀{names:List (Str × NameKind)}{x:Str}, names.lookup x=some .free ->
  (names.map λ(n,k)=>if (k == BO && env.scope.kind == .function && env.kindOf n == some .cell) then (n,D7) else (n,k)).lookup x=some .cell ∨
  (names.map λ(n,k)=>if (k == BO && env.scope.kind == .function && env.kindOf n == some .cell) then (n,D7) else (n,k)).lookup x=some .free
 |[],x,h=>nomatch h
 | (n,j)::r,x,h=>by
  have ih:=@zbI env r x;rw[BI]at h;show List.lookup x ((if (j == BO && env.scope.kind == .function && env.kindOf n == some .cell)=true then (n,D7) else (n,j))::_)=_∨List.lookup x ((if (j == BO && env.scope.kind == .function && env.kindOf n == some .cell)=true then (n,D7) else (n,j))::_)=_
  cases hx:x == n with
  |true =>
   rw[hx]at h
   cases h
   by_cases hc:(BO == BO && env.scope.kind == .function && env.kindOf n == some .cell)=true
   .rw[if_pos hc,BI,hx];exact .inl rfl
   .rw[if_neg hc,BI,hx];exact .inr rfl
  |false =>
   rw[hx]at h
   by_cases hc:(j == BO && env.scope.kind == .function && env.kindOf n == some .cell)=true
   .rw[if_pos hc,BI,hx];exact ih h
   .rw[if_neg hc,BI,hx];exact ih h
section
variable {X:Cx}{osc:Scope}{N:List Str}{sc:Scope}{N':List Str}{sel:List (Option Nat)}{cl:List (Str×Addr)}{pins:List (Addr×Obj)}{σ:St}{H:Hp}{s:Ae}{fp:List Addr}
theorem zni{h':Heap}{ob:Obj}{tk:Nat}(B:BlkOk osc N sc N' sel)(ho:X.env.scope=osc)(hN:X.N=N)(Cl:Clo X.env sc cl)(I:Inv X pins σ H s)
    (f:∀b∈fp,FpOk X pins H b) (fo:∀b∈fp,∃o,s.heap.get? b=some o) (hns:h'.Ns s.heap.objs.size (λ_=>none)) (hsb:BR s.heap.objs.size (s.heap.push ob) h') :
    Inv (blk X sc cl s.heap.objs.size N' s H fp) [] (selSt sel σ) H { s with heap:=h',toks:=tk }:=by
  have old:∀b o,s.heap.get? b=some o->h'.get? b=some o:=λb o e=>(hsb.2 b (AK (Aq e))).trans (Ag _ e)
  have bel:∀b∈fp,b<s.heap.objs.size:=λb hb=>by obtain⟨o,e⟩:=fo b hb;exact Aq e
  have kk:∀x,(DO sc cl s.heap.objs.size X.env).kindOf x=some .cell∨(DO sc cl s.heap.objs.size X.env).kindOf x=some .free->(x,BO)∈sc.names:=λx hx=>by
    rcases hx with hx |hx
    . obtain⟨k',m,e⟩:=zbW hx;rcases e with e |⟨_,e⟩
      . subst e;exact absurd rfl (B.nocell _ m)
      . subst e;exact m
    . obtain⟨k',m,e⟩:=zbW hx;rcases e with e |⟨e,_⟩
      . subst e;exact m
      . cases e
  refine⟨⟨I.mod, B.kind, I.ok.glob, I.ok.blt, Ai _, λx y c e1 e2 => I.ok.inj x y c (Cl.old x c e1).1 (Cl.old y c e2).1, λx hx => Cl.has _ (kk x hx) rfl, λx c z => absurd z (by intro q; cases q), I.ok.hd, I.ok.frames, .inl rfl,
      λb hb=>⟨AK (bel b hb),λx c e=>(f b hb).2.2.2.2.1 x c (Cl.old x c e).1⟩,I.bs,A3 I.ok.bsz I.sz,λb o e hb=>?_,λb hb hs=>?_,I.stack,I.stkFree⟩,
    rfl,I.bare,Un.kept old,⟨_,hns,λj x v e1 e2 e3=>?_⟩,λx c e=>?_,I.hok.fresh (Ai _),λx c e=>I.freeC x c (Cl.old x c e).1,λp hp=>absurd (show p∈([]:List (Addr×Obj)) from hp) (by simp),I.hok.kept old,?_⟩
  . rcases (f b hb).2.2.2.1 with z |z
    . exact I.ok.noex b o e z
    . exact absurd (AG (Aq e) (A3 I.ok.bsz z)) (Dd _)
  . obtain⟨_,f1,f2,_⟩:=f b hb;rcases Ax.mp (I.stkSub b hs) with z |z
    . exact f1 z
    . exact f2 z
  . have e2':((sel[j]?).map λo => o.bind λi => (σ[i]?).join)=some (some v) := by have:=e2;unfold selSt at this;rw[AA]at this;exact this
    cases hj:sel[j]? with
    |none=>rw[hj]at e2';cases e2'
    |some o =>
      rw[hj]at e2'
      cases o with
      |none=>cases e2'
      |some i =>
        have e4:(σ[i]?).join=some v:=A9 e2'
        have e5:σ[i]?=some (some v):=by
          cases q:σ[i]? with
          |none=>rw[q]at e4;cases e4
          |some z=>rw[q]at e4;exact congrArg some e4
        have hz:(some i,x)∈sel.zip N':=by
          refine Aj (i:=j) ?_
          rw[List.getElem?_zip_eq_some];exact⟨hj,e1⟩
        obtain⟨g1,g2⟩:=B.sel _ hz i rfl;obtain⟨m,hn,hl⟩:=I.loc;have m2:(x,BO)∈sc.names:=C8 g2
        have k2:X.env.kindOf x=some .cell∨X.env.kindOf x=some .free:=by show X.env.scope.names.lookup x=_∨X.env.scope.names.lookup x=_;rw[ho];exact B.free _ m2 rfl
        have v2:Vis X.env.scope x:=by
          rcases k2 with z |z
          . exact .inr (.inl z)
          . exact .inr (.inr z)
        obtain⟨u,r,l⟩:=hl i x v (by rw[hN];exact g1) e5 v2;refine⟨u,r,?_⟩;rcases l with⟨l,_⟩ |⟨_,c,e6,hc⟩
        . rcases k2 with z |z <;> (rw[l]at z;cases z)
        . obtain⟨c',hc'⟩:=Cl.has _ m2 rfl;have e7:=(Cl.old x c' hc').1;rw[e6]at e7
          cases e7
          exact .inr ⟨zbI g2,c,hc',hc.keeps old⟩
  . obtain⟨v,hc⟩:=I.cell x c (Cl.old x c e).1;exact⟨v,hc.keeps old⟩
  . show (selSt sel σ).length=N'.length;unfold selSt;rw[Ah,B.len]
theorem znp{C:Addr}{H':Hp}{σ':St}{s':Ae}(I:Inv X pins σ H s)(f:∀b∈fp,FpOk X pins H b)(I':Inv (blk X sc cl C N' s H fp) [] σ' H' s'):Inv X pins σ H' s' :=
 I.call' (ch:=fp) I'.os I'.base I'.hok I'.bare λb hb=>by obtain⟨_,f1,_,f3,f4,f5⟩:=f b hb;exact⟨f3,f1,f4,f5⟩
end
section
variable {X:Cx}
noncomputable def zcn(p:Addr)(te:TE):TS:=λD σ H=>te σ H λv H1=>∃xs,H1 p=some (.lst xs)/\xs.length<sizeLine/\D.nx σ (upd H1 p (.lst (xs++[v])))
theorem zkg {p:Addr}{elt:Expr}{te:TE}(he:PE X elt te):PB X (do let _ <- call (.builtin "list.append") [.ref p,<- eval elt X.env]) (zcn p te):=by intro pins s σ H D I h;refine Aa (thn (he pins s σ H _ I h) λv s1 ⟨x,H1,I1,r1,xs,e1,hl,q⟩=>?_);refine Aa (thn (zaT pins s1 σ H1 (.ref p) [x] (.ref p) [v] (λz H2=>D.nx σ H2) I1 rfl (.cons r1 .nil) ⟨p,xs,x,rfl,rfl,e1,hl,q⟩) λu s2 ⟨z,H2,I2,_,q2⟩=>?_);exact Af ⟨σ,H2,I2,q2⟩
noncomputable def zh0(p:Addr)(tk tv:TE):TS:=λD σ H=>tk σ H λy H1=>tv σ H1 λv H2=>∃H3,DPut H2 p y v H3/\D.nx σ H3
theorem d_set{pins:List (Addr × Obj)}{σ : St}{H H':Hp}{s:Ae}{a:Addr}{y v:V}{u r:Ac}{A:AY}{E:Ac -> Ae -> Prop}{Q:Unit -> Ae -> Prop}(hu:A.units + 1 < cLine)(I:Inv X pins σ H s)(g:DPut H a y v H')(ry:RelV y u)(rv:RelV v r)(h:∀s', Inv X pins σ H' s' -> Q () s') :
  Ak (An X.prog X.w) A (dictSet a u r) Q E s:=by
 rcases g with⟨kvs,k,e,ey,l,eH⟩ |⟨kvs,k,b,e,ey,eb,l,eH⟩
 .subst ey eH;obtain⟨z,hd,vs,rel,dd⟩:=dk_of I.hok e;have hz:vs.length<=sizeLine:=by rw[<- rel.length];exact z
  have hl:(putK kvs k v).length<=sizeLine:=by have:=zaK kvs k v;lia
  refine wpAny_dictSet_pairs (hsz:=hz) (kV_is ry) dd λh' dd' hs=>h _ ?_
  have he:∃q,h'.get? a=some q:=let ⟨q,_,_,hq,_⟩:=dd';⟨q,hq⟩
  exact zc3 I (by rw[e];exact CD) hs he (zkU hl hd (rel.put k rv) dd')
 .subst ey eH
  cases (show u=Au b from ry)
  obtain⟨z,hd,xs,rel,dd⟩:=dt_of I.hok e;have hz:xs.length<=sizeLine:=by rw[<- CB rel];exact z
  have hl:(putK kvs k v).length<=sizeLine:=by have:=zaK kvs k v;lia
  have hr:(D5 (zay X.prog X.w)).room A:=by show A.units<cLine;lia
  refine wpAny_dictSet_heap (hsz:=hz) hr (zdj I.hok eb) dd λh' dd' hs=>h _ ?_
  obtain⟨q,es,ep,hq,h2,h3,h4,_,h5⟩:=dd';refine zc3 I (by rw[e];exact CD) hs ⟨q,hq⟩ ⟨hl,hd,_,(rel.put k eb rv).keeps λc ys ec=>?_,q,es,ep,hq,h2,h3,h4,h5⟩;rw[zag (ne_of ec e (λz=>nomatch z))];exact ec
theorem zm2{p:Addr}{kx vx:Expr}{tk tv:TE}(hu:X.A.units + 1 < cLine)(hk:PE X kx tk)(hv:PE X vx tv) :
    PB X (do
        let kv <- eval kx X.env
        let vv <- holding [kv] (eval vx X.env)
        match Au p with
        |.ref d=>do
          standAt { kx.pos with endLine:=vx.pos.endLine,endCol:=vx.pos.endCol }
          holding [kv,vv] (dictSet d kv vv)
        |_=>unsupported "internal:dictcomp") (zh0 p tk tv):=by
  intro pins s σ H D I h;refine Aa (thn (hk pins s σ H _ I h) λkv s1 ⟨y,H1,I1,r1,q1⟩=>?_);refine Aa (Bb (thn (hv pins s1 σ H1 _ I1 q1) λvv s2 ⟨v,H2,I2,r2,H3,g,q⟩=>?_));refine Aa (De (Bb (d_set hu I2 g r1 r2 λs3 I3=>⟨σ,H3,I3,q⟩)))
end
section
variable {X:Cx}{osc:Scope}{N:List Str}{sc:Scope}{N':List Str}{sel:List (Option Nat)}{pos:Pos}{elt kx vx tg iter:Expr}{ifs:List Expr}{wi:TI}{g:TG}{tt:TT}{te tk tv:TE}
noncomputable def InBlk(X:Cx)(sc:Scope)(N':List Str)(P:Cx->Prop):Prop:=∀cl C s0 H0 ex,P (blk X sc cl C N' s0 H0 ex)
theorem zdl{e:Expr}{inner:Env -> Addr -> Sem Unit}{tb:Addr -> TS}{use:Option (Ac -> Sem Unit)}{pins:List (Addr × Obj)}{s:Ae}{σ : St}{H:Hp}{J:It}{it:Addr}{fp:List Addr}{tn:Nat -> Heap -> Prop}{o0:HO}{ob:Obj}
    {D:Addr->Ends} {Q:Ac->Ae->Prop}
    (B:BlkOk osc N sc N' sel) (ho:X.env.scope=osc) (hN:X.N=N) (hc:X.calm=true)
    (hstart:∀(acc:Ac) (env:Env) (R:Result->Ae->Prop) (s:Ae),CT (An X.prog X.w) X.A (.compLoop e 0 (.ref it) acc env) R s->Ak (An X.prog X.w) X.A (pyIter (.ref it)) (λit' s'=>CT (An X.prog X.w) X.A (.compLoop e 0 it' acc env) R s') (notedBy (An X.prog X.w) X.A env λx s'=>R (.error x) s') s->CT (An X.prog X.w) X.A (.compStart e 0 (.ref it) acc env) R s)
    (hloop:∀cl C s0 H0 ex p pins s σ H Dn R,Inv (blk X sc cl C N' s0 H0 ex) pins σ H s->tn 0 s.heap->(∀b∈fp,FpOk (blk X sc cl C N' s0 H0 ex) pins H b)->zcm J g (tIfs tt (tb p)) Dn σ H ->
      (∀fl s',(∃ σ' H',Inv (blk X sc cl C N' s0 H0 ex) pins σ' H' s'/\(∀b∈fp,H' b=none)/\Dn.nx σ' H')->R (.ok fl) s')->CT (An X.prog X.w) X.A (.compLoop e 0 (.ref it) (.ref p) (DO sc cl C X.env)) R s)
    (I:Inv X pins σ H s) (T:Turn X.prog X.w X.K tg J fp it tn) (st:tn 0 s.heap) (f:∀b∈fp,FpOk X pins H b)
    (hnew:ObjOk X.prog X.w (upd H s.heap.objs.size o0) (s.heap.push ob) s.heap.objs.size o0) (hfree:ob.isFreed=false)
    (h:zcm J g (tIfs tt (tb s.heap.objs.size)) (D s.heap.objs.size) (selSt sel σ) (upd H s.heap.objs.size o0))
    (hend:∀C H' s',Inv X pins σ H' s'->FpOk X pins H' C->(∃m,s'.heap.Ns C m)->(∃ σ',(D s.heap.objs.size).nx σ' H')->compPost (An X.prog X.w) X.A X.xe use Q (.ref s.heap.objs.size) C (.ok .next) s') (tk:Nat)
    (cl:List (Str×Addr)) (Cl:Clo X.env sc cl) (E:Ac->Ae->Prop) :
    Ak (An X.prog X.w) X.A (newFunctionEnv sc X.env.globals cl [] X.env.qual none .none (some X.env)) (λcenv s₄ =>
        CT (An X.prog X.w) X.A (.compStart e 0 (.ref it) (.ref s.heap.objs.size) { cenv with scope:=relabel sc X.env }) (compPost (An X.prog X.w) X.A X.xe use Q (.ref s.heap.objs.size) cenv.locals) s₄) E { s with heap:=s.heap.push ob,toks:=tk }:=by
  have grow:∀b o,s.heap.get? b=some o->(s.heap.push ob).get? b=some o:=λ_ _ q=>Ag _ q
  have I1:Inv X pins σ (upd H s.heap.objs.size o0) { s with heap:=s.heap.push ob,toks:=tk }:=I.laid grow (Ai _) hnew;have bel:∀b∈fp,∃o,s.heap.get? b=some o:=λb hb=>let ⟨o,e,_⟩:=T.obj _ _ st b hb;⟨o,e⟩
  have f1:∀b∈fp,FpOk X pins (upd H s.heap.objs.size o0) b:=λb hb=>by obtain⟨o,e⟩:=bel b hb;refine⟨?_,(f b hb).2⟩;rw[zag (AK (Aq e))];exact (f b hb).1
  refine wpAny_newFunctionEnv (s:={ s with heap:=s.heap.push ob,toks:=tk }) B.nocell (by intro x hx;cases hx) (λh1 hns hsb=>?_) B.kind;have I2:=zni (tk:=tk) B ho hN Cl I1 f1 (λb hb=>let ⟨o,e⟩:=bel b hb;⟨o,grow b o e⟩) hns hsb;have old:∀b o,s.heap.get? b=some o->h1.get? b=some o:=λb o e=>(hsb.2 b (AK (Aq (grow b o e)))).trans (Ag _ (grow b o e))
  have st1:tn 0 h1:=T.keep _ _ _ st λb _ o e=>old b o e
  have f2:∀b∈fp,FpOk (blk X sc cl (s.heap.push ob).objs.size N' { s with heap:=s.heap.push ob,toks:=tk } (upd H s.heap.objs.size o0) fp) [] (upd H s.heap.objs.size o0) b:=λb hb=>by
    obtain⟨g0,g1,g2,g3,g4,g5⟩:=f1 b hb;obtain⟨o,e⟩:=bel b hb;refine⟨g0,AK (Aq (grow b o e)),λz=>?_,.inl hb,λx c e=>g4 x c (Cl.old x c e).1,λp hp=>absurd (show p∈([]:List (Addr×Obj)) from hp) (by simp)⟩;rcases Ax.mp (I1.stkSub b z) with q |q
    . exact g1 q
    . exact g2 q
  have loop:=hloop cl _ _ _ _ s.heap.objs.size [] _ _ _ (D s.heap.objs.size) (compPost (An X.prog X.w) X.A X.xe use Q (.ref s.heap.objs.size) (s.heap.push ob).objs.size) I2 st1 f2 h λfl s' ⟨σ',H',I',fr',q'⟩=>by
    have I3:=znp I1 f1 I';have hC:FpOk X pins H' (s.heap.push ob).objs.size:=I1.fpOk (Ai _) I'.free;obtain⟨m,hn,_⟩:=I'.loc;have:=hend _ H' s' I3 hC ⟨m,hn⟩ ⟨σ',q'⟩
    cases use <;> exact this
  exact hstart _ _ _ _ loop (T.self _ 0 _ _ _ st1 loop)
end
section
variable {X:Cx}{osc:Scope}{N:List Str}{sc:Scope}{N':List Str}{sel:List (Option Nat)}{pos:Pos}{elt kx vx tg iter:Expr}{ifs:List Expr}{wi:TI}{g:TG}{tt:TT}{te tk tv:TE}
theorem zfd{it:Addr}{fp:List Addr}{tn:Nat -> Heap -> Prop}{J:It}(T:Turn X.prog X.w X.K tg J fp it tn)(hc:X.calm=true)(hg:InBlk X sc N' λY => PG Y tg g)(ht:InBlk X sc N' λY => PTs Y ifs tt)(he:InBlk X sc N' λY => PE Y elt te) :
  ∀cl C s0 H0 ex p pins s σ H Dn R,Inv (blk X sc cl C N' s0 H0 ex) pins σ H s->tn 0 s.heap->(∀b∈fp,FpOk (blk X sc cl C N' s0 H0 ex) pins H b)->zcm J g (tIfs tt (zcn p te)) Dn σ H ->
   (∀fl s',(∃ σ' H',Inv (blk X sc cl C N' s0 H0 ex) pins σ' H' s'/\(∀b∈fp,H' b=none)/\Dn.nx σ' H')->R (.ok fl) s')->CT (An X.prog X.w) X.A (.compLoop (.ListComp elt [⟨tg,iter,ifs,0⟩] sc pos) 0 (.ref it) (.ref p) (DO sc cl C X.env)) R s :=
 λcl C s0 H0 ex p pins s σ H Dn R I st f W hR =>
  zdk (X:=blk X sc cl C N' s0 H0 ex) (p:=iter.pos) (inner:=do let _ <- call (.builtin "list.append") [.ref p,<- eval elt (DO sc cl C X.env)]) rfl rfl rfl (λB {α t Q E s} h w=>by subst h;exact w) hc rfl (hg _ _ _ _ _) (ht _ _ _ _ _) (zkg (he _ _ _ _ _)) I T st f W hR
noncomputable def znI(wi:TI)(sel:List (Option Nat))(g:TG)(tt:TT)(te:TE):TE:=λσ H Q=>wi σ H λJ H1=>∀p,H1 p=none ->
 zcm J g (tIfs tt (zcn p te)) { nx:=λ_ H'=>Q (.ref p) H',rt:=λ_ _=>False } (selSt sel σ) (upd H1 p (.lst []))
theorem Inv.let_go{pins:List (Addr×Obj)}{σ:St}{H:Hp}{s:Ae}{C:Addr}{h':Heap}(I:Inv X pins σ H s)(f:FpOk X pins H C)(hs:BR C s.heap h'):Inv X pins σ H { s with heap:=h' }:=by obtain⟨f0,f1,_,f3,f4,f5⟩:=f;exact I.turned (t':=s.toks) (λb o hb e=>(hs.2 b hb).trans e) f0 f1 f3 f4 f5
theorem zhJ {P:AQ}{w:Bg}{H:Hp}{h:Heap}:ObjOk P w (upd H h.objs.size (.lst [])) (h.push { cls:=.type "list",dict:=none,data:=.seq ([]:List Ac).toArray }) h.objs.size (.lst []) :=
 ⟨Bd _,[],_,.nil,At _ rfl⟩
theorem zaI(B:BlkOk osc N sc N' sel)(hi:PI X tg iter wi)(hg:InBlk X sc N' λY => PG Y tg g)(ht:InBlk X sc N' λY => PTs Y ifs tt)(he:InBlk X sc N' λY => PE Y elt te)
  (ho:X.env.scope=osc:=by rfl) (hN:X.N=N:=by rfl) (hc:X.calm=true:=by rfl) (hs:∀x,BY iter X.env x=pure x:=by intro _;rfl) :
  PE X (.ListComp elt [⟨tg,iter,ifs,0⟩] sc pos) (znI wi sel g tt te):=by
 intro pins s σ H Q I h;obtain⟨cl,Cl⟩:=ziG I.ok B ho;rw[eval_ListComp];refine DH (use:=none) rfl hs Cl.run B.kind B.names (thn (hi pins s σ H _ I h) λv s1 h1=>thn h1 λitv s2 h2=>?_);obtain⟨it,fp,tn,J,H2,e,I2,T,st2,f2,h2⟩:=h2;subst e
 refine Bl (zdl (e:=.ListComp elt [⟨tg,iter,ifs,0⟩] sc pos) (inner:=λ_ _=>pure ()) (D:=λp=>{ nx:=λ_ H'=>Q (.ref p) H',rt:=λ_ _=>False }) (tb:=λp=>zcn p te) (use:=none) B ho hN hc (λacc env R s a b=>codeAny_compStart_list a b)
  (zfd (iter:=iter) (pos:=pos) T hc hg ht he) I2 T st2 f2 zhJ rfl (h2 _ (I2.hok.fresh (Ai _))) (λC H' s' I3 fC hn hq=>?_) s2.toks cl Cl X.xe)
 obtain⟨m,hn⟩:=hn;obtain⟨_,hq⟩:=hq;exact⟨m,hn,λh' hs'=>⟨.ref s2.heap.objs.size,H',I3.let_go fC hs',rfl,hq⟩⟩
noncomputable def znT(wi:TI)(sel:List (Option Nat))(g:TG)(tt:TT)(te:TE)(i:Nat):TS:=λD σ H=>wi σ H λJ H1=>∀p,H1 p=none ->
 zcm J g (tIfs tt (zcn p te)) { nx:=λ_ H'=>D.nx (σ.set i (some (.ref p))) H',rt:=λ_ _=>False } (selSt sel σ) (upd H1 p (.lst []))
theorem zlC{i:Nat}{x:Str}{px spos:Pos}(B:BlkOk osc N sc N' sel)(hnd:X.N.Nodup)(hi':X.N[i]? = some x)(hx:Loc X.env.scope x)(hi:PI X tg iter wi)(hg:InBlk X sc N' λY => PG Y tg g)(ht:InBlk X sc N' λY => PTs Y ifs tt)(he:InBlk X sc N' λY => PE Y elt te)
  (hsw:swapsWith (.ListComp elt [⟨tg,iter,ifs,0⟩] sc pos) (some (.Name x px)) spos.line X.env=pure true:=by rfl)
  (ho:X.env.scope=osc:=by rfl) (hN:X.N=N:=by rfl) (hc:X.calm=true:=by rfl) (hs:∀x,BY iter X.env x=pure x:=by intro _;rfl)
  (hf:X.fn x=true∨X.env.scope.names.lookup x=some .local:=by first |exact .inl rfl |exact .inr rfl |assumption) :
  PS X (.Assign [.Name x px] (.ListComp elt [⟨tg,iter,ifs,0⟩] sc pos) spos) (znT wi sel g tt te i):=by
 intro pins s σ H D I h;obtain⟨cl,Cl⟩:=ziG I.ok B ho;rw[exec_Assign_Name_used _ _ _ _ hsw];refine Aa (De (Aa ?_));show Ak _ X.A (do let _ <- comprehension (.ListComp elt [⟨tg,iter,ifs,0⟩] sc pos) sc X.env _ (newList []) false (eval iter X.env) (some (assign (.Name x px) X.env))) _ _ s;refine Aa (thn (DH (use:=some (assign (.Name x px) X.env)) (Q:=λ_ s'=>SP X pins D .next s') rfl hs Cl.run B.kind B.names (thn (hi pins s σ H _ I h) λv s1 h1=>thn h1 λitv s2 h2=>?_)) λ_ s' hq=>Af (Af hq));obtain⟨it,fp,tn,J,H2,e,I2,T,st2,f2,h2⟩:=h2;subst e
 refine Bl (zdl (e:=.ListComp elt [⟨tg,iter,ifs,0⟩] sc pos) (inner:=λ_ _=>pure ()) (D:=λp=>{ nx:=λ_ H'=>D.nx (σ.set i (some (.ref p))) H',rt:=λ_ _=>False }) (tb:=λp=>zcn p te) (use:=some (assign (.Name x px) X.env)) B ho hN hc (λacc env R s a b=>codeAny_compStart_list a b)
  (zfd (iter:=iter) (pos:=pos) T hc hg ht he) I2 T st2 f2 zhJ rfl (h2 _ (I2.hok.fresh (Ai _))) (λC H' s' I3 fC hn hq=>?_) s2.toks cl Cl X.xe)
 obtain⟨m,hn⟩:=hn;obtain⟨_,hq⟩:=hq;show Ak _ X.A (assign (.Name x px) X.env (.ref s2.heap.objs.size)) _ _ _;refine wpAny_assign_Name (zeb I3 hnd hi' hx (v:=.ref s2.heap.objs.size) rfl (λs4 I4 hch=>?_) hf);obtain⟨a,sb,ha⟩:=hch
 have nC:C≠a:=by
  rcases ha with z |z
  .rw[z];exact fC.2.1
  .exact λq=>fC.2.2.2.2.1 x a z q.symm
 refine⟨m,hn.sameBut sb nC,λh' hs'=>⟨_,H',I4.let_go fC hs',hq⟩⟩
theorem zjb{it:Addr}{fp:List Addr}{tn:Nat -> Heap -> Prop}{J:It}(hu:X.A.units + 1 < cLine)(T:Turn X.prog X.w X.K tg J fp it tn)(hc:X.calm=true)(hg:InBlk X sc N' λY => PG Y tg g)(ht:InBlk X sc N' λY => PTs Y ifs tt)(hk:InBlk X sc N' λY => PE Y kx tk)(hv:InBlk X sc N' λY => PE Y vx tv) :
  ∀cl C s0 H0 ex p pins s σ H Dn R,Inv (blk X sc cl C N' s0 H0 ex) pins σ H s->tn 0 s.heap->(∀b∈fp,FpOk (blk X sc cl C N' s0 H0 ex) pins H b)->zcm J g (tIfs tt (zh0 p tk tv)) Dn σ H ->
   (∀fl s',(∃ σ' H',Inv (blk X sc cl C N' s0 H0 ex) pins σ' H' s'/\(∀b∈fp,H' b=none)/\Dn.nx σ' H')->R (.ok fl) s')->CT (An X.prog X.w) X.A (.compLoop (.DictComp kx vx [⟨tg,iter,ifs,0⟩] sc pos) 0 (.ref it) (.ref p) (DO sc cl C X.env)) R s :=
 λcl C s0 H0 ex p pins s σ H Dn R I st f W hR =>
  zdk (X:=blk X sc cl C N' s0 H0 ex) (p:=iter.pos) rfl rfl rfl (λB {α t Q E s} h w=>by subst h;exact w) hc rfl (hg _ _ _ _ _) (ht _ _ _ _ _) (zm2 (X:=blk X sc cl C N' s0 H0 ex) hu (hk _ _ _ _ _) (hv _ _ _ _ _)) I T st f W hR
noncomputable def znJ(wi:TI)(sel:List (Option Nat))(g:TG)(tt:TT)(tk tv:TE):TE:=λσ H Q=>wi σ H λJ H1=>∀p,H1 p=none ->
 zcm J g (tIfs tt (zh0 p tk tv)) { nx:=λ_ H'=>Q (.ref p) H',rt:=λ_ _=>False } (selSt sel σ) (upd H1 p (.dT []))
theorem zlK(hu:X.A.units + 1 < cLine)(B:BlkOk osc N sc N' sel)(hi:PI X tg iter wi)(hg:InBlk X sc N' λY => PG Y tg g)(ht:InBlk X sc N' λY => PTs Y ifs tt)(hk:InBlk X sc N' λY => PE Y kx tk)(hv:InBlk X sc N' λY => PE Y vx tv)
  (ho:X.env.scope=osc:=by rfl) (hN:X.N=N:=by rfl) (hc:X.calm=true:=by rfl) (hs:∀x,BY iter X.env x=pure x:=by intro _;rfl) :
  PE X (.DictComp kx vx [⟨tg,iter,ifs,0⟩] sc pos) (znJ wi sel g tt tk tv):=by
 intro pins s σ H Q I h;obtain⟨cl,Cl⟩:=ziG I.ok B ho;show Ak _ X.A (comprehension (.DictComp kx vx [⟨tg,iter,ifs,0⟩] sc pos) sc X.env _ newDict false (eval iter X.env)) _ _ s;refine DH (use:=none) rfl hs Cl.run B.kind B.names (thn (hi pins s σ H _ I h) λv s1 h1=>thn h1 λitv s2 h2=>?_);obtain⟨it,fp,tn,J,H2,e,I2,T,st2,f2,h2⟩:=h2;subst e
 refine Bl (zdl (e:=.DictComp kx vx [⟨tg,iter,ifs,0⟩] sc pos) (inner:=λ_ _=>pure ()) (D:=λp=>{ nx:=λ_ H'=>Q (.ref p) H',rt:=λ_ _=>False }) (tb:=λp=>zh0 p tk tv) (use:=none) B ho hN hc (λacc env R s a b=>codeAny_compStart_dict a b)
  (zjb (iter:=iter) (pos:=pos) hu T hc hg ht hk hv) I2 T st2 f2 (ziz s2.heap I2.big) rfl (h2 _ (I2.hok.fresh (Ai _))) (λC H' s' I3 fC hn hq=>?_) s2.toks cl Cl X.xe)
 obtain⟨m,hn⟩:=hn;obtain⟨_,hq⟩:=hq;exact⟨m,hn,λh' hs'=>⟨.ref s2.heap.objs.size,H',I3.let_go fC hs',rfl,hq⟩⟩
end
mutual
inductive RD (K:W.Frag) (H:Hp):V->PyData->Prop where
 |non:RD K H .non .none
 |bl (b:Bool):RD K H (.bl b) (.bool b)
 |int (i:Int):RD K H (.int i) (.int i)
 |str (x:Str):RD K H (.str x) (.str x)
 |lst {a:Addr} {xs:List V} {ds:List PyData}:SqL K H a xs->RDs K H xs ds->RD K H (.ref a) (.list ds)
 |tup {a:Addr} {xs:List V} {ds:List PyData}:SqT K H a xs->RDs K H xs ds->RD K H (.ref a) (.tuple ds)
inductive RDs (K:W.Frag) (H:Hp):List V->List PyData->Prop where
 |nil:RDs K H [] []
 |cons {x:V} {xs:List V} {d:PyData} {ds:List PyData}:RD K H x d->RDs K H xs ds->RDs K H (x::xs) (d::ds)
end
section
variable {X:Cx}{pins:List (Addr×Obj)}{σ:St}{H:Hp}{s:Ae}
mutual
theorem Inv.reads(I:Inv X pins σ H s):∀{v:V}{d:PyData}{u:Ac},RD X.K H v d->RelV v u->∃as,Reads s.heap u d as
 |_,_,_,.non,r=>by cases (show _=B8 from r);exact⟨_,.none⟩
 |_,_,_,.bl b,r=>by cases (show _=EN b from r);exact⟨_,.bool b⟩
 |_,_,_,.int i,r=>by obtain⟨t,rfl⟩:=r;exact⟨_,.int i t⟩
 |_,_,_,.str x,r=>by obtain⟨t,rfl⟩:=r;exact⟨_,.str x t⟩
 |_,_,_,.lst (a:=a) hq hs,r=>by
  cases (show _=Au a from r)
  obtain⟨its,rv,p,hz⟩:=I.list hq;obtain⟨as,ra⟩:=I.readsAll hs rv;obtain⟨o,ho,hc,n,hd⟩:=p.isList;exact⟨_,.list ho hc hd (by simpa using ra)⟩
 |_,_,_,.tup (a:=a) hq hs,r=>by
  cases (show _=Au a from r)
  obtain⟨its,rv,p,hz⟩:=I.tuple hq;obtain⟨as,ra⟩:=I.readsAll hs rv;obtain⟨o,ho,hc,n,hd⟩:=p;exact⟨_,.tuple ho hc hd (by simpa using ra)⟩
theorem Inv.readsAll(I:Inv X pins σ H s):∀{vs:List V}{ds:List PyData}{us:List Ac},RDs X.K H vs ds->Vals vs us->∃as,ReadsAll s.heap us ds as
 |_,_,_,.nil,r=>by cases r;exact⟨_,.nil⟩
 |_,_,_,.cons h t,.cons r rr=>by
  obtain⟨as,h1⟩:=I.reads h r;obtain⟨bs,h2⟩:=I.readsAll t rr;exact⟨_,.cons h1 h2⟩
end
end
theorem RDs.ints{K:W.Frag}{H:Hp}:∀(ns:List Int),RDs K H (ns.map V.int) (ns.map Ef)
 |[]=>.nil
 |n::r=>.cons (.int n) (RDs.ints r)
mutual
theorem RD.mono{K:W.Frag}{H H':Hp}(hl:∀a xs,SqL K H a xs->SqL K H' a xs)(ht:∀a xs,SqT K H a xs->SqT K H' a xs):∀{v:V}{d:PyData},RD K H v d->RD K H' v d
 |_,_,.non=>.non
 |_,_,.bl b=>.bl b
 |_,_,.int i=>.int i
 |_,_,.str x=>.str x
 |_,_,.lst h t=>.lst (hl _ _ h) (RDs.mono hl ht t)
 |_,_,.tup h t=>.tup (ht _ _ h) (RDs.mono hl ht t)
theorem RDs.mono{K:W.Frag}{H H':Hp}(hl:∀a xs,SqL K H a xs->SqL K H' a xs)(ht:∀a xs,SqT K H a xs->SqT K H' a xs):∀{v:List V}{d:List PyData},RDs K H v d->RDs K H' v d
 |_,_,.nil=>.nil
 |_,_,.cons h t=>.cons (RD.mono hl ht h) (RDs.mono hl ht t)
end
noncomputable def rEqD(K:W.Frag):R2:=λx y H Q=>∃d e,RD K H x d/\RD K H y e/\Cd d=true/\Cd e=true/\Q (.bl (C6 d e)) H
noncomputable def rNeD(K:W.Frag):R2:=λx y H Q=>∃d e,RD K H x d/\RD K H y e/\Cd d=true/\Cd e=true/\Q (.bl (!PyData.eqv d e)) H
section
variable {X:Cx}
theorem zgG(hu:X.A.units+64<cLine):OpR X (Bw .Eq) (rEqD X.K):=by intro pins s σ H x y v u Q I rx ry h;obtain⟨d,e,hd,he,sd,se,q⟩:=h;obtain⟨as,ra⟩:=I.reads hd rx;obtain⟨bs,rb⟩:=I.reads he ry;exact SeqAt.compareEq_shaped ra rb sd se hu ⟨.bl _,H,I,rfl,q⟩
theorem zkj(hu:X.A.units+64<cLine):OpR X (Bw .NotEq) (rNeD X.K):=by intro pins s σ H x y v u Q I rx ry h;obtain⟨d,e,hd,he,sd,se,q⟩:=h;obtain⟨as,ra⟩:=I.reads hd rx;obtain⟨bs,rb⟩:=I.reads he ry;exact SeqAt.compareNe_shaped ra rb sd se hu ⟨.bl _,H,I,rfl,q⟩
theorem zg2{ds:List PyData}(h:∀e∈ds,Cd e=true):Dx ds=true:=by
 induction ds with
 |nil=>rfl
 |cons d r ih=>rw[Dx,SeqAt.canLay_of_shaped (h d Ap),ih λe he=>h e (As _ he)];rfl
theorem zeB:∀ns ms:List Int,PyData.eqvAll (ns.map Ef) (ms.map Ef)=decide (ns=ms)
 |[],[]=>rfl
 |[],_::_=>rfl
 |_::_,[]=>rfl
 |n::r,m::t=>by
  show (n == m && PyData.eqvAll (r.map Ef) (t.map Ef))=_;rw[zeB r t]
  by_cases e:n=m
  .subst e;by_cases e2:r=t <;> simp[e2]
  .simp[e]
theorem zce:∀ns:List Int,PyData.depthAll (ns.map Ef)=0
 |[]=>rfl
 |n::r=>by show max 0 (PyData.depthAll (r.map Ef))=0;rw[zce r];rfl
theorem zcP:∀ns:List Int,Dx (ns.map Ef)=true
 |[]=>rfl
 |n::r=>by show (true && Dx (r.map Ef))=true;rw[zcP r];rfl
noncomputable def tI(ns:List Int):PyData:=.tuple (ns.map .int)
theorem zeA(ns ms:List Int):C6 (tI ns) (tI ms)=decide (ns=ms):=zeB ns ms
theorem zaZ(ns:List Int):Cd (tI ns)=true:=by unfold Cd tI;rw[PyData.canLay0,zcP,Dy,zce];rfl
end
section
variable {prog:AQ}{w:Bg}{A:AY}{E:Ac->Ae->Prop}{s:Ae}
theorem zg0{it t:Addr}{items:Array Ac}(hne:t ≠ it):∀(n i:Nat) (s:Ae) (Q:List Ac -> Ae -> Prop), s.heap.IsListIter it t i -> s.heap.IsList t items -> i + n <= items.size ->
  (∀h',h'.IsListIter it t (i+n)->BR it s.heap h'->Q ((items.toList.drop i).take n) { s with heap:=h' })->Ak (An prog w) A (draw (.ref it) n) Q E s
 | 0,i,s,Q,hit,_,_,hQ=>by
  show Ak _ _ (pure []) Q E s;exact Af (by simpa using hQ s.heap hit (Heap.SameBut.refl ..))
 |n+1,i,s,Q,hit,ht,hle,hQ=>by
  have hlt:i<items.size:=by lia
  show Ak _ _ (DU (.ref it) >>= _) Q E s;refine Aa (wpAny_pyNext_list_item hit ht (x:=items[i]) (by simp[hlt]) λh₁ hit₁ hs₁=>?_);refine Aa (Bb (zg0 hne n (i+1) _ _ hit₁ (ht.extBut hs₁.extBut hne) (by lia) λh₂ hit₂ hs₂=>Af ?_));have hd:items.toList.drop i=items[i]::items.toList.drop (i+1):=by simp[Ep,hlt]
  have:=hQ h₂ (by rw[show i+(n+1)=i+1+n by lia];exact hit₂) (hs₁.trans hs₂);rw[hd,CI]at this;exact this
theorem zdR{t:Addr}{items:Array Ac}{Q:List Ac -> Ae -> Prop}(hh:A.handled=none)(ht:s.heap.IsList t items)
  (hQ:∀h',Heap.ExtBut s.heap.objs.size s.heap h'->Q items.toList { s with heap:=h' }):Ak (An prog w) A (unpackItems (.ref t) items.size none) Q E s:=by
 have hlt:t≠s.heap.objs.size:=by obtain⟨o,ho,_⟩:=ht;exact AK (Aq ho)
 unfold unpackItems;refine Aa ?_
 .unfold notIterableAtAll;refine Aa (wpAny_specialOf ht.typeIs PySem.F.slot_list_iter.lookup ?_);refine Af ?_
  simp only[Bn,if_false];refine Aa (Bb (wpAny_pyIter_list ht ?_));refine Aa (Bb (zg0 hlt items.size 0 _ _ ⟨_,At _ rfl,rfl,rfl⟩ (ht.push _) (by lia) λh₁ hit₁ hs₁=>?_))
  have hall:List.take items.size (List.drop 0 items.toList)=items.toList:=by rw[List.drop_zero];exact B5 (by simp)
  rw[hall];rw[if_neg (by simp)];have ht₁:h₁.IsList t items:=(ht.push _).extBut hs₁.extBut hlt;refine Aa (Bb (wpAny_pyNext_list_end hh hit₁ ht₁ (by simp) λh₂ he₂=>?_));simp only[Option.isSome_none,Bn,if_false];refine Af (hQ h₂ λb o hb e=>he₂ b o hb (hs₁.extBut b o hb (Ag _ e)))
theorem zdC{env:Env}{elts:List Expr}{x1}{pos:Pos}{t:Addr}{items:Array Ac}{Q:Unit -> Ae -> Prop}(hh:A.handled=none)(ht:s.heap.IsList t items)
  (hn:(C4 elts env).length=items.size) (hstar:(C4 elts env).findIdx? (·.1)=none)
  (h:∀h',Heap.ExtBut s.heap.objs.size s.heap h'->Ak (An prog w) A (assignInOrder ((C4 elts env).map (·.2)) items.toList) Q E { s with heap:=h' }) :
  Ak (An prog w) A (assign (.Tuple elts x1 pos) env (.ref t)) Q E s:=by
 rw[assign_Tuple];refine Aa (De ?_);unfold unpack;rw[hn,hstar];exact Aa (Bb (zdR hh ht h))
end
section
variable {X:Cx}{pos:Pos}
noncomputable def gLst(K:W.Frag)(n:Nat)(t:TGs):TG:=λv σ H Q=>∃a xs,v=.ref a/\SqL K H a xs/\xs.length=n/\t xs σ H Q
theorem zmu{es:List Expr}{k:Nat}{t:TGs}{n:Nat}(hc:X.calm=true)(h:PGs X es t)
  (hn:(C4 es X.env).length=n:=by rfl) (hst:(C4 es X.env).findIdx? (·.1)=none:=by rfl):PG X (.Tuple es k pos) (gLst X.K n t):=by
 intro pins s σ H v u Q I r hw;obtain⟨a,xs,e1,hq,hl,hw⟩:=hw;subst e1
 cases r
 obtain⟨its,rv,ht,hz⟩:=I.list hq;refine zdC (I.ok.hd hc) ht.isList (by simp[hn,<- hl,rv.length]) hst λh' hx=>?_
 have I1:Inv X pins σ H { s with heap:=h' }:=I.kept (t':=s.toks) λb o e=>hx b o (AK (Aq e)) e
 exact h pins _ σ H xs _ Q I1 (by simpa using rv) hw
noncomputable def CDivB(i j:Int):Prop:=0<j/\j.natAbs.log2<9000
theorem zlM:OpR X (binaryOp .FloorDiv) (rI CDivB λi j=>.int (i / j)):=opI λi j _ _ _ _ _ hc q=>by have e:i.fdiv j=i / j:=Int.fdiv_eq_ediv_of_nonneg i (Int.le_of_lt hc.1);rw[<- e]at q;exact floordiv_int (by have:=hc.1;lia) q (.inl (PyProof.noPylong_of_log2 hc.2))
theorem zcA (hh:X.calm=true):CallR X (.builtin "all") (λxs H Q=>∃(p:Addr) (bs:List Bool),xs=[.ref p]/\SqL X.K H p (bs.map V.bl)/\Q (.bl (bs.all id)) H):=by
 intro pins s σ H xs us Q I r h;obtain⟨p,bs,rfl,hq,q⟩:=h;obtain⟨u,rfl,ru⟩:=vals1 r
 cases (show u=Au p from ru)
 obtain⟨its,rv,pl,hz⟩:=I.list hq;have hlp:p<s.heap.objs.size:=by obtain⟨o,ho,_⟩:=pl.isList;exact Aq ho
 have hlen:its.length=bs.length:=by have:=rv.length;simpa using this.symm
 refine call_all_walk (wpAny_pyIter_list pl.isList ?_);refine⟨_,_,_,_,_,_,λi=>bs.getD i true,rfl,Walks.list (A:=X.A.in1) (I.ok.hd hh) s.heap.objs.size p (AK hlp) its.toArray,⟨⟨_,At _ rfl,rfl,rfl⟩,pl.isList.push _⟩,?_,λh' tk hk=>?_⟩
 .intro i v s1 Q1 E1 hv hQ;have hv':its[i]?=some v:=by simpa using hv
  have hi:i<its.length:=(Ad.mp hv').1;obtain⟨w',hw,rw'⟩:=rv.get (i:=i) (x:=V.bl (bs[i]'(by lia))) (by simp[Ab,show i<bs.length by lia]);rw[hv']at hw
  cases hw
  cases (show v=EN _ from rw')
  refine Co ?_
  have e:bs.getD i true=bs[i]'(by lia):=by simp[A8,show i<bs.length by lia]
  rw[<- e];exact hQ
 .have I1:Inv X pins σ H { s with heap:=h',toks:=tk }:=I.kept λb o e=>hk b o (by simp;exact AK (Aq e)) (Ag _ e)
  refine⟨.bl _,H,I1,rfl,?_⟩
  have e:(Bk its.toArray.size).all (λi=>bs.getD i true)=bs.all id:=by
   rw[show its.toArray.size=bs.length by simpa using hlen];rw[Ds];simp only[List.all_eq_true,List.mem_range,id];constructor
   .intro h b hb;obtain⟨i,hi,e⟩:=AD hb;have:=h i hi;simpa[A8,hi,e]using this
   .intro h i hi;have:=h bs[i] (Bj hi);simpa[A8,hi]using this
  rw[e];exact q
end
section
variable {X:Cx}
theorem zcf:CallR X (.builtin "isinstance") (λxs H Q=>∃x T t b,xs=[x,.ty T]/\TyOf X.K H x t/\W.kitOne X.K t (.type T)=some b/\Q (.bl b) H):=by
 intro pins s σ H xs us Q I r h;obtain⟨x,T,t,b,rfl,ty,e,q⟩:=h;obtain⟨u,w',rfl,ru,rw'⟩:=vals2 r
 cases (show w'=DE T from rw')
 exact zkG I ru ty e λtk=>⟨.bl b,H,I.tok tk,rfl,q⟩
theorem zgP (K:W.Frag):W.kitOne K (.type "int") (.type "bool")=some false:=by rfl
theorem zcb(K:W.Frag)(T:String):W.kitOne K (.type T) (.type T)=some true:=by unfold W.kitOne;rw[if_pos (by simp)]
end
end L2
namespace HT
open PySem PyProof.Rows
noncomputable def lexLe:List Int->List Int->Bool
 |[],[]=>true
 |[],_::_=>true
 |_::_,[]=>false
 |x::xs,y::ys=>if x=y then lexLe xs ys else decide (x<=y)
theorem zfb(x y:Int)(xs ys:List Int):lexLe (x::xs) (y::ys)=if x=y then lexLe xs ys else decide (x<=y):=rfl
theorem zfX:lexLe [] []=true:=rfl
theorem zeU(y:Int)(ys:List Int):lexLe [] (y::ys)=true:=rfl
theorem zeV(x:Int)(xs:List Int):lexLe (x::xs) []=false:=rfl
theorem zlz(A:AY)(s:Ae)(a:Int)(t:Tok)(c:Int)(u:Tok)(prog:AQ)(w:Bg)(E:Ac -> Ae -> Prop)(Q:Ac -> Ae -> Prop)(h:Q (.bool (decide (a <= c))) s) :
  Ak (An prog w) A (richCompare .LtE (.int a t) (.int c u)) Q E s :=
 (PyProof.Rows.le_int h:Ak (An prog w) A (Bw .LtE (.int a t) (.int c u)) Q E s)
section
open PySem.SeqAt
open PySem.AutoSeq1 (wpAny_loadPart')
open PySem.MeetsSeq PySem.MeetsSeq2 PySem.MeetsSeq3
theorem zfo(l b:Addr)(items items2:Array Ac)(n n2:Nat)(dd dd2:Option Addr)(sl sl2:Array (Option Ac))(ns ms:List Int)(hi:CU items.toList ns)(hj:CU items2.toList ms) :
  Meets (DL.«tuple.__le__» ⟨[.ref l,.ref b],[]⟩)
   (λ_ R s=>s.heap.get? l=some { cls:=.type "tuple",dict:=dd,data:=.seq items n,slots:=sl }/\s.heap.get? b=some { cls:=.type "tuple",dict:=dd2,data:=.seq items2 n2,slots:=sl2 } /\
    R (.ok (.ret (.bool (lexLe ns ms)))) s) :=
 .of_wp λprog w A R s h=>by
  obtain⟨hp,g,d,tk,os⟩:=s;obtain⟨hl,hb,h⟩:=h;have f2:=Ez;have z1:items.size=ns.length:=by rw[<- hi.length];simp
  have z2:items2.size=ms.length:=by rw[<- hj.length];simp
  wp_walk using BK hl,BK hb,wpAny_forIn_list _ (λrest b s'=>b.1=none/\s'=⟨hp,g,d,tk,os⟩/\∃(vs ws:List Ac) (ns' ms':List Int),rest=vs.zip ws /\
   CU vs ns'/\CU ws ms'/\ns'.length+items2.size=ms'.length+items.size/\R (.ok (.ret (.bool (lexLe ns' ms')))) ⟨hp,g,d,tk,os⟩) _
  case turn =>
   rintro⟨y,x⟩ rest b s' ⟨hb',rfl,vs,ws,ns',ms',hz,hvi,hwi,hlen,hR⟩
   cases hvi with
   |nil=>rw[List.zip_nil_left]at hz;cases hz
   |cons a t hvi' =>
    cases hwi with
    |nil=>rw[List.zip_nil_right]at hz;cases hz
    |cons c u hwi' =>
     rw[Dk]at hz;injection hz with hyx hrest;injection hyx with hy hx;subst hy hx;rw[zfb]at hR;simp only[AZ]at hlen;obtain⟨e,he,hiff⟩:=ziw A.in1 ⟨hp,g,d,tk,os⟩ a t c u;refine Aa (he prog w _ _ ?_)
     cases e with
     |true =>
      rw[if_pos (hiff.mp rfl)]at hR
      wp_walk
      exact⟨rfl,rfl,_,_,_,_,hrest,hvi',hwi',by lia,hR⟩
     |false =>
      rw[if_neg (λq=>absurd (hiff.mpr q) AT)]at hR;have hri:=zlz A.in1 ⟨hp,g,d,tk,os⟩ a t c u prog w
      wp_walk using hri
      exact⟨_,rfl,by simpa using hR⟩
  case fin =>
   rintro⟨b1,b2⟩ s' ⟨hb',rfl,vs,ws,ns',ms',hz,hvi,hwi,hlen,hR⟩;simp only at hb';subst hb'
   have hv:lexLe ns' ms'=decide (items.size<=items2.size):=by
    cases hvi with
    |nil =>
     cases hwi with
     |nil =>
      simp only[Cu]at hlen;rw[zfX];exact (decide_eq_true (by lia)).symm
     |cons c u hw =>
      simp only[Cu,AZ]at hlen;rw[zeU];exact (decide_eq_true (by lia)).symm
    |cons a t hv =>
     cases hwi with
     |nil =>
      simp only[Cu,AZ]at hlen;rw[zeV];exact (decide_eq_false (by lia)).symm
     |cons c u hw =>
      rw[Dk]at hz
      cases hz
   rw[hv]at hR
   wp_walk
   exact⟨_,rfl,by simpa[DK]using hR⟩
  case h =>
   exact⟨rfl,rfl,items.toList,items2.toList,ns,ms,rfl,hi,hj,by lia,h⟩
end
section
variable {prog:AQ}{w:Bg}{A:AY}{E:Ac->Ae->Prop}{s:Ae}
theorem le_tupInts{l b:Addr}{items items2:Array Ac}{ns ms:List Int}{Q:Ac -> Ae -> Prop}(hl:IsTup s.heap l items)(hb:IsTup s.heap b items2)(hi:CU items.toList ns)(hj:CU items2.toList ms)
  (hu:A.units<cLine) (h:Q (.bool (lexLe ns ms)) s):Ak (An prog w) A (Bw .LtE (.ref l) (.ref b)) Q E s:=by
 obtain⟨⟨cls,dd,data,sl⟩,ho,hc,n,hd⟩:=id hl;obtain⟨⟨cls2,dd2,data2,sl2⟩,ho2,hc2,n2,hd2⟩:=id hb;simp only at hc hd hc2 hd2;subst hc hd hc2 hd2
 exact richCompare_meets_room (op:=.LtE) ⟨_,ho,rfl⟩ ⟨_,ho2,rfl⟩ PySem.F.slot_tuple_le PySem.F.entry_tuple_le (PySem.F.args_tuple_le_2 _ _) (zfo l b items items2 n n2 dd dd2 sl sl2 ns ms hi hj)
  ⟨ho,ho2,show EN (lexLe ns ms)≠Value.notImplemented/\Q (.bool (lexLe ns ms)) s from ⟨(λx=>nomatch x),h⟩⟩ hu
end
end HT
namespace L2
open PySem PySem.Spec PyProof.Rows
section
variable {X:Cx}
noncomputable def rLeT(K:W.Frag):R2:=λx y H Q=>∃a b ns ms,x=.ref a/\y=.ref b/\SqT K H a (ns.map V.int)/\SqT K H b (ms.map V.int)/\Q (.bl (HT.lexLe ns ms)) H
theorem zn6(hu:X.A.units<cLine):OpR X (Bw .LtE) (rLeT X.K):=by
 intro pins s σ H x y v u Q I rx ry h;obtain⟨a,b,ns,ms,rfl,rfl,ha,hb,q⟩:=h
 cases rx
 cases ry
 obtain⟨its,r1,p1,_⟩:=I.tuple ha;obtain⟨its2,r2,p2,_⟩:=I.tuple hb;have i1:CU its.toArray.toList ns:=zbB r1;have i2:CU its2.toArray.toList ms:=zbB r2;exact HT.le_tupInts p1 p2 i1 i2 hu ⟨.bl (HT.lexLe ns ms),H,I,rfl,q⟩
end
section
variable {X:Cx}
noncomputable def zmT(K:W.Frag):V->List V->Hp->VK->Prop:=λx vs H Q=>∃p xs y d ds j e,x=.ref p/\vs=[y]/\SqL K H p xs/\RD K H y d/\RDs K H xs ds/\Cd d=true/\(∀e∈ds,Cd e=true) /\
 ds[j]?=some e/\C6 e d=true/\(∀m e',m<j->ds[m]?=some e'->C6 e' d=false)/\Q (.int (j:Nat)) H
theorem zkp (hu:X.A.units+65<cLine):MtR X "list.index" (zmT X.K):=by
 intro pins s σ H x vs v us Q I rx rv h;obtain⟨p,xs,y,d,ds,j,e,rfl,rfl,hq,hd,hds,sd,sds,hj,he,hno,q⟩:=h
 cases rx
 obtain⟨u,rfl,ru⟩:=rv.one;obtain⟨its,r,pl,hz⟩:=I.list hq;obtain⟨as,ra⟩:=I.reads hd ru;obtain⟨bs,rb⟩:=I.readsAll hds r;have hlay:=zg2 sds;have hmap:=SeqAt.readsAll_map ds _ _ hlay rb;have hlen:its.length=ds.length:=by rw[<- hmap,Ah]
 have hj':j<ds.length:=(Ad.mp hj).1
 have rd:∀m (hm:m<its.length),ds[m]?=some (SeqAt.readOf s.heap its[m]):=λm hm=>by rw[<- hmap,AA,Ab hm];rfl
 obtain⟨⟨cls,dd,data,sl⟩,ho,hc,n,hdat⟩:=pl.isList;simp only at hc hdat
 subst hc hdat
 have hsz:xs.length<=sizeLine:=hz;have hl2:its.length=xs.length:=r.length.symm
 refine call_meets PySem.F.slot_list_index ⟨_,ho,rfl⟩ PySem.F.entry_list_index (PySem.F.args_list_index_2 _ _)
  (SeqAt.list_indexAt p its.toArray n dd sl u (λz=>C6 (SeqAt.readOf s.heap z) d) j (by simpa[hlen]using hj') (by have:=Dg;lia) ?_ ?_)
  ⟨ho,SeqAt.items_eqAt (vs:=its.toArray) rb ra hlay (SeqAt.canLay_of_shaped sd) (PyProof.Rows.room_in_shaped sd hu),?_⟩
 .have:=rd j (by lia);rw[hj]at this;have e1:=A9 this;show C6 (SeqAt.readOf s.heap its[j]) d=true;rw[<- e1];exact he
 .intro m hm hlt;have hm':m<its.length:=by simpa using hm
  exact hno m _ hlt (rd m hm')
 .exact⟨.int (j:Nat),H,I.tok _,⟨_,rfl⟩,q⟩
end
section
variable {X:Cx}{k:Nat}{f:Addr}{fd:Cc}{ps:List Str}{sp:Sp}{pins:List (Addr×Obj)}{σ:St}
theorem zj0{H:Hp}{s:Ae}{Q:VK}{us:List Ac}{vs:List V}{E:Ac -> Ae -> Prop}(F:FnOk X.prog X.w X.K X.mg X.base CX0 k f fd ps sp)(hr:Room (k + 1) X.A)(hb:Binds X.K fd ps [])
  (I:Inv X pins σ H s) (r:Vals vs us) (h:sp vs H Q E0):Ak (An X.prog X.w) X.A.in1 (call (.ref f) us) (EP X pins σ Q) E s:=by
 have hl:(us++[]).length=ps.length:=by rw[BJ,<- r.length];exact F.len _ _ _ _ h
 have hb':=hb s us I.kIn hl;rw[BJ]at hb';refine wpAny_call (Ek (F.run X.A.in1 X.stack s H ⟨us,[]⟩ us vs Q E0 hr.in1 I.env0.in1 hb' r h) λr s' hq=>?_)
 cases r with
 |error e=>exact BD hq
 |ok fl =>
  cases fl with
  |ret u=>exact I.after hq
  |next=>exact BD hq
  |brk=>exact BD hq
  |cont=>exact BD hq
theorem Inv.moved{H:Hp}{s:Ae}{b:Addr}{h':Heap}{t':Nat}(I:Inv X pins σ H s)(fb:FpOk X pins H b)(hk:∀c o,c ∉ [b]->s.heap.get? c=some o->h'.get? c=some o):Inv X pins σ H { s with heap:=h',toks:=t' } :=
 I.turned (λc o hc e=>hk c o (λz=>hc (Am.mp z)) e) fb.1 fb.2.1 fb.2.2.2.1 fb.2.2.2.2.1 fb.2.2.2.2.2
theorem FpOk.again{H H':Hp}{b:Addr}(fb:FpOk X pins H b)(hn:H' b=none):FpOk X pins H' b:=⟨hn,fb.2⟩
structure MK (X:Cx) (pins:List (Addr×Obj)) (σ:St) (H:Hp) (s:Ae) (it st l:Addr) (j:Nat) (vb kb:Ac):Prop where
 inv:Inv X pins σ H s
 fi:FpOk X pins H it
 fs:FpOk X pins H st
 ne:st≠it
 iter:s.heap.IsListIter it l j
 hold:∃c,s.heap.get? st=some (BS "list" #[vb,kb] c)
noncomputable def Least(κ:Nat->List Int)(n i:Nat):Prop:=∀j,j<n->HT.lexLt (κ j) (κ i)=false/\(j<i->HT.lexLt (κ i) (κ j)=true)
end
end L2
namespace HT
theorem lexLt_irrefl:∀a:List Int,lexLt a a=false
 |[]=>rfl
 |x::r=>by rw[lexLt_cons,if_pos rfl];exact lexLt_irrefl r
theorem lexLt_trans:∀{a b c:List Int},lexLt a b=true->lexLt b c=true->lexLt a c=true
 |[],[],_,h,_=>by cases h
 |[],_::_,[],_,h=>by cases h
 |[],_::_,_::_,_,_=>rfl
 |_::_,[],_,h,_=>by cases h
 |_::_,_::_,[],_,h=>by cases h
 |x::a,y::b,z::c,h,g=>by
  rw[lexLt_cons]at h g ⊢
  by_cases e1:x=y
  .subst e1;rw[if_pos rfl]at h
   by_cases e2:x=z
   .subst e2;rw[if_pos rfl]at g ⊢;exact lexLt_trans h g
   .rw[if_neg e2]at g ⊢;exact g
  .rw[if_neg e1]at h;have h':x<y:=by simpa using h
   by_cases e2:y=z
   .subst e2;rw[if_neg e1];exact h
   .rw[if_neg e2]at g;have g':y<z:=by simpa using g
    rw[if_neg (by lia)];exact decide_eq_true (by lia)
theorem lexLt_total:∀{a b:List Int},lexLt a b=false->lexLt b a=false->a=b
 |[],[],_,_=>rfl
 |[],_::_,h,_=>by cases h
 |_::_,[],_,h=>by cases h
 |x::a,y::b,h,g=>by
  rw[lexLt_cons]at h g
  by_cases e:x=y
  .subst e;rw[if_pos rfl]at h g;rw[lexLt_total h g]
  .rw[if_neg e]at h;rw[if_neg (Cj e)]at g;have h':¬ x<y:=by simpa using h
   have g':¬ y<x:=by simpa using g
   lia
theorem lexLe_eq:∀a b:List Int,lexLe a b=!lexLt b a
 |[],[]=>rfl
 |[],_::_=>rfl
 |_::_,[]=>rfl
 |x::a,y::b=>by
  rw[zfb,lexLt_cons]
  by_cases e:x=y
  .subst e;rw[if_pos rfl,if_pos rfl];exact lexLe_eq a b
  .rw[if_neg e,if_neg (Cj e)]
   by_cases g:x<=y
   .rw[decide_eq_true g,decide_eq_false (by lia)];rfl
   .rw[decide_eq_false g,decide_eq_true (by lia)];rfl
theorem lexLt_of_not_lt_lt{a b c:List Int}(h:lexLt b a=false)(g:lexLt b c=true):lexLt a c=true:=by
 cases e:lexLt a b with
 |true=>exact lexLt_trans e g
 |false=>rw[lexLt_total e h];exact g
theorem lexLt_asym{a b:List Int}(h:lexLt a b=true):lexLt b a=false:=by
 cases e:lexLt b a with
 |false=>rfl
 |true=>have:=lexLt_trans h e;rw[lexLt_irrefl]at this;cases this
end HT
namespace L2
open PySem PySem.Spec PyProof.Rows
section
variable {X:Cx}{k:Nat}{f:Addr}{fd:Cc}{ps:List Str}{sp:Sp}{pins:List (Addr×Obj)}{σ:St}{H0:Hp}{Q:VK}{l it st:Addr}{xs:List V}{κ:Nat->List Int}
noncomputable def MKR(X:Cx)(pins:List (Addr×Obj))(σ:St)(Q:VK):Result->Ae->Prop:=λr s'=>match r with
 |.ok (.ret v)=>EP X pins σ Q v s'
 |.ok _=>False
 |.error e=>X.xe e s'
theorem zcI {xs:Array Ac}{c:Nat}:∀v,(BS "list" xs c).data≠.cell v:=λv h=>by cases h
theorem zew{h:Heap}{it l:Addr}{j:Nat}(hi:h.IsListIter it l j):∃o,h.get? it=some o/\∀v,o.data≠.cell v:=by obtain⟨o,ho,_,hd⟩:=hi;exact⟨o,ho,λv z=>by rw[hd]at z;cases z⟩
theorem zlv{H:Hp}{s:Ae}{Q1:VK}{u:Ac}{x:V}{E:Ac -> Ae -> Prop}{j:Nat}{vb kb:Ac}(F:FnOk X.prog X.w X.K X.mg X.base CX0 k f fd ps sp)(hr:Room (k + 1) X.A)(hb:Binds X.K fd ps [])
    (M:MK X pins σ H s it st l j vb kb) (r:RelV x u) (h:sp [x] H Q1 E0):Ak (An X.prog X.w) X.A.in1 (call (.ref f) [u]) (λv s'=>∃y H',RelV y v/\Q1 y H'/\MK X pins σ H' s' it st l j vb kb) E s:=by
  obtain⟨c,hc⟩:=M.hold;obtain⟨oi,hoi,ci,di⟩:=id M.iter
  have I1:Inv X (pins ++ zdK [it, st] s.heap) σ H s := M.inv.pinned (λb hb => by
      rcases Ax.mp hb with rfl |hb
      . exact M.fi
      . rw[Am.mp hb];exact M.fs) (λb hb=>by
      rcases Ax.mp hb with rfl |hb
      . exact zew M.iter
      . rw[Am.mp hb];exact⟨_,hc,zcI⟩)
  refine B3 (zj0 F hr hb I1 (.cons r .nil) h) (λv s' hv=>?_) λ_ _ e=>e
  obtain⟨y,H',I2,ry,q⟩:=hv;have p1:=I2.pin (it,oi) (Aw _ (Aw _ (zaS (by simp) hoi)));have p2:=I2.pin (st,BS "list" #[vb,kb] c) (Aw _ (Aw _ (zaS (by simp) hc)));exact⟨y,H',ry,q,I2.unpinned,M.fi.again p1.2.1,M.fs.again p2.2.1,M.ne,⟨oi,p1.1,ci,di⟩,c,p2.1⟩
theorem znd{H:Hp}{s:Ae}{a b:Addr}{ns ms:List Int}{E:Ac -> Ae -> Prop}{Q1:Ac -> Ae -> Prop}(hu:X.A.units + 1 < cLine)(I:Inv X pins σ H s)(ha:SqT X.K H a (ns.map V.int))(hb:SqT X.K H b (ms.map V.int))(q:Q1 (.bool (HT.lexLt ns ms)) s) :
  Ak (An X.prog X.w) X.A.in1 (richCompare .Lt (.ref a) (.ref b)) Q1 E s:=by
 obtain⟨its,r1,p1,_⟩:=I.tuple ha;obtain⟨its2,r2,p2,_⟩:=I.tuple hb;exact (HT.lt_tupInts p1 p2 (zbB r1) (zbB r2) hu q:Ak (An X.prog X.w) X.A.in1 (Bw .Lt (.ref a) (.ref b)) Q1 E s)
theorem MK.set{H:Hp}{s:Ae}{j:Nat}{vb kb v kv:Ac}(M:MK X pins σ H s it st l j vb kb):MK X pins σ H { s with heap:=s.heap.update st (A7 λ_=>#[v,kv]) } it st l j v kv:=by obtain⟨c,hc⟩:=M.hold;have sb:=BB s.heap st (A7 λ_=>#[v,kv]);obtain⟨oi,hoi,ci,di⟩:=id M.iter;exact⟨M.inv.moved (t':=s.toks) M.fs (λb o hb e=>(sb.2 b λz=>hb (by simp[z])).trans e),M.fi,M.fs,M.ne,⟨oi,(sb.2 it M.ne.symm).trans hoi,ci,di⟩,_,EJ hc λ_=>#[v,kv]⟩
theorem Least.next{n i:Nat}(h:Least κ n i)(e:HT.lexLt (κ n) (κ i)=false)(hi:i<n):Least κ (n+1) i:=λj hj=>by
 by_cases z:j=n
 .subst z;exact⟨e,λq=>absurd q (by lia)⟩
 .exact h j (by lia)
theorem Least.take{n i:Nat}(h:Least κ n i)(e:HT.lexLt (κ n) (κ i)=true)(hi:i<n):Least κ (n+1) n:=λj hj=>by
 by_cases z:j=n
 .subst z;exact⟨HT.lexLt_irrefl _,λq=>absurd q (by lia)⟩
 .have g:=(h j (by lia)).1
  have t:HT.lexLt (κ n) (κ j)=true:=by
   cases q:HT.lexLt (κ i) (κ j) with
   |true=>exact HT.lexLt_trans e q
   |false=>rw[<- HT.lexLt_total q g];exact e
  exact⟨HT.lexLt_asym t,λ_=>t⟩
theorem Room.un1{n:Nat}{A:AY}(r:Room n A):A.units+1<cLine:=by have:=r.units;lia
theorem Same.seqT{K:W.Frag}{H H':Hp}{a:Addr}{xs:List V}(e:Same H H')(h:SqT K H a xs):SqT K H' a xs:=by
 rcases h with (h |⟨o,h⟩) |h
 .exact .inl (.inl (e _ _ h))
 .exact .inl (.inr ⟨o,e _ _ h⟩)
 .exact .inr h
theorem zkq(hh:X.A.handled=none)(F:FnOk X.prog X.w X.K X.mg X.base CX0 k f fd ps sp)(hr:Room (k + 1) X.A)(hb:Binds X.K fd ps [])
  (turn:∀i x H,xs[i]?=some x->Same H0 H->sp [x] H (λv H'=>Same H H'/\∃a,v=.ref a/\SqT X.K H' a ((κ i).map V.int)) E0)
  (hl:SqL X.K H0 l xs) (hli:l≠it) (hQ:∀i x H',xs[i]?=some x->Least κ xs.length i->Same H0 H'->Q x H') :
  ∀(r j i:Nat) (H:Hp) (s:Ae) (vb:Ac) (xb:V) (b:Addr),xs.length-(j+1)=r->j+1<=xs.length->Same H0 H->MK X pins σ H s it st l (j+1) vb (.ref b)->xs[i]?=some xb->RelV xb vb->SqT X.K H b ((κ i).map V.int)->i<=j->Least κ (j+1) i ->
   CT (An X.prog X.w) X.A (.builtin "min.loop" ⟨[.ref it,.ref f,.ref st],[]⟩) (MKR X pins σ Q) s:=by
 have nm:(toString "min" ++ toString ".loop" : String) = "min.loop":=by decide
 intro r
 induction r with
 |zero =>
  intro j i H s vb xb b hr0 hj hS M hxb rb kb' hij best;have hend:j+1=xs.length:=by lia
  obtain⟨its,rv,pl,hz⟩:=M.inv.list (hS.seq hl);have hlen:its.length=xs.length:=rv.length.symm;have W:=Walks.list (prog:=X.prog) (w:=X.w) (A:=X.A.in1) hh it l hli its.toArray;obtain⟨c,hc⟩:=M.hold;refine codeAny_builtin PySem.F.entry_min_loop ?_
  rw[Around.under_plainId Ck _];show Ak _ X.A.in1 (seqItems? (.ref st) >>= _) _ _ _;refine Aa (Cq hc rfl ?_);show Ak _ X.A.in1 (tryCatch (DU (.ref it)) _ >>= _) _ _ _;refine Aa (Eg (W.done _ _ _ ⟨by rw[AF,hlen,<- hend];exact M.iter,pl.isList⟩ λh1 tk1 hk1=>?_));have I1:=M.inv.moved (t':=tk1) M.fi hk1;have hc1:=hk1 st _ (by simpa using M.ne) hc;have sb:=BB h1 st (A7 λ_=>(#[]:Array Ac));show Ak _ X.A.in1 (updateSeq st (λ_=>#[]) >>= _) _ _ _;refine Aa ?_
  refine D3 hc1 rfl (Aa (Dh (Af ?_)));have I2:Inv X pins σ H { s with heap:=h1.update st (A7 λ_=>(#[]:Array Ac)),toks:=tk1 }:=I1.moved (s:={ s with heap:=h1,toks:=tk1 }) (t':=tk1) M.fs (λb o hb e=>(sb.2 b λz=>hb (by simp[z])).trans e);exact⟨xb,H,I2,rb,hQ i xb H hxb (by rw[<- hend];exact best) hS⟩
 |succ r ih =>
  intro j i H s vb xb b hr0 hj hS M hxb rb kb' hij best;have hlt:j+1<xs.length:=by lia
  obtain⟨its,rv,pl,hz⟩:=M.inv.list (hS.seq hl);have hlen:its.length=xs.length:=rv.length.symm;have W:=Walks.list (prog:=X.prog) (w:=X.w) (A:=X.A.in1) hh it l hli its.toArray;obtain⟨c,hc⟩:=M.hold;refine codeAny_builtin PySem.F.entry_min_loop ?_
  rw[Around.under_plainId Ck _];show Ak _ X.A.in1 (seqItems? (.ref st) >>= _) _ _ _;refine Aa (Cq hc rfl ?_);show Ak _ X.A.in1 (tryCatch (DU (.ref it)) _ >>= _) _ _ _;refine Aa (Eg (W.item (j+1) _ _ _ (by rw[AF,hlen];exact hlt) ⟨M.iter,pl.isList⟩ λv h1 tk1 hP hst1 hk1=>?_));have hv:its[j+1]?=some v:=by simpa using hP
  obtain⟨x,hx⟩:∃x,xs[j+1]?=some x:=⟨_,Ab hlt⟩;obtain⟨v',hv',rx⟩:=rv.get hx;rw[hv]at hv'
  cases hv'
  have M1:MK X pins σ H { s with heap:=h1,toks:=tk1 } it st l (j+1+1) vb (.ref b):=⟨M.inv.moved (t':=tk1) M.fi hk1,M.fi,M.fs,M.ne,hst1.1,c,hk1 st _ (by simpa using M.ne) hc⟩;show Ak _ X.A.in1 (tryCatch (holding [v] (call (.ref f) [v])) _ >>= _) _ _ _;refine Aa (Eg (Bb (B3 (zlv F hr hb M1 rx (turn (j+1) x H hx hS) (E:=λ_ _=>False)) (λkv s2 he=>?_) λ_ _ hF=>hF.elim)));obtain⟨y,H2,ry,⟨hS2,a2,ey,ka2⟩,M2⟩:=he;subst ey
  cases (show kv=Au a2 from ry)
  have hS3:=hS.trans hS2;have kb2:SqT X.K H2 b ((κ i).map V.int):=hS2.seqT kb';show Ak _ X.A.in1 (tryCatch (holding [v,.ref a2] (richCompare .Lt (.ref a2) (.ref b) >>= _)) _ >>= _) _ _ _;refine Aa (Eg (Bb (Aa (znd hr.un1 M2.inv ka2 kb2 ?_))));refine Aa (Bb (Co ?_));refine Aa (Dh (Af ?_));obtain⟨c2,hc2⟩:=M2.hold
  by_cases hbt:HT.lexLt (κ (j+1)) (κ i)=true
  .simp only[hbt,if_true];refine Aa ?_
   refine D3 hc2 rfl (Aa (Dh ?_));rw[nm];exact Af ⟨plainId_quiet Ck _,ih (j+1) (j+1) H2 _ v _ a2 (by lia) hlt hS3 M2.set hx rx ka2 (Ai _) (best.take hbt (by lia))⟩
  .have hbf:HT.lexLt (κ (j+1)) (κ i)=false:=by simpa using hbt
   simp only[hbf,Bn,if_false];refine Aa (Dh ?_);rw[nm];exact Af ⟨plainId_quiet Ck _,ih (j+1) i H2 _ vb _ b (by lia) hlt hS3 M2 hxb rb kb2 (by lia) (best.next hbf (by lia))⟩
end
section
variable {X:Cx}{k:Nat}{f:Addr}{fd:Cc}{ps:List Str}{sp:Sp}{pins:List (Addr×Obj)}{σ:St}{H0:Hp}{Q:VK}{l it st:Addr}{xs:List V}{κ:Nat->List Int}
structure MK0 (X:Cx) (pins:List (Addr×Obj)) (σ:St) (H:Hp) (s:Ae) (it st l:Addr) (j:Nat):Prop where
 inv:Inv X pins σ H s
 fi:FpOk X pins H it
 fs:FpOk X pins H st
 ne:st≠it
 iter:s.heap.IsListIter it l j
 hold:∃c,s.heap.get? st=some (BS "list" #[] c)
theorem zj1{H:Hp}{s:Ae}{Q1:VK}{u:Ac}{x:V}{E:Ac -> Ae -> Prop}{j:Nat}(F:FnOk X.prog X.w X.K X.mg X.base CX0 k f fd ps sp)(hr:Room (k + 1) X.A)(hb:Binds X.K fd ps [])
    (M:MK0 X pins σ H s it st l j) (r:RelV x u) (h:sp [x] H Q1 E0):Ak (An X.prog X.w) X.A.in1 (call (.ref f) [u]) (λv s'=>∃y H',RelV y v/\Q1 y H'/\MK0 X pins σ H' s' it st l j) E s:=by
  obtain⟨c,hc⟩:=M.hold;obtain⟨oi,hoi,ci,di⟩:=id M.iter
  have I1:Inv X (pins ++ zdK [it, st] s.heap) σ H s := M.inv.pinned (λb hb => by
      rcases Ax.mp hb with rfl |hb
      . exact M.fi
      . rw[Am.mp hb];exact M.fs) (λb hb=>by
      rcases Ax.mp hb with rfl |hb
      . exact zew M.iter
      . rw[Am.mp hb];exact⟨_,hc,zcI⟩)
  refine B3 (zj0 F hr hb I1 (.cons r .nil) h) (λv s' hv=>?_) λ_ _ e=>e
  obtain⟨y,H',I2,ry,q⟩:=hv;have p1:=I2.pin (it,oi) (Aw _ (Aw _ (zaS (by simp) hoi)));have p2:=I2.pin (st,BS "list" #[] c) (Aw _ (Aw _ (zaS (by simp) hc)));exact⟨y,H',ry,q,I2.unpinned,M.fi.again p1.2.1,M.fs.again p2.2.1,M.ne,⟨oi,p1.1,ci,di⟩,c,p2.1⟩
theorem MK0.set{H:Hp}{s:Ae}{j:Nat}{v kv:Ac}(M:MK0 X pins σ H s it st l j):MK X pins σ H { s with heap:=s.heap.update st (A7 λ_=>#[v,kv]) } it st l j v kv:=by obtain⟨c,hc⟩:=M.hold;have sb:=BB s.heap st (A7 λ_=>#[v,kv]);obtain⟨oi,hoi,ci,di⟩:=id M.iter;exact⟨M.inv.moved (t':=s.toks) M.fs (λb o hb e=>(sb.2 b λz=>hb (by simp[z])).trans e),M.fi,M.fs,M.ne,⟨oi,(sb.2 it M.ne.symm).trans hoi,ci,di⟩,_,EJ hc λ_=>#[v,kv]⟩
theorem zk8{s:Ae}(hh:X.A.handled=none)(F:FnOk X.prog X.w X.K X.mg X.base CX0 k f fd ps sp)(hr:Room (k + 1) X.A)(hb:Binds X.K fd ps [])
  (turn:∀i x H,xs[i]?=some x->Same H0 H->sp [x] H (λv H'=>Same H H'/\∃a,v=.ref a/\SqT X.K H' a ((κ i).map V.int)) E0)
  (hl:SqL X.K H0 l xs) (hne:0<xs.length) (hQ:∀i x H',xs[i]?=some x->Least κ xs.length i->Same H0 H'->Q x H') (I:Inv X pins σ H0 s) :
  Ak (An X.prog X.w) X.A (call (.builtin "min") [.ref l] [(Bx "key",.ref f)]) (EP X pins σ Q) X.xe s:=by
 have nm:(toString "min" ++ toString ".loop" : String) = "min.loop":=by decide
 obtain⟨its,rv,pl,hz⟩:=I.list hl;have hlen:its.length=xs.length:=rv.length.symm;have hll:l<s.heap.objs.size:=by obtain⟨o,ho,_⟩:=pl.isList;exact Aq ho
 refine kmk_tree PySem.F.kind_min PySem.F.plain_min PySem.F.entry_min (kmk_min_key _ _) ?_
 show Ak _ X.A.in1 (Builtin.Builtins.bindParams "min" ["key","default"] 0 ⟨[],[(Bx "key",.ref f)]⟩ >>= _) _ _ s;refine Aa (wpAny_of_eq (show Builtin.Builtins.bindParams "min" ["key","default"] 0 ⟨[],[(Bx "key",.ref f)]⟩=pure [some (.ref f),none] from rfl) ?_);refine Aa (Af ?_);refine Aa (wpAny_pyIter_list pl.isList ?_);refine Aa (wpAny_newList ?_ (Bd _));rw[nm];refine Af ⟨plainId_quiet Ck _,?_⟩;have keep:∀b o,s.heap.get? b=some o->((s.heap.push { cls:=.type "list_iterator",data:=.fields #[.ref l,.int 0 0] }).push (BS "list" #[] 0)).get? b=some o:=λb o e=>Ag _ (Ag _ e)
 have gi:((s.heap.push { cls:=.type "list_iterator",data:=.fields #[.ref l,.int 0 0] }).push (BS "list" #[] 0)).get? s.heap.objs.size=some { cls:=.type "list_iterator",data:=.fields #[.ref l,.int 0 0] }:=Ag _ (At _ rfl);have hsS:(s.heap.push { cls:=.type "list_iterator",data:=.fields #[.ref l,.int 0 0] }).objs.size=s.heap.objs.size+1:=size_push' ..;have gs:((s.heap.push { cls:=.type "list_iterator",data:=.fields #[.ref l,.int 0 0] }).push (BS "list" #[] 0)).get? (s.heap.objs.size+1)=some (BS "list" #[] 0):=by rw[<- hsS];exact At _ rfl
 rw[hsS];have I1:Inv X pins σ H0 { s with heap:=(s.heap.push { cls:=.type "list_iterator",data:=.fields #[.ref l,.int 0 0] }).push (BS "list" #[] 0) }:=I.kept (t':=s.toks) keep;have fi:FpOk X pins H0 s.heap.objs.size:=I.fpOk (Ai _) (I.hok.fresh (Ai _));have fs:FpOk X pins H0 (s.heap.objs.size+1):=I.fpOk (Dz _) (I.hok.fresh (Dz _));have M0:MK0 X pins σ H0 _ s.heap.objs.size (s.heap.objs.size+1) l 0:=⟨I1,fi,fs,CC (Nat.lt_succ_self _),⟨_,gi,rfl,rfl⟩,⟨0,gs⟩⟩;have hli:l≠s.heap.objs.size:=AK hll;have W:=Walks.list (prog:=X.prog) (w:=X.w) (A:=X.A.in1) hh s.heap.objs.size l hli its.toArray;refine codeAny_builtin PySem.F.entry_min_loop ?_
 rw[Around.under_plainId Ck _];show Ak _ X.A.in1 (seqItems? (.ref _) >>= _) _ _ _;refine Aa (Cq gs rfl ?_);show Ak _ X.A.in1 (tryCatch (DU (.ref s.heap.objs.size)) _ >>= _) _ _ _;obtain⟨its2,rv2,pl2,_⟩:=I1.list hl;refine Aa (Eg (W.item 0 _ _ _ (by rw[AF,hlen];exact hne) ⟨M0.iter,pl.isList.at λo e=>keep _ _ e⟩ λv h1 tk1 hP hst1 hk1=>?_));have hv:its[0]?=some v:=by simpa using hP
 obtain⟨x,hx⟩:∃x,xs[0]?=some x:=⟨_,Ab hne⟩;obtain⟨v',hv',rx⟩:=rv.get hx;rw[hv]at hv'
 cases hv'
 have M1:MK0 X pins σ H0 { s with heap:=h1,toks:=tk1 } s.heap.objs.size (s.heap.objs.size+1) l 1:=⟨I1.moved (t':=tk1) fi hk1,fi,fs,M0.ne,hst1.1,0,hk1 _ _ (by simp) gs⟩;show Ak _ X.A.in1 (tryCatch (holding [v] (call (.ref f) [v])) _ >>= _) _ _ _;refine Aa (Eg (Bb (B3 (zj1 F hr hb M1 rx (turn 0 x H0 hx (Same.refl _)) (E:=λ_ _=>False)) (λkv s2 he=>?_) λ_ _ hF=>hF.elim)));obtain⟨y,H2,ry,⟨hS2,a2,ey,ka2⟩,M2⟩:=he;subst ey
 cases (show kv=Au a2 from ry)
 obtain⟨c2,hc2⟩:=M2.hold;show Ak _ X.A.in1 (updateSeq (s.heap.objs.size+1) (λ_=>#[v,.ref a2]) >>= _) _ _ _;refine Aa ?_
 refine D3 hc2 rfl ?_
 rw[nm];refine Af ⟨plainId_quiet Ck _,?_⟩
 exact Ek (zkq hh F hr hb turn hl hli hQ _ 0 0 H2 _ v _ a2 rfl hne hS2 M2.set hx rx ka2 (Ai _) (λj hj=>by
  have e:j=0:=by lia
  subst e;exact⟨HT.lexLt_irrefl _,λz=>absurd z (Dd _)⟩)) λr s' hr'=>hr'
end
end L2
namespace RK
open PySem PySem.W PyProof.Rows
variable {n:Nat}{ans:Nat->Nat->Bool}
noncomputable def Pm(n:Nat)(p:Array Nat):Prop:=p.Perm (List.toArray (Bk n))
inductive Col:Ac->Ac->Int->Int->Prop where
 |int (a:Int) (t:Tok) (b:Int) (u:Tok):Col (.int a t) (.int b u) a b
 |bl (p q:Bool):Col (.bool p) (.bool q) (b2i p) (b2i q)
inductive Cols:List Ac->List Ac->List Int->List Int->Prop where
 |nil:Cols [] [] [] []
 |cons {u v:Ac} {us vs:List Ac} {a b:Int} {as bs:List Int}:Col u v a b->Cols us vs as bs->Cols (u::us) (v::vs) (a::as) (b::bs)
section
variable {prog:AQ}{w:Bg}{A:AY}{s:Ae}{Q:Bool->Ae->Prop}
theorem col_eq{u v:Ac}{a b:Int}(c:Col u v a b){E:Ac->Ae->Prop}(h:Q (decide (a=b)) s):Ak (An prog w) A (eqBool u v) Q E s:=by
 cases c with
 |int _ t _ u =>
  refine wpAny_eqBool_int ?_
  rw[show (a == b)=decide (a=b) from by rw[Bool.beq_eq_decide_eq]];exact h
 |bl p q =>
  refine SeqAt.EqAt.bool_bool p q prog w E Q ?_
  have e:(p == q)=decide (b2i p=b2i q):=by cases p <;> cases q <;> decide
  rw[e];exact h
theorem zop{u v:Ac}{a b:Int}(c:Col u v a b){E:Ac->Ae->Prop}(h:Q (decide (a<b)) s):Ak (An prog w) A (oneLt' false u v) Q E s:=by
 cases c with
 |int _ t _ u=>exact kat_one _ _ (lt_int (show W.BoolBack Q (.bool (decide (a<b))) s from h))
 |bl p q=>exact kat_one _ _ (lt_bool (show W.BoolBack Q (.bool (decide (b2i p<b2i q))) s from h))
theorem zio{bb:Bool}:∀{us vs:List Ac}{as bs:List Int}(i:Nat),Cols us vs as bs->Q (HT.lexLt as bs) s->KatLex prog w A bb false Q (us.zip vs) (i+1) s
 |_,_,_,_,_,.nil,h=>kat_nil h
 |_,_,_,_,i,.cons (a:=a) (b:=b) (as:=as) (bs:=bs) c r,h=>by
  rw[HT.lexLt_cons]at h;refine kat_cons (col_eq c ?_)
  by_cases e:a=b
  .rw[decide_eq_true e];rw[if_pos e]at h;exact kat_yes (zio (i+1) r h)
  .rw[decide_eq_false e];rw[if_neg e]at h;refine kat_no ?_
   rw[show (bb && (i+1 == 0))=false by simp];exact zop c h
theorem kat_cols0{us vs:List Ac}{as bs:List Int}{a b:Int}{t u:Tok}(r:Cols us vs as bs)(h:Q (HT.lexLt (a::as) (b::bs)) s):KatLex prog w A true false Q ((DM a t::us).zip (DM b u::vs)) 0 s:=by
 rw[HT.lexLt_cons]at h;refine kat_cons (col_eq (.int a t b u) ?_)
 by_cases e:a=b
 .rw[decide_eq_true e];rw[if_pos e]at h;exact kat_yes (zio 0 r h)
 .rw[decide_eq_false e];rw[if_neg e]at h;exact kat_no (oneLt_int h)
end
end RK
namespace L2
open PySem PySem.Spec PyProof.Rows
section
variable {X:Cx}{k:Nat}{f:Addr}{fd:Cc}{ps:List Str}{sp:Sp}{pins:List (Addr×Obj)}{σ:St}{H0:Hp}{Q:VK}
theorem Inv.adopt{H:Hp}{s:Ae}{D:Addr}{o:HO}{h':Heap}{t':Nat}(I:Inv X pins σ H s)(fb:FpOk X pins H D)(hk:∀b u, b ≠ D -> s.heap.get? b=some u -> h'.get? b=some u)(heo:∃u, h'.get? D=some u)
  (new:ObjOk X.prog X.w (upd H D o) h' D o):Inv X pins σ (upd H D o) { s with heap:=h',toks:=t' }:=by
 have hn:=fb.1;have nit:∀b u,H b=some u->b≠D:=λb u e z=>by rw[z,hn]at e;cases e
 refine I.step (g':=s.gens) (d':=s.drawn) (ch:=[D]) (λb hb=>?_) (λb u _ _ hc e _=>hk b u (λz=>hc (by simp[z])) e) (λb u _ _ hc e _=>⟨u.slots,hk b u (λz=>hc (by simp[z])) e⟩)
  (λb u hc _ n=>by rw[zag (λz=>hc (by simp[z]))];exact n)
  (λb u hc e=>⟨u,hk b u (λz=>hc (by simp[z])) e⟩) (λb xs e=>by rw[zag (nit _ _ e)];exact e) (λb u xs e=>by rw[zag (nit _ _ e)];exact e) (λb ps e=>⟨#[],by rw[zag (nit _ _ e),e];simp⟩) (λm hm=>?_) (λb u e=>?_) I.bare
 .have e:b=D:=by simpa using hb
  subst e;exact⟨fb.2.2.2.1,fb.2.1,fb.2.2.2.2.1,fb.2.2.2.2.2⟩
 .obtain⟨u,es,ep,ho,r⟩:=hm;exact⟨u,es,ep,hk _ u (Cj fb.2.1) ho,r⟩
 .by_cases hb:b=D
  .subst hb;rw[zaa]at e;cases e;exact new
  .rw[zag hb]at e;refine (I.hok b u e).stay (λc v hc q=>hk c v ?_ q) (λc q=>by rw[zag (nit _ _ q)];exact q) λc xs q=>by rw[zag (nit _ _ q)];exact q
   rcases hc with z |z
   .rw[z];exact nit b u e
   .exact nit c _ z
theorem zmR{H:Hp}{s:Ae}{Q:VK}{us:List Ac}{vs:List V}{E:Ac -> Ae -> Prop}(F:FnOk X.prog X.w X.K X.mg X.base CX0 k f fd ps sp)(hr:Room (k + 1 + 1) X.A)(hb:Binds X.K fd ps [])
  (I:Inv X pins σ H s) (r:Vals vs us) (h:sp vs H Q E0):Ak (An X.prog X.w) X.A.in1.in1 (call (.ref f) us) (EP X pins σ Q) E s:=by
 have hl:(us++[]).length=ps.length:=by rw[BJ,<- r.length];exact F.len _ _ _ _ h
 have hb':=hb s us I.kIn hl;rw[BJ]at hb';refine wpAny_call (Ek (F.run X.A.in1.in1 X.stack s H ⟨us,[]⟩ us vs Q E0 hr.in1.in1 I.env0.in1.in1 hb' r h) λr s' hq=>?_)
 cases r with
 |error e=>exact BD hq
 |ok fl =>
  cases fl with
  |ret u=>exact I.after hq
  |next=>exact BD hq
  |brk=>exact BD hq
  |cont=>exact BD hq
noncomputable def zhg(X:Cx)(σ:St)(H0:Hp)(f:Addr)(xs:List V)(κV:Nat->List V):Prop:=∀(pins:List (Addr×Obj)) (i:Nat) (x:V) (u:Ac) (H:Hp) (s:Ae),xs[i]?=some x->Same H0 H->Inv X pins σ H s->RelV x u ->
 Ak (An X.prog X.w) X.A.in1.in1 (call (.ref f) [u]) (EP X pins σ λv H'=>Same H H'/\∃a,v=.ref a/\SqT X.K H' a (κV i)) (λ_ _=>False) s
theorem zog{xs:List V}{κV:Nat -> List V}(F:FnOk X.prog X.w X.K X.mg X.base CX0 k f fd ps sp)(hr:Room (k + 1 + 1) X.A)(hb:Binds X.K fd ps [])
  (turn:∀i x H,xs[i]?=some x->Same H0 H->sp [x] H (λv H'=>Same H H'/\∃a,v=.ref a/\SqT X.K H' a (κV i)) E0):zhg X σ H0 f xs κV :=
 λ_ i x _ H _ hx hS I ru=>zmR F hr hb I (.cons ru .nil) (turn i x H hx hS)
inductive VCol:V->V->Int->Int->Prop where
 |int (a b:Int):VCol (.int a) (.int b) a b
 |bl (p q:Bool):VCol (.bl p) (.bl q) (b2i p) (b2i q)
inductive VCols:List V->List V->List Int->List Int->Prop where
 |nil:VCols [] [] [] []
 |cons {x y:V} {xs ys:List V} {a b:Int} {as bs:List Int}:VCol x y a b->VCols xs ys as bs->VCols (x::xs) (y::ys) (a::as) (b::bs)
theorem VCols.vals:∀{xs ys:List V}{as bs:List Int}{us vs:List Ac},VCols xs ys as bs->Vals xs us->Vals ys vs->RK.Cols us vs as bs
  |_,_,_,_,_,_,.nil,.nil,.nil=>.nil
  |_, _, _, _, _, _, .cons c r, .cons h t, .cons g q => .cons (by
      cases c with
      |int a b=>obtain⟨t,rfl⟩:=h;obtain⟨u,rfl⟩:=g;exact .int _ _ _ _
      |bl p q=>cases h;cases g;exact .bl _ _) (r.vals t q)
structure SK (X:Cx) (pins:List (Addr×Obj)) (σ:St) (H:Hp) (s:Ae) (D st:Addr) (e:Nat) (κV:Nat->List V) (ks:List Addr):Prop where
 inv:Inv X pins σ H s
 fd:FpOk X pins H D
 fs:FpOk X pins H st
 ne:st≠D
 hd:s.heap.get? D=some (BS "list" #[] e)
 hs:∃c,s.heap.get? st=some (BS "list" (ks.map Au).toArray c)
 hk:∀i a,ks[i]?=some a->SqT X.K H a (κV i)
theorem zit{M:Model}{A:AY}{E:Ac -> Ae -> Prop}{body:Ac -> PUnit -> Sem (ForInStep PUnit)}{vs:List Ac}(P:Nat -> Ae -> Prop)
  (hb:∀i x s,vs[i]?=some x->P i s->Ak M A (body x ⟨⟩) (λr s'=>r=.yield ⟨⟩/\P (i+1) s') E s):∀(r:List Ac) (i:Nat) (s:Ae),vs.drop i=r->i<=vs.length->P i s ->
   Ak M A (forIn r PUnit.unit body) (λ_ s'=>P vs.length s') E s
 |[],i,s,hr,hi,h=>by
  rw[List.forIn_nil];have:vs.length<=i:=List.drop_eq_nil_iff.mp hr;exact Af (by rw[show vs.length=i by lia];exact h)
 |x::r,i,s,hr,hi,h=>by
  have hx:vs[i]?=some x:=by have:=congrArg (·[0]?) hr;simpa using this
  have hlt:i<vs.length:=(Ad.mp hx).1;have hr':vs.drop (i+1)=r:=by rw[<- List.tail_drop,hr];rfl
  rw[Dt];refine Aa (B3 (hb i x s hx h) (λq s' hq=>?_) λ_ _ e=>e);obtain⟨rfl,h'⟩:=hq;exact zit P hb r (i+1) s' hr' hlt h'
end
section
variable {X:Cx}{pins:List (Addr×Obj)}{σ:St}{H:Hp}{s:Ae}{D st:Addr}{e:Nat}{κV:Nat->List V}{ks:List Addr}{E:Ac->Ae->Prop}
noncomputable def ziL(X:Cx)(G:Array Nat->Prop)(ks vs:List Ac)(E:Ac->Ae->Prop)(s:Ae):Prop :=
 Ak (An X.prog X.w) X.A.in1.in1 (keyKind' ks.toArray) (λκ s0=>s0=s /\
  Ak (An X.prog X.w) X.A.in1.in1 ((sortRuns').run (SortSt.mk' κ (ks.toArray.zip vs.toArray) #[] 7 none)) (λr s'=>s'=s/\CW r.2=none/\∃p:Array Nat,G p/\p.size=vs.length/\AB r.2=p.map (Eh (ks.toArray.zip vs.toArray))) E s) E s
theorem zkE{as:List Addr}(I:Inv X pins σ H s):∀{ks:List Addr}{vs:List (List V)}{ns:List Int}, (∀(i:Nat) (a:Addr), ks[i]? = some a -> ∃n r, ns[i]? = some n /\ SqT X.K H a (.int n :: r)) -> ns.length=ks.length ->
  ∃fs:List Ac,W.KatTups s.heap (ks.map Au) fs/\fs.length=ks.length/\∀v∈fs,∃n t,v=DM n t
 |[],_,_,_,_=>⟨[],.nil,rfl,λ_ h=>nomatch h⟩
 |a::r,vs,[],_,h=>by cases h
 |a::r,vs,n::ns,hk,h=>by
  obtain⟨m,q,e1,hq⟩:=hk 0 a rfl;obtain⟨fs,t,hl,hi⟩:=zkE (as:=as) (vs:=vs) I (ks:=r) (ns:=ns) (λi b hb=>by simpa using hk (i+1) b (by simpa using hb)) (by simpa using h);obtain⟨its,rv,⟨o,ho,hc,c,hd⟩,_⟩:=I.tuple hq
  cases rv with
  |cons rx rr =>
   obtain⟨t1,rfl⟩:=rx;refine⟨DM m t1::fs,.cons ho hc hd (by simp) t,by simp[hl],λv hv=>?_⟩;rcases Ax.mp hv with rfl |hv
   .exact⟨_,_,rfl⟩
   .exact hi v hv
end
section
variable {X:Cx}{k:Nat}{f:Addr}{fd:Cc}{ps:List Str}{sp:Sp}{pins:List (Addr×Obj)}{σ:St}{H0 H:Hp}{s:Ae}{D st l:Addr}{e:Nat}{κV:Nat->List V}{ks:List Addr}{E:Ac->Ae->Prop}{G:Array Nat->Prop}{xs:List V}{vs:List Ac}{Q:VK}
noncomputable def outV(xs:List V)(p:Array Nat):List V:=p.toList.map λi=>xs.getD i .non
theorem zjv{xs:List V}{vs:List Ac}(r:Vals xs vs)(i:Nat)(hi:i<xs.length):RelV (xs.getD i .non) (vs.getD i B8):=by
 have hx:xs[i]?=some xs[i]:=by simp[hi]
 obtain⟨u,hu,ru⟩:=r.get hx;rw[A8,hx,A8,hu];exact ru
theorem zhX{xs:List V}{vs:List Ac}(r:Vals xs vs):∀(l:List Nat),(∀i∈l,i<xs.length)->Vals (l.map λi=>xs.getD i .non) (l.map λi=>vs.getD i B8)
 |[],_=>.nil
 |i::t,h=>.cons (zjv r i (h i Ap)) (zhX r t λj hj=>h j (As _ hj))
theorem zhz{p:Array Nat}:(outV xs p).length=p.size:=by unfold outV;simp
theorem zmN{P:PySem.Fin -> Ae -> Prop}{so:AR}{out:List Ac}{ys:List V}(K:SK X pins σ H s D st e κV ks)(hks:ks.length <= sizeLine)(ho:(AB so).map (·.2)=out.toArray)(ry:Vals ys out)(hz:ys.length <= sizeLine)(hf:CW so=none)
  (h:∀s',Inv X pins σ (upd H D (.lst ys)) s'->P (.done (.ret .none)) s'):Ak (An X.prog X.w) X.A.in1.in1 (ksk_tail D false e (.ref st) so) P E s:=by
 obtain⟨c,hc⟩:=K.hs;have hzo:out.length<=sizeLine:=by rw[<- ry.length];exact hz
 have s1:=BB s.heap st (A7 λ_=>(#[]:Array Ac));have hd1:(s.heap.update st (A7 λ_=>(#[]:Array Ac))).get? D=some (BS "list" #[] e):=(s1.2 D K.ne.symm).trans K.hd;have s2:=BB (s.heap.update st (A7 λ_=>(#[]:Array Ac))) D (A7 λ_=>out.toArray);obtain⟨c2,hc2⟩:∃c2,((s.heap.update st (A7 λ_=>(#[]:Array Ac))).update D (A7 λ_=>out.toArray)).get? D=some (BS "list" out.toArray c2):=⟨_,EJ hd1 λ_=>out.toArray⟩;unfold ksk_tail
 try dsimp only
 rw[ho];refine Aa (listUpdate_at hc rfl ?_ (by simpa using hks) (Bd _));refine Aa (Dh ?_);refine Aa (seqEpoch_at hd1 rfl ?_);simp only[Bn,if_false];refine Aa (listUpdate_at hd1 rfl ?_ (Bd _) (by simp;lia));rw[hf];simp only[bne_self_eq_false,Bn,if_false];refine Af (h _ ?_);have I1:Inv X pins σ H { s with heap:=s.heap.update st (A7 λ_=>(#[]:Array Ac)) }:=K.inv.moved (t':=s.toks) K.fs (λb o hb e=>(s1.2 b λz=>hb (by simp[z])).trans e);exact I1.adopt (t':=s.toks) K.fd (λb u hb q=>(s2.2 b hb).trans q) ⟨_,hc2⟩ ⟨hz,out,c2,ry,hc2⟩
theorem znM{P:PySem.Fin -> Ae -> Prop}(K:SK X pins σ H s D st e κV ks)(hl:ks.length=vs.length)(r:Vals xs vs)(hz:xs.length <= sizeLine)(hG:∀p, G p -> ∀i ∈ p.toList, i < xs.length)
  (h0:vs.length<2->G (List.toArray (Bk vs.length))) (core:2<=vs.length->ziL X G (ks.map Au) vs E s)
  (h:∀p s',G p->p.size=xs.length->Inv X pins σ (upd H D (.lst (outV xs p))) s'->P (.done (.ret .none)) s'):Ak (An X.prog X.w) X.A.in1.in1 (ksk_end D false vs.toArray e (.ref st) (ks.map Au).toArray) P E s:=by
 have hlx:xs.length=vs.length:=r.length;have hl':(ks.map Au).length=vs.length:=by simp[hl]
 have fin:∀(p:Array Nat) (so:AR),G p->p.size=vs.length->AB so=p.map (Eh ((ks.map Au).toArray.zip vs.toArray))->CW so=none->Ak (An X.prog X.w) X.A.in1.in1 (ksk_tail D false e (.ref st) so) P E s:=λp so g hp ha hf =>
  zmN K (by lia) (W.kat_snds hl' ha) (ys:=outV xs p) (zhX r _ (hG p g)) (by rw[zhz];lia) hf λs' I'=>h p s' g (by lia) I'
 unfold ksk_end
 try dsimp only
 simp only[Bn,if_false]
 by_cases h2:vs.length<2
 .have h2':vs.toArray.size<2:=by simpa using h2
  rw[if_pos h2',if_pos h2'];refine Aa (Af ?_);show Ak (An X.prog X.w) X.A.in1.in1 (pure ((),SortSt.mk' general' ((ks.map Au).toArray.zip vs.toArray) #[] 7 none) >>= _) P E s;refine Aa (Af ?_)
  try dsimp only
  refine fin (List.toArray (Bk vs.length)) _ (h0 h2) (by simp) ?_ rfl;have:=W.kas_range ((ks.map Au).toArray.zip vs.toArray);rw[show ((ks.map Au).toArray.zip vs.toArray).size=vs.length by simp[hl]]at this;exact this.symm
 .have h2':¬ vs.toArray.size<2:=by simpa using h2
  rw[if_neg h2',if_neg h2'];refine Aa (B3 (core (by lia)) (λκ s0 hk=>?_) λ_ _ z=>z);obtain⟨rfl,hk⟩:=hk;refine Aa (B3 hk (λr' s' hr=>?_) λ_ _ z=>z);obtain⟨rfl,hf,p,g,hp,ha⟩:=hr;obtain⟨⟨⟩,so⟩:=r'
  try dsimp only
  exact fin p so g hp ha hf
theorem zmO{P:PySem.Fin -> Ae -> Prop}(F:zhg X σ H0 f xs κV)
    (K:SK X pins σ H0 s D st e κV []) (r:Vals xs vs) (hz:xs.length<=sizeLine)
    (h:∀H' s' ks,ks.length=vs.length->Same H0 H'->SK X pins σ H' s' D st e κV ks->Ak (An X.prog X.w) X.A.in1.in1 (ksk_end D false vs.toArray e (.ref st) (ks.map Au).toArray) P E s') :
    Ak (An X.prog X.w) X.A.in1.in1 (ksk_rest D (.ref f) false vs.toArray e (.ref st)) P E s:=by
  have hlx:xs.length=vs.length:=r.length;unfold ksk_rest;refine Aa (B9 ?_);rw[List.forIn_toArray];refine Aa (B3 (zit (vs:=vs) (λi s'=>∃H' ks,ks.length=i/\Same H0 H'/\SK X pins σ H' s' D st e κV ks) (λi x s1 hx hP=>?_) vs 0 s rfl (Bd _) ⟨H0,[],rfl,Same.refl _,K⟩) (λ_ s' hd=>?_) λ_ _ z=>z)
  . obtain⟨H1,ks,hkl,hS,K1⟩:=hP;have hi:i<xs.length:=by rw[hlx];exact (Ad.mp hx).1
    have hxx:xs[i]?=some xs[i]:=by simp[hi]
    obtain⟨u,hu,ru⟩:=r.get hxx;rw[hx]at hu
    cases hu
    obtain⟨c,hc⟩:=K1.hs
    have I1:Inv X (pins ++ zdK [D, st] s1.heap) σ H1 s1 := K1.inv.pinned (λb hb => by
        rcases Ax.mp hb with rfl |hb
        . exact K1.fd
        . rw[Am.mp hb];exact K1.fs) (λb hb=>by
        rcases Ax.mp hb with rfl |hb
        . exact⟨_,K1.hd,zcI⟩
        . rw[Am.mp hb];exact⟨_,hc,zcI⟩)
    refine Aa (DI (B3 (F _ i _ _ H1 _ hxx hS I1 ru) (λv s2 hv=>?_) λ_ _ hF=>hF.elim));obtain⟨y,H2,I2,ry,hS2,a,ey,ka⟩:=hv;subst ey
    cases (show v=Au a from ry)
    have p1:=I2.pin (D,BS "list" #[] e) (Aw _ (Aw _ (zaS (by simp) K1.hd)));have p2:=I2.pin (st,BS "list" (ks.map Au).toArray c) (Aw _ (Aw _ (zaS (by simp) hc)));have sb:=BB s2.heap st (A7 (·.push (Au a)));have ea:(ks.map Au).toArray.push (Au a)=((ks++[a]).map Au).toArray:=by simp
    obtain⟨c2,hc2⟩:∃c2,(s2.heap.update st (A7 (·.push (Au a)))).get? st=some (BS "list" ((ks++[a]).map Au).toArray c2):=⟨_,by rw[<- ea];exact EJ p2.1 (·.push (Au a))⟩
    try dsimp only
    refine Aa (listUpdate_at p2.1 rfl ?_ (by simp;lia) (by simp;lia));refine Af ⟨rfl,H2,ks++[a],by simp[hkl],hS.trans hS2,I2.unpinned.moved (t':=s2.toks) (K1.fs.again p2.2.1) (λb o hb e=>(sb.2 b λz=>hb (by simp[z])).trans e),K1.fd.again p1.2.1,K1.fs.again p2.2.1,K1.ne,(sb.2 D K1.ne.symm).trans p1.1,⟨c2,hc2⟩,λj b hj=>?_⟩;rcases A6 j ks.length with hjl |hjl
    . rw[AH hjl]at hj;exact hS2.seqT (K1.hk j b hj)
    . rw[AW hjl]at hj
      have hj0:j-ks.length=0:=by have:=(Ad.mp hj).1;simp at this;lia
      rw[hj0]at hj
      cases A9 hj
      rw[show j=i by lia];exact ka
  . obtain⟨H',ks,hkl,hS,K'⟩:=hd;obtain⟨c,hc⟩:=K'.hs
    try dsimp only
    refine Aa (listItems_at hc rfl ?_);exact h H' s' ks hkl hS K'
theorem zmM{P:PySem.Fin -> Ae -> Prop}{c0:Nat}(F:zhg X σ H0 f xs κV)
  (I:Inv X pins σ H0 s) (fb:FpOk X pins H0 D) (hd:s.heap.get? D=some (BS "list" vs.toArray c0)) (r:Vals xs vs) (hz:xs.length<=sizeLine)
  (h:∀e H' s' ks st,ks.length=vs.length->Same H0 H'->SK X pins σ H' s' D st e κV ks->Ak (An X.prog X.w) X.A.in1.in1 (ksk_end D false vs.toArray e (.ref st) (ks.map Au).toArray) P E s') :
  Ak (An X.prog X.w) X.A.in1.in1 (ksk_tree D (.ref f) false) P E s:=by
 have hlx:xs.length=vs.length:=r.length;have s1:=BB s.heap D (A7 λ_=>(#[]:Array Ac));obtain⟨e1,ho1⟩:∃e1,(s.heap.update D (A7 λ_=>(#[]:Array Ac))).get? D=some (BS "list" #[] e1):=⟨_,EJ hd λ_=>#[]⟩;have hDl:D<s.heap.objs.size:=Aq hd;unfold ksk_tree;refine Aa (listItems_at hd rfl ?_);refine Aa (listUpdate_at hd rfl ?_ (by simp;lia) (Bd _));refine Aa (seqEpoch_at ho1 rfl ?_);refine Aa (wpAny_newTuple ?_ (by simp;lia));refine Aa (wpAny_newList ?_ (Bd _));refine Bb ?_
 have I1:Inv X pins σ H0 { s with heap:=s.heap.update D (A7 λ_=>(#[]:Array Ac)) }:=I.moved (t':=s.toks) fb (λb o hb e=>(s1.2 b λz=>hb (by simp[z])).trans e);have keep:∀b o,(s.heap.update D (A7 λ_=>(#[]:Array Ac))).get? b=some o->(((s.heap.update D (A7 λ_=>(#[]:Array Ac))).push (BS "tuple" vs.toArray.toList.toArray 0)).push (BS "list" #[] 0)).get? b=some o:=λb o q=>Ag _ (Ag _ q)
 have hsz:((s.heap.update D (A7 λ_=>(#[]:Array Ac))).push (BS "tuple" vs.toArray.toList.toArray 0)).objs.size=s.heap.objs.size+1:=by rw[size_push',Heap.size_update]
 have I2:Inv X pins σ H0 { s with heap:=((s.heap.update D (A7 λ_=>(#[]:Array Ac))).push (BS "tuple" vs.toArray.toList.toArray 0)).push (BS "list" #[] 0) }:=I1.kept (t':=s.toks) keep;show Ak (An X.prog X.w) X.A.in1.in1 (ksk_rest D (.ref f) false vs.toArray _ (.ref ((s.heap.update D (A7 λ_=>(#[]:Array Ac))).push (BS "tuple" vs.toArray.toList.toArray 0)).objs.size)) P E { s with heap:=((s.heap.update D (A7 λ_=>(#[]:Array Ac))).push (BS "tuple" vs.toArray.toList.toArray 0)).push (BS "list" #[] 0) };rw[hsz];have hss:(((s.heap.update D (A7 λ_=>(#[]:Array Ac))).push (BS "tuple" vs.toArray.toList.toArray 0)).push (BS "list" #[] 0)).get? (s.heap.objs.size+1)=some (BS "list" #[] 0):=by rw[<- hsz];exact At _ rfl
 exact zmO F ⟨I2,fb,I.fpOk (Dz _) (I.hok.fresh (Dz _)),CC (Nat.lt_succ_of_lt hDl),keep _ _ ho1,⟨0,by simpa using hss⟩,λi a ha=>by simp at ha⟩ r hz λH' s' ks a b c=>h _ H' s' ks _ a b c
end
section
variable {X:Cx}{k:Nat}{f:Addr}{fd:Cc}{ps:List Str}{sp:Sp}{pins:List (Addr×Obj)}{σ:St}{H0:Hp}{s:Ae}{l:Addr}{κV:Nat->List V}{G:Array Nat->Prop}{xs:List V}{Q:VK}
theorem zff(F:zhg X σ H0 f xs κV)
  (hl:SqL X.K H0 l xs) (hG:∀p,G p->∀i∈p.toList,i<xs.length) (h0:xs.length<2->G (List.toArray (Bk xs.length)))
  (core:∀{vs:List Ac} {ks:List Addr} {H':Hp} {s':Ae} {D st:Addr} {e:Nat},Vals xs vs->SK X pins σ H' s' D st e κV ks->ks.length=vs.length->2<=vs.length->ziL X G (ks.map Au) vs X.xe s')
  (hQ:∀p D H',G p->p.size=xs.length->H0 D=none->Same H0 H'->H' D=some (.lst (outV xs p))->Q (.ref D) H') (I:Inv X pins σ H0 s) :
  Ak (An X.prog X.w) X.A (call (.builtin "sorted") [.ref l] [(Bx "key",.ref f)]) (EP X pins σ Q) X.xe s:=by
 obtain⟨vs,r,pl,hz⟩:=I.list hl;have hlx:xs.length=vs.length:=r.length;refine call_function_entry_kw kind_sorted plain_sorted entry_sorted (ksk_s1 _ _) ?_
 unfold DL.«sorted»;refine Aa (m:=checkCount "sorted" 1 1 _) (Af ?_);refine Aa (collect_list pl.isList ?_ (by first |lia | (rw[AF];lia) | (simp;lia)));refine Aa (wpAny_newList ?_ (by first |lia | (rw[AF];lia) | (simp;lia)));have hsz:((s.heap.push (BS "list" #[] 0)).update s.heap.objs.size (A7 (·++vs.toArray))).objs.size=s.heap.objs.size+1:=by rw[Heap.size_update,size_push']
 have hoL:(((s.heap.push (BS "list" #[] 0)).update s.heap.objs.size (A7 (·++vs.toArray))).push (BS "list" vs.toArray 0)).get? (s.heap.objs.size+1)=some (BS "list" vs.toArray 0):=by rw[<- hsz];exact At _ rfl
 have keep:∀b o,s.heap.get? b=some o->(((s.heap.push (BS "list" #[] 0)).update s.heap.objs.size (A7 (·++vs.toArray))).push (BS "list" vs.toArray 0)).get? b=some o:=λb o q=>by have hlt:b<s.heap.objs.size:=Aq q;rw[Heap.get?_push_ne _ _ _ (by rw[hsz];exact AK (Nat.lt_succ_of_lt hlt)),Heap.get?_update_ne _ _ _ _ (AK hlt),Heap.get?_push_ne _ _ _ (AK hlt)];exact q
 show Ak _ _ _ _ _ { s with heap:=((s.heap.push (BS "list" #[] 0)).update s.heap.objs.size (A7 (·++vs.toArray))).push (BS "list" vs.toArray 0) };rw[hsz];refine Aa (Bb (wpAny_call_entry_kw slot_list_sort ⟨_,hoL,rfl⟩ entry_list_sort ?body (ksk_l1 _ _)))
 case body =>
  show Ak (An X.prog X.w) X.A.in1.in1 (DL.«list.sort» ⟨[.ref (s.heap.objs.size+1)],[(Bx "key",.ref f)]⟩) _ _ _;rw[ksk_t1];have I1:Inv X pins σ H0 { s with heap:=((s.heap.push (BS "list" #[] 0)).update s.heap.objs.size (A7 (·++vs.toArray))).push (BS "list" vs.toArray 0) }:=I.kept (t':=s.toks) keep;have hDn:H0 (s.heap.objs.size+1)=none:=I.hok.fresh (Dz _);refine zmM F I1 (I.fpOk (Dz _) hDn) hoL r hz λe H' s' ks st hks hS K=>?_
  refine znM K hks r hz hG (λh2=>by rw[<- hlx];exact h0 (by lia)) (core r K hks) λp s2 g hp I2=>⟨_,rfl,?_⟩
  refine Af ⟨_,rfl,.ref (s.heap.objs.size+1),_,I2,rfl,hQ p _ _ g hp hDn (λb o q=>?_) zaa⟩;rw[zag (zam q hDn)];exact hS b o q
end
section
variable {X:Cx}{x:Str}{p pos kp kpos:Pos}{e:Expr}{te:TE}{k:Nat}{f:Addr}{fd:Cc}{ps:List Str}{sp:Sp}{fn:Str}
noncomputable def tMinK(K:W.Frag)(te:TE)(sp:Sp):TE:=λσ H Q=>te σ H λv H1=>∃l xs,∃ κ:Nat->List Int,[v]=[V.ref l]/\SqL K H1 l xs/\0<xs.length /\
 (∀i x H2,xs[i]?=some x->Same H1 H2->sp [x] H2 (λv H'=>Same H2 H'/\∃a,v=.ref a/\SqT K H' a ((κ i).map V.int)) E0)/\∀i x H',xs[i]?=some x->Least κ xs.length i->Same H1 H'->Q x H'
theorem zmY (F:FnOk X.prog X.w X.K X.mg X.base CX0 k f fd ps sp) (hr:Room (k + 1) X.A) (hb:Binds X.K fd ps []) (hg:Gl X "min") (hm:X.mg "min" = none) (hgf:Gl X fn) (hmf:X.mg fn=some (.ref f)) (he:PE X e te)
  (hdb:(fn == ("__debug__" : Str))=false:=by decide) (hse:Bh [e] X.env=[(false,eval e X.env)]:=by rfl) (hh:X.calm=true:=by rfl)
  (hall:(DN pos (Cz [⟨some "key",.Name fn kp,kpos⟩] X.env)).all (·.1.isSome)=true:=by rfl) (hkw:(DN pos (Cz [⟨some "key",.Name fn kp,kpos⟩] X.env)).any (·.1.isNone)=false:=by rfl)
  (hks:(DN pos (Cz [⟨some "key",.Name fn kp,kpos⟩] X.env)).filterMap (·.1)=[Bx "key"]:=by rfl) :
  PE X (.Call (.Name "min" p) [e] [⟨some "key",.Name fn kp,kpos⟩] pos) (tMinK X.K te sp):=by
 intro pins s σ H Q I h;refine Cw (zck I hg hm boot_min ?_ (by decide) (by decide))
 refine callWith_kw (thn (zai he zab (hs:=hse) pos pins s σ H (λvs H1=>∃l xs,∃ κ:Nat->List Int,vs=[V.ref l]/\SqL X.K H1 l xs/\0<xs.length /\
  (∀i x H2,xs[i]?=some x->Same H1 H2->sp [x] H2 (λv H'=>Same H2 H'/\∃a,v=.ref a/\SqT X.K H' a ((κ i).map V.int)) E0)/\∀i x H',xs[i]?=some x->Least κ xs.length i->Same H1 H'->Q x H') I ?_) λus s1 ⟨vs,H1,I1,r,q⟩=>?_) (by rw[hse];rfl) (by rw[hse];rfl) hall hkw
 .show te σ H _;exact h
 .obtain⟨l,xs,κ,rfl,hq,hne,turn,hQ⟩:=q;obtain⟨u,rfl,ru⟩:=Vals.one r
  cases (show u=Au l from ru)
  refine thn (zhy (nm:=some "key") (kpos:=kpos) (zdy (v:=.ref f) hgf hmf rfl hdb) zj9 pos pins s1 σ H1 (λzs H2=>zs=[.ref f]/\H2=H1) I1 ⟨rfl,rfl⟩) λws s2 ⟨zs,H2,I2,rz,q2⟩=>?_
  obtain⟨rfl,rfl⟩:=q2;obtain⟨u2,rfl,ru2⟩:=Vals.one rz
  cases (show u2=Au f from ru2)
  rw[hks];exact zk8 (I1.ok.hd hh) F hr hb turn hq hne hQ I2
end
end L2
namespace TS
open PySem PyProof.Rows
noncomputable def zcc:Bool->Keyed->Array Keyed->Nat->Nat->Nat->StateT AR Sem (Option Nat):=sortPriv% PySem.Builtin.gallop
noncomputable def zfT:Array Keyed->Array Keyed->StateT AR Sem (Array Keyed):=sortPriv% PySem.Builtin.mergeLo
noncomputable def zfU:Array Keyed->Array Keyed->StateT AR Sem (Array Keyed):=sortPriv% PySem.Builtin.mergeHi
structure LtOk (M:Model) (A:AY) (E:Ac->Ae->Prop) (s:Ae) (kd:Dl) (S:Keyed->Prop) (L:Keyed->Keyed->Bool):Prop where
 lt:∀x y,S x->S y->∀(st:AR) (Q:Option Bool->AR->Prop),kindOf st=kd->Q (some (L x y)) st->wpS M A E s (lt' x y) Q st
 tr:∀x y z,S x->S y->S z->L y x=false->L z y=false->L z x=false
 as:∀x y,S x->S y->L x y=true->L y x=false
section
variable {M:Model}{A:AY}{E:Ac->Ae->Prop}{s:Ae}{kd:Dl}{S:Keyed->Prop}{L:Keyed->Keyed->Bool}
theorem zav{arr:Array Keyed}{i:Nat}{x:Keyed}{st:AR}{Q:Keyed->AR->Prop}(h:arr[i]?=some x)(q:Q x st):wpS M A E s (elem' arr i) Q st:=by rw[elem'_eq,h];exact Az q
theorem zbr (O : LtOk M A E s kd S L){left : Bool}{key : Keyed}{arr : Array Keyed}{base n hint : Nat}{b : Nat → Bool}{Q : Option Nat → AR → Prop}{st : AR}(hk : kindOf st = kd) (hS : S key)
    (hb:∀ i,i<n→∃ x,arr[base+i]?=some x∧S x∧(if left=true then L x key else !L key x)=b i) (mono:∀ i j,i≤j→j<n→b j=true→b i=true) (hh:hint<n)
    (hQ:∀ k,k≤n→(∀ i,i<k→b i=true)→(∀ i,k≤i→i<n→b i=false)→Q (some k) st):wpS M A E s (zcc left key arr base n hint) Q st:=by
  have bey : ∀ i, i < n → ∀ (Q' : Option Bool → AR → Prop), Q' (some (b i)) st → wpS M A E s ((λi => do
        let x ← elem' arr (base+i)
        if left=true then lt' x key
          else do
            let r ← lt' key x
            pure (Option.map (λx=>!x) r)) i) Q' st:=λi hi Q' q=>by
    obtain⟨x,e,sx,eb⟩:=hb i hi
    refine Ao (zav e ?_)
    cases left with
    | true =>
      rw[if_pos rfl] at eb ⊢
      exact O.lt x key sx hS st Q' hk (by rw[eb];exact q)
    | false =>
      rw[if_neg (by simp)] at eb ⊢
      refine Ao (O.lt key x hS sx st _ hk (Az ?_))
      show Q' (some (!L key x)) st
      rw[eb];exact q
  refine Ao (bey hint hh _ ?_)
  dsimp only
  cases hbh:b hint with
  | true =>
    rw[if_pos rfl]
    refine Ao (CM (BN (I:=λx c st'=>st'=st∧∃ la of,c=(none,la,of)∧la<n - hint∧la<of∧x+1≤of∧b (hint+la)=true)
      (Q:=λc st'=>st'=st∧∃ la of,c=(none,la,of)∧la<n - hint∧la<of∧b (hint+la)=true∧(of<n - hint→b (hint+of)=false)) ?_ ?_ ⟨rfl,0,1,rfl,by lia,by lia,by lia,hbh⟩) ?_)
    . rintro x c st' _ hx ⟨rfl,la,of,rfl,g1,g2,g3,g4⟩
      dsimp only
      by_cases hge:of ≥ n - hint
      . rw[if_pos hge]
        exact Az ⟨rfl,la,of,rfl,g1,g2,g4,λz=>absurd z (by lia)⟩
      . rw[if_neg hge]
        refine Ao (bey (hint+of) (by lia) _ ?_)
        dsimp only
        cases hbo:b (hint+of) with
        | true =>
          rw[if_neg (by simp)]
          exact Az ⟨rfl,of,2*of+1,rfl,by lia,by lia,by lia,hbo⟩
        | false =>
          rw[if_pos (by simp)]
          exact Az ⟨rfl,la,of,rfl,g1,g2,g4,λ_=>hbo⟩
    . rintro c st' ⟨rfl,la,of,rfl,g1,g2,g3,g4⟩
      exact⟨rfl,la,of,rfl,g1,g2,g4,λz=>absurd z (by simp at g3;lia)⟩
    . rintro c st' ⟨rfl,la,of,rfl,g1,g2,g3,g4⟩
      dsimp only
      have hlo:∀ i,i<hint+la+1→b i=true:=λi hi=>mono i (hint+la) (by lia) (by lia) g3
      have hhi:∀ i,hint+min of (n - hint)≤i→i<n→b i=false:=λi h1 h2=>by
        by_cases ho:of<n - hint
        . cases q:b i with
          | false=>rfl
          | true =>
            have:=mono (hint+of) i (by lia) h2 q
            rw[g4 ho] at this;cases this
        . exact absurd h2 (by lia)
      refine Ao (CM (BN (I:=λx c z=>z=st'∧∃ lo hi,c=(none,lo,hi)∧lo≤hi∧hi≤n∧(hi - lo)+x≤n∧(∀ i,i<lo→b i=true)∧∀ i,hi≤i→i<n→b i=false)
        (Q:=λc z=>z=st'∧∃ k,c=(none,k,k)∧k≤n∧(∀ i,i<k→b i=true)∧∀ i,k≤i→i<n→b i=false) ?_ ?_ ⟨rfl,hint+la+1,hint+min of (n - hint),rfl,by lia,by lia,by lia,hlo,hhi⟩) ?_)
      . rintro x c st'' _ hx ⟨rfl,lo,hi,rfl,g1,g2,g3,g4,g5⟩
        dsimp only
        by_cases hge:lo ≥ hi
        . rw[if_pos hge]
          have e:lo=hi:=by lia
          subst e
          exact Az ⟨rfl,lo,rfl,g2,g4,g5⟩
        . rw[if_neg hge]
          have hm:lo+(hi - lo) / 2<n:=by lia
          refine Ao (bey _ hm _ ?_)
          dsimp only
          cases hbm:b (lo+(hi - lo) / 2) with
          | true =>
            rw[if_pos rfl]
            refine Az ⟨rfl,_,_,rfl,by lia,g2,by lia,λi hi'=>?_,g5⟩
            exact mono i _ (by lia) hm hbm
          | false =>
            rw[if_neg (by simp)]
            refine Az ⟨rfl,_,_,rfl,by lia,by lia,by lia,g4,λi hi1 hi2=>?_⟩
            cases q:b i with
            | false=>rfl
            | true=>rw[mono _ i hi1 hi2 q] at hbm;cases hbm
      . rintro c st'' ⟨rfl,lo,hi,rfl,g1,g2,g3,g4,g5⟩
        have e:lo=hi:=by simp at g3;lia
        subst e
        exact⟨rfl,lo,rfl,g2,g4,g5⟩
      . rintro c st'' ⟨rfl,k,rfl,g1,g2,g3⟩
        exact Az (hQ k g1 g2 g3)
  | false =>
    rw[if_neg (by simp)]
    refine Ao (CM (BN (I:=λx c st'=>st'=st∧∃ la of,c=(none,la,of)∧la<hint+1∧la<of∧x+1≤of∧b (hint - la)=false)
      (Q:=λc st'=>st'=st∧∃ la of,c=(none,la,of)∧la<hint+1∧la<of∧b (hint - la)=false∧(of<hint+1→b (hint - of)=true)) ?_ ?_ ⟨rfl,0,1,rfl,by lia,by lia,by lia,hbh⟩) ?_)
    . rintro x c st' _ hx ⟨rfl,la,of,rfl,g1,g2,g3,g4⟩
      dsimp only
      by_cases hge:of ≥ hint+1
      . rw[if_pos hge]
        exact Az ⟨rfl,la,of,rfl,g1,g2,g4,λz=>absurd z (by lia)⟩
      . rw[if_neg hge]
        refine Ao (bey (hint - of) (by lia) _ ?_)
        dsimp only
        cases hbo:b (hint - of) with
        | true =>
          rw[if_pos rfl]
          exact Az ⟨rfl,la,of,rfl,g1,g2,g4,λ_=>hbo⟩
        | false =>
          rw[if_neg (by simp)]
          exact Az ⟨rfl,of,2*of+1,rfl,by lia,by lia,by lia,hbo⟩
    . rintro c st' ⟨rfl,la,of,rfl,g1,g2,g3,g4⟩
      exact⟨rfl,la,of,rfl,g1,g2,g4,λz=>absurd z (by simp at g3;lia)⟩
    . rintro c st' ⟨rfl,la,of,rfl,g1,g2,g3,g4⟩
      dsimp only
      have hlo:∀ i,i<hint+1 - min of (hint+1)→b i=true:=λi hi=>by
        by_cases ho:of<hint+1
        . exact mono i (hint - of) (by lia) (by lia) (g4 ho)
        . exact absurd hi (by lia)
      have hhi:∀ i,hint - la≤i→i<n→b i=false:=λi h1 h2=>by
        cases q:b i with
        | false=>rfl
        | true =>
          have:=mono (hint - la) i (by lia) h2 q
          rw[g3] at this;cases this
      refine Ao (CM (BN (I:=λx c z=>z=st'∧∃ lo hi,c=(none,lo,hi)∧lo≤hi∧hi≤n∧(hi - lo)+x≤n∧(∀ i,i<lo→b i=true)∧∀ i,hi≤i→i<n→b i=false)
        (Q:=λc z=>z=st'∧∃ k,c=(none,k,k)∧k≤n∧(∀ i,i<k→b i=true)∧∀ i,k≤i→i<n→b i=false) ?_ ?_ ⟨rfl,hint+1 - min of (hint+1),hint - la,rfl,by lia,by lia,by lia,hlo,hhi⟩) ?_)
      . rintro x c st'' _ hx ⟨rfl,lo,hi,rfl,g1,g2,g3,g4,g5⟩
        dsimp only
        by_cases hge:lo ≥ hi
        . rw[if_pos hge]
          have e:lo=hi:=by lia
          subst e
          exact Az ⟨rfl,lo,rfl,g2,g4,g5⟩
        . rw[if_neg hge]
          have hm:lo+(hi - lo) / 2<n:=by lia
          refine Ao (bey _ hm _ ?_)
          dsimp only
          cases hbm:b (lo+(hi - lo) / 2) with
          | true =>
            rw[if_pos rfl]
            refine Az ⟨rfl,_,_,rfl,by lia,g2,by lia,λi hi'=>?_,g5⟩
            exact mono i _ (by lia) hm hbm
          | false =>
            rw[if_neg (by simp)]
            refine Az ⟨rfl,_,_,rfl,by lia,by lia,by lia,g4,λi hi1 hi2=>?_⟩
            cases q:b i with
            | false=>rfl
            | true=>rw[mono _ i hi1 hi2 q] at hbm;cases hbm
      . rintro c st'' ⟨rfl,lo,hi,rfl,g1,g2,g3,g4,g5⟩
        have e:lo=hi:=by simp at g3;lia
        subst e
        exact⟨rfl,lo,rfl,g2,g4,g5⟩
      . rintro c st'' ⟨rfl,k,rfl,g1,g2,g3⟩
        exact Az (hQ k g1 g2 g3)
end
end TS
namespace TS
section
variable {α:Type}{le:α->α->Prop}
structure MI (le:α->α->Prop) (a b out:List α) (ia ib:Nat):Prop where
 ha:ia<=a.length
 hb:ib<=b.length
 perm:(out++a.drop ia++b.drop ib).Perm (a++b)
 sorted:out.Pairwise le
 lea:∀x∈out,∀y∈a.drop ia,le x y
 leb:∀x∈out,∀y∈b.drop ib,le x y
theorem zcK(a:List α)(i k:Nat):a.drop i=(a.drop i).take k++a.drop (i+k):=by rw[<- List.drop_drop,Do]
theorem MI.takeA{a b out:List α}{ia ib:Nat}(m:MI le a b out ia ib)(sa:a.Pairwise le)(k:Nat)(hk:ia + k <= a.length)(h:∀x ∈ (a.drop ia).take k, ∀y ∈ b.drop ib, le x y) :
  MI le a b (out++(a.drop ia).take k) (ia+k) ib:=by
 have e:=zcK a ia k;have sd:((a.drop ia).take k++a.drop (ia+k)).Pairwise le:=by rw[<- e];exact sa.sublist (C1 _ _)
 obtain⟨s1,s2,s3⟩:=AX.mp sd;refine⟨hk,m.hb,?_,AX.mpr ⟨m.sorted,s1,λx hx y hy=>m.lea x hx y ?_⟩,λx hx y hy=>?_,λx hx y hy=>?_⟩
 .have:=m.perm;rw[e]at this;simpa[AN]using this
 .rw[e];exact BF _ hy
 .rcases AC.mp hx with q |q
  .exact m.lea x q y (by rw[e];exact Aw _ hy)
  .exact s3 x q y hy
 .rcases AC.mp hx with q |q
  .exact m.leb x q y hy
  .exact h x q y hy
theorem MI.takeB{a b out:List α}{ia ib:Nat}(m:MI le a b out ia ib)(sb:b.Pairwise le)(k:Nat)(hk:ib + k <= b.length)(h:∀x ∈ (b.drop ib).take k, ∀y ∈ a.drop ia, le x y) :
  MI le a b (out++(b.drop ib).take k) ia (ib+k):=by
 have e:=zcK b ib k;have sd:((b.drop ib).take k++b.drop (ib+k)).Pairwise le:=by rw[<- e];exact sb.sublist (C1 _ _)
 obtain⟨s1,s2,s3⟩:=AX.mp sd;refine⟨m.ha,hk,?_,AX.mpr ⟨m.sorted,s1,λx hx y hy=>m.leb x hx y ?_⟩,λx hx y hy=>?_,λx hx y hy=>?_⟩
 .have:=m.perm;rw[e]at this;refine List.Perm.trans ?_ this;rw[AN,AN,AN,<- AN ((b.drop ib).take k),<- AN (a.drop ia)];exact List.Perm.append_left _ (List.Perm.append_right _ Dp)
 .rw[e];exact BF _ hy
 .rcases AC.mp hx with q |q
  .exact m.lea x q y hy
  .exact h x q y hy
 .rcases AC.mp hx with q |q
  .exact m.leb x q y (by rw[e];exact Aw _ hy)
  .exact s3 x q y hy
noncomputable def Res(le:α->α->Prop)(a b r:List α):Prop:=r.Perm (a++b)/\r.Pairwise le
theorem MI.done{a b out:List α}{ia ib:Nat}(m:MI le a b out ia ib)(sa:a.Pairwise le)(h:b.length<=ib):Res le a b (out++a.drop ia++b.drop ib):=by refine⟨m.perm,?_⟩;rw[List.drop_of_length_le h,BJ];exact AX.mpr ⟨m.sorted,sa.sublist (C1 _ _),m.lea⟩
theorem MI.lastA{a b out:List α}{ia ib:Nat}(m:MI le a b out ia ib)(sa:a.Pairwise le)(sb:b.Pairwise le)(h:∀x∈b.drop ib,∀y∈a.drop ia,le x y):Res le a b (out++b.drop ib++a.drop ia):=by
 refine⟨?_,?_⟩
 .refine List.Perm.trans ?_ m.perm;rw[AN,AN];exact List.Perm.append_left _ Dp
 .refine AX.mpr ⟨AX.mpr ⟨m.sorted,sb.sublist (C1 _ _),m.leb⟩,sa.sublist (C1 _ _),λx hx y hy=>?_⟩;rcases AC.mp hx with q |q
  .exact m.lea x q y hy
  .exact h x q y hy
theorem MI.start{a b:List α}{y:α}(sb:b.Pairwise le)(h0:b[0]?=some y)(h:∀x∈a,le y x):MI le a b [y] 0 1:=by
 cases b with
 |nil=>cases h0
 |cons z r =>
  cases h0
  obtain⟨s1,s2⟩:=Ch.mp sb;refine⟨Bd _,by simp,?_,by simp,λx hx w hw=>?_,λx hx w hw=>?_⟩
  .show ([y]++a++r).Perm (a++y::r);exact List.perm_middle.symm
  .rw[Am.mp hx];exact h w hw
  .rw[Am.mp hx];exact s1 w hw
end
end TS
namespace TS
open PySem PyProof.Rows
noncomputable def Like(st st':AR):Prop:=kindOf st'=kindOf st/\AB st'=AB st/\AV st'=AV st/\CW st'=CW st
theorem Like.refl(st:AR):Like st st:=⟨rfl,rfl,rfl,rfl⟩
noncomputable abbrev leOf(L:Keyed->Keyed->Bool):Keyed->Keyed->Prop:=λx y=>L y x=false
section
variable {M:Model}{A:AY}{E:Ac->Ae->Prop}{s:Ae}{kd:Dl}{S:Keyed->Prop}{L:Keyed->Keyed->Bool}
theorem LtOk.rf(O:LtOk M A E s kd S L){x:Keyed}(h:S x):L x x=false:=by
 cases q:L x x with
 |false=>rfl
 |true=>rw[O.as x x h h q]at q;cases q
structure Two (S:Keyed->Prop) (L:Keyed->Keyed->Bool) (a b:Array Keyed):Prop where
 sa:a.toList.Pairwise (leOf L)
 sb:b.toList.Pairwise (leOf L)
 Sa:∀x∈a.toList,S x
 Sb:∀x∈b.toList,S x
theorem zaq{a:Array Keyed}{i:Nat}{x:Keyed}(h:a[i]?=some x):x∈a.toList:=by
 have:a.toList[i]?=some x:=by simpa using h
 exact Aj this
theorem zbY{a:Array Keyed}{i:Nat}{x:Keyed}(h:a[i]?=some x):a.toList.drop i=x::a.toList.drop (i+1):=by
 have hl:i<a.toList.length:=by have:=(Bv.mp h).1;simpa using this
 rw[Ep hl]
 congr 1
 have:=(Bv.mp h).2;simpa using this
theorem zcy{a:Array Keyed}(O:LtOk M A E s kd S L)(sa:a.toList.Pairwise (leOf L))(Sa:∀x∈a.toList,S x){i:Nat}{x y:Keyed}(h:a[i]?=some x)(hy:y∈a.toList.drop i):leOf L x y:=by
 rw[zbY h]at hy;rcases Ax.mp hy with e |q
 .rw[e];exact O.rf (Sa x (zaq h))
 .have:=sa.sublist (C1 i _);rw[zbY h]at this;exact (Ch.mp this).1 y q
variable {a b:Array Keyed}{out:Array Keyed}{ia ib:Nat}
theorem one_B(O:LtOk M A E s kd S L)(T:Two S L a b)(m:MI (leOf L) a.toList b.toList out.toList ia ib){x y:Keyed}(hb:b[ib]? = some x)(ha:a[ia]? = some y)(h:L x y=true) :
  MI (leOf L) a.toList b.toList (out.push x).toList ia (ib+1):=by
 have e:(b.toList.drop ib).take 1=[x]:=by rw[zbY hb];rfl
 have hl:ib+1<=b.toList.length:=by have:=(Bv.mp hb).1;rw[AJ];exact this
 have:=m.takeB T.sb 1 hl λz hz w hw=>by rw[e]at hz;rw[Am.mp hz];have h1:leOf L x y:=O.as x y (T.Sb x (zaq hb)) (T.Sa y (zaq ha)) h;exact O.tr x y w (T.Sb x (zaq hb)) (T.Sa y (zaq ha)) (T.Sa w (BG hw)) h1 (zcy O T.sa T.Sa ha hw)
 rw[e]at this;rw[DB];exact this
theorem one_A(O:LtOk M A E s kd S L)(T:Two S L a b)(m:MI (leOf L) a.toList b.toList out.toList ia ib){x y:Keyed}(hb:b[ib]? = some x)(ha:a[ia]? = some y)(h:L x y=false) :
  MI (leOf L) a.toList b.toList (out.push y).toList (ia+1) ib:=by
 have e:(a.toList.drop ia).take 1=[y]:=by rw[zbY ha];rfl
 have hl:ia+1<=a.toList.length:=by have:=(Bv.mp ha).1;rw[AJ];exact this
 have:=m.takeA T.sa 1 hl λz hz w hw=>by rw[e]at hz;rw[Am.mp hz];exact O.tr y x w (T.Sa y (zaq ha)) (T.Sb x (zaq hb)) (T.Sb w (BG hw)) h (zcy O T.sb T.Sb hb hw)
 rw[e]at this;rw[DB];exact this
theorem zcE(a:Array Keyed)(i k:Nat):(a.extract i (i+k)).toList=(a.toList.drop i).take k:=by rw[DC,CK,Nat.add_sub_cancel_left]
theorem zfV{a:Array Keyed}{i k:Nat}{x:Keyed}(h:x∈(a.toList.drop i).take k):∃j,j<k/\a[i+j]?=some x:=by
 obtain⟨j,hj,e⟩:=AD h
 have hk:j<k:=by have:=hj;rw[AS]at this;lia
 refine⟨j,hk,?_⟩;have h1:((a.toList.drop i).take k)[j]?=some x:=by rw[Ab hj,e]
 rw[List.getElem?_take_of_lt hk,ER]at h1;simpa using h1
theorem blk_A(O:LtOk M A E s kd S L)(T:Two S L a b)(m:MI (leOf L) a.toList b.toList out.toList ia ib){x:Keyed}(hb:b[ib]? = some x)(k:Nat)(hk:ia + k <= a.size)(h:∀j y, j < k -> a[ia + j]? = some y -> L x y=false) :
  MI (leOf L) a.toList b.toList (out++a.extract ia (ia+k)).toList (ia+k) ib:=by
 rw[Bp,zcE];refine m.takeA T.sa k (by rw[AJ];exact hk) λz hz w hw=>?_
 obtain⟨j,hj,e⟩:=zfV hz;exact O.tr z x w (T.Sa z (zaq e)) (T.Sb x (zaq hb)) (T.Sb w (BG hw)) (h j z hj e) (zcy O T.sb T.Sb hb hw)
theorem blk_B(O:LtOk M A E s kd S L)(T:Two S L a b)(m:MI (leOf L) a.toList b.toList out.toList ia ib){y:Keyed}(ha:a[ia]? = some y)(k:Nat)(hk:ib + k <= b.size)(h:∀j x, j < k -> b[ib + j]? = some x -> L x y=true) :
  MI (leOf L) a.toList b.toList (out++b.extract ib (ib+k)).toList ia (ib+k):=by
 rw[Bp,zcE];refine m.takeB T.sb k (by rw[AJ];exact hk) λz hz w hw=>?_
 obtain⟨j,hj,e⟩:=zfV hz;exact O.tr z y w (T.Sb z (zaq e)) (T.Sa y (zaq ha)) (T.Sa w (BG hw)) (O.as z y (T.Sb z (zaq e)) (T.Sa y (zaq ha)) (h j z hj e)) (zcy O T.sa T.Sa ha hw)
theorem znO(O:LtOk M A E s kd S L)(T:Two S L a b){st:AR}(hk:kindOf st=kd){x:Keyed}(Sx:S x)(hi:ia < a.size){Q:Option Nat -> AR -> Prop}
  (hQ:∀k,ia+k<=a.size->(∀j y,j<k->a[ia+j]?=some y->L x y=false)->(∀j y,k<=j->a[ia+j]?=some y->L x y=true)->Q (some k) st) {hint:Nat} (hh:hint<a.size-ia) :
  wpS M A E s (zcc false x a ia (a.size-ia) hint) Q st:=by
 have at_:∀i,i<a.size-ia->∃y,a[ia+i]?=some y:=λi h=>⟨a[ia+i],by simp[show ia+i<a.size by lia]⟩
 refine zbr (b:=λi=>!(a[ia+i]?.elim false λy=>L x y)) O hk Sx (λi h=>?_) (λi j hij hj q=>?_) hh λk h1 h2 h3=>?_
 .obtain⟨y,e⟩:=at_ i h;exact⟨y,e,T.Sa y (zaq e),by rw[if_neg (by simp),e];rfl⟩
 .obtain⟨y,e⟩:=at_ j hj;obtain⟨z,e2⟩:=at_ i (by lia);rw[e]at q;rw[e2];have q1:L x y=false:=by simpa using q
  have le1:leOf L z y:=zcy O T.sa T.Sa e2 (by
   have:y∈(a.toList.drop (ia+i)).drop (j-i):=by rw[List.drop_drop,show ia+i+(j-i)=ia+j by lia,zbY e];exact Ap
   exact BG this)
  have:L x z=false:=O.tr z y x (T.Sa z (zaq e2)) (T.Sa y (zaq e)) Sx le1 q1;simpa using this
 .refine hQ k (by lia) (λj y hj e=>?_) (λj y hj e=>?_)
  .have:=h2 j hj;rw[e]at this;simpa using this
  .have hlt:j < a.size-ia := by have:=(Bv.mp e).1;lia
   have:=h3 j hj hlt;rw[e]at this;simpa using this
theorem znN(O:LtOk M A E s kd S L)(T:Two S L a b){st:AR}(hk:kindOf st=kd){y:Keyed}(Sy:S y)(hi:ib < b.size){Q:Option Nat -> AR -> Prop}
  (hQ:∀k,ib+k<=b.size->(∀j x,j<k->b[ib+j]?=some x->L x y=true)->(∀j x,k<=j->b[ib+j]?=some x->L x y=false)->Q (some k) st) {hint:Nat} (hh:hint<b.size-ib) :
  wpS M A E s (zcc true y b ib (b.size-ib) hint) Q st:=by
 have at_:∀i,i<b.size-ib->∃x,b[ib+i]?=some x:=λi h=>⟨b[ib+i],by simp[show ib+i<b.size by lia]⟩
 refine zbr (b:=λi=>b[ib+i]?.elim false λx=>L x y) O hk Sy (λi h=>?_) (λi j hij hj q=>?_) hh λk h1 h2 h3=>?_
 .obtain⟨x,e⟩:=at_ i h;exact⟨x,e,T.Sb x (zaq e),by rw[if_pos rfl,e];rfl⟩
 .obtain⟨x,e⟩:=at_ j hj;obtain⟨z,e2⟩:=at_ i (by lia);rw[e]at q;rw[e2];have q1:L x y=true:=q;show L z y=true
  have le1:leOf L z x:=zcy O T.sb T.Sb e2 (by
   have:x∈(b.toList.drop (ib+i)).drop (j-i):=by rw[List.drop_drop,show ib+i+(j-i)=ib+j by lia,zbY e];exact Ap
   exact BG this)
  cases w:L z y with
  |true=>rfl
  |false =>
   have:L x y=false:=O.tr y z x Sy (T.Sb z (zaq e2)) (T.Sb x (zaq e)) w le1;rw[this]at q1;cases q1
 .refine hQ k (by lia) (λj x hj e=>?_) (λj x hj e=>?_)
  .have:=h2 j hj;rw[e]at this;exact this
  .have hlt:j < b.size-ib := by have:=(Bv.mp e).1;lia
   have:=h3 j hj hlt;rw[e]at this;exact this
end
end TS
set_option maxHeartbeats 8000000
namespace TS
open PySem PyProof.Rows
section
variable {M:Model}{A:AY}{E:Ac->Ae->Prop}{s:Ae}{kd:Dl}{S:Keyed->Prop}{L:Keyed->Keyed->Bool}{a b out:Array Keyed}{ia ib:Nat}
theorem zbq(a:Array Keyed)(i:Nat):(a.extract i a.size).toList=a.toList.drop i:=by rw[DC,CK,B5 (by simp)]
theorem zd5(T:Two S L a b)(m:MI (leOf L) a.toList b.toList out.toList ia ib)(h:b.size<=ib):Res (leOf L) a.toList b.toList (out++a.extract ia a.size++b.extract ib b.size).toList:=by rw[Bp,Bp,zbq,zbq];exact m.done T.sa (by rw[AJ];exact h)
theorem zkO(T:Two S L a b)(m:MI (leOf L) a.toList b.toList out.toList ia ib)(h:a.size<=ia):Res (leOf L) a.toList b.toList (out++a.extract ia a.size++b.extract ib b.size).toList:=by rw[Bp,Bp,zbq,zbq];have e:a.toList.drop ia=[]:=List.drop_of_length_le (by rw[AJ];exact h);refine⟨m.perm,?_⟩;rw[e,BJ];exact AX.mpr ⟨m.sorted,T.sb.sublist (C1 _ _),m.leb⟩
theorem zd4(T:Two S L a b)(hl:∀z,a[a.size-1]?=some z->∀x∈b.toList,leOf L x z)(m:MI (leOf L) a.toList b.toList out.toList ia ib)(h:ia+1=a.size):Res (leOf L) a.toList b.toList (out++b.extract ib b.size++a.extract ia a.size).toList:=by
 rw[Bp,Bp,zbq,zbq];have hlt:ia<a.size:=by lia
 have e:a[ia]?=some a[ia]:=by simp[hlt]
 refine m.lastA T.sa T.sb λx hx y hy=>?_
 rw[zbY e,List.drop_of_length_le (by rw[AJ];lia)]at hy;rw[Am.mp hy];exact hl _ (by rw[show a.size-1=ia by lia];exact e) x (BG hx)
theorem Like.tr{x y z:AR}(h:Like x y)(k:Like y z):Like x z:=⟨k.1.trans h.1,k.2.1.trans h.2.1,k.2.2.1.trans h.2.2.1,k.2.2.2.trans h.2.2.2⟩
noncomputable def zfa:Nat->StateT AR Sem Unit:=sortPriv% PySem.Builtin.setMinGallop
noncomputable abbrev LH:=Option (Array Keyed)×Array Keyed×Nat×Nat×Nat×Nat×Nat
noncomputable def loC(a b out:Array Keyed)(ia ib mg ac bc:Nat):StateT AR Sem (ForInStep LH) :=
 elem' a ia >>= λx =>
  if (ia+1+1 == a.size)=true then pure (.done (some (out.push x++b.extract ib b.size++a.extract (ia+1) a.size),out.push x,ia+1,ib,mg,ac,bc))
  else if (decide (ac<7) && decide (bc<7))=true then pure (.done (none,out.push x,ia+1,ib,mg,ac,bc))
  else pure (.yield (none,out.push x,ia+1,ib,mg,ac,bc))
noncomputable def loB(a b out:Array Keyed)(ia ib mg ac bc:Nat):StateT AR Sem (ForInStep LH) :=
 elem' b ib >>= λx =>
  if (ib+1 == b.size)=true then pure (.done (some (out.push x++a.extract ia a.size++b.extract (ib+1) b.size),out.push x,ia,ib+1,mg,ac,bc))
  else elem' a ia >>= λy=>zcc true y b (ib+1) (b.size-(ib+1)) 0 >>= λw =>
   match w with
   |some k =>
    if k > 0 then
     if (ib+1+k == b.size)=true then pure (.done (some (out.push x++b.extract (ib+1) (ib+1+k)++a.extract ia a.size++b.extract (ib+1+k) b.size),out.push x++b.extract (ib+1) (ib+1+k),ia,ib+1+k,mg,ac,k))
     else loC a b (out.push x++b.extract (ib+1) (ib+1+k)) ia (ib+1+k) mg ac k
    else loC a b (out.push x) ia (ib+1) mg ac k
   |_=>pure (.done (some (out.push x++a.extract ia a.size++b.extract (ib+1) b.size),out.push x,ia,ib+1,mg,ac,bc))
noncomputable def loA(a b out:Array Keyed)(ia ib mg ac bc:Nat):StateT AR Sem (ForInStep LH) :=
 elem' b ib >>= λx=>zcc false x a ia (a.size-ia) 0 >>= λw =>
  match w with
  |some k =>
   if k > 0 then
    if (ia+k+1 == a.size)=true then pure (.done (some (out++a.extract ia (ia+k)++b.extract ib b.size++a.extract (ia+k) a.size),out++a.extract ia (ia+k),ia+k,ib,mg,k,bc))
    else if (ia+k == a.size)=true then pure (.done (some (out++a.extract ia (ia+k)++a.extract (ia+k) a.size++b.extract ib b.size),out++a.extract ia (ia+k),ia+k,ib,mg,k,bc))
    else loB a b (out++a.extract ia (ia+k)) (ia+k) ib mg k bc
   else loB a b out ia ib mg k bc
  |_=>pure (.done (some (out++a.extract ia a.size++b.extract ib b.size),out,ia,ib,mg,ac,bc))
noncomputable def loG(a b:Array Keyed)(c:LH):StateT AR Sem (ForInStep LH) :=
 if c.2.2.2.2.1 > 1 then zfa (c.2.2.2.2.1-1) >>= λ_=>loA a b c.2.1 c.2.2.1 c.2.2.2.1 (c.2.2.2.2.1-1) c.2.2.2.2.2.1 c.2.2.2.2.2.2
 else zfa c.2.2.2.2.1 >>= λ_=>loA a b c.2.1 c.2.2.1 c.2.2.2.1 c.2.2.2.2.1 c.2.2.2.2.2.1 c.2.2.2.2.2.2
noncomputable abbrev LI:=Option (Array Keyed)×Array Keyed×Nat×Nat×Nat×Nat
noncomputable def loI(a b:Array Keyed)(mg:Nat)(c:LI):StateT AR Sem (ForInStep LI) :=
 elem' b c.2.2.2.1 >>= λx=>elem' a c.2.2.1 >>= λy=>lt' x y >>= λw =>
  match w with
  |some v =>
   if v=true then elem' b c.2.2.2.1 >>= λx =>
    if (c.2.2.2.1+1 == b.size)=true then pure (.done (some (c.2.1.push x++a.extract c.2.2.1 a.size++b.extract (c.2.2.2.1+1) b.size),c.2.1.push x,c.2.2.1,c.2.2.2.1+1,0,c.2.2.2.2.2+1))
    else if c.2.2.2.2.2+1 ≥ mg then pure (.done (none,c.2.1.push x,c.2.2.1,c.2.2.2.1+1,0,c.2.2.2.2.2+1))
    else pure (.yield (none,c.2.1.push x,c.2.2.1,c.2.2.2.1+1,0,c.2.2.2.2.2+1))
   else elem' a c.2.2.1 >>= λy =>
    if (c.2.2.1+1+1 == a.size)=true then pure (.done (some (c.2.1.push y++b.extract c.2.2.2.1 b.size++a.extract (c.2.2.1+1) a.size),c.2.1.push y,c.2.2.1+1,c.2.2.2.1,c.2.2.2.2.1+1,0))
    else if c.2.2.2.2.1+1 ≥ mg then pure (.done (none,c.2.1.push y,c.2.2.1+1,c.2.2.2.1,c.2.2.2.2.1+1,0))
    else pure (.yield (none,c.2.1.push y,c.2.2.1+1,c.2.2.2.1,c.2.2.2.2.1+1,0))
  |_=>pure (.done (some (c.2.1++a.extract c.2.2.1 a.size++b.extract c.2.2.2.1 b.size),c.2.1,c.2.2.1,c.2.2.2.1,c.2.2.2.2.1,c.2.2.2.2.2))
noncomputable abbrev LO:=Option (Array Keyed)×Array Keyed×Nat×Nat×Nat
noncomputable def loP(a b:Array Keyed)(mg:Nat)(c:LI):StateT AR Sem (ForInStep LO) :=
 Dm (λ_=>StateT AR Sem (ForInStep LO)) c.1 (λr=>pure (.done (some r,c.2.1,c.2.2.1,c.2.2.2.1,mg))) λ_=>(liftM (rule "list.sort.gallop"):StateT AR Sem Unit) >>= λ_=>forIn [:a.size+b.size] ((none,c.2.1,c.2.2.1,c.2.2.2.1,mg+1,c.2.2.2.2.1,c.2.2.2.2.2):LH) (λ_ c=>loG a b c) >>= λc =>
  Dm (λ_=>StateT AR Sem (ForInStep LO)) c.1 (λr=>pure (.done (some r,c.2.1,c.2.2.1,c.2.2.2.1,c.2.2.2.2.1))) λ_=>zfa (c.2.2.2.2.1+1) >>= λ_=>pure (.yield (none,c.2.1,c.2.2.1,c.2.2.2.1,c.2.2.2.2.1+1))
noncomputable def loO(a b:Array Keyed)(c:LO):StateT AR Sem (ForInStep LO) :=
 forIn [:a.size+b.size] ((none,c.2.1,c.2.2.1,c.2.2.2.1,0,0):LI) (λ_ d=>loI a b c.2.2.2.2 d) >>= λd=>loP a b c.2.2.2.2 d
noncomputable def zlP(a b:Array Keyed):StateT AR Sem (Array Keyed) :=
 (liftM (rule "list.sort.merge-lo"):StateT AR Sem Unit) >>= λ_=>elem' b 0 >>= λx =>
  if (1 == b.size)=true then pure (#[x]++a.extract 0 a.size++b.extract 1 b.size)
  else if (0+1 == a.size)=true then pure (#[x]++b.extract 1 b.size++a.extract 0 a.size)
  else get >>= λs=>forIn [:a.size+b.size] ((none,#[x],0,1,gallopOf s):LO) (λ_ c=>loO a b c) >>= λc =>
   Dm (λ_=>StateT AR Sem (Array Keyed)) c.1 (λr=>pure r) λ_=>unsupported "internal:list.sort.merge-bound"
theorem zi3(a b:Array Keyed):zfT a b=zlP a b:=rfl
variable {Q:ForInStep LH->AR->Prop}{z:AR}{N mg ac bc:Nat}{x y:Keyed}
theorem zik(O:LtOk M A E s kd S L)(T:Two S L a b)(hl:∀z, a[a.size-1]? = some z -> ∀x ∈ b.toList, leOf L x z)(hD:∀r out ia ib mg ac bc, Res (leOf L) a.toList b.toList r.toList -> Q (.done (some r, out, ia, ib, mg, ac, bc)) z)
  (hN:∀out ia ib mg ac bc,MI (leOf L) a.toList b.toList out.toList ia ib->ia+1<a.size->ib<b.size->N<=ia+ib->Q (.done (none,out,ia,ib,mg,ac,bc)) z/\Q (.yield (none,out,ia,ib,mg,ac,bc)) z)
  (m:MI (leOf L) a.toList b.toList out.toList ia ib) (ea:a[ia]?=some y) (eb:b[ib]?=some x) (hw:L x y=false) (g1:ia+1<a.size) (g2:ib<b.size) (g3:N<=ia+ib) :
  wpS M A E s (loC a b out ia ib mg ac bc) Q z:=by
 have n4:=one_A O T m eb ea hw;refine Ao (zav ea ?_)
 by_cases e:ia+1+1=a.size
 .rw[if_pos (by simp[e])];exact Az (hD _ _ _ _ _ _ _ (zd4 T hl n4 (by lia)))
 rw[if_neg (by simp[e])];have h:=hN _ _ _ mg ac bc n4 (by lia) g2 (by lia);split
 .exact Az h.1
 .exact Az h.2
theorem zil(O:LtOk M A E s kd S L)(T:Two S L a b)(hk:kindOf z=kd)(hl:∀z, a[a.size-1]? = some z -> ∀x ∈ b.toList, leOf L x z)(hD:∀r out ia ib mg ac bc, Res (leOf L) a.toList b.toList r.toList -> Q (.done (some r, out, ia, ib, mg, ac, bc)) z)
  (hN:∀out ia ib mg ac bc,MI (leOf L) a.toList b.toList out.toList ia ib->ia+1<a.size->ib<b.size->N<=ia+ib->Q (.done (none,out,ia,ib,mg,ac,bc)) z/\Q (.yield (none,out,ia,ib,mg,ac,bc)) z)
  (m:MI (leOf L) a.toList b.toList out.toList ia ib) (ea:a[ia]?=some y) (eb:b[ib]?=some x) (hw:L x y=true) (g1:ia+1<a.size) (g2:ib<b.size) (g3:N<=ia+ib) :
  wpS M A E s (loB a b out ia ib mg ac bc) Q z:=by
 have n2:=one_B O T m eb ea hw;refine Ao (zav eb ?_)
 by_cases e3:ib+1=b.size
 .rw[if_pos (by simp[e3])];exact Az (hD _ _ _ _ _ _ _ (zd5 T n2 (by lia)))
 rw[if_neg (by simp[e3])];refine Ao (zav ea ?_);refine Ao (znN O T hk (T.Sa _ (zaq ea)) (by lia) (λk r1 r2 r3=>?_) (by lia));dsimp only
 by_cases hk1:k > 0
 .rw[if_pos hk1];have n3:=blk_B O T n2 ea k r1 r2
  by_cases e4:ib+1+k=b.size
  .rw[if_pos (by simp[e4])];exact Az (hD _ _ _ _ _ _ _ (zd5 T n3 (by lia)))
  rw[if_neg (by simp[e4])];have hb:ib+1+k<b.size:=by lia
  exact zik O T hl hD hN n3 ea (by simp[hb]) (r3 k b[ib+1+k] (Ai _) (by simp[hb])) g1 hb (by lia)
 rw[if_neg hk1];have hb:ib+1<b.size:=by lia
 have kz:k=0:=by lia
 subst kz;exact zik O T hl hD hN n2 ea (by simp[hb]) (r3 0 b[ib+1] (Ai _) (by simp[hb])) g1 hb (by lia)
theorem zlV(O:LtOk M A E s kd S L)(T:Two S L a b)(hk:kindOf z=kd)(hl:∀z, a[a.size-1]? = some z -> ∀x ∈ b.toList, leOf L x z)(hD:∀r out ia ib mg ac bc, Res (leOf L) a.toList b.toList r.toList -> Q (.done (some r, out, ia, ib, mg, ac, bc)) z)
  (hN:∀out ia ib mg ac bc,MI (leOf L) a.toList b.toList out.toList ia ib->ia+1<a.size->ib<b.size->N<=ia+ib->Q (.done (none,out,ia,ib,mg,ac,bc)) z/\Q (.yield (none,out,ia,ib,mg,ac,bc)) z)
  (m:MI (leOf L) a.toList b.toList out.toList ia ib) (g1:ia+1<a.size) (g2:ib<b.size) (g3:N<=ia+ib) :
  wpS M A E s (loA a b out ia ib mg ac bc) Q z:=by
 have eb:b[ib]?=some b[ib]:=by simp[g2]
 refine Ao (zav eb ?_);refine Ao (znO O T hk (T.Sb _ (zaq eb)) (by lia) (λk q1 q2 q3=>?_) (by lia));dsimp only
 by_cases hk0:k > 0
 .rw[if_pos hk0];have n1:=blk_A O T m eb k q1 q2
  by_cases e1:ia+k+1=a.size
  .rw[if_pos (by simp[e1])];exact Az (hD _ _ _ _ _ _ _ (zd4 T hl n1 e1))
  rw[if_neg (by simp[e1])]
  by_cases e2:ia+k=a.size
  .rw[if_pos (by simp[e2])];exact Az (hD _ _ _ _ _ _ _ (zkO T n1 (by lia)))
  rw[if_neg (by simp[e2])];have ha:ia+k<a.size:=by lia
  exact zil O T hk hl hD hN n1 (by simp[ha]) eb (q3 k a[ia+k] (Ai _) (by simp[ha])) (by lia) g2 (by lia)
 rw[if_neg hk0];have ha:ia<a.size:=by lia
 have kz:k=0:=by lia
 subst kz;exact zil O T hk hl hD hN m (by simp[ha]) eb (q3 0 a[ia] (Ai _) (by simp[ha])) g1 g2 g3
theorem zlT{Q:ForInStep LI -> AR -> Prop}(O:LtOk M A E s kd S L)(T:Two S L a b)(hk:kindOf z=kd)(hl:∀z, a[a.size-1]? = some z -> ∀x ∈ b.toList, leOf L x z)(m:MI (leOf L) a.toList b.toList out.toList ia ib)(g1:ia + 1 < a.size)(g2:ib < b.size)
  (hD:∀r out ia ib ac bc,Res (leOf L) a.toList b.toList r.toList->Q (.done (some r,out,ia,ib,ac,bc)) z)
  (hN:∀out ia' ib' ac bc,MI (leOf L) a.toList b.toList out.toList ia' ib'->ia'+1<a.size->ib'<b.size->ia+ib+1<=ia'+ib'->Q (.done (none,out,ia',ib',ac,bc)) z/\Q (.yield (none,out,ia',ib',ac,bc)) z) :
  wpS M A E s (loI a b mg (none,out,ia,ib,ac,bc)) Q z:=by
 obtain⟨xb,eb⟩:∃x,b[ib]?=some x:=⟨b[ib]'(by lia),by simp[g2]⟩;obtain⟨xa,ea⟩:∃x,a[ia]?=some x:=⟨a[ia]'(by lia),by simp[show ia<a.size by lia]⟩;refine Ao (zav eb (Ao (zav ea (Ao (O.lt xb xa (T.Sb _ (zaq eb)) (T.Sa _ (zaq ea)) _ _ hk ?_)))));dsimp only
 cases hw:L xb xa with
 |true =>
  rw[if_pos rfl];have m2:=one_B O T m eb ea hw;refine Ao (zav eb ?_)
  by_cases e:ib+1=b.size
  .rw[if_pos (by simp[e])];exact Az (hD _ _ _ _ _ _ (zd5 T m2 (by lia)))
  rw[if_neg (by simp[e])];have h:=hN _ _ _ 0 (bc+1) m2 g1 (by lia) (by lia);split
  .exact Az h.1
  .exact Az h.2
 |false =>
  rw[if_neg (by simp)];have m2:=one_A O T m eb ea hw;refine Ao (zav ea ?_)
  by_cases e:ia+1+1=a.size
  .rw[if_pos (by simp[e])];exact Az (hD _ _ _ _ _ _ (zd4 T hl m2 (by lia)))
  rw[if_neg (by simp[e])];have h:=hN _ _ _ (ac+1) 0 m2 (by lia) g2 (by lia);split
  .exact Az h.1
  .exact Az h.2
theorem zlU(O:LtOk M A E s kd S L)(T:Two S L a b)(hk:kindOf z=kd)(hl:∀z, a[a.size-1]? = some z -> ∀x ∈ b.toList, leOf L x z)(hD:∀z', Like z z' -> ∀r out ia ib mg ac bc, Res (leOf L) a.toList b.toList r.toList -> Q (.done (some r, out, ia, ib, mg, ac, bc)) z')
  (hN:∀z',Like z z'->∀out ia ib mg ac bc,MI (leOf L) a.toList b.toList out.toList ia ib->ia+1<a.size->ib<b.size->N<=ia+ib->Q (.done (none,out,ia,ib,mg,ac,bc)) z'/\Q (.yield (none,out,ia,ib,mg,ac,bc)) z')
  (m:MI (leOf L) a.toList b.toList out.toList ia ib) (g1:ia+1<a.size) (g2:ib<b.size) (g3:N<=ia+ib) :
  wpS M A E s (loG a b (none,out,ia,ib,mg,ac,bc)) Q z:=by
 have key:∀z',Like z z'->∀mg,wpS M A E s (loA a b out ia ib mg ac bc) Q z':=λz' h mg=>zlV O T (h.1.trans hk) hl (hD z' h) (hN z' h) m g1 g2 g3
 unfold loG;split
 .exact Ao (Ca (key _ (by exact Like.refl z) _))
 .exact Ao (Ca (key _ (by exact Like.refl z) _))
theorem zlR{Q:ForInStep LO -> AR -> Prop}(O:LtOk M A E s kd S L)(T:Two S L a b)(hk:kindOf z=kd)(hl:∀z, a[a.size-1]? = some z -> ∀x ∈ b.toList, leOf L x z)(m:MI (leOf L) a.toList b.toList out.toList ia ib)(g1:ia + 1 < a.size)(g2:ib < b.size)(g3:N <= ia + ib)
  (hD:∀z',Like z z'->∀r out ia ib mg,Res (leOf L) a.toList b.toList r.toList->Q (.done (some r,out,ia,ib,mg)) z')
  (hN:∀z',Like z z'->∀out ia ib mg,MI (leOf L) a.toList b.toList out.toList ia ib->ia+1<a.size->ib<b.size->N<=ia+ib->Q (.yield (none,out,ia,ib,mg)) z') :
  wpS M A E s (loP a b mg (none,out,ia,ib,ac,bc)) Q z:=by
 refine Ao (wpS_lift (B9 ⟨rfl,?_⟩))
 refine Ao (CM (BN (I:=λy c w=>Like z w/\∃out ia ib mg ac bc,c=(none,out,ia,ib,mg,ac,bc)/\MI (leOf L) a.toList b.toList out.toList ia ib/\ia+1<a.size/\ib<b.size/\N<=ia+ib)
  (Q:=λc w=>Like z w/\((∃r,c.1=some r/\Res (leOf L) a.toList b.toList r.toList)∨∃out ia ib mg ac bc,c=(none,out,ia,ib,mg,ac,bc)/\MI (leOf L) a.toList b.toList out.toList ia ib/\ia+1<a.size/\ib<b.size/\N<=ia+ib)) ?_ ?_ ⟨Like.refl _,_,_,_,_,_,_,rfl,m,g1,g2,g3⟩) ?_)
 .rintro y c w _ hy ⟨lk,out,ia,ib,mg,ac,bc,rfl,m,k1,k2,k3⟩;exact zlU O T (lk.1.trans hk) hl (λw' h r _ _ _ _ _ _ e=>⟨Like.tr lk h,.inl ⟨r,rfl,e⟩⟩) (λw' h _ _ _ _ _ _ e u1 u2 u3=>⟨⟨Like.tr lk h,.inr ⟨_,_,_,_,_,_,rfl,e,u1,u2,u3⟩⟩,Like.tr lk h,_,_,_,_,_,_,rfl,e,u1,u2,u3⟩) m k1 k2 k3
 .rintro c w ⟨lk,r⟩;exact⟨lk,.inr r⟩
 .rintro c w ⟨lk,hc⟩;rcases hc with⟨r,e,res⟩ |⟨out,ia,ib,mg,ac,bc,rfl,m,k1,k2,k3⟩
  .rw[e];exact Az (hD w lk _ _ _ _ _ res)
  .exact Ao (Ca (Az (hN _ (by exact lk) _ _ _ _ m k1 k2 k3)))
theorem zlS{Q:ForInStep LO -> AR -> Prop}(O:LtOk M A E s kd S L)(T:Two S L a b)(hk:kindOf z=kd)(hl:∀z, a[a.size-1]? = some z -> ∀x ∈ b.toList, leOf L x z)(m:MI (leOf L) a.toList b.toList out.toList ia ib)(g1:ia + 1 < a.size)(g2:ib < b.size)
  (hD:∀z',Like z z'->∀r out ia ib mg,Res (leOf L) a.toList b.toList r.toList->Q (.done (some r,out,ia,ib,mg)) z')
  (hN:∀z',Like z z'->∀out ia' ib' mg,MI (leOf L) a.toList b.toList out.toList ia' ib'->ia'+1<a.size->ib'<b.size->ia+ib+1<=ia'+ib'->Q (.yield (none,out,ia',ib',mg)) z') :
  wpS M A E s (loO a b (none,out,ia,ib,mg)) Q z:=by
 refine Ao (CM (BN (I:=λy c w=>w=z/\∃out ia' ib' ac bc,c=(none,out,ia',ib',ac,bc)/\MI (leOf L) a.toList b.toList out.toList ia' ib'/\ia'+1<a.size/\ib'<b.size/\ia+ib+y<=ia'+ib')
  (Q:=λc w=>w=z/\((∃r,c.1=some r/\Res (leOf L) a.toList b.toList r.toList)∨∃out ia' ib' ac bc,c=(none,out,ia',ib',ac,bc)/\MI (leOf L) a.toList b.toList out.toList ia' ib'/\ia'+1<a.size/\ib'<b.size/\ia+ib+1<=ia'+ib')) ?_ ?_ ⟨rfl,_,_,_,_,_,rfl,m,g1,g2,by lia⟩) ?_)
 .rintro y c w _ hy ⟨rfl,out',ia',ib',ac,bc,rfl,m',j1,j2,j3⟩;exact zlT O T hk hl m' j1 j2 (λr _ _ _ _ _ e=>⟨rfl,.inl ⟨r,rfl,e⟩⟩) λ_ _ _ _ _ e u1 u2 u3=>⟨⟨rfl,.inr ⟨_,_,_,_,_,rfl,e,u1,u2,by lia⟩⟩,rfl,_,_,_,_,_,rfl,e,u1,u2,by lia⟩
 .rintro c w ⟨rfl,out',ia',ib',ac,bc,rfl,m',j1,j2,j3⟩;exact⟨rfl,.inr ⟨out',ia',ib',ac,bc,rfl,m',j1,j2,by lia⟩⟩
 .rintro c w ⟨rfl,hc⟩;rcases hc with⟨r,e,res⟩ |⟨out',ia',ib',ac,bc,rfl,m',j1,j2,j3⟩
  .unfold loP;rw[e];exact Az (hD _ (Like.refl _) _ _ _ _ _ res)
  .exact zlR (N:=ia'+ib') O T hk hl m' j1 j2 (Ai _) hD λz' h _ _ _ _ e u1 u2 u3=>hN z' h _ _ _ _ e u1 u2 (by lia)
end
section
variable {M:Model}{A:AY}{E:Ac->Ae->Prop}{s:Ae}{kd:Dl}{S:Keyed->Prop}{L:Keyed->Keyed->Bool}{a b:Array Keyed}
theorem zgM(O:LtOk M A E s kd S L)(T:Two S L a b){st:AR}{Q:Array Keyed -> AR -> Prop}(hk:kindOf st=kd)(ha : 0 < a.size)(hb : 0 < b.size)(h0:∀y, b[0]? = some y -> ∀x ∈ a.toList, leOf L y x)
  (hl:∀z,a[a.size-1]?=some z->∀x∈b.toList,leOf L x z) (hQ:∀r st',Res (leOf L) a.toList b.toList r.toList->Like st st'->Q r st'):wpS M A E s (zfT a b) Q st:=by
 rw[zi3];have atA:∀i,i<a.size->∃x,a[i]?=some x:=λi h=>⟨a[i],by simp[h]⟩
 have atB:∀i,i<b.size->∃x,b[i]?=some x:=λi h=>⟨b[i],by simp[h]⟩
 obtain⟨b0,e0⟩:=atB 0 hb;have m0:MI (leOf L) a.toList b.toList (#[b0]:Array Keyed).toList 0 1:=MI.start T.sb (by simpa using e0) (h0 b0 e0);refine Ao (wpS_lift (B9 ⟨rfl,?_⟩));refine Ao (zav e0 ?_)
 by_cases hb1:b.size=1
 .rw[if_pos (by simp[hb1])];exact Az (hQ _ _ (zd5 T m0 (by lia)) (Like.refl _))
 rw[if_neg (by simp;lia)]
 by_cases ha1:a.size=1
 .rw[if_pos (by simp[ha1])];exact Az (hQ _ _ (zd4 T hl m0 (by lia)) (Like.refl _))
 rw[if_neg (by simp;lia)];refine Ao (EK ?_)
 refine Ao (CM (BN (I:=λx c st'=>Like st st'/\∃out ia ib mg,c=(none,out,ia,ib,mg)/\MI (leOf L) a.toList b.toList out.toList ia ib/\ia+1<a.size/\ib<b.size/\x+1<=ia+ib)
  (Q:=λc st'=>Like st st'/\∃r,c.1=some r/\Res (leOf L) a.toList b.toList r.toList) ?step ?fin ⟨Like.refl _,_,_,_,_,rfl,m0,by lia,by lia,by lia⟩) ?post)
 case fin =>
  rintro c st' ⟨_,out,ia,ib,mg,rfl,m,g1,g2,g3⟩;exact absurd g3 (by lia)
 case post =>
  rintro c st' ⟨lk,r,e,res⟩;rw[e];exact Az (hQ r st' res lk)
 case step =>
  rintro x c st' _ hx ⟨lk,out,ia,ib,mg,rfl,m,g1,g2,g3⟩;exact zlS O T (lk.1.trans hk) hl m g1 g2 (λz' h r _ _ _ _ e=>⟨Like.tr lk h,r,rfl,e⟩) λz' h _ _ _ _ e u1 u2 u3=>⟨Like.tr lk h,_,_,_,_,rfl,e,u1,u2,by lia⟩
end
end TS
set_option maxHeartbeats 8000000
namespace TS
open PySem PyProof.Rows
section
variable {α:Type}{le:α->α->Prop}
structure MJ (le:α->α->Prop) (a b r:List α) (na nb:Nat):Prop where
 ha:na<=a.length
 hb:nb<=b.length
 perm:(a.take na++b.take nb++r).Perm (a++b)
 sorted:r.Pairwise le
 lea:∀x∈a.take na,∀y∈r,le x y
 leb:∀x∈b.take nb,∀y∈r,le x y
theorem ze4(a:List α)(i n:Nat)(h:i<=n):a.take n=a.take i++(a.drop i).take (n-i):=by rw[<- List.take_add,show i+(n-i)=n by lia]
theorem MJ.takeA{a b r:List α}{na nb:Nat}(m:MJ le a b r na nb)(sa:a.Pairwise le)(i:Nat)(hi:i <= na)(h:∀x ∈ b.take nb, ∀y ∈ (a.drop i).take (na-i), le x y) :
  MJ le a b ((a.drop i).take (na-i)++r) i nb:=by
 have e:=ze4 a i na hi;have sd:(a.take i++(a.drop i).take (na-i)).Pairwise le:=by rw[<- e];exact sa.sublist (Cp _ _)
 obtain⟨s1,s2,s3⟩:=AX.mp sd;refine⟨A3 hi m.ha,m.hb,?_,AX.mpr ⟨s2,m.sorted,λx hx y hy=>m.lea x (by rw[e];exact Aw _ hx) y hy⟩,λx hx y hy=>?_,λx hx y hy=>?_⟩
 .have:=m.perm;rw[e]at this;refine List.Perm.trans ?_ this;rw[AN,AN,AN,<- AN (b.take nb),<- AN ((a.drop i).take (na-i))];exact List.Perm.append_left _ (List.Perm.append_right _ Dp)
 .rcases AC.mp hy with q |q
  .exact s3 x hx y q
  .exact m.lea x (by rw[e];exact BF _ hx) y q
 .rcases AC.mp hy with q |q
  .exact h x hx y q
  .exact m.leb x hx y q
theorem MJ.takeB{a b r:List α}{na nb:Nat}(m:MJ le a b r na nb)(sb:b.Pairwise le)(i:Nat)(hi:i <= nb)(h:∀x ∈ a.take na, ∀y ∈ (b.drop i).take (nb-i), le x y) :
  MJ le a b ((b.drop i).take (nb-i)++r) na i:=by
 have e:=ze4 b i nb hi;have sd:(b.take i++(b.drop i).take (nb-i)).Pairwise le:=by rw[<- e];exact sb.sublist (Cp _ _)
 obtain⟨s1,s2,s3⟩:=AX.mp sd;refine⟨m.ha,A3 hi m.hb,?_,AX.mpr ⟨s2,m.sorted,λx hx y hy=>m.leb x (by rw[e];exact Aw _ hx) y hy⟩,λx hx y hy=>?_,λx hx y hy=>?_⟩
 .have:=m.perm;rw[e]at this;simpa[AN]using this
 .rcases AC.mp hy with q |q
  .exact h x hx y q
  .exact m.lea x hx y q
 .rcases AC.mp hy with q |q
  .exact s3 x hx y q
  .exact m.leb x (by rw[e];exact BF _ hx) y q
theorem MJ.doneB{a b r:List α}{nb:Nat}(m:MJ le a b r 0 nb)(sb:b.Pairwise le):Res le a b (a.take 0++b.take nb++r) :=
 ⟨m.perm,by rw[List.take_zero,List.nil_append];exact AX.mpr ⟨sb.sublist (Cp _ _),m.sorted,m.leb⟩⟩
theorem MJ.doneA{a b r:List α}{na:Nat}(m:MJ le a b r na 0)(sa:a.Pairwise le):Res le a b (a.take na++b.take 0++r) :=
 ⟨m.perm,by rw[List.take_zero,BJ];exact AX.mpr ⟨sa.sublist (Cp _ _),m.sorted,m.lea⟩⟩
theorem MJ.firstB{a b r:List α}{na nb:Nat}(m:MJ le a b r na nb)(sa:a.Pairwise le)(sb:b.Pairwise le)(h:∀x∈b.take nb,∀y∈a.take na,le x y):Res le a b (b.take nb++a.take na++r):=by
 refine⟨List.Perm.trans (List.Perm.append_right _ Dp) m.perm,?_⟩;refine AX.mpr ⟨AX.mpr ⟨sb.sublist (Cp _ _),sa.sublist (Cp _ _),h⟩,m.sorted,λx hx y hy=>?_⟩;rcases AC.mp hx with q |q
 .exact m.leb x q y hy
 .exact m.lea x q y hy
end
end TS
set_option maxHeartbeats 8000000
namespace TS
open PySem PyProof.Rows
section
variable {M:Model}{A:AY}{E:Ac->Ae->Prop}{s:Ae}{kd:Dl}{S:Keyed->Prop}{L:Keyed->Keyed->Bool}{a b out:Array Keyed}{na nb:Nat}
theorem zfY{a:Array Keyed}(O:LtOk M A E s kd S L)(sa:a.toList.Pairwise (leOf L))(Sa:∀x∈a.toList,S x){i:Nat}{x y:Keyed}(h:a[i]?=some x)(hy:y∈a.toList.take (i+1)):leOf L y x:=by
 have hi:i<a.toList.length:=by have:=(Bv.mp h).1;rw[AJ];exact this
 have e:a.toList.take (i+1)=a.toList.take i++[x]:=by
  rw[DP];have:a.toList[i]?=some x:=by simpa using h
  rw[this];rfl
 rw[e]at hy;rcases AC.mp hy with q |q
 .have:=sa.sublist (Cp (i+1) _);rw[e]at this;exact (AX.mp this).2.2 y q x Ap
 .rw[Am.mp q];exact O.rf (Sa x (zaq h))
theorem zeD{a:Array Keyed}{i:Nat}{x:Keyed}(h:a[i]?=some x):(a.toList.drop i).take (i+1-i)=[x]:=by rw[zbY h,show i+1-i=1 by lia];rfl
theorem zob(O:LtOk M A E s kd S L)(T:Two S L a b)(m:MJ (leOf L) a.toList b.toList out.reverse.toList (na + 1) (nb + 1)){x y:Keyed}(hb:b[nb]? = some x)(ha:a[na]? = some y)(h:L x y=true) :
  MJ (leOf L) a.toList b.toList (out.push y).reverse.toList na (nb+1):=by
 have:=m.takeA T.sa na (Dz _) λz hz w hw=>by rw[zeD ha]at hw;rw[Am.mp hw];exact O.tr z x y (T.Sb z (Bq hz)) (T.Sb x (zaq hb)) (T.Sa y (zaq ha)) (zfY O T.sb T.Sb hb hz) (O.as x y (T.Sb x (zaq hb)) (T.Sa y (zaq ha)) h)
 rw[zeD ha]at this;simpa using this
theorem zoa(O:LtOk M A E s kd S L)(T:Two S L a b)(m:MJ (leOf L) a.toList b.toList out.reverse.toList (na + 1) (nb + 1)){x y:Keyed}(hb:b[nb]? = some x)(ha:a[na]? = some y)(h:L x y=false) :
  MJ (leOf L) a.toList b.toList (out.push x).reverse.toList (na+1) nb:=by
 have:=m.takeB T.sb nb (Dz _) λz hz w hw=>by rw[zeD hb]at hw;rw[Am.mp hw];exact O.tr z y x (T.Sa z (Bq hz)) (T.Sa y (zaq ha)) (T.Sb x (zaq hb)) (zfY O T.sa T.Sa ha hz) h
 rw[zeD hb]at this;simpa using this
theorem zos(O:LtOk M A E s kd S L)(T:Two S L a b)(m:MJ (leOf L) a.toList b.toList out.reverse.toList na (nb + 1)){x:Keyed}(hb:b[nb]? = some x)(i:Nat)(hi:i <= na)(h:∀j y, i <= j -> j < na -> a[j]? = some y -> L x y=true) :
  MJ (leOf L) a.toList b.toList (out++(a.extract i na).reverse).reverse.toList i (nb+1):=by
 have:=m.takeA T.sa i hi λz hz w hw=>by obtain⟨j,hj,e⟩:=zfV hw;exact O.tr z x w (T.Sb z (Bq hz)) (T.Sb x (zaq hb)) (T.Sa w (zaq e)) (zfY O T.sb T.Sb hb hz) (O.as x w (T.Sb x (zaq hb)) (T.Sa w (zaq e)) (h (i+j) w (by lia) (by lia) e))
 have e2:(out++(a.extract i na).reverse).reverse.toList=(a.toList.drop i).take (na-i)++out.reverse.toList:=by simp[DC,CK]
 rw[e2];exact this
theorem zor(O:LtOk M A E s kd S L)(T:Two S L a b)(m:MJ (leOf L) a.toList b.toList out.reverse.toList (na + 1) nb){y:Keyed}(ha:a[na]? = some y)(i:Nat)(hi:i <= nb)(h:∀j x, i <= j -> j < nb -> b[j]? = some x -> L x y=false) :
  MJ (leOf L) a.toList b.toList (out++(b.extract i nb).reverse).reverse.toList (na+1) i:=by
 have:=m.takeB T.sb i hi λz hz w hw=>by obtain⟨j,hj,e⟩:=zfV hw;exact O.tr z y w (T.Sa z (Bq hz)) (T.Sa y (zaq ha)) (T.Sb w (zaq e)) (zfY O T.sa T.Sa ha hz) (h (i+j) w (by lia) (by lia) e)
 have e2:(out++(b.extract i nb).reverse).reverse.toList=(b.toList.drop i).take (nb-i)++out.reverse.toList:=by simp[DC,CK]
 rw[e2];exact this
end
end TS
set_option maxHeartbeats 8000000
namespace TS
open PySem PyProof.Rows
section
variable {M:Model}{A:AY}{E:Ac->Ae->Prop}{s:Ae}{kd:Dl}{S:Keyed->Prop}{L:Keyed->Keyed->Bool}{a b out:Array Keyed}{na nb:Nat}
theorem znQ(O:LtOk M A E s kd S L)(T:Two S L a b){st:AR}(hk:kindOf st=kd){x:Keyed}(Sx:S x){n:Nat}(hn:n <= a.size){Q:Option Nat -> AR -> Prop}
  (hQ:∀k,k<=n->(∀j y,j<k->a[j]?=some y->L x y=false)->(∀j y,k<=j->j<n->a[j]?=some y->L x y=true)->Q (some k) st) {hint:Nat} (hh:hint<n) :
  wpS M A E s (zcc false x a 0 n hint) Q st:=by
 have at_:∀i,i<n->∃y,a[0+i]?=some y:=λi h=>⟨a[0+i]'(by lia),by simp[show i<a.size by lia]⟩
 refine zbr (b:=λi=>!(a[0+i]?.elim false λy=>L x y)) O hk Sx (λi h=>?_) (λi j hij hj q=>?_) hh λk h1 h2 h3=>?_
 .obtain⟨y,e⟩:=at_ i h;exact⟨y,e,T.Sa y (zaq e),by rw[if_neg (by simp),e];rfl⟩
 .obtain⟨y,e⟩:=at_ j hj;obtain⟨z,e2⟩:=at_ i (by lia);rw[e]at q;rw[e2];have q1:L x y=false:=by simpa using q
  have le1:leOf L z y:=zcy O T.sa T.Sa e2 (by
   have:y∈(a.toList.drop (0+i)).drop (j-i):=by rw[List.drop_drop,show 0+i+(j-i)=0+j by lia,zbY e];exact Ap
   exact BG this)
  have:L x z=false:=O.tr z y x (T.Sa z (zaq e2)) (T.Sa y (zaq e)) Sx le1 q1;simpa using this
 .refine hQ k h1 (λj y hj e=>?_) (λj y hj hjn e=>?_)
  .have:=h2 j hj;rw[Da,e]at this;simpa using this
  .have:=h3 j hj hjn;rw[Da,e]at this;simpa using this
theorem znP(O:LtOk M A E s kd S L)(T:Two S L a b){st:AR}(hk:kindOf st=kd){y:Keyed}(Sy:S y){n:Nat}(hn:n <= b.size){Q:Option Nat -> AR -> Prop}
  (hQ:∀k,k<=n->(∀j x,j<k->b[j]?=some x->L x y=true)->(∀j x,k<=j->j<n->b[j]?=some x->L x y=false)->Q (some k) st) {hint:Nat} (hh:hint<n) :
  wpS M A E s (zcc true y b 0 n hint) Q st:=by
 have at_:∀i,i<n->∃x,b[0+i]?=some x:=λi h=>⟨b[0+i]'(by lia),by simp[show i<b.size by lia]⟩
 refine zbr (b:=λi=>b[0+i]?.elim false λx=>L x y) O hk Sy (λi h=>?_) (λi j hij hj q=>?_) hh λk h1 h2 h3=>?_
 .obtain⟨x,e⟩:=at_ i h;exact⟨x,e,T.Sb x (zaq e),by rw[if_pos rfl,e];rfl⟩
 .obtain⟨x,e⟩:=at_ j hj;obtain⟨z,e2⟩:=at_ i (by lia);rw[e]at q;rw[e2];have q1:L x y=true:=q;show L z y=true
  have le1:leOf L z x:=zcy O T.sb T.Sb e2 (by
   have:x∈(b.toList.drop (0+i)).drop (j-i):=by rw[List.drop_drop,show 0+i+(j-i)=0+j by lia,zbY e];exact Ap
   exact BG this)
  cases w:L z y with
  |true=>rfl
  |false =>
   have:L x y=false:=O.tr y z x Sy (T.Sb z (zaq e2)) (T.Sb x (zaq e)) w le1;rw[this]at q1;cases q1
 .refine hQ k h1 (λj x hj e=>?_) (λj x hj hjn e=>?_)
  .have:=h2 j hj;rw[Da,e]at this;exact this
  .have:=h3 j hj hjn;rw[Da,e]at this;exact this
theorem zbp(a:Array Keyed)(i:Nat):(a.extract 0 i).toList=a.toList.take i:=by rw[DC,CK,List.drop_zero,Nat.sub_zero]
theorem end_A(T:Two S L a b)(m:MJ (leOf L) a.toList b.toList out.reverse.toList 0 nb):Res (leOf L) a.toList b.toList (a.extract 0 0++b.extract 0 nb++out.reverse).toList:=by rw[Bp,Bp,zbp,zbp];exact m.doneB T.sb
theorem zol(T:Two S L a b)(m:MJ (leOf L) a.toList b.toList out.reverse.toList na 0):Res (leOf L) a.toList b.toList (a.extract 0 na++b.extract 0 0++out.reverse).toList:=by rw[Bp,Bp,zbp,zbp];exact m.doneA T.sa
theorem end_B (T:Two S L a b) (h0:∀ y,b[0]?=some y→∀ x∈a.toList,leOf L y x) (m:MJ (leOf L) a.toList b.toList out.reverse.toList na 1):Res (leOf L) a.toList b.toList (b.extract 0 1++a.extract 0 na++out.reverse).toList:=by
  rw[Bp,Bp,zbp,zbp]
  refine m.firstB T.sa T.sb λx hx y hy=>?_
  cases hb:b.toList with
  | nil=>rw[hb] at hx;cases hx
  | cons z r =>
    rw[hb] at hx
    have e:x=z:=Am.mp hx
    subst e
    exact h0 x (by have : b.toList[0]? = some x := by rw[hb]; rfl
                   simpa using this) y (Bq hy)
end
end TS
set_option maxHeartbeats 8000000
namespace TS
open PySem PyProof.Rows
section
variable {M:Model}{A:AY}{E:Ac->Ae->Prop}{s:Ae}{kd:Dl}{S:Keyed->Prop}{L:Keyed->Keyed->Bool}{a b out:Array Keyed}{na nb:Nat}
theorem lastA(O:LtOk M A E s kd S L)(T:Two S L a b)(h1:0<na)(h2:0<nb)(m:MJ (leOf L) a.toList b.toList out.reverse.toList na nb){x y:Keyed}(hb:b[nb-1]?=some x)(ha:a[na-1]?=some y)(h:L x y=true):MJ (leOf L) a.toList b.toList (out.push y).reverse.toList (na-1) nb:=by obtain⟨p,rfl⟩:∃p,na=p+1:=⟨na-1,by lia⟩;obtain⟨q,rfl⟩:∃q,nb=q+1:=⟨nb-1,by lia⟩;exact zob O T m hb ha h
theorem lastB(O:LtOk M A E s kd S L)(T:Two S L a b)(h1:0<na)(h2:0<nb)(m:MJ (leOf L) a.toList b.toList out.reverse.toList na nb){x y:Keyed}(hb:b[nb-1]?=some x)(ha:a[na-1]?=some y)(h:L x y=false):MJ (leOf L) a.toList b.toList (out.push x).reverse.toList na (nb-1):=by obtain⟨p,rfl⟩:∃p,na=p+1:=⟨na-1,by lia⟩;obtain⟨q,rfl⟩:∃q,nb=q+1:=⟨nb-1,by lia⟩;exact zoa O T m hb ha h
theorem backA(O:LtOk M A E s kd S L)(T:Two S L a b)(h2:0<nb)(m:MJ (leOf L) a.toList b.toList out.reverse.toList na nb){x:Keyed}(hb:b[nb-1]?=some x)(i:Nat)(hi:i<=na)(h:∀j y,i<=j->j<na->a[j]?=some y->L x y=true):MJ (leOf L) a.toList b.toList (out++(a.extract i na).reverse).reverse.toList i nb:=by obtain⟨q,rfl⟩:∃q,nb=q+1:=⟨nb-1,by lia⟩;exact zos O T m hb i hi h
theorem backB(O:LtOk M A E s kd S L)(T:Two S L a b)(h1:0<na)(m:MJ (leOf L) a.toList b.toList out.reverse.toList na nb){y:Keyed}(ha:a[na-1]?=some y)(i:Nat)(hi:i<=nb)(h:∀j x,i<=j->j<nb->b[j]?=some x->L x y=false):MJ (leOf L) a.toList b.toList (out++(b.extract i nb).reverse).reverse.toList na i:=by obtain⟨p,rfl⟩:∃p,na=p+1:=⟨na-1,by lia⟩;exact zor O T m ha i hi h
noncomputable abbrev RH:=Option (Array Keyed)×Nat×Nat×Array Keyed×Nat×Nat×Nat
noncomputable def hiC(a b:Array Keyed)(na nb:Nat)(out:Array Keyed)(mg ac bc:Nat):StateT AR Sem (ForInStep RH) :=
 elem' a (na-1) >>= λx =>
  if (na-1 == 0)=true then pure (.done (some (a.extract 0 (na-1)++b.extract 0 nb++(out.push x).reverse),na-1,nb,out.push x,mg,ac,bc))
  else if (decide (ac<7) && decide (bc<7))=true then pure (.done (none,na-1,nb,out.push x,mg,ac,bc))
  else pure (.yield (none,na-1,nb,out.push x,mg,ac,bc))
noncomputable def hiB(a b:Array Keyed)(na nb:Nat)(out:Array Keyed)(mg ac bc:Nat):StateT AR Sem (ForInStep RH) :=
 elem' b (nb-1) >>= λx =>
  if (nb-1 == 1)=true then pure (.done (some (b.extract 0 (nb-1)++a.extract 0 na++(out.push x).reverse),na,nb-1,out.push x,mg,ac,bc))
  else elem' a (na-1) >>= λy=>zcc true y b 0 (nb-1) (nb-1-1) >>= λw =>
   match w with
   |some t =>
    if nb-1-t > 0 then
     if (t == 1)=true then pure (.done (some (b.extract 0 t++a.extract 0 na++(out.push x++(b.extract t (nb-1)).reverse).reverse),na,t,out.push x++(b.extract t (nb-1)).reverse,mg,ac,nb-1-t))
     else if (t == 0)=true then pure (.done (some (a.extract 0 na++b.extract 0 t++(out.push x++(b.extract t (nb-1)).reverse).reverse),na,t,out.push x++(b.extract t (nb-1)).reverse,mg,ac,nb-1-t))
     else hiC a b na t (out.push x++(b.extract t (nb-1)).reverse) mg ac (nb-1-t)
    else hiC a b na (nb-1) (out.push x) mg ac (nb-1-t)
   |_=>pure (.done (some (a.extract 0 na++b.extract 0 (nb-1)++(out.push x).reverse),na,nb-1,out.push x,mg,ac,bc))
noncomputable def hiA(a b:Array Keyed)(na nb:Nat)(out:Array Keyed)(mg ac bc:Nat):StateT AR Sem (ForInStep RH) :=
 elem' b (nb-1) >>= λx=>zcc false x a 0 na (na-1) >>= λw =>
  match w with
  |some t =>
   if na-t > 0 then
    if (t == 0)=true then pure (.done (some (a.extract 0 t++b.extract 0 nb++(out++(a.extract t na).reverse).reverse),t,nb,out++(a.extract t na).reverse,mg,na-t,bc))
    else hiB a b t nb (out++(a.extract t na).reverse) mg (na-t) bc
   else hiB a b na nb out mg (na-t) bc
  |_=>pure (.done (some (a.extract 0 na++b.extract 0 nb++out.reverse),na,nb,out,mg,ac,bc))
noncomputable def hiG(a b:Array Keyed)(c:RH):StateT AR Sem (ForInStep RH) :=
 if c.2.2.2.2.1 > 1 then zfa (c.2.2.2.2.1-1) >>= λ_=>hiA a b c.2.1 c.2.2.1 c.2.2.2.1 (c.2.2.2.2.1-1) c.2.2.2.2.2.1 c.2.2.2.2.2.2
 else zfa c.2.2.2.2.1 >>= λ_=>hiA a b c.2.1 c.2.2.1 c.2.2.2.1 c.2.2.2.2.1 c.2.2.2.2.2.1 c.2.2.2.2.2.2
noncomputable abbrev RI:=Option (Array Keyed)×Nat×Nat×Array Keyed×Nat×Nat
noncomputable def hiI(a b:Array Keyed)(mg:Nat)(c:RI):StateT AR Sem (ForInStep RI) :=
 elem' b (c.2.2.1-1) >>= λx=>elem' a (c.2.1-1) >>= λy=>lt' x y >>= λw =>
  match w with
  |some v =>
   if v=true then elem' a (c.2.1-1) >>= λy =>
    if (c.2.1-1 == 0)=true then pure (.done (some (a.extract 0 (c.2.1-1)++b.extract 0 c.2.2.1++(c.2.2.2.1.push y).reverse),c.2.1-1,c.2.2.1,c.2.2.2.1.push y,c.2.2.2.2.1+1,0))
    else if c.2.2.2.2.1+1 ≥ mg then pure (.done (none,c.2.1-1,c.2.2.1,c.2.2.2.1.push y,c.2.2.2.2.1+1,0))
    else pure (.yield (none,c.2.1-1,c.2.2.1,c.2.2.2.1.push y,c.2.2.2.2.1+1,0))
   else elem' b (c.2.2.1-1) >>= λx =>
    if (c.2.2.1-1 == 1)=true then pure (.done (some (b.extract 0 (c.2.2.1-1)++a.extract 0 c.2.1++(c.2.2.2.1.push x).reverse),c.2.1,c.2.2.1-1,c.2.2.2.1.push x,0,c.2.2.2.2.2+1))
    else if c.2.2.2.2.2+1 ≥ mg then pure (.done (none,c.2.1,c.2.2.1-1,c.2.2.2.1.push x,0,c.2.2.2.2.2+1))
    else pure (.yield (none,c.2.1,c.2.2.1-1,c.2.2.2.1.push x,0,c.2.2.2.2.2+1))
  |_=>pure (.done (some (a.extract 0 c.2.1++b.extract 0 c.2.2.1++c.2.2.2.1.reverse),c.2.1,c.2.2.1,c.2.2.2.1,c.2.2.2.2.1,c.2.2.2.2.2))
noncomputable abbrev RO:=Option (Array Keyed)×Nat×Nat×Array Keyed×Nat
noncomputable def hiP(a b:Array Keyed)(mg:Nat)(c:RI):StateT AR Sem (ForInStep RO) :=
 Dm (λ_=>StateT AR Sem (ForInStep RO)) c.1 (λr=>pure (.done (some r,c.2.1,c.2.2.1,c.2.2.2.1,mg))) λ_=>(liftM (rule "list.sort.gallop"):StateT AR Sem Unit) >>= λ_=>forIn [:a.size+b.size] ((none,c.2.1,c.2.2.1,c.2.2.2.1,mg+1,c.2.2.2.2.1,c.2.2.2.2.2):RH) (λ_ c=>hiG a b c) >>= λc =>
  Dm (λ_=>StateT AR Sem (ForInStep RO)) c.1 (λr=>pure (.done (some r,c.2.1,c.2.2.1,c.2.2.2.1,c.2.2.2.2.1))) λ_=>zfa (c.2.2.2.2.1+1) >>= λ_=>pure (.yield (none,c.2.1,c.2.2.1,c.2.2.2.1,c.2.2.2.2.1+1))
noncomputable def hiO(a b:Array Keyed)(c:RO):StateT AR Sem (ForInStep RO) :=
 forIn [:a.size+b.size] ((none,c.2.1,c.2.2.1,c.2.2.2.1,0,0):RI) (λ_ d=>hiI a b c.2.2.2.2 d) >>= λd=>hiP a b c.2.2.2.2 d
noncomputable def zlQ(a b:Array Keyed):StateT AR Sem (Array Keyed) :=
 (liftM (rule "list.sort.merge-hi"):StateT AR Sem Unit) >>= λ_=>elem' a (a.size-1) >>= λx =>
  if (a.size-1 == 0)=true then pure (a.extract 0 (a.size-1)++b.extract 0 b.size++#[x].reverse)
  else if (b.size == 1)=true then pure (b.extract 0 b.size++a.extract 0 (a.size-1)++#[x].reverse)
  else get >>= λs=>forIn [:a.size+b.size] ((none,a.size-1,b.size,#[x],gallopOf s):RO) (λ_ c=>hiO a b c) >>= λc =>
   Dm (λ_=>StateT AR Sem (Array Keyed)) c.1 (λr=>pure r) λ_=>unsupported "internal:list.sort.merge-bound"
theorem zi4(a b:Array Keyed):zfU a b=zlQ a b:=rfl
variable {Q:ForInStep RH->AR->Prop}{z:AR}{N mg ac bc:Nat}{x y:Keyed}
theorem zir(O:LtOk M A E s kd S L)(T:Two S L a b)(hD:∀r na nb out mg ac bc, Res (leOf L) a.toList b.toList r.toList -> Q (.done (some r, na, nb, out, mg, ac, bc)) z)
  (hN:∀na nb out mg ac bc,MJ (leOf L) a.toList b.toList out.reverse.toList na nb->0<na->1<nb->na+nb<=N->na<=a.size->nb<=b.size->Q (.done (none,na,nb,out,mg,ac,bc)) z/\Q (.yield (none,na,nb,out,mg,ac,bc)) z)
  (m:MJ (leOf L) a.toList b.toList out.reverse.toList na nb) (ea:a[na-1]?=some y) (eb:b[nb-1]?=some x) (hw:L x y=true) (g1:0<na) (g2:1<nb) (g3:na+nb<=N) (g4:na<=a.size) (g5:nb<=b.size) :
  wpS M A E s (hiC a b na nb out mg ac bc) Q z:=by
 have n4:=lastA O T g1 (by lia) m eb ea hw;refine Ao (zav ea ?_)
 by_cases e:na-1=0
 .rw[if_pos (by simp[e])];rw[e]at n4;rw[e];exact Az (hD _ _ _ _ _ _ _ (end_A T n4))
 rw[if_neg (by simp[e])];have h:=hN _ _ _ mg ac bc n4 (by lia) g2 (by lia) (by lia) g5;split
 .exact Az h.1
 .exact Az h.2
theorem zis(O:LtOk M A E s kd S L)(T:Two S L a b)(hk:kindOf z=kd)(h0:∀y, b[0]? = some y -> ∀x ∈ a.toList, leOf L y x)(hD:∀r na nb out mg ac bc, Res (leOf L) a.toList b.toList r.toList -> Q (.done (some r, na, nb, out, mg, ac, bc)) z)
  (hN:∀na nb out mg ac bc,MJ (leOf L) a.toList b.toList out.reverse.toList na nb->0<na->1<nb->na+nb<=N->na<=a.size->nb<=b.size->Q (.done (none,na,nb,out,mg,ac,bc)) z/\Q (.yield (none,na,nb,out,mg,ac,bc)) z)
  (m:MJ (leOf L) a.toList b.toList out.reverse.toList na nb) (ea:a[na-1]?=some y) (eb:b[nb-1]?=some x) (hw:L x y=false) (g1:0<na) (g2:1<nb) (g3:na+nb<=N) (g4:na<=a.size) (g5:nb<=b.size) :
  wpS M A E s (hiB a b na nb out mg ac bc) Q z:=by
 have n2:=lastB O T g1 (by lia) m eb ea hw;refine Ao (zav eb ?_)
 by_cases e3:nb-1=1
 .rw[if_pos (by simp[e3])];rw[e3]at n2;rw[e3];exact Az (hD _ _ _ _ _ _ _ (end_B T h0 n2))
 rw[if_neg (by simp[e3])];refine Ao (zav ea ?_);refine Ao (znP O T hk (T.Sa _ (zaq ea)) (by lia) (λt r1 r2 r3=>?_) (by lia));dsimp only
 by_cases hk1:nb-1-t > 0
 .rw[if_pos hk1];have n3:=backB O T g1 n2 ea t r1 r3
  by_cases e4:t=1
  .rw[if_pos (by simp[e4])];rw[e4]at n3;rw[e4];exact Az (hD _ _ _ _ _ _ _ (end_B T h0 n3))
  rw[if_neg (by simp[e4])]
  by_cases e6:t=0
  .rw[if_pos (by simp[e6])];rw[e6]at n3;rw[e6];exact Az (hD _ _ _ _ _ _ _ (zol T n3))
  rw[if_neg (by simp[e6])];have hl:t-1<b.size:=by lia
  exact zir O T hD hN n3 ea (by simp[hl]) (r2 (t-1) b[t-1] (by lia) (by simp[hl])) g1 (by lia) (by lia) g4 (by lia)
 rw[if_neg hk1];have hl:nb-1-1<b.size:=by lia
 exact zir O T hD hN n2 ea (by simp[hl]) (r2 (nb-1-1) b[nb-1-1] (by lia) (by simp[hl])) g1 (by lia) (by lia) g4 (by lia)
theorem zl3(O:LtOk M A E s kd S L)(T:Two S L a b)(hk:kindOf z=kd)(h0:∀y, b[0]? = some y -> ∀x ∈ a.toList, leOf L y x)(hD:∀r na nb out mg ac bc, Res (leOf L) a.toList b.toList r.toList -> Q (.done (some r, na, nb, out, mg, ac, bc)) z)
  (hN:∀na nb out mg ac bc,MJ (leOf L) a.toList b.toList out.reverse.toList na nb->0<na->1<nb->na+nb<=N->na<=a.size->nb<=b.size->Q (.done (none,na,nb,out,mg,ac,bc)) z/\Q (.yield (none,na,nb,out,mg,ac,bc)) z)
  (m:MJ (leOf L) a.toList b.toList out.reverse.toList na nb) (g1:0<na) (g2:1<nb) (g3:na+nb<=N) (g4:na<=a.size) (g5:nb<=b.size) :
  wpS M A E s (hiA a b na nb out mg ac bc) Q z:=by
 have hb:nb-1<b.size:=by lia
 have eb:b[nb-1]?=some b[nb-1]:=by simp[hb]
 refine Ao (zav eb ?_);refine Ao (znQ O T hk (T.Sb _ (zaq eb)) g4 (λt q1 q2 q3=>?_) (by lia));dsimp only
 by_cases hk0:na-t > 0
 .rw[if_pos hk0];have n1:=backA O T (by lia) m eb t q1 q3
  by_cases e1:t=0
  .rw[if_pos (by simp[e1])];rw[e1]at n1;rw[e1];exact Az (hD _ _ _ _ _ _ _ (end_A T n1))
  rw[if_neg (by simp[e1])];have hl:t-1<a.size:=by lia
  exact zis O T hk h0 hD hN n1 (by simp[hl]) eb (q2 (t-1) a[t-1] (by lia) (by simp[hl])) (by lia) g2 (by lia) (by lia) g5
 rw[if_neg hk0];have hl:na-1<a.size:=by lia
 exact zis O T hk h0 hD hN m (by simp[hl]) eb (q2 (na-1) a[na-1] (by lia) (by simp[hl])) g1 g2 g3 g4 g5
theorem zl1{Q:ForInStep RI -> AR -> Prop}(O:LtOk M A E s kd S L)(T:Two S L a b)(hk:kindOf z=kd)(h0:∀y, b[0]? = some y -> ∀x ∈ a.toList, leOf L y x)(m:MJ (leOf L) a.toList b.toList out.reverse.toList na nb)(g1 : 0 < na)(g2 : 1 < nb)(g4:na <= a.size)(g5:nb <= b.size)
  (hD:∀r na nb out ac bc,Res (leOf L) a.toList b.toList r.toList->Q (.done (some r,na,nb,out,ac,bc)) z)
  (hN:∀na' nb' out ac bc,MJ (leOf L) a.toList b.toList out.reverse.toList na' nb'->0<na'->1<nb'->na'+nb'+1<=na+nb->na'<=a.size->nb'<=b.size->Q (.done (none,na',nb',out,ac,bc)) z/\Q (.yield (none,na',nb',out,ac,bc)) z) :
  wpS M A E s (hiI a b mg (none,na,nb,out,ac,bc)) Q z:=by
 obtain⟨xb,eb⟩:∃x,b[nb-1]?=some x:=⟨b[nb-1]'(by lia),by simp[show nb-1<b.size by lia]⟩;obtain⟨xa,ea⟩:∃x,a[na-1]?=some x:=⟨a[na-1]'(by lia),by simp[show na-1<a.size by lia]⟩;refine Ao (zav eb (Ao (zav ea (Ao (O.lt xb xa (T.Sb _ (zaq eb)) (T.Sa _ (zaq ea)) _ _ hk ?_)))));dsimp only
 cases hw:L xb xa with
 |true =>
  rw[if_pos rfl];have m2:=lastA O T g1 (by lia) m eb ea hw;refine Ao (zav ea ?_)
  by_cases e:na-1=0
  .rw[if_pos (by simp[e])];rw[e]at m2;rw[e];exact Az (hD _ _ _ _ _ _ (end_A T m2))
  rw[if_neg (by simp[e])];have h:=hN _ _ _ (ac+1) 0 m2 (by lia) g2 (by lia) (by lia) g5;split
  .exact Az h.1
  .exact Az h.2
 |false =>
  rw[if_neg (by simp)];have m2:=lastB O T g1 (by lia) m eb ea hw;refine Ao (zav eb ?_)
  by_cases e:nb-1=1
  .rw[if_pos (by simp[e])];rw[e]at m2;rw[e];exact Az (hD _ _ _ _ _ _ (end_B T h0 m2))
  rw[if_neg (by simp[e])];have h:=hN _ _ _ 0 (bc+1) m2 g1 (by lia) (by lia) g4 (by lia);split
  .exact Az h.1
  .exact Az h.2
theorem zl2(O:LtOk M A E s kd S L)(T:Two S L a b)(hk:kindOf z=kd)(h0:∀y, b[0]? = some y -> ∀x ∈ a.toList, leOf L y x)(hD:∀z', Like z z' -> ∀r na nb out mg ac bc, Res (leOf L) a.toList b.toList r.toList -> Q (.done (some r, na, nb, out, mg, ac, bc)) z')
  (hN:∀z',Like z z'->∀na nb out mg ac bc,MJ (leOf L) a.toList b.toList out.reverse.toList na nb->0<na->1<nb->na+nb<=N->na<=a.size->nb<=b.size->Q (.done (none,na,nb,out,mg,ac,bc)) z'/\Q (.yield (none,na,nb,out,mg,ac,bc)) z')
  (m:MJ (leOf L) a.toList b.toList out.reverse.toList na nb) (g1:0<na) (g2:1<nb) (g3:na+nb<=N) (g4:na<=a.size) (g5:nb<=b.size) :
  wpS M A E s (hiG a b (none,na,nb,out,mg,ac,bc)) Q z:=by
 have key:∀z',Like z z'->∀mg,wpS M A E s (hiA a b na nb out mg ac bc) Q z':=λz' h mg=>zl3 O T (h.1.trans hk) h0 (hD z' h) (hN z' h) m g1 g2 g3 g4 g5
 unfold hiG;split
 .exact Ao (Ca (key _ (by exact Like.refl z) _))
 .exact Ao (Ca (key _ (by exact Like.refl z) _))
theorem zlZ{Q:ForInStep RO -> AR -> Prop}(O:LtOk M A E s kd S L)(T:Two S L a b)(hk:kindOf z=kd)(h0:∀y, b[0]? = some y -> ∀x ∈ a.toList, leOf L y x)(m:MJ (leOf L) a.toList b.toList out.reverse.toList na nb)(g1 : 0 < na)(g2 : 1 < nb)(g3:na + nb <= N)(g4:na <= a.size)(g5:nb <= b.size)
  (hD:∀z',Like z z'->∀r na nb out mg,Res (leOf L) a.toList b.toList r.toList->Q (.done (some r,na,nb,out,mg)) z')
  (hN:∀z',Like z z'->∀na nb out mg,MJ (leOf L) a.toList b.toList out.reverse.toList na nb->0<na->1<nb->na+nb<=N->na<=a.size->nb<=b.size->Q (.yield (none,na,nb,out,mg)) z') :
  wpS M A E s (hiP a b mg (none,na,nb,out,ac,bc)) Q z:=by
 refine Ao (wpS_lift (B9 ⟨rfl,?_⟩))
 refine Ao (CM (BN (I:=λy c w=>Like z w/\∃na nb out mg ac bc,c=(none,na,nb,out,mg,ac,bc)/\MJ (leOf L) a.toList b.toList out.reverse.toList na nb/\0<na/\1<nb/\na+nb<=N/\na<=a.size/\nb<=b.size)
  (Q:=λc w=>Like z w/\((∃r,c.1=some r/\Res (leOf L) a.toList b.toList r.toList)∨∃na nb out mg ac bc,c=(none,na,nb,out,mg,ac,bc)/\MJ (leOf L) a.toList b.toList out.reverse.toList na nb/\0<na/\1<nb/\na+nb<=N/\na<=a.size/\nb<=b.size)) ?_ ?_ ⟨Like.refl _,_,_,_,_,_,_,rfl,m,g1,g2,g3,g4,g5⟩) ?_)
 .rintro y c w _ hy ⟨lk,na,nb,out,mg,ac,bc,rfl,m,k1,k2,k3,k4,k5⟩;exact zl2 O T (lk.1.trans hk) h0 (λw' h r _ _ _ _ _ _ e=>⟨Like.tr lk h,.inl ⟨r,rfl,e⟩⟩) (λw' h _ _ _ _ _ _ e u1 u2 u3 u4 u5=>⟨⟨Like.tr lk h,.inr ⟨_,_,_,_,_,_,rfl,e,u1,u2,u3,u4,u5⟩⟩,Like.tr lk h,_,_,_,_,_,_,rfl,e,u1,u2,u3,u4,u5⟩) m k1 k2 k3 k4 k5
 .rintro c w ⟨lk,r⟩;exact⟨lk,.inr r⟩
 .rintro c w ⟨lk,hc⟩;rcases hc with⟨r,e,res⟩ |⟨na,nb,out,mg,ac,bc,rfl,m,k1,k2,k3,k4,k5⟩
  .rw[e];exact Az (hD w lk _ _ _ _ _ res)
  .exact Ao (Ca (Az (hN _ (by exact lk) _ _ _ _ m k1 k2 k3 k4 k5)))
theorem zl0{Q:ForInStep RO -> AR -> Prop}(O:LtOk M A E s kd S L)(T:Two S L a b)(hk:kindOf z=kd)(h0:∀y, b[0]? = some y -> ∀x ∈ a.toList, leOf L y x)(m:MJ (leOf L) a.toList b.toList out.reverse.toList na nb)(g1 : 0 < na)(g2 : 1 < nb)(g3:na + nb <= a.size + b.size)(g4:na <= a.size)(g5:nb <= b.size)
  (hD:∀z',Like z z'->∀r na nb out mg,Res (leOf L) a.toList b.toList r.toList->Q (.done (some r,na,nb,out,mg)) z')
  (hN:∀z',Like z z'->∀na' nb' out mg,MJ (leOf L) a.toList b.toList out.reverse.toList na' nb'->0<na'->1<nb'->na'+nb'+1<=na+nb->na'<=a.size->nb'<=b.size->Q (.yield (none,na',nb',out,mg)) z') :
  wpS M A E s (hiO a b (none,na,nb,out,mg)) Q z:=by
 refine Ao (CM (BN (I:=λy c w=>w=z/\∃na' nb' out ac bc,c=(none,na',nb',out,ac,bc)/\MJ (leOf L) a.toList b.toList out.reverse.toList na' nb'/\0<na'/\1<nb'/\na'+nb'+y<=na+nb/\na'<=a.size/\nb'<=b.size)
  (Q:=λc w=>w=z/\((∃r,c.1=some r/\Res (leOf L) a.toList b.toList r.toList)∨∃na' nb' out ac bc,c=(none,na',nb',out,ac,bc)/\MJ (leOf L) a.toList b.toList out.reverse.toList na' nb'/\0<na'/\1<nb'/\na'+nb'+1<=na+nb/\na'<=a.size/\nb'<=b.size)) ?_ ?_ ⟨rfl,_,_,_,_,_,rfl,m,g1,g2,by lia,g4,g5⟩) ?_)
 .rintro y c w _ hy ⟨rfl,na',nb',out',ac,bc,rfl,m',j1,j2,j3,j4,j5⟩;exact zl1 O T hk h0 m' j1 j2 j4 j5 (λr _ _ _ _ _ e=>⟨rfl,.inl ⟨r,rfl,e⟩⟩) λ_ _ _ _ _ e u1 u2 u3 u4 u5=>⟨⟨rfl,.inr ⟨_,_,_,_,_,rfl,e,u1,u2,by lia,u4,u5⟩⟩,rfl,_,_,_,_,_,rfl,e,u1,u2,by lia,u4,u5⟩
 .rintro c w ⟨rfl,na',nb',out',ac,bc,rfl,m',j1,j2,j3,j4,j5⟩;exact⟨rfl,.inr ⟨na',nb',out',ac,bc,rfl,m',j1,j2,by lia,j4,j5⟩⟩
 .rintro c w ⟨rfl,hc⟩;rcases hc with⟨r,e,res⟩ |⟨na',nb',out',ac,bc,rfl,m',j1,j2,j3,j4,j5⟩
  .unfold hiP;rw[e];exact Az (hD _ (Like.refl _) _ _ _ _ _ res)
  .exact zlZ (N:=na'+nb') O T hk h0 m' j1 j2 (Ai _) j4 j5 hD λz' h _ _ _ _ e u1 u2 u3 u4 u5=>hN z' h _ _ _ _ e u1 u2 (by lia) u4 u5
end
section
variable {M:Model}{A:AY}{E:Ac->Ae->Prop}{s:Ae}{kd:Dl}{S:Keyed->Prop}{L:Keyed->Keyed->Bool}{a b:Array Keyed}
theorem zgN(O:LtOk M A E s kd S L)(T:Two S L a b){st:AR}{Q:Array Keyed -> AR -> Prop}(hk:kindOf st=kd)(ha : 0 < a.size)(hb : 0 < b.size)(h0:∀y, b[0]? = some y -> ∀x ∈ a.toList, leOf L y x)
  (hl:∀z,a[a.size-1]?=some z->∀x∈b.toList,leOf L x z) (hQ:∀r st',Res (leOf L) a.toList b.toList r.toList->Like st st'->Q r st'):wpS M A E s (zfU a b) Q st:=by
 rw[zi4];have atA:∀i,i<a.size->∃x,a[i]?=some x:=λi h=>⟨a[i],by simp[h]⟩
 have atB:∀i,i<b.size->∃x,b[i]?=some x:=λi h=>⟨b[i],by simp[h]⟩
 obtain⟨a1,e1⟩:=atA (a.size-1) (by lia);have mS:MJ (leOf L) a.toList b.toList (#[]:Array Keyed).reverse.toList a.size b.size:=⟨by simp,by simp,by rw[B5 (by simp),B5 (by simp)];simp,by simp,(λ_ _ _ h=>by simp at h),(λ_ _ _ h=>by simp at h)⟩
 have m0:MJ (leOf L) a.toList b.toList (#[a1]:Array Keyed).reverse.toList (a.size-1) b.size:=by
  have hc:=zeD e1;rw[show a.size-1+1=a.size by lia]at hc
  have:=mS.takeA T.sa (a.size-1) (by lia) λx hx y hy=>by rw[hc]at hy;rw[Am.mp hy];exact hl a1 e1 x (Bq hx)
  rw[hc]at this;simpa using this
 refine Ao (wpS_lift (B9 ⟨rfl,?_⟩));refine Ao (zav e1 ?_)
 by_cases ha1:a.size-1=0
 .rw[if_pos (by simp[ha1])];rw[ha1]at m0;rw[ha1];exact Az (hQ _ _ (end_A T m0) (Like.refl _))
 rw[if_neg (by simp[ha1])]
 by_cases hb1:b.size=1
 .rw[if_pos (by simp[hb1])];rw[hb1]at m0;rw[hb1];exact Az (hQ _ _ (end_B T h0 m0) (Like.refl _))
 rw[if_neg (by simp[hb1])];refine Ao (EK ?_)
 refine Ao (CM (BN (I:=λx c st'=>Like st st'/\∃na nb out mg,c=(none,na,nb,out,mg)/\MJ (leOf L) a.toList b.toList out.reverse.toList na nb/\0<na/\1<nb/\na+nb+x+1<=a.size+b.size/\na<=a.size/\nb<=b.size)
  (Q:=λc st'=>Like st st'/\∃r,c.1=some r/\Res (leOf L) a.toList b.toList r.toList) ?step ?fin ⟨Like.refl _,_,_,_,_,rfl,m0,by lia,by lia,by lia,by lia,by lia⟩) ?post)
 case fin =>
  rintro c st' ⟨_,na,nb,out,mg,rfl,m,g1,g2,g3,g4,g5⟩;exact absurd g3 (by lia)
 case post =>
  rintro c st' ⟨lk,r,e,res⟩;rw[e];exact Az (hQ r st' res lk)
 case step =>
  rintro x c st' _ hx ⟨lk,na,nb,out,mg,rfl,m,g1,g2,g3,g4,g5⟩;exact zl0 O T (lk.1.trans hk) h0 m g1 g2 (by lia) g4 g5 (λz' h r _ _ _ _ e=>⟨Like.tr lk h,r,rfl,e⟩) λz' h _ _ _ _ e u1 u2 u3 u4 u5=>⟨Like.tr lk h,_,_,_,_,rfl,e,u1,u2,by lia,u4,u5⟩
end
end TS
namespace TS
open PySem PyProof.Rows
section
variable {M:Model}{A:AY}{E:Ac->Ae->Prop}{s:Ae}{kd:Dl}{S:Keyed->Prop}{L:Keyed->Keyed->Bool}
noncomputable def Seg(L:Keyed->Keyed->Bool)(a:Array Keyed)(lo n:Nat):Prop:=∀(i j:Nat) x y,i<=j->j<n->a[lo+i]?=some x->a[lo+j]?=some y->L y x=false
noncomputable def Rev(L:Keyed->Keyed->Bool)(a:Array Keyed)(lo n:Nat):Prop:=∀(i j:Nat) x y,i<=j->j<n->a[lo+i]?=some x->a[lo+j]?=some y->L x y=false
structure SB (kd:Dl) (S:Keyed->Prop) (st0 st:AR) (lo hi:Nat):Prop where
 kind:kindOf st=kd
 pend:AV st=AV st0
 fail:CW st=CW st0
 perm:(AB st).Perm (AB st0)
 out:∀k:Nat,k<lo∨hi<=k->(AB st)[k]?=(AB st0)[k]?
 all:∀(k:Nat) x,(AB st)[k]?=some x->S x
theorem SB.size{st0 st:AR}{lo hi:Nat}(h:SB kd S st0 st lo hi):(AB st).size=(AB st0).size:=h.perm.size_eq
theorem ze1(O:LtOk M A E s kd S L){st:AR}{i j:Nat}{x y:Keyed}{Q:Option Bool->AR->Prop}(hk:kindOf st=kd)(hi:(AB st)[i]?=some x)(hj:(AB st)[j]?=some y)(sx:S x)(sy:S y)(q:Q (some (L x y)) st):wpS M A E s (ltAt' i j) Q st:=by rw[ltAt'_eq];refine Ao (EK ?_);refine Ao (zav hi ?_);refine Ao (zav hj ?_);exact O.lt x y sx sy st Q hk q
theorem zbn{st:AR}{i:Nat}(h:i<(AB st).size):∃x,(AB st)[i]?=some x:=⟨(AB st)[i],by simp[h]⟩
theorem Seg.more(O:LtOk M A E s kd S L){a:Array Keyed}{lo n:Nat}{x y:Keyed}(hS:∀(k:Nat) x,a[k]?=some x->S x)(h:Seg L a lo (n+1))(hx:a[lo+n]?=some x)(hy:a[lo+(n+1)]?=some y)(hl:L y x=false):Seg L a lo (n+2):=by
 intro i j u v hij hj hu hv;rcases A6 j (n+1) with q |q
 .exact h i j u v hij q hu hv
 .have ej:j=n+1:=by lia
  subst ej;rw[hy]at hv
  cases hv
  rcases A6 i (n+1) with q2 |q2
  .have h1:=h i n u x (by lia) (by lia) hu hx;exact O.tr u x y (hS _ _ hu) (hS _ _ hx) (hS _ _ hy) h1 hl
  .have ei:i=n+1:=by lia
   subst ei;rw[hy]at hu
   cases hu
   exact O.rf (hS _ _ hy)
noncomputable def Blk(L:Keyed->Keyed->Bool)(a:Array Keyed)(lo n q:Nat):Prop:=∀(i j:Nat) x y,n-(q+1)<=i->i<n->n-(q+1)<=j->j<n->a[lo+i]?=some x->a[lo+j]?=some y->L x y=false
theorem SB.refl{st:AR}{lo hi:Nat}(hk:kindOf st=kd)(hS:∀(k:Nat) x,(AB st)[k]?=some x->S x):SB kd S st st lo hi:=⟨hk,rfl,rfl,EL _,λ_ _=>rfl,hS⟩
theorem SB.mir{st0 st:AR}{lo hi i j:Nat}(h:SB kd S st0 st lo hi)(h1:lo<=i)(h2:j<=hi)(hz:j<=(AB st).size):SB kd S st0 (setArr st (mirror (AB st) i j ((j-i) / 2))) lo hi:=by
 refine⟨h.kind,h.pend,h.fail,(mirror_perm _ _ _ _).trans h.perm,λk hk=>?_,λk x hx=>?_⟩
 .show (mirror (AB st) i j ((j-i) / 2))[k]?=_;rw[B7 hz,if_neg (by lia)];exact h.out k hk
 .have hx':(mirror (AB st) i j ((j-i) / 2))[k]?=some x:=hx;rw[B7 hz]at hx';split at hx'
  .exact h.all _ x hx'
  .exact h.all _ x hx'
theorem Rev.blk{a:Array Keyed}{lo n q:Nat}(h:Rev L a lo n)(hb:Blk L a lo n q)(hq:q<n)(hz:lo+n<=a.size):Rev L (mirror a (lo+n-(q+1)) (lo+n) ((lo+n-(lo+n-(q+1))) / 2)) lo n:=by
 intro i j x y hij hj hx hy;rw[B7 hz]at hx hy
 by_cases hi:lo+n-(q+1)<=lo+i/\lo+i<lo+n
 .rw[if_pos hi]at hx;rw[if_pos (by lia)]at hy;rw[show lo+n-(q+1)+(lo+n)-1-(lo+i)=lo+(n-(q+1)+n-1-i) by lia]at hx;rw[show lo+n-(q+1)+(lo+n)-1-(lo+j)=lo+(n-(q+1)+n-1-j) by lia]at hy;exact hb _ _ x y (by lia) (by lia) (by lia) (by lia) hx hy
 .rw[if_neg hi]at hx
  by_cases hj':lo+n-(q+1)<=lo+j/\lo+j<lo+n
  .rw[if_pos hj']at hy;rw[show lo+n-(q+1)+(lo+n)-1-(lo+j)=lo+(n-(q+1)+n-1-j) by lia]at hy;exact h i _ x y (by lia) (by lia) hx hy
  .rw[if_neg hj']at hy;exact h i j x y hij hj hx hy
theorem Rev.flip{a:Array Keyed}{lo n:Nat}(h:Rev L a lo n)(hz:lo+n<=a.size):Seg L (mirror a lo (lo+n) ((lo+n-lo) / 2)) lo n:=by intro i j x y hij hj hx hy;rw[B7 hz,if_pos (by lia)]at hx hy;rw[show lo+(lo+n)-1-(lo+i)=lo+(n-1-i) by lia]at hx;rw[show lo+(lo+n)-1-(lo+j)=lo+(n-1-j) by lia]at hy;exact h _ _ y x (by lia) (by lia) hy hx
theorem Rev.more(O:LtOk M A E s kd S L){a:Array Keyed}{lo n:Nat}{x y:Keyed}(hS:∀(k:Nat) x,a[k]?=some x->S x)(h:Rev L a lo (n+1))(hx:a[lo+n]?=some x)(hy:a[lo+(n+1)]?=some y)(hl:L x y=false):Rev L a lo (n+2):=by
 intro i j u v hij hj hu hv;rcases A6 j (n+1) with q |q
 .exact h i j u v hij q hu hv
 .have ej:j=n+1:=by lia
  subst ej;rw[hy]at hv
  cases hv
  rcases A6 i (n+1) with q2 |q2
  .have h1:=h i n u x (by lia) (by lia) hu hx;exact O.tr y x u (hS _ _ hy) (hS _ _ hx) (hS _ _ hu) hl h1
  .have ei:i=n+1:=by lia
   subst ei;rw[hy]at hu
   cases hu
   exact O.rf (hS _ _ hy)
theorem Blk.more(O:LtOk M A E s kd S L){a:Array Keyed}{lo n q:Nat}{x y:Keyed}(hS:∀(k:Nat) x,a[k]?=some x->S x)(h:Blk L a lo (n+1) q)(hq:q<n+1)(hx:a[lo+n]?=some x)(hy:a[lo+(n+1)]?=some y)(h1:L x y=false)(h2:L y x=false):Blk L a lo (n+2) (q+1):=by
 have old:∀(i:Nat) u,n+1-(q+1)<=i->i<n+1->a[lo+i]?=some u->L u y=false/\L y u=false:=λi u a1 a2 hu=>by have e1:=h i n u x a1 a2 (by lia) (by lia) hu hx;have e2:=h n i x u (by lia) (by lia) a1 a2 hx hu;exact⟨O.tr y x u (hS _ _ hy) (hS _ _ hx) (hS _ _ hu) h1 e1,O.tr u x y (hS _ _ hu) (hS _ _ hx) (hS _ _ hy) e2 h2⟩
 intro i j u v a1 a2 b1 b2 hu hv;rcases A6 i (n+1) with ci |ci
 .rcases A6 j (n+1) with cj |cj
  .exact h i j u v (by lia) ci (by lia) cj hu hv
  .have ej:j=n+1:=by lia
   subst ej;rw[hy]at hv;cases hv;exact (old i u (by lia) ci hu).1
 .have ei:i=n+1:=by lia
  subst ei;rw[hy]at hu;cases hu;rcases A6 j (n+1) with cj |cj
  .exact (old j v (by lia) cj hv).2
  .have ej:j=n+1:=by lia
   subst ej;rw[hy]at hv;cases hv;exact O.rf (hS _ _ hy)
theorem Blk.one(O:LtOk M A E s kd S L){a:Array Keyed}{lo n:Nat}(hS:∀(k:Nat) x,a[k]?=some x->S x):Blk L a lo (n+1) 0:=λi j x y a1 a2 b1 b2 hx hy=>by
 have ei:i=n:=by lia
 have ej:j=n:=by lia
 subst ei;subst ej;rw[hx]at hy;cases hy;exact O.rf (hS _ _ hx)
theorem zgm{B:Prop}{D:AR->Prop}(C:AR->Prop)(g:(∀st,D st->C st)->B)(h:∀st,D st->C st):B:=g h
theorem zf6 (O : LtOk M A E s kd S L){st : AR}{lo nrem : Nat}{Q : Option Nat → AR → Prop}(h1 : 1 ≤ nrem) (hz : lo + nrem ≤ (AB st).size) (hk : kindOf st = kd) (hS : ∀ (k : Nat) x, (AB st)[k]? = some x → S x)
    (hQ:∀ m st',SB kd S st st' lo (lo+nrem)→1≤m→m≤nrem→Seg L (AB st') lo m→Q (some m) st'):wpS M A E s (countRun' lo nrem) Q st:=by
  rw[countRun'_eq]
  refine Ao (CM (BN (I:=λx c st'=>c=(none,x)∧st'=st∧x≤nrem∧Seg L (AB st) lo x)
    (Q:=λc st'=>∃ m,c=(none,m)∧st'=st∧1≤m∧m≤nrem∧Seg L (AB st) lo m∧(m<nrem→∃ x y,(AB st)[lo+m]?=some x∧(AB st)[lo+m - 1]?=some y∧L x y=true)) ?step ?fin ?init) ?post)
  case init =>
    refine⟨rfl,rfl,h1,λi j x y hij hj hx hy=>?_⟩
    have ei:i=0:=by lia
    have ej:j=0:=by lia
    subst ei;subst ej
    rw[hx] at hy
    cases hy
    exact O.rf (hS _ _ hx)
  case fin =>
    rintro c st' ⟨rfl,rfl,hle,hsg⟩
    exact⟨_,rfl,rfl,by lia,hle,hsg,λh=>absurd h (by lia)⟩
  case step =>
    rintro n c st' hn1 hn2 ⟨rfl,rfl,hle,hsg⟩
    obtain⟨x,hx⟩:=zbn (st:=st') (i:=lo+n) (by lia)
    obtain⟨y,hy⟩:=zbn (st:=st') (i:=lo+n - 1) (by lia)
    refine Ao (ze1 O hk hx hy (hS _ _ hx) (hS _ _ hy) ?_)
    dsimp only
    by_cases hl:L x y=true
    . rw[if_pos hl]
      exact Az ⟨n,rfl,rfl,hn1,hle,hsg,λ_=>⟨x,y,hx,hy,hl⟩⟩
    . rw[if_neg hl]
      refine Az ⟨rfl,rfl,hn2,?_⟩
      obtain⟨p,rfl⟩:∃ p,n=p+1:=⟨n - 1,by lia⟩
      exact hsg.more O hS (by rw[show lo+(p+1) - 1=lo+p by lia] at hy;exact hy) hx (by simpa using hl)
  case post =>
    rintro c st' ⟨m,rfl,rfl,hm1,hm2,hsg,hnx⟩
    dsimp only
    by_cases hmn:(m == nrem)=true
    . rw[if_pos hmn]
      exact Az (hQ m st' (SB.refl hk hS) hm1 hm2 hsg)
    . rw[if_neg hmn]
      have hlt : m < nrem := by have : m ≠ nrem := by simpa using hmn
                                lia
      obtain⟨x0,y0,hx0,hy0,hl0⟩:=hnx hlt
      refine zgm (D:=λst1=>SB kd S st' st1 lo (lo+nrem)∧Rev L (AB st1) lo m∧(∃ x y,(AB st1)[lo+m]?=some x∧(AB st1)[lo+m - 1]?=some y∧L y x=false)) ?C (λshare=>?g) ?h
      case g =>
        by_cases hm:m > 1
        . rw[if_pos hm]
          obtain⟨a,ha⟩:=zbn (st:=st') (i:=lo) (by lia)
          obtain⟨b,hb⟩:=zbn (st:=st') (i:=lo+m - 1) (by lia)
          refine Ao (ze1 O hk ha hb (hS _ _ ha) (hS _ _ hb) ?_)
          dsimp only
          by_cases hr:L a b=true
          . rw[if_pos hr]
            exact Az (hQ m st' (SB.refl hk hS) hm1 hm2 hsg)
          . rw[if_neg hr]
            have hr':L a b=false:=by simpa using hr
            rw[reverseSlice'_eq]
            refine Ao (Ca ?_)
            have hz2:lo+m≤(AB st').size:=by lia
            have hb':(AB st')[lo+(m - 1)]?=some b:=by rw[show lo+(m - 1)=lo+m - 1 by lia];exact hb
            have eqv:Rev L (AB st') lo m:=λi j x y hij hj hx hy=>by
              have e1:=hsg 0 j a y (by lia) hj (by simpa using ha) hy
              have e2:=hsg i (m - 1) x b (by lia) (by lia) hx hb'
              have e3:=O.tr x b a (hS _ _ hx) (hS _ _ hb) (hS _ _ ha) e2 hr'
              have e4:=hsg j (m - 1) y b (by lia) (by lia) hy hb'
              have e5:=hsg 0 i a x (by lia) (by lia) (by simpa using ha) hx
              exact O.tr y b x (hS _ _ hy) (hS _ _ hb) (hS _ _ hx) e4 (O.tr b a x (hS _ _ hb) (hS _ _ ha) (hS _ _ hx) hr' e5)
            have rv2:Rev L (mirror (AB st') lo (lo+m) ((lo+m - lo) / 2)) lo m:=λi j x y hij hj hx hy=>by
              rw[B7 hz2,if_pos (by lia)] at hx hy
              rw[show lo+(lo+m) - 1 - (lo+i)=lo+(m - 1 - i) by lia] at hx
              rw[show lo+(lo+m) - 1 - (lo+j)=lo+(m - 1 - j) by lia] at hy
              exact hsg _ _ y x (by lia) (by lia) hy hx
            refine share _ ⟨(SB.refl hk hS).mir (Ai _) (by lia) hz2,rv2,x0,a,?_,?_,?_⟩
            . show (mirror (AB st') lo (lo+m) ((lo+m - lo) / 2))[lo+m]?=_
              rw[B7 hz2,if_neg (by lia)];exact hx0
            . show (mirror (AB st') lo (lo+m) ((lo+m - lo) / 2))[lo+m - 1]?=_
              rw[B7 hz2,if_pos (by lia),show lo+(lo+m) - 1 - (lo+m - 1)=lo by lia];exact ha
            . have eb:b=y0:=by rw[hb] at hy0;exact A9 hy0
              subst eb
              exact O.tr x0 b a (hS _ _ hx0) (hS _ _ hb) (hS _ _ ha) (O.as x0 b (hS _ _ hx0) (hS _ _ hb) hl0) hr'
        . rw[if_neg hm]
          have em:m=1:=by lia
          subst em
          refine share _ ⟨SB.refl hk hS,λi j x y hij hj hx hy=>?_,x0,y0,hx0,hy0,O.as x0 y0 (hS _ _ hx0) (hS _ _ hy0) hl0⟩
          have ei:i=0:=by lia
          have ej:j=0:=by lia
          subst ei;subst ej
          rw[hx] at hy;cases hy
          exact O.rf (hS _ _ hx)
      case h =>
        rintro st1 ⟨sb1,rv1,x1,y1,hx1,hy1,hl1⟩
        have hz1:lo+nrem≤(AB st1).size:=by rw[sb1.size];exact hz
        refine Ao (wpS_lift (B9 ⟨rfl,?_⟩))
        obtain⟨p,rfl⟩:∃ p,m=p+1:=⟨m - 1,by lia⟩
        rw[show lo+(p+1) - 1=lo+p by lia] at hy1
        have rv2:Rev L (AB st1) lo (p+1+1):=rv1.more O sb1.all hy1 hx1 hl1
        refine Ao (CM (BN (I:=λx c st2=>∃ q,c=(none,x,q)∧SB kd S st' st2 lo (lo+nrem)∧1≤x∧x≤nrem∧q<x∧Rev L (AB st2) lo x∧Blk L (AB st2) lo x q)
          (Q:=λc st2=>∃ x q,c=(none,x,q)∧SB kd S st' st2 lo (lo+nrem)∧1≤x∧x≤nrem∧q<x∧Rev L (AB st2) lo x∧Blk L (AB st2) lo x q) ?step ?fin ⟨0,rfl,sb1,by lia,by lia,by lia,rv2,Blk.one O sb1.all⟩) ?post)
        case fin =>
          rintro c st2 ⟨q,rfl,hh⟩
          exact⟨_,q,rfl,hh⟩
        case step =>
          rintro x c st2 hx1' hx2 ⟨q,rfl,sb2,hn1,hn2,hq,rv,bk⟩
          have hz2:lo+nrem≤(AB st2).size:=by rw[sb2.size];exact hz
          obtain⟨u,hu⟩:=zbn (st:=st2) (i:=lo+x) (by lia)
          obtain⟨v,hv⟩:=zbn (st:=st2) (i:=lo+x - 1) (by lia)
          obtain⟨r,rfl⟩:∃ r,x=r+1:=⟨x - 1,by lia⟩
          rw[show lo+(r+1) - 1=lo+r by lia] at hv
          refine Ao (ze1 O sb2.kind hu (by rw[show lo+(r+1) - 1=lo+r by lia];exact hv) (sb2.all _ _ hu) (sb2.all _ _ hv) ?_)
          dsimp only
          by_cases hl:L u v=true
          . rw[if_pos hl]
            have hvu:=O.as u v (sb2.all _ _ hu) (sb2.all _ _ hv) hl
            by_cases hq0:q > 0
            . rw[if_pos hq0,reverseSlice'_eq]
              refine Ao (Ca ?_)
              have hzr:lo+(r+1)≤(AB st2).size:=by lia
              have sb3:=sb2.mir (i:=lo+(r+1) - (q+1)) (j:=lo+(r+1)) (by lia) (by lia) hzr
              have rv3:=rv.blk bk hq hzr
              refine Az ⟨0,rfl,sb3,by lia,by lia,by lia,?_,Blk.one O sb3.all⟩
              have hz3:r<r+1:=by lia
              obtain⟨v2,hv2⟩:=zbn (st:=setArr st2 (mirror (AB st2) (lo+(r+1) - (q+1)) (lo+(r+1)) ((lo+(r+1) - (lo+(r+1) - (q+1))) / 2))) (i:=lo+r) (by show lo+r<(mirror (AB st2) _ _ _).size;rw[mirror_size];lia)
              have hv2':(AB st2)[lo+(r+1 - (q+1)+r - r)]?=some v2:=by
                have h0:(mirror (AB st2) (lo+(r+1) - (q+1)) (lo+(r+1)) ((lo+(r+1) - (lo+(r+1) - (q+1))) / 2))[lo+r]?=some v2:=hv2
                rw[B7 hzr,if_pos (by lia),show lo+(r+1) - (q+1)+(lo+(r+1)) - 1 - (lo+r)=lo+(r+1 - (q+1)+r - r) by lia] at h0
                exact h0
              refine rv3.more O sb3.all hv2 (y:=u) ?_ ?_
              . show (mirror (AB st2) (lo+(r+1) - (q+1)) (lo+(r+1)) ((lo+(r+1) - (lo+(r+1) - (q+1))) / 2))[lo+(r+1)]?=some u
                rw[B7 hzr,if_neg (by lia)];exact hu
              . exact O.tr u v v2 (sb2.all _ _ hu) (sb2.all _ _ hv) (sb2.all _ _ hv2') hvu (rv _ r v2 v (by lia) (by lia) hv2' hv)
            . rw[if_neg hq0]
              exact Az ⟨0,rfl,sb2,by lia,by lia,by lia,rv.more O sb2.all hv hu hvu,Blk.one O sb2.all⟩
          . rw[if_neg hl]
            have hl':L u v=false:=by simpa using hl
            refine Ao (ze1 O sb2.kind (by rw[show lo+(r+1) - 1=lo+r by lia];exact hv) hu (sb2.all _ _ hv) (sb2.all _ _ hu) ?_)
            dsimp only
            by_cases hg:L v u=true
            . rw[if_pos hg]
              exact Az ⟨r+1,q,rfl,sb2,hn1,hn2,hq,rv,bk⟩
            . rw[if_neg hg]
              have hg':L v u=false:=by simpa using hg
              exact Az ⟨q+1,rfl,sb2,by lia,by lia,by lia,rv.more O sb2.all hv hu hg',bk.more O sb2.all hq hv hu hg' hl'⟩
        case post =>
          rintro c st2 ⟨x,q,rfl,sb2,hx1',hx2,hq,rv,bk⟩
          dsimp only
          have hz2:lo+nrem≤(AB st2).size:=by rw[sb2.size];exact hz
          refine zgm (D:=λst3=>SB kd S st' st3 lo (lo+nrem)∧Rev L (AB st3) lo x) ?C2 (λshare=>?g2) ?h2
          case g2 =>
            by_cases hq0:q > 0
            . rw[if_pos hq0,reverseSlice'_eq]
              refine Ao (Ca ?_)
              exact share _ ⟨sb2.mir (by lia) (by lia) (by lia),rv.blk bk hq (by lia)⟩
            . rw[if_neg hq0]
              exact share _ ⟨sb2,rv⟩
          case h2 =>
            rintro st3 ⟨sb3,rv3⟩
            have hz3:lo+nrem≤(AB st3).size:=by rw[sb3.size];exact hz
            rw[reverseSlice'_eq]
            refine Ao (Ca ?_)
            have sb4:=sb3.mir (i:=lo) (j:=lo+x) (Ai _) (by lia) (by lia)
            have sg4:=rv3.flip (show lo+x≤(AB st3).size by lia)
            have sg5:Seg L (AB (setArr st3 (mirror (AB st3) lo (lo+x) ((lo+x - lo) / 2)))) lo x:=sg4
            generalize setArr st3 (mirror (AB st3) lo (lo+x) ((lo+x - lo) / 2))=st4 at sb4 sg5
            have hz4:lo+nrem≤(AB st4).size:=by rw[sb4.size];exact hz
            refine Ao (CM (BN (I:=λn c st5=>c=(none,n)∧st5=st4∧n≤nrem∧Seg L (AB st4) lo n) (Q:=λc st5=>∃ m,c=(none,m)∧st5=st4∧1≤m∧m≤nrem∧Seg L (AB st4) lo m) ?step ?fin ⟨rfl,rfl,hx2,sg5⟩) ?post)
            case fin =>
              rintro c st5 ⟨rfl,rfl,hle,hsg⟩
              exact⟨_,rfl,rfl,by lia,hle,hsg⟩
            case step =>
              rintro n c st5 hn1 hn2 ⟨rfl,rfl,hle,hsg⟩
              obtain⟨u,hu⟩:=zbn (st:=st5) (i:=lo+n) (by lia)
              obtain⟨v,hv⟩:=zbn (st:=st5) (i:=lo+n - 1) (by lia)
              refine Ao (ze1 O sb4.kind hu hv (sb4.all _ _ hu) (sb4.all _ _ hv) ?_)
              dsimp only
              by_cases hl:L u v=true
              . rw[if_pos hl]
                exact Az ⟨n,rfl,rfl,by lia,hle,hsg⟩
              . rw[if_neg hl]
                refine Az ⟨rfl,rfl,hn2,?_⟩
                obtain⟨p,rfl⟩:∃ p,n=p+1:=⟨n - 1,by lia⟩
                exact hsg.more O sb4.all (by rw[show lo+(p+1) - 1=lo+p by lia] at hv;exact hv) hu (by simpa using hl)
            case post =>
              rintro c st5 ⟨n,rfl,rfl,h1n,hn2,hsg⟩
              exact Az (hQ n st5 sb4 h1n hn2 hsg)
end
end TS
namespace TS
open PySem PyProof.Rows
section
variable {M:Model}{A:AY}{E:Ac->Ae->Prop}{s:Ae}{kd:Dl}{S:Keyed->Prop}{L:Keyed->Keyed->Bool}
theorem SB.bub{st0 st:AR}{lo hi i d:Nat}(h:SB kd S st0 st lo hi)(h1:lo<=i-d)(hd:d<=i)(h2:i<hi)(hz:i<(AB st).size):SB kd S st0 (setArr st (bubble (AB st) i d)) lo hi:=by
 refine⟨h.kind,h.pend,h.fail,(bubble_perm _ _ _).trans h.perm,λk hk=>?_,λk x hx=>?_⟩
 .show (bubble (AB st) i d)[k]?=_;rw[getElem?_bubble hz _ hd,if_neg (by lia),if_neg (by lia)];exact h.out k hk
 .have hx':(bubble (AB st) i d)[k]?=some x:=hx;rw[getElem?_bubble hz _ hd]at hx';split at hx'
  .exact h.all _ x hx'
  .split at hx'
   .exact h.all _ x hx'
   .exact h.all _ x hx'
theorem Seg.ins(O:LtOk M A E s kd S L){a:Array Keyed}{lo k l:Nat}{p:Keyed}(hS:∀(k:Nat) x, a[k]? = some x -> S x)(h:Seg L a lo k)(hlk:l <= k)(hz:lo + k < a.size)(hp:a[lo + k]? = some p)
  (h1:∀(i:Nat) x,i<l->a[lo+i]?=some x->L p x=false) (h2:∀(i:Nat) x,l<=i->i<k->a[lo+i]?=some x->L p x=true):Seg L (bubble a (lo+k) (lo+k-(lo+l))) lo (k+1):=by
 have at':∀(i:Nat) x,i<k+1->(bubble a (lo+k) (lo+k-(lo+l)))[lo+i]?=some x->(i<l/\a[lo+i]?=some x)∨(i=l/\x=p)∨(l<i/\a[lo+(i-1)]?=some x):=λi x hi hx=>by
  rw[getElem?_bubble hz _ (by lia)]at hx
  by_cases e:lo+i=lo+k-(lo+k-(lo+l))
  .rw[if_pos e,hp]at hx;exact .inr (.inl ⟨by lia,(A9 hx).symm⟩)
  .rw[if_neg e]at hx
   by_cases e2:lo+k-(lo+k-(lo+l))<lo+i/\lo+i<=lo+k
   .rw[if_pos e2,show lo+i-1=lo+(i-1) by lia]at hx;exact .inr (.inr ⟨by lia,hx⟩)
   .rw[if_neg e2]at hx;exact .inl ⟨by lia,hx⟩
 intro i j x y hij hj hx hy;have sp:=hS _ _ hp;rcases at' i x (by lia) hx with⟨a1,a2⟩ |⟨a1,a2⟩ |⟨a1,a2⟩
 .rcases at' j y hj hy with⟨b1,b2⟩ |⟨b1,b2⟩ |⟨b1,b2⟩
  .exact h i j x y hij (by lia) a2 b2
  .rw[b2];exact h1 i x a1 a2
  .exact h i (j-1) x y (by lia) (by lia) a2 b2
 .subst a2;rcases at' j y hj hy with⟨b1,b2⟩ |⟨b1,b2⟩ |⟨b1,b2⟩
  .lia
  .rw[b2];exact O.rf sp
  .exact O.as x y sp (hS _ _ b2) (h2 (j-1) y (by lia) (by lia) b2)
 .rcases at' j y hj hy with⟨b1,b2⟩ |⟨b1,b2⟩ |⟨b1,b2⟩
  .lia
  .lia
  .exact h (i-1) (j-1) x y (by lia) (by lia) a2 b2
theorem zeH(O:LtOk M A E s kd S L){st:AR}{lo n ok:Nat}{Q:Bool -> AR -> Prop}(hok : 1 <= ok)(hn:ok <= n)(hz:lo + n <= (AB st).size)(hk:kindOf st=kd)(hS:∀(k:Nat) x, (AB st)[k]? = some x -> S x)(hs:Seg L (AB st) lo ok)
  (hQ:∀st',SB kd S st st' lo (lo+n)->Seg L (AB st') lo n->Q true st'):wpS M A E s (binarySort' lo n ok) Q st:=by
 rw[binarySort'_eq];have em:max ok 1=ok:=by lia
 rw[em]
 refine Ao (CM (BN (I:=λk c st'=>c=(none,())/\SB kd S st st' lo (lo+n)/\k<=n/\Seg L (AB st') lo k)
  (Q:=λc st'=>c=(none,())/\SB kd S st st' lo (lo+n)/\Seg L (AB st') lo n) ?step ?fin ⟨rfl,SB.refl hk hS,hn,hs⟩) ?post)
 case post =>
  rintro c st' ⟨rfl,sb,sg⟩;exact Az (hQ st' sb sg)
 case fin =>
  rintro c st' ⟨rfl,sb,hle,sg⟩;rw[show max ok n=n by lia]at sg;exact⟨rfl,sb,sg⟩
 case step =>
  rintro k c st' hk1 hk2 ⟨rfl,sb,hle,sg⟩;have hz':lo+n<=(AB st').size:=by rw[sb.size];exact hz
  obtain⟨p,hp⟩:=zbn (st:=st') (i:=lo+k) (by lia);dsimp only
  refine Ao (CM (BN (I:=λx c st2=>∃l r,c=(none,l,r)/\st2=st'/\l<=r/\r<=k/\r-l<=k-x/\(∀(i:Nat) z,i<l->(AB st')[lo+i]?=some z->L p z=false)/\(∀(i:Nat) z,r<=i->i<k->(AB st')[lo+i]?=some z->L p z=true))
   (Q:=λc st2=>∃l,c=(none,l,l)/\st2=st'/\l<=k/\(∀(i:Nat) z,i<l->(AB st')[lo+i]?=some z->L p z=false)/\(∀(i:Nat) z,l<=i->i<k->(AB st')[lo+i]?=some z->L p z=true)) ?step2 ?fin2 ⟨0,k,rfl,rfl,Bd _,Ai _,Ai _,(λi z h=>absurd h (Nat.not_lt_zero _)),(λi z h1 h2=>absurd h2 (by lia))⟩) ?post2)
  case fin2 =>
   rintro c st2 ⟨l,r,rfl,rfl,h1,h2,h3,h4,h5⟩;have:l=r:=by lia
   subst this;exact⟨l,rfl,rfl,h2,h4,h5⟩
  case step2 =>
   rintro x c st2 _ hx ⟨l,r,rfl,rfl,h1,h2,h3,h4,h5⟩;dsimp only
   by_cases hlr:l ≥ r
   .rw[if_pos hlr];have:l=r:=by lia
    subst this;exact Az ⟨l,rfl,rfl,h2,h4,h5⟩
   .rw[if_neg hlr];obtain⟨u,hu⟩:=zbn (st:=st2) (i:=lo+(l+r) / 2) (by lia);refine Ao (ze1 O sb.kind hp hu (sb.all _ _ hp) (sb.all _ _ hu) ?_);dsimp only
    by_cases hl:L p u=true
    .rw[if_pos hl];refine Az ⟨l,(l+r) / 2,rfl,rfl,by lia,by lia,by lia,h4,λi z a1 a2 hz2=>?_⟩
     cases q:L p z with
     |true=>rfl
     |false =>
      have e1:=sg ((l+r) / 2) i u z a1 a2 hu hz2;have e2:=O.tr u z p (sb.all _ _ hu) (sb.all _ _ hz2) (sb.all _ _ hp) e1 q;rw[hl]at e2;cases e2
    .rw[if_neg hl];have hl':L p u=false:=by simpa using hl
     refine Az ⟨(l+r) / 2+1,r,rfl,rfl,by lia,by lia,by lia,λi z a1 hz2=>?_,h5⟩;have e1:=sg i ((l+r) / 2) z u (by lia) (by lia) hz2 hu;exact O.tr z u p (sb.all _ _ hz2) (sb.all _ _ hu) (sb.all _ _ hp) e1 hl'
  case post2 =>
   rintro c st2 ⟨l,rfl,rfl,h2,h4,h5⟩;dsimp only;rw[moveDown'_eq];refine Ao (Ca (Az ⟨rfl,sb.bub (by lia) (by lia) (by lia) (by lia),by lia,?_⟩));exact sg.ins O sb.all h2 (by lia) hp h4 h5
end
end TS
set_option maxHeartbeats 8000000
namespace TS
open PySem PyProof.Rows
noncomputable def wr(a:Array Keyed)(o:Nat)(l:List Keyed)(k:Nat):Array Keyed:=(l.zipIdx k).foldl (λa (p:Keyed×Nat)=>a.setIfInBounds (o+p.2) p.1) a
theorem zjq:∀(l:List Keyed) (k:Nat) (a:Array Keyed) (o i:Nat),o+k+l.length<=a.size->(wr a o l k)[i]?=if o+k<=i/\i<o+k+l.length then l[i-(o+k)]? else a[i]?
 |[],k,a,o,i,_=>by
  show a[i]?=_;rw[if_neg (by simp)]
 |x::l,k,a,o,i,hz=>by
  have ih:=zjq l (k+1) (a.setIfInBounds (o+k) x) o i (by rw[Array.size_setIfInBounds];simp at hz;lia);unfold wr at ih ⊢;rw[List.zipIdx_cons,List.foldl_cons,ih];simp only[AZ]at hz ⊢
  by_cases h1:o+(k+1)<=i/\i<o+(k+1)+l.length
  .rw[if_pos h1,if_pos (by lia),show i-(o+k)=(i-(o+(k+1)))+1 by lia];rfl
  .rw[if_neg h1]
   by_cases h2:i=o+k
   .subst h2;rw[if_pos (by lia),Nat.sub_self];rw[Array.getElem?_setIfInBounds_self_of_lt (by lia)];rfl
   .rw[if_neg (by lia),Array.getElem?_setIfInBounds_ne (Cj h2)]
theorem zmE{a:Array Keyed}{o:Nat}{l:List Keyed}(hz:o+l.length<=a.size):(wr a o l 0).toList=a.toList.take o++l++a.toList.drop (o+l.length):=by
 apply List.ext_getElem?
 intro i;rw[By,zjq l 0 a o i (by simpa using hz)];have h1:(a.toList.take o).length=o:=by rw[AS,AJ];lia
 by_cases c1:i<o
 .rw[if_neg (by lia),AN,AH (by lia),List.getElem?_take,if_pos c1,By]
 .by_cases c2:i<o+l.length
  .rw[if_pos (by lia),AN,AW (by lia),AH (by lia),h1];rfl
  .rw[if_neg (by lia),AW (by simp;lia),ER,<- By]
   congr 1
   simp;lia
section
variable {M:Model}{A:AY}{E:Ac->Ae->Prop}{s:Ae}{kd:Dl}{S:Keyed->Prop}{L:Keyed->Keyed->Bool}
structure SM (kd:Dl) (S:Keyed->Prop) (L:Keyed->Keyed->Bool) (st0 st:AR) (pd:Array (Nat×Nat×Nat)) (lo n:Nat):Prop where
 kind:kindOf st=kd
 pend:AV st=pd
 fail:CW st=none
 perm:(AB st).Perm (AB st0)
 out:∀k:Nat,k<lo∨lo+n<=k->(AB st)[k]?=(AB st0)[k]?
 all:∀(k:Nat) x,(AB st)[k]?=some x->S x
 seg:Seg L (AB st) lo n
theorem Seg.glue{a:Array Keyed}(O:LtOk M A E s kd S L){lo n m:Nat}(hS:∀(k:Nat) x,a[k]?=some x->S x)(h1:Seg L a lo n)(h2:Seg L a (lo+n) m)(h:∀x y,a[lo+(n-1)]?=some x->a[lo+n]?=some y->L y x=false)(hn:0<n)(hz:lo+n+m<=a.size):Seg L a lo (n+m):=by
 intro i j x y hij hj hx hy;rcases A6 j n with cj |cj
 .exact h1 i j x y hij cj hx hy
 .rw[show lo+j=lo+n+(j-n) by lia]at hy;rcases A6 i n with ci |ci
  .have e1:a[lo+(n-1)]?=some a[lo+(n-1)]:=by rw[BQ (by lia)]
   have e2:a[lo+n]?=some a[lo+n]:=by rw[BQ (by lia)]
   have q1:=h1 i (n-1) x _ (by lia) (by lia) hx e1;have q2:=h _ _ e1 e2;have q3:=h2 0 (j-n) _ y (Bd _) (by lia) e2 hy;exact O.tr x _ y (hS _ _ hx) (hS _ _ e1) (hS _ _ hy) q1 (O.tr _ _ y (hS _ _ e1) (hS _ _ e2) (hS _ _ hy) q2 q3)
  .rw[show lo+i=lo+n+(i-n) by lia]at hx;exact h2 (i-n) (j-n) x y (by lia) (by lia) hx hy
theorem zmF{x:AR}{Q:PUnit->AR->Prop}{st:AR}(h:Q ⟨⟩ x):wpS M A E s (set x:StateT AR Sem PUnit) Q st:=by unfold wpS;rw[StateT.run_set];exact Af ⟨rfl,h⟩
theorem zf3{a:Array Keyed}{o n i:Nat}(hz:o+n<=a.size):(a.extract o (o+n))[i]?=if i<n then a[o+i]? else none:=by
 rw[Array.getElem?_extract]
 by_cases h:i<n
 .rw[if_pos h,if_pos (by lia)]
 .rw[if_neg h,if_neg (by lia)]
theorem zia{a:Array Keyed}{o n:Nat}(hz:o+n<=a.size)(h:Seg L a o n):(a.extract o (o+n)).toList.Pairwise (leOf L):=by
 rw[BA];intro i j hi hj hij;rw[AJ,CQ]at hi hj;have e1:(a.extract o (o+n))[i]?=some (a.extract o (o+n)).toList[i]:=by rw[<- By,Ab]
 have e2:(a.extract o (o+n))[j]?=some (a.extract o (o+n)).toList[j]:=by rw[<- By,Ab]
 rw[zf3 hz,if_pos (by lia)]at e1 e2;exact h i j _ _ (by lia) (by lia) e1 e2
theorem zdB{a:Array Keyed}{o n:Nat}{x:Keyed}(hz:o+n<=a.size)(h:x∈(a.extract o (o+n)).toList):∃i,i<n/\a[o+i]?=some x:=by
 obtain⟨i,hi,e⟩:=AD h;have e1:(a.extract o (o+n))[i]?=some x:=by rw[<- By,Ab hi,e]
 rw[AJ,CQ]at hi;refine⟨i,by lia,?_⟩;rw[zf3 hz,if_pos (by lia)]at e1;exact e1
theorem SM.write(O:LtOk M A E s kd S L){st0 st:AR}{pd:Array (Nat × Nat × Nat)}{sa na nb k m:Nat}{r:Array Keyed}(hna : 1 <= na)(hk:k < na)(hm0 : 0 < m)(hm:m <= nb)(hz:sa + na + nb <= (AB st0).size)(hS:∀(k:Nat) x, (AB st0)[k]? = some x -> S x)
  (sA:Seg L (AB st0) sa na) (sB:Seg L (AB st0) (sa+na) nb) (y0 z0:Keyed) (hy0:(AB st0)[sa+na]?=some y0) (hz0:(AB st0)[sa+(na-1)]?=some z0)
  (A1:∀(i:Nat) x,i<k->(AB st0)[sa+i]?=some x->L y0 x=false) (B2:∀(i:Nat) y,m<=i->i<nb->(AB st0)[sa+na+i]?=some y->L y z0=false)
  (hr:Res (leOf L) ((AB st0).extract (sa+k) (sa+k+(na-k))).toList ((AB st0).extract (sa+na) (sa+na+m)).toList r.toList) (hkd:kindOf st=kd) (hp:AV st=pd) (hf:CW st=none) (ha:AB st=wr (AB st0) (sa+k) r.toList 0) :
  SM kd S L st0 st pd sa (na+nb):=by
 obtain⟨hperm,hpair⟩:=hr
 have hrl:r.toList.length=(na-k)+m:=by rw[hperm.length_eq,Av,AJ,AJ,CQ,CQ];lia
 have hz2:sa+k+r.toList.length<=(AB st0).size:=by lia
 have get':∀i:Nat,(AB st)[i]?=if sa+k<=i/\i<sa+k+r.toList.length then r.toList[i-(sa+k)]? else (AB st0)[i]?:=λi=>by rw[ha,zjq _ _ _ _ _ (by lia)];simp only[Nat.add_zero]
 have rmem:∀x∈r.toList,(∃i,k<=i/\i<na/\(AB st0)[sa+i]?=some x)∨(∃i,i<m/\(AB st0)[sa+na+i]?=some x):=λx hx=>by
  rcases AC.mp (hperm.mem_iff.mp hx) with q |q
  .obtain⟨i,hi,e⟩:=zdB (by lia) q;exact .inl ⟨k+i,by lia,by lia,by rw[show sa+(k+i)=sa+k+i by lia];exact e⟩
  .obtain⟨i,hi,e⟩:=zdB (by lia) q;exact .inr ⟨i,hi,e⟩
 have y0le:∀(i:Nat) y,i<nb->(AB st0)[sa+na+i]?=some y->L y y0=false:=λi y hi hy=>sB 0 i y0 y (Bd _) hi (by simpa using hy0) hy
 have lez0:∀(i:Nat) x,i<na->(AB st0)[sa+i]?=some x->L z0 x=false:=λi x hi hx=>sA i (na-1) x z0 (by lia) (by lia) hx hz0
 refine⟨hkd,hp,hf,?_,λi hi=>?_,λi x hx=>?_,λi j x y hij hj hx hy=>?_⟩
 .rw[ha];refine Array.perm_iff_toList_perm.mpr ?_
  rw[zmE hz2]
  have e:(AB st0).toList=(AB st0).toList.take (sa+k)++(((AB st0).extract (sa+k) (sa+k+(na-k))).toList++((AB st0).extract (sa+na) (sa+na+m)).toList)++(AB st0).toList.drop (sa+k+r.toList.length):=by rw[zcE,zcE];have d1:=Do (sa+k) (AB st0).toList;have d2:=zcK (AB st0).toList (sa+k) (na-k);have d3:=zcK (AB st0).toList (sa+na) m;rw[show sa+k+(na-k)=sa+na by lia]at d2;rw[show sa+k+r.toList.length=sa+na+m by lia,AN,AN,<- d3,<- d2,d1]
  conv=>rhs;rw[e]
  exact (hperm.append_left _).append_right _
 .rw[get',if_neg (by lia)]
 .rw[get']at hx;split at hx
  .rcases rmem x (Aj hx) with⟨_,_,_,e⟩ |⟨_,_,e⟩
   .exact hS _ _ e
   .exact hS _ _ e
  .exact hS _ _ hx
 .rw[get']at hx hy
  by_cases ci:sa+k<=sa+i/\sa+i<sa+k+r.toList.length
  .rw[if_pos ci]at hx
   by_cases cj:sa+k<=sa+j/\sa+j<sa+k+r.toList.length
   .rw[if_pos cj]at hy;rcases A6 i j with q |q
    .have h1:sa+i-(sa+k)<r.toList.length:=by lia
     have h2:sa+j-(sa+k)<r.toList.length:=by lia
     rw[Ab h1]at hx;rw[Ab h2]at hy;have:=BA.mp hpair _ _ h1 h2 (by lia);rw[A9 hx,A9 hy]at this;exact this
    .have e:i=j:=by lia
     subst e;rw[hx]at hy;cases hy;rcases rmem x (Aj hx) with⟨_,_,_,e⟩ |⟨_,_,e⟩
     .exact O.rf (hS _ _ e)
     .exact O.rf (hS _ _ e)
   .rw[if_neg cj,show sa+j=sa+na+(j-na) by lia]at hy;have q1:=B2 (j-na) y (by lia) (by lia) hy;rcases rmem x (Aj hx) with⟨t,_,h2,e⟩ |⟨t,h2,e⟩
    .exact O.tr x z0 y (hS _ _ e) (hS _ _ hz0) (hS _ _ hy) (lez0 t x h2 e) q1
    .exact sB t (j-na) x y (by lia) (by lia) e hy
  .rw[if_neg ci]at hx
   by_cases cj:sa+k<=sa+j/\sa+j<sa+k+r.toList.length
   .rw[if_pos cj]at hy;rcases rmem y (Aj hy) with⟨t,h1,h2,e⟩ |⟨t,h2,e⟩
    .exact sA i t x y (by lia) h2 hx e
    .exact O.tr x y0 y (hS _ _ hx) (hS _ _ hy0) (hS _ _ e) (A1 i x (by lia) hx) (y0le t y (by lia) e)
   .rw[if_neg cj]at hy;rcases A6 i k with ck |ck
    .rcases A6 j k with cl |cl
     .exact sA i j x y hij (by lia) hx hy
     .rw[show sa+j=sa+na+(j-na) by lia]at hy;exact O.tr x y0 y (hS _ _ hx) (hS _ _ hy0) (hS _ _ hy) (A1 i x ck hx) (y0le (j-na) y (by lia) hy)
    .rw[show sa+i=sa+na+(i-na) by lia]at hx;rw[show sa+j=sa+na+(j-na) by lia]at hy;exact sB (i-na) (j-na) x y (by lia) (by lia) hx hy
theorem zgO (O : LtOk M A E s kd S L){st : AR}{i sa na pw nb pw2 : Nat}{Q : Bool → AR → Prop}(h1 : (AV st)[i]? = some (sa, na, pw)) (h2 : (AV st)[i + 1]? = some (sa + na, nb, pw2)) (hna : 1 ≤ na) (hnb : 1 ≤ nb) (hz : sa + na + nb ≤ (AB st).size)
    (hk:kindOf st=kd) (hf:CW st=none) (hS:∀ (k:Nat) x,(AB st)[k]?=some x→S x) (sA:Seg L (AB st) sa na) (sB:Seg L (AB st) (sa+na) nb)
    (hQ:∀ st',SM kd S L st st' (((AV st).setIfInBounds i (sa,na+nb,pw)).eraseIdxIfInBounds (i+1)) sa (na+nb)→Q true st'):wpS M A E s (mergeAt' i) Q st:=by
  refine Ao (EK ?_)
  rw[h1,h2]
  dsimp only
  refine Ao (zmF ?_)
  obtain⟨y0,hy0⟩:=zbn (st:=st) (i:=sa+na) (by lia)
  obtain⟨z0,hz0⟩:=zbn (st:=st) (i:=sa+(na - 1)) (by lia)
  refine Ao (zav hy0 ?_)
  have Sy:=hS _ _ hy0
  refine Ao (zbr O (left:=false) (b:=λi=>match (AB st)[sa+i]? with | some x=>!L y0 x | none=>false) hk Sy (λi hi=>?_) (λi j hij hj hb=>?_) (by lia) (λk hkn kt kf=>?_))
  . obtain⟨x,hx⟩:=zbn (st:=st) (i:=sa+i) (by lia)
    refine⟨x,hx,hS _ _ hx,?_⟩
    simp only[hx]
    rfl
  . obtain⟨x,hx⟩:=zbn (st:=st) (i:=sa+i) (by lia)
    obtain⟨y,hy⟩:=zbn (st:=st) (i:=sa+j) (by lia)
    simp only[hx,hy] at hb ⊢
    have e1:=sA i j x y hij hj hx hy
    have e2:L y0 y=false:=by simpa using hb
    rw[O.tr x y y0 (hS _ _ hx) (hS _ _ hy) Sy e1 e2];rfl
  have A1:∀ (i:Nat) x,i<k→(AB st)[sa+i]?=some x→L y0 x=false:=λi x hi hx=>by
    have:=kt i hi
    simp only[hx] at this
    simpa using this
  have A2:∀ (i:Nat) x,k≤i→i<na→(AB st)[sa+i]?=some x→L y0 x=true:=λi x h3 h4 hx=>by
    have:=kf i h3 h4
    simp only[hx] at this
    simpa using this
  dsimp only
  by_cases hk0:(na - k == 0)=true
  . rw[if_pos hk0]
    have ek : k = na := by have : na - k = 0 := by simpa using hk0
                           lia
    refine Az (hQ _ ⟨hk,rfl,hf,EL _,λ_ _=>rfl,hS,sA.glue O hS sB (λx y hx hy=>?_) (by lia) hz⟩)
    rw[hy0] at hy;cases hy
    exact A1 (na - 1) x (by lia) hx
  . rw[if_neg hk0]
    have hkl : k < na := by have : na - k ≠ 0 := by simpa using hk0
                            lia
    have hz0':(AB st)[sa+k+(na - k) - 1]?=some z0:=by rw[show sa+k+(na - k) - 1=sa+(na - 1) by lia];exact hz0
    refine Ao (zav hz0' ?_)
    have Sz:=hS _ _ hz0
    refine Ao (zbr O (left:=true) (b:=λi=>match (AB st)[sa+na+i]? with | some x=>L x z0 | none=>false) hk Sz (λi hi=>?_) (λi j hij hj hb=>?_) (by lia) (λm hmn mt mf=>?_))
    . obtain⟨x,hx⟩:=zbn (st:=st) (i:=sa+na+i) (by lia)
      refine⟨x,hx,hS _ _ hx,?_⟩
      simp only[hx]
      rfl
    . obtain⟨x,hx⟩:=zbn (st:=st) (i:=sa+na+i) (by lia)
      obtain⟨y,hy⟩:=zbn (st:=st) (i:=sa+na+j) (by lia)
      simp only[hx,hy] at hb ⊢
      have e1:=sB i j x y hij hj hx hy
      cases q:L x z0 with
      | true=>rfl
      | false =>
        have:=O.tr z0 x y Sz (hS _ _ hx) (hS _ _ hy) q e1
        rw[hb] at this;cases this
    have B1:∀ (i:Nat) y,i<m→(AB st)[sa+na+i]?=some y→L y z0=true:=λi y hi hy=>by
      have:=mt i hi
      simp only[hy] at this
      exact this
    have B2:∀ (i:Nat) y,m≤i→i<nb→(AB st)[sa+na+i]?=some y→L y z0=false:=λi y h3 h4 hy=>by
      have:=mf i h3 h4
      simp only[hy] at this
      exact this
    dsimp only
    have y0z:L y0 z0=true:=A2 (na - 1) z0 (by lia) (by lia) hz0
    have hm0:0<m:=by
      rcases Nat.eq_zero_or_pos m with q | q
      . have:=B2 0 y0 (by lia) (by lia) (by simpa using hy0)
        rw[y0z] at this;cases this
      . exact q
    rw[if_neg (by simp;lia)]
    have exA:sa+na=sa+k+(na - k):=by lia
    have hX:((AB st).extract (sa+k) (sa+na))=(AB st).extract (sa+k) (sa+k+(na - k)):=by rw[← exA]
    have sA':Seg L (AB st) (sa+k) (na - k):=λi j x y hij hj hx hy=>sA (k+i) (k+j) x y (by lia) (by lia) (by rw[show sa+(k+i)=sa+k+i by lia];exact hx) (by rw[show sa+(k+j)=sa+k+j by lia];exact hy)
    have sB':Seg L (AB st) (sa+na) m:=λi j x y hij hj hx hy=>sB i j x y hij (by lia) hx hy
    have T:Two S L ((AB st).extract (sa+k) (sa+k+(na - k))) ((AB st).extract (sa+na) (sa+na+m)):=⟨zia (by lia) sA',zia (by lia) sB',(λx hx=>by obtain⟨i,_,e⟩:=zdB (by lia) hx;exact hS _ _ e),(λx hx=>by obtain⟨i,_,e⟩:=zdB (by lia) hx;exact hS _ _ e)⟩
    have zA:0<((AB st).extract (sa+k) (sa+k+(na - k))).size:=by rw[CQ];lia
    have zB:0<((AB st).extract (sa+na) (sa+na+m)).size:=by rw[CQ];lia
    have c0:∀ y,((AB st).extract (sa+na) (sa+na+m))[0]?=some y→∀ x∈((AB st).extract (sa+k) (sa+k+(na - k))).toList,leOf L y x:=λy hy x hx=>by
      rw[zf3 (by lia),if_pos hm0] at hy
      rw[Nat.add_zero,hy0] at hy;cases hy
      obtain⟨i,hi,e⟩:=zdB (by lia) hx
      exact O.as y0 x Sy (hS _ _ e) (A2 (k+i) x (by lia) (by lia) (by rw[show sa+(k+i)=sa+k+i by lia];exact e))
    have c1:∀ z,((AB st).extract (sa+k) (sa+k+(na - k)))[((AB st).extract (sa+k) (sa+k+(na - k))).size - 1]?=some z→∀ x∈((AB st).extract (sa+na) (sa+na+m)).toList,leOf L x z:=λz hz' x hx=>by
      have es:((AB st).extract (sa+k) (sa+k+(na - k))).size=na - k:=by rw[CQ];lia
      rw[es,zf3 (by lia),if_pos (by lia),show sa+k+(na - k - 1)=sa+(na - 1) by lia,hz0] at hz'
      cases hz'
      obtain⟨i,hi,e⟩:=zdB (by lia) hx
      exact O.as x z0 (hS _ _ e) Sz (B1 i x hi e)
    by_cases hle:na - k≤m
    . rw[if_pos hle]
      refine Ao ?_
      show wpS M A E s (zfT ((AB st).extract (sa+k) (sa+na)) ((AB st).extract (sa+na) (sa+na+m))) _ _
      rw[hX]
      refine zgM O T hk zA zB c0 c1 λr st2 hr hlk=>?_
      refine Ao (Ca (Ao (EK (Az ?_))))
      have hf2:CW st2=none:=by rw[hlk.2.2.2];exact hf
      have:=hQ (setArr st2 (wr (AB st) (sa+k) r.toList 0)) (SM.write O hna hkl hm0 hmn hz hS sA sB y0 z0 hy0 hz0 A1 B2 hr (by show kindOf st2=kd;rw[hlk.1];exact hk) (by show AV st2=_;rw[hlk.2.2.1]) hf2 rfl)
      have ea:AB st2=AB st:=hlk.2.1
      rw[← ea] at this
      show Q (CW st2).isNone _
      rw[hf2]
      exact this
    . rw[if_neg hle]
      refine Ao ?_
      show wpS M A E s (zfU ((AB st).extract (sa+k) (sa+na)) ((AB st).extract (sa+na) (sa+na+m))) _ _
      rw[hX]
      refine zgN O T hk zA zB c0 c1 λr st2 hr hlk=>?_
      refine Ao (Ca (Ao (EK (Az ?_))))
      have hf2:CW st2=none:=by rw[hlk.2.2.2];exact hf
      have:=hQ (setArr st2 (wr (AB st) (sa+k) r.toList 0)) (SM.write O hna hkl hm0 hmn hz hS sA sB y0 z0 hy0 hz0 A1 B2 hr (by show kindOf st2=kd;rw[hlk.1];exact hk) (by show AV st2=_;rw[hlk.2.2.1]) hf2 rfl)
      have ea:AB st2=AB st:=hlk.2.1
      rw[← ea] at this
      show Q (CW st2).isNone _
      rw[hf2]
      exact this
end
end TS
set_option maxHeartbeats 8000000
namespace TS
open PySem PyProof.Rows
noncomputable abbrev Run:=Nat×Nat×Nat
section
variable {M:Model}{A:AY}{E:Ac->Ae->Prop}{s:Ae}{kd:Dl}{S:Keyed->Prop}{L:Keyed->Keyed->Bool}
noncomputable def Runs(L:Keyed->Keyed->Bool)(a:Array Keyed):List Run->Nat->Nat->Prop
 |[],x,y=>x=y
 |r::l,x,y=>r.1=x/\1<=r.2.1/\Seg L a r.1 r.2.1/\Runs L a l (x+r.2.1) y
theorem Runs.le{a:Array Keyed}:∀{l:List Run}{x y:Nat},Runs L a l x y->x+l.length<=y
 |[],x,y,h=>by have:x=y:=h;simp;lia
 |r::l,x,y,h=>by
  have:=Runs.le h.2.2.2;have:=h.2.1;simp only[AZ];lia
theorem Seg.cong{a b:Array Keyed}{lo n:Nat}(h:Seg L a lo n)(e:∀k:Nat,lo<=k->k<lo+n->b[k]?=a[k]?):Seg L b lo n:=λi j x y hij hj hx hy =>
 h i j x y hij hj (by rw[<- e _ (by lia) (by lia)];exact hx) (by rw[<- e _ (by lia) (by lia)];exact hy)
theorem Runs.cong{a b:Array Keyed}:∀{l:List Run}{x y:Nat},Runs L a l x y->(∀k:Nat,x<=k->k<y->b[k]?=a[k]?)->Runs L b l x y
 |[],_,_,h,_=>h
 |r::l,x,y,h,e=>by
  have hl:=h.2.2.2.le;have h1:=h.1;exact⟨h.1,h.2.1,h.2.2.1.cong λk h2 h3=>e k (by lia) (by lia),Runs.cong h.2.2.2 λk h2 h3=>e k (by lia) h3⟩
theorem Runs.snoc{a:Array Keyed}:∀{l:List Run}{x y n pw:Nat},Runs L a l x y->1<=n->Seg L a y n->Runs L a (l++[(y,n,pw)]) x (y+n)
 |[],x,y,n,pw,h,hn,hs=>by
  have:x=y:=h;subst this;exact⟨rfl,hn,hs,rfl⟩
 |r::l,x,y,n,pw,h,hn,hs=>⟨h.1,h.2.1,h.2.2.1,Runs.snoc h.2.2.2 hn hs⟩
theorem Runs.pair{a:Array Keyed} : ∀{l:List Run}{x y i sa na pw sb nb pw2:Nat}, Runs L a l x y -> l[i]? = some (sa, na, pw) -> l[i + 1]? = some (sb, nb, pw2) ->
  sb=sa+na/\1<=na/\1<=nb/\x<=sa/\sa+na+nb<=y/\Seg L a sa na/\Seg L a (sa+na) nb /\
  ∀b:Array Keyed,(∀k:Nat,k<sa∨sa+na+nb<=k->b[k]?=a[k]?)->Seg L b sa (na+nb)->Runs L b ((l.set i (sa,na+nb,pw)).eraseIdx (i+1)) x y
 |[],_,_,_,_,_,_,_,_,_,_,h1,_=>by simp at h1
 |[_],_,_,i,_,_,_,_,_,_,_,_,h2=>by simp at h2
 |r::q::l,x,y,0,sa,na,pw,sb,nb,pw2,h,h1,h2=>by
  have e1:r=(sa,na,pw):=A9 h1;have e2:q=(sb,nb,pw2):=A9 h2;subst e1;subst e2;obtain⟨a1,a2,a3,b1,b2,b3,hr⟩:=h;simp only at a1 a2 a3 b1 b2 b3 hr;subst a1;have hl:=hr.le;refine⟨b1,a2,b2,Ai _,by lia,a3,by rw[<- b1];exact b3,λb hb hs=>⟨rfl,by show 1<=na+nb;lia,hs,?_⟩⟩;show Runs L b l (sa+(na+nb)) y;rw[show sa+(na+nb)=sa+na+nb by lia];exact hr.cong λk h3 h4=>hb k (.inr h3)
 |r::q::l,x,y,i+1,sa,na,pw,sb,nb,pw2,h,h1,h2=>by
  obtain⟨a1,a2,a3,hr⟩:=h;obtain⟨c1,c2,c3,c4,c5,c6,c7,c8⟩:=Runs.pair hr (i:=i) (by simpa using h1) (by simpa using h2);refine⟨c1,c2,c3,by lia,c5,c6,c7,λb hb hs=>⟨a1,a2,a3.cong λk h3 h4=>hb k (.inl (by lia)),?_⟩⟩;exact c8 b hb hs
theorem Runs.power{a:Array Keyed}:∀{l:List Run}{x y:Nat}(f:Run->Run) (i:Nat),(∀r,(f r).1=r.1/\(f r).2.1=r.2.1)->Runs L a l x y->Runs L a (l.modify i f) x y
 |[],_,_,f,i,_,h=>by cases i <;> exact h
 |r::l,x,y,f,0,hf,h=>by
  refine⟨by rw[(hf r).1];exact h.1,by rw[(hf r).2];exact h.2.1,by rw[(hf r).1,(hf r).2];exact h.2.2.1,?_⟩;show Runs L a l (x+(f r).2.1) y;rw[(hf r).2];exact h.2.2.2
 |r::l,x,y,f,i+1,hf,h=>⟨h.1,h.2.1,h.2.2.1,Runs.power f i hf h.2.2.2⟩
structure PD (kd:Dl) (S:Keyed->Prop) (L:Keyed->Keyed->Bool) (a0:Array Keyed) (st:AR) (lo:Nat):Prop where
 kind:kindOf st=kd
 fail:CW st=none
 perm:(AB st).Perm a0
 all:∀(k:Nat) x,(AB st)[k]?=some x->S x
 runs:Runs L (AB st) (AV st).toList 0 lo
theorem PD.size{a0:Array Keyed}{st:AR}{lo:Nat}(h:PD kd S L a0 st lo):(AB st).size=a0.size:=h.perm.size_eq
theorem PD.merge(O:LtOk M A E s kd S L){a0:Array Keyed}{st:AR}{lo i:Nat}{Q:Bool -> AR -> Prop}(h:PD kd S L a0 st lo)(hlo:lo <= a0.size)(hi:i + 1 < (AV st).size)
  (hQ:∀st',PD kd S L a0 st' lo->(AV st').size+1=(AV st).size->(∀k:Nat,lo<=k->(AB st')[k]?=(AB st)[k]?)->Q true st'):wpS M A E s (mergeAt' i) Q st:=by
 obtain⟨⟨sa,na,pw⟩,h1⟩:∃r,(AV st)[i]?=some r:=⟨_,BQ (by lia)⟩;obtain⟨⟨sb,nb,pw2⟩,h2⟩:∃r,(AV st)[i+1]?=some r:=⟨_,BQ hi⟩;obtain⟨c1,c2,c3,c4,c5,c6,c7,c8⟩:=h.runs.pair (i:=i) (by rw[By];exact h1) (by rw[By];exact h2);subst c1;refine zgO O h1 h2 c2 c3 (by rw[h.size];lia) h.kind h.fail h.all c6 c7 λst' sm=>hQ st' ⟨sm.kind,sm.fail,sm.perm.trans h.perm,sm.all,?_⟩ ?_ λk hk=>sm.out k (by lia)
 .rw[sm.pend];have e:(((AV st).setIfInBounds i (sa,na+nb,pw)).eraseIdxIfInBounds (i+1)).toList=((AV st).toList.set i (sa,na+nb,pw)).eraseIdx (i+1):=by simp
  rw[e];exact c8 _ (λk hk=>sm.out k (by lia)) sm.seg
 .rw[sm.pend];have e:(((AV st).setIfInBounds i (sa,na+nb,pw)).eraseIdxIfInBounds (i+1)).toList=((AV st).toList.set i (sa,na+nb,pw)).eraseIdx (i+1):=by simp
  have e2:=congrArg Dv e;rw[List.length_eraseIdx_of_lt (by rw[List.length_set,AJ];exact hi),List.length_set,AJ,AJ]at e2;lia
theorem sortRuns_spec(O:LtOk M A E s kd S L){st:AR}{Q:Unit -> AR -> Prop}(h2 : 2 <= (AB st).size)(hk:kindOf st=kd)(hp:AV st = #[])(hf:CW st=none)(hS:∀(k:Nat) x, (AB st)[k]? = some x -> S x)
  (hQ:∀st',(AB st').Perm (AB st)->CW st'=none->Seg L (AB st') 0 (AB st).size->Q () st'):wpS M A E s sortRuns' Q st:=by
 rw[sortRuns'_eq];refine Ao (EK ?_);dsimp only;have pd0:PD kd S L (AB st) st 0:=⟨hk,hf,EL _,hS,by rw[hp];rfl⟩;generalize ha0:AB st=a0 at h2 pd0 hQ
 refine Ao (CM (BN (I:=λx c st'=>∃lo,c=(none,lo)/\(x<=lo∨a0.size<=lo)/\lo<=a0.size/\PD kd S L a0 st' lo)
  (Q:=λc st'=>c=(none,a0.size)/\PD kd S L a0 st' a0.size) ?step ?fin ⟨0,rfl,.inl (Ai _),Bd _,pd0⟩) ?post)
 case fin =>
  rintro c st' ⟨lo,rfl,h3,h4,pd⟩;have:lo=a0.size:=by lia
  subst this;exact⟨rfl,pd⟩
 case step =>
  rintro x c st' _ hx ⟨lo,rfl,h3,h4,pd⟩;dsimp only
  by_cases hge:lo ≥ a0.size
  .rw[if_pos hge];have:lo=a0.size:=by lia
   subst this;exact Az ⟨rfl,pd⟩
  .rw[if_neg hge];refine Ao (zf6 O (by lia) (by rw[pd.size];lia) pd.kind pd.all λm st1 sb1 hm1 hm2 sg1=>?_);dsimp only;have pd1:PD kd S L a0 st1 lo:=⟨sb1.kind,by rw[sb1.fail];exact pd.fail,sb1.perm.trans pd.perm,sb1.all,by rw[sb1.pend];exact pd.runs.cong λk _ h5=>sb1.out k (.inl h5)⟩
   by_cases hlt:m<minRun' a0.size a0.size 0
   .rw[if_pos hlt];refine Ao (wpS_lift (B9 ⟨rfl,?_⟩));refine Ao (zeH O hm1 (by lia) (by rw[pd1.size];lia) pd1.kind pd1.all sg1 λst2 sb2 sg2=>?_)
    try dsimp only
    rw[if_neg (by decide)];have pdX:PD kd S L a0 st2 lo:=⟨sb2.kind,by rw[sb2.fail];exact pd1.fail,sb2.perm.trans pd1.perm,sb2.all,by rw[sb2.pend];exact pd1.runs.cong λk _ h5=>sb2.out k (.inl h5)⟩;have sgX:=sg2;refine Ao (EK ?_)
    cases hb:(AV st2).back? with
    |none =>
     try dsimp only
     refine Ao (Ca (Az ⟨lo+min (a0.size-lo) (minRun' a0.size a0.size 0),rfl,.inl (by lia),by lia,?_⟩));refine⟨pdX.kind,pdX.fail,pdX.perm,pdX.all,?_⟩;show Runs L (AB st2) ((AV st2).push (lo,min (a0.size-lo) (minRun' a0.size a0.size 0),0)).toList 0 (lo+min (a0.size-lo) (minRun' a0.size a0.size 0));rw[DB];exact pdX.runs.snoc (by lia) sgX
    |some r =>
     obtain⟨s1,n1,p1⟩:=r
     try dsimp only
     refine Ao (CM (BN (I:=λy c st3=>c=(none,())/\PD kd S L a0 st3 lo/\Seg L (AB st3) lo (min (a0.size-lo) (minRun' a0.size a0.size 0))) (Q:=λc st3=>c=(none,())/\PD kd S L a0 st3 lo/\Seg L (AB st3) lo (min (a0.size-lo) (minRun' a0.size a0.size 0))) ?stepI ?finI ⟨rfl,pdX,sgX⟩) ?postI)
     case finI =>
      rintro c st3 hh;exact hh
     case stepI =>
      rintro y c st3 _ _ ⟨rfl,pd3,sg3⟩;refine Ao (EK ?_)
      by_cases hsz:(AV st3).size > 1
      .rw[if_pos hsz];obtain⟨⟨u1,u2,older⟩,hu⟩:∃r,(AV st3)[(AV st3).size-2]?=some r:=⟨_,BQ (by lia)⟩;rw[hu]
       try dsimp only
       by_cases hol:older<=power' a0.size (2*s1+n1) (2*s1+n1+n1+min (a0.size-lo) (minRun' a0.size a0.size 0)) a0.size
       .rw[if_pos hol];exact Az ⟨rfl,pd3,sg3⟩
       .rw[if_neg hol];refine Ao (pd3.merge O (by lia) (by lia) λst4 pd4 _ ho=>?_)
        try dsimp only
        rw[if_neg (by decide)];exact Az ⟨rfl,pd4,sg3.cong λk h5 _=>ho k h5⟩
      .rw[if_neg hsz];exact Az ⟨rfl,pd3,sg3⟩
     case postI =>
      rintro c st3 ⟨rfl,pd3,sg3⟩
      try dsimp only
      refine Ao (Ca (Ao (Ca (Az ⟨lo+min (a0.size-lo) (minRun' a0.size a0.size 0),rfl,.inl (by lia),by lia,?_⟩))));refine⟨pd3.kind,pd3.fail,pd3.perm,pd3.all,?_⟩;show Runs L (AB st3) (((AV st3).modify ((AV st3).size-1) _).push (lo,min (a0.size-lo) (minRun' a0.size a0.size 0),0)).toList 0 (lo+min (a0.size-lo) (minRun' a0.size a0.size 0));rw[DB,Array.toList_modify];refine Runs.snoc (Runs.power _ _ ?_ pd3.runs) (by lia) sg3;exact λr=>⟨rfl,rfl⟩
   .rw[if_neg hlt];have pdX:=pd1;have sgX:=sg1;refine Ao (EK ?_)
    cases hb:(AV st1).back? with
    |none =>
     try dsimp only
     refine Ao (Ca (Az ⟨lo+m,rfl,.inl (by lia),by lia,?_⟩));refine⟨pdX.kind,pdX.fail,pdX.perm,pdX.all,?_⟩;show Runs L (AB st1) ((AV st1).push (lo,m,0)).toList 0 (lo+m);rw[DB];exact pdX.runs.snoc (by lia) sgX
    |some r =>
     obtain⟨s1,n1,p1⟩:=r
     try dsimp only
     refine Ao (CM (BN (I:=λy c st3=>c=(none,())/\PD kd S L a0 st3 lo/\Seg L (AB st3) lo (m)) (Q:=λc st3=>c=(none,())/\PD kd S L a0 st3 lo/\Seg L (AB st3) lo (m)) ?stepI ?finI ⟨rfl,pdX,sgX⟩) ?postI)
     case finI =>
      rintro c st3 hh;exact hh
     case stepI =>
      rintro y c st3 _ _ ⟨rfl,pd3,sg3⟩;refine Ao (EK ?_)
      by_cases hsz:(AV st3).size > 1
      .rw[if_pos hsz];obtain⟨⟨u1,u2,older⟩,hu⟩:∃r,(AV st3)[(AV st3).size-2]?=some r:=⟨_,BQ (by lia)⟩;rw[hu]
       try dsimp only
       by_cases hol:older<=power' a0.size (2*s1+n1) (2*s1+n1+n1+m) a0.size
       .rw[if_pos hol];exact Az ⟨rfl,pd3,sg3⟩
       .rw[if_neg hol];refine Ao (pd3.merge O (by lia) (by lia) λst4 pd4 _ ho=>?_)
        try dsimp only
        rw[if_neg (by decide)];exact Az ⟨rfl,pd4,sg3.cong λk h5 _=>ho k h5⟩
      .rw[if_neg hsz];exact Az ⟨rfl,pd3,sg3⟩
     case postI =>
      rintro c st3 ⟨rfl,pd3,sg3⟩
      try dsimp only
      refine Ao (Ca (Ao (Ca (Az ⟨lo+m,rfl,.inl (by lia),by lia,?_⟩))));refine⟨pd3.kind,pd3.fail,pd3.perm,pd3.all,?_⟩;show Runs L (AB st3) (((AV st3).modify ((AV st3).size-1) _).push (lo,m,0)).toList 0 (lo+m);rw[DB,Array.toList_modify];refine Runs.snoc (Runs.power _ _ ?_ pd3.runs) (by lia) sg3;exact λr=>⟨rfl,rfl⟩
 case post =>
  rintro c st1 ⟨rfl,pd1⟩
  try dsimp only
  have hlen:(AV st1).size<=a0.size:=by have:=pd1.runs.le;rw[AJ]at this;lia
  refine Ao (CM (BN (I:=λx c st2=>c=(none,())/\PD kd S L a0 st2 a0.size/\((AV st2).size+x<=a0.size+1))
   (Q:=λc st2=>c=(none,())/\PD kd S L a0 st2 a0.size/\(AV st2).size<=1) ?step ?fin ⟨rfl,pd1,by lia⟩) ?post)
  case fin =>
   rintro c st2 ⟨rfl,pd2,h5⟩;exact⟨rfl,pd2,by lia⟩
  case step =>
   rintro x c st2 _ hx ⟨rfl,pd2,h5⟩;refine Ao (EK ?_)
   try dsimp only
   by_cases hle:(AV st2).size<=1
   .rw[if_pos hle];exact Az ⟨rfl,pd2,hle⟩
   .rw[if_neg hle];refine Ao (pd2.merge O (Ai _) ?_ λst3 pd3 hs3 _=>?_)
    .have le':∀(c:Prop) [Decidable c] (p q:Nat),(if c then p else q)<=max p q:=λc _ p q=>by split <;> lia
     have:=le' (Option.any (λx=>decide (x<(AV st2)[(AV st2).size-2+1]?.elim 0 λx=>x.snd.fst)) (if (AV st2).size-2 > 0 then Option.map (λx=>x.snd.fst) (AV st2)[(AV st2).size-2-1]? else none)=true) ((AV st2).size-2-1) ((AV st2).size-2);lia
    .try dsimp only
     rw[if_neg (by decide)];exact Az ⟨rfl,pd3,by lia⟩
  case post =>
   rintro c st2 ⟨rfl,pd2,h5⟩;refine Az (hQ st2 pd2.perm pd2.fail ?_);have hr:=pd2.runs
   cases hl:(AV st2).toList with
   |nil =>
    rw[hl]at hr;have:0=a0.size:=hr;lia
   |cons r l =>
    have hll:(AV st2).toList.length<=1:=by rw[AJ];exact h5
    rw[hl]at hll hr;have:l=[]:=List.length_eq_zero_iff.mp (by simp at hll;simpa using hll);subst this;obtain⟨c1,c2,c3,c4⟩:=hr;have c4':0+r.2.1=a0.size:=c4;rw[c1,show r.2.1=a0.size by lia]at c3;exact c3
end
end TS
namespace L2
open PySem PySem.Spec PyProof.Rows
theorem zgD{α β:Type}{f:α->β}{xs ys:List β}(p:ys.Perm xs):∀{l:List α},xs=l.map f->∃l':List α,l'.Perm l/\ys=l'.map f:=by
 induction p with
 |nil=>intro l h;exact⟨l,List.Perm.refl _,h⟩
 |cons v _ ih =>
  intro l h
  match l,h with
  |x::l,h =>
   injection h with h1 h2;obtain⟨l',p',e⟩:=ih h2;exact⟨x::l',p'.cons x,by rw[e,h1];rfl⟩
 |swap a b r =>
  intro l h
  match l,h with
  |x::y::l,h =>
   injection h with h1 h2;injection h2 with h2 h3;exact⟨y::x::l,List.Perm.swap _ _ _,by rw[h1,h2,h3];rfl⟩
 |trans _ _ ih1 ih2 =>
  intro l h;obtain⟨l1,p1,h1⟩:=ih2 h;obtain⟨l2,p2,h2⟩:=ih1 h1;exact⟨l2,p2.trans p1,h2⟩
section
variable {X:Cx}{pins:List (Addr×Obj)}{σ:St}{H:Hp}{s:Ae}{D st:Addr}{e:Nat}{κV:Nat->List V}{ks:List Addr}{E:Ac->Ae->Prop}
noncomputable def Ordd(κ:Nat->List Int)(n:Nat)(p:Array Nat):Prop:=RK.Pm n p/\p.toList.Pairwise λi j=>HT.lexLt (κ j) (κ i)=false
noncomputable def zgR(κ:Nat->List Int)(ks:List Addr):Ac->List Int
 |.ref a=>κ (ks.idxOf a)
 |_=>[]
theorem zk3{vs:List Ac}{κ : Nat -> List Int}(K:SK X pins σ H s D st e κV ks)(hl:ks.length=vs.length)(h2 : 2 <= vs.length)
  (hcol:∀i j,i<ks.length->j<ks.length->∃n m r q rn rm,κV i=.int n::r/\κV j=.int m::q/\VCols r q rn rm/\κ i=n::rn/\κ j=m::rm) :
  ziL X (Ordd κ vs.length) (ks.map Au) vs E s:=by
 unfold ziL
 obtain⟨fs,kt,hfl,hfi⟩:=zkE (as:=[]) (vs:=[]) K.inv (ks:=ks) (ns:=(Bk ks.length).map λi=>((κ i).headD 0)) (λi a ha=>by
  have hi:i<ks.length:=(Ad.mp ha).1;obtain⟨n,m,r,q,rn,rm,e1,_,_,e2,_⟩:=hcol i i hi hi;refine⟨n,r,?_,?_⟩
  .rw[AA,List.getElem?_range hi,D2,e2];rfl
  .rw[<- e1];exact K.hk i a ha) (by simp)
 refine W.kat_kind (T:=.type "int") kt (by lia) (λv hv=>?_) rfl ⟨rfl,?_⟩
 .obtain⟨n,t,rfl⟩:=hfi v hv;exact .now
 have hl':(ks.map Au).length=vs.length:=by simp[hl]
 have hsz0:((ks.map Au).toArray.zip vs.toArray).size=vs.length:=by simp[hl]
 generalize hZ:(ks.map Au).toArray.zip vs.toArray=Z at hsz0;have hsz:Z.size=vs.length:=hsz0
 have kap:∀i (hi:i<ks.length),zgR κ ks (Au ks[i])=κ i:=λi hi=>by
  have hj:ks.idxOf ks[i]<ks.length:=List.idxOf_lt_length_iff.mpr (Bj hi);have ej:ks[ks.idxOf ks[i]]=ks[i]:=List.getElem_idxOf hj;obtain⟨n,m,r,q,rn,rm,e1,e2,vc,e3,e4⟩:=hcol (ks.idxOf ks[i]) i hj hi;have k1:=K.hk (ks.idxOf ks[i]) ks[i] (by rw[Ab hj,ej]);have k2:=K.hk i ks[i] (Ab hi);have eq:=K.inv.tuple_inj k1 k2;show κ (ks.idxOf ks[i])=κ i;rw[e1,e2]at eq;injection eq with q1 q2;injection q1 with q1;subst q1;subst q2;rw[e3,e4]
  congr 1
  have same:∀{xs:List V} {as bs:List Int},VCols xs xs as bs->as=bs:=λ{xs}=>by
   induction xs with
   |nil=>intro as bs h;cases h;rfl
   |cons x xs ih =>
    intro as bs h
    cases h with
    |cons c h=>cases c <;> rw[ih h]
  exact same vc
 have itm:∀i,i<vs.length->Eh Z i=(Au (ks.getD i 0),vs.getD i B8):=λi hi=>by
  rw[<- hZ,W.kat_item hl'];have:(ks.map Au).getD i B8=Au (ks.getD i 0):=by simp[show i<ks.length by lia]
  rw[this]
 have O:TS.LtOk (An X.prog X.w) X.A.in1.in1 E s (tuples' true) (λx=>∃i,i<ks.length/\x.1=Au (ks.getD i 0)) (λx y=>HT.lexLt (zgR κ ks x.1) (zgR κ ks y.1)):=by
  refine⟨λx y hx hy st' Q hk q=>?_,λx y z _ _ _ h1 h2=>?_,λx y _ _ h=>HT.lexLt_asym h⟩
  .obtain⟨i,hi,ex⟩:=hx;obtain⟨j,hj,ey⟩:=hy;have gi:ks.getD i 0=ks[i]:=by simp[hi]
   have gj:ks.getD j 0=ks[j]:=by simp[hj]
   rw[gi]at ex;rw[gj]at ey;rw[ex,ey,kap i hi,kap j hj]at q;rw[lt'_eq];refine Ao (EK ?_);rw[hk,ex,ey];obtain⟨n,m,r,q',rn,rm,e1,e2,vc,e3,e4⟩:=hcol i j hi hj;have k1:=K.hk i ks[i] (Ab hi);have k2:=K.hk j ks[j] (Ab hj);rw[e1]at k1;rw[e2]at k2;obtain⟨its,rv,⟨o,ho,hcl,c,hd⟩,_⟩:=K.inv.tuple k1;obtain⟨its2,rv2,⟨o2,ho2,hcl2,c2,hd2⟩,_⟩:=K.inv.tuple k2;refine Ao (wpS_lift (DI (W.kat_lt ho hd ho2 hd2 ?_)))
   cases rv with
   |cons rx rr =>
    cases rv2 with
    |cons rx2 rr2 =>
     obtain⟨t1,rfl⟩:=rx;obtain⟨t2,rfl⟩:=rx2;have cs:=vc.vals rr rr2
     have hlen:∀{us vs:List Ac} {as bs:List Int},RK.Cols us vs as bs->us.length=vs.length:=λc=>by induction c with
      |nil=>rfl
      |cons _ _ ih=>simp[ih]
     simp only[AF,AZ,hlen cs,Dd,decide_false];refine RK.kat_cols0 cs ?_
     rw[e3,e4]at q;exact⟨rfl,Az q⟩
  .cases q:HT.lexLt (zgR κ ks z.1) (zgR κ ks x.1) with
   |false=>rfl
   |true =>
    have:=HT.lexLt_of_not_lt_lt h2 q;rw[h1]at this;cases this
 have run:=TS.sortRuns_spec O (st:=SortSt.mk' (tuples' true) Z #[] 7 none) (Q:=λ_ st'=>CW st'=none/\∃p:Array Nat,Ordd κ vs.length p/\p.size=vs.length/\AB st'=p.map (Eh Z))
  (by show 2<=Z.size;lia) rfl rfl rfl (λk x hx=>?_) (λst' hp hf hs=>?_)
 .exact B3 run (λr s' h=>⟨h.1,h.2⟩) λ_ _ z=>z
 .have hk':k<vs.length:=by rw[<- hsz];exact (Bv.mp hx).1
  have hx':Z[k]?=some x:=hx
  have e1:Eh Z k=x:=by unfold Eh;rw[Array.getD_eq_getD_getElem?,hx'];rfl
  rw[itm k hk']at e1;exact⟨k,by lia,by rw[<- e1]⟩
 .refine⟨hf,?_⟩;have hp':(AB st').Perm Z:=hp;have hrng:=W.kas_range Z;rw[hsz]at hrng;obtain⟨l,pl,el⟩:=zgD (Ei.mp hp') (l:=Bk vs.length) (f:=Eh Z) (by have:=congrArg Array.toList hrng;simpa using this.symm);have hll:l.length=vs.length:=by rw[pl.length_eq,CH]
  refine⟨l.toArray,⟨?_,?_⟩,by simpa using hll,?_⟩
  .exact Array.perm_iff_toList_perm.mpr (by simpa using pl)
  .rw[BA];intro i j hi hj hij;have hi':i<l.length:=by simpa using hi
   have hj':j<l.length:=by simpa using hj
   have ai:(AB st')[i]?=some (Eh Z l[i]):=by rw[<- By,el,AA,Ab hi'];rfl
   have aj:(AB st')[j]?=some (Eh Z l[j]):=by rw[<- By,el,AA,Ab hj'];rfl
   have li:l[i]<vs.length:=DQ.mp (pl.mem_iff.mp (Bj hi'));have lj:l[j]<vs.length:=DQ.mp (pl.mem_iff.mp (Bj hj'));have:=hs i j _ _ (by lia) (by show j<Z.size;lia) (by rw[Da];exact ai) (by rw[Da];exact aj);rw[itm _ li,itm _ lj]at this;have g1:ks.getD l[i] 0=ks[l[i]]'(by lia):=by simp[show l[i]<ks.length by lia]
   have g2:ks.getD l[j] 0=ks[l[j]]'(by lia):=by simp[show l[j]<ks.length by lia]
   simp only[g1,g2]at this;rw[kap _ (by lia),kap _ (by lia)]at this;simpa using this
  .apply Array.toList_inj.mp
   rw[el];simp
end
section
variable {X:Cx}{x:Str}{p pos kp kpos:Pos}{e:Expr}{te:TE}{k:Nat}{f:Addr}{fd:Cc}{ps:List Str}{sp:Sp}{fn:Str}
noncomputable def znA(K:W.Frag)(te:TE)(sp:Sp):TE:=λσ H Q=>te σ H λv H1=>∃l xs,∃ κV:Nat->List V,∃ κ:Nat->List Int,[v]=[V.ref l]/\SqL K H1 l xs/\xs.length<=1000 /\
 (∀i x H2,xs[i]?=some x->Same H1 H2->sp [x] H2 (λv H'=>Same H2 H'/\∃a,v=.ref a/\SqT K H' a (κV i)) E0) /\
 (∀i j,i<xs.length->j<xs.length->∃n m r q rn rm,κV i=.int n::r/\κV j=.int m::q/\VCols r q rn rm/\κ i=n::rn/\κ j=m::rm)/\∀(p:List Nat) D H',p.Perm (Bk xs.length)->p.Pairwise (λi j=>HT.lexLt (κ j) (κ i)=false)->H1 D=none->Same H1 H'->H' D=some (.lst (p.map λi=>xs.getD i .non))->Q (.ref D) H'
theorem zif (F:FnOk X.prog X.w X.K X.mg X.base CX0 k f fd ps sp) (hr:Room (k + 1 + 1) X.A) (hb:Binds X.K fd ps []) (hg:Gl X "sorted") (hm:X.mg "sorted" = none) (hgf:Gl X fn) (hmf:X.mg fn=some (.ref f)) (he:PE X e te)
  (hdb:(fn == ("__debug__" : Str))=false:=by decide) (hse:Bh [e] X.env=[(false,eval e X.env)]:=by rfl) (hh:X.calm=true:=by rfl)
  (hall:(DN pos (Cz [⟨some "key",.Name fn kp,kpos⟩] X.env)).all (·.1.isSome)=true:=by rfl) (hkw:(DN pos (Cz [⟨some "key",.Name fn kp,kpos⟩] X.env)).any (·.1.isNone)=false:=by rfl)
  (hks:(DN pos (Cz [⟨some "key",.Name fn kp,kpos⟩] X.env)).filterMap (·.1)=[Bx "key"]:=by rfl) :
  PE X (.Call (.Name "sorted" p) [e] [⟨some "key",.Name fn kp,kpos⟩] pos) (znA X.K te sp):=by
 intro pins s σ H Q I h;refine Cw (zck I hg hm boot_sorted ?_ (by decide) (by decide));refine callWith_kw (thn (zai he zab (hs:=hse) pos pins s σ H (λvs H1=>∃l xs,∃ κV:Nat->List V,∃ κ:Nat->List Int,vs=[V.ref l]/\SqL X.K H1 l xs/\xs.length<=1000 /\
 (∀i x H2,xs[i]?=some x->Same H1 H2->sp [x] H2 (λv H'=>Same H2 H'/\∃a,v=.ref a/\SqT X.K H' a (κV i)) E0) /\
 (∀i j,i<xs.length->j<xs.length->∃n m r q rn rm,κV i=.int n::r/\κV j=.int m::q/\VCols r q rn rm/\κ i=n::rn/\κ j=m::rm)/\∀(p:List Nat) D H',p.Perm (Bk xs.length)->p.Pairwise (λi j=>HT.lexLt (κ j) (κ i)=false)->H1 D=none->Same H1 H'->H' D=some (.lst (p.map λi=>xs.getD i .non))->Q (.ref D) H') I ?_) λus s1 ⟨vs,H1,I1,r,q⟩=>?_) (by rw[hse];rfl) (by rw[hse];rfl) hall hkw
 .show te σ H _;exact h
 .obtain⟨l,xs,κV,κ,rfl,hq,h64,turn,hcol,hQ⟩:=q;obtain⟨u,rfl,ru⟩:=Vals.one r
  cases (show u=Au l from ru)
  refine thn (zhy (nm:=some "key") (kpos:=kpos) (zdy (v:=.ref f) hgf hmf rfl hdb) zj9 pos pins s1 σ H1 (λzs H2=>zs=[.ref f]/\H2=H1) I1 ⟨rfl,rfl⟩) λws s2 ⟨zs,H2,I2,rz,q2⟩=>?_
  obtain⟨rfl,rfl⟩:=q2;obtain⟨u2,rfl,ru2⟩:=Vals.one rz
  cases (show u2=Au f from ru2)
  rw[hks];refine zff (G:=Ordd κ xs.length) (zog F hr hb turn) hq (λp hp i hi=>?_) (λh2=>⟨EL _,?_⟩) (λ{vs ks H' s' D st e} r' K' hks h2=>?_) (λp D H' g hp hD hS hH=>hQ p.toList D H' ?_ g.2 hD hS hH) I2
  .have:=hp.1.mem_iff.mp (show i∈p by simpa using hi);simpa using this
  .rw[BA];intro i j hi hj hij;simp at hi hj;lia
  .have hlx:xs.length=vs.length:=r'.length;rw[hlx];exact zk3 K' hks h2 λi j hi hj=>hcol i j (by lia) (by lia)
  .have:=Ei.mp g.1;simpa using this
end
section
variable {prog:AQ}{w:Bg}{A:AY}{R:Result->Ae->Prop}{s:Ae}
theorem zdV{elt:Expr}{c0:Comprehension}{target iter:Expr}{ifs:List Expr}{rest:List Comprehension}{scope:Scope}{pos:Pos}{it acc:Ac}{env:Env}
  (h0:CT (An prog w) A (.compLoop (.ListComp elt (c0::⟨target,iter,ifs,0⟩::rest) scope pos) 1 it acc env) R s)
  (h:Ak (An prog w) A (pyIter it) (λit' s'=>CT (An prog w) A (.compLoop (.ListComp elt (c0::⟨target,iter,ifs,0⟩::rest) scope pos) 1 it' acc env) R s') (notedBy (An prog w) A env λx s'=>R (.error x) s') s) :
  CT (An prog w) A (.compStart (.ListComp elt (c0::⟨target,iter,ifs,0⟩::rest) scope pos) 1 it acc env) R s:=by
 refine codeAny_of_tree ?_
 show Ak _ _ ((compStart (.ListComp elt (c0::⟨target,iter,ifs,0⟩::rest) scope pos) 1 it acc env).onRaise (λx=>do noteFrame x env;standAt theWindowsPlace)) _ _ s;refine wpAny_notedAt ?_
 unfold compStart;show Ak _ _ (ask >>= _) _ _ s;refine Aa (wpAny_askSetting (wpAny_ite ?_));split
 .first
   |exact Af (And.intro rfl h0)
   |exact Aa (Af (Af (And.intro rfl h0)))
 .refine Aa (B9 ?_);show Ak _ _ (standAt iter.pos >>= _) _ _ s;exact Aa (De (Aa (B3 h (λit' s' h'=>Af (And.intro rfl h')) λ_ _ z=>z)))
end
section
variable {X:Cx}{osc:Scope}{N:List Str}{sc:Scope}{N':List Str}{sel:List (Option Nat)}{pos:Pos}{elt kx vx tg iter tg2 iter2:Expr}{ifs ifs2:List Expr}{wi wi2:TI}{g g2:TG}{tt tt2:TT}{te tk tv:TE}
noncomputable def tNest(wi2:TI)(g2:TG)(tb:TS):TS:=λD σ H=>wi2 σ H λJ H1=>zcm J g2 tb { nx:=D.nx,rt:=λ_ _=>False } σ H1
theorem zm1{Y:Cx}{p:Addr}(hc:Y.calm=true)(hx:Y.xe=λ_ _ => False)(hi2:PI Y tg2 iter2 wi2)(hg2:PG Y tg2 g2)(ht2:PTs Y ifs2 tt2)(he:PE Y elt te)(hs2:∀x, BY iter2 Y.env x=pure x) :
  PB Y (do
   let x <- eval iter2 Y.env
   standAt iter2.pos
   let x <- BY iter2 Y.env x
   let _ <- runOwn (.compStart (.ListComp elt [⟨tg,iter,ifs,0⟩,⟨tg2,iter2,ifs2,0⟩] sc pos) 1 (<- holding [x] (pyIter x)) (.ref p) Y.env) Y.env) (tNest wi2 g2 (tIfs tt2 (zcn p te))):=by
 intro pins s σ H D I h;refine Aa (thn (hi2 pins s σ H _ I h) λv s1 h1=>?_);refine Aa (De ?_);rw[hs2];refine Aa (Af ?_);refine Aa (Bb (thn h1 λitv s2 h2=>?_));obtain⟨it,fp,tn,J,H2,e,I2,T,st2,f2,h2⟩:=h2;subst e
 have loop:CT (An Y.prog Y.w) Y.A (.compLoop (.ListComp elt [⟨tg,iter,ifs,0⟩,⟨tg2,iter2,ifs2,0⟩] sc pos) 1 (.ref it) (.ref p) Y.env) (λr s'=>match r with |.ok f=>Ak (An Y.prog Y.w) Y.A (pure ()) (λ_ s'=>∃ σ' H',Inv Y pins σ' H' s'/\D.nx σ' H') Y.xe s' |.error e=>cameBackBy (An Y.prog Y.w) Y.A Y.env Y.xe e s') s2 :=
  zdk (X:=Y) (p:=iter2.pos) (inner:=do let _ <- call (.builtin "list.append") [.ref p,<- eval elt Y.env]) rfl rfl rfl (λB {α t Q E s} h w=>by subst h;exact w) hc hx hg2 ht2 (zkg he) I2 T st2 f2 h2 λfl s' ⟨σ',H',I',_,q⟩=>Af ⟨σ',H',I',q⟩
 refine Aa (wpAny_runOwn (zdV loop (T.self _ 0 _ _ _ st2 loop)))
theorem zg1{env:Env}{it p:Addr} : compTurn (.ListComp elt [⟨tg, iter, ifs, 0⟩, ⟨tg2, iter2, ifs2, 0⟩] sc pos) 0 (.ref it) (.ref p) env=(do
   standAt iter.pos
   match <- DU (.ref it) with
   |none=>pure (.done .next)
   |some v =>
    EI tg (.ref it) v
    assign tg env v
    let mut ok:=true
    for c in ifs do
     if ok then ok <- isTrue c env (eval c env)
    if ok then
     (do
      let x <- eval iter2 env
      standAt iter2.pos
      let x <- BY iter2 env x
      let _ <- runOwn (.compStart (.ListComp elt [⟨tg,iter,ifs,0⟩,⟨tg2,iter2,ifs2,0⟩] sc pos) 1 (<- holding [x] (pyIter x)) (.ref p) env) env)
    again (.compLoop (.ListComp elt [⟨tg,iter,ifs,0⟩,⟨tg2,iter2,ifs2,0⟩] sc pos) 0 (.ref it) (.ref p) env)):=by
 unfold compTurn;simp only[bind_assoc,pure_bind];rfl
theorem zja{it:Addr}{fp:List Addr}{tn:Nat -> Heap -> Prop}{J:It}(T:Turn X.prog X.w X.K tg J fp it tn)(hc:X.calm=true)(hg:InBlk X sc N' λY => PG Y tg g)(ht:InBlk X sc N' λY => PTs Y ifs tt)
  (hi2:InBlk X sc N' λY=>PI Y tg2 iter2 wi2) (hg2:InBlk X sc N' λY=>PG Y tg2 g2) (ht2:InBlk X sc N' λY=>PTs Y ifs2 tt2) (he:InBlk X sc N' λY=>PE Y elt te) (hs2:∀cl C x,BY iter2 (DO sc cl C X.env) x=pure x) :
  ∀cl C s0 H0 ex p pins s σ H Dn R,Inv (blk X sc cl C N' s0 H0 ex) pins σ H s->tn 0 s.heap->(∀b∈fp,FpOk (blk X sc cl C N' s0 H0 ex) pins H b)->zcm J g (tIfs tt (tNest wi2 g2 (tIfs tt2 (zcn p te)))) Dn σ H ->
   (∀fl s',(∃ σ' H',Inv (blk X sc cl C N' s0 H0 ex) pins σ' H' s'/\(∀b∈fp,H' b=none)/\Dn.nx σ' H')->R (.ok fl) s')->CT (An X.prog X.w) X.A (.compLoop (.ListComp elt [⟨tg,iter,ifs,0⟩,⟨tg2,iter2,ifs2,0⟩] sc pos) 0 (.ref it) (.ref p) (DO sc cl C X.env)) R s :=
 λcl C s0 H0 ex p pins s σ H Dn R I st f W hR =>
  zdk (X:=blk X sc cl C N' s0 H0 ex) (p:=iter.pos) (inner:=do
   let x <- eval iter2 (DO sc cl C X.env)
   standAt iter2.pos
   let x <- BY iter2 (DO sc cl C X.env) x
   let _ <- runOwn (.compStart (.ListComp elt [⟨tg,iter,ifs,0⟩,⟨tg2,iter2,ifs2,0⟩] sc pos) 1 (<- holding [x] (pyIter x)) (.ref p) (DO sc cl C X.env)) (DO sc cl C X.env))
   rfl rfl zg1 (λB {α t Q E s} h w=>by subst h;exact w) hc rfl (hg _ _ _ _ _) (ht _ _ _ _ _) (zm1 (Y:=blk X sc cl C N' s0 H0 ex) hc rfl (hi2 _ _ _ _ _) (hg2 _ _ _ _ _) (ht2 _ _ _ _ _) (he _ _ _ _ _) (hs2 cl C)) I T st f W hR
noncomputable def zmQ(wi:TI)(sel:List (Option Nat))(g:TG)(tt:TT)(wi2:TI)(g2:TG)(tt2:TT)(te:TE)(i:Nat):TS:=λD σ H=>wi σ H λJ H1=>∀p,H1 p=none ->
 zcm J g (tIfs tt (tNest wi2 g2 (tIfs tt2 (zcn p te)))) { nx:=λ_ H'=>D.nx (σ.set i (some (.ref p))) H',rt:=λ_ _=>False } (selSt sel σ) (upd H1 p (.lst []))
theorem zj6{i:Nat}{x:Str}{px spos:Pos}(B:BlkOk osc N sc N' sel)(hnd:X.N.Nodup)(hi':X.N[i]? = some x)(hx:Loc X.env.scope x)(hi:PI X tg iter wi)(hg:InBlk X sc N' λY => PG Y tg g)(ht:InBlk X sc N' λY => PTs Y ifs tt)(hi2:InBlk X sc N' λY => PI Y tg2 iter2 wi2)(hg2:InBlk X sc N' λY => PG Y tg2 g2)(ht2:InBlk X sc N' λY => PTs Y ifs2 tt2)(he:InBlk X sc N' λY => PE Y elt te)(hs2:∀cl C x, BY iter2 (DO sc cl C X.env) x=pure x)
  (hsw:swapsWith (.ListComp elt [⟨tg,iter,ifs,0⟩,⟨tg2,iter2,ifs2,0⟩] sc pos) (some (.Name x px)) spos.line X.env=pure true:=by rfl)
  (ho:X.env.scope=osc:=by rfl) (hN:X.N=N:=by rfl) (hc:X.calm=true:=by rfl) (hs:∀x,BY iter X.env x=pure x:=by intro _;rfl)
  (hf:X.fn x=true∨X.env.scope.names.lookup x=some .local:=by first |exact .inl rfl |exact .inr rfl |assumption) :
  PS X (.Assign [.Name x px] (.ListComp elt [⟨tg,iter,ifs,0⟩,⟨tg2,iter2,ifs2,0⟩] sc pos) spos) (zmQ wi sel g tt wi2 g2 tt2 te i):=by
 intro pins s σ H D I h;obtain⟨cl,Cl⟩:=ziG I.ok B ho;rw[exec_Assign_Name_used _ _ _ _ hsw];refine Aa (De (Aa ?_));show Ak _ X.A (do let _ <- comprehension (.ListComp elt [⟨tg,iter,ifs,0⟩,⟨tg2,iter2,ifs2,0⟩] sc pos) sc X.env _ (newList []) false (eval iter X.env) (some (assign (.Name x px) X.env))) _ _ s;refine Aa (thn (DH (use:=some (assign (.Name x px) X.env)) (Q:=λ_ s'=>SP X pins D .next s') rfl hs Cl.run B.kind B.names (thn (hi pins s σ H _ I h) λv s1 h1=>thn h1 λitv s2 h2=>?_)) λ_ s' hq=>Af (Af hq));obtain⟨it,fp,tn,J,H2,e,I2,T,st2,f2,h2⟩:=h2;subst e
 refine Bl (zdl (e:=.ListComp elt [⟨tg,iter,ifs,0⟩,⟨tg2,iter2,ifs2,0⟩] sc pos) (inner:=λ_ _=>pure ()) (D:=λp=>{ nx:=λ_ H'=>D.nx (σ.set i (some (.ref p))) H',rt:=λ_ _=>False }) (tb:=λp=>tNest wi2 g2 (tIfs tt2 (zcn p te))) (use:=some (assign (.Name x px) X.env)) B ho hN hc (λacc env R s a b=>codeAny_compStart_list a b)
  (zja (iter:=iter) (pos:=pos) T hc hg ht hi2 hg2 ht2 he hs2) I2 T st2 f2 zhJ rfl (h2 _ (I2.hok.fresh (Ai _))) (λC H' s' I3 fC hn hq=>?_) s2.toks cl Cl X.xe)
 obtain⟨m,hn⟩:=hn;obtain⟨_,hq⟩:=hq;show Ak _ X.A (assign (.Name x px) X.env (.ref s2.heap.objs.size)) _ _ _;refine wpAny_assign_Name (zeb I3 hnd hi' hx (v:=.ref s2.heap.objs.size) rfl (λs4 I4 hch=>?_) hf);obtain⟨a,sb,ha⟩:=hch
 have nC:C≠a:=by
  rcases ha with z |z
  .rw[z];exact fC.2.1
  .exact λq=>fC.2.2.2.2.1 x a z q.symm
 refine⟨m,hn.sameBut sb nC,λh' hs'=>⟨_,H',I4.let_go fC hs',hq⟩⟩
end
end L2
namespace RP
noncomputable def mv(i:Nat):Int×Int:=([(1,0),(1,1),(0,1),(-1,1),(-1,0),(-1,-1),(0,-1),(1,-1)]:List (Int×Int)).getD i (0,0)
noncomputable abbrev Cell:=Int×Int
noncomputable def go(c:Cell)(i:Nat):Cell:=(c.1+(mv i).1,c.2+(mv i).2)
structure Edge where
 c:Cell
 w:Nat
 deriving DecidableEq
noncomputable def gap(e:Edge):Cell:=go e.c ((2*e.w+6) % 8)
noncomputable def stepB(C:Cell->Bool)(e:Edge):Option Nat :=
 if C (go e.c ((2*e.w+7) % 8))=true then some ((2*e.w+7) % 8) else if C (go e.c (2*e.w))=true then some (2*e.w) else none
noncomputable def slant:Option Nat->Bool
 |none=>false
 |some s=>s % 2 == 1
noncomputable def edgeB(e:Edge):Option Nat->Edge
 |none=>⟨e.c,(e.w+1) % 4⟩
 |some s=>if s % 2=1 then ⟨go e.c s,(e.w+3) % 4⟩ else ⟨go e.c s,e.w⟩
noncomputable def nxt(C:Cell->Bool)(e:Edge):Edge:=edgeB e (stepB C e)
noncomputable def IsE(C:Cell->Bool)(e:Edge):Prop:=e.w<4/\C e.c=true/\C (gap e)=false
noncomputable def prv(C:Cell->Bool)(f:Edge):Edge :=
 if C (go f.c ((2*f.w+5) % 8))=true then ⟨go f.c ((2*f.w+5) % 8),(f.w+1) % 4⟩
 else if C (go f.c ((2*f.w+4) % 8))=true then ⟨go f.c ((2*f.w+4) % 8),f.w⟩ else ⟨f.c,(f.w+3) % 4⟩
theorem way4{w:Nat}(h:w<4):w=0∨w=1∨w=2∨w=3:=by lia
noncomputable def mvAdd(a b d:Nat):Bool:=(mv a).1+(mv b).1 == (mv d).1 && (mv a).2+(mv b).2 == (mv d).2
noncomputable def mvNil(a b:Nat):Bool:=(mv a).1+(mv b).1 == 0 && (mv a).2+(mv b).2 == 0
theorem go_go{c:Cell}{a b d:Nat}(h:mvAdd a b d=true):go (go c a) b=go c d:=by unfold mvAdd at h;simp only[B6,beq_iff_eq]at h;unfold go;exact Prod.ext (by show c.1+(mv a).1+(mv b).1=c.1+(mv d).1;lia) (by show c.2+(mv a).2+(mv b).2=c.2+(mv d).2;lia)
theorem zkL{c:Cell}{a b:Nat}(h:mvNil a b=true):go (go c a) b=c:=by unfold mvNil at h;simp only[B6,beq_iff_eq]at h;unfold go;exact Prod.ext (by show c.1+(mv a).1+(mv b).1=c.1;lia) (by show c.2+(mv a).2+(mv b).2=c.2;lia)
theorem f1:∀w<4,mvAdd ((2*w+7) % 8) ((2*((w+3) % 4)+6) % 8) ((2*w+6) % 8)=true:=by decide
theorem f2:∀w<4,mvAdd (2*w) ((2*w+6) % 8) ((2*w+7) % 8)=true:=by decide
theorem f3:∀w<4,(2*((w+1) % 4)+6) % 8=2*w:=by decide
theorem f4:∀w<4,mvNil ((2*w+7) % 8) ((2*((w+3) % 4)+5) % 8)=true:=by decide
theorem f5:∀w<4,mvAdd (2*w) ((2*w+5) % 8) ((2*w+6) % 8)=true:=by decide
theorem f6:∀w<4,mvNil (2*w) ((2*w+4) % 8)=true:=by decide
theorem f7:∀w<4,(2*((w+1) % 4)+5) % 8=(2*w+7) % 8:=by decide
theorem f8:∀w<4,(2*((w+1) % 4)+4) % 8=(2*w+6) % 8:=by decide
theorem odd7(w:Nat):(2*w+7) % 8 % 2=1:=by lia
theorem zaP{C:Cell -> Bool}{e:Edge}(h:IsE C e) :
  (C (go e.c ((2*e.w+7) % 8))=true/\stepB C e=some ((2*e.w+7) % 8)/\nxt C e=⟨go e.c ((2*e.w+7) % 8),(e.w+3) % 4⟩) ∨
  (C (go e.c ((2*e.w+7) % 8))=false/\C (go e.c (2*e.w))=true/\stepB C e=some (2*e.w)/\nxt C e=⟨go e.c (2*e.w),e.w⟩) ∨
  (C (go e.c ((2*e.w+7) % 8))=false/\C (go e.c (2*e.w))=false/\stepB C e=none/\nxt C e=⟨e.c,(e.w+1) % 4⟩):=by
 unfold nxt stepB
 by_cases h1:C (go e.c ((2*e.w+7) % 8))=true
 .left;rw[if_pos h1];exact⟨h1,rfl,by simp only[edgeB];rw[if_pos (odd7 _)]⟩
 .right;have h1':C (go e.c ((2*e.w+7) % 8))=false:=by simpa using h1
  rw[if_neg h1]
  by_cases h2:C (go e.c (2*e.w))=true
  .left;rw[if_pos h2];exact⟨h1',h2,rfl,by simp only[edgeB];rw[if_neg (by lia)]⟩
  .right;rw[if_neg h2];exact⟨h1',by simpa using h2,rfl,rfl⟩
theorem zdL{C:Cell->Bool}{e:Edge}(h:IsE C e):IsE C (nxt C e):=by
 obtain⟨hw,hc,hg⟩:=id h;rcases zaP h with⟨h1,_,q⟩ |⟨h1,h2,_,q⟩ |⟨h1,h2,_,q⟩ <;> rw[q]
 .refine⟨Ci _ (by decide),h1,?_⟩;unfold gap;rw[go_go (f1 _ hw)];exact hg
 .refine⟨hw,h2,?_⟩;unfold gap;rw[go_go (f2 _ hw)];exact h1
 .refine⟨Ci _ (by decide),hc,?_⟩;unfold gap;simp only;rw[f3 _ hw];exact h2
theorem zj7{C:Cell->Bool}{e:Edge}(h:IsE C e):prv C (nxt C e)=e:=by
 obtain⟨hw,hc,hg⟩:=id h;unfold gap at hg;rcases zaP h with⟨h1,_,q⟩ |⟨h1,h2,_,q⟩ |⟨h1,h2,_,q⟩ <;> rw[q] <;> unfold prv <;> simp only
 .rw[zkL (f4 _ hw),if_pos hc];rw[show ((e.w+3) % 4+1) % 4=e.w by lia]
 .rw[go_go (f5 _ hw),hg,if_neg (by decide),zkL (f6 _ hw),if_pos hc]
 .rw[f7 _ hw,h1,if_neg (by decide),f8 _ hw,hg,if_neg (by decide)];rw[show ((e.w+1) % 4+3) % 4=e.w by lia]
theorem zev{C:Cell->Bool}{e f:Edge}(he:IsE C e)(hf:IsE C f)(h:nxt C e=nxt C f):e=f:=by rw[<- zj7 he,<- zj7 hf,h]
noncomputable def Chain(C:Cell->Bool)(b:Edge)(es:List Edge):Prop:=es[0]?=some b/\(∀i e f,es[i]?=some e->es[i+1]?=some f->f=nxt C e)/\(∀e∈es,IsE C e)/\es.Nodup
theorem Chain.start{C:Cell->Bool}{b:Edge}(h:IsE C b):Chain C b [b] :=
 ⟨rfl,λi e f _ h2=>by simp at h2,λe he=>by rw[Am.mp he];exact h,by simp⟩
theorem Chain.more{C:Cell->Bool}{b l:Edge}{es:List Edge}(h:Chain C b (es++[l]))(hn:nxt C l≠b):Chain C b ((es++[l])++[nxt C l]):=by
 obtain⟨h0,hs,hE,hnd⟩:=h;have hl:(es++[l])[es.length]?=some l:=by simp
 have lE:=hE l (by simp);refine⟨?_,λi e f h1 h2=>?_,λe he=>?_,?_⟩
 .rw[AH (by simp)];exact h0
 .rcases A6 (i+1) (es++[l]).length with hi |hi
  .rw[AH (by lia)]at h1;rw[AH hi]at h2;exact hs i e f h1 h2
  .have hi2:=(Ad.mp h2).1;simp at hi2 hi;have hi3:i=es.length:=by lia
   subst hi3;rw[AH (by simp)]at h1;rw[hl]at h1
   cases h1
   rw[AW (by simp)]at h2;simp at h2;exact h2.symm
 .rcases AC.mp he with he |he
  .exact hE e he
  .rw[Am.mp he];exact zdL lE
 .rw[DD];refine⟨hnd,by simp,λx hx y hy=>?_⟩;rw[Am.mp hy];intro e;subst e;obtain⟨i,hi,ei⟩:=AD hx;rcases Nat.eq_zero_or_pos i with rfl |hp
  .rw[Ab hi,ei]at h0;exact hn (A9 h0)
  .have hi':i-1<(es++[l]).length:=by lia
   have e1:=hs (i-1) ((es++[l])[i-1]) (nxt C l) (Ab hi') (by rw[show i-1+1=i by lia,Ab hi,ei]);have e2:=zev lE (hE _ (Bj hi')) e1;have e3:es.length=i-1:=(C3 (by simp) hnd).mp (by rw[hl,Ab hi',<- e2]);simp at hi;lia
theorem zaA{α:Type} [DecidableEq α]:∀{a b:List α},a.Nodup->(∀x∈a,x∈b)->a.length<=b.length
 |[],_,_,_=>Bd _
 |x::a,b,hn,hs=>by
  have hx:x∈b:=hs x Ap
  have h1:=zaA (a:=a) (b:=b.erase x) (Bs.mp hn).2 (λy hy=>by refine (List.mem_erase_of_ne ?_).mpr (hs y (As _ hy));intro e;subst e;exact (Bs.mp hn).1 hy)
  rw[List.length_erase_of_mem hx]at h1;have:0<b.length:=List.length_pos_of_mem hx;simp only[AZ];lia
noncomputable def sides(cs:List Cell):List Edge:=cs.flatMap λc=>(Bk 4).map λw=>⟨c,w⟩
theorem zbe(cs:List Cell):(sides cs).length=4*cs.length:=by
 unfold sides
 induction cs with
 |nil=>rfl
 |cons c r ih=>rw[List.flatMap_cons,Av,ih];simp;lia
theorem zb1{cs:List Cell}{e:Edge}:e∈sides cs ↔ e.c∈cs/\e.w<4:=by
 unfold sides;rw[List.mem_flatMap];constructor
 .rintro⟨c,hc,h⟩;obtain⟨w,hw,rfl⟩:=AE.mp h;exact⟨hc,DQ.mp hw⟩
 .rintro⟨hc,hw⟩;exact⟨e.c,hc,AE.mpr ⟨e.w,List.mem_range.mpr hw,rfl⟩⟩
noncomputable def isIn(cs:List Cell)(c:Cell):Bool:=decide (c∈cs)
theorem Chain.short{cs:List Cell}{b:Edge}{es:List Edge}(h:Chain (isIn cs) b es):es.length<=4*cs.length:=by rw[<- zbe];exact zaA h.2.2.2 λe he=>zb1.mpr ⟨of_decide_eq_true (h.2.2.1 e he).2.1,(h.2.2.1 e he).1⟩
noncomputable def allE(cs:List Cell):List Edge:=(sides cs).filter λe=>!isIn cs (gap e)
theorem zcJ{cs:List Cell}{e:Edge}:e∈allE cs ↔ IsE (isIn cs) e:=by
 unfold allE;rw[List.mem_filter,zb1];unfold IsE isIn;constructor
 .rintro⟨⟨h1,h2⟩,h3⟩;exact⟨h2,decide_eq_true h1,by simpa using h3⟩
 .rintro⟨h1,h2,h3⟩;exact⟨⟨of_decide_eq_true h2,h1⟩,by simpa using h3⟩
noncomputable def dx(w:Nat):Int:=if w=0 then 1 else if w=2 then -1 else 0
noncomputable def dy(w:Nat):Int:=if w=1 then 1 else if w=3 then -1 else 0
noncomputable def px(e:Edge):Int:=e.c.1+(if e.w=1∨e.w=2 then 1 else 0)
noncomputable def py(e:Edge):Int:=e.c.2+(if e.w=2∨e.w=3 then 1 else 0)
theorem zgF{C:Cell->Bool}{e:Edge}(h:IsE C e):px (nxt C e)=px e+dx e.w/\py (nxt C e)=py e+dy e.w:=by
 have hw:=h.1
 rcases zaP h with⟨_,_,q⟩ |⟨_,_,_,q⟩ |⟨_,_,_,q⟩ <;> rw[q] <;> obtain⟨c,w⟩:=e <;> simp only at hw <;>
  rcases way4 hw with rfl |rfl |rfl |rfl <;> simp[px,py,dx,dy,go,mv] <;> lia
theorem znv{C:Cell->Bool}{e:Edge}(h:IsE C e):(nxt C e).w=(e.w+3) % 4∨(nxt C e).w=e.w∨(nxt C e).w=(e.w+1) % 4:=by
 rcases zaP h with⟨_,_,q⟩ |⟨_,_,_,q⟩ |⟨_,_,_,q⟩ <;> rw[q]
 .exact .inl rfl
 .exact .inr (.inl rfl)
 .exact .inr (.inr rfl)
noncomputable def Closed(C:Cell->Bool)(b:Edge)(es:List Edge):Prop:=Chain C b es/\∃l,es[es.length-1]?=some l/\nxt C l=b
theorem psum{C:Cell->Bool}{b:Edge}{es:List Edge}(h:Chain C b es):∀i e,es[i]?=some e->px e=px b+((es.take i).map λe=>dx e.w).sum/\py e=py b+((es.take i).map λe=>dy e.w).sum
 | 0,e,he=>by
  have h0:=h.1;rw[he]at h0
  cases h0
  simp
 |i+1,e,he=>by
  have hi:i+1<es.length:=(Ad.mp he).1;have h1:es[i]?=some es[i]:=Ab (by lia)
  obtain⟨a,c⟩:=psum h i _ h1;have hn:=h.2.1 i _ e h1 he;obtain⟨p,q⟩:=zgF (h.2.2.1 _ (Bj (show i<es.length by lia)));rw[<- hn]at p q;rw[DP,h1];simp only[Option.toList_some,Ay,AO,DV,CJ,BH,List.sum_nil];lia
theorem Closed.sums{C:Cell->Bool}{b:Edge}{es:List Edge}(h:Closed C b es):(es.map λe=>dx e.w).sum=0/\(es.map λe=>dy e.w).sum=0:=by
 obtain⟨hc,l,hl,hb⟩:=h;have hlt:=(Ad.mp hl).1;obtain⟨a,c⟩:=psum hc _ l hl;have hlm:=(Ad.mp hl).2;obtain⟨p,q⟩:=zgF (hc.2.2.1 l (by rw[<- hlm];exact Bj _));rw[hb]at p q
 have e:es=es.take (es.length-1)++[l]:=by have:=DP (l:=es) (i:=es.length-1);rw[hl,show es.length-1+1=es.length by lia,AI]at this;simpa using this
 have s1:(es.map λe=>dx e.w).sum=((es.take (es.length-1)).map λe=>dx e.w).sum+dx l.w:=by
  conv=>lhs;rw[e]
  simp
 have s2:(es.map λe=>dy e.w).sum=((es.take (es.length-1)).map λe=>dy e.w).sum+dy l.w:=by
  conv=>lhs;rw[e]
  simp
 lia
theorem ziP{l:List Int}(h:∀x∈l,0<=x):0<=l.sum:=by
 induction l with
 |nil=>simp
 |cons a r ih =>
  have:=h a Ap;have:=ih λx hx=>h x (As _ hx)
  simp only[BH];lia
theorem zh1{l:List Int}(h:∀x∈l,0<=x)(hs:l.sum=0):∀x∈l,x=0:=by
 induction l with
 |nil=>intro x hx;cases hx
 |cons a r ih =>
  have h1:=h a Ap;have h2:=ziP λx hx=>h x (As _ hx)
  simp only[BH]at hs;intro x hx;rcases Ax.mp hx with rfl |hx
  .lia
  .exact ih (λx hx=>h x (As _ hx)) (by lia) x hx
theorem zm9(l:List Int):(l.map λx=>-x).sum=-l.sum:=by
 induction l with
 |nil=>rfl
 |cons a r ih=>simp only[AO,BH,ih];lia
theorem zk4(l:List Int)(d:Int)(h:∀x∈l,x=d):l.sum=d*l.length:=by
 induction l with
 |nil=>simp
 |cons a r ih =>
  have h1:=h a Ap;have h2:=ih λx hx=>h x (As _ hx)
  simp only[BH,AZ,h1,h2];rw[Int.natCast_add,Int.mul_add];lia
theorem Closed.has{C:Cell->Bool}{b:Edge}{es:List Edge}(h:Closed C b es){k:Nat}(hk:k=0∨k=2):∃e∈es,e.w=k:=by
 apply Ba
 intro hno;have hno':∀e∈es,e.w≠k:=λe he z=>hno ⟨e,he,z⟩
 obtain⟨s1,s2⟩:=h.sums;obtain⟨hc,_⟩:=h
 have hpos:0<es.length:=by have:=hc.1;exact (Ad.mp this).1
 have z:∀e∈es,dx e.w=0:=by
  rcases hk with rfl |rfl
  .have := zh1 (l := (es.map λe => dx e.w).map λx => -x) (λx hx => by obtain⟨y,hy,rfl⟩:=AE.mp hx;obtain⟨e,he,rfl⟩:=AE.mp hy;have:=hno' e he;unfold dx;rw[if_neg this];split <;> decide) (by rw[zm9,s1];rfl)
   intro e he;have:=this (-(dx e.w)) (AE.mpr ⟨_,AE.mpr ⟨e,he,rfl⟩,rfl⟩);lia
  .have := zh1 (l := es.map λe => dx e.w) (λx hx => by obtain⟨e,he,rfl⟩:=AE.mp hx;have:=hno' e he;unfold dx;rw[if_neg this];split <;> decide) s1
   intro e he;exact this _ (AE.mpr ⟨e,he,rfl⟩)
 have odd:∀e∈es,e.w=1∨e.w=3:=λe he=>by
  have h4:=(hc.2.2.1 e he).1;have hz:=z e he;rcases way4 h4 with q |q |q |q
  .rw[q]at hz;exact absurd hz (by decide)
  .exact .inl q
  .rw[q]at hz;exact absurd hz (by decide)
  .exact .inr q
 have same:∀(i:Nat) (e:Edge),es[i]?=some e->e.w=b.w:=by
  intro i
  induction i with
  |zero=>intro e he;have:=hc.1;rw[he]at this;cases this;rfl
  |succ i ih =>
   intro e he;have hi:i+1<es.length:=(Ad.mp he).1;have h1:es[i]?=some es[i]:=Ab (by lia)
   have hn:=hc.2.1 i _ e h1 he;have m1:es[i]∈es:=Bj _;have m2:e∈es:=Aj he;have w1:=ih _ h1;have o1:=odd _ m1;have o2:=odd _ m2;have:=znv (hc.2.2.1 _ m1);rw[<- hn]at this;lia
 have all:∀x∈es.map (λe=>dy e.w),x=dy b.w:=λx hx=>by obtain⟨e,he,rfl⟩:=AE.mp hx;obtain⟨i,hi,ei⟩:=AD he;rw[same i e (by rw[Ab hi,ei])]
 have t:=zk4 _ _ all;rw[s2,Ah]at t
 have ob:b.w=1∨b.w=3:=by have:=hc.1;exact odd b (Aj this)
 have d1:dy b.w=1∨dy b.w=-1:=by rcases ob with q |q <;> rw[q] <;> decide
 rcases d1 with q |q <;> rw[q]at t <;> lia
end RP
namespace L2
open PySem PySem.Spec PyProof.Rows
structure Fn (P:AQ) (w:Bg) (K:W.Frag) (mg:Str->Option Ac) (base:Heap) (k:Nat) (x:Str) (ps:List Str) (sp:Sp) where
 f:Addr
 fd:Cc
 ok:FnOk P w K mg base CX0 k f fd ps sp
 m:mg x=some (.ref f)
 kp:W.keepIn K (.ref f)=true
 b:Binds K fd ps []
structure Df (K:W.Frag) (mg:Str->Option Ac) (x:Str) (st:Stmt) (ps:List Str) where
 f:Addr
 fd:Cc
 F:Fun K x x st f fd
 m:mg x=some (.ref f)
 b:Binds K fd ps []
noncomputable def Df.fn{P:AQ}{w:Bg}{K:W.Frag}{mg:Str->Option Ac}{base:Heap}{k:Nat}{x:Str}{st:Stmt}{ps:List Str}{sp:Sp}(d:Df K mg x st ps)(h:FnOk P w K mg base CX0 k d.f d.fd ps sp):Fn P w K mg base k x ps sp :=
 ⟨d.f,d.fd,h,d.m,d.F.kp,d.b⟩
structure Ways (P:AQ) (w:Bg) (K:W.Frag) (mg:Str->Option Ac):Prop where
 ex:∃(B:Addr) (t1 t2 t3 t4:Tok) (n:Nat),mg "BEGIN_WAYS" = some (.ref B)/\K.lookup B=some ⟨.type "dict",none,.dict #[⟨BX w.params "rim",.str "rim" t1,.int 0 t2⟩,⟨BX w.params "hole",.str "hole" t3,.int 2 t4⟩] n,#[]⟩
noncomputable def tWays (ti:TE):TE:=λσ H Q=>ti σ H λy H1=>(y=.str "rim" /\ Q (.int 0) H1)∨(y=.str "hole" /\ Q (.int 2) H1)
theorem zkd {X:Cx}{i:Expr}{ti:TE}{p pos:Pos}(hg:Gl X "BEGIN_WAYS") (hw:Ways X.prog X.w X.K X.mg) (hi:PE X i ti) (hs:NoSl i:=by exact λ_ _=>rfl):PE X (.Subscript (.Name "BEGIN_WAYS" p) i pos) (tWays ti):=by
 intro pins s σ H Q I h;obtain⟨B,t1,t2,t3,t4,n,hm,hl⟩:=hw.ex;refine zhn En.lookup hs (thn ((zdy (v:=.ref B) hg hm rfl:PE X (.Name "BEGIN_WAYS" p) _) pins s σ H (λv H1=>v=V.ref B/\H1=H) I ⟨rfl,rfl⟩) λu s1 ⟨x,H1,I1,rx,q1⟩=>?_);obtain⟨rfl,rfl⟩:=q1;obtain rfl:u=Au B:=rx;refine thn (hi pins s1 σ H1 _ I1 h) λiv s2 ⟨y,H2,I2,ry,q2⟩=>?_
 have ho:s2.heap.get? B=some _:=I2.kIn B _ hl
 have mo:s2.heap.MapOf (zay X.prog X.w) B (PySem.findBy (zay X.prog X.w).is #[⟨BX X.w.params "rim",.str "rim" t1,.int 0 t2⟩,⟨BX X.w.params "hole",.str "hole" t3,.int 2 t4⟩]) :=
  ⟨_,_,_,ho,⟨rfl,rfl,rfl⟩,rfl,λe he=>by
   simp only[List.mem_toArray,Ax,Di,or_false]at he;rcases he with rfl |rfl
   .exact⟨.inr "rim",zba _ _ _ _,rfl⟩
   .exact⟨.inr "hole",zba _ _ _ _,rfl⟩,λ_=>rfl⟩
 refine⟨⟨_,ho,rfl⟩,?_⟩;rcases q2 with⟨rfl,q⟩ |⟨rfl,q⟩
 .exact El (kV_is (k:=.inr "rim") ry) mo (v:=.int 0 t2) rfl ⟨.int 0,H2,I2.tok _,⟨_,rfl⟩,q⟩
 .exact El (kV_is (k:=.inr "hole") ry) mo (v:=.int 2 t4) rfl ⟨.int 2,H2,I2.tok _,⟨_,rfl⟩,q⟩
section
variable {X:Cx}{K:W.Frag}
theorem zhK(hK:X.K=K:=by rfl):IxR X (rIxT K):=by subst hK;exact zcO
theorem zfZ(hK:X.K=K:=by rfl):IxR X (rIxL K):=by subst hK;exact zbX
theorem zf8 (hK:X.K=K:=by rfl):CallR X (.builtin "len") (λxs H Q=>∃p ys,xs=[.ref p]/\(SqL K H p ys∨SqT K H p ys)/\Q (.int ys.length) H):=by subst hK;exact zas
theorem zbV{es:List Expr}{k:Nat}{t:TGs}{n:Nat}{pos:Pos}(hc:X.calm=true)(h:PGs X es t)
  (hn:(C4 es X.env).length=n:=by rfl) (hst:(C4 es X.env).findIdx? (·.1)=none:=by rfl) (hK:X.K=K:=by rfl):PG X (.Tuple es k pos) (gTup K n t):=by
 subst hK;exact zbh hc h hn hst
end
section
variable {X:Cx}
noncomputable def rSlTW(K:W.Frag):V->Option Int->Option Int->Hp->VK->Prop:=λx lo hi H Q=>∃a xs,x=.ref a/\SqT K H a xs /\
 ((HT.sIx xs.length 0 lo=0/\HT.sIx xs.length xs.length hi=xs.length)->Q (.ref a) H) /\
 (¬ (HT.sIx xs.length 0 lo=0/\HT.sIx xs.length xs.length hi=xs.length)->∀p,H p=none->Q (.ref p) (upd H p (.tup (cutV xs lo hi))))
end
end L2
namespace HT
open PySem PyProof.Rows
variable {prog:AQ}{w:Bg}{A:AY}{E:Ac->Ae->Prop}{s:Ae}
theorem getItem_tuple_all{t sl:Addr}{items:Array Ac}{vl vu:Ac}{lo hi:Option Int}{Q:Ac -> Ae -> Prop}(ht:IsTup s.heap t items)(hs:s.heap.IsSliceOf sl vl vu .none)(pl:IsPart vl lo)(pu:IsPart vu hi)
  (hw:sIx items.size 0 lo=0/\sIx items.size items.size hi=items.size) (h:Q (.ref t) s):Ak (An prog w) A (getItem (.ref t) (.ref sl)) Q E s:=by
 obtain⟨os,hos,hcs,hds⟩:=id hs;have hTs:s.TypeIs (.ref sl) "slice":=⟨os,hos,hcs⟩;unfold getItem
 try with_reducible refine Bb ?_
 first |refine Aa (Af ?_) |skip
 refine Aa (wpAny_sequenceKey ht.typeIs (by decide) ?_)
 refine Aa (Bi (name:=Bx "__getitem__") ht.typeIs BU
  (Bo BU ht.typeIs entry_tuple_getitem ?_ (args_tuple_getitem _ _)))
 show Ak _ _ (Builtin.Tuple.tupleItemsOf (.ref t) >>= _) _ _ s;refine Aa (tupleItemsOf_ ht ?_);refine Aa (wpAny_typeOf hTs ?_);rw[if_pos (by decide)];refine Aa (zch hs pl pu ?_)
 have hyes:(((sIx items.size 0 lo:Nat):Int) == 0 && (1:Int) == 1 && (sIx items.size items.size hi-sIx items.size 0 lo) == items.size)=true:=by rw[hw.1,hw.2];simp
 show Ak _ _ (if (((sIx items.size 0 lo:Nat):Int) == 0 && (1:Int) == 1 && (sIx items.size items.size hi-sIx items.size 0 lo) == items.size)=true then _ else _) _ _ s;rw[if_pos hyes];refine Aa ?_
 unfold Builtin.Tuple.tupleIsExact;refine Aa (wpAny_typeOf ht.typeIs (Af ?_));rw[if_pos (by decide)];exact Aa (B9 (Af ⟨_,rfl,Af h⟩))
end HT
namespace L2
open PySem PySem.Spec PyProof.Rows
section
variable {X:Cx}{K:W.Frag}
theorem zjS:SlR X (rSlTW X.K):=by
 intro pins s σ H x v vl vu lo hi sl Q I rx hs pl pu h;obtain⟨a,xs,rfl,hx,q1,q2⟩:=h
 by_cases hw:HT.sIx xs.length 0 lo=0/\HT.sIx xs.length xs.length hi=xs.length
 .cases rx
  obtain⟨its,r,ht,hz⟩:=I.tuple hx;have hlen:its.toArray.size=xs.length:=by rw[AF];exact r.length.symm
  refine⟨"tuple",_,BU.lookup,ht.typeIs,?_⟩;exact HT.getItem_tuple_all ht hs pl pu (by rw[hlen];exact hw) ⟨.ref a,H,I,rfl,q1 hw⟩
 .exact znL pins s σ H _ v vl vu lo hi sl Q I rx hs pl pu ⟨a,xs,rfl,hx,hw,q2 hw⟩
end
section
variable {prog:AQ}{w:Bg}{K:Type} [DecidableEq K] {knd:HeapKind prog w K}{A:AY}{E:Ac->Ae->Prop}{s:Ae}{d a:Addr}{xs:List (K×Addr×Ac)}{k:K}{dflt:Ac}
theorem zfg{p:Addr×Ac}(h:Ey xs k=some p):∃j:Nat,xs[j]?=some (k,p):=by
 unfold Ey at h;obtain⟨x,hx,e⟩:=A4.mp h;have hm:=Er hx;have hk:=List.find?_some hx;obtain⟨j,hj,ej⟩:=AD hm;have:x.1=k:=by simpa using hk
 exact⟨j,by rw[Ab hj,ej,<- e,<- this]⟩
theorem zmc{p:Addr×Ac}{j:Nat}(hn:(xs.map λx=>x.1).Nodup)(h:xs[j]?=some (k,p)):Ey xs k=some p:=by
 cases e:Ey xs k with
 |none =>
  exfalso;unfold Ey at e;have:=List.find?_eq_none.mp (Option.map_eq_none_iff.mp e) _ (Aj h);simp at this
 |some q =>
  obtain⟨i,hi⟩:=zfg e;have hl:=(Ad.mp hi).1;have:=(C3 (i:=i) (j:=j) (by rw[Ah];exact hl) hn).mp (by rw[AA,AA,hi,h];rfl);subst this;rw[hi]at h
  cases h
  rfl
theorem zee{Q:Ac -> Ae -> Prop}(hr:knd.room A)(hk:knd.is s.heap k a)(hD:DX knd s.heap d xs)(hsz:xs.length <= sizeLine)
  (h1:∀p,Ey xs k=some p->Q p.2 { s with toks:=s.toks+knd.draws k })
  (h2:Ey xs k=none->∀h',DX knd h' d (storedH xs k a dflt)->BR d s.heap h'->Q dflt { s with heap:=h',toks:=s.toks+knd.draws k }) :
  Ak (An prog w) A (dictSetDefault d (.ref a) dflt) Q E s:=by
 obtain⟨o,es,ep,ho,hx,hd,he,hi,hn⟩:=id hD;unfold dictSetDefault;refine Bb (Aa (knd.pyHash hr hk ?_));refine Aa (wpAny_dictFind_heap (s:={ s with toks:=s.toks+knd.draws k }) hr hk ho hd he hi hn (λhno=>?_) λj p hj=>?_)
 .have hnone:Ey xs k=none := by
   cases e:Ey xs k with
   |none=>rfl
   |some p=>obtain⟨j,hj⟩:=zfg e;exact absurd hj (hno j p)
  refine Aa (B9 ?_);have hes:es.size=xs.length:=by rw[<- AJ,he,Ah]
  refine Aa (wpAny_updateDictKeys ho hd (Af (h2 hnone _ ?_ ⟨?_,λb hb=>BE _ _ (Cj hb)⟩)) (by lia) (by simp))
  .have hs:BR d s.heap (s.heap.update d (Obj.mapDictKeys λx=>x.push ⟨knd.hash k,.ref a,dflt⟩)):=⟨?_,λb hb=>BE _ _ (Cj hb)⟩
   .obtain⟨c,dd,dt,sl⟩:=o;simp only at hd;subst hd;refine⟨_,es.push ⟨knd.hash k,.ref a,dflt⟩,ep+1,CN _ ho rfl,hx,rfl,?_,λx hx'=>?_,?_⟩
    .rw[storedH_new hnone,Ay,<- he];simp[entryOfKey]
    .rw[storedH_new hnone]at hx';rcases AC.mp hx' with m |m
     .exact knd.keeps (hi x m) ho rfl hs
     .rw[Am.mp m];exact knd.keeps hk ho rfl hs
    .rw[storedH_new hnone,Ay,DD];refine⟨hn,by simp,λx hx' y hy e=>?_⟩;simp at hy;subst hy e;obtain⟨⟨k',p⟩,hm,ek⟩:=AE.mp hx';obtain⟨j,hj,ej⟩:=AD hm;simp only at ek;subst ek;exact hno j p (by rw[Ab hj,ej])
   .show (s.heap.update d _).objs.size=_;unfold Heap.update;simp
  .show (s.heap.update d _).objs.size=_;unfold Heap.update;simp
 .have hlt:=(Ad.mp hj).1;have hes:es.size=xs.length:=by rw[<- AJ,he,Ah]
  have ee:es[j]?=some ⟨knd.hash k,.ref p.1,p.2⟩:=by rw[<- By,he,AA,hj];rfl
  refine Aa (Ce ho hd ?_);simp only[ee];refine Aa (B9 (Af ?_));exact h1 p (zmc hn hj)
theorem zdA(knd:HeapKind prog w K)(d a:Addr)(hd:(d == BP)=false)(dflt:Ac) :
  MeetsIn prog w (DL.«dict.setdefault» ⟨[.ref d,.ref a,dflt],[]⟩) λA R s=>knd.room A.in1/\∃k xs,knd.is s.heap k a/\DX knd s.heap d xs/\xs.length<=sizeLine /\
   (∀p,Ey xs k=some p->R (.ok (.ret p.2)) { s with toks:=s.toks+knd.draws k }) /\
   (Ey xs k=none->∀h',DX knd h' d (storedH xs k a dflt)->BR d s.heap h'->R (.ok (.ret dflt)) { s with heap:=h',toks:=s.toks+knd.draws k }):=by
 intro A R s h;obtain⟨hr,k,xs,hk,hD,hsz,h1,h2⟩:=h;unfold DL.«dict.setdefault» Builtin.Dict.keyAndDefault;have ht:s.TypeIs (.ref d) "dict":=hD.typeIs;refine Aa (Aa (Eb ht ?_));refine Aa ?_
 show Ak (An prog w) A.in1 (pure ()) _ _ s;refine Af ?_
 refine Aa ?_
 show Ak (An prog w) A.in1 (pure (Au d,[Au a,dflt])) _ _ s;refine Af ?_
 show Ak (An prog w) A.in1 (pure d >>= λx=>pure (x,Au a,some dflt)) _ _ s;refine Aa (Af (Af ?_));simp only;rw[hd];show Ak (An prog w) A.in1 (dictSetDefault d (.ref a) dflt >>= λx=>ret x) _ _ s;refine Aa (zee hr hk hD hsz (λp e=>Af (h1 p e)) λe h' hD' hs=>Af (h2 e h' hD' hs))
noncomputable def znD(td ty tx:TE):TE:=λσ H Q=>td σ H λx H1=>∃a,x=.ref a/\IsD H1 a/\ty σ H1 λy H2=>tx σ H2 λz H3=>∃kvs k b,H3 a=some (.dT kvs)/\y=.ref b/\H3 b=some (.tup (k.map kV))/\kvs.length<sizeLine /\
 (∀v,valV kvs k=some v->Q v H3)/\(valV kvs k=none->Q z (upd H3 a (.dT (putK kvs k z))))
end
section
variable {X:Cx}{o e f:Expr}{apos cpos:Pos}{td ty tx:TE}
theorem zlG (hu:X.A.units+1<cLine) (ho:PE X o td) (he:PE X e ty) (hf:PE X f tx) (m:M2 X o "setdefault" apos e f cpos):PE X (.Call (.Attribute o "setdefault" apos) [e,f] [] cpos) (znD td ty tx):=by
 intro pins s σ H Q I h;refine wpAny_Call_method m.base m.few m.line C0 C7 PySem.F.type_dict_setdefault (thn (ho pins s σ H _ I h) λu s1 ⟨x,H1,I1,rx,a,ex,d,q1⟩=>?_);subst ex;obtain rfl:u=Au a:=rx;obtain⟨t1,t2,_⟩:=ziq I1 d;refine⟨t1,t2,?_⟩;rw[m.trees]
 refine CF rfl (Dw (B4 (thn (he pins s1 σ H1 _ I1 q1) λiv s2 ⟨y,H2,I2,ry,q2⟩ =>
  B4 (thn (hf pins s2 σ H2 _ I2 q2) λfv s3 ⟨z,H3,I3,rz,kvs,k,b,eD,ey,eb,hl,k1,k2⟩=>Du ?_))))
 subst ey
 cases (show iv=Au b from ry)
 obtain⟨zz,hd,xs,rel,dd⟩:=dt_of I3.hok eD
 refine call_meetsIn C7 dd.typeIs PySem.F.entry_dict_setdefault (PySem.F.args_dict_setdefault_3 _ _ _) (zdA (D5 (zay X.prog X.w)) a b hd fv)
  ⟨CO hu,k,xs,zdj I3.hok eb,dd,by rw[<- CB rel];exact zz,λp ep=>?_,λen h' dd' hs=>?_⟩
 .have rv:=rel.val k;rw[ep]at rv
  cases hv:valV kvs k with
  |none=>rw[hv]at rv;exact BD rv
  |some v=>rw[hv]at rv;exact⟨v,H3,I3.tok _,rv,k1 v hv⟩
 .have hn:valV kvs k=none := by
   have rv:=(rel.val k).isSome_eq;rw[en]at rv
   cases hv:valV kvs k with
   |none=>rfl
   |some v=>rw[hv]at rv;exact absurd rv (by simp)
  have hz:(putK kvs k z).length<=sizeLine:=by have:=zaK kvs k z;lia
  obtain⟨q,es,ep,hq,h2,h3,h4,_,h5⟩:=dd';refine⟨z,_,?_,rz,k2 hn⟩;refine zc3 I3 (by rw[eD];exact CD) hs ⟨q,hq⟩ ⟨hz,hd,_,(rel.put k eb rz).keeps λc ys ec=>?_,q,es,ep,hq,h2,h3,h4,h5⟩;rw[zag (ne_of ec eD (λz=>nomatch z))];exact ec
end
structure Two (P:AQ) (w:Bg) (K:W.Frag) (mg:Str->Option Ac) (nm:Str) (a b:Int):Prop where
 ex:∃(B:Addr) (t1 t2 t3 t4:Tok) (n:Nat),mg nm=some (.ref B)/\K.lookup B=some ⟨.type "dict",none,.dict #[⟨BX w.params "rim",.str "rim" t1,.int a t2⟩,⟨BX w.params "hole",.str "hole" t3,.int b t4⟩] n,#[]⟩
noncomputable def tTwo (a b:Int) (ti:TE):TE:=λσ H Q=>ti σ H λy H1=>(y=.str "rim" /\ Q (.int a) H1)∨(y=.str "hole" /\ Q (.int b) H1)
theorem zn2 {X:Cx}{nm:Str}{a b:Int}{i:Expr}{ti:TE}{p pos:Pos}(hg:Gl X nm) (hw:Two X.prog X.w X.K X.mg nm a b) (hi:PE X i ti) (hs:NoSl i:=by exact λ_ _=>rfl) (hdb:(nm == ("__debug__" : Str))=false:=by rfl):PE X (.Subscript (.Name nm p) i pos) (tTwo a b ti):=by
 intro pins s σ H Q I h;obtain⟨B,t1,t2,t3,t4,n,hm,hl⟩:=hw.ex;refine zhn En.lookup hs (thn ((zdy (v:=.ref B) hg hm rfl (hd:=hdb):PE X (.Name nm p) _) pins s σ H (λv H1=>v=V.ref B/\H1=H) I ⟨rfl,rfl⟩) λu s1 ⟨x,H1,I1,rx,q1⟩=>?_);obtain⟨rfl,rfl⟩:=q1;obtain rfl:u=Au B:=rx;refine thn (hi pins s1 σ H1 _ I1 h) λiv s2 ⟨y,H2,I2,ry,q2⟩=>?_
 have ho:s2.heap.get? B=some _:=I2.kIn B _ hl
 have mo:s2.heap.MapOf (zay X.prog X.w) B (PySem.findBy (zay X.prog X.w).is #[⟨BX X.w.params "rim",.str "rim" t1,.int a t2⟩,⟨BX X.w.params "hole",.str "hole" t3,.int b t4⟩]) :=
  ⟨_,_,_,ho,⟨rfl,rfl,rfl⟩,rfl,λe he=>by
   simp only[List.mem_toArray,Ax,Di,or_false]at he;rcases he with rfl |rfl
   .exact⟨.inr "rim",zba _ _ _ _,rfl⟩
   .exact⟨.inr "hole",zba _ _ _ _,rfl⟩,λ_=>rfl⟩
 refine⟨⟨_,ho,rfl⟩,?_⟩;rcases q2 with⟨rfl,q⟩ |⟨rfl,q⟩
 .exact El (kV_is (k:=.inr "rim") ry) mo (v:=.int a t2) rfl ⟨.int a,H2,I2.tok _,⟨_,rfl⟩,q⟩
 .exact El (kV_is (k:=.inr "hole") ry) mo (v:=.int b t4) rfl ⟨.int b,H2,I2.tok _,⟨_,rfl⟩,q⟩
section
variable {X:Cx}
end
end L2
namespace HT
open PySem PyProof.Rows PySem.Spec
variable {prog:AQ}{w:Bg}{A:AY}{E:Ac->Ae->Prop}{s:Ae}
end HT
namespace L2
open PySem PySem.Spec PyProof.Rows
section
variable {X:Cx}{K:W.Frag}
end
end L2
namespace HT
open PySem PyProof.Rows PySem.Spec
end HT
namespace L2
open PySem PySem.Spec PyProof.Rows
section
variable {X:Cx}{K:W.Frag}
end
section
variable {X:Cx}
theorem Inv.turnedL{pins:List (Addr × Obj)}{σ : St}{H:Hp}{s:Ae}{h':Heap}{t':Nat}{fp:List Addr}(I:Inv X pins σ H s)(k:∀b o, b ∉ fp -> s.heap.get? b=some o -> h'.get? b=some o)(hf:∀b ∈ fp, FpOk X pins H b) :
  Inv X pins σ H { s with heap:=h',toks:=t' }:=by
 have nb:∀b u,H b=some u->b ∉ fp:=λb u q z=>by rw[(hf b z).1]at q;cases q
 refine I.step (g':=s.gens) (d':=s.drawn) (ch:=fp) (λb hb=>?_) (λb o _ _ hc q _=>k b o hc q) (λb o _ _ hc q _=>⟨o.slots,k b o hc q⟩) (λ_ _ _ _ n=>n)
  (λb o hc q=>⟨o,k b o hc q⟩) (λ_ _ q=>q) (λ_ _ _ q=>q) (λb ps q=>⟨#[],by rw[q];simp⟩) (λm hm=>?_) (λb u q=>?_) I.bare
 .obtain⟨_,f1,_,f3,f4,f5⟩:=hf b hb;exact⟨f3,f1,f4,f5⟩
 .obtain⟨o,es,ep,ho,r⟩:=hm;exact⟨o,es,ep,k _ o (λz=>(hf _ z).2.1 rfl) ho,r⟩
 .refine (I.hok b u q).stay (λc v hc q'=>?_) (λ_ q=>q) λ_ _ q=>q
  rcases hc with z |z
  .rw[z]at q' ⊢;exact k _ _ (nb b u q) q'
  .exact k _ _ (nb c _ z) q'
end
section
variable {X:Cx}{e es:Expr}{te ts:TE}{pos p2:Pos}
end
section
variable {X:Cx}
end
section
variable {prog:AQ}{w:Bg}{A:AY}{R:Result->Ae->Prop}{I:Addr}{fp wr:List Addr}{n:Nat}{P:Nat->Ac->Prop}{St:Nat->Heap->Prop}{dv:Ac}
end
section
variable {X:Cx}{pins:List (Addr×Obj)}{σ:St}{H0:Hp}{s:Ae}{l:Addr}{Q:VK}
end
section
variable {X:Cx}{p pos kpos kp:Pos}{e:Expr}{te:TE}{d:Int}{kj:Nat}
end
end L2
namespace HT
open PySem PyProof.Rows
variable {prog:AQ}{w:Bg}{A:AY}{E:Ac->Ae->Prop}{s:Ae}
end HT
namespace L2
open PySem PySem.Spec PyProof.Rows
section
variable {X:Cx}{e es:Expr}{te ts:TE}{pos p2:Pos}
end
end L2
namespace HT
open PySem PyProof.Rows
section
open PySem.SeqAt
open PySem.AutoSeq1 (wpAny_loadPart')
open PySem.MeetsSeq PySem.MeetsSeq2 PySem.MeetsSeq3
theorem zly{u v:Ac}{a b:Int}(c:RK.Col u v a b)(A:AY)(s:Ae)(prog:AQ)(w:Bg)(E:Ac->Ae->Prop)(Q:Ac->Ae->Prop)(h:Q (.bool (decide (a<b))) s):Ak (An prog w) A (richCompare .Lt u v) Q E s:=by
 cases c with
 |int _ t _ u=>exact (PyProof.Rows.lt_int h:Ak (An prog w) A (Bw .Lt (.int a t) (.int b u)) Q E s)
 |bl p q=>exact (PyProof.Rows.lt_bool h:Ak (An prog w) A (Bw .Lt (.bool p) (.bool q)) Q E s)
theorem zeF:∀{us vs:List Ac}{as bs:List Int},RK.Cols us vs as bs->us.length=vs.length
 |_,_,_,_,.nil=>rfl
 |_,_,_,_,.cons _ r=>by simp[zeF r]
theorem zfn(l b:Addr)(items items2:Array Ac)(n n2:Nat)(dd dd2:Option Addr)(sl sl2:Array (Option Ac))(ns ms:List Int)(hi:RK.Cols items.toList items2.toList ns ms) :
  Meets (DL.«tuple.__lt__» ⟨[.ref l,.ref b],[]⟩)
   (λ_ R s=>s.heap.get? l=some { cls:=.type "tuple",dict:=dd,data:=.seq items n,slots:=sl }/\s.heap.get? b=some { cls:=.type "tuple",dict:=dd2,data:=.seq items2 n2,slots:=sl2 } /\
    R (.ok (.ret (.bool (lexLt ns ms)))) s) :=
 .of_wp λprog w A R s h=>by
  obtain⟨hp,g,d,tk,os⟩:=s;obtain⟨hl,hb,h⟩:=h;have f2:=Ez;have z1:items.size=items2.size:=by have:=zeF hi;simpa using this
  wp_walk using BK hl,BK hb,wpAny_forIn_list _ (λrest b s'=>b.1=none/\s'=⟨hp,g,d,tk,os⟩/\∃(vs ws:List Ac) (ns' ms':List Int),rest=vs.zip ws /\
   RK.Cols vs ws ns' ms'/\R (.ok (.ret (.bool (lexLt ns' ms')))) ⟨hp,g,d,tk,os⟩) _
  case turn =>
   rintro⟨y,x⟩ rest b s' ⟨hb',rfl,vs,ws,ns',ms',hz,hvi,hR⟩
   cases hvi with
   |nil=>rw[List.zip_nil_left]at hz;cases hz
   |@cons u v us vs' a c as bs hc hr =>
    rw[Dk]at hz;injection hz with hyx hrest;injection hyx with hy hx;subst hy hx;rw[lexLt_cons]at hR;refine Aa (RK.col_eq hc ?_)
    by_cases e:a=c
    .rw[decide_eq_true e];rw[if_pos e]at hR
     wp_walk
     exact⟨rfl,rfl,_,_,_,_,hrest,hr,hR⟩
    .rw[decide_eq_false e];rw[if_neg e]at hR;have hri:=zly hc A.in1 ⟨hp,g,d,tk,os⟩ prog w
     wp_walk using hri
     exact⟨_,rfl,by simpa using hR⟩
  case fin =>
   rintro⟨b1,b2⟩ s' ⟨hb',rfl,vs,ws,ns',ms',hz,hvi,hR⟩;simp only at hb';subst hb'
   have hv:lexLt ns' ms'=decide (items.size<items2.size):=by
    cases hvi with
    |nil =>
     rw[decide_eq_false (by lia)];rfl
    |cons c r =>
     rw[Dk]at hz
     cases hz
   rw[hv]at hR
   wp_walk
   exact⟨_,rfl,by simpa[DK]using hR⟩
  case h =>
   exact⟨rfl,rfl,items.toList,items2.toList,ns,ms,rfl,hi,h⟩
end
section
variable {prog:AQ}{w:Bg}{A:AY}{E:Ac->Ae->Prop}{s:Ae}
theorem lt_tupCols{l b:Addr}{items items2:Array Ac}{ns ms:List Int}{Q:Ac -> Ae -> Prop}(hl:IsTup s.heap l items)(hb:IsTup s.heap b items2)(hi:RK.Cols items.toList items2.toList ns ms)
  (hu:A.units<cLine) (h:Q (.bool (lexLt ns ms)) s):Ak (An prog w) A (Bw .Lt (.ref l) (.ref b)) Q E s:=by
 obtain⟨⟨cls,dd,data,sl⟩,ho,hc,n,hd⟩:=id hl;obtain⟨⟨cls2,dd2,data2,sl2⟩,ho2,hc2,n2,hd2⟩:=id hb;simp only at hc hd hc2 hd2;subst hc hd hc2 hd2
 exact richCompare_meets_room (op:=.Lt) ⟨_,ho,rfl⟩ ⟨_,ho2,rfl⟩ PySem.F.slot_tuple_lt PySem.F.entry_tuple_lt (PySem.F.args_tuple_lt_2 _ _) (zfn l b items items2 n n2 dd dd2 sl sl2 ns ms hi)
  ⟨ho,ho2,show EN (lexLt ns ms)≠Value.notImplemented/\Q (.bool (lexLt ns ms)) s from ⟨(λx=>nomatch x),h⟩⟩ hu
end
end HT
namespace L2
open PySem PySem.Spec PyProof.Rows
section
variable {X:Cx}{pos:Pos}
noncomputable def rLtC(K:W.Frag):R2:=λx y H Q=>∃a b xs ys ns ms,x=.ref a/\y=.ref b/\SqT K H a xs/\SqT K H b ys/\VCols xs ys ns ms/\Q (.bl (HT.lexLt ns ms)) H
theorem zn5(hu:X.A.units<cLine):OpR X (Bw .Lt) (rLtC X.K):=by
 intro pins s σ H x y v u Q I rx ry h;obtain⟨a,b,xs,ys,ns,ms,rfl,rfl,ha,hb,hc,q⟩:=h
 cases rx
 cases ry
 obtain⟨its,r1,p1,_⟩:=I.tuple ha;obtain⟨its2,r2,p2,_⟩:=I.tuple hb;exact HT.lt_tupCols p1 p2 (hc.vals r1 r2) hu ⟨.bl (HT.lexLt ns ms),H,I,rfl,q⟩
theorem zk7 (hh:X.calm=true):CallR X (.builtin "sum") (λxs H Q=>∃(p:Addr) (ns:List Int),xs=[.ref p]/\SqL X.K H p (ns.map V.int)/\(∀n∈ns,0<=n/\n<=1000)/\ns.length<=1000/\Q (.int ns.sum) H):=by
 intro pins s σ H xs us Q I r h;obtain⟨p,ns,rfl,hq,hb,hl,q⟩:=h;obtain⟨u,rfl,ru⟩:=vals1 r
 cases (show u=Au p from ru)
 obtain⟨its,rv,pl,hz⟩:=I.list hq
 have hsum:∀j,0<=(ns.take j).sum/\(ns.take j).sum<=1000*(j:Int):=by
  intro j
  induction j with
  |zero=>simp
  |succ j ih =>
   by_cases hj:j<ns.length
   .rw[List.take_succ_eq_append_getElem hj,CJ];have:=hb _ (Bj hj);simp only[BH,List.sum_nil];lia
   .rw[B5 (by lia)]at ih ⊢;lia
 obtain⟨ts,hts⟩:∃ts:Array (Int×Tok),its.toArray=intItems ts/\ts.toList.map (·.1)=ns:=by
  have:∀(ns:List Int) (its:List Ac),Vals (ns.map V.int) its->∃ts:List (Int×Tok),its=ts.map (λp=>DM p.1 p.2)/\ts.map (·.1)=ns:=by
   intro ns
   induction ns with
   |nil=>intro its r;cases r;exact⟨[],rfl,rfl⟩
   |cons n ns ih =>
    intro its r
    cases r with
    |cons h t =>
     obtain⟨ts,h1,h2⟩:=ih _ t;obtain⟨tk,rfl⟩:=(show ∃t,_=DM n t from h);exact⟨(n,tk)::ts,by rw[h1];rfl,by rw[AO,h2]⟩
  obtain⟨ts,h1,h2⟩:=this ns its rv;exact⟨ts.toArray,by rw[h1];simp[intItems],by simpa using h2⟩
 obtain⟨h1,h2⟩:=hts;have hl1:=pl.isList;rw[h1]at hl1;have hgl:ns.length=ts.size:=by rw[<- h2];simp
 have gd:∀j,numAt ts j=ns.getD j 0:=λj=>by rw[numAt_eq,h2]
 refine sum_intList (I.ok.hd hh) hl1 (λj hj=>?_) λh' tk t' hk=>?_
 .have hj':j<ns.length:=by lia
  have a:=hb _ (Bj hj');have b:=hsum (j+1);rw[preSum_eq,gd,h2,A8,Ab hj'];refine⟨⟨?_,?_⟩,⟨?_,?_⟩⟩
  .show _<=ns[j];lia
  .show ns[j]<_;lia
  .lia
  .lia
 .refine⟨.int _,H,I.kept hk,⟨_,rfl⟩,?_⟩;rw[preSum_eq,h2,<- hgl,AI];exact q
end
section
variable {prog:AQ}{w:Bg}{A:AY}{E:Ac->Ae->Prop}{s:Ae}{it d:Addr}{i ep:Nat}{es:Array DictEntry}{od:Obj}
theorem zkA{Q:Ac -> Ae -> Prop}(lo:(d == BP)=false)(g:s.heap.get? d=some od)(x:od.ExactDict)(dat:od.data = .dict es ep)
  (k:Q (.ref s.heap.objs.size) { s with heap:=s.heap.push { cls:=.type "dict_keyiterator",data:=.fields #[.ref d,.int 0 0,.int es.size 0,.int ep 0] } }):Ak (An prog w) A (pyIter (.ref d)) Q E s:=by
 have ty:s.TypeIs (.ref d) "dict":=⟨od,g,x.1⟩;refine wpAny_pyIter_slot ty PySem.F.slot_dict_iter (Bo PySem.F.slot_dict_iter ty PySem.F.entry_dict_iter ?_ (PySem.F.args_dict_iter_1 _));unfold DL.«dict.__iter__» Builtin.Dict.dictSlotNone;refine Aa (Aa (Eb ty ?_));show Ak (An prog w) A.in1 (pure (Au d)) _ _ s;refine Af ?_
 show Ak (An prog w) A.in1 (Ec d >>= _) _ _ s;unfold Ec;rw[if_neg (show ¬ (d == BP)=true by rw[lo];decide)];refine Aa (Af (Aa (Ce g dat (Aa (D4 g dat (Aa (Bl (Af ⟨_,rfl,"dict_keyiterator",_,⟨_,At _ rfl,rfl⟩,PySem.F.slot_dict_keyiterator_next.lookup,?_⟩))))))));simpa[Cg]using k
theorem zkz{e:DictEntry}{Q:Option Ac -> Ae -> Prop}(st:s.heap.IsKeyIter it d i es.size ep)(g:s.heap.get? d=some od)(dat:od.data = .dict es ep)(he:es[i]? = some e)
  (k:∀h',h'.IsKeyIter it d (i+1) es.size ep->BR it s.heap h'->Q (some e.key) { s with heap:=h' }):Ak (An prog w) A (DU (.ref it)) Q E s:=by
 obtain⟨o,go,oc,odt⟩:=id st;unfold DU;refine Aa (DI (Bi (name:=Bx "__next__") st.typeIs Cy (Bo Cy st.typeIs EA ?_ (Et _))));refine Aa (Af (Aa (Aa ?_)));refine Aa (CY st.typeIs (Af (Aa (wpAny_fieldsOf go odt ?_))));simp only[show Cv "dict_keyiterator" = false by decide,Bn,if_false];show Ak (An prog w) _ (if (Au d == B8)=true then _ else _) _ _ s;rw[if_neg (show ¬ (Au d == B8)=true by simp)];refine Aa (Af (Aa (Ce g dat ?_)));rw[if_neg (show ¬ ((es.size:Int) != (es.size:Int))=true by simp)];refine Aa (Af (Aa (D4 g dat ?_)));rw[if_neg (show ¬ ((ep:Int) != (ep:Int))=true by simp)];refine Af ?_
 simp only[show ¬ ((i:Int)<0) by lia,if_false,CG,he];refine Aa (Aa (CY st.typeIs (Af ?_)));refine Aa (wpAny_isOneOf_keyiter st.typeIs ?_);show Ak (An prog w) _ (setField (.ref it) 1 (Cg ((i:Int)+1)) >>= _) _ _ s;refine Aa (wpAny_setField go odt (by simp) ?_)
 have st':(s.heap.update it (Obj.mapFields (·.setIfInBounds 1 (Cg ((i:Int)+1))))).IsKeyIter it d (i+1) es.size ep:=by refine⟨_,CN _ go (Obj.isFreed_of_fields (Obj.data_mapFields odt _)),(Obj.cls_mapFields ..).trans oc,?_⟩;rw[Obj.data_mapFields odt];simp[Cg]
 refine Aa (Bb (Aa (wpAny_isOneOf_keyiter (s:={ s with heap:=s.heap.update it (Obj.mapFields (·.setIfInBounds 1 (Cg ((i:Int)+1)))) }) st'.typeIs ?_)));show Ak (An prog w) _ (pure e.key) _ _ _;exact Af (Af ⟨_,rfl,Af (k _ st' (BB ..))⟩)
theorem zlW{Q:Option Ac -> Ae -> Prop}(hh:A.handled=none)(st:s.heap.IsKeyIter it d i es.size ep)(g:s.heap.get? d=some od)(dat:od.data = .dict es ep)(he:es.size <= i)
  (k:∀h',Heap.ExtBut it s.heap h'->Q none { s with heap:=h' }):Ak (An prog w) A (DU (.ref it)) Q E s:=by
 obtain⟨o,go,oc,odt⟩:=id st;unfold DU;refine Aa (DI (Bi (name:=Bx "__next__") st.typeIs Cy (Bo Cy st.typeIs EA ?_ (Et _))));refine Aa (Af (Aa (Aa ?_)));refine Aa (CY st.typeIs (Af (Aa (wpAny_fieldsOf go odt ?_))));simp only[show Cv "dict_keyiterator" = false by decide,Bn,if_false];show Ak (An prog w) _ (if (Au d == B8)=true then _ else _) _ _ s;rw[if_neg (show ¬ (Au d == B8)=true by simp)];refine Aa (Af (Aa (Ce g dat ?_)));rw[if_neg (show ¬ ((es.size:Int) != (es.size:Int))=true by simp)];refine Aa (Af (Aa (D4 g dat ?_)));rw[if_neg (show ¬ ((ep:Int) != (ep:Int))=true by simp)];refine Af ?_
 simp only[show ¬ ((i:Int)<0) by lia,if_false,CG,Array.getElem?_eq_none he];refine Aa (Aa (CY st.typeIs (Af ?_)));show Ak (An prog w) _ (setField (.ref it) 0 .none >>= _) _ _ s;refine Aa (wpAny_setField go odt (by simp) ?_);show Ak (An prog w) _ (newExc (.type "StopIteration") [] >>= _) _ _ _;refine Aa ?_
 simp only[newExc,newTuple];refine Aa (Bl ?_ (by size_fits));refine Aa (m:=firstArgMember _ _) (wpAny_of_eq (a:=B8) (by first |rfl | (simp only[firstArgMember];rfl)) (Bl ?_ (by size_fits)));simp only[raiseNew];refine Aa (wpAny_handled ?_);rw[show A.in1.handled=none from hh];refine Aa (Af (wpAny_throw (?_:Ak _ _ _ _ _ _)));exact Aa (wpAny_isInstance (b:=true) (T:="StopIteration") ⟨_,At _ rfl,rfl⟩ isSubtype_stop (Af (k _ (((BB ..).extBut.push _).push _))))
end
theorem Paired.at'{α β:Type}{F:α->β->Prop}:∀{l:List α}{m:List β},Paired F l m->∀{i:Nat}{x:α},l[i]?=some x->∃y,m[i]?=some y/\F x y
 |_,_,.cons r t,0,x,h=>by cases h;exact⟨_,rfl,r⟩
 |_,_,.cons r t,i+1,x,h=>Paired.at' t h
section
variable {X:Cx}{tg:Expr}
end
theorem zcd{α β:Type}(f:α->β):∀(l:List α) (i:Nat),(l.map f).eraseIdx i=(l.eraseIdx i).map f
 |[],i=>by simp
 |x::l,0=>rfl
 |x::l,i+1=>by rw[AO,EV,EV,AO,zcd f l i]
section
variable {prog:AQ}{w:Bg}{K:Type} [DecidableEq K] {knd:HeapKind prog w K}{A:AY}{E:Ac->Ae->Prop}{s:Ae}{d a:Addr}{xs:List (K×Addr×Ac)}{k:K}
theorem zgp{Q:Option DictEntry -> Ae -> Prop}(hr:knd.room A)(hk:knd.is s.heap k a)(hD:DX knd s.heap d xs)(hsz:xs.length <= sizeLine)
  (h1:Ey xs k=none->Q none { s with toks:=s.toks+knd.draws k })
  (h2:∀(j:Nat) p,xs[j]?=some (k,p)->∀h',DX knd h' d (xs.eraseIdx j)->BR d s.heap h'->Q (some ⟨knd.hash k,.ref p.1,p.2⟩) { s with heap:=h',toks:=s.toks+knd.draws k }) :
  Ak (An prog w) A (Builtin.Dict.takeOut d (.ref a)) Q E s:=by
 obtain⟨o,es,ep,ho,hx,hd,he,hi,hn⟩:=id hD;unfold Builtin.Dict.takeOut;refine Bb (Aa (knd.pyHash hr hk ?_));refine Aa (wpAny_dictFind_heap (s:={ s with toks:=s.toks+knd.draws k }) hr hk ho hd he hi hn (λhno=>Af (h1 (atKey_none_of_get hno))) λj p hj=>?_);have hes:es.size=xs.length:=EM he;have ee:es[j]?=some ⟨knd.hash k,.ref p.1,p.2⟩:=by rw[entry_at he,hj];rfl
 refine Aa (Ce (s:={ s with toks:=s.toks+knd.draws k }) ho hd ?_);rw[ee];refine Aa (wpAny_updateDictKeys (hz:=by lia) (s:={ s with toks:=s.toks+knd.draws k }) ho hd (Af (h2 j p hj _ ⟨_,_,ep+1,CN _ ho (Obj.isFreed_of_dict (Obj.data_mapDictKeys hd _)),hx.mapDictKeys _,Obj.data_mapDictKeys hd _,?_,?_,?_⟩ (BB ..))))
 .have:(es.eraseIdxIfInBounds j).toList=es.toList.eraseIdx j:=by simp
  rw[this,he,zcd]
 .intro x hx';exact knd.keeps (hi x (List.mem_of_mem_eraseIdx hx')) ho hd (BB ..)
 .rw[<- zcd];exact hn.sublist (List.eraseIdx_sublist _ _)
theorem zi5(knd:HeapKind prog w K)(d a:Addr)(hd:(d == BP)=false)(dflt:Ac) :
  MeetsIn prog w (DL.«dict.pop» ⟨[.ref d,.ref a,dflt],[]⟩) λA R s=>knd.room A.in1/\∃k xs,knd.is s.heap k a/\DX knd s.heap d xs/\xs.length<=sizeLine /\
   (∀(j:Nat) p,xs[j]?=some (k,p)->∀h',DX knd h' d (xs.eraseIdx j)->BR d s.heap h'->R (.ok (.ret p.2)) { s with heap:=h',toks:=s.toks+knd.draws k }) /\
   (Ey xs k=none->∀t,R (.ok (.ret dflt)) { s with toks:=t }):=by
 intro A R s h;obtain⟨hr,k,xs,hk,hD,hsz,h1,h2⟩:=h;obtain⟨o,es,ep,ho,hx,hdat,he,hi,hn⟩:=id hD;unfold DL.«dict.pop» Builtin.Dict.keyAndDefault;have ht:s.TypeIs (.ref d) "dict":=hD.typeIs;refine Aa (Aa (Eb ht ?_));show Ak (An prog w) A.in1 (pure (d,Au a,some dflt)) _ _ s;refine Af ?_
 simp only[show (keyPart (Au a)).isSome=false from rfl,Bn,if_false];refine Aa (Ce ho hdat (Aa (Af ?_)))
 by_cases hz:es.isEmpty=true
 .have hx0:xs = [] := by
   have:=EM he;have h0:es.size=0:=by simpa using hz
   exact List.eq_nil_of_length_eq_zero (by lia)
  rw[if_pos hz];refine Aa (B9 (Aa (Af ?_)));simp only[Option.isNone_none,if_true];refine Aa (wpAny_missedRemoval_other hd (Aa (B9 (Af ?_))));exact h2 (by subst hx0;rfl) _
 .rw[if_neg hz];refine Aa (zgp hr hk hD hsz (λe=>?_) λj p hj h' hD' hs=>?_)
  .simp only[Option.isNone_none,if_true];refine Aa (wpAny_missedRemoval_other hd (Aa (B9 (Af ?_))));exact h2 e _
  .simp only[Option.isNone_some,Bn,if_false];exact Aa (Dh (Af (h1 j p hj h' hD' hs)))
noncomputable def znE(td ty tx:TE):TE:=λσ H Q=>td σ H λx H1=>∃a,x=.ref a/\IsD H1 a/\ty σ H1 λy H2=>tx σ H2 λz H3=>∃kvs k b,H3 a=some (.dT kvs)/\y=.ref b/\H3 b=some (.tup (k.map kV)) /\
 (∀v,valV kvs k=some v->Q v (upd H3 a (.dT (dropK kvs k))))/\(valV kvs k=none->Q z H3)
theorem KT.erase{H:Hp}:∀{kvs:List (List Key×V)}{xs:List (List Key×Addr×Ac)},KT H kvs xs->(xs.map (·.1)).Nodup->∀{k:List Key}{j:Nat}{p:Addr×Ac},xs[j]?=some (k,p)->KT H (dropK kvs k) (xs.eraseIdx j)/\∃v,valV kvs k=some v/\RelV v p.2
 |_,_,.cons (a:=x) (b:=y) (l₁:=l) (l₂:=m) r t,hn,k,0,p,h=>by
  cases h
  have e:x.1=k:=r.1;refine⟨?_,x.2,za3 e,r.2.2⟩;rw[zkT e,List.eraseIdx_cons_zero,ziA λhm=>?_]
  .exact t
  .have e2:l.map (·.1)=m.map (·.1) := by
    clear r hn hm
    induction t with
    |nil=>rfl
    |cons r t ih=>rw[AO,AO,r.1,ih]
   rw[e2]at hm;exact (Bs.mp hn).1 hm
 |_,_,.cons (a:=x) (b:=y) (l₁:=l) (l₂:=m) r t,hn,k,j+1,p,h=>by
  have h':m[j]?=some (k,p):=h;have hn':=Bs.mp hn;have e:¬ x.1=k:=λz=>hn'.1 (AE.mpr ⟨(k,p),Aj h',by rw[<- z];exact r.1⟩)
  obtain⟨i1,v,i2,i3⟩:=KT.erase t hn'.2 h';rw[zgZ e,EV,za4 e];exact⟨.cons r i1,v,i2,i3⟩
end
section
variable {X:Cx}{o e f:Expr}{apos cpos:Pos}{td ty tx:TE}
theorem zlH (hu:X.A.units+1<cLine) (ho:PE X o td) (he:PE X e ty) (hf:PE X f tx) (m:M2 X o "pop" apos e f cpos):PE X (.Call (.Attribute o "pop" apos) [e,f] [] cpos) (znE td ty tx):=by
 intro pins s σ H Q I h;refine wpAny_Call_method m.base m.few m.line C0 PySem.F.slot_dict_pop PySem.F.type_dict_pop (thn (ho pins s σ H _ I h) λu s1 ⟨x,H1,I1,rx,a,ex,d,q1⟩=>?_);subst ex;obtain rfl:u=Au a:=rx;obtain⟨t1,t2,_⟩:=ziq I1 d;refine⟨t1,t2,?_⟩;rw[m.trees]
 refine CF rfl (Dw (B4 (thn (he pins s1 σ H1 _ I1 q1) λiv s2 ⟨y,H2,I2,ry,q2⟩ =>
  B4 (thn (hf pins s2 σ H2 _ I2 q2) λfv s3 ⟨z,H3,I3,rz,kvs,k,b,eD,ey,eb,k1,k2⟩=>Du ?_))))
 subst ey
 cases (show iv=Au b from ry)
 obtain⟨zz,hd,xs,rel,dd⟩:=dt_of I3.hok eD
 refine call_meetsIn PySem.F.slot_dict_pop dd.typeIs PySem.F.entry_dict_pop (PySem.F.args_dict_pop_3 _ _ _) (zi5 (D5 (zay X.prog X.w)) a b hd fv)
  ⟨CO hu,k,xs,zdj I3.hok eb,dd,by rw[<- CB rel];exact zz,λj p hj h' dd' hs=>?_,λen t=>?_⟩
 .obtain⟨_,_,_,_,_,_,_,_,hn⟩:=dd;obtain⟨i1,v,i2,i3⟩:=KT.erase rel hn hj;obtain⟨q,es,ep,hq,h2,h3,h4,_,h5⟩:=dd';refine⟨v,_,?_,i3,k1 v i2⟩;refine zc3 I3 (by rw[eD];exact CD) hs ⟨q,hq⟩ ⟨A3 (zl8 kvs k) zz,hd,_,i1.keeps λc ys ec=>?_,q,es,ep,hq,h2,h3,h4,h5⟩;rw[zag (ne_of ec eD (λz=>nomatch z))];exact ec
 .have hn:valV kvs k=none := by
   have rv:=(rel.val k).isSome_eq;rw[en]at rv
   cases hv:valV kvs k with
   |none=>rfl
   |some v=>rw[hv]at rv;exact absurd rv (by simp)
  exact⟨z,H3,I3.tok _,rz,k2 hn⟩
end
end L2
namespace RP
end RP
namespace L2
open PySem PySem.Spec PyProof.Rows
theorem zfh{bt:Nat->Nat->Bool}:∀n,argBest bt n<=n
 | 0=>Ai _
 |n+1=>by
  show (if bt (n+1) (argBest bt n)=true then n+1 else argBest bt n)<=n+1;split
  .exact Ai _
  .exact Nat.le_succ_of_le (zfh n)
theorem zdD{v:Nat->Int}:∀(n j:Nat),j<=n->v (argBest (λi j=>decide (v i<v j)) n)<=v j
 | 0,j,h=>by
  obtain rfl:j=0:=by lia
  exact Int.le_refl _
 |n+1,j,h=>by
  show v (if decide (v (n+1)<v (argBest (λi j=>decide (v i<v j)) n))=true then n+1 else argBest (λi j=>decide (v i<v j)) n)<=v j
  by_cases hb:v (n+1)<v (argBest (λi j=>decide (v i<v j)) n)
  .rw[if_pos (decide_eq_true hb)];rcases A6 n j with q |q
   .obtain rfl:j=n+1:=by lia
    exact Int.le_refl _
   .have:=zdD (v:=v) n j q;lia
  .rw[if_neg (by simpa using hb)];rcases A6 n j with q |q
   .obtain rfl:j=n+1:=by lia
    lia
   .exact zdD n j q
theorem znj:∀(ns:List Int) (its:List Ac),Vals (ns.map V.int) its->∃ts:Array (Int×Tok),its.toArray=intItems ts/\ts.toList.map (·.1)=ns:=by
 intro ns its r
 have:∀(ns:List Int) (its:List Ac),Vals (ns.map V.int) its->∃ts:List (Int×Tok),its=ts.map (λp=>DM p.1 p.2)/\ts.map (·.1)=ns:=by
  intro ns
  induction ns with
  |nil=>intro its r;cases r;exact⟨[],rfl,rfl⟩
  |cons n ns ih =>
   intro its r
   cases r with
   |cons h t =>
    obtain⟨ts,h1,h2⟩:=ih _ t;obtain⟨tk,rfl⟩:=(show ∃t,_=DM n t from h);exact⟨(n,tk)::ts,by rw[h1];rfl,by rw[AO,h2]⟩
 obtain⟨ts,h1,h2⟩:=this ns its r;exact⟨ts.toArray,by rw[h1];simp[intItems],by simpa using h2⟩
section
variable {X:Cx}
noncomputable def IsMin(ns:List Int)(m:Int):Prop:=m∈ns/\∀n∈ns,m<=n
theorem zk9 (hh:X.calm=true):CallR X (.builtin "min") (λxs H Q=>∃(p:Addr) (ns:List Int),xs=[.ref p]/\SqL X.K H p (ns.map V.int)/\ns≠[]/\∀m,IsMin ns m->Q (.int m) H):=by
 intro pins s σ H xs us Q I r h;obtain⟨p,ns,rfl,hq,hne,q⟩:=h;obtain⟨u,rfl,ru⟩:=vals1 r
 cases (show u=Au p from ru)
 obtain⟨its,rv,pl,hz⟩:=I.list hq;obtain⟨ts,h1,h2⟩:=znj ns its rv;have hl1:=pl.isList;rw[h1]at hl1;have hgl:ns.length=ts.size:=by rw[<- h2];simp
 have hpos:0<ns.length:=List.length_pos_iff.mpr hne;have gd:∀j,numAt ts j=ns.getD j 0:=λj=>by rw[numAt_eq,h2]
 refine min_intList (I.ok.hd hh) hl1 (by lia) λv h' tk hv hk=>?_
 obtain⟨t,rfl⟩:=intItems_at hv;have hle:=zfh (bt:=λi j=>decide (numAt ts i<numAt ts j)) (ts.size-1);refine⟨.int _,H,I.kept hk,⟨_,rfl⟩,q _ ⟨?_,λn hn=>?_⟩⟩
 .rw[gd,A8,Ab (by lia)];exact Bj _
 .obtain⟨j,hj,rfl⟩:=AD hn;have:=zdD (v:=numAt ts) (ts.size-1) j (by lia);rw[gd j,A8,Ab hj]at this;exact this
end
end L2
namespace HT
open PySem PyProof.Rows
variable {prog:AQ}{w:Bg}{A:AY}{E:Ac->Ae->Prop}{s:Ae}
end HT
namespace L2
open PySem PySem.Spec PyProof.Rows
section
variable {X:Cx}{e es:Expr}{te ts:TE}{pos p2:Pos}
end
section
variable {prog:AQ}{w:Bg}{A:AY}{E:Ac->Ae->Prop}{s:Ae}
end
section
variable {X:Cx}
end
section
variable {X:Cx}
end
theorem zgn{A:Prop}{D:Heap->Prop}(C:Heap->Prop)(g:(∀h,D h->C h)->A)(h:∀h,D h->C h):A:=g h
noncomputable abbrev zhh (h:Heap) (z TI TO T0:Addr) (b:Bool):Prop:=h.get? z=some { cls:=.type "zip",dict:=none,data:=.fields #[Cg T0,.bool b,.bool false,.ref TI,.ref TO],slots:=#[] }
section
variable {prog:AQ}{w:Bg}{A:AY}{E:Ac->Ae->Prop}{s:Ae}
end
section
variable {X:Cx}{pins:List (Addr×Obj)}{σ:St}
end
section
variable {X:Cx}{l m:Expr}{t:TA}{p p2 pos pos2:Pos}
end
theorem zhS:∀{xs:List V}{us:List Ac},xs.length=us.length->(∀(i:Nat) x u,xs[i]?=some x->us[i]?=some u->RelV x u)->Vals xs us
 |[],[],_,_=>.nil
 |x::xs,u::us,h,k=>.cons (k 0 x u rfl rfl) (zhS (by simpa using h) λi y v h1 h2=>k (i+1) y v (by simpa using h1) (by simpa using h2))
 |[],_::_,h,_=>by cases h
 |_::_,[],h,_=>by cases h
section
variable {X:Cx}{a:Expr}{t:TA}{p p2 pos pos2:Pos}
end
section
variable {X:Cx}
end
theorem zjy{P:AQ}{w:Bg}{K:W.Frag}{tg:Expr}(it:Addr)(lo:Int)(n:Nat):Turn P w K tg (Itr lo n) [it] it (λi h=>IsLongIter h it (lo+(i:Nat)*1) ((n:Int)-(i:Nat)) 1) where
 mem:=by simp
 obj:=λi h st b hb=>by
  have e:b=it:=by simpa using hb
  subst e
  exact⟨_,st,λv z=>by
   have z':Data.fields _=Data.cell v:=z
   cases z'⟩
 keep:=λi h h' st k=>k it (by simp) _ st
 item:=by
  intro X hP hw hK hc i pins s σ H E I hf st hg;subst hP hw hK;obtain⟨f0,f1,f2,f3,f4,f5⟩:=hf it (by simp);have W:=Walks.longrange (prog:=X.prog) (w:=X.w) (I.ok.hd hc) it lo 1 n;refine W.item i s _ _ hg st λv h' tk hv st' kk=>?_
  obtain⟨t,rfl⟩:=hv;have I1:Inv X pins σ H { s with heap:=h',toks:=tk }:=I.turned (λb o hb e=>kk b o (by simpa using hb) e) f0 f1 f3 f4 f5;refine⟨_,rfl,go_of (s:={ s with heap:=h',toks:=tk }) (n:="longrange_iterator") st' rfl rfl (by decide) ⟨.int (lo+i),H,I1,⟨t,?_⟩,⟨rfl,rfl⟩,st',λb hb=>(hf b hb).1⟩⟩;rw[Int.mul_one]
 done:=by intro X hP hw hK hc i pins s σ H E I hf st hg;subst hP hw hK;obtain⟨f0,f1,f2,f3,f4,f5⟩:=hf it (by simp);exact wpAny_pyNext_long_end (I.ok.hd hc) st (by have:n<=i:=hg;lia) λh' eb=>⟨rfl,I.turned (t':=s.toks) (λb o hb e=>eb b o hb e) f0 f1 f3 f4 f5⟩
 self:=λ_ _ _ _ _ st h=>wpAny_pyIter_longiter st h
section
variable {X:Cx}{tg:Expr}
theorem zj3{pins:List (Addr × Obj)}{σ : St}{H:Hp}{s:Ae}{R:It -> Hp -> Prop}{E:Ac -> Ae -> Prop}{lo hi:Int}{t u v:Tok}{tk:Nat}(I:Inv X pins σ H s)
  (q:R (Itr lo (hi-lo).toNat) H):Ak (An X.prog X.w) X.A (pyIter (.ref s.heap.objs.size)) (PIE X pins σ tg R) E { s with heap:=s.heap.push { cls:=.type "range",data:=.fields #[.int lo t,.int hi u,.int 1 v] },toks:=tk }:=by
 have I1:Inv X pins σ H { s with heap:=s.heap.push { cls:=.type "range",data:=.fields #[.int lo t,.int hi u,.int 1 v] },toks:=tk }:=I.kept λb o e=>Ag _ e
 have e1:lo+((0:Nat):Int)*1=lo:=by simp
 have e2:(((hi-lo).toNat:Nat):Int)-((0:Nat):Int)=CZ lo hi 1:=by rw[rangeSize_one];split <;> lia
 cases hs:Builtin.Range.small lo hi 1 with
 |true =>
  refine wpAny_pyIter_range (IsRange.new ..) hs ?_
  refine⟨(s.heap.push { cls:=.type "range",data:=.fields #[.int lo t,.int hi u,.int 1 v] }).objs.size,[(s.heap.push { cls:=.type "range",data:=.fields #[.int lo t,.int hi u,.int 1 v] }).objs.size],_,_,H,rfl,
   I1.kept (t':=tk) λb o e=>Ag _ e,ze3 _ lo (hi-lo).toNat,?_,λb hb=>?_,q⟩
  .show IsRangeIter _ _ (lo+((0:Nat):Int)*1) ((((hi-lo).toNat:Nat):Int)-((0:Nat):Int)) 1;rw[e1,e2];exact At _ rfl
  .have e:b=(s.heap.push { cls:=.type "range",data:=.fields #[.int lo t,.int hi u,.int 1 v] }).objs.size:=by simpa using hb
   subst e;exact I1.fpOk (Ai _) (I1.hok.fresh (Ai _))
 |false =>
  refine wpAny_pyIter_longrange (IsRange.new ..) hs ?_
  refine⟨(s.heap.push { cls:=.type "range",data:=.fields #[.int lo t,.int hi u,.int 1 v] }).objs.size,[(s.heap.push { cls:=.type "range",data:=.fields #[.int lo t,.int hi u,.int 1 v] }).objs.size],_,_,H,rfl,
   I1.kept (t':=tk) λb o e=>Ag _ e,zjy _ lo (hi-lo).toNat,?_,λb hb=>?_,q⟩
  .show IsLongIter _ _ (lo+((0:Nat):Int)*1) ((((hi-lo).toNat:Nat):Int)-((0:Nat):Int)) 1;rw[e1,e2];exact At _ rfl
  .have e:b=(s.heap.push { cls:=.type "range",data:=.fields #[.int lo t,.int hi u,.int 1 v] }).objs.size:=by simpa using hb
   subst e;exact I1.fpOk (Ai _) (I1.hok.fresh (Ai _))
noncomputable def iRngB(ta:TA):TI:=λσ H R=>ta σ H λvs H1=>∃i j:Int,vs=[.int i,.int j]/\R (Itr i (j-i).toNat) H1
theorem zkb {a b:Expr}{ta:TA}{p pos:Pos}(hg:Gl X "range") (hm:X.mg "range" = none) (ha:PA X [a, b] ta) (hs:Bh [a, b] X.env = [(false, eval a X.env), (false, eval b X.env)] := by rfl) (hs2:Bh [b] X.env = [(false, eval b X.env)] := by rfl) :
  PI X tg (.Call (.Name "range" p) [a,b] [] pos) (iRngB ta):=by
 intro pins s σ H R I h;refine Call_ (zck I hg hm boot_range (BT (thn (ha pos pins s σ H _ I h) λus s1 ⟨vs,H1,I1,r1,q1⟩=>?_) (by rw[hs,hs2]) (by rw[hs2];rfl)));obtain⟨i,j,e,q⟩:=q1;subst e
 cases r1 with
 |cons r rr =>
  cases rr with
  |cons r' rr =>
   cases rr
   obtain⟨t,rfl⟩:=r;obtain⟨t',rfl⟩:=r';exact call_range_2 (zj3 I1 q)
end
section
variable {X:Cx}{pos:Pos}{kx vx:Expr}{tk tv:TE}
end
open AutoSeq1 (wpAny_loadPart')
section
variable {prog:AQ}{w:Bg}{A:AY}{E:Ac->Ae->Prop}{s:Ae}{d:Addr}{ep:Nat}{es:Array DictEntry}{od:Obj}
theorem ziM(hh:A.handled=none)(I d:Addr)(hne:d ≠ I)(dat:od.data = .dict es ep) :
  Walks prog w A I [I,d] [I] es.size (λi v=>∃e,es[i]?=some e/\v=e.key) (λi h=>h.IsKeyIter I d i es.size ep/\h.get? d=some od) where
 sub:=λb hb=>by simp at hb;simp[hb]
 frame:=λi h h' st k=>⟨st.1.at λo e=>k I (by simp) o e,k d (by simp) _ st.2⟩
 item:=λi s Q E hi st hQ=>by
  refine zkz st.1 st.2 dat (BQ hi) λh' st' sb=>?_
  refine hQ _ h' s.toks ⟨_,BQ hi,rfl⟩ ⟨st',(sb.2 d hne).trans st.2⟩ λb o hb e=>(sb.2 b (λz=>hb (by simp[z]))).trans e
 done:=λs Q E st hQ=>zlW hh st.1 st.2 dat (Ai _) λh' eb=>hQ h' s.toks λb o hb e=>eb b o (λz=>hb (by simp[z])) e
 self:=λi s Q E st hQ=>wpAny_pyIter_keyiter st.1 hQ
theorem zlb{Q:Ac -> Ae -> Prop}(lo:(d == BP)=false)(g:s.heap.get? d=some od)(x:od.ExactDict)(dat:od.data = .dict es ep)
  (h:Q (.int es.size s.toks) { s with toks:=s.toks+1 }):Ak (An prog w) A (call (.builtin "dict.__len__") [.ref d]) Q E s:=by
 have ty:s.TypeIs (.ref d) "dict":=⟨od,g,x.1⟩;refine Bo PySem.F.slot_dict_len ty PySem.F.entry_dict_len ?_ (PySem.F.args_dict_len_1 _)
 show Ak _ _ (dictSize d >>= _) _ _ s;unfold dictSize;refine Aa (Aa (Ce g dat (Af ?_)));show Ak _ _ (Builtin.Dict.pendingCount d >>= _) _ _ s;refine Aa (wpAny_pendingCount_other lo ?_);refine wpAny_ret_mkInt ?_
 simpa using h
theorem zf9{Q:Ac -> Ae -> Prop}(lo:(d == BP)=false)(g:s.heap.get? d=some od)(x:od.ExactDict)(dat:od.data = .dict es ep)(hz:es.size <= 2 ^ 24)
  (h:Q (.int es.size (s.toks+1)) { s with toks:=s.toks+1+1 }):Ak (An prog w) A (call (.builtin "len") [.ref d]) Q E s :=
 PyProof.Rows.call_len_slot (n:=es.size) ⟨od,g,x.1⟩ PySem.F.slot_dict_len (λQ' hq=>zlb lo g x dat hq) (by lia) (by lia) h
theorem zkJ{Q:Bool->Ae->Prop}(g:s.heap.get? d=some od)(x:od.ExactDict)(h:Q false s):Ak (An prog w) A (Builtin.List.listLengthHint (.ref d)) Q E s:=by
 have ty:s.TypeIs (.ref d) "dict":=⟨od,g,x.1⟩;unfold Builtin.List.listLengthHint;refine Aa (wpAny_specialOf ty PySem.F.slot_dict_len.lookup ?_);generalize hid:("dict.__len__" : String)=id0
 wp_delta
 rw[show splitId id0=some ("dict","__len__") from by subst hid;decide +kernel];subst hid;refine Aa (wpAny_isInstance (T:="dict") (b:=true) ty (by rw[isSubtype_type];kernel_rfl) ?_);refine wpAny_ite_split (λhab=>absurd hab (by decide)) (λ_=>?_);refine wpAny_ite_split (λ_=>?_) (λhab=>absurd (by decide +kernel) hab);refine Aa (wpAny_typeOf (T:="dict") ty ?_);exact Af h
theorem zhN{R:Result -> Ae -> Prop}(hh:A.handled=none)(lo:(d == BP)=false)(g:s.heap.get? d=some od)(x:od.ExactDict)(dat:od.data = .dict es ep)(hz:es.size <= 2 ^ 24)
    (S:Addr) (res:Ac) (c₀:Nat) (hS:s.heap.get? S=some { cls:=.type "list",data:=.seq #[] c₀ })
    (hR:∀h' tk acc' c',(∀b o,b≠S->s.heap.get? b=some o->h'.get? b=some o)->h'.get? S=some { cls:=.type "list",dict:=none,data:=.seq acc' c',slots:=#[] } ->
      ItemsOf (λi v=>∃e,es[i]?=some e/\v=e.key) acc' es.size->R (.ok (.ret res)) { s with heap:=h',toks:=tk }) :
    Ak (An prog w) A.in1 (Db (.ref S) (.ref d) res)
      (λfin s'=>match fin with |.done f=>R (.ok f) s' |.again c'=>c'.quiet=true/\CT (An prog w) A c' R s') (λe s'=>R (.error e) s') s:=by
  have hSr:S≠d:=λe=>by rw[e,g]at hS;have:=x.1;cases hS;exact absurd (show DE "list" = DE "dict" from this) (by decide)
  have hSlt:S<s.heap.objs.size:=Aq hS;have hdlt:d<s.heap.objs.size:=Aq g;have hSI:S≠s.heap.objs.size:=AK hSlt
  have hSf:S ∉ [s.heap.objs.size,d]:=λhm=>by
    rcases Ax.mp hm with z |z
    . exact hSI z
    . exact hSr (Am.mp z)
  have W:=(ziM (prog:=prog) (w:=w) (A:=A.in1) hh s.heap.objs.size d (AK hdlt) dat).toS
  have key:∀(h:Heap) (c₁ tk:Nat), h.IsKeyIter s.heap.objs.size d 0 es.size ep /\ h.get? d=some od -> (∀b o, b ≠ S -> s.heap.get? b=some o -> h.get? b=some o) ->
      h.get? S=some { cls:=.type "list",data:=.seq #[] c₁ }->CT (An prog w) A (.builtin "list.extend.loop" ⟨[.ref S,.ref s.heap.objs.size,res],[]⟩) R { s with heap:=h,toks:=tk }:=by
    intro h c₁ tk hit hk hS₁;refine codeAny_extend_loopS W (by rw[Dg];lia) S hSf res es.size 0 _ #[] c₁ rfl (Bd _) hit hS₁ (ItemsOf.nil _) λs' acc' c' hm hS' hacc=>?_
    rw[Moved.eq_with hm];refine hR s'.heap s'.toks acc' c' (λb o hb e=>hm.heap b o (λhmem=>?_) (hk b o hb e)) hS' hacc;rcases Ax.mp hmem with e' |hmem
    . exact hb e'
    . exact absurd (Aq e) (by rw[Am.mp hmem];exact Dd _)
  unfold Db;refine Aa (wpAny_typeOf (T:="dict") ⟨od,g,x.1⟩ ?_);have h1:Builtin.List.listSameRef (.ref S) (.ref d)=false:=by simp[Builtin.List.listSameRef,hSr]
  have h2:(DE "dict" == DE "list")=false:=by decide
  have h3:(DE "dict" == DE "tuple")=false:=by decide
  simp only[h1,h2,h3,Bool.or_false,Bn,if_false];refine Aa (zkA lo g x dat ?_);refine Aa (Bb (zkJ (Ag _ g) x ?_));have hit₁:(s.heap.push { cls:=.type "dict_keyiterator",data:=.fields #[.ref d,.int 0 0,.int es.size 0,.int ep 0] }).IsKeyIter s.heap.objs.size d 0 es.size ep:=⟨_,At _ rfl,rfl,rfl⟩;have hg₁:=Ag { cls:=.type "dict_keyiterator",data:=.fields #[.ref d,.int 0 0,.int es.size 0,.int ep 0] } g;have hS₁:=Ag { cls:=.type "dict_keyiterator",data:=.fields #[.ref d,.int 0 0,.int es.size 0,.int ep 0] } hS;refine wpAny_ite_split (λ_=>?_) (λhab=>absurd (by decide) hab);refine Aa (B9 ?_);refine Aa ?_
  show Ak _ _ (updateSeq S (·.push .none) >>= λ_=>updateSeq S (·.pop)) _ _ _;refine Aa (D3 hS₁ rfl ?_);have hS₂:=CN (A7 (·.push B8)) hS₁ rfl;refine D3 (hz:=by seq_fits) hS₂ rfl ?_
  have hS₃:=CN (A7 (·.pop)) hS₂ rfl;refine Af ⟨plainId_quiet PySem.F.plain_extend_loop _,key _ _ _ ⟨hit₁.at λo e=>?_,?_⟩ (λb o hb e=>?_) hS₃⟩
  . exact (BE _ _ hSI).trans ((BE _ _ hSI).trans e)
  . exact (BE _ _ hSr).trans ((BE _ _ hSr).trans hg₁)
  . exact (BE _ _ (Cj hb)).trans ((BE _ _ (Cj hb)).trans (Ag _ e))
theorem zkH{R:Result -> Ae -> Prop}(hh:A.handled=none)(lo:(d == BP)=false)(g:s.heap.get? d=some od)(x:od.ExactDict)(dat:od.data = .dict es ep)(hz:es.size <= 2 ^ 24)
  (S:Addr) (hS:s.heap.get? S=some { cls:=.type "list",data:=.seq #[] })
  (hR:∀h' tk acc' c',(∀b o,b≠S->s.heap.get? b=some o->h'.get? b=some o)->h'.get? S=some { cls:=.type "list",dict:=none,data:=.seq acc' c',slots:=#[] } ->
   ItemsOf (λi v=>∃e,es[i]?=some e/\v=e.key) acc' es.size->R (.ok (.ret .none)) { s with heap:=h',toks:=tk }) :
  Ak (An prog w) A.in1 (DL.«list.__init__» ⟨[.ref S,.ref d],[]⟩)
   (λfin s'=>match fin with |.done f=>R (.ok f) s' |.again c'=>c'.quiet=true/\CT (An prog w) A c' R s') (λe s'=>R (.error e) s') s:=by
 have hSr:S≠d:=λe=>by rw[e,g]at hS;have:=x.1;cases hS;exact absurd (show DE "list" = DE "dict" from this) (by decide)
 show Ak _ _ (do let old <- Builtin.List.listItems (.ref S);Builtin.List.listUpdate (.ref S) (λ_=>#[]);letGo old.toList.reverse;Db (.ref S) (.ref d) .none) _ _ s;refine Aa ?_
 unfold Builtin.List.listItems;refine Aa (Cq hS rfl (Af ?_));show Ak _ _ (updateSeq S (λ_=>#[]) >>= λ_=>letGo (#[]:Array Ac).toList.reverse >>= λ_=>Db (.ref S) (.ref d) .none) _ _ s;refine Aa (D3 hS rfl ?_);have hS₂:=CN (A7 (λ_=>(#[]:Array Ac))) hS rfl
 have oth:∀b o,b≠S->s.heap.get? b=some o->(s.heap.update S (A7 (λ_=>(#[]:Array Ac)))).get? b=some o :=
  λb o hb e=>(BE _ _ (Cj hb)).trans e
 refine Aa (Dh ?_);refine zhN hh lo (oth d _ (Cj hSr) g) x dat hz S .none _ hS₂ λh' tk acc' c' hk hS' hacc=>?_
 exact hR h' tk acc' c' (λb o hb e=>hk b o hb (oth b o hb e)) hS' hacc
theorem zeW{Q:Ac -> Ae -> Prop}(hh:A.handled=none)(lo:(d == BP)=false)(g:s.heap.get? d=some od)(x:od.ExactDict)(dat:od.data = .dict es ep)(hz:es.size <= 2 ^ 24)
  (hQ:∀h' tk acc' c',(∀b o,s.heap.get? b=some o->h'.get? b=some o) ->
   h'.get? s.heap.objs.size=some { cls:=.type "list",dict:=none,data:=.seq acc' c',slots:=#[] }->ItemsOf (λi v=>∃e,es[i]?=some e/\v=e.key) acc' es.size->Q (.ref s.heap.objs.size) { s with heap:=h',toks:=tk }) :
  Ak (An prog w) A (call (.type "list") [.ref d]) Q E s:=by
 refine callType_codes (Q₁:=λobj s₁=>obj=.ref s.heap.objs.size/\s₁={ s with heap:=s.heap.push { cls:=.type "list",data:=.seq #[] } }) PySem.F.called_list (PySem.F.typeCall_list_1 _) PySem.F.entry_list_init
  (code_list_new _ ⟨rfl,rfl⟩) λobj s₁ h₁=>?_
 obtain⟨rfl,rfl⟩:=h₁;have hS:(s.heap.push { cls:=.type "list",data:=.seq #[] }).get? s.heap.objs.size=some { cls:=.type "list",data:=.seq #[] }:=At _ rfl;refine⟨⟨_,hS,rfl⟩,PySem.F.args_list_init_2 _ _,zkH (A:=A.in1) hh lo (Ag _ g) x dat hz _ hS λh' tk acc' c' hk hS' hacc=>?_⟩;exact⟨rfl,hQ h' tk acc' c' (λb o e=>hk b o (AK (Aq e)) (Ag _ e)) hS' hacc⟩
end
noncomputable def KeyL(H:Hp)(ts:List V)(kvs:List (List Key×V)):Prop:=ts.length=kvs.length/\∀(i:Nat) t k v,ts[i]?=some t->kvs[i]?=some (k,v)->∃b,t=.ref b/\H b=some (.tup (k.map kV))
section
variable {X:Cx}
theorem zhQ:CallR X (.builtin "len") (λxs H Q=>∃a kvs,xs=[.ref a]/\Rd H a (.dT kvs)/\Q (.int kvs.length) H):=by
 intro pins s σ H xs us Q I r h;obtain⟨a,kvs,rfl,e,q⟩:=h;obtain⟨u,rfl,rx⟩:=vals1 r
 cases rx
 obtain⟨z,y,ys,rr,od,es,ep,h1,h2,h3,h4,h5⟩:=(show ObjOk X.prog X.w H s.heap a (.dT kvs) from rd_of I.hok e);have hsz:es.size=kvs.length:=by rw[EM h4,<- CB rr]
 rw[Dg]at z;exact zf9 y h1 h2 h3 (by lia) ⟨.int kvs.length,H,I.tok _,⟨_,by rw[hsz]⟩,q⟩
theorem zg3 (hh:X.calm=true):CallR X (.type "list") (λxs H Q=>∃a kvs,xs=[.ref a]/\Rd H a (.dT kvs)/\∀l ts,H l=none->KeyL H ts kvs->Q (.ref l) (upd H l (.lst ts))):=by
 intro pins s σ H xs us Q I r h;obtain⟨a,kvs,rfl,e,q⟩:=h;obtain⟨u,rfl,rx⟩:=vals1 r
 cases rx
 obtain⟨z,y,ys,rr,od,es,ep,h1,h2,h3,h4,h5⟩:=(show ObjOk X.prog X.w H s.heap a (.dT kvs) from rd_of I.hok e);have hsz:es.size=kvs.length:=by rw[EM h4,<- CB rr]
 have z':=z;rw[Dg]at z';refine zeW (show X.A.handled=none from I.ok.hd hh) y h1 h2 h3 (by lia) λh' tk acc c kp g hacc=>?_
 have at_i:∀(i:Nat) (u:Ac),acc[i]?=some u->∃b k v,kvs[i]?=some (k,v)/\u=.ref b/\H b=some (.tup (k.map kV)):=λi u hu=>by
  obtain⟨en,he,rfl⟩:=hacc.2 i u hu
  have hi:i<kvs.length:=by have:=(Bv.mp he).1;lia
  obtain⟨q',hq,q1,q2,q3⟩:=Paired.at' rr (Ab hi);have he':es[i]?=some (entryOfKey (D5 (zay X.prog X.w)) q'):=by rw[entry_at h4,hq];rfl
  rw[he]at he'
  cases he'
  exact⟨q'.2.1,kvs[i].1,kvs[i].2,Ab hi,rfl,q2⟩
 have hal:acc.size=kvs.length:=by rw[<- hsz];exact hacc.1
 let ts:List V:=acc.toList.map λu=>match u with |.ref b=>V.ref b |_=>V.non
 have hts:ts.length=kvs.length:=by simp[ts,hal]
 have hrel:Vals ts acc.toList:=zhS (by simp[ts]) λi x u hx hu=>by
  rw[AA,hu]at hx
  cases hx
  obtain⟨b,k,v,_,rfl,_⟩:=at_i i u (by simpa using hu);rfl
 have hn:H s.heap.objs.size=none:=I.hok.fresh (Ai _);refine⟨.ref s.heap.objs.size,_,I.laid (t':=tk) (o:=.lst ts) kp (Ai _) ⟨by rw[hts];exact z,acc.toList,c,hrel,by rw[Array.toArray_toList];exact g⟩,rfl,q _ ts hn ⟨hts,λi t k v ht hk=>?_⟩⟩;have hi:i<acc.toList.length:=by have:=(Ad.mp ht).1;simpa[ts]using this
 have hu:acc.toList[i]?=some acc.toList[i]:=Ab hi;obtain⟨b,k',v',hk',hu',hb⟩:=at_i i acc.toList[i] (by simpa using hu);rw[hk]at hk'
 cases hk'
 rw[AA,hu]at ht
 cases ht
 rw[hu'];exact⟨b,rfl,hb⟩
end
section
variable {X:Cx}{es:List Expr}{te:TE}{t:TA}{pos:Pos}
theorem pa_T{l:List Expr}{k:Nat}(ha:PE X (.Tuple l k pos) te)(hr:PA X es t):PA X (.Tuple l k pos::es) (tCons te t):=zai ha hr (by rfl)
theorem pa_C{c:Const}{k:Nat}(ha:PE X (.Constant c k pos) te)(hr:PA X es t):PA X (.Constant c k pos::es) (tCons te t):=zai ha hr (by rfl)
theorem pa_B{a b:Expr}{o:Operator}(ha:PE X (.BinOp a o b pos) te)(hr:PA X es t):PA X (.BinOp a o b pos::es) (tCons te t):=zai ha hr (by rfl)
theorem pa_N{x:Str}(ha:PE X (.Name x pos) te)(hr:PA X es t):PA X (.Name x pos::es) (tCons te t):=zai ha hr (by rfl)
end
theorem za6{i:Nat}{v:V}{σ:St}{H:Hp}{Q:St->Hp->Prop}:gName i v σ H Q=Q (σ.set i (some v)) H:=rfl
theorem zov{i:Nat}{v:V}{u:TS}{D:Ends}{σ:St}{H:Hp}:tSeq (tAsg (tC v) (gName i)) u D σ H=u D (σ.set i (some v)) H:=rfl
section
variable {X:Cx}{tg:Expr}
end
inductive IsC:Expr->V->Prop where
 |int {n:Int} {k:Nat} {p:Pos}:IsC (.Constant (.int n) k p) (.int n)
 |bl {b:Bool} {k:Nat} {p:Pos}:IsC (.Constant (.bool b) k p) (.bl b)
 |neg {n:Int} {k:Nat} {p q:Pos}:IsC (.UnaryOp .USub (.Constant (.int n) k p) q) (.int (-n))
inductive IsPs:List Expr->List (V×V)->Prop where
 |nil:IsPs [] []
 |cons {a b:Expr} {x y:V} {k:Nat} {p:Pos} {es:List Expr} {l:List (V×V)}:IsC a x->IsC b y->IsPs es l->IsPs (.Tuple [a,b] k p::es) ((x,y)::l)
inductive RetPs:List Stmt->List (V×V)->Prop where
 |mk {es:List Expr} {l:List (V×V)} {p q:Pos}:IsPs es l->RetPs [.Return (some (.List es p)) q] l
section
variable {X:Cx}
end
section
variable {X:Cx}
end
section
variable {prog:AQ}{w:Bg}{A:AY}{E:Ac->Ae->Prop}{s:Ae}{T:String}{r d:Addr}{n:Nat}{P:Nat->Ac->Prop}{OK:Heap->Prop}
theorem ziQ{Q:Ac -> Ae -> Prop}{ns:List Int}(K:W.KdlSrc prog w T r d n P OK)(hh:A.handled=none)(hok:OK s.heap)(hz:n < 64)
  (hI:∀acc,ItemsOf P acc n->CU acc.toList ns)
  (hQ:∀(h1 h':Heap) (tk:Nat) (D:Addr) (out:Array Ac) (ns':List Int) (e:Nat),(∀b o,s.heap.get? b=some o->h1.get? b=some o)->(∀b o,h1.get? b=some o->h'.get? b=some o)->h1.objs.size<=D->h'.get? D=some (BS "list" out e)->CU out.toList ns'->ns'.Perm ns->ns'.Pairwise (·<=·)->Q (.ref D) { s with heap:=h',toks:=tk }) :
  Ak (An prog w) A (call (.builtin "sorted") [.ref r]) Q E s:=by
 refine Calls.call_function_entry kind_sorted plain_sorted entry_sorted (args_sorted1 _) ?_
 unfold DL.«sorted»;refine Aa (m:=checkCount "sorted" 1 1 _) (Af ?_);refine Aa (W.kdu_collect (A:=A.in1) K hh hok (by rw[Dg];lia) λh' tk acc hk hacc=>?_);have hal:acc.toList.length<64:=by rw[AJ,hacc.1];exact hz
 refine Aa (wpAny_newList ?_ (by rw[Dg];lia));have hoL:(h'.push (BS "list" acc.toList.toArray 0)).get? h'.objs.size=some (BS "list" acc.toList.toArray 0):=At _ rfl;show Ak _ _ _ _ _ { s with heap:=h'.push (BS "list" acc.toList.toArray 0),toks:=tk };refine Aa (Bb (Bo slot_list_sort ⟨_,hoL,rfl⟩ entry_list_sort (list_sort_tree hoL (hI acc hacc) hal λout ns' a1 a2 a3=>⟨_,rfl,?_⟩) (args_list_sort _)));obtain⟨e,he⟩:=sortedHeap_at (out:=out) hoL;refine Af ⟨_,rfl,hQ h' _ tk _ out ns' e hk (λb o hb=>?_) (Ai _) he a1 a2 a3⟩;rw[sortedHeap_old (AK (Aq hb)) (by rw[size_push'];exact Nat.lt_succ_of_lt (Aq hb))];exact Ag _ hb
end
section
variable {X:Cx}
theorem zjf:CallR X (.builtin "sorted") (λxs H Q=>∃l,∃ns:List Int,xs=[.ref l]/\SqL X.K H l (ns.map V.int)/\ns.length<64/\∀(D:Addr) (ns':List Int),ns'.Perm ns->ns'.Pairwise (·<=·)->H D=none->Q (.ref D) (upd H D (.lst (ns'.map V.int)))):=by
 intro pins s σ H xs us Q I r h;obtain⟨l,ns,rfl,hl,h64,q⟩:=h;obtain⟨u,rfl,rx⟩:=vals1 r
 cases rx
 obtain⟨vs,rv,pl,hz⟩:=I.list hl;have hlv:vs.length=ns.length:=by rw[<- rv.length,Ah]
 refine sorted_ints pl.isList (zbB rv) (by lia) λout ns' a1 a2 a3=>?_
 obtain⟨e,he⟩:=sortedAll_at s.heap vs out;have hn:H (s.heap.objs.size+1)=none:=I.hok.fresh (Dz _);refine⟨.ref (s.heap.objs.size+1),_,I.laid (t':=s.toks) (o:=.lst (ns'.map V.int)) (λb o=>sortedAll_old) (Dz _) ⟨?_,out.toList,e,zc8 a1,by rw[Array.toArray_toList];exact he⟩,rfl,q _ ns' a2 a3 hn⟩;rw[Ah,a2.length_eq,Dg];lia
theorem zjg (hh:X.calm=true):CallR X (.builtin "sorted") (λxs H Q=>∃a,∃kvs:List (Key×V),∃ns:List Int,xs=[.ref a]/\Rd H a (.dK kvs)/\kvs.map (·.1)=ns.map Ct/\ns.length<64/\∀(D:Addr) (ns':List Int),ns'.Perm ns->ns'.Pairwise (·<=·)->H D=none->Q (.ref D) (upd H D (.lst (ns'.map V.int)))):=by
 intro pins s σ H xs us Q I r h;obtain⟨a,kvs,ns,rfl,e,hk,h64,q⟩:=h;obtain⟨u,rfl,rx⟩:=vals1 r
 cases rx
 obtain⟨z,y,vs,kv,hD⟩:=dk_rd I.hok e;obtain⟨ep,hat⟩:=hD.dictAt;have hl1:kvs.length=ns.length:=by have:=congrArg Dv hk;simpa using this
 have hl2:kvs.length=vs.length:=CB kv;refine ziQ (ns:=ns) (W.kdl_dict (knd:=zay X.prog X.w) (kvs:=vs) (ep:=ep) y) (I.ok.hd hh) hat (by lia) (λacc hacc=>?_) λh1 h' tk D out ns' e kp kp2 hD' ho a1 a2 a3=>?_
 .refine zbB (zhS (by have:=hacc.1;simp only[Ah,AJ];lia) λi x u hx hu=>?_);obtain⟨k,v,hkv,hki⟩:=hacc.2 i u (by simpa using hu);obtain⟨n,hn,rfl⟩:∃n,ns[i]?=some n/\V.int n=x:=by simpa using hx
  have hi:i<kvs.length:=by have:=(Ad.mp hkv).1;lia
  obtain⟨p,hp,ep1,_⟩:=Paired.at' kv (Ab hi);rw[hkv]at hp
  cases hp
  have hkn:kvs[i].1=Ct n:=by
   have h1:(kvs.map (·.1))[i]?=(ns.map Ct)[i]?:=by rw[hk]
   rw[AA,AA,hn,Ab hi]at h1;simpa using h1
  have hki':keyIs (Ct n) u=true:=by rw[<- hkn,ep1];exact hki
  rcases zaL hki' with⟨i',t,e1,rfl⟩ |⟨x,t,e1,_⟩
  .cases e1;exact⟨t,rfl⟩
  .cases e1
 .have I1:Inv X pins σ H { s with heap:=h1,toks:=tk }:=I.kept (t':=tk) kp;have hn:H D=none:=I1.hok.fresh hD';refine⟨.ref D,_,I1.laid (t':=tk) (o:=.lst (ns'.map V.int)) kp2 hD' ⟨?_,out.toList,e,zc8 a1,by rw[Array.toArray_toList];exact ho⟩,rfl,q _ ns' a2 a3 hn⟩;rw[Ah,a2.length_eq,Dg];lia
end
noncomputable def znC(td ty tx:TE):TE:=λσ H Q=>td σ H λx H1=>∃a,x=.ref a/\IsD H1 a/\ty σ H1 λy H2=>tx σ H2 λz H3=>∃kvs k,H3 a=some (.dK kvs)/\y=kV k/\kvs.length<sizeLine /\
 (∀v,valV kvs k=some v->Q v H3)/\(valV kvs k=none->Q z (upd H3 a (.dK (putK kvs k z))))
section
variable {X:Cx}{o e f:Expr}{apos cpos:Pos}{td ty tx:TE}
theorem zig (ho:PE X o td) (he:PE X e ty) (hf:PE X f tx) (m:M2 X o "setdefault" apos e f cpos):PE X (.Call (.Attribute o "setdefault" apos) [e,f] [] cpos) (znC td ty tx):=by
 intro pins s σ H Q I h;refine wpAny_Call_method m.base m.few m.line C0 C7 PySem.F.type_dict_setdefault (thn (ho pins s σ H _ I h) λu s1 ⟨x,H1,I1,rx,a,ex,d,q1⟩=>?_);subst ex;obtain rfl:u=Au a:=rx;obtain⟨t1,t2,_⟩:=ziq I1 d;refine⟨t1,t2,?_⟩;rw[m.trees]
 refine CF rfl (Dw (B4 (thn (he pins s1 σ H1 _ I1 q1) λiv s2 ⟨y,H2,I2,ry,q2⟩ =>
  B4 (thn (hf pins s2 σ H2 _ I2 q2) λfv s3 ⟨z,H3,I3,rz,kvs,k,eD,ey,hl,k1,k2⟩=>Du ?_))))
 subst ey;obtain⟨zz,hd,vs,rel,dd⟩:=dk_of I3.hok eD
 refine call_meetsIn C7 dd.typeIs PySem.F.entry_dict_setdefault (PySem.F.args_dict_setdefault_3 _ _ _) (PySem.kt_meets_setdefault (zay X.prog X.w) a (kV_is ry) hd fv)
  ⟨vs,dd,by rw[<- rel.length];exact zz,λp ep=>?_,λen h' dd' hs=>?_⟩
 .have rv:=rel.val k;rw[ep]at rv
  cases hv:valV kvs k with
  |none=>rw[hv]at rv;exact BD rv
  |some v=>rw[hv]at rv;exact⟨v,H3,I3.tok _,rv,k1 v hv⟩
 .have hn:valV kvs k=none := by
   have rv:=(rel.val k).isSome_eq;rw[en]at rv
   cases hv:valV kvs k with
   |none=>rfl
   |some v=>rw[hv]at rv;exact absurd rv (by simp)
  have hz:(putK kvs k z).length<=sizeLine:=by have:=zaK kvs k z;lia
  have hq:∃q,h'.get? a=some q:=let ⟨q,_,_,hq,_⟩:=dd';⟨q,hq⟩
  exact⟨z,_,zc3 I3 (by rw[eD];exact CD) hs hq (zkU hz hd (rel.put k rz) dd'),rz,k2 hn⟩
end
noncomputable def Itr2(lo:Int)(n:Nat):It:=⟨λi _=>i<n,λi H x H'=>H'=H/\x=.int (lo+i*2),λi _=>n<=i⟩
theorem zhl{P:AQ}{w:Bg}{K:W.Frag}{tg:Expr}(it:Addr)(lo:Int)(n:Nat):Turn P w K tg (Itr2 lo n) [it] it (λi h=>IsRangeIter h it (lo+(i:Nat)*2) ((n:Int)-(i:Nat)) 2) where
 mem:=by simp
 obj:=λi h st b hb=>by
  have e:b=it:=by simpa using hb
  subst e
  exact⟨_,st,λv z=>by
   have z':Data.fields _=Data.cell v:=z
   cases z'⟩
 keep:=λi h h' st k=>k it (by simp) _ st
 item:=by
  intro X hP hw hK hc i pins s σ H E I hf st hg;subst hP hw hK;obtain⟨f0,f1,f2,f3,f4,f5⟩:=hf it (by simp);have W:=Walks.range (prog:=X.prog) (w:=X.w) (I.ok.hd hc) it lo 2 n;refine W.item i s _ _ hg st λv h' tk hv st' kk=>?_
  obtain⟨t,rfl⟩:=hv;have I1:Inv X pins σ H { s with heap:=h',toks:=tk }:=I.turned (λb o hb e=>kk b o (by simpa using hb) e) f0 f1 f3 f4 f5;exact⟨_,rfl,go_of (s:={ s with heap:=h',toks:=tk }) (n:="range_iterator") st' rfl rfl (by decide) ⟨.int (lo+i*2),H,I1,⟨t,rfl⟩,⟨rfl,rfl⟩,st',λb hb=>(hf b hb).1⟩⟩
 done:=by intro X hP hw hK hc i pins s σ H E I hf st hg;subst hP hw hK;obtain⟨f0,f1,f2,f3,f4,f5⟩:=hf it (by simp);exact wpAny_pyNext_range_end (I.ok.hd hc) st (by have:n<=i:=hg;lia) λh' eb=>⟨rfl,I.turned (t':=s.toks) (λb o hb e=>eb b o hb e) f0 f1 f3 f4 f5⟩
 self:=λ_ _ _ _ _ st h=>wpAny_pyIter_rangeiter st h
theorem zjQ{a b:Int}(ha:-(2 ^ 62)<=a)(ha':a<2 ^ 62)(hb:-(2 ^ 62)<=b)(hb':b<2 ^ 62):Builtin.Range.small a b 2=true:=by unfold Builtin.Range.small CZ;simp only[Builtin.Range.rangeFitsLong,B6,Bool.or_eq_true,decide_eq_true_eq,beq_iff_eq,show (2:Int) > 0 by decide,if_true];split <;> lia
section
variable {X:Cx}{tg:Expr}
theorem zj4{pins:List (Addr × Obj)}{σ : St}{H:Hp}{s:Ae}{R:It -> Hp -> Prop}{E:Ac -> Ae -> Prop}{lo hi:Int}{t u v:Tok}{tk:Nat}(I:Inv X pins σ H s)(h1 : -(2 ^ 62) <= lo)(h2:lo < 2 ^ 62)(h3 : -(2 ^ 62) <= hi)(h4:hi < 2 ^ 62)
  (q:R (Itr2 lo ((hi-lo+1) / 2).toNat) H):Ak (An X.prog X.w) X.A (pyIter (.ref s.heap.objs.size)) (PIE X pins σ tg R) E { s with heap:=s.heap.push { cls:=.type "range",data:=.fields #[.int lo t,.int hi u,.int 2 v] },toks:=tk }:=by
 refine wpAny_pyIter_range (IsRange.new ..) (zjQ h1 h2 h3 h4) ?_
 have I1:Inv X pins σ H { s with heap:=s.heap.push { cls:=.type "range",data:=.fields #[.int lo t,.int hi u,.int 2 v] },toks:=tk }:=I.kept λb o e=>Ag _ e
 refine⟨(s.heap.push { cls:=.type "range",data:=.fields #[.int lo t,.int hi u,.int 2 v] }).objs.size,[(s.heap.push { cls:=.type "range",data:=.fields #[.int lo t,.int hi u,.int 2 v] }).objs.size],_,_,H,rfl,
  I1.kept (t':=tk) λb o e=>Ag _ e,zhl _ lo ((hi-lo+1) / 2).toNat,?_,λb hb=>?_,q⟩
 .have e1:lo+((0:Nat):Int)*2=lo:=by simp
  have e2:((((hi-lo+1) / 2).toNat:Nat):Int)-((0:Nat):Int)=CZ lo hi 2:=by unfold CZ;rw[if_pos (by decide)];split <;> lia
  show IsRangeIter _ _ (lo+((0:Nat):Int)*2) (((((hi-lo+1) / 2).toNat:Nat):Int)-((0:Nat):Int)) 2;rw[e1,e2];exact At _ rfl
 .have e:b=(s.heap.push { cls:=.type "range",data:=.fields #[.int lo t,.int hi u,.int 2 v] }).objs.size:=by simpa using hb
  subst e;exact I1.fpOk (Ai _) (I1.hok.fresh (Ai _))
noncomputable def iRng3(ta:TA):TI:=λσ H R=>ta σ H λvs H1=>∃i j:Int,vs=[.int i,.int j,.int 2]/\(-(2 ^ 62)<=i/\i<2 ^ 62/\-(2 ^ 62)<=j/\j<2 ^ 62)/\R (Itr2 i ((j-i+1) / 2).toNat) H1
theorem zkc {a b c:Expr}{ta:TA}{p pos:Pos}(hg:Gl X "range") (hm:X.mg "range" = none) (ha:PA X [a, b, c] ta) (hs:Bh [a, b, c] X.env = [(false, eval a X.env), (false, eval b X.env), (false, eval c X.env)] := by rfl) (hs2:Bh [b, c] X.env = [(false, eval b X.env), (false, eval c X.env)] := by rfl) :
  PI X tg (.Call (.Name "range" p) [a,b,c] [] pos) (iRng3 ta):=by
 intro pins s σ H R I h;refine Call_ (zck I hg hm boot_range (BT (thn (ha pos pins s σ H _ I h) λus s1 ⟨vs,H1,I1,r1,q1⟩=>?_) (by rw[hs,hs2]) (by rw[hs2];rfl)));obtain⟨i,j,e,⟨q1,q2,q3,q4⟩,q⟩:=q1;subst e
 cases r1 with
 |cons r rr =>
  cases rr with
  |cons r' rr =>
   cases rr with
   |cons r'' rr =>
    cases rr
    obtain⟨t,rfl⟩:=r;obtain⟨t',rfl⟩:=r';obtain⟨t'',rfl⟩:=r'';exact call_range_3 (by decide) (zj4 I1 q1 q2 q3 q4 q) (.inl (PyProof.noPylong_small (by decide)))
end
section
variable {prog:AQ}{w:Bg}{A:AY}{E:Ac->Ae->Prop}{s:Ae}{d it v:Addr}{i ep:Nat}{es:Array DictEntry}{od:Obj}{ok ov:Ac}
theorem zi8{Q:Ac -> Ae -> Prop}(lo:(d == BP)=false)(g:s.heap.get? d=some od)(x:od.ExactDict)
  (k:Q (.ref s.heap.objs.size) { s with heap:=s.heap.push { cls:=.type "dict_items",data:=.fields #[.ref d] } }):Ak (An prog w) A (call (.builtin "dict.items") [.ref d]) Q E s:=by
 have ty:s.TypeIs (.ref d) "dict":=⟨od,g,x.1⟩;refine Bo PySem.F.slot_dict_items ty PySem.F.entry_dict_items ?_ (PySem.F.args_dict_items_1 _)
 unfold DL.«dict.items» Builtin.Dict.noArgs;refine Aa (Aa (Eb ty ?_));show Ak (An prog w) _ (pure d) _ _ s;refine Af (?_:Ak (An prog w) _ (Ec d >>= _) _ _ s);unfold Ec;rw[if_neg (show ¬ (d == BP)=true by rw[lo];decide)];exact Aa (Af (Aa (Bl (Af ⟨_,rfl,k⟩))))
theorem zi7{Q:Ac -> Ae -> Prop}(vw:s.heap.IsItemsView v d)(g:s.heap.get? d=some od)(dat:od.data = .dict es ep)
  (k:Q (.ref s.heap.objs.size) { s with heap:=s.heap.push { cls:=.type "dict_itemiterator",data:=.fields #[.none,.bool false,.ref d,.int 0 0,.int es.size 0,.int ep 0,.none,.none] } }):Ak (An prog w) A (pyIter (.ref v)) Q E s:=by
 obtain⟨o1,g1,_,d1⟩:=id vw;refine wpAny_pyIter_slot vw.typeIs PySem.F.slot_dict_items_iter (Bo PySem.F.slot_dict_items_iter vw.typeIs PySem.F.entry_dict_items_iter ?_ (PySem.F.args_dict_items_iter_1 _));unfold DL.«dict_items.__iter__» Builtin.Dict_items.dictOf;refine Aa (Af (Aa (Aa (Be (x:=.ref d) g1 d1 rfl (Af (Aa ?_))))));unfold Builtin.Dict_items.newIterator;refine Aa (Ce g dat (Aa (D4 g dat ?_)));simp only[show Cv "dict_itemiterator" = true by decide,if_true]
 refine Bl (Af ⟨_,rfl,"dict_itemiterator",_,⟨_,At _ rfl,rfl⟩,PySem.F.slot_dict_itemiterator_next.lookup,?_⟩) (by
  simp only[sizeOk,AF,EB,AZ,Av,Cu,Dg];lia)
 simpa[EB,Cg]using k
theorem zi6{e:DictEntry}{Q:Option Ac -> Ae -> Prop}(st:ES s.heap it d i es.size ep ok ov)(g:s.heap.get? d=some od)(dat:od.data = .dict es ep)(he:es[i]? = some e)
  (k:∀h',IsItemIterOut h' it d (i+1) es.size ep e.key e.val s.heap.objs.size->h'.get? s.heap.objs.size=some { cls:=.type "tuple",data:=.seq #[e.key,e.val] } ->
   (∀b o,b≠it->s.heap.get? b=some o->h'.get? b=some o)->Q (some (.ref s.heap.objs.size)) { s with heap:=h' }):Ak (An prog w) A (DU (.ref it)) Q E s:=by
 obtain⟨hp,gs,dr,tk,os⟩:=s;have ty:Shared.TypeIs ⟨hp,gs,dr,tk,os⟩ (.ref it) "dict_itemiterator":=⟨_,st,rfl⟩;unfold DU;refine Aa (DI (Bi (name:=Bx "__next__") ty Cr (Bo Cr ty Eu ?_ (Em _))));refine Aa (Af (Aa (Aa ?_)));refine Aa (CS ty (Af (Aa (wpAny_fieldsOf st rfl ?_))));simp only[show Cv "dict_itemiterator" = true by decide,if_true];show Ak (An prog w) _ (if (Au d == B8)=true then _ else _) _ _ _;rw[if_neg (show ¬ (Au d == B8)=true by simp)];refine Aa (Af (Aa (Ce g dat ?_)));rw[if_neg (show ¬ ((es.size:Int) != (es.size:Int))=true by simp)];refine Aa (Af (Aa (D4 g dat ?_)));rw[if_neg (show ¬ ((ep:Int) != (ep:Int))=true by simp)];refine Af ?_
 simp only[show ¬ ((i:Int)<0) by lia,if_false,CG,he];refine Aa (Aa (CS ty (Af (Aa (wpAny_isOneOf_itemiter ty ?_)))));show Ak (An prog w) _ (setField (.ref it) 3 (Cg ((i:Int)+1)) >>= _) _ _ ⟨hp,gs,dr,tk,os⟩;refine Aa (Bc st (by simp) λh1 e1 b1=>?_)
 replace b1:BR it hp h1:=b1
 have c1:ES h1 it d (i+1) es.size ep ok ov:=by
  have e:((i+1:Nat):Int)=(i:Int)+1:=by lia
  unfold ES;rw[e];simpa[Cg]using e1
 have ty1:Shared.TypeIs ⟨h1,gs,dr,tk,os⟩ (.ref it) "dict_itemiterator":=⟨_,c1,rfl⟩;refine Aa (Bb (Aa (wpAny_isOneOf_itemiter ty1 (Aa (wpAny_isOneOf_itemiter ty1 ?_)))));show Ak (An prog w) _ (Builtin.Dict_items.pairFromOwner (.ref it) 6 e.key e.val) _ _ ⟨h1,gs,dr,tk,os⟩;unfold Builtin.Dict_items.pairFromOwner;refine Aa (wpAny_newTuple ?_);have c2:ES (h1.push { cls:=.type "tuple",data:=.seq #[e.key,e.val] }) it d (i+1) es.size ep ok ov:=Ag _ c1;generalize eh:h1.push { cls:=.type "tuple",data:=.seq #[e.key,e.val] }=h2 at c2;have z1:h1.objs.size=hp.objs.size:=b1.1;have li:it≠hp.objs.size:=AK (Aq st);have t2:h2.get? hp.objs.size=some { cls:=.type "tuple",data:=.seq #[e.key,e.val] }:=by rw[<- eh,<- z1];exact At _ rfl
 have k2:∀b o,b≠it->hp.get? b=some o->h2.get? b=some o:=λb o hb q=>by rw[<- eh];exact Ag _ (b1.extBut b o hb q)
 show Ak (An prog w) _ (EC (.ref it) >>= _) _ _ ⟨h2,gs,dr,tk,os⟩;rw[z1];clear eh c1 b1 ty1 z1 e1 h1;unfold EC;refine Aa (Aa (Be (x:=.none) c2 rfl rfl (Af ?_)));simp only[if_true];refine Aa (Be (x:=ok) c2 rfl rfl (Aa (Be (x:=ov) c2 rfl rfl ?_)));refine Aa (Bc c2 (by simp) λh3 c3 b3=>?_)
 replace c3:ES h3 it d (i+1) es.size ep e.key ov:=c3
 refine Aa (Bc c3 (by simp) λh4 c4 b4=>?_)
 replace c4:ES h4 it d (i+1) es.size ep e.key e.val:=c4
 refine Aa (Bc c4 (by simp) λh5 c5 b5=>?_)
 replace c5:IsItemIterOut h5 it d (i+1) es.size ep e.key e.val hp.objs.size:=c5
 refine Aa (Bc c5 (by simp) λh6 c6 b6=>?_);have all:∀b o,b≠it->h2.get? b=some o->h6.get? b=some o:=λb o hb q=>BC b6 b o hb (BC b5 b o hb (BC b4 b o hb (BC b3 b o hb q)))
 exact Aa (Dh (Af (Af ⟨_,rfl,Af (k h6 c6 (all _ _ li.symm t2) λb o hb q=>all b o hb (k2 b o hb q))⟩)))
theorem zkF{Q:Option Ac -> Ae -> Prop}(hh:A.handled=none)(st:ES s.heap it d i es.size ep ok ov)(g:s.heap.get? d=some od)(dat:od.data = .dict es ep)(he:es.size <= i)
  (k:∀h',Heap.ExtBut it s.heap h'->Q none { s with heap:=h' }):Ak (An prog w) A (DU (.ref it)) Q E s:=by
 have ty:s.TypeIs (.ref it) "dict_itemiterator":=⟨_,st,rfl⟩;unfold DU;refine Aa (DI (Bi (name:=Bx "__next__") ty Cr (Bo Cr ty Eu ?_ (Em _))));refine Aa (Af (Aa (Aa ?_)));refine Aa (CS ty (Af (Aa (wpAny_fieldsOf st rfl ?_))));simp only[show Cv "dict_itemiterator" = true by decide,if_true];show Ak (An prog w) _ (if (Au d == B8)=true then _ else _) _ _ s;rw[if_neg (show ¬ (Au d == B8)=true by simp)];refine Aa (Af (Aa (Ce g dat ?_)));rw[if_neg (show ¬ ((es.size:Int) != (es.size:Int))=true by simp)];refine Aa (Af (Aa (D4 g dat ?_)));rw[if_neg (show ¬ ((ep:Int) != (ep:Int))=true by simp)];refine Af ?_
 simp only[show ¬ ((i:Int)<0) by lia,if_false,CG,Array.getElem?_eq_none he];refine Aa (Aa (CS ty (Af ?_)));show Ak (An prog w) _ (setField (.ref it) 2 .none >>= _) _ _ s;refine Aa (wpAny_setField st rfl (by simp) ?_);show Ak (An prog w) _ (newExc (.type "StopIteration") [] >>= _) _ _ _;refine Aa ?_
 simp only[newExc,newTuple];refine Aa (Bl ?_ (by size_fits));refine Aa (m:=firstArgMember _ _) (wpAny_of_eq (a:=B8) (by first |rfl | (simp only[firstArgMember];rfl)) (Bl ?_ (by size_fits)));simp only[raiseNew];refine Aa (wpAny_handled ?_);rw[show A.in1.handled=none from hh];refine Aa (Af (wpAny_throw (?_:Ak _ _ _ _ _ _)));exact Aa (wpAny_isInstance (b:=true) (T:="StopIteration") ⟨_,At _ rfl,rfl⟩ isSubtype_stop (Af (k _ (((BB ..).extBut.push _).push _))))
end
noncomputable def Itm(a:Addr)(od:Obj):It :=
 ⟨λi H=>∃kvs,H a=some (.frz od (.dT kvs))/\i<kvs.length,
  λi H x H'=>∀kvs,H a=some (.frz od (.dT kvs))->∃p b k v,x=.ref p/\H p=none/\kvs[i]?=some (k,v)/\H b=some (.tup (k.map kV))/\H'=upd H p (.tup [.ref b,v]),λi H=>∃kvs,H a=some (.frz od (.dT kvs))/\kvs.length<=i⟩
theorem ziO{P:AQ}{w:Bg}{K:W.Frag}{ts:List Expr}{x1:Nat}{pos:Pos}(a it:Addr)(od:Obj){es:Array DictEntry}{ep:Nat}(dat:od.data = .dict es ep) :
  Turn P w K (.Tuple ts x1 pos) (Itm a od) [it] it (λi h=>∃ok ov,ES h it a i es.size ep ok ov) where
 mem:=by simp
 obj:=λi h st b hb=>by
  obtain⟨ok,ov,st⟩:=st;have e:b=it:=by simpa using hb
  subst e;exact⟨_,st,λv q=>nomatch q⟩
 keep:=λi h h' ⟨ok,ov,st⟩ k=>⟨ok,ov,k it (by simp) _ st⟩
 item:=by
  intro X hP hw hK hc i pins s σ H E I hf st hg;subst hP hw hK;obtain⟨ok,ov,st⟩:=st;obtain⟨kvs,e,hi⟩:=hg;obtain⟨g,z,y,xs,r,o,es',ep',h1,h2,h3,h4,h5⟩:=(show ObjOk X.prog X.w H s.heap a (.frz od (.dT kvs)) from I.hok a _ e);rw[g]at h1
  cases h1
  rw[dat]at h3
  cases h3
  obtain⟨q,hq,q1,q2,q3⟩:=Paired.at' r (Ab hi);have he:es[i]?=some (entryOfKey (D5 (zay X.prog X.w)) q):=by rw[entry_at h4,hq];rfl
  have fi:=hf it (by simp);obtain⟨f0,f1,f2,f3,f4,f5⟩:=id fi;refine zi6 st g dat he λh1 eo tup kk=>⟨_,rfl,?_⟩
  refine wpAny_letOwnedTupleGo_items (s:={ s with heap:=h1 }) eo λh2 he2 sb=>?_
  have hiS:it<s.heap.objs.size:=Aq st;have fr:H s.heap.objs.size=none:=I.hok.fresh (Ai _)
  have I1:Inv X pins σ (upd H s.heap.objs.size (.tup [.ref q.2.1,kvs[i].2])) { s with heap:=s.heap.push { cls:=.type "tuple",data:=.seq #[.ref q.2.1,q.2.2] } } :=
   I.laid (t':=s.toks) (o:=.tup [.ref q.2.1,kvs[i].2]) (λb ob q=>Ag _ q) (Ai _) ⟨by show 2<=sizeLine;decide,_,.cons rfl (.cons q3 .nil),IsTup.new _ _⟩
  have fi1:FpOk X pins (upd H s.heap.objs.size (.tup [.ref q.2.1,kvs[i].2])) it:=⟨by rw[zag (AK hiS)];exact f0,fi.2⟩
  have I2:Inv X pins σ (upd H s.heap.objs.size (.tup [.ref q.2.1,kvs[i].2])) { s with heap:=h2 }:=I1.turned (t':=s.toks) (λb o hb e'=>by
   refine (sb.2 b hb).trans ?_
   show h1.get? b=some o;rcases Heap.get?_push_cases e' with⟨z,rfl⟩ |e'
   .rw[z];exact tup
   .exact kk b o hb e') fi1.1 f1 f3 f4 f5
  refine⟨.ref s.heap.objs.size,_,I2,rfl,λks hk=>?_,⟨_,_,he2⟩,λb hb=>?_⟩
  .rw[e]at hk
   cases hk
   exact⟨_,q.2.1,kvs[i].1,kvs[i].2,rfl,fr,Ab hi,q2,rfl⟩
  .have z':b=it:=by simpa using hb
   subst z';exact fi1.1
 done:=by
  intro X hP hw hK hc i pins s σ H E I hf st hg;subst hP hw hK;obtain⟨ok,ov,st⟩:=st;obtain⟨kvs,e,hi⟩:=hg;obtain⟨g,z,y,xs,r,o,es',ep',h1,h2,h3,h4,h5⟩:=(show ObjOk X.prog X.w H s.heap a (.frz od (.dT kvs)) from I.hok a _ e);rw[g]at h1
  cases h1
  rw[dat]at h3
  cases h3
  obtain⟨f0,f1,f2,f3,f4,f5⟩:=hf it (by simp);exact zkF (I.ok.hd hc) st g dat (by rw[EM h4,<- CB r];exact hi) λh' eb=>⟨rfl,I.turned (t':=s.toks) (λb o hb e=>eb b o hb e) f0 f1 f3 f4 f5⟩
 self:=λ_ _ _ _ _ ⟨_,_,st⟩ h=>W.kcp_self st h
section
variable {X:Cx}
noncomputable def zoj(td:TE):TI:=λσ H R=>td σ H λx H1=>∃a kvs,x=.ref a/\H1 a=some (.dT kvs)/\∀od,R (Itm a od) (upd H1 a (.frz od (.dT kvs)))
theorem zlE{o:Expr}{td:TE}{ts:List Expr}{x1:Nat}{pos apos cpos:Pos}(ho:PE X o td)
  (hbase:attributeBase o "items" X.env (eval o X.env)=eval o X.env:=by rfl) (hline:(apos.endLine == cpos.line)=true:=by rfl):PI X (.Tuple ts x1 pos) (.Call (.Attribute o "items" apos) [] [] cpos) (zoj td):=by
 intro pins s σ H R I h;refine wpAny_Call_method0_late hbase hline (thn (ho pins s σ H _ I h) λv s1 ⟨x,H1,I1,r1,a,kvs,ex,hd,q⟩=>?_);subst ex;obtain rfl:v=Au a:=r1;obtain⟨z,y,xs,r,od,es,ep,h1,h2,h3,h4,h5⟩:=(show ObjOk X.prog X.w H1 s1.heap a (.dT kvs) from I1.hok a _ hd);refine⟨"dict","dict.items",C0,PySem.F.slot_dict_items,PySem.F.type_dict_items,⟨od,h1,h2.1⟩,λb hb=>?_,CF rfl (PySem.evalArgs_none ?_)⟩
 .cases hb;exact⟨od,h1,h2.2.1⟩
 show Ak (An X.prog X.w) X.A (call (.builtin "dict.items") [.ref a]) _ _ s1;refine zi8 y h1 h2 ?_
 have g1:(s1.heap.push { cls:=.type "dict_items",data:=.fields #[.ref a] }).get? a=some od:=Ag _ h1
 have I2:Inv X pins σ (upd H1 a (.frz od (.dT kvs))) s1:=I1.write (h':=s1.heap) (t':=s1.toks) (x:=a) (e:=a) (by rw[hd];exact CD) (.inl rfl) (λb u _ g=>g) ⟨od,h1⟩
  ⟨h1,z,y,xs,KT.keeps r (λc ys ec=>by rw[zag (ne_of ec hd (λz=>nomatch z))];exact ec),od,es,ep,h1,h2,h3,h4,h5⟩
 have I3:Inv X pins σ (upd H1 a (.frz od (.dT kvs))) { s1 with heap:=s1.heap.push { cls:=.type "dict_items",data:=.fields #[.ref a] } }:=I2.kept (t':=s1.toks) λb o e=>Ag _ e
 refine zi7 (v:=s1.heap.objs.size) (d:=a) ⟨_,At _ rfl,rfl,rfl⟩ g1 h3 ?_
 refine⟨_,[_],_,_,_,rfl,I3.kept (t':=s1.toks) λb o e=>Ag _ e,ziO a _ od h3,⟨.none,.none,At _ rfl⟩,λb hb=>?_,q od⟩;have e:b=(s1.heap.push { cls:=.type "dict_items",data:=.fields #[.ref a] }).objs.size:=by simpa using hb
 subst e;exact I3.fpOk (Ai _) (I3.hok.fresh (Ai _))
end
end L2
namespace RP
noncomputable def av(w:Nat):Int:=if w=0∨w=1 then 1 else 0
noncomputable def bv(w:Nat):Int:=if w=1∨w=2 then 1 else 0
noncomputable def eU(e:Edge):Int:=px e+py e+av e.w
noncomputable def eV(e:Edge):Int:=py e-px e+bv e.w
noncomputable def tt(C:Cell->Bool)(e:Edge):Int:=match stepB C e with
 |none=>1
 |some s=>if s % 2=1 then -1 else 0
noncomputable def eK(w:Nat):Int:=(if w=1∨w=2 then 1 else 0)+(if w=2∨w=3 then 1 else 0)+av w
noncomputable def eL(w:Nat):Int:=(if w=2∨w=3 then 1 else 0)-(if w=1∨w=2 then 1 else 0)+bv w
theorem e_tab:∀w<4,∀v<4,(eK w-eK v+(eL w-eL v)) % 2≠0∨w=v∨(eK w-eK v-(eL w-eL v)=2*(mv ((2*w+6) % 8)).1/\eK w-eK v+(eL w-eL v)=2*(mv ((2*w+6) % 8)).2):=by decide
theorem eU_of(e:Edge):eU e=e.c.1+e.c.2+eK e.w:=by unfold eU px py eK;lia
theorem eV_of(e:Edge):eV e=e.c.2-e.c.1+eL e.w:=by unfold eV px py eL;lia
theorem e_inj{C:Cell->Bool}{e f:Edge}(he:IsE C e)(hf:IsE C f)(h1:eU e=eU f)(h2:eV e=eV f):e=f:=by
 rw[eU_of,eU_of]at h1;rw[eV_of,eV_of]at h2;have t:=e_tab e.w he.1 f.w hf.1;obtain⟨⟨x,y⟩,w⟩:=e;obtain⟨⟨x',y'⟩,w'⟩:=f;simp only at h1 h2 t;rcases t with z |z |⟨z1,z2⟩
 .exfalso;lia
 .subst z;have a:x=x':=by lia
  have b:y=y':=by lia
  rw[a,b]
 .have g:=he.2.2;have a:x'=x+(mv ((2*w+6) % 8)).1:=by lia
  have b:y'=y+(mv ((2*w+6) % 8)).2:=by lia
  have c:=hf.2.1;rw[a,b]at c;exact absurd (c.symm.trans g) (by decide)
theorem zcz{C:Cell->Bool}{e:Edge}(h:IsE C e):eU (nxt C e)=eU e+(av e.w+av (nxt C e).w-1)/\eV (nxt C e)=eV e+(bv e.w+bv (nxt C e).w-1):=by obtain⟨p,q⟩:=zgF h;unfold eU eV;rw[p,q];have hw:=h.1;generalize (nxt C e).w=w';rcases way4 hw with r |r |r |r <;> rw[r] <;> simp[av,bv,dx,dy] <;> lia
theorem zfq{C:Cell -> Bool}{e:Edge}(h:IsE C e) :
  (tt C e=-1/\(nxt C e).w=(e.w+3) % 4)∨(tt C e=0/\(nxt C e).w=e.w)∨(tt C e=1/\(nxt C e).w=(e.w+1) % 4):=by
 unfold tt;rcases zaP h with⟨_,s,q⟩ |⟨_,_,s,q⟩ |⟨_,_,s,q⟩ <;> rw[q,s] <;> simp only
 .left;rw[if_pos (odd7 _)];exact⟨by decide,trivial⟩
 .right;left;rw[if_neg (by lia)];exact⟨by decide,trivial⟩
 .right;right;exact⟨by decide,trivial⟩
theorem c_at{C:Cell->Bool}{a b c d:Int}{v:Bool}(h:C (a,b)=v)(h1:c=a)(h2:d=b):C (c,d)=v:=by subst h1 h2;exact h
theorem ze5{C:Cell -> Bool}{e:Edge}(h:IsE C e)(ht:tt C e=0) :
  C (px e+dx e.w-1,py e+dy e.w-1)=decide (e.w=1∨e.w=2)/\C (px e+dx e.w,py e+dy e.w-1)=decide (e.w=2∨e.w=3):=by
 obtain⟨⟨x,y⟩,w⟩:=e;obtain⟨hw,hc,hg⟩:=id h;rcases zaP h with⟨_,s,q⟩ |⟨k1,k2,s,q⟩ |⟨_,_,s,q⟩
 .exfalso;unfold tt at ht;rw[s]at ht;simp only at ht;rw[if_pos (odd7 _)]at ht;exact absurd ht (by decide)
 .simp only at hw hc k1 k2
  rcases way4 hw with rfl |rfl |rfl |rfl <;> simp only[gap,go,mv,px,py,dx,dy]at hg k1 k2 ⊢ <;> simp at hg k1 k2 hc ⊢ <;>
   refine⟨?_,?_⟩ <;> first |exact c_at hg (by lia) (by lia) |exact c_at hc (by lia) (by lia) |exact c_at k1 (by lia) (by lia) |exact c_at k2 (by lia) (by lia)
 .exfalso;unfold tt at ht;rw[s]at ht;exact absurd ht (by decide)
theorem zd8(w:Nat):av w=0∨av w=1:=by unfold av;split <;> simp
theorem ziJ(w:Nat):bv w=0∨bv w=1:=by unfold bv;split <;> simp
theorem zga:∀w<4,∀n,n=(w+3) % 4∨n=(w+1) % 4->(av w=av n/\bv w+bv n=1)∨(av w+av n=1/\bv w=bv n):=by intro w hw n hn;rcases hn with rfl |rfl <;> revert w <;> decide
theorem dx_av:∀w<4,dx w=av w-bv w/\dy w=av w+bv w-1:=by decide
theorem znb{C:Cell->Bool}{e f:Edge}(he:IsE C e)(hf:IsE C f)(h1:eU e+eU (nxt C e)=eU f+eU (nxt C f))(h2:eV e+eV (nxt C e)=eV f+eV (nxt C f)):e=f:=by
 obtain⟨a1,a2⟩:=zcz he;obtain⟨b1,b2⟩:=zcz hf
 have key:e=f∨(tt C e=0/\tt C f=0/\px e+dx e.w=px f+dx f.w/\py e+dy e.w=py f+dy f.w)∨(eU e=eU (nxt C f)/\eV e=eV (nxt C f)/\e.w≠(nxt C f).w):=by
  rw[a1,b1]at h1;rw[a2,b2]at h2
  have ta:(tt C e=0/\(nxt C e).w=e.w)∨(av e.w=av (nxt C e).w/\bv e.w+bv (nxt C e).w=1)∨(av e.w+av (nxt C e).w=1/\bv e.w=bv (nxt C e).w):=by
   rcases zfq he with⟨_,n⟩ |q |⟨_,n⟩
   .exact .inr (zga _ he.1 _ (.inl n))
   .exact .inl q
   .exact .inr (zga _ he.1 _ (.inr n))
  have tb:(tt C f=0/\(nxt C f).w=f.w)∨(av f.w=av (nxt C f).w/\bv f.w+bv (nxt C f).w=1)∨(av f.w+av (nxt C f).w=1/\bv f.w=bv (nxt C f).w):=by
   rcases zfq hf with⟨_,n⟩ |q |⟨_,n⟩
   .exact .inr (zga _ hf.1 _ (.inl n))
   .exact .inl q
   .exact .inr (zga _ hf.1 _ (.inr n))
  have fin:eU e=eU f->eV e=eV f->e=f:=λq1 q2=>e_inj he hf q1 q2
  have dif:∀{g:Nat->Int},g e.w≠g (nxt C f).w->e.w≠(nxt C f).w:=λ{g} q z=>q (by rw[z])
  rw[b1,b2];rcases ta with⟨t1,n1⟩ |⟨p1,p2⟩ |⟨p1,p2⟩ <;> rcases tb with⟨t2,n2⟩ |⟨q1,q2⟩ |⟨q1,q2⟩
  .rw[n1,n2]at h1 h2;have u1:eU e=px e+py e+av e.w:=rfl;have u2:eV e=py e-px e+bv e.w:=rfl;have v1:eU f=px f+py f+av f.w:=rfl;have v2:eV f=py f-px f+bv f.w:=rfl;obtain⟨d1,d2⟩:=dx_av _ he.1;obtain⟨d3,d4⟩:=dx_av _ hf.1;exact .inr (.inl ⟨t1,t2,by lia,by lia⟩)
  .rw[n1]at h1 h2;exfalso;lia
  .rw[n1]at h1 h2;exfalso;lia
  .rw[n2]at h1 h2;exfalso;lia
  .rcases Classical.em (av e.w=av f.w) with z |z
   .exact .inl (fin (by lia) (by lia))
   .have c1:=zd8 e.w;have c2:=zd8 f.w;exact .inr (.inr ⟨by lia,by lia,dif (g:=av) (by lia)⟩)
  .exfalso;lia
  .rw[n2]at h1 h2;exfalso;lia
  .exfalso;lia
  .rcases Classical.em (bv e.w=bv f.w) with z |z
   .exact .inl (fin (by lia) (by lia))
   .have c1:=ziJ e.w;have c2:=ziJ f.w;exact .inr (.inr ⟨by lia,by lia,dif (g:=bv) (by lia)⟩)
 rcases key with h |⟨t1,t2,q1,q2⟩ |⟨q1,q2,q3⟩
 .exact h
 .obtain⟨c1,c2⟩:=ze5 he t1;obtain⟨d1,d2⟩:=ze5 hf t2;rw[q1,q2]at c1 c2;rw[c1]at d1;rw[c2]at d2;have d1':=decide_eq_decide.mp d1;have d2':=decide_eq_decide.mp d2;have hw:=he.1;have hw':=hf.1;have ww:e.w=f.w:=by lia
  rw[ww]at q1 q2;refine e_inj he hf ?_ ?_ <;> simp only[eU,eV] <;> rw[ww] <;> lia
 .exact absurd (congrArg Edge.w (e_inj he (zdL hf) q1 q2)) q3
noncomputable def cr(x1 y1 x2 y2:Int):Int:=if y1=-1/\y2=0/\0<x2 then 1 else if y1=0/\y2=-1/\0<x1 then -1 else 0
noncomputable def crT(t y1 y2:Int):Int:=if y1=-1/\y2=0 then t else if y1=0/\y2=-1 then -t else 0
theorem zd7(t y:Int):crT t y y=0:=by unfold crT;rw[if_neg (by lia),if_neg (by lia)]
theorem ziF(t y z:Int):crT t y z+crT t z y=0:=by
 unfold crT
 by_cases h:y=-1/\z=0
 .rw[if_pos h,if_neg (by lia),if_pos ⟨h.2,h.1⟩];lia
 .by_cases k:y=0/\z=-1
  .rw[if_neg h,if_pos k,if_pos ⟨k.2,k.1⟩];lia
  .rw[if_neg h,if_neg k,if_neg (by lia),if_neg (by lia)];rfl
theorem cr_T{t x1 y1 x2 y2:Int}(h1:y1=0->(0<x1/\t=1)∨(¬ 0<x1/\t=0))(h2:y2=0->(0<x2/\t=1)∨(¬ 0<x2/\t=0)):cr x1 y1 x2 y2=crT t y1 y2:=by
 unfold cr crT
 by_cases h:y1=-1/\y2=0
 .rcases h2 h.2 with⟨q,r⟩ |⟨q,r⟩
  .rw[if_pos ⟨h.1,h.2,q⟩,if_pos h,r]
  .rw[if_neg (by lia),if_neg (by lia),if_pos h,r]
 .rw[if_neg (λz=>h ⟨z.1,z.2.1⟩),if_neg h]
  by_cases k:y1=0/\y2=-1
  .rcases h1 k.1 with⟨q,r⟩ |⟨q,r⟩
   .rw[if_pos ⟨k.1,k.2,q⟩,if_pos k,r]
   .rw[if_neg (by lia),if_pos k,r];rfl
  .rw[if_neg (λz=>k ⟨z.1,z.2.1⟩),if_neg k]
theorem cr_sq(u v a1 a2 b1 b2:Int)(ha1 : -1 <= a1 /\ a1 <= 1)(ha2 : -1 <= a2 /\ a2 <= 1)(hb1 : -1 <= b1 /\ b1 <= 1)(hb2 : -1 <= b2 /\ b2 <= 1)
  (h00:¬(u=0/\v=0)) (h10:¬(u+a1=0/\v+a2=0)) (h01:¬(u+b1=0/\v+b2=0)) (h11:¬(u+a1+b1=0/\v+a2+b2=0))
  (hc:¬(2*u+a1+b1=0/\2*v+a2+b2=0)) :
  cr u v (u+a1) (v+a2)+cr (u+a1) (v+a2) (u+a1+b1) (v+a2+b2)=cr u v (u+b1) (v+b2)+cr (u+b1) (v+b2) (u+a1+b1) (v+a2+b2):=by
 obtain⟨t,k00,k10,k01,k11⟩:∃t:Int,(v=0->(0<u/\t=1)∨(¬ 0<u/\t=0))/\(v+a2=0->(0<u+a1/\t=1)∨(¬ 0<u+a1/\t=0))/\(v+b2=0->(0<u+b1/\t=1)∨(¬ 0<u+b1/\t=0))/\(v+a2+b2=0->(0<u+a1+b1/\t=1)∨(¬ 0<u+a1+b1/\t=0)):=by
  rcases Classical.em ((v=0/\0<u)∨(v+a2=0/\0<u+a1)∨(v+b2=0/\0<u+b1)∨(v+a2+b2=0/\0<u+a1+b1)) with z |z
  .exact⟨1,λh=>.inl ⟨by lia,rfl⟩,λh=>.inl ⟨by lia,rfl⟩,λh=>.inl ⟨by lia,rfl⟩,λh=>.inl ⟨by lia,rfl⟩⟩
  .exact⟨0,λh=>.inr ⟨by lia,rfl⟩,λh=>.inr ⟨by lia,rfl⟩,λh=>.inr ⟨by lia,rfl⟩,λh=>.inr ⟨by lia,rfl⟩⟩
 rw[cr_T k00 k10,cr_T k10 k11,cr_T k00 k01,cr_T k01 k11];have c:a2=b2∨a2=0∨b2=0∨a2=-b2:=by lia
 rcases c with rfl |rfl |rfl |rfl
 .rfl
 .rw[Int.add_zero,zd7,zd7];lia
 .rw[Int.add_zero,Int.add_zero,zd7,zd7];lia
 .rw[show v+-b2+b2=v by lia,ziF,ziF]
section
variable (U V:Nat->Int)
noncomputable def hH(i j:Nat):Int:=cr (U j-U i) (V j-V i) (U (j+1)-U i) (V (j+1)-V i)
noncomputable def gG(i j:Nat):Int:=cr (U j-U i) (V j-V i) (U j-U (i+1)) (V j-V (i+1))
noncomputable def sE:Nat->Int
 | 0=>0
 |i+1=>sE i+hH U V i (i+1)+gG U V i (i+2)
noncomputable def sF(i:Nat):Nat->Int
 | 0=>sE U V i
 |d+1=>sF i d+hH U V i (i+1+d)
variable {U V}
variable {n:Nat}
theorem zhx(su:∀k, -1 <= U (k + 1)-U k /\ U (k + 1)-U k <= 1)(sv:∀k, -1 <= V (k + 1)-V k /\ V (k + 1)-V k <= 1)
  (hd:∀i j,i<j->j<=n->¬(i=0/\j=n)->¬(U j-U i=0/\V j-V i=0))
  (hm:∀i j,i<j->j<n->¬(U i+U (i+1)=U j+U (j+1)/\V i+V (i+1)=V j+V (j+1))) :
  ∀d i,i+2+d<=n->¬(i=0/\i+2+d=n)->sF U V (i+1) d-sF U V i (d+1)=gG U V i (i+2+d)
 | 0,i,h,hx=>by
  show sE U V (i+1)-(sE U V i+hH U V i (i+1+0))=_;show sE U V i+hH U V i (i+1)+gG U V i (i+2)-(sE U V i+hH U V i (i+1))=gG U V i (i+2);lia
 |d+1,i,h,hx=>by
  have ih:=zhx su sv hd hm d i (by lia) (by lia);show sF U V (i+1) d+hH U V (i+1) (i+1+1+d)-(sF U V i (d+1)+hH U V i (i+1+(d+1)))=gG U V i (i+2+(d+1));have j1:i+1+1+d=i+2+d:=by lia
  have j2:i+1+(d+1)=i+2+d:=by lia
  have j3:i+2+(d+1)=(i+2+d)+1:=by lia
  rw[j1,j2,j3];generalize hj:i+2+d=j at *
  have q:=cr_sq (U j-U i) (V j-V i) (-(U (i+1)-U i)) (-(V (i+1)-V i)) (U (j+1)-U j) (V (j+1)-V j)
   (by have:=su i;lia) (by have:=sv i;lia) (su j) (sv j)
   (hd i j (by lia) (by lia) (by lia))
   (by have:=hd (i+1) j (by lia) (by lia) (by lia);lia)
   (by have:=hd i (j+1) (by lia) (by lia) (by lia);lia)
   (by have:=hd (i+1) (j+1) (by lia) (by lia) (by lia);lia)
   (by have:=hm i j (by lia) (by lia);lia)
  have e1:U j-U i+-(U (i+1)-U i)=U j-U (i+1):=by lia
  have e2:V j-V i+-(V (i+1)-V i)=V j-V (i+1):=by lia
  have e3:U j-U i+(U (j+1)-U j)=U (j+1)-U i:=by lia
  have e4:V j-V i+(V (j+1)-V j)=V (j+1)-V i:=by lia
  have e5:U j-U (i+1)+(U (j+1)-U j)=U (j+1)-U (i+1):=by lia
  have e6:V j-V (i+1)+(V (j+1)-V j)=V (j+1)-V (i+1):=by lia
  rw[e1,e2,e3,e4,e5,e6]at q;have q':gG U V i j+hH U V (i+1) j=hH U V i j+gG U V i (j+1):=q;lia
theorem cr_up{a b c d:Int}(h1:0<=b)(h2:0<=d):cr a b c d=0:=by unfold cr;rw[if_neg (by lia),if_neg (by lia)]
theorem cr_dn{a b c d:Int}(h1:b=0->a<=0)(h2:d=0->c<=0):cr a b c d=0:=by unfold cr;rw[if_neg (by lia),if_neg (by lia)]
theorem znS(hn : 3 <= n)(su:∀k, -1 <= U (k + 1)-U k /\ U (k + 1)-U k <= 1)(sv:∀k, -1 <= V (k + 1)-V k /\ V (k + 1)-V k <= 1)
  (hd:∀i j,i<j->j<=n->¬(i=0/\j=n)->¬(U j-U i=0/\V j-V i=0))
  (hm:∀i j,i<j->j<n->¬(U i+U (i+1)=U j+U (j+1)/\V i+V (i+1)=V j+V (j+1)))
  (hU:U n=U 0) (hV:V n=V 0) (mV:∀k,k<n->V 0<=V k) (mU:∀k,k<n->V k=V 0->U 0<=U k) :
  sE U V (n-1)=gG U V 0 (n-1)+hH U V 1 (n-1):=by
 have r0:∀d,d+2<=n->sF U V 0 d=0:=by
  intro d
  induction d with
  |zero=>intro _;rfl
  |succ d ih =>
   intro h;show sF U V 0 d+hH U V 0 (0+1+d)=0;rw[ih (by lia)];have:=mV (0+1+d) (by lia);have:=mV (0+1+d+1) (by lia);unfold hH;rw[cr_up (by lia) (by lia)];rfl
 have s1:=zhx su sv hd hm (n-3) 0 (by lia) (by lia);rw[show n-3+1=n-2 by lia,r0 (n-2) (by lia),show 0+2+(n-3)=n-1 by lia]at s1
 have s2:sF U V 1 (n-2)=sF U V 1 (n-3)+hH U V 1 (n-1):=by have:sF U V 1 (n-3+1)=sF U V 1 (n-3)+hH U V 1 (1+1+(n-3)):=rfl;rw[show n-3+1=n-2 by lia,show 1+1+(n-3)=n-1 by lia]at this;exact this
 have r1:∀k,1+k<=n-1->sF U V (1+k) (n-2-k)=sF U V 1 (n-2):=by
  intro k
  induction k with
  |zero=>intro _;rfl
  |succ k ih =>
   intro h;have s:=zhx su sv hd hm (n-3-k) (1+k) (by lia) (by lia);rw[show n-3-k+1=n-2-k by lia,show 1+k+2+(n-3-k)=n by lia,ih (by lia)]at s
   have z:gG U V (1+k) n=0:=by unfold gG;have a1:=mV (1+k) (by lia);have a2:=mU (1+k) (by lia);have b1:=mV (1+k+1) (by lia);have b2:=mU (1+k+1) (by lia);exact cr_dn (by lia) (by lia)
   rw[z]at s;rw[show 1+(k+1)=1+k+1 by lia,show n-2-(k+1)=n-3-k by lia];lia
 have e:=r1 (n-2) (by lia);rw[show 1+(n-2)=n-1 by lia,show n-2-(n-2)=0 by lia]at e;show sF U V (n-1) 0=_;rw[e];have:(0:Nat)+1=1:=rfl;rw[this]at s1;lia
end
noncomputable def crs(x1 y1 x2 y2:Int):Int:=cr x1 y1 (x1+x2) (y1+y2)+cr (x1+x2) (y1+y2) x2 y2
noncomputable def ok8(w i j:Nat):Bool :=
 let w1:=(w+i+3) % 4
 let w2:=(w1+j+3) % 4
 let t:Int:=(i:Int)-1
 let t':Int:=(j:Int)-1
 crs (av w+av w1-1) (bv w+bv w1-1) (av w1+av w2-1) (bv w1+bv w2-1) == (2*((w:Int)+t)-1+t') / 8-(2*(w:Int)-1+t) / 8 &&
 crs (-(av w+av w1-1)) (-(bv w+bv w1-1)) (-(av w1+av w2-1)) (-(bv w1+bv w2-1)) == (2*((w:Int)+t)-1+t'+4) / 8-(2*(w:Int)-1+t+4) / 8
theorem all8:∀w<4,∀i<3,∀j<3,ok8 w i j=true:=by decide
noncomputable def it(C:Cell->Bool)(b:Edge):Nat->Edge
 | 0=>b
 |k+1=>nxt C (it C b k)
theorem Chain.get{C:Cell->Bool}{b:Edge}{es:List Edge}(h:Chain C b es):∀i,i<es.length->es[i]?=some (it C b i)
 | 0,_=>h.1
 |i+1,hi=>by
  have h1:=Chain.get h i (by lia);have:=h.2.1 i _ _ h1 (Ab hi);rw[Ab hi,this];rfl
theorem Closed.pos{C:Cell->Bool}{b:Edge}{es:List Edge}(h:Closed C b es):0<es.length:=(Ad.mp h.1.1).1
theorem Closed.it_len{C:Cell->Bool}{b:Edge}{es:List Edge}(h:Closed C b es):it C b es.length=b:=by
 obtain⟨hc,l,hl,hb⟩:=id h;have hp:=h.pos;have:=hc.get (es.length-1) (by lia);rw[hl]at this
 cases this
 have e:it C b (es.length-1+1)=nxt C (it C b (es.length-1)):=rfl;rw[show es.length-1+1=es.length by lia]at e;rw[e,hb]
theorem it_ok{C:Cell->Bool}{b:Edge}(h:IsE C b):∀k,IsE C (it C b k)
 | 0=>h
 |k+1=>zdL (it_ok h k)
noncomputable def wW(C:Cell->Bool)(b:Edge):Nat->Int
 | 0=>b.w
 |k+1=>wW C b k+tt C (it C b k)
theorem tt_ix{C:Cell->Bool}{e:Edge}(h:IsE C e):∃i:Nat,i<3/\tt C e=(i:Int)-1/\(nxt C e).w=(e.w+i+3) % 4:=by
 have hw:=h.1;rcases zfq h with⟨a,b⟩ |⟨a,b⟩ |⟨a,b⟩
 .exact⟨0,by decide,by rw[a];rfl,by rw[b]⟩
 .exact⟨1,by decide,by rw[a];rfl,by rw[b];lia⟩
 .exact⟨2,by decide,by rw[a];rfl,by rw[b];lia⟩
theorem zgj{C:Cell->Bool}{b:Edge}(h:IsE C b):∀k,wW C b k % 4=((it C b k).w:Int)
 | 0=>by have:=h.1;show (b.w:Int) % 4=b.w;lia
 |k+1=>by
  have ih:=zgj h k;obtain⟨i,hi,e1,e2⟩:=tt_ix (it_ok h k);show (wW C b k+tt C (it C b k)) % 4=((nxt C (it C b k)).w:Int);rw[e1,e2];lia
noncomputable def th(C:Cell->Bool)(b:Edge)(k:Nat):Int:=2*wW C b k-1+tt C (it C b k)
noncomputable def up8(w i:Nat):Bool :=
 let w1:=(w+i+3) % 4
 decide (0<bv w+bv w1-1∨(bv w+bv w1-1=0/\0<=av w+av w1-1)) == decide ((2*(w:Int)-1+((i:Int)-1)) % 8<4) &&
 decide (bv w+bv w1-1<0∨(bv w+bv w1-1=0/\av w+av w1-1<=0)) == decide (4<=(2*(w:Int)-1+((i:Int)-1)) % 8) &&
 !(decide (av w+av w1-1=0/\bv w+bv w1-1=0))
theorem zot:∀w<4,∀i<3,up8 w i=true:=by decide
theorem half{C:Cell -> Bool}{b:Edge}(h:IsE C b)(k:Nat) :
  ((0<eV (it C b (k+1))-eV (it C b k)∨(eV (it C b (k+1))-eV (it C b k)=0/\0<=eU (it C b (k+1))-eU (it C b k))) ↔ th C b k % 8<4) /\
  ((eV (it C b (k+1))-eV (it C b k)<0∨(eV (it C b (k+1))-eV (it C b k)=0/\eU (it C b (k+1))-eU (it C b k)<=0)) ↔ 4<=th C b k % 8) /\
  ¬ (eU (it C b (k+1))-eU (it C b k)=0/\eV (it C b (k+1))-eV (it C b k)=0):=by
 obtain⟨i,hi,e1,e2⟩:=tt_ix (it_ok h k);obtain⟨s1,s2⟩:=zcz (it_ok h k);have q:=zot _ (it_ok h k).1 i hi;have m:=zgj h k;simp only[up8,B6,beq_iff_eq,decide_eq_decide,Bool.not_eq_true',decide_eq_false_iff_not]at q;rw[<- e2]at q;obtain⟨⟨q1,q2⟩,q3⟩:=q;have t:th C b k % 8=(2*((it C b k).w:Int)-1+((i:Int)-1)) % 8:=by unfold th;rw[e1];lia
 rw[t];have d1:eU (it C b (k+1))-eU (it C b k)=av (it C b k).w+av (nxt C (it C b k)).w-1:=by show eU (nxt C (it C b k))-_=_;lia
 have d2:eV (it C b (k+1))-eV (it C b k)=bv (it C b k).w+bv (nxt C (it C b k)).w-1:=by show eV (nxt C (it C b k))-_=_;lia
 rw[d1,d2];exact⟨q1,q2,q3⟩
theorem sub0{a b:Int}(h:b-a=0):a=b:=by lia
theorem zh2{a b c:Int}(h:a=b+c):a-b=c:=by lia
theorem turn8{C:Cell -> Bool}{b:Edge}(h:IsE C b)(k:Nat) :
  crs (eU (it C b (k+1))-eU (it C b k)) (eV (it C b (k+1))-eV (it C b k)) (eU (it C b (k+2))-eU (it C b (k+1))) (eV (it C b (k+2))-eV (it C b (k+1)))=th C b (k+1) / 8-th C b k / 8 /\
  crs (-(eU (it C b (k+1))-eU (it C b k))) (-(eV (it C b (k+1))-eV (it C b k))) (-(eU (it C b (k+2))-eU (it C b (k+1)))) (-(eV (it C b (k+2))-eV (it C b (k+1))))=(th C b (k+1)+4) / 8-(th C b k+4) / 8:=by
 obtain⟨i,hi,e1,e2⟩:=tt_ix (it_ok h k);obtain⟨j,hj,f1,f2⟩:=tt_ix (it_ok h (k+1));obtain⟨s1,s2⟩:=zcz (it_ok h k);obtain⟨s3,s4⟩:=zcz (it_ok h (k+1));have m:=zgj h k;have q:=all8 _ (it_ok h k).1 i hi j hj;simp only[ok8,B6,beq_iff_eq]at q;have w1:(it C b (k+1)).w=((it C b k).w+i+3) % 4:=e2;rw[<- w1,<- f2]at q;have wn:wW C b (k+1)=wW C b k+((i:Int)-1):=by show wW C b k+tt C (it C b k)=_;rw[e1]
 have t0:th C b k=2*wW C b k-1+((i:Int)-1):=by unfold th;rw[e1]
 have t1:th C b (k+1)=2*(wW C b k+((i:Int)-1))-1+((j:Int)-1):=by unfold th;rw[f1,wn]
 have d1:eU (it C b (k+1))-eU (it C b k)=av (it C b k).w+av (it C b (k+1)).w-1:=zh2 s1;have d2:eV (it C b (k+1))-eV (it C b k)=bv (it C b k).w+bv (it C b (k+1)).w-1:=zh2 s2;have d3:eU (it C b (k+2))-eU (it C b (k+1))=av (it C b (k+1)).w+av (nxt C (it C b (k+1))).w-1:=zh2 s3;have d4:eV (it C b (k+2))-eV (it C b (k+1))=bv (it C b (k+1)).w+bv (nxt C (it C b (k+1))).w-1:=zh2 s4;rw[d1,d2,d3,d4,t0,t1,q.1,q.2];clear q d1 d2 d3 d4 s1 s2 s3 s4 t0 t1 wn w1 f1 f2 e1 e2;generalize wW C b k=W at *;generalize (it C b k).w=w at *;constructor <;> lia
theorem zn9:∀w<4,∀i<3,¬ (av w+av ((w+i+3) % 4)=1/\bv w+bv ((w+i+3) % 4)=1):=by decide
theorem zlu{T0 Tm Tn D s:Int}(key:Tm / 8-T0 / 8=(Tn+4) / 8-(Tm+4) / 8)(u0:T0 % 8<4)(um:4<=Tm % 8)(hD:D % 4=0)(hn:Tn=T0+2*D)(hm:Tm=Tn-s)(s1:-2<=s)(s2:s<=2):(D=4/\0<s)∨(D=-4/\s<0):=by
 obtain⟨d,rfl⟩:∃d,D=4*d:=⟨D / 4,by lia⟩;have h1:(Tn+4) / 8=T0 / 8+d:=by lia
 have h2:(Tm+4) / 8=Tm / 8+1:=by lia
 rw[h1,h2]at key;have a1:T0=8*(T0 / 8)+T0 % 8:=by lia
 have a2:Tm=8*(Tm / 8)+Tm % 8:=by lia
 have a3:0<=T0 % 8:=by lia
 have a4:Tm % 8<8:=by lia
 generalize T0 / 8=a at *;generalize Tm / 8=c at *;generalize T0 % 8=r at *;generalize Tm % 8=p at *;clear h1 h2 hD;have:c-a-d=-1∨c-a-d=0:=by lia
 rcases this with z |z
 .exact .inl ⟨by lia,by lia⟩
 .exact .inr ⟨by lia,by lia⟩
theorem Closed.least_sign{C:Cell -> Bool}{b:Edge}{es:List Edge}(h:Closed C b es)
  (hmin:∀f∈es,eV b<=eV f/\(eV f=eV b->eU b<=eU f)):(wW C b es.length-wW C b 0=4/\0<tt C (it C b (es.length-1))+tt C b)∨(wW C b es.length-wW C b 0=-4/\tt C (it C b (es.length-1))+tt C b<0):=by
 have hp:=h.pos;have hE:IsE C b:=h.1.2.2.1 b (Aj h.1.1);have hl:=h.it_len;have get:=h.1.get;have nd:=h.1.2.2.2;generalize hn:es.length=n at *;have mem:∀k,k<n->it C b k∈es:=λk hk=>Aj (get k hk)
 have inj:∀i j,i<j->j<n->it C b i≠it C b j:=λi j hij hj e=>by have:=(C3 (i:=i) (j:=j) (by lia) nd).mp (by rw[get i (by lia),get j hj,e]);lia
 have n3:3<=n:=by
  have h0:=half hE 0;have h1:=half hE 1;have l1:=zgj hE 1;rcases A6 n 3 with hlt |hge
  .exfalso;have:n=1∨n=2:=by lia
   rcases this with e |e
   .rw[e]at hl;have z:=h0.2.2;rw[show 0+1=1 from rfl,hl]at z;exact z ⟨by show eU b-eU b=0;lia,by show eV b-eV b=0;lia⟩
   .rw[e]at hl;have a:=(tt_ix (it_ok hE 0));have c:=(tt_ix (it_ok hE 1));obtain⟨s1,s2⟩:=zcz (it_ok hE 0);obtain⟨s3,s4⟩:=zcz (it_ok hE 1);change it C b (1+1)=b at hl;have hl':nxt C (it C b 1)=b:=hl;rw[hl']at s3 s4;have i0:it C b 0=b:=rfl;have i1:nxt C (it C b 0)=it C b 1:=rfl;obtain⟨i,hi,_,e2⟩:=a;rw[i1,i0]at s1 s2 e2;have hw:=hE.1;have hw1:=(it_ok hE 1).1;have x1:av b.w+av (it C b 1).w=1:=by lia
    have x2:bv b.w+bv (it C b 1).w=1:=by lia
    rw[e2]at x1 x2;exact zn9 _ hw _ hi ⟨x1,x2⟩
  .exact hge
 have key:=znS (U:=λk=>eU (it C b k)) (V:=λk=>eV (it C b k)) n3
  (λk=>by obtain⟨s1,_⟩:=zcz (it_ok hE k);show -1<=eU (nxt C (it C b k))-eU (it C b k)/\eU (nxt C (it C b k))-eU (it C b k)<=1;have a:=zd8 (it C b k).w;have c:=zd8 (nxt C (it C b k)).w;lia)
  (λk=>by
   obtain⟨_,s1⟩:=zcz (it_ok hE k);show -1<=eV (nxt C (it C b k))-eV (it C b k)/\eV (nxt C (it C b k))-eV (it C b k)<=1;have a:bv (it C b k).w=0∨bv (it C b k).w=1:=by unfold bv;split <;> simp
   have c:bv (nxt C (it C b k)).w=0∨bv (nxt C (it C b k)).w=1:=by unfold bv;split <;> simp
   lia)
  (λi j hij hj hx z=>by
   have e:=e_inj (it_ok hE i) (it_ok hE j) (sub0 z.1) (sub0 z.2);rcases A6 j n with hlt |hge
   .exact inj i j hij hlt e
   .have:j=n:=by lia
    rw[this,hl]at e;exact inj 0 i (by lia) (by lia) e.symm)
  (λi j hij hj z=>inj i j hij hj (znb (it_ok hE i) (it_ok hE j) z.1 z.2))
  (by show eU (it C b n)=eU b;rw[hl]) (by show eV (it C b n)=eV b;rw[hl])
  (λk hk=>(hmin _ (mem k hk)).1) (λk hk=>(hmin _ (mem k hk)).2)
 have sE_th:∀k,sE (λk=>eU (it C b k)) (λk=>eV (it C b k)) k=th C b k / 8-th C b 0 / 8:=by
  intro k
  induction k with
  |zero=>show (0:Int)=_;lia
  |succ k ih =>
   have q:=(turn8 hE k).1;unfold crs at q;have e1:eU (it C b (k+1))-eU (it C b k)+(eU (it C b (k+2))-eU (it C b (k+1)))=eU (it C b (k+2))-eU (it C b k):=by lia
   have e2:eV (it C b (k+1))-eV (it C b k)+(eV (it C b (k+2))-eV (it C b (k+1)))=eV (it C b (k+2))-eV (it C b k):=by lia
   rw[e1,e2]at q;show sE (λk=>eU (it C b k)) (λk=>eV (it C b k)) k+hH (λk=>eU (it C b k)) (λk=>eV (it C b k)) k (k+1)+gG (λk=>eU (it C b k)) (λk=>eV (it C b k)) k (k+2)=_;rw[ih];unfold hH gG;show th C b k / 8-th C b 0 / 8+cr (eU (it C b (k+1))-eU (it C b k)) (eV (it C b (k+1))-eV (it C b k)) (eU (it C b (k+2))-eU (it C b k)) (eV (it C b (k+2))-eV (it C b k))+cr (eU (it C b (k+2))-eU (it C b k)) (eV (it C b (k+2))-eV (it C b k)) (eU (it C b (k+2))-eU (it C b (k+1))) (eV (it C b (k+2))-eV (it C b (k+1)))=_;lia
 obtain⟨m,rfl⟩:∃m,n=m+1:=⟨n-1,by lia⟩;rw[show m+1-1=m by lia,sE_th]at key;have i2:it C b (m+2)=it C b 1:=by show nxt C (it C b (m+1))=nxt C b;rw[hl]
 have q:=(turn8 hE m).2;rw[i2,hl]at q;unfold crs at q;unfold gG hH at key;simp only at key;rw[hl]at key;have z0:it C b 0=b:=rfl;rw[show 0+1=1 from rfl,z0]at key;have e1:-(eU b-eU (it C b m))+-(eU (it C b 1)-eU b)=eU (it C b m)-eU (it C b 1):=by lia
 have e2:-(eV b-eV (it C b m))+-(eV (it C b 1)-eV b)=eV (it C b m)-eV (it C b 1):=by lia
 have e3:-(eU b-eU (it C b m))=eU (it C b m)-eU b:=by lia
 have e4:-(eV b-eV (it C b m))=eV (it C b m)-eV b:=by lia
 have e5:-(eU (it C b 1)-eU b)=eU b-eU (it C b 1):=by lia
 have e6:-(eV (it C b 1)-eV b)=eV b-eV (it C b 1):=by lia
 rw[e1,e2,e3,e4,e5,e6]at q;rw[q]at key
 have u0:th C b 0 % 8<4:=by
  refine (half hE 0).1.mp ?_
  obtain⟨a,c⟩:=hmin _ (mem 1 (by lia));rw[z0];show 0<eV (it C b 1)-eV b∨(eV (it C b 1)-eV b=0/\0<=eU (it C b 1)-eU b);lia
 have um:4<=th C b m % 8:=by
  refine (half hE m).2.1.mp ?_
  obtain⟨a,c⟩:=hmin _ (mem m (by lia));rw[hl];lia
 have md:=zgj hE (m+1);rw[hl]at md;have w0:wW C b 0=(b.w:Int):=rfl;have wn:wW C b (m+1)=wW C b m+tt C (it C b m):=rfl;have t0:th C b 0=2*wW C b 0-1+tt C b:=rfl;have tm:th C b m=2*wW C b m-1+tt C (it C b m):=rfl;have tn:th C b (m+1)=2*wW C b (m+1)-1+tt C b:=by unfold th;rw[hl]
 obtain⟨i,hi,r1,_⟩:=tt_ix hE;obtain⟨j,hj,r2,_⟩:=tt_ix (it_ok hE m);rw[show m+1-1=m from rfl];exact zlu key u0 um (by lia) (by lia) (by lia) (by lia) (by lia)
theorem Closed.least_turn{C:Cell -> Bool}{b:Edge}{es:List Edge}(h:Closed C b es)
  (hmin:∀f∈es,eV b<=eV f/\(eV f=eV b->eU b<=eU f)):wW C b es.length-wW C b 0=4∨wW C b es.length-wW C b 0=-4 :=
 (h.least_sign hmin).imp And.left And.left
theorem Closed.head{C:Cell->Bool}{b a:Edge}{r:List Edge}(h:Closed C b (a::r)):a=b:=by have:=h.1.1;simpa using this
theorem Closed.rot1{C:Cell->Bool}{b c:Edge}{r:List Edge}(h:Closed C b (b::r))(hc:(r++[b])[0]?=some c):Closed C c (r++[b]):=by
 obtain⟨⟨h0,hs,hE,hn⟩,l,hl,hb⟩:=id h;refine⟨⟨hc,λi e f h1 h2=>?_,λe he=>hE e (by rcases AC.mp he with m |m;exact As _ m;rw[Am.mp m];exact Ap),?_⟩,?_⟩
 .have hi:=(Ad.mp h2).1;simp only[Av,AZ,Cu]at hi;rw[AH (by lia)]at h1;rcases A6 (i+1) r.length with q |q
  .rw[AH q]at h2;exact hs (i+1) e f (by simpa using h1) (by simpa using h2)
  .have e1:i+1=r.length:=by lia
   rw[AW (by lia),e1]at h2;simp at h2;have e2:(b::r).length-1=i+1:=by simp;lia
   rw[e2]at hl;simp only[DR]at hl;rw[hl]at h1
   cases h1
   rw[hb,h2]
 .rw[DD];have:=Bs.mp hn;exact⟨this.2,by simp,λx hx y hy e=>by rw[Am.mp hy]at e;rw[e]at hx;exact this.1 hx⟩
 .refine⟨b,by simp,?_⟩
  cases r with
  |nil =>
   simp at hl hc;subst hc;subst hl;exact hb
  |cons a r =>
   simp at hc;have:=hs 0 b a rfl rfl;rw[<- this,hc]
theorem Closed.rot{C:Cell->Bool}:∀(j:Nat){b e:Edge}{es:List Edge},Closed C b es->es[j]?=some e->Closed C e (es.drop j++es.take j)
 | 0,b,e,es,h,he=>by
  have:=h.1.1;rw[he]at this
  cases this
  simpa using h
 |j+1,b,e,[],h,he=>by simp at he
 |j+1,b,e,a::r,h,he=>by
  have:=h.head;subst this;simp only[DR]at he;have hj:=(Ad.mp he).1;obtain⟨c,hc⟩:∃c,(r++[a])[0]?=some c:=⟨_,Ab (by simp)⟩;have h1:=h.rot1 hc;have h2:=Closed.rot j h1 (by rw[AH hj];exact he);rw[List.drop_append_of_le_length (by lia),List.take_append_of_le_length (by lia)]at h2;simpa using h2
theorem zjA{C:Cell->Bool}{b:Edge}{es:List Edge}(h:Chain C b es):∀i,i<=es.length->((es.take i).map (tt C)).sum=wW C b i-wW C b 0
 | 0,_=>by simp
 |i+1,hi=>by
  have ih:=zjA h i (by lia);rw[DP,h.get i (by lia)];simp only[Option.toList_some,Ay,AO,DV,CJ,BH,List.sum_nil];rw[ih];show _=wW C b i+tt C (it C b i)-wW C b 0;lia
theorem zc0:∀(es:List Edge),es≠[]->∃b∈es,∀f∈es,eV b<=eV f/\(eV f=eV b->eU b<=eU f)
 |[],h=>absurd rfl h
 |[a],_=>⟨a,by simp,λf hf=>by rw[Am.mp hf];exact⟨Int.le_refl _,λ_=>Int.le_refl _⟩⟩
 |a::c::r,_=>by
  obtain⟨b,hb,q⟩:=zc0 (c::r) (by simp)
  by_cases hl:eV b<eV a∨(eV b=eV a/\eU b<=eU a)
  .refine⟨b,As _ hb,λf hf=>?_⟩;rcases Ax.mp hf with rfl |hf
   .lia
   .exact q f hf
  .refine⟨a,Ap,λf hf=>?_⟩;rcases Ax.mp hf with rfl |hf
   .lia
   .have:=q f hf;lia
theorem zhm(l:List Int)(j:Nat):(l.drop j++l.take j).sum=l.sum:=by
 have:=Do j l;rw[CJ]
 conv=>rhs;rw[<- this,CJ]
 lia
theorem Closed.turning{C:Cell->Bool}{b:Edge}{es:List Edge}(h:Closed C b es):(es.map (tt C)).sum=4∨(es.map (tt C)).sum=-4:=by
 have hp:=h.pos;obtain⟨e,he,q⟩:=zc0 es (by intro z;rw[z]at hp;simp at hp);obtain⟨j,hj,ej⟩:=AD he;have h1:=h.rot j (by rw[Ab hj,ej])
 have h2:=h1.least_turn (λf hf=>q f (by
  rcases AC.mp hf with m |m
  .exact BG m
  .exact Bq m))
 rw[<- zjA h1.1 _ (Ai _),AI,Ay,D8,D9,zhm]at h2;exact h2
theorem zfp(C:Cell->Bool):∀es:List Edge,(es.map (tt C)).sum=((es.filter λe=>(stepB C e).isNone).length:Int)-((es.filter λe=>slant (stepB C e)).length:Int)
 |[]=>rfl
 |e::r=>by
  have ih:=zfp C r
  have q:tt C e=(if (stepB C e).isNone=true then 1 else 0)-(if slant (stepB C e)=true then 1 else 0):=by
   unfold tt
   cases hs:stepB C e with
   |none=>rfl
   |some s =>
    by_cases h:s % 2=1
    .simp[slant,h]
    .have h0:s % 2=0:=by lia
     simp[slant,h0]
  simp only[AO,BH,List.filter_cons];rw[q,ih];split <;> split <;> (try simp only[AZ]) <;> lia
set_option synthInstance.maxSize 4000 in
set_option synthInstance.maxHeartbeats 400000 in
theorem zkw:∀y < 4, ∀i < 3, ∀j < 3, 0 <= bv ((y + j + 3) % 4) + bv (((y + j + 3) % 4 + i + 3) % 4)-1 -> (bv ((y + j + 3) % 4) + bv (((y + j + 3) % 4 + i + 3) % 4)-1=0 -> 0 <= av ((y + j + 3) % 4) + av (((y + j + 3) % 4 + i + 3) % 4)-1) ->
  bv y+bv ((y+j+3) % 4)-1<=0->(bv y+bv ((y+j+3) % 4)-1=0->av y+av ((y+j+3) % 4)-1<=0)->(2<i+j->(y+j+3) % 4=0)/\(i+j<2->(y+j+3) % 4=2):=by decide
theorem Closed.least_way{C:Cell -> Bool}{b:Edge}{es:List Edge}(h:Closed C b es)
  (hmin:∀f∈es,eV b<=eV f/\(eV f=eV b->eU b<=eU f)):(b.w=0/\(es.map (tt C)).sum=4)∨(b.w=2/\(es.map (tt C)).sum=-4):=by
 have hp:=h.pos;have hE:IsE C b:=h.1.2.2.1 b (Aj h.1.1);have hl:=h.it_len;have get:=h.1.get;have sg:=h.least_sign hmin;have ts:=zjA h.1 es.length (Ai _);rw[AI]at ts;rw[<- ts]at sg;obtain⟨m,hm⟩:∃m,es.length=m+1:=⟨es.length-1,by lia⟩;rw[hm,show m+1-1=m from rfl]at sg;rw[hm]at hl;have hE':IsE C (it C b m):=it_ok hE m;have mm:it C b m∈es:=Aj (get m (by lia));have nb:nxt C (it C b m)=b:=hl
 have hn:nxt C b∈es:=by
  rcases A6 1 es.length with z |z
  .exact Aj (get 1 z)
  .have:m=0:=by lia
   subst this;have:nxt C b=b:=nb;rw[this];exact Aj h.1.1
 obtain⟨s1,s2⟩:=zcz hE;obtain⟨s3,s4⟩:=zcz hE';rw[nb]at s3 s4;obtain⟨i,hi,r1,r1'⟩:=tt_ix hE;obtain⟨j,hj,r2,r2'⟩:=tt_ix hE';rw[nb]at r2';have m1:=hmin _ hn;have m2:=hmin _ mm;have w0:=hE.1;have w1:=hE'.1;have w2:=(zdL hE).1;generalize (nxt C b).w=x at *;generalize (it C b m).w=y at *;generalize tt C (it C b m)=ta at *;generalize tt C b=tb at *;generalize b.w=z at *;subst r1';subst r2';obtain⟨t1,t2⟩:=zkw y w1 i hi j hj (by lia) (λq=>by have:=m1.2 (by lia);lia) (by lia) (λq=>by have:=m2.2 (by lia);lia);rcases sg with⟨g1,g2⟩ |⟨g1,g2⟩
 .exact .inl ⟨t1 (by lia),g1⟩
 .exact .inr ⟨t2 (by lia),g1⟩
theorem Closed.tele{C:Cell->Bool}{b:Edge}{es:List Edge}(h:Closed C b es){G g:Edge->Int}(hg:∀f∈es,G (nxt C f)=G f+g f):(es.map g).sum=0:=by
 have k:∀i,i<=es.length->((es.take i).map g).sum=G (it C b i)-G b:=by
  intro i
  induction i with
  |zero=>intro _;simp[it]
  |succ i ih =>
   intro hi;have h1:=h.1.get i (by lia);rw[DP,h1];simp only[Option.toList_some,Ay,AO,DV,CJ,BH,List.sum_nil];rw[ih (by lia)];have:=hg _ (Aj h1);have e:it C b (i+1)=nxt C (it C b i):=rfl;rw[e,this];lia
 have:=k es.length (Ai _);rw[AI,h.it_len]at this;lia
theorem sums4{l:List Edge}{f g u v:Edge->Int}(h:∀e∈l,f e-g e=u e-v e):(l.map f).sum-(l.map g).sum=(l.map u).sum-(l.map v).sum:=by
 induction l with
 |nil=>simp
 |cons a r ih =>
  have h1:=h a Ap;have h2:=ih λe he=>h e (As _ he)
  simp only[AO,BH];lia
noncomputable def ind(es:List Edge)(a:Edge):Int:=if a∈es then 1 else 0
noncomputable def at1(a e:Edge):Int:=if e=a then 1 else 0
theorem zea(a:Edge):∀{es:List Edge},es.Nodup->(es.map (at1 a)).sum=ind es a
 |[],_=>by simp[ind]
 |e::r,h=>by
  obtain⟨h1,h2⟩:=Bs.mp h;have ih:=zea a h2;simp only[AO,BH,ih,ind,at1]
  by_cases z:e=a
  .subst z;rw[if_pos rfl,if_neg h1,if_pos Ap];rfl
  .rw[if_neg z]
   by_cases y:a∈r
   .rw[if_pos y,if_pos (As _ y)];rfl
   .rw[if_neg y,if_neg]
    .rfl
    .intro m;rcases Ax.mp m with q |q
     .exact z q.symm
     .exact y q
noncomputable def wc(c:Cell)(e:Edge):Int:=if e.c.2=c.2/\c.1<px e then dy e.w else 0
noncomputable def wd(es:List Edge)(c:Cell):Int:=(es.map (wc c)).sum
theorem zkS{e:Edge}{x y:Int}{w:Nat}:e=⟨(x,y),w⟩ ↔ e.c.1=x/\e.c.2=y/\e.w=w:=by
 obtain⟨⟨a,b⟩,v⟩:=e;constructor
 .intro h;cases h;exact⟨rfl,rfl,rfl⟩
 .rintro⟨h1,h2,h3⟩;simp only at h1 h2 h3;rw[h1,h2,h3]
theorem zc7{es:List Edge}(h4:∀e∈es,e.w<4)(nd:es.Nodup)(x y:Int):wd es (x,y)-wd es (x+1,y)=ind es ⟨(x,y),1⟩ - ind es ⟨(x+1,y),3⟩:=by
 rw[<- zea _ nd,<- zea _ nd];refine sums4 λe he=>?_
 have hw:=h4 e he;unfold wc at1;simp only[zkS];obtain⟨⟨a,b⟩,v⟩:=e;simp only at hw;rcases way4 hw with rfl |rfl |rfl |rfl <;> simp[px,dy] <;> (repeat' split) <;> lia
theorem wd_up{C:Cell->Bool}{b:Edge}{es:List Edge}(h:Closed C b es)(x y:Int):wd es (x,y+1)-wd es (x,y)=ind es ⟨(x,y+1),0⟩ - ind es ⟨(x,y),2⟩:=by
 have hE:=h.1.2.2.1;have nd:=h.1.2.2.2
 have t:=h.tele (G:=λe=>if x<px e/\py e=y+1 then (1:Int) else 0)
  (g:=λe=>(wc (x,y) e-wc (x,y+1) e)+(at1 ⟨(x,y+1),0⟩ e-at1 ⟨(x,y),2⟩ e)) (λe he=>by obtain⟨p,q⟩:=zgF (hE e he);have hw:=(hE e he).1;rw[p,q];clear p q;unfold wc at1;simp only[zkS];obtain⟨⟨a,b⟩,v⟩:=e;simp only at hw;rcases way4 hw with rfl |rfl |rfl |rfl <;> simp[px,py,dx,dy] <;> (repeat' split) <;> lia)
 rw[<- zea _ nd,<- zea _ nd]
 have k:∀l:List Edge,(l.map λe=>(wc (x,y) e-wc (x,y+1) e)+(at1 ⟨(x,y+1),0⟩ e-at1 ⟨(x,y),2⟩ e)).sum=((l.map (wc (x,y))).sum-(l.map (wc (x,y+1))).sum)+((l.map (at1 ⟨(x,y+1),0⟩)).sum-(l.map (at1 ⟨(x,y),2⟩)).sum):=by
  intro l
  induction l with
  |nil=>simp
  |cons a r ih=>simp only[AO,BH,ih];lia
 rw[k]at t;unfold wd;lia
noncomputable def fac(e:Edge):Edge:=⟨gap e,(e.w+2) % 4⟩
theorem zjt{C:Cell->Bool}{b:Edge}{es:List Edge}(h:Closed C b es)(e:Edge)(hw:e.w<4):wd es e.c-wd es (gap e)=ind es e-ind es (fac e):=by
 have hE:=h.1.2.2.1;have nd:=h.1.2.2.2;have r:=zc7 (λe he=>(hE e he).1) nd;have u:=wd_up h;obtain⟨⟨a,c⟩,v⟩:=e;simp only at hw;unfold fac;rcases way4 hw with rfl |rfl |rfl |rfl <;> simp only[gap,go,mv]
 .have:=u a (c-1);rw[show c-1+1=c by lia]at this;simp;rw[show c+-1=c-1 by lia];exact this
 .have:=r a c;simpa using this
 .have:=u a c;simp;lia
 .have:=r (a-1) c;rw[show a-1+1=a by lia]at this;simp;rw[show a+-1=a-1 by lia];lia
theorem zkI{C:Cell->Bool}{b:Edge}{es:List Edge}(h:Closed C b es){e:Edge}(hn:¬ IsE C e):ind es e=0:=by unfold ind;rw[if_neg λm=>hn (h.1.2.2.1 e m)]
theorem znl{e:Edge}(hw:e.w<4):gap (fac e)=e.c:=by obtain⟨⟨a,c⟩,v⟩:=e;simp only at hw;unfold fac;rcases way4 hw with rfl |rfl |rfl |rfl <;> simp[gap,go,mv] <;> lia
theorem zfk{C:Cell->Bool}{b:Edge}{es:List Edge}(h:Closed C b es)(e:Edge)(hw:e.w<4)(hC:C e.c=C (gap e)):wd es e.c=wd es (gap e):=by
 have k:=zjt h e hw
 rw[zkI h (e:=e) (λz=>by have:=z.2.1;have:=z.2.2;simp_all),zkI h (e:=fac e) (λz=>by
  have h1:=z.2.1;have h2:=z.2.2;rw[znl hw]at h2;have h1':C (gap e)=true:=h1
  simp_all)]at k
 lia
theorem zfl{C:Cell->Bool}{b:Edge}{es:List Edge}(h:Closed C b es){e:Edge}(he:IsE C e):wd es e.c=wd es (gap e)+ind es e:=by have k:=zjt h e he.1;rw[zkI h (e:=fac e) (λz=>by have h1:C (gap e)=true:=z.2.1;rw[he.2.2]at h1;cases h1)]at k;lia
inductive Rch (D:Cell->Bool) (S:List Nat) (a:Cell):Cell->Prop where
 |refl:Rch D S a a
 |step {c:Cell} {s:Nat}:Rch D S a c->s∈S->D (go c s)=true->Rch D S a (go c s)
theorem Rch.trans{D:Cell->Bool}{S:List Nat}{a b c:Cell}(h:Rch D S a b)(k:Rch D S b c):Rch D S a c:=by
 induction k with
 |refl=>exact h
 |step _ hs hd ih=>exact .step ih hs hd
theorem Rch.dom{D:Cell->Bool}{S:List Nat}{a b:Cell}(h:Rch D S a b)(ha:D a=true):D b=true:=by
 cases h with
 |refl=>exact ha
 |step _ _ hd=>exact hd
noncomputable def S8:List Nat:=[0,1,2,3,4,5,6,7]
noncomputable def S4:List Nat:=[0,2,4,6]
theorem zkr{s:Nat}:s∈S8 ↔ s<8:=by unfold S8;simp;lia
theorem zks{s:Nat}:s∈S4 ↔ ∃w,w<4/\s=(2*w+6) % 8:=by
 unfold S4;simp;constructor
 .rintro (rfl |rfl |rfl |rfl)
  .exact⟨1,by decide,by decide⟩
  .exact⟨2,by decide,by decide⟩
  .exact⟨3,by decide,by decide⟩
  .exact⟨0,by decide,by decide⟩
 .rintro⟨w,hw,rfl⟩;rcases way4 hw with rfl |rfl |rfl |rfl <;> decide
theorem Closed.mem_nxt{C:Cell->Bool}{b e:Edge}{es:List Edge}(h:Closed C b es)(he:e∈es):nxt C e∈es:=by
 obtain⟨⟨h0,hs,_,_⟩,l,hl,hb⟩:=h;obtain⟨i,hi,ei⟩:=AD he;rcases A6 (i+1) es.length with z |z
 .have:=hs i e es[i+1] (by rw[Ab hi,ei]) (Ab z);rw[<- this];exact Bj _
 .have hi':i=es.length-1:=by lia
  have:some e=some l:=by rw[<- hl,<- hi',Ab hi,ei]
  cases this
  rw[hb];exact Aj h0
theorem Closed.nxt_mem{C:Cell->Bool}{b e:Edge}{es:List Edge}(h:Closed C b es)(hE:IsE C e)(he:nxt C e∈es):e∈es:=by
 obtain⟨⟨h0,hs,hE',_⟩,l,hl,hb⟩:=h;obtain⟨i,hi,ei⟩:=AD he
 cases i with
 |zero =>
  have:some (nxt C e)=some b:=by rw[<- h0,Ab hi,ei]
  cases this
  have lm:=Aj hl;rw[zev hE (hE' l lm) hb.symm];exact lm
 |succ i =>
  have m:es[i]∈es:=Bj (by lia);have:=hs i es[i] _ (Ab (by lia)) (by rw[Ab hi,ei]);rw[zev hE (hE' _ m) this];exact m
theorem Closed.ind_nxt{C:Cell->Bool}{b e:Edge}{es:List Edge}(h:Closed C b es)(hE:IsE C e):ind es (nxt C e)=ind es e:=by
 unfold ind
 by_cases z:e∈es
 .rw[if_pos z,if_pos (h.mem_nxt z)]
 .rw[if_neg z,if_neg λm=>z (h.nxt_mem hE m)]
theorem zlo{C:Cell->Bool}{b:Edge}{es:List Edge}(h:Closed C b es){c:Cell}{w:Nat}(hw:w<4)(hc:C c=true)(hd:C (go c ((2*w+7) % 8))=true):wd es c=wd es (go c ((2*w+7) % 8)):=by
 have g1:gap ⟨go c ((2*w+7) % 8),(w+3) % 4⟩=gap ⟨c,w⟩:=by unfold gap;simp only;rw[go_go (f1 w hw)]
 have hw3:(w+3) % 4<4:=Ci _ (by decide)
 by_cases hg:C (gap ⟨c,w⟩)=true
 .have a:=zfk h ⟨c,w⟩ hw (by rw[hg];exact hc);have d:=zfk h ⟨go c ((2*w+7) % 8),(w+3) % 4⟩ hw3 (by rw[g1,hg];exact hd);rw[g1]at d;exact a.trans d.symm
 .have hg':C (gap ⟨c,w⟩)=false:=by simpa using hg
  have hE:IsE C ⟨c,w⟩:=⟨hw,hc,hg'⟩;rcases zaP hE with⟨_,_,q⟩ |⟨z,_⟩ |⟨z,_⟩
  .have a:=zfl h hE;have hn:=zdL hE;have i:=h.ind_nxt hE;have d:=zfl h hn;rw[i]at d;rw[q]at d;simp only at a d;rw[g1]at d;exact a.trans d.symm
  .simp only at z;rw[hd]at z;cases z
  .simp only at z;rw[hd]at z;cases z
theorem zm6{s:Nat}(h:s<8)(ho:s % 2=1):∃w,w<4/\s=(2*w+7) % 8:=⟨(s+1) / 2 % 4,Ci _ (by decide),by lia⟩
theorem zl6{s:Nat}(h:s<8)(ho:s % 2=0):∃w,w<4/\s=(2*w+6) % 8:=⟨(s / 2+1) % 4,Ci _ (by decide),by lia⟩
theorem zlp{C:Cell->Bool}{b:Edge}{es:List Edge}(h:Closed C b es){a c:Cell}(hc:Rch C S8 a c)(ha:C a=true):wd es c=wd es a:=by
 induction hc with
 |refl=>rfl
 |@step c s k hs hd ih =>
  have hc:=k.dom ha;have h8:=zkr.mp hs;rw[<- ih];rcases Nat.mod_two_eq_zero_or_one s with z |z
  .obtain⟨w,hw,rfl⟩:=zl6 h8 z;exact (zfk h ⟨c,w⟩ hw (hc.trans hd.symm)).symm
  .obtain⟨w,hw,rfl⟩:=zm6 h8 z;exact (zlo h hw hc hd).symm
noncomputable abbrev no(C:Cell->Bool):Cell->Bool:=λc=>!C c
theorem zmH{C:Cell->Bool}{b:Edge}{es:List Edge}(h:Closed C b es){a c:Cell}(hc:Rch (no C) S4 a c)(ha:C a=false):wd es c=wd es a:=by
 induction hc with
 |refl=>rfl
 |@step c s k hs hd ih =>
  have hc:=k.dom (by simp[no,ha]);simp only[no,Bool.not_eq_true']at hc hd;obtain⟨w,hw,rfl⟩:=zks.mp hs;rw[<- ih];exact (zfk h ⟨c,w⟩ hw (hc.trans hd.symm)).symm
theorem zlO{C:Cell->Bool}{e:Edge}(h:IsE C e):Rch C S8 e.c (nxt C e).c:=by
 have hw:=h.1;rcases zaP h with⟨h1,_,q⟩ |⟨h1,h2,_,q⟩ |⟨h1,h2,_,q⟩ <;> rw[q]
 .exact .step .refl (zkr.mpr (Ci _ (by decide))) h1
 .exact .step .refl (zkr.mpr (by lia)) h2
 .exact .refl
theorem f9:∀w<4,mvAdd ((2*w+6) % 8) (2*w) ((2*w+7) % 8)=true:=by decide
theorem f10:∀w<4,mvAdd ((2*w+7) % 8) ((2*w+2) % 8) (2*w)=true:=by decide
theorem zm7{C:Cell->Bool}{e:Edge}(h:IsE C e):Rch (no C) S4 (gap e) (gap (nxt C e)):=by
 have hw:=h.1;have s0:2*e.w∈S4:=zks.mpr ⟨(e.w+1) % 4,Ci _ (by decide),by lia⟩;have s2:(2*e.w+2) % 8∈S4:=zks.mpr ⟨(e.w+2) % 4,Ci _ (by decide),by lia⟩;rcases zaP h with⟨h1,_,q⟩ |⟨h1,h2,_,q⟩ |⟨h1,h2,_,q⟩ <;> rw[q]
 .have:gap ⟨go e.c ((2*e.w+7) % 8),(e.w+3) % 4⟩=gap e:=by unfold gap;simp only;rw[go_go (f1 _ hw)]
  rw[this];exact .refl
 .have e1:gap ⟨go e.c (2*e.w),e.w⟩=go (gap e) (2*e.w):=by unfold gap;simp only;rw[go_go (f2 _ hw),go_go (f9 _ hw)]
  rw[e1];refine .step .refl s0 ?_
  unfold gap;rw[go_go (f9 _ hw)];simp[no,h1]
 .have e1:gap ⟨e.c, (e.w + 1) % 4⟩ = go (go (gap e) (2 * e.w)) ((2 * e.w + 2) % 8) := by unfold gap;simp only;rw[f3 _ hw,go_go (f9 _ hw),go_go (f10 _ hw)]
  rw[e1];refine .step (.step .refl s0 ?_) s2 ?_
  .unfold gap;rw[go_go (f9 _ hw)];simp[no,h1]
  .unfold gap;rw[go_go (f9 _ hw),go_go (f10 _ hw)];simp[no,h2]
theorem Closed.reach{C:Cell->Bool}{b:Edge}{es:List Edge}(h:Closed C b es):∀e∈es,Rch C S8 b.c e.c/\Rch (no C) S4 (gap b) (gap e):=by
 have hE:IsE C b:=h.1.2.2.1 b (Aj h.1.1)
 have k:∀i,Rch C S8 b.c (it C b i).c/\Rch (no C) S4 (gap b) (gap (it C b i)):=by
  intro i
  induction i with
  |zero=>exact⟨.refl,.refl⟩
  |succ i ih=>exact⟨ih.1.trans (zlO (it_ok hE i)),ih.2.trans (zm7 (it_ok hE i))⟩
 intro e he;obtain⟨i,hi,ei⟩:=AD he;have:=h.1.get i hi;rw[Ab hi,ei]at this
 cases this
 exact k i
theorem Closed.from{C:Cell->Bool}{b e:Edge}{es:List Edge}(h:Closed C b es)(he:e∈es):∃fs,Closed C e fs/\(∀f,f∈fs ↔ f∈es)/\(fs.map (tt C)).sum=(es.map (tt C)).sum/\∀c,wd fs c=wd es c:=by
 obtain⟨j,hj,ej⟩:=AD he;have h1:=h.rot j (by rw[Ab hj,ej]);refine⟨_,h1,λf=>?_,?_,λc=>?_⟩
 .constructor
  .intro hf;rcases AC.mp hf with m |m
   .exact BG m
   .exact Bq m
  .intro hf;rw[<- Do j es]at hf;rcases AC.mp hf with m |m
   .exact Aw _ m
   .exact BF _ m
 .rw[Ay,D8,D9,zhm]
 .unfold wd;rw[Ay,D8,D9,zhm]
theorem zcS{es:List Edge}{c:Cell}(h:∀e∈es,e.w=1∨e.w=3->¬ (e.c.2=c.2/\c.1<px e)):wd es c=0:=by
 unfold wd
 induction es with
 |nil=>rfl
 |cons a r ih =>
  have ih':=ih λe he=>h e (As _ he)
  have h1:=h a Ap;simp only[AO,BH,ih'];unfold wc dy;split
  .rename_i q
   split
   .rename_i w1;exact absurd q (h1 (.inl w1))
   .split
    .rename_i w3;exact absurd q (h1 (.inr w3))
    .rfl
  .rfl
theorem Closed.inside{C:Cell -> Bool}{b:Edge}{es:List Edge}(h:Closed C b es) :
  ((es.map (tt C)).sum=4/\∀e∈es,wd es e.c=1/\wd es (gap e)=0)∨((es.map (tt C)).sum=-4/\∀e∈es,wd es e.c=0/\wd es (gap e)=-1):=by
 have hp:=h.pos;obtain⟨a,ha,q⟩:=zc0 es (by intro z;rw[z]at hp;simp at hp);obtain⟨fs,h1,hm,hs,hv⟩:=h.from ha;have lw:=h1.least_way λf hf=>q f ((hm f).mp hf)
 rw[hs]at lw;have hE:IsE C a:=h.1.2.2.1 a ha
 have all:∀{u v:Int},wd es a.c=u->wd es (gap a)=v->∀e∈es,wd es e.c=u/\wd es (gap e)=v:=λhu hv e he=>by obtain⟨r1,r2⟩:=h1.reach e ((hm e).mpr he);exact⟨(zlp h r1 hE.2.1).trans hu,(zmH h r2 hE.2.2).trans hv⟩
 have cr:=zfl h hE;have i1:ind es a=1:=by unfold ind;rw[if_pos ha]
 rw[i1]at cr;rcases lw with⟨w,s⟩ |⟨w,s⟩
 .left
  have z:wd es (gap a)=0:=zcS λe he hw ⟨k1,k2⟩=>by have:=(q e he).1;obtain⟨⟨x,y⟩,v⟩:=a;simp only at w;subst w;obtain⟨⟨x',y'⟩,v'⟩:=e;simp only at hw;rcases hw with rfl |rfl <;> simp[gap,go,mv,px,py,eV,bv]at this k1 k2 <;> lia
  exact⟨s,all (by lia) z⟩
 .right
  have z:wd es a.c=0:=zcS λe he hw ⟨k1,k2⟩=>by have:=(q e he).1;obtain⟨⟨x,y⟩,v⟩:=a;simp only at w;subst w;obtain⟨⟨x',y'⟩,v'⟩:=e;simp only at hw;rcases hw with rfl |rfl <;> simp[px,py,eV,bv]at this k1 k2 <;> lia
  exact⟨s,all z (by lia)⟩
theorem zjr{C:Cell->Bool}{b:Edge}{es:List Edge}(h:Closed C b es){c:Cell}(hl:∀e∈es,e.w=1∨e.w=3->e.c.2=c.2->c.1<px e):wd es c=0:=by
 have t:=h.tele (G:=λe=>if c.2<py e then (1:Int) else 0) (g:=wc c) (λe he=>by obtain⟨_,q⟩:=zgF (h.1.2.2.1 e he);have hw:=(h.1.2.2.1 e he).1;have hl':=hl e he;rw[q];unfold wc;obtain⟨⟨x,y⟩,v⟩:=e;simp only at hw;rcases way4 hw with rfl |rfl |rfl |rfl <;> simp[px,py,dy]at hl' ⊢ <;> (repeat' split) <;> lia)
 exact t
theorem zmf{C:Cell->Bool}{b:Edge}{es:List Edge}(h:Closed C b es){c:Cell}(hz:wd es c≠0):∃e∈es,∃f∈es,e.c.2=c.2/\f.c.2=c.2/\px e<=c.1/\c.1<px f/\(e.w=1∨e.w=3)/\(f.w=1∨f.w=3):=by
 apply Ba
 intro hn
 by_cases k:∃f∈es,f.c.2=c.2/\c.1<px f/\(f.w=1∨f.w=3)
 .obtain⟨f,hf,k1,k2,k3⟩:=k
  apply hz
  refine zjr h λe he hw hr=>?_
  rcases Int.lt_or_le c.1 (px e) with z |z
  .exact z
  .exact absurd ⟨e,he,f,hf,hr,k1,z,k2,hw,k3⟩ hn
 .apply hz
  exact zcS λe he hw ⟨k1,k2⟩=>k ⟨e,he,k1,k2,hw⟩
structure BoxOf (P:List Cell) (l lo r hi:Int):Prop where
 all:∀c∈P,l<c.1/\c.1<r/\lo<c.2/\c.2<hi
 bot:∃c∈P,c.2=lo+1
noncomputable def inBox(l lo r hi:Int)(c:Cell):Prop:=l<=c.1/\c.1<=r/\lo<=c.2/\c.2<=hi
structure FreeOf (D:Cell->Bool) (P:List Cell) (l lo r hi:Int):Prop where
 iff:∀c,D c=true ↔ (inBox l lo r hi c/\c ∉ P)
section
variable {C D:Cell->Bool}{b:Edge}{es:List Edge}{P:List Cell}{l lo r hi:Int}
theorem wd_01(h:Closed C b es)(hs:(es.map (tt C)).sum=4)(c:Cell):wd es c=0∨wd es c=1:=by
 have ins:∀e∈es,wd es e.c=1/\wd es (gap e)=0:=by
  rcases h.inside with⟨_,k⟩ |⟨s,_⟩
  .exact k
  .lia
 have r:=zc7 (λe he=>(h.1.2.2.1 e he).1) h.1.2.2.2
 have far:∃M:Int,∀e∈es,px e<=M:=by
  generalize es=l
  induction l with
  |nil=>exact⟨0,λe he=>by cases he⟩
  |cons a l ih =>
   obtain⟨M,hM⟩:=ih
   exact⟨max M (px a),λe he=>by
    rcases Ax.mp he with rfl |he
    .lia
    .have:=hM e he;lia⟩
 obtain⟨M,hM⟩:=far
 have k:∀(n:Nat) (x y:Int),M-x<=n->wd es (x,y)=0∨wd es (x,y)=1:=by
  intro n
  induction n with
  |zero =>
   intro x y hx;exact .inl (zcS λe he _ ⟨_,k2⟩=>by have:=hM e he;simp only at k2;lia)
  |succ n ih =>
   intro x y hx;have i:=ih (x+1) y (by lia);have rr:=r x y
   by_cases m1:⟨(x,y),1⟩∈es
   .exact .inr (ins _ m1).1
   by_cases m3:⟨(x+1,y),3⟩∈es
   .have:=(ins _ m3).2;rw[show gap ⟨(x+1,y),3⟩=(x,y) by simp[gap,go,mv];lia]at this;exact .inl this
   .unfold ind at rr;rw[if_neg m1,if_neg m3]at rr;rcases i with i |i
    .left;lia
    .right;lia
 exact k (M-c.1).toNat c.1 c.2 (by lia)
theorem wd_0m(h:Closed C b es)(hs:(es.map (tt C)).sum=-4)(c:Cell):wd es c=0∨wd es c=-1:=by
 have ins:∀e∈es,wd es e.c=0/\wd es (gap e)=-1:=by
  rcases h.inside with⟨s,_⟩ |⟨_,k⟩
  .lia
  .exact k
 have r:=zc7 (λe he=>(h.1.2.2.1 e he).1) h.1.2.2.2
 have far:∃M:Int,∀e∈es,px e<=M:=by
  generalize es=l
  induction l with
  |nil=>exact⟨0,λe he=>by cases he⟩
  |cons a l ih =>
   obtain⟨M,hM⟩:=ih
   exact⟨max M (px a),λe he=>by
    rcases Ax.mp he with rfl |he
    .lia
    .have:=hM e he;lia⟩
 obtain⟨M,hM⟩:=far
 have k:∀(n:Nat) (x y:Int),M-x<=n->wd es (x,y)=0∨wd es (x,y)=-1:=by
  intro n
  induction n with
  |zero =>
   intro x y hx;exact .inl (zcS λe he _ ⟨_,k2⟩=>by have:=hM e he;simp only at k2;lia)
  |succ n ih =>
   intro x y hx;have i:=ih (x+1) y (by lia);have rr:=r x y
   by_cases m1:⟨(x,y),1⟩∈es
   .exact .inl (ins _ m1).1
   by_cases m3:⟨(x+1,y),3⟩∈es
   .have:=(ins _ m3).2;rw[show gap ⟨(x+1,y),3⟩=(x,y) by simp[gap,go,mv];lia]at this;exact .inr this
   .unfold ind at rr;rw[if_neg m1,if_neg m3]at rr;rcases i with i |i
    .left;lia
    .right;lia
 exact k (M-c.1).toNat c.1 c.2 (by lia)
end
end RP
noncomputable def fillT:List Int->List Int
 |a::b::r=>(Bk (b-a).toNat).map (λi:Nat=>a+(i:Int))++fillT r
 |_=>[]
theorem zgX{k:Int}(hk:k ≠ 0):∀(T:List Int) (f:Int -> Int), T.Pairwise (· < ·) -> (∀x, (∀t ∈ T, x < t) -> f x=0) -> (∀x, (∀t ∈ T, t <= x) -> f x=0) -> (∀x, x ∈ T ↔ f (x-1) ≠ f x) -> (∀x, f x=0 ∨ f x=k) ->
    T.length % 2=0/\(∀x,x∈fillT T ↔ f x≠0)/\(fillT T).Pairwise (·<·)/\∀x∈fillT T,∀t,T.head?=some t->t<=x
  |[],f,_,h0,_,_,_=>⟨rfl,λx=>⟨λh=>(nomatch h),λh=>absurd (h0 x λ_ h=>(nomatch h)) h⟩,.nil,λ_ h=>(nomatch h)⟩
  |[t],f,_,h0,h1,hT,_=>by
    have e0:f (t-1)=0:=h0 _ λu hu=>by rw[Am.mp hu];lia
    have e1:f t=0:=h1 _ λu hu=>by rw[Am.mp hu];exact Int.le_refl _
    exact absurd (e0.trans e1.symm) ((hT t).mp (Am.mpr rfl))
  |a::b::r,f,hp,h0,h1,hT,h2=>by
    obtain⟨pa,pr'⟩:=Ch.mp hp;obtain⟨pb,pr⟩:=Ch.mp pr';have hab:a<b:=pa b Ap
    have e0:f (a-1)=0:=h0 _ λu hu=>by
      rcases Ax.mp hu with rfl |hu
      . lia
      . have:=pa u hu;lia
    have ea:f a=k:=by
      have:=(hT a).mp Ap;rcases h2 a with q |q
      . lia
      . exact q
    have mid:∀n:Nat,a+(n:Int)<b->f (a+n)=k:=by
      intro n
      induction n with
      |zero=>intro _;simpa using ea
      |succ m ih =>
        intro hm;have hq:=ih (by lia)
        have hn:¬ (a+((m+1:Nat):Int))∈a::b::r:=λz=>by
          rcases Ax.mp z with z |z
          . lia
          rcases Ax.mp z with z |z
          . lia
          . have:=pb _ z;lia
        have:=mt (hT _).mpr hn;have e:a+((m+1:Nat):Int)-1=a+(m:Int):=by lia
        rw[e,hq]at this;exact (Classical.not_not.mp this).symm
    have mid':∀x,a<=x->x<b->f x=k:=λx h1 h2=>by
      have:=mid (x-a).toNat (by lia)
      rwa [show a+((x-a).toNat:Int)=x by lia]at this
    have eb:f b=0:=by
      have:=(hT b).mp (by simp);rw[mid' (b-1) (by lia) (by lia)]at this;rcases h2 b with q |q
      . exact q
      . exact absurd q.symm this
    have low:∀x,x<a->f x=0:=λx hx=>h0 x λu hu=>by
      rcases Ax.mp hu with rfl |hu
      . exact hx
      . have:=pa u hu;lia
    obtain⟨i1, i2, i3, i4⟩ := zgX hk r (λx => if x < b then 0 else f x) pr (λx hx => by
        by_cases q:x<b
        . simp[q]
        . simp only[q,if_false]
          have gb:∀n:Nat,b+(n:Int)<=x->f (b+n)=0:=by
            intro n
            induction n with
            |zero=>intro _;simpa using eb
            |succ m ih =>
              intro hm;have hq:=ih (by lia)
              have hn:¬ (b+((m+1:Nat):Int))∈a::b::r:=λz=>by
                rcases Ax.mp z with z |z
                . lia
                rcases Ax.mp z with z |z
                . lia
                . have:=hx _ z;lia
              have:=mt (hT _).mpr hn;have e:b+((m+1:Nat):Int)-1=b+(m:Int):=by lia
              rw[e,hq]at this;exact (Classical.not_not.mp this).symm
          have:=gb (x-b).toNat (by lia)
          rwa [show b+((x-b).toNat:Int)=x by lia]at this)
      (λx hx=>by
        by_cases q:x<b
        . simp[q]
        . simp only[q,if_false];refine h1 x λu hu=>?_
          rcases Ax.mp hu with rfl |hu
          . lia
          rcases Ax.mp hu with rfl |hu
          . lia
          . exact hx u hu)
      (λx=>by
        have m:x∈a::b::r ↔ x=a∨x=b∨x∈r:=by simp
        have hx:=hT x;rw[m]at hx
        by_cases q:x<b
        . have:¬ x∈r:=λz=>by have:=pb x z;lia
          simp[q,show x-1<b by lia,this]
        . by_cases q2:x=b
          . subst q2;have:¬ x∈r:=λz=>by have:=pb x z;lia
            simp[eb,this,show x-1<x by lia]
          . have n1:¬ x-1<b:=by lia
            simp only[q,n1,if_false];rw[<- hx];exact⟨λz=>.inr (.inr z),λz=>by rcases z with z |z |z;lia;exact absurd z q2;exact z⟩)
      (λx=>by
        by_cases q:x<b
        . simp[q]
        . simp only[q,if_false];exact h2 x)
    have inR:∀x,x∈(Bk (b-a).toNat).map (λi:Nat=>a+(i:Int)) ↔ a<=x/\x<b:=λx=>by simp only[List.mem_map,List.mem_range];exact⟨λ⟨n,hn,e⟩=>by lia,λ⟨h1,h2⟩=>⟨(x-a).toNat,by lia,by lia⟩⟩
    have gt:∀x∈fillT r,b<=x:=λx hx=>by
      have:=(i2 x).mp hx
      by_cases q:x<b
      . simp[q]at this
      . lia
    refine⟨by simp only[AZ];lia,λx=>?_,?_,λx hx t ht=>?_⟩
    . show x∈_++fillT r ↔ _;rw[AC,inR]
      by_cases q:x<b
      . constructor
        . rintro (⟨z,_⟩ |z)
          . rw[mid' x z q];exact hk
          . exact absurd (gt x z) (by lia)
        . intro z;refine .inl ⟨?_,q⟩
          by_cases qa:a<=x
          . exact qa
          . exact absurd (low x (by lia)) z
      . rw[i2 x];simp only[q,and_false,false_or,if_false]
    . show List.Pairwise (·<·) (_++fillT r);rw[List.pairwise_append];refine⟨?_,i3,λx hx y hy=>?_⟩
      . rw[Cf];exact List.pairwise_lt_range.imp λh=>by lia
      . have:=(inR x).mp hx;have:=gt y hy;lia
    . cases ht
      rcases AC.mp hx with z |z
      . exact ((inR x).mp z).1
      . have:=gt x z;lia
namespace RP
noncomputable def isUp(y:Int)(e:Edge):Bool:=(e.w == 1 ||e.w == 3) && e.c.2 == y
noncomputable def upr(es:List Edge)(y:Int):List Int:=(es.filter (isUp y)).map px
theorem zbQ{y:Int}{e:Edge}:isUp y e=true ↔ (e.w=1∨e.w=3)/\e.c.2=y:=by simp[isUp]
theorem zmg{C:Cell->Bool}{b:Edge}{es:List Edge}(h:Closed C b es){y:Int}{e f:Edge}(he:e∈es)(hf:f∈es)(ue:isUp y e=true)(uf:isUp y f=true)(hp:px e=px f):e=f:=by
 obtain⟨w1,y1⟩:=zbQ.mp ue;obtain⟨w2,y2⟩:=zbQ.mp uf;obtain⟨⟨ex,ey⟩,ew⟩:=e;obtain⟨⟨fx,fy⟩,fw⟩:=f;have e1:=(h.1.2.2.1 _ he).2;have f1:=(h.1.2.2.1 _ hf).2;simp only at w1 w2 y1 y2;subst y1;subst y2;rcases w1 with rfl |rfl <;> rcases w2 with rfl |rfl <;> simp[px]at hp
 .subst hp;rfl
 .exfalso;simp[gap,go,mv]at e1 f1;rw[<- hp,e1.2]at f1
  cases f1.1
 .exfalso;simp[gap,go,mv]at e1 f1;rw[hp,f1.2]at e1
  cases e1.1
 .subst hp;rfl
theorem zgl{C:Cell->Bool}{b:Edge}{es:List Edge}(h:Closed C b es)(y:Int):(upr es y).Nodup:=by unfold upr;rw[List.Nodup,Cf];have nd:(es.filter (isUp y)).Nodup:=h.1.2.2.2.filter _;refine (ED (λ{e f} he hf hne=>?_) nd);have m1:=Bz.mp he;have m2:=Bz.mp hf;exact λhp=>hne (zmg h m1.1 m2.1 m1.2 m2.2 hp)
theorem znc{C:Cell->Bool}{b:Edge}{es:List Edge}(h:Closed C b es)(x y:Int):x∈upr es y ↔ wd es (x-1,y)≠wd es (x,y):=by
 have hr:=zc7 (λe he=>(h.1.2.2.1 e he).1) h.1.2.2.2 (x-1) y;rw[show x-1+1=x by lia]at hr
 have m:x∈upr es y ↔ (⟨(x-1,y),1⟩:Edge)∈es∨(⟨(x,y),3⟩:Edge)∈es:=by
  unfold upr;rw[List.mem_map];constructor
  .rintro⟨⟨⟨ex,ey⟩,ew⟩,he,hp⟩;obtain⟨m1,m2⟩:=Bz.mp he;obtain⟨w1,y1⟩:=zbQ.mp m2;simp only at w1 y1;subst y1;rcases w1 with rfl |rfl
   .simp[px]at hp;refine .inl ?_
    rw[show x-1=ex by lia];exact m1
   .simp[px]at hp;refine .inr ?_
    rw[<- hp];exact m1
  .rintro (m |m)
   .exact⟨_,Bz.mpr ⟨m,by simp[isUp]⟩,by simp[px]⟩
   .exact⟨_,Bz.mpr ⟨m,by simp[isUp]⟩,by simp[px]⟩
 rw[m];unfold ind at hr
 by_cases q1:(⟨(x-1,y),1⟩:Edge)∈es <;> by_cases q2:(⟨(x,y),3⟩:Edge)∈es <;> simp only[q1,q2,if_true,if_false]at hr <;> simp[q1,q2]
 .exfalso;have:=zmg (y:=y) h q1 q2 (by simp[isUp]) (by simp[isUp]) (by simp[px]);have:=congrArg Edge.w this;simp at this
 .lia
 .lia
 .lia
theorem zfE{C:Cell -> Bool}{b:Edge}{es:List Edge}(h:Closed C b es)(hs:(es.map (tt C)).sum=4 ∨ (es.map (tt C)).sum = -4){y:Int}{T:List Int}(hp:T.Perm (upr es y))(ht:T.Pairwise (· <= ·)) :
  T.length % 2=0/\(∀x,x∈fillT T ↔ wd es (x,y)≠0)/\(fillT T).Pairwise (·<·):=by
 have nd:T.Nodup:=hp.nodup_iff.mpr (zgl h y)
 have st:T.Pairwise (·<·):=by refine List.Pairwise.imp (R:=λa b:Int=>a<=b/\a≠b) (λ{a b} q=>by lia) (ht.and nd)
 have mem:∀x,x∈T ↔ wd es (x-1,y)≠wd es (x,y):=λx=>by rw[hp.mem_iff];exact znc h x y
 have pxT:∀e∈es,e.w=1∨e.w=3->e.c.2=y->px e∈T:=λe he w1 y1=>hp.mem_iff.mpr (AE.mpr ⟨e,Bz.mpr ⟨he,zbQ.mpr ⟨w1,y1⟩⟩,rfl⟩)
 obtain⟨k,hk,h2⟩:∃k:Int,k≠0/\∀c,wd es c=0∨wd es c=k:=by
  rcases hs with hs |hs
  .exact⟨1,by decide,wd_01 h hs⟩
  .exact⟨-1,by decide,wd_0m h hs⟩
 obtain⟨a1,a2,a3,_⟩:=zgX hk T (λx=>wd es (x,y)) st (λx hx=>zjr h λe he w1 y1=>hx _ (pxT e he w1 y1)) (λx hx=>zcS λe he w1 z=>by have:=hx _ (pxT e he w1 z.1);have:=z.2;simp only at this;lia) mem λx=>h2 (x,y)
 exact⟨a1,a2,a3⟩
noncomputable def zbc(s:Nat):Nat:=(s+1) / 2 % 4
noncomputable def wayB(s:Nat):Nat:=(zbc s+4-s % 2) % 4
noncomputable def dgo:Nat->List Nat->List (Option Nat)×Nat
 |w,[]=>([],w)
 |w,s::r=>(Ar ((zbc s+4-w) % 4) none++some s::(dgo (wayB s) r).1,(dgo (wayB s) r).2)
noncomputable def zaJ(w:Nat)(row:List Nat):Nat:=if row.isEmpty then 4 else (w+4-(dgo w row).2) % 4
noncomputable def deeds(w:Nat)(row:List Nat):List (Option Nat):=(dgo w row).1++Ar (zaJ w row) none
theorem zls{C:Cell->Bool}{e:Edge}(h:IsE C e){s:Nat}(hs:stepB C e=some s):zbc s=e.w/\wayB s=(nxt C e).w/\s<8:=by have hw:=h.1;rcases zaP h with⟨_,q,n⟩ |⟨_,_,q,n⟩ |⟨_,_,q,n⟩ <;> rw[n] <;> rw[q]at hs <;> cases hs <;> unfold wayB zbc <;> simp only <;> rcases way4 hw with r |r |r |r <;> rw[r] <;> decide
theorem zii{C:Cell->Bool}{e:Edge}(h:IsE C e)(hs:stepB C e=none):nxt C e=⟨e.c,(e.w+1) % 4⟩:=by
 rcases zaP h with⟨_,q,n⟩ |⟨_,_,q,n⟩ |⟨_,_,q,n⟩
 .rw[q]at hs;cases hs
 .rw[q]at hs;cases hs
 .exact n
noncomputable def zmD(C:Cell->Bool)(es:List Edge):Prop:=∀i,¬ ∀m,m<4->∃e,es[i+m]?=some e/\stepB C e=none
theorem zf4{C:Cell -> Bool}{b:Edge}{es:List Edge}(h:Chain C b es)(hE:IsE C b)(nf:zmD C es):∀(n p j w:Nat), es.length-p=n -> p <= es.length -> j <= 3 -> j <= p -> w < 4 -> (∀m, m < j -> ∃e, es[p-1-m]? = some e /\ stepB C e=none) ->
    (it C b p).w=(w+j) % 4->∃t,t<=3/\Ar j none++(es.drop p).map (stepB C)=(dgo w (((es.drop p).map (stepB C)).filterMap id)).1++Ar t none /\
      ((dgo w (((es.drop p).map (stepB C)).filterMap id)).2+t) % 4=(it C b es.length).w/\(dgo w (((es.drop p).map (stepB C)).filterMap id)).2<4
  | 0,p,j,w,hn,hp,hj,hjp,hw,hl,hway=>by
    have e:es.drop p=[]:=List.drop_eq_nil_iff.mpr (by lia);have hpe:p=es.length:=by lia
    rw[e,<- hpe];exact⟨j,hj,by simp[dgo],hway.symm,hw⟩
  |n+1,p,j,w,hn,hp,hj,hjp,hw,hl,hway=>by
    have hlt:p<es.length:=by lia
    have hd:es.drop p=es[p]::es.drop (p+1):=Ep hlt;have hg:=h.get p hlt;rw[Ab hlt]at hg;have hg':es[p]=it C b p:=A9 hg;have hEp:IsE C (it C b p):=it_ok hE p;rw[hd,hg']
    cases hs:stepB C (it C b p) with
    |none =>
      have hj3:j+1<=3:=by
        rcases A6 j 3 with q |q
        . lia
        . exfalso;have j3:j=3:=by lia
          subst j3;refine nf (p-3) λm hm=>?_
          rcases A6 m 3 with a |a
          . obtain⟨e,h1,h2⟩:=hl (2-m) (by lia);exact⟨e,by rw[<- h1];congr 1;lia,h2⟩
          . have:m=3:=by lia
            subst this;exact⟨_,by rw[show p-3+3=p by lia,Ab hlt,hg'],hs⟩
      have hnx:=zii hEp hs
      obtain⟨t, t3, q1, q2, q3⟩ := zf4 h hE nf n (p + 1) (j + 1) w (by lia) (by lia) hj3 (by lia) hw (λm hm => by
          cases m with
          |zero=>exact⟨_,by rw[show p+1-1-0=p by lia,Ab hlt,hg'],hs⟩
          |succ m =>
            obtain⟨e,h1,h2⟩:=hl m (by lia);exact⟨e,by rw[<- h1];congr 1;lia,h2⟩) (by
          show (nxt C (it C b p)).w=_;rw[hnx];simp only;rw[hway];lia)
      refine⟨t,t3,?_,?_,?_⟩
      . simp only[AO,hs];rw[show (none::(es.drop (p+1)).map (stepB C)).filterMap id=((es.drop (p+1)).map (stepB C)).filterMap id from rfl,<- q1,Ej];simp
      . simp only[AO,hs];exact q2
      . simp only[AO,hs];exact q3
    |some s =>
      obtain⟨w1,w2,_⟩:=zls hEp hs;have hwB:wayB s<4:=Ci _ (by decide)
      obtain⟨t, t3, q1, q2, q3⟩ := zf4 h hE nf n (p + 1) 0 (wayB s) (by lia) (by lia) (by lia) (by lia) hwB (λm hm => by lia) (by
          show (nxt C (it C b p)).w=_;rw[w2,Nat.add_zero];have:=(zdL hEp).1;lia)
      refine⟨t,t3,?_,?_,?_⟩
      . simp only[AO,hs];rw[show (some s::(es.drop (p+1)).map (stepB C)).filterMap id=s::((es.drop (p+1)).map (stepB C)).filterMap id from rfl];show _=(Ar ((zbc s+4-w) % 4) none++some s::(dgo (wayB s) _).1)++Ar t none;have hk:(zbc s+4-w) % 4=j:=by rw[w1,hway];lia
        rw[hk];have q1':(es.drop (p+1)).map (stepB C)=(dgo (wayB s) (((es.drop (p+1)).map (stepB C)).filterMap id)).1++Ar t none:=by simpa using q1
        rw[AN,List.cons_append,<- q1']
      . simp only[AO,hs];exact q2
      . simp only[AO,hs];exact q3
theorem zf0{C:Cell->Bool}{b:Edge}(hE:IsE C b){i:Nat}:∀m,(∀q,q<m->stepB C (it C b (i+q))=none)->it C b (i+m)=⟨(it C b i).c,((it C b i).w+m) % 4⟩
 | 0,_=>by
  have:=(it_ok hE i).1;show it C b i=_;rw[Nat.add_zero,Nat.mod_eq_of_lt this]
 |m+1,h=>by
  have ih:=zf0 hE m λq hq=>h q (by lia)
  show nxt C (it C b (i+m))=_;rw[zii (it_ok hE (i+m)) (h m (by lia)),ih];simp only[Edge.mk.injEq,true_and];lia
theorem Closed.deeds{C:Cell->Bool}{b:Edge}{es:List Edge}(h:Closed C b es):es.map (stepB C)=RP.deeds b.w ((es.map (stepB C)).filterMap id):=by
 have hE:IsE C b:=h.1.2.2.1 b (Aj h.1.1);have hp:=h.pos;have hl:=h.it_len
 have four:∀i,(∀m,m<4->∃e,es[i+m]?=some e/\stepB C e=none)->i=0/\es.length=4:=λi hi=>by
  have hi3:i+3<es.length:=by obtain⟨e,h1,_⟩:=hi 3 (by decide);exact (Ad.mp h1).1
  have st:∀q,q<4->stepB C (it C b (i+q))=none:=λq hq=>by
   obtain⟨e,h1,h2⟩:=hi q hq;rw[h.1.get (i+q) (by lia)]at h1
   cases h1;exact h2
  have e4:=zf0 hE 4 st
  have e4':it C b (i+4)=it C b i:=by rw[e4];have:=(it_ok hE i).1;rw[show ((it C b i).w+4) % 4=(it C b i).w by lia]
  rcases A6 (i+4) es.length with q |q
  .exfalso;have:=(C3 (i:=i) (j:=i+4) (by lia) h.1.2.2.2).mp (by rw[h.1.get i (by lia),h.1.get (i+4) q,e4']);lia
  .have hn:es.length=i+4:=by lia
   rw[<- hn,hl]at e4';have:=(C3 (i:=0) (j:=i) (by lia) h.1.2.2.2).mp (by rw[h.1.get 0 hp,h.1.get i (by lia),<- e4'];rfl);lia
 by_cases hr:(es.map (stepB C)).filterMap id=[]
 .have all:∀i, i < es.length -> stepB C (it C b i)=none := λi hi => by
   have hg:=h.1.get i hi
   cases hs:stepB C (it C b i) with
   |none=>rfl
   |some s =>
    exfalso;have:s∈(es.map (stepB C)).filterMap id:=List.mem_filterMap.mpr ⟨some s,AE.mpr ⟨_,Aj hg,hs⟩,rfl⟩;rw[hr]at this;cases this
  have hn4:es.length=4:=by
   have el:=zf0 hE (i:=0) es.length (λq hq=>by rw[Da];exact all q hq);rw[Da,hl]at el;have ew:=congrArg Edge.w el;have hw:=hE.1;change b.w=(b.w+es.length) % 4 at ew;have h4:4<=es.length:=by lia
   refine (four 0 λm hm=>⟨it C b m,?_,all m (by lia)⟩).2;rw[Da];exact h.1.get m (by lia)
  rw[hr];show _=(dgo b.w []).1++Ar 4 none
  apply List.ext_getElem?
  intro i;rcases A6 i 4 with q |q
  .rw[AA,h.1.get i (by lia),D2,all i (by lia)];show _=(Ar 4 (none:Option Nat))[i]?;rw[List.getElem?_replicate,if_pos q]
  .rw[Ed (by rw[Ah];lia),Ed (by simp[dgo];lia)]
 .have nf:zmD C es := λi hi => by
   obtain⟨_,h4⟩:=four i hi;have hi0:=(four i hi).1;subst hi0
   apply hr
   apply List.filterMap_eq_nil_iff.mpr
   intro o ho;obtain⟨e,he,rfl⟩:=AE.mp ho;obtain⟨j,hj,ej⟩:=AD he;obtain⟨f,h1,h2⟩:=hi j (by lia);rw[Da,Ab hj,ej]at h1
   cases h1
   exact h2
  obtain⟨t,t3,q1,q2,q3⟩:=zf4 h.1 hE nf es.length 0 0 b.w (by lia) (by lia) (by lia) (by lia) hE.1 (λm hm=>by lia) (by
   show b.w=_;have:=hE.1;lia)
  rw[List.drop_zero]at q1 q2 q3;rw[hl]at q2
  have ht:zaJ b.w ((es.map (stepB C)).filterMap id)=t:=by unfold zaJ;rw[if_neg (by simpa using hr)];have:=hE.1;lia
  unfold RP.deeds;rw[ht];simpa using q1
end RP
namespace L2
open PySem PySem.Spec PyProof.Rows
noncomputable def But1(P:Addr)(H H':Hp):Prop:=∀b o,b≠P->H b=some o->H' b=some o
theorem But1.trans{P:Addr}{H H1 H2:Hp}(a:But1 P H H1)(b:But1 P H1 H2):But1 P H H2:=λc o n h=>b c o n (a c o n h)
theorem Same.but1{P:Addr}{H H':Hp}(h:Same H H'):But1 P H H':=λb o _ e=>h b o e
noncomputable abbrev anyO:HO:=.ext λ_=>True
noncomputable def LamAt(pos:Pos)(qual:Str)(P:Addr)(H:Hp):Prop :=
 ∃ps,H P=some (.tbl ps)/\(ps=#[]∨∃c' oc vs t,ps=#[Cg pos.line,Cg pos.col,.ref c']/\H c'=some (.frz oc anyO)/\oc.data=.fields vs/\vs[1]?=some (.str qual t))
theorem LamAt.same{pos:Pos}{qual:Str}{P:Addr}{H H':Hp}(h:LamAt pos qual P H)(s:Same H H'):LamAt pos qual P H':=by
 obtain⟨ps,e,h⟩:=h;refine⟨ps,s _ _ e,?_⟩;rcases h with h |⟨c',oc,vs,t,e1,e2,e3⟩
 .exact .inl h
 .exact .inr ⟨c',oc,vs,t,e1,s _ _ e2,e3⟩
theorem LamAt.ne{pos:Pos}{qual:Str}{P a:Addr}{H:Hp}{o:HO}(h:LamAt pos qual P H)(e:H a=some o)(n:∀ps,o≠.tbl ps):a≠P:=by rintro rfl;obtain⟨ps,e',_⟩:=h;rw[e]at e';exact n ps (A9 e')
theorem But1.seq{K:W.Frag}{pos:Pos}{qual:Str}{P a:Addr}{H H':Hp}{xs:List V}(e:But1 P H H')(l:LamAt pos qual P H)(h:SqL K H a xs):SqL K H' a xs:=by
 rcases h with (h |⟨o,h⟩) |h
 .exact .inl (.inl (e _ _ (l.ne h nofun) h))
 .exact .inl (.inr ⟨o,e _ _ (l.ne h nofun) h⟩)
 .exact .inr h
noncomputable def Bm(mg:Str->Option Ac)(base:Heap):Prop :=
 ∃bm o,mg "__builtins__" = some (.ref bm)/\bm≠builtinsNs/\bm≠AU/\base.get? bm=some o/\o.cls=.type "module" /\ o.dict=some builtinsNs/\o.data=.plain
section
variable {X:Cx}{pins:List (Addr×Obj)}{σ:St}{H:Hp}{s:Ae}
theorem Inv.lamNew{P c':Addr}{ps more:Array Ac}{h1:Heap}{oc fo:Obj}{tk:Nat}(I:Inv X pins σ H s)(hP:H P=some (.tbl ps))(hx:Heap.ExtBut P s.heap h1)(hge:s.heap.objs.size <= c')(hlt:c' < h1.objs.size)
  (hc:h1.get? c'=some oc) (htb:h1.get? P=some (W.tabObj (ps++more))) (hfo:fo.isFreed=false) :
  Inv X pins σ (upd (upd (upd H P (.tbl (ps++more))) c' (.frz oc anyO)) h1.objs.size (.frz fo anyO)) { s with heap:=h1.push fo,toks:=tk }:=by
 have hPs:s.heap.get? P=some (W.tabObj ps):=I.hok P _ hP;have lP:P<s.heap.objs.size:=Aq hPs;have cP:c'≠P:=CC (AG lP hge);have fP:h1.objs.size≠P:=CC (Nat.lt_trans (AG lP hge) hlt);have fc:h1.objs.size≠c':=CC hlt;have k1:∀b o,b≠P->s.heap.get? b=some o->(h1.push fo).get? b=some o:=λb o n e=>Ag _ (hx b o n e)
 have old:∀b o,s.heap.get? b=some o->b≠c'/\b≠h1.objs.size:=λb o e =>
  ⟨AK (AG (Aq e) hge),AK (AG (Aq e) (A3 hge (BZ hlt)))⟩
 have val:∀b u,b≠P->H b=some u->upd (upd (upd H P (.tbl (ps++more))) c' (.frz oc anyO)) h1.objs.size (.frz fo anyO) b=some u:=λb u n e=>by have lb:=I.hok.lt e;rw[zag (AK (AG lb (A3 hge (BZ hlt)))),zag (AK (AG lb hge)),zag n];exact e
 have vP:upd (upd (upd H P (.tbl (ps++more))) c' (.frz oc anyO)) h1.objs.size (.frz fo anyO) P=some (.tbl (ps++more)):=by rw[zag fP.symm,zag cP.symm,zaa]
 have nP:∀b u,H b=some u->(∀qs,u≠.tbl qs)->b≠P:=λb u e n z=>by rw[z,hP]at e;exact n ps (A9 e).symm
 refine I.un ⟨λb o e n _ _=>?_,λb o e n _ _=>?_,λb o e n _=>?_,λb o e _=>?_,λb xs e=>?_,λb o u e=>?_,λb qs e=>?_⟩ λb u e=>?_
 .exact k1 b o (λz=>by rw[z,hP]at n;cases n) e
 .exact⟨o.slots,k1 b o (λz=>by rw[z,hP]at n;cases n) e⟩
 .obtain⟨n1,n2⟩:=old b o e;rw[zag n2,zag n1,zag (λz=>by rw[z,hP]at n;cases n)];exact n
 .by_cases z:b=P
  .rw[z];exact⟨_,Ag _ htb⟩
  .exact⟨o,k1 b o z e⟩
 .exact val b _ (nP b _ e nofun) e
 .exact val b _ (nP b _ e nofun) e
 .by_cases z:b=P
  .rw[z,hP]at e
   cases e
   exact⟨more,by rw[z];exact vP⟩
  .exact⟨#[],by rw[val b _ z e];simp⟩
 .by_cases hf:b=h1.objs.size
  .rw[hf,zaa]at e
   cases e
   rw[hf];exact⟨At _ hfo,trivial,⟨fo,At _ hfo⟩,λ_ _ _ _=>trivial⟩
  .rw[zag hf]at e
   by_cases hb:b=c'
   .rw[hb,zaa]at e
    cases e
    rw[hb];exact⟨Ag _ hc,trivial,⟨oc,Ag _ hc⟩,λ_ _ _ _=>trivial⟩
   .rw[zag hb]at e
    by_cases hz:b=P
    .rw[hz,zaa]at e
     cases e
     rw[hz];exact Ag _ htb
    .rw[zag hz]at e;refine (I.hok b u e).stay (λd v hd q=>k1 d v ?_ q) (λd q=>val d _ (nP d _ q nofun) q) λd xs q=>val d _ (nP d _ q nofun) q
     rcases hd with rfl |hd
     .exact hz
     .exact nP d _ hd nofun
noncomputable def IsLam(qual:Str)(params:Arguments)(body:Expr)(scope:Scope)(f:Addr)(H:Hp):Prop :=
 ∃c' ctv pm oc vs t,H f=some (.frz (W.kla_obj "<lambda>" qual params body scope [] pm c' ctv) anyO)/\H c'=some (.frz oc anyO)/\oc.data=.fields vs/\vs[1]?=some (.str qual t)
theorem IsLam.same{qual:Str}{params:Arguments}{body:Expr}{scope:Scope}{f:Addr}{H H':Hp}(h:IsLam qual params body scope f H)(s:Same H H'):IsLam qual params body scope f H' :=
 let ⟨c',ctv,pm,oc,vs,t,e1,e2,r⟩:=h
 ⟨c',ctv,pm,oc,vs,t,s _ _ e1,s _ _ e2,r⟩
noncomputable def tLam(P:Addr)(pos:Pos)(qual:Str)(params:Arguments)(body:Expr)(scope:Scope):TE:=λ_ H Q =>
 LamAt pos qual P H/\∀f H',But1 P H H'->LamAt pos qual P H'->H f=none->IsLam qual params body scope f H'->Q (.ref f) H'
theorem zny{pos:Pos}{c:Ac}:TriplesOk (#[Cg pos.line,Cg pos.col,c]:Array Ac).toList:=by simp[TriplesOk,Cg]
theorem zjB{pos:Pos}{c:Ac}:codeAmong pos (#[Cg pos.line,Cg pos.col,c]:Array Ac).toList=some c:=by simp[codeAmong,Cg]
theorem zn4 {c P:Addr}{params:Arguments}{body:Expr}{scope:Scope}{pos:Pos}{qual:Str}(hcd:X.env.code = .ref c) (hh:DY X.K c P=true) (hB:Bm X.mg X.base) (hq:X.env.qual ++ "<lambda>" = qual)
  (hfree:∀x∈scope.names,x.2≠.free:=by decide) (hdef:defaultsOf params X.env=([],[]):=by rfl):PE X (.Lambda params body scope pos) (tLam P pos qual params body scope):=by
 intro pins s σ H Q I h;obtain⟨⟨ps,hP,hps⟩,h⟩:=h;have hPs:s.heap.get? P=some (W.tabObj ps):=I.hok P _ hP
 have nb:∀b o,X.base.get? b=some o->b≠P:=λb o e z=>by
  have:=(I.bs b o e).2;rw[z,hP]at this
  cases this
 have hg:s.heap.Ns AU X.mg:=I.mod.glob.keeps I.bk
 have hgP:AU≠P:=by obtain⟨o,es,ep,e,_⟩:=I.mod.glob;exact nb _ o e
 have C:W.CodeHd s.heap c P:=W.codeHd_of_K I.kIn hh
 have hb:s.heap.BuiltinsAt X.mg P:=by obtain⟨bm,o,b1,b2,b3,b4,b5⟩:=hB;exact⟨bm,o,b1,b2,b3,nb _ o b4,I.bk _ _ b4,b5⟩
 have fr:∀b,s.heap.objs.size<=b->H b=none:=λb e=>I.hok.fresh e
 refine W.kla_eval hdef ?_
 rw[hq];rcases hps with rfl |⟨c',oc,vs,t,rfl,hc',hd,hv⟩
 .refine W.kla_makeFunction (mg:=X.mg) (clos:=[]) (closureFor_none hfree) I.ok.glob hg hcd C hPs trivial rfl hgP hb λc' ctv h' tk hx hge hlt hrec htb=>?_
  obtain⟨c2,oc,vs,t,e2,hoc,hd,hv⟩:=hrec
  cases e2
  have lP:P<s.heap.objs.size:=Aq hPs;have cP:c'≠P:=CC (AG lP hge);have fP:h'.objs.size≠P:=CC (Nat.lt_trans (AG lP hge) hlt);refine⟨.ref h'.objs.size,_,I.lamNew (more:=#[Cg pos.line,Cg pos.col,.ref c']) hP hx hge hlt hoc htb rfl,rfl,h _ _ ?_ ?_ (fr _ (A3 hge (BZ hlt))) ⟨c',ctv,_,oc,vs,t,zaa,?_,hd,hv⟩⟩
  .intro b o n e;rw[zag (λz=>by rw[z,fr _ (A3 hge (BZ hlt))]at e;cases e),zag (λz=>by rw[z,fr _ hge]at e;cases e),zag n];exact e
  .refine⟨#[]++#[Cg pos.line,Cg pos.col,.ref c'],?_,.inr ⟨c',oc,vs,t,by simp,?_,hd,hv⟩⟩
   .rw[zag fP.symm,zag cP.symm,zaa]
   .rw[zag (AK hlt),zaa]
  .rw[zag (AK hlt),zaa]
 .refine W.kla_makeFunctionHit (mg:=X.mg) (clos:=[]) (cv:=.ref c') (closureFor_none hfree) I.ok.glob hg hcd C hPs zny zjB hb λctv h' tk hk hsz=>?_
  have hf:H h'.objs.size=none:=fr _ hsz;refine⟨.ref h'.objs.size,upd H h'.objs.size (.frz (W.kla_obj "<lambda>" qual params body scope [] ((X.mg "__name__").getD .none) c' ctv) anyO),?_,rfl,h _ _ ?_ ?_ hf ⟨c',ctv,(X.mg "__name__").getD .none,oc,vs,t,zaa,?_,hd,hv⟩⟩
  .have I1:Inv X pins σ H { s with heap:=h',toks:=tk }:=I.kept (t':=tk) hk;have I2:=I1.un (h':=h'.push (W.kla_obj "<lambda>" qual params body scope [] ((X.mg "__name__").getD .none) c' ctv)) (t':=tk) (Un.laid (a:=h'.objs.size) (o:=.frz (W.kla_obj "<lambda>" qual params body scope [] ((X.mg "__name__").getD .none) c' ctv) anyO) (λb u e=>Ag _ e) (Ai _) hf) (I1.hok.laid (λb u e=>Ag _ e) (Ai _) ⟨At _ rfl,trivial,⟨_,At _ rfl⟩,λ_ _ _ _=>trivial⟩);exact I2
  .intro b o n e;rw[zag (λz=>by rw[z,hf]at e;cases e)];exact e
  .refine⟨_,by rw[zag (zam hP hf)];exact hP,.inr ⟨c',oc,vs,t,rfl,?_,hd,hv⟩⟩;rw[zag (zam hc' hf)];exact hc'
  .rw[zag (zam hc' hf)];exact hc'
end
theorem znV{P:AQ}{w:Bg}{K:W.Frag}{mg:Str -> Option Ac}{base:Heap}{k:Nat}{f c':Addr}{qual:Str}{params:Arguments}{body:Expr}{scope:Scope}{pm ctv:Ac}{oc:Obj}{ws:Array Ac}{t:Tok}
  {N ps:List Str} {A:AY} {outer:List Env} {s:Ae} {H:Hp} {us:List Ac} {vs:List V} {Q:VK} {te:TE} (hr:Room (k+1) A) (e0:Env0 P w K mg base A outer s H)
  (hf:H f=some (.frz (W.kla_obj "<lambda>" qual params body scope [] pm c' ctv) anyO)) (hc:H c'=some (.frz oc anyO)) (hd:oc.data=.fields ws) (hv:ws[1]?=some (.str qual t)) (S:FnScope N ps scope)
  (hb:Ex (W.kla_fn "<lambda>" qual params body scope [] pm (.ref c') ctv) ⟨us,[]⟩=pure (ps.zip us)) (hl:vs.length=ps.length) (r:Vals vs us)
  (hbody:PE (cxOf CX0 P w K mg base N qual scope f (.ref c') A outer s H E0).nox body te) (hq:te (start N vs) H Q) :
  CT (An P w) A (.call (.ref f) ⟨us,[]⟩) (CR CX0 outer P w H s Q E0) s:=by
 have lim:s.heap.NoLimit:=e0.mod.nolimit.keeps λb o e=>(e0.bs b o e).1
 have hfo:=(e0.hok f _ hf).1;have hco:=(e0.hok c' _ hc).1
 have hkind:∀y∈ps.zip us,scope.names.lookup y.1=some .local∨(scope.names.lookup y.1=some .cell/\((cellsFrom (s.heap.objs.size+1) scope.names []).lookup y.1).isSome=true):=λ⟨n,v⟩ hy=>by
  rcases S.par n (List.of_mem_zip hy).1 with q |q
  .exact .inl q
  .exact .inr ⟨q,W.cellsFrom_some _ _ _ (.inl q)⟩
 refine W.kla_callFunE hr.depth hfo rfl S.co S.gen rfl ⟨c',oc,ws,t,rfl,hco,hd,hv⟩ ?_
 rw[hb];refine Af ?_
 refine wpAny_newFunctionEnv_cells S.kind hkind λenv he s1 x=>?_
 subst he;refine⟨lim.keeps x.toInCall.keep,W.kla_codeExpr ?_⟩;have I:Inv (cxOf CX0 P w K mg base N qual scope f (.ref c') A outer s H E0) [] (start N vs) H s1:=zgU S hr.hd e0 hl r x;refine B3 (hbody.nox [] s1 (start N vs) H _ I hq) (λu s' hs=>?_) λe s' hs=>hs
 obtain⟨v,H',J,rv,q⟩:=hs;exact⟨v,H',J.os,J.bare,J.base,J.hok,rv,q⟩
section
variable {X:Cx}{f:Addr}{qual:Str}{params:Arguments}{body:Expr}{scope:Scope}{N ps:List Str}{σ:St}{H0:Hp}{k:Nat}{te:TE}{xs:List V}{κV:Nat->List V}
theorem zoh {x:Str}(L:IsLam qual params body scope f H0) (hr:Room (k + 1 + 1 + 1) X.A) (S:FnScope N [x] scope) (hb:∀(pm ctv:Ac) (c':Addr) (u:Ac), Ex (W.kla_fn "<lambda>" qual params body scope [] pm (.ref c') ctv) ⟨[u], []⟩ = pure [(x, u)])
  (hbody:∀(c':Addr) (A:AY) (outer:List Env) (s:Ae) (H:Hp),PE (cxOf CX0 X.prog X.w X.K X.mg X.base N qual scope f (.ref c') A outer s H E0).nox body te)
  (turn:∀i x H,xs[i]?=some x->Same H0 H->te (start N [x]) H (λv H'=>Same H H'/\∃a,v=.ref a/\SqT X.K H' a (κV i))):zhg X σ H0 f xs κV:=by
 intro pins i x u H s hx hS I ru;obtain⟨c',ctv,pm,oc,ws,t,e1,e2,e3,e4⟩:=L.same hS;refine wpAny_call (Ek (znV (k:=k) (vs:=[x]) (us:=[u]) hr.in1.in1 I.env0.in1.in1 e1 e2 e3 e4 S (hb pm ctv c' u) rfl (.cons ru .nil) (hbody c' _ _ _ _) (turn i x H hx hS)) λr s' hq=>?_)
 cases r with
 |error e=>exact BD hq
 |ok fl =>
  cases fl with
  |ret u=>exact I.after hq
  |next=>exact BD hq
  |brk=>exact BD hq
  |cont=>exact BD hq
end
section
variable {X:Cx}{p pos lpos kpos:Pos}{e body:Expr}{te tb:TE}{k:Nat}{c P:Addr}{params:Arguments}{scope:Scope}{qual x:Str}{N:List Str}
noncomputable def znz(K:W.Frag)(lpos:Pos)(qual:Str)(P:Addr)(N:List Str)(te tb:TE):TE:=λσ H Q=>te σ H λv H1=>∃l xs,∃ κV:Nat->List V,∃ κ:Nat->List Int,[v]=[V.ref l]/\LamAt lpos qual P H1/\SqL K H1 l xs/\xs.length<=1000 /\
 (∀i x H2,xs[i]?=some x->But1 P H1 H2->tb (start N [x]) H2 (λv H'=>Same H2 H'/\∃a,v=.ref a/\SqT K H' a (κV i))) /\
 (∀i j,i<xs.length->j<xs.length->∃n m r q rn rm,κV i=.int n::r/\κV j=.int m::q/\VCols r q rn rm/\κ i=n::rn/\κ j=m::rm)/\∀(p:List Nat) D H',p.Perm (Bk xs.length)->p.Pairwise (λi j=>HT.lexLt (κ j) (κ i)=false)->H1 D=none->But1 P H1 H'->LamAt lpos qual P H'->H' D=some (.lst (p.map λi=>xs.getD i .non))->Q (.ref D) H'
theorem zlF (hr:Room (k + 1 + 1 + 1) X.A) (hg:Gl X "sorted") (hm:X.mg "sorted" = none) (hcd:X.env.code = .ref c) (hh:DY X.K c P=true) (hB:Bm X.mg X.base) (hq:X.env.qual ++ "<lambda>" = qual)
  (S:FnScope N [x] scope) (hb:∀(pm ctv:Ac) (c':Addr) (u:Ac),Ex (W.kla_fn "<lambda>" qual params body scope [] pm (.ref c') ctv) ⟨[u],[]⟩=pure [(x,u)]) (he:PE X e te)
  (hbody:∀(f c':Addr) (A:AY) (outer:List Env) (s:Ae) (H:Hp),PE (cxOf CX0 X.prog X.w X.K X.mg X.base N qual scope f (.ref c') A outer s H E0).nox body tb)
  (hfree:∀x∈scope.names,x.2≠.free:=by decide) (hdef:defaultsOf params X.env=([],[]):=by rfl)
  (hse:Bh [e] X.env=[(false,eval e X.env)]:=by rfl) (hh':X.calm=true:=by rfl)
  (hall:(DN pos (Cz [⟨some "key",.Lambda params body scope lpos,kpos⟩] X.env)).all (·.1.isSome)=true:=by rfl) (hkw:(DN pos (Cz [⟨some "key",.Lambda params body scope lpos,kpos⟩] X.env)).any (·.1.isNone)=false:=by rfl)
  (hks:(DN pos (Cz [⟨some "key",.Lambda params body scope lpos,kpos⟩] X.env)).filterMap (·.1)=[Bx "key"]:=by rfl) :
  PE X (.Call (.Name "sorted" p) [e] [⟨some "key",.Lambda params body scope lpos,kpos⟩] pos) (znz X.K lpos qual P N te tb):=by
 intro pins s σ H Q I h;refine Cw (zck I hg hm boot_sorted ?_ (by decide) (by decide));refine callWith_kw (thn (zai he zab (hs:=hse) pos pins s σ H (λvs H1=>∃l xs,∃ κV:Nat->List V,∃ κ:Nat->List Int,vs=[V.ref l]/\LamAt lpos qual P H1/\SqL X.K H1 l xs/\xs.length<=1000 /\
 (∀i x H2,xs[i]?=some x->But1 P H1 H2->tb (start N [x]) H2 (λv H'=>Same H2 H'/\∃a,v=.ref a/\SqT X.K H' a (κV i))) /\
 (∀i j,i<xs.length->j<xs.length->∃n m r q rn rm,κV i=.int n::r/\κV j=.int m::q/\VCols r q rn rm/\κ i=n::rn/\κ j=m::rm)/\∀(p:List Nat) D H',p.Perm (Bk xs.length)->p.Pairwise (λi j=>HT.lexLt (κ j) (κ i)=false)->H1 D=none->But1 P H1 H'->LamAt lpos qual P H'->H' D=some (.lst (p.map λi=>xs.getD i .non))->Q (.ref D) H') I ?_) λus s1 ⟨vs,H1,I1,r,q⟩=>?_) (by rw[hse];rfl) (by rw[hse];rfl) hall hkw
 .show te σ H _;exact h
 .obtain⟨l,xs,κV,κ,rfl,hL,hsq,h64,turn,hcol,hQ⟩:=q;obtain⟨u,rfl,ru⟩:=Vals.one r
  cases (show u=Au l from ru)
  refine thn (zhy (nm:=some "key") (kpos:=kpos) (zn4 (pos:=lpos) (body:=body) hcd hh hB hq hfree hdef) zj9 pos pins s1 σ H1 (λzs H2=>∃f,zs=[.ref f]/\But1 P H1 H2/\LamAt lpos qual P H2/\IsLam qual params body scope f H2) I1 ⟨hL,λf H' h1 h2 h3 h4=>⟨f,rfl,h1,h2,h4⟩⟩) λws s2 ⟨zs,H2,I2,rz,q2⟩=>?_
  obtain⟨f,rfl,hbut,hL2,hIL⟩:=q2;obtain⟨u2,rfl,ru2⟩:=Vals.one rz
  cases (show u2=Au f from ru2)
  rw[hks];refine zff (G:=Ordd κ xs.length) (zoh hIL hr S hb (λc' A outer s H=>hbody f c' A outer s H) λi x H hx hS=>turn i x H hx (hbut.trans hS.but1)) (hbut.seq hL hsq) (λp hp i hi=>?_) (λh2=>⟨EL _,?_⟩) (λ{vs ks H' s' D st e} r' K' hks h2=>?_) (λp D H' g hp hD hS hH=>hQ p.toList D H' ?_ g.2 ?_ (hbut.trans hS.but1) (hL2.same hS) hH) I2
  .have:=hp.1.mem_iff.mp (show i∈p by simpa using hi);simpa using this
  .rw[BA];intro i j hi hj hij;simp at hi hj;lia
  .have hlx:xs.length=vs.length:=r'.length;rw[hlx];exact zk3 K' hks h2 λi j hi hj=>hcol i j (by lia) (by lia)
  .have:=Ei.mp g.1;simpa using this
  .cases q:H1 D with
   |none=>rfl
   |some o =>
    by_cases hz:D=P
    .obtain⟨ps,e,_⟩:=hL2;rw[hz,e]at hD
     cases hD
    .rw[hbut D o hz q]at hD
     cases hD
end
theorem zky{P:AQ}{w:Bg}{K:W.Frag}{mg mb:Str -> Option Ac}{CX:CXT}{k:Nat}{fa a:Addr}{fd:Cc}{x:Str}{sp:Sp}{s₁ : Ae}{vs:List Ac}{ns:List Int}{ts:List Addr}
    (KX:K.In s₁.heap) (hns:s₁.heap.Ns AU mg) (hb:s₁.heap.Ns builtinsNs mb) (hbb:∀x:Str,x ≠ "__name__" -> mb x=bootBuiltins x) (hlim:s₁.heap.NoLimit) (hg:s₁.gens=#[])
    (ha:s₁.heap.get? a=some { cls:=.type "list",data:=.seq vs.toArray }) (hi:CU vs ns) (hl:ns.length<=sizeLine) (hr:Room k callerA)
    (hts:∀P∈ts,s₁.heap.get? P=some (W.tabObj #[])) (hno:∀P∈ts,K.lookup P=none) (hcd:∀P∈ts,∃c,DY K c P=true) (hBm:Bm mg s₁.heap)
    (F:∀base:Heap,K.In base->base.Ns AU mg->Bm mg base->FnOk P w K mg base CX k fa fd [x] sp) (hbind:∀(s:Ae) (u:Ac),BindsTo s fd ⟨[u],[]⟩ [(x,u)])
    (hsp:∀H:Hp,(∀P∈ts,H P=some (.tbl #[]))->SqL K H a (ns.map V.int)->sp [.ref a] H (λv _=>v=.bl true) λ_ _ _=>False)
    (hCX:∀H e s',CX [] H s₁ (λ_ _ _=>False) e s'->False) :
    CT (An P w) callerA (.call (.ref fa) ⟨[.ref a],[]⟩) (λr s'=>r=.ok (.ret (.bool true))/\OldK s₁.heap s'.heap/\s'.os=s₁.os/\AllBare s'.gens) s₁:=by
  have rv:=zc8 hi;have lenV:=hi.length
  have aT:a ∉ ts:=λz=>by
    have:=hts a z;rw[ha]at this
    cases this
  have core:∀H:Hp, (∀b, H b=none ∨ (b ∈ ts /\ H b=some (.tbl #[])) ∨ (b=a /\ K.lookup a=none /\ ∃o xs, H b=some (.frz o (.lst xs)))) -> (∀P ∈ ts, H P=some (.tbl #[])) -> SqL K H a (ns.map V.int) -> HOk P w H s₁.heap ->
      CT (An P w) callerA (.call (.ref fa) ⟨[.ref a],[]⟩) (λr s'=>r=.ok (.ret (.bool true))/\OldK s₁.heap s'.heap/\s'.os=s₁.os/\AllBare s'.gens) s₁:=by
    intro H hO hT hS hok;have base_of:∀{b:Addr} {o:Obj},s₁.heap.get? b=some o->H b=none->(hidT s₁.heap H).get? b=some o:=λe n=>zlY e n
    have noA:∀{b:Addr} {o:Obj},s₁.heap.get? b=some o->(∀x n,o.data≠.seq x n)->(∀x,o.data≠.fields x)->H b=none:=λ{b o} e d1 d2=>by
      rcases hO b with z |⟨z,_⟩ |⟨rfl,_⟩
      . exact z
      . rw[hts b z]at e
        cases e
        exact absurd rfl (d2 _)
      . rw[ha]at e
        cases e
        exact absurd rfl (d1 _ _)
    have nsK:∀{b:Addr} {m:Str->Option Ac},s₁.heap.Ns b m->(hidT s₁.heap H).Ns b m:=λ{b m} ⟨o,es,ep,e,d,r⟩=>⟨o,es,ep,base_of e (noA e (λx n z=>by rw[d]at z;cases z) λx z=>by rw[d]at z;cases z),d,r⟩
    have hKb:K.In (hidT s₁.heap H):=λb o e=>base_of (KX b o e) (by
      rcases hO b with z |⟨z,_⟩ |⟨rfl,z,_⟩
      . exact z
      . rw[hno b z]at e;cases e
      . rw[z]at e;cases e)
    have hM:Mod K mg (hidT s₁.heap H):=⟨hKb,nsK hns,⟨mb,nsK hb,hbb⟩,let ⟨mc,h1,h2⟩:=hlim;⟨mc,nsK h1,h2⟩⟩
    have hBb:Bm mg (hidT s₁.heap H):=by obtain⟨bm,o,b1,b2,b3,b4,b5,b6,b7⟩:=hBm;exact⟨bm,o,b1,b2,b3,base_of b4 (noA b4 (λx n z=>by rw[b7]at z;cases z) λx z=>by rw[b7]at z;cases z),b5,b6,b7⟩
    have e0:Env0 P w K mg (hidT s₁.heap H) callerA [] s₁ H:=⟨rfl,hM,λb o e=>zm5 e,Nat.le_of_eq (zkK _ _),trivial,λb hb=>absurd (show b∈([]:List Addr) from hb) (by simp),hok,.of_eq hg⟩;refine Ek ((F _ hKb (nsK hns) hBb).run callerA [] s₁ H ⟨[.ref a],[]⟩ [.ref a] [.ref a] _ _ hr e0 (hbind s₁ (.ref a)) (.cons rfl .nil) (hsp H hT hS)) λr s' h=>?_
    cases r with
    |error e=>exact (hCX H e s' h).elim
    |ok fl =>
      cases fl with
      |next=>exact BD h
      |brk=>exact BD h
      |cont=>exact BD h
      |ret u =>
        obtain⟨v,H',os,bare,un,hok',r',q⟩:=h;have q':v=.bl true:=q;subst q';obtain rfl:u=EN true:=r';refine⟨rfl,⟨λb o e=>?_,λb o e=>un.there b o e (by simp)⟩,os,bare⟩;rcases hO b with z |⟨z,z1⟩ |⟨rfl,_,ob,xs,z⟩
        . exact .inl (un.keep b o e z (by intro z;exact absurd (show b∈([]:List Addr) from z) (by simp)) (by simp))
        . have e':=hts b z;rw[e]at e'
          cases e'
          obtain⟨more,z2⟩:=un.tbls b _ z1;obtain⟨c,hc⟩:=hcd b z;obtain⟨oc,ws,_,_,_,_,_,_,_,c1,c2,c3,c4,_⟩:=W.codeHd_of_K KX hc;exact .inr (.inl ⟨⟨c,oc,ws,c1,c2,c3,c4⟩,rfl,#[],more,rfl,hok' b _ z2⟩)
        . have z2:=un.frzs b ob _ z;obtain⟨e1,_⟩:=hok b _ z;obtain⟨e2,_⟩:=hok' b _ z2;rw[e]at e1;cases e1;exact .inl e2
  cases hk:K.lookup a with
  |some o =>
    have e:=KX a o hk;rw[ha]at e
    cases e
    refine core (λb=>if b∈ts then some (.tbl #[]) else none) (λb=>?_) (λP hP=>if_pos hP) (.inr ⟨_,vs.toArray,_,hk,rfl,rfl,rfl,by rw[AF,lenV];exact hl,by simpa using rv⟩) λb u z=>?_
    . by_cases hb:b∈ts
      . exact .inr (.inl ⟨hb,if_pos hb⟩)
      . exact .inl (if_neg hb)
    . by_cases hb:b∈ts
      . have z':=(if_pos hb).symm.trans z
        cases z'
        exact hts b hb
      . have z':=(if_neg hb).symm.trans z
        cases z'
  |none =>
    refine core (λb=>if b∈ts then some (.tbl #[]) else if b=a then some (.frz { cls:=.type "list",data:=.seq vs.toArray } (.lst (ns.map V.int))) else none) (λb=>?_) (λP hP=>if_pos hP) (.inl (.inr ⟨{ cls:=.type "list",data:=.seq vs.toArray },(if_neg aT).trans (if_pos rfl)⟩)) λb u z=>?_
    . by_cases hb:b∈ts
      . exact .inr (.inl ⟨hb,if_pos hb⟩)
      . by_cases hb2:b=a
        . exact .inr (.inr ⟨hb2,hk,_,_,(if_neg hb).trans (if_pos hb2)⟩)
        . exact .inl ((if_neg hb).trans (if_neg hb2))
    . by_cases hb:b∈ts
      . have z':=(if_pos hb).symm.trans z
        cases z'
        exact hts b hb
      . have z0:=(if_neg hb).symm.trans z
        by_cases hb2:b=a
        . have z':=(if_pos hb2).symm.trans z0
          cases z'
          subst hb2;exact⟨ha,by rw[Ah];exact hl,vs,_,rv,ha⟩
        . have z':=(if_neg hb2).symm.trans z0
          cases z'
theorem zn8{K:W.Frag}{as:List Addr}(e:as=K.map (·.1)){b:Addr}(h:b ∉ as):K.lookup b=none:=by
 cases q:K.lookup b with
 |none=>rfl
 |some o =>
  subst e;exact absurd (AE.mpr ⟨(b,o),W.mem_of_lookupK q,rfl⟩:b∈List.map (λx=>x.fst) K) h
theorem km_all{K:Params -> W.Frag}{as:List Addr}{e:∀P, as=(K P).map (·.1)}{ts:List Addr}(d:(ts.all λt => !as.contains t)=true)(w:Bg)(h:Heap)(Y:(W.kmHook K as e ts).says w h) :
  (K w.params).In h/\(∀P∈ts,h.get? P=some (W.tabObj #[]))/\∀P∈ts,(K w.params).lookup P=none :=
 ⟨W.km_in_of Y,W.km_tabs_of Y,λP hP=>zn8 (e w.params) λz=>by have:=List.all_eq_true.mp d P hP;simp[z]at this⟩
theorem walk_ofL{l:W.OpenLaw}{n k:Nat}{q:AQ}{loose:List Str}{XP:(Str -> Option Ac) -> Heap -> Prop}{YP:Bg -> Heap -> Prop}{d:DefRec}{K:Params -> W.Frag}{CX:Bg -> CXT}{sp:Bg -> Sp}{x:Str}{ts:List Addr}
  (hn:l.most=some n) (hn2:n<=sizeLine) (hdf:d.params.defaults=[]) (hr:Room k callerA)
  (hY:∀(w:Bg) (h:Heap),YP w h->(K w.params).In h/\(∀P∈ts,h.get? P=some (W.tabObj #[]))/\∀P∈ts,(K w.params).lookup P=none)
  (F:∀(w:Bg) (mg:Str->Option Ac) (fa:Addr) (h:Heap),(K w.params).In h->h.Ns AU mg->mg d.name=some (.ref fa) ->
   ∃fd:Cc,(∀(s:Ae) (u:Ac),BindsTo s fd ⟨[u],[]⟩ [(x,u)])/\(∀P∈ts,∃c,DY (K w.params) c P=true) /\
    ∀base:Heap,(K w.params).In base->base.Ns AU mg->Bm mg base->FnOk l.prog w (K w.params) mg base (CX w) k fa fd [x] (sp w))
  (hsp:∀(w:Bg) (H:Hp) (a:Addr) (ns:List Int),ns.length<=n->(∀P∈ts,H P=some (.tbl #[]))->SqL (K w.params) H a (ns.map V.int)->sp w [.ref a] H (λv _=>v=.bl true) λ_ _ _=>False)
  (hCX:∀(w:Bg) (H:Hp) (s:Ae) (e:Ac) (s':Ae),CX w [] H s (λ_ _ _=>False) e s'->False) :
  W.WalkO q loose XP YP l.row.toRowW d [] (λf vs=>PySem.call f vs):=by
 refine Att.attach_call hn hdf λw s₀ s₁ mg mb fa o pm cd doc a vs ns G Y ho hd hcd hmg hobj hints hlen hg=>?_
 obtain⟨KX,hts,hno⟩:=hY w _ Y;obtain⟨fd,hb,hc,hF⟩:=F w mg fa _ KX G.T.g hmg
 have hB:Bm mg s₁.heap:=by obtain⟨bm,ob,b1,b2,b3,b4,b5,b6⟩:=G.T.bmain;refine⟨bm,ob,b1,b2,λq=>?_,b3,b4,b5,b6⟩;obtain⟨o,es,ep,e,hd,_⟩:=G.T.g;rw[q,e]at b3;cases b3;rw[hd]at b6;cases b6
 exact zky KX G.T.g G.T.b G.T.builtins G.T.nolimit hg hobj hints (A3 hlen hn2) hr hts hno hc hB hF hb (λH hT hS=>hsp w H a ns hlen hT hS) λH e s'=>hCX w H s₁ e s'
theorem Fun.okL{P:AQ}{w:Bg}{K:W.Frag}{mg:Str -> Option Ac}{base:Heap}{x qual:Str}{st:Stmt}{f c:Addr}{fd:Cc}{N ps:List Str}{k:Nat}{sp:Sp}(F:Fun K x qual st f fd)(hc:fd.code = .ref c)(S:FnScope N ps (zad st))(len:∀vs H Q E, sp vs H Q E -> vs.length=ps.length)
  (hbody:∀(A:AY) (outer:List Env) (s:Ae) (H:Hp) (vs:List V) (Q:VK) (E:XK),Room k (A.deeper (envOfC qual (zad st) s.heap.objs.size f (.ref c)))->sp vs H Q E ->
   ∃t,PSs (cxOf CX0 P w K mg base N qual (zad st) f (.ref c) A outer s H E).nox (zaU st) t/\t { nx:=λ_ H'=>Q .non H',rt:=Q } (start N vs) H):FnOk P w K mg base CX0 (k+1) f fd ps sp:=by
 obtain⟨oc,od,kV,doc,pm,an,cdv,ct,osl,rfl,lk,hcd⟩:=F.ex
 cases (show cdv=.ref c from hc)
 refine fn_of lk hcd S len λA outer s H vs Q E hr hsp=>?_
 obtain⟨t,h,q⟩:=hbody A outer s H vs Q E hr hsp;exact⟨t,h.nox,q⟩
noncomputable def hdOk(vs:Array Ac)(c P:Addr):Bool := (match (vs[11]? : Option Ac) with |some (.ref P') => P' == P |_ => false) &&
   (match vs.getD 18 .none with |.str _ _=>true |_=>false) && (match vs.getD 7 .none with |.int _ _=>true |_=>false) &&
   (match vs.getD 9 .none with |.bool _=>true |_=>false) && (match vs.getD 10 .none with |.int _ _=>true |_=>false) && c != P
theorem hd_of {K:W.Frag}{c P:Addr}{od:Option Addr}{vs:Array Ac}{sl:Array (Option Ac)}(l:K.lookup c=some ⟨.type "code",od,.fields vs,sl⟩) (h:hdOk vs c P=true):DY K c P=true:=by unfold DY;rw[l];exact h
open PySem
theorem sC{N P:List Str}{sc:Scope}(a:sc.kind = .function := by rfl)(b:sc.isCoroutine=false := by rfl)(c:sc.isGenerator=false := by rfl)(d:N.Nodup := by decide +kernel)(e:N.take P.length=P := by rfl)
  (f:∀x∈P,sc.names.lookup x=some .local∨sc.names.lookup x=some .cell:=by decide +kernel) (g:∀y∈sc.names,y.2≠.free:=by decide +kernel):FnScope N P sc:=⟨a,b,c,d,e,f,g⟩
section
variable {X:Cx}{k j:Nat}{x:Str}{ps:List Str}{sp:Sp}{e:Expr}{es:List Expr}{t:TA}{te:TE}{p pos pos':Pos}
theorem pC (g:Fn X.prog X.w X.K X.mg X.base k x ps sp) (hr:Room j X.A) (ha:PA X (e :: es) t) (hj:k <= j := by decide) (hg:Gl X x := by rfl) (hdb:(x == ("__debug__" : Str))=false := by decide)
  (he:Bh (e::es) X.env=(false,eval e X.env)::Bh es X.env:=by rfl) (hpl:(EO pos (Bh es X.env)).any (·.1)=false:=by rfl):PE X (.Call (.Name x p) (e::es) [] pos) (tCall sp [] E0 t) :=
 zm0 g.ok (hr.mono hj) hg g.m g.kp g.b .nil pass0 ha hdb he hpl
theorem nG(i:Nat)(hN:X.N.Nodup)(hi:X.N[i]?=some x:=by rfl)(hx:Loc X.env.scope x:=by exact Or.inl rfl)(hf:X.fn x=true∨X.env.scope.names.lookup x=some .local:=by first |exact .inl rfl |exact .inr rfl |assumption):PG X (.Name x pos) (gName i) :=
 zdx hN hi hx hf
theorem sE(i:Nat)(hN:X.N.Nodup)(he:PE X e te)(hi:X.N[i]? = some x := by rfl)(hx:Loc X.env.scope x := by exact Or.inl rfl)(hs:swapsWith e (some (.Name x pos')) pos.line X.env=pure false := by rfl)
  (hf:X.fn x=true∨X.env.scope.names.lookup x=some .local:=by first |exact .inl rfl |exact .inr rfl |assumption):PS X (.Assign [.Name x pos'] e pos) (tAsg te (gName i)) :=
 zgB hN hi hx he hs hf
end
theorem bO{osc:Scope}{N:List Str}{sc:Scope}{N':List Str}{sel:List (Option Nat)}(a:sc.kind = .function := by rfl)(b:∀y ∈ sc.names, y.2 ≠ .cell := by decide +kernel)(c:∀y ∈ sc.names, y.2 = .local -> sc.names.lookup y.1=some .local := by decide +kernel)
  (d:∀y∈sc.names,y.2=.free->osc.names.lookup y.1=some .cell∨osc.names.lookup y.1=some .free:=by decide +kernel) (e:sel.length=N'.length:=by rfl) (f:∀p∈sel.zip N',∀i∈p.1,N[i]?=some p.2/\sc.names.lookup p.2=some .free:=by decide +kernel):BlkOk osc N sc N' sel:=⟨a,b,c,d,e,f⟩
section
variable {K:W.Frag}{x qual:Str}{st:Stmt}{f:Addr}{fd:Cc}
theorem Fun.b1{p0:Str}(F:Fun K x qual st f fd)(h:∀(kV doc pm:Ac) (an:Option Addr) (cdv ct a0:Ac),Ex (Es x qual (zbb st) (zaU st) (zad st) .none kV doc pm an cdv ct) ⟨[a0],[]⟩=pure [(p0,a0)]:=by intros;rfl):Binds K fd [p0] [] :=
 F.binds λkV doc pm an cdv ct us hl=>match us,hl with |[a0],_=>h kV doc pm an cdv ct a0
theorem Fun.b2{p0 p1:Str}(F:Fun K x qual st f fd)(h:∀(kV doc pm:Ac) (an:Option Addr) (cdv ct a0 a1:Ac),Ex (Es x qual (zbb st) (zaU st) (zad st) .none kV doc pm an cdv ct) ⟨[a0,a1],[]⟩=pure [(p0,a0),(p1,a1)]:=by intros;rfl):Binds K fd [p0,p1] [] :=
 F.binds λkV doc pm an cdv ct us hl=>match us,hl with |[a0,a1],_=>h kV doc pm an cdv ct a0 a1
theorem Fun.b3{p0 p1 p2:Str}(F:Fun K x qual st f fd)(h:∀(kV doc pm:Ac) (an:Option Addr) (cdv ct a0 a1 a2:Ac),Ex (Es x qual (zbb st) (zaU st) (zad st) .none kV doc pm an cdv ct) ⟨[a0,a1,a2],[]⟩=pure [(p0,a0),(p1,a1),(p2,a2)]:=by intros;rfl):Binds K fd [p0,p1,p2] [] :=
 F.binds λkV doc pm an cdv ct us hl=>match us,hl with |[a0,a1,a2],_=>h kV doc pm an cdv ct a0 a1 a2
end
noncomputable def DA(K:W.Frag)(x:Str)(st:Stmt):Prop:=∃(f:Addr) (od an:Option Addr) (sl:Array (Option Ac)) (oc kV dc pm cd ct:Ac),DS K AU x=some (some (.ref f)) /\
 K.lookup f=some ⟨oc,od,.func (Es x x (zbb st) (zaU st) (zad st) .none kV dc pm an cd ct),sl⟩/\W.codeIn K cd x=true/\W.keepIn K (.ref f)=true
section
variable {K:W.Frag}{mg:Str->Option Ac}{h:Heap}{x:Str}{st:Stmt}
theorem DA.mk{f:Addr}{od an:Option Addr}{sl:Array (Option Ac)}{oc kV dc pm cd ct:Ac}(a:DS K AU x=some (some (.ref f)))
  (l:K.lookup f=some ⟨oc,od,.func (Es x x (zbb st) (zaU st) (zad st) .none kV dc pm an cd ct),sl⟩) (c:W.codeIn K cd x=true) (k:W.keepIn K (.ref f)=true):DA K x st :=
 ⟨f,od,an,sl,oc,kV,dc,pm,cd,ct,a,l,c,k⟩
theorem DA.d1{p0:Str}(D:DA K x st)(X:K.In h)(G:h.Ns AU mg)(hb:∀(kV doc pm:Ac) (an:Option Addr) (cdv ct a0:Ac),Ex (Es x x (zbb st) (zaU st) (zad st) .none kV doc pm an cdv ct) ⟨[a0],[]⟩=pure [(p0,a0)]:=by intros;rfl):Nonempty (Df K mg x st [p0]):=by obtain⟨f,od,an,sl,oc,kV,dc,pm,cd,ct,a,l,c,k⟩:=D;exact⟨⟨f,_,zdM l c k,W.mg_of X G a,(zdM l c k).b1 hb⟩⟩
theorem DA.d2{p0 p1:Str}(D:DA K x st)(X:K.In h)(G:h.Ns AU mg)(hb:∀(kV doc pm:Ac) (an:Option Addr) (cdv ct a0 a1:Ac),Ex (Es x x (zbb st) (zaU st) (zad st) .none kV doc pm an cdv ct) ⟨[a0,a1],[]⟩=pure [(p0,a0),(p1,a1)]:=by intros;rfl):Nonempty (Df K mg x st [p0,p1]):=by obtain⟨f,od,an,sl,oc,kV,dc,pm,cd,ct,a,l,c,k⟩:=D;exact⟨⟨f,_,zdM l c k,W.mg_of X G a,(zdM l c k).b2 hb⟩⟩
theorem DA.d3{p0 p1 p2:Str}(D:DA K x st)(X:K.In h)(G:h.Ns AU mg)(hb:∀(kV doc pm:Ac) (an:Option Addr) (cdv ct a0 a1 a2:Ac),Ex (Es x x (zbb st) (zaU st) (zad st) .none kV doc pm an cdv ct) ⟨[a0,a1,a2],[]⟩=pure [(p0,a0),(p1,a1),(p2,a2)]:=by intros;rfl):Nonempty (Df K mg x st [p0,p1,p2]):=by obtain⟨f,od,an,sl,oc,kV,dc,pm,cd,ct,a,l,c,k⟩:=D;exact⟨⟨f,_,zdM l c k,W.mg_of X G a,(zdM l c k).b3 hb⟩⟩
end
open PySem PyProof.Rows
section
variable {X:Cx}{pos:Pos}
theorem zmX{body:List Stmt}{h0:ExceptHandler}{hs:List ExceptHandler}{t:TS}(hb:PSs X body t)(hx:∀e s,X.xe e s->False:=by intro _ _ h;exact h):PS X (.Try body (h0::hs) [] [] pos) t:=by
 intro pins s σ H D I h;refine wpAny_Try_except (B3 (hb pins s σ H D I h) ?_ ?_)
 .intro f s1 q
  cases f with
  |next=>exact EH q
  |_=>exact q
 .intro e s1 z;exact (hx e s1 z).elim
noncomputable def zmJ (ti:TE):TE:=λσ H Q=>ti σ H λy H1=>(y=.str "rim" ∨ y=.str "hole")/\Q (.bl true) H1
theorem zkf {i:Expr}{ti:TE}{p:Pos}(hg:Gl X "BEGIN_WAYS") (hw:Ways X.prog X.w X.K X.mg) (hsy:∀B,X.mg "BEGIN_WAYS" = some (.ref B)->(B == PySem.sysModules)=false) (hi:PE X i ti):PC X .In i (.Name "BEGIN_WAYS" p) (zmJ ti):=by
 intro pins s σ H Q I h;obtain⟨B,t1,t2,t3,t4,n,hm,hl⟩:=hw.ex;refine thn (hi pins s σ H _ I h) λiv s1 ⟨y,H1,I1,ry,hy,q1⟩=>thn ((zdy (v:=.ref B) hg hm rfl:PE X (.Name "BEGIN_WAYS" p) _) pins s1 σ H1 (λv H2=>v=V.ref B/\H2=H1) I1 ⟨rfl,rfl⟩) λu s2 ⟨x,H2,I2,rx,q2⟩=>?_
 obtain⟨rfl,rfl⟩:=q2;obtain rfl:u=Au B:=rx;have ho:s2.heap.get? B=some _:=I2.kIn B _ hl
 have mo:s2.heap.MapOf (zay X.prog X.w) B (PySem.findBy (zay X.prog X.w).is #[⟨BX X.w.params "rim",.str "rim" t1,.int 0 t2⟩,⟨BX X.w.params "hole",.str "hole" t3,.int 2 t4⟩]) :=
  ⟨_,_,_,ho,⟨rfl,rfl,rfl⟩,rfl,λe he=>by
   simp only[List.mem_toArray,Ax,Di,or_false]at he;rcases he with rfl |rfl
   .exact⟨.inr "rim",zba _ _ _ _,rfl⟩
   .exact⟨.inr "hole",zba _ _ _ _,rfl⟩,λ_=>rfl⟩
 rcases hy with rfl |rfl
 .exact wpAny_in_of (kV_is (k:=.inr "rim") ry) (hsy B hm) mo ⟨.bl true,_,I2.tok _,rfl,q1⟩
 .exact wpAny_in_of (kV_is (k:=.inr "hole") ry) (hsy B hm) mo ⟨.bl true,_,I2.tok _,rfl,q1⟩
theorem zki:OpR X (Bw .IsNot) (λx y H Q=>∃a b,x=.bl a/\y=.bl b/\Q (.bl (!(a == b))) H):=by
 intro pins s σ H x y v u Q I rx ry h;obtain⟨a,b,rfl,rfl,q⟩:=h
 cases rx
 cases ry
 have e:Bw .IsNot (.bool a) (.bool b)=pure (.bool (!(a == b))):=by cases a <;> cases b <;> rfl
 rw[e];exact Af ⟨.bl _,H,I,rfl,q⟩
theorem zm3{K:W.Frag}(hu:X.A.units<cLine)(hK:X.K=K:=by rfl):OpR X (Bw .Lt) (rLtC K):=by subst hK;exact zn5 hu
end
open PySem RP
theorem zhZ{es:List Edge}{e:Edge}(y:Int):upr (es++[e]) y=if isUp y e=true then upr es y++[px e] else upr es y:=by
 unfold upr;rw[DZ,Ay]
 by_cases h:isUp y e=true
 .simp[h]
 .simp[h]
structure UD (H0 H:Hp) (a:Addr) (es:List Edge) (kvs:List (Key×V)) (B:Int->Addr):Prop where
 dict:H a=some (.dK kvs)
 new:H0 a=none
 same:Same H0 H
 len:kvs.length<=es.length
 nd:(kvs.map (·.1)).Nodup
 keys:∀k∈kvs.map (·.1),∃y,k=Ct y/\upr es y≠[]
 at_:∀y,upr es y≠[]->valV kvs (.inl y)=some (.ref (B y))/\H (B y)=some (.lst ((upr es y).map V.int))/\H0 (B y)=none/\B y≠a
 inj:∀y z,upr es y≠[]->upr es z≠[]->B y=B z->y=z
 no:∀y,upr es y=[]->valV kvs (.inl y)=none
theorem UD.start{H0:Hp}{a:Addr}(h:H0 a=none):UD H0 (upd H0 a (.dK [])) a [] [] λ_=>0 where
 dict:=zaa
 new:=h
 same:=λb u e=>by rw[zag (zam e h)];exact e
 len:=Ai _
 nd:=.nil
 keys:=λ_ h=>(nomatch h)
 at_:=λy h=>absurd rfl h
 inj:=λy z h=>absurd rfl h
 no:=λ_ _=>rfl
variable {H0 H:Hp}{a z:Addr}{es:List Edge}{e:Edge}{kvs:List (Key×V)}{B:Int->Addr}
theorem UD.skip(h:UD H0 H a es kvs B)(hw:¬ (e.w=1∨e.w=3)):UD H0 H a (es++[e]) kvs B:=by
 have u:∀y,upr (es++[e]) y=upr es y:=λy=>by rw[zhZ,if_neg (λq=>hw (zbQ.mp q).1)]
 exact⟨h.dict,h.new,h.same,by rw[Av];exact Nat.le_succ_of_le h.len,h.nd,λk hk=>by obtain⟨y,q,r⟩:=h.keys k hk;exact⟨y,q,by rw[u];exact r⟩,
  λy hy=>by rw[u]at hy ⊢;exact h.at_ y hy,λy z hy hz=>h.inj y z (by rwa [u]at hy) (by rwa [u]at hz),λy hy=>h.no y (by rwa [u]at hy)⟩
theorem zjw(hw:e.w=1∨e.w=3)(y:Int):upr (es++[e]) y=if y=e.c.2 then upr es y++[px e] else upr es y:=by
 rw[zhZ]
 by_cases q:y=e.c.2
 .rw[if_pos (zbQ.mpr ⟨hw,q.symm⟩),if_pos q]
 .rw[if_neg (λz=>q (zbQ.mp z).2.symm),if_neg q]
theorem UD.more(h:UD H0 H a es kvs B)(hw:e.w=1 ∨ e.w=3)(hz:H z=none)(hy:upr es e.c.2 ≠ []) :
  UD H0 (upd (upd H z (.lst [])) (B e.c.2) (.lst ((upr es e.c.2).map V.int++[.int (px e)]))) a (es++[e]) kvs B:=by
 obtain⟨a1,a2,a3,a4⟩:=h.at_ _ hy;have u:=zjw (es:=es) hw;have nz:∀{b o},H b=some o->b≠z:=λq w=>by rw[w,hz]at q;cases q
 have ne:∀y,upr (es++[e]) y≠[] ↔ upr es y≠[]:=λy=>by
  rw[u]
  by_cases q:y=e.c.2
  .subst q;simp[hy]
  .simp[q]
 refine⟨?_,h.new,λb o q=>?_,by rw[Av];exact Nat.le_succ_of_le h.len,h.nd,λk hk=>?_,λy hy'=>?_,λy z' h1 h2=>h.inj y z' ((ne y).mp h1) ((ne z').mp h2),λy hy'=>h.no y ?_⟩
 .rw[zag a4.symm,zag (nz h.dict)];exact h.dict
 .have q':=h.same b o q;rw[zag (zam q a3),zag (nz q')];exact q'
 .obtain⟨y,q,r⟩:=h.keys k hk;exact⟨y,q,(ne y).mpr r⟩
 .obtain⟨b1,b2,b3,b4⟩:=h.at_ y ((ne y).mp hy');refine⟨b1,?_,b3,b4⟩;rw[u]
  by_cases q:y=e.c.2
  .subst q;rw[if_pos rfl,zaa,Ay];rfl
  .rw[if_neg q,zag (λw=>q (h.inj y _ ((ne y).mp hy') hy w)),zag (nz b2)];exact b2
 .exact Ba λw=>(ne y).mpr w hy'
theorem UD.first(h:UD H0 H a es kvs B)(hw:e.w=1 ∨ e.w=3)(hz:H z=none)(hy:upr es e.c.2 = []) :
  UD H0 (upd (upd (upd H z (.lst [])) a (.dK (putK kvs (.inl e.c.2) (.ref z)))) z (.lst ([]++[.int (px e)]))) a (es++[e]) (putK kvs (.inl e.c.2) (.ref z)) λy=>if y=e.c.2 then z else B y:=by
 have u:=zjw (es:=es) hw;have nz:∀{b o},H b=some o->b≠z:=λq w=>by rw[w,hz]at q;cases q
 have haz:a≠z:=nz h.dict;have hv:=h.no _ hy
 have ne:∀y,upr (es++[e]) y≠[] ↔ y=e.c.2∨upr es y≠[]:=λy=>by
  rw[u]
  by_cases q:y=e.c.2
  .subst q;simp
  .simp[q]
 refine⟨?_,h.new,λb o q=>?_,?_,zna _ h.nd hv,λk hk=>?_,λy hy'=>?_,λy z' h1 h2 q=>?_,λy hy'=>?_⟩
 .rw[zag haz,zaa]
 .have q':=h.same b o q;rw[zag (nz q'),zag (zam q h.new),zag (nz q')];exact q'
 .have:=zaK kvs (Ct e.c.2) (V.ref z);have:=h.len;rw[Av];simp only[AZ,Cu];lia
 .rw[zd1 _ hv,Ay]at hk;rcases AC.mp hk with hk |hk
  .obtain⟨y,q,r⟩:=h.keys k hk;exact⟨y,q,(ne y).mpr (.inr r)⟩
  .exact⟨e.c.2,Am.mp hk,(ne _).mpr (.inl rfl)⟩
 .by_cases q:y=e.c.2
  .subst q;refine⟨by rw[zcC,if_pos rfl,if_pos rfl],?_,?_,?_⟩
   .rw[if_pos rfl,zaa,u,if_pos rfl,hy];rfl
   .rw[if_pos rfl];exact h.same.free hz
   .rw[if_pos rfl];exact haz.symm
  .obtain⟨b1,b2,b3,b4⟩:=h.at_ y (((ne y).mp hy').resolve_left q);rw[if_neg q];refine⟨by rw[zcC,if_neg (λw=>q (Ee w))];exact b1,?_,b3,b4⟩;rw[zag (nz b2),zag b4,zag (nz b2),u,if_neg q];exact b2
 .by_cases q1:y=e.c.2 <;> by_cases q2:z'=e.c.2 <;> simp only[q1,q2,if_true,if_false]at q
  .rw[q1,q2]
  .exact absurd q.symm (nz (h.at_ z' (((ne z').mp h2).resolve_left q2)).2.1)
  .exact absurd q (nz (h.at_ y (((ne y).mp h1).resolve_left q1)).2.1)
  .exact h.inj y z' (((ne y).mp h1).resolve_left q1) (((ne z').mp h2).resolve_left q2) q
 .have q:y≠e.c.2:=λw=>(ne y).mpr (.inl w) hy'
  rw[zcC,if_neg (λw=>q (Ee w))];exact h.no y (Ba λw=>(ne y).mpr (.inr w) hy')
theorem zjc{lo:Int}{n:Nat}{g:TG}{tb:TS}{D:Ends}{σ : St}{H:Hp}(Pv:Nat -> St -> Hp -> Prop)(h0:Pv 0 σ H)
  (hs:∀i σ H,i<n->Pv i σ H->g (.int (lo+i*2)) σ H λσ2 H2=>tb { D with nx:=Pv (i+1),ct:=Pv (i+1),bk:=D.nx } σ2 H2) (hd:∀ σ H,Pv n σ H->D.nx σ H) :
  ∃W:Nat->Nat->St->Hp->Prop,(∃m,W 0 m σ H)/\∀i m σ H,W i m σ H ->
   ((Itr2 lo n).stop i H/\D.nx σ H)∨((Itr2 lo n).go i H/\∃N:St->Hp->Prop,(∀ σ' H',N σ' H'->∃m',m'<m/\W (i+1) m' σ' H')/\∀x H',(Itr2 lo n).yld i H x H'->g x σ H' λσ2 H2=>tb { D with nx:=N,ct:=N,bk:=D.nx } σ2 H2):=by
 refine⟨λi m σ H=>m=n-i/\i<=n/\Pv i σ H,⟨n,by simp,Bd _,h0⟩,?_⟩;rintro i m σ H ⟨rfl,hi,p⟩
 by_cases hlt:i<n
 .refine .inr ⟨hlt,Pv (i+1),λσ' H' p'=>⟨n-(i+1),by lia,rfl,hlt,p'⟩,λx H' y=>?_⟩;obtain⟨e,y⟩:=y;subst e y;exact hs i σ _ hlt p
 .have e:i=n:=by lia
  subst e;exact .inl ⟨Ai _,hd σ H p⟩
noncomputable def upto(a b:Int):List Int:=(Bk (b-a).toNat).map λi:Nat=>a+(i:Int)
theorem zfe:∀(T:List Int) (i:Nat) (a b:Int),T[2*i]?=some a->T[2*i+1]?=some b->fillT (T.take (2*(i+1)))=fillT (T.take (2*i))++upto a b
 |[],i,a,b,h,_=>by simp at h
 |[t],i,a,b,h,k=>by
  have:2*i+1<1:=(Ad.mp k).1;lia
 |s::t::r,0,a,b,h,k=>by
  cases h;cases k
  simp[fillT,upto]
 |s::t::r,i+1,a,b,h,k=>by
  have e1:2*(i+1+1)=2*(i+1)+1+1:=by lia
  have e2:2*(i+1)=2*i+1+1:=by lia
  rw[e2]at h k;rw[e1,CI,CI,show 2*(i+1)=2*i+1+1 by lia];have ih:=zfe r i a b (by simpa using h) (by simpa using k);rw[CI,CI];show upto s t++fillT (r.take (2*i+1+1))=upto s t++fillT (r.take (2*i))++upto a b;rw[show 2*i+1+1=2*(i+1) by lia,ih,AN]
noncomputable def srt(l:List Int):List Int:=l.mergeSort λa b=>decide (a<=b)
theorem zdX(l:List Int):(srt l).Perm l:=List.mergeSort_perm _ _
theorem zh3(l:List Int):(srt l).Pairwise (·<=·):=by have:=List.pairwise_mergeSort (le:=λa b:Int=>decide (a<=b)) (λa b c h k=>by simp at *;lia) (λa b=>by simp;lia) l;exact this.imp λh=>by simpa using h
theorem zmL{l m:List Int}(h:m.Perm l)(k:m.Pairwise (·<=·)):m=srt l :=
 List.Perm.eq_of_pairwise (le:=(·<=·)) (λa b _ _ h k=>Int.le_antisymm h k) k (zh3 l) (h.trans (zdX l).symm)
noncomputable def zbK(es:List Edge)(ys:List Int):List Cell:=ys.flatMap λy=>(fillT (srt (upr es y))).map λx=>(x,y)
theorem zhj{es:List Edge}{ys:List Int}{y:Int}:zbK es (ys++[y])=zbK es ys++(fillT (srt (upr es y))).map λx=>(x,y):=by unfold zbK;rw[List.flatMap_append];simp
theorem zhi{C:Cell -> Bool}{b:Edge}{es:List Edge}(h:Closed C b es)(hs:(es.map (tt C)).sum=4 ∨ (es.map (tt C)).sum = -4){ys:List Int}(hy:ys.Pairwise (· < ·))(hm:∀y, y ∈ ys ↔ upr es y ≠ []) :
  (∀c,c∈zbK es ys ↔ wd es c≠0)/\(zbK es ys).Pairwise λc d=>c.2<d.2∨(c.2=d.2/\c.1<d.1):=by
 have row:=λy=>zfE h hs (zdX (upr es y)) (zh3 _)
 constructor
 .rintro⟨x,y⟩;unfold zbK;rw[List.mem_flatMap];constructor
  .rintro⟨z,_,hz⟩;obtain⟨u,hu,e⟩:=AE.mp hz
   cases e
   exact ((row y).2.1 x).mp hu
  .intro hz;have hx:=((row y).2.1 x).mpr hz;refine⟨y,(hm y).mpr λe=>?_,AE.mpr ⟨x,hx,rfl⟩⟩;rw[e]at hx;simp[srt,fillT]at hx
 .unfold zbK;rw[List.flatMap_def,List.pairwise_flatten,Cf];refine⟨λl hl=>?_,hy.imp λ{y z} hyz c hc d hd=>?_⟩
  .obtain⟨y,_,rfl⟩:=AE.mp hl;rw[Cf];exact (row y).2.2.imp λh=>.inr ⟨rfl,h⟩
  .obtain⟨_,_,rfl⟩:=AE.mp hc;obtain⟨_,_,rfl⟩:=AE.mp hd;exact .inl hyz
theorem zgQ:∀{ks:List Key},(∀k∈ks,∃y:Int,k=Ct y)->∃ns:List Int,ks=ns.map Ct
 |[],_=>⟨[],rfl⟩
 |k::r,h=>by
  obtain⟨y,rfl⟩:=h k Ap;obtain⟨ns,rfl⟩:=zgQ λk hk=>h k (As _ hk)
  exact⟨y::ns,rfl⟩
theorem zd6{l:List Int}(h:l.Nodup){lo:Int}{n:Nat}(hb:∀x∈l,lo<=x/\x<lo+n):l.length<=n:=by
 have:(l.map λx=>(x-lo).toNat).Nodup:=by rw[List.Nodup,Cf];refine ED (λ{x y} hx hy hne e=>hne ?_) h;have:=hb x hx;have:=hb y hy;lia
 have hsub:(l.map λx=>(x-lo).toNat) ⊆ Bk n:=λy hy=>by obtain⟨x,hx,rfl⟩:=AE.mp hy;have:=hb x hx;exact List.mem_range.mpr (by lia)
 have:=zaA this λx hx=>hsub hx
 simpa using this
theorem zc2:∀(T:List Int) (i:Nat),fillT T=fillT (T.take (2*i))++fillT (T.drop (2*i))
 |T,0=>by simp[fillT]
 |[],i+1=>by simp[fillT]
 |[t],i+1=>by simp[fillT,Nat.mul_add]
 |s::t::r,i+1=>by
  rw[show 2*(i+1)=2*i+1+1 by lia,CI,CI,List.drop_succ_cons,List.drop_succ_cons];show upto s t++fillT r=upto s t++fillT (r.take (2*i))++fillT (r.drop (2*i));rw[AN,<- zc2 r i]
theorem zl5{C:Cell->Bool}{b:Edge}{es:List Edge}(h:Closed C b es)(hs:(es.map (tt C)).sum=4∨(es.map (tt C)).sum=-4){l:Int}(hb:∀e∈es,l<=e.c.1/\e.c.1<l+60)(y:Int):(fillT (srt (upr es y))).length<=61:=by
 obtain⟨_,r2,r3⟩:=zfE h hs (zdX (upr es y)) (zh3 _);refine zd6 (lo:=l) (r3.imp λh=>by lia) λx hx=>?_
 obtain⟨e,he,f,hf,_,_,k3,k4,k5,k6⟩:=zmf h ((r2 x).mp hx);have:=hb e he;have:=hb f hf;have e1:e.c.1<=px e:=by unfold px;split <;> lia
 have e2:px f<=f.c.1+1:=by unfold px;split <;> lia
 simp only at k3 k4;lia
theorem zmI{C:Cell->Bool}{b:Edge}{es:List Edge}(h:Closed C b es){l:Int}(hb:∀e∈es,l<=e.c.1/\e.c.1<l+60)(y:Int):(upr es y).length<=61:=by
 refine zd6 (lo:=l) (zgl h y) λx hx=>?_
 unfold upr at hx;obtain⟨e,he,rfl⟩:=AE.mp hx;have:=hb e (Bz.mp he).1;unfold px;split <;> lia
theorem zdm{es:List Edge}(h:∀y,(fillT (srt (upr es y))).length<=61):∀ys:List Int,(zbK es ys).length<=61*ys.length
 |[]=>Ai _
 |y::ys=>by
  have e:zbK es (y::ys)=(fillT (srt (upr es y))).map (λx=>(x,y))++zbK es ys:=by unfold zbK;simp
  rw[e,Av,Ah,AZ];have:=h y;have:=zdm h ys;lia
end L2
namespace RP
theorem znu(es fs:List Edge)(c:Cell):wd (es++fs) c=wd es c+wd fs c:=by unfold wd;rw[Ay,CJ]
theorem zjs(c:Cell):∀ESS:List (List Edge),wd ESS.flatten c=(ESS.map λes=>wd es c).sum
 |[]=>rfl
 |es::r=>by rw[Br,znu,zjs c r];rfl
theorem zln{C:Cell->Bool}{es:List Edge}(nd:es.Nodup)(hE:∀e,e∈es ↔ IsE C e){m:Int}(hm:∀c,C c=true->c.1<m)(c:Cell):wd es c=if C c=true then 1 else 0:=by
 have h4:∀e∈es,e.w<4:=λe he=>((hE e).mp he).1
 have step:∀x y:Int,wd es (x,y)-wd es (x+1,y)=(if C (x,y)=true then 1 else 0)-(if C (x+1,y)=true then 1 else 0):=λx y=>by
  rw[zc7 h4 nd]
  have i1:ind es ⟨(x,y),1⟩=if C (x,y)=true/\C (x+1,y)=false then 1 else 0:=by
   unfold ind
   have:(⟨(x,y),1⟩:Edge)∈es ↔ C (x,y)=true/\C (x+1,y)=false:=by rw[hE];unfold IsE;simp[gap,go,mv]
   by_cases q:(⟨(x,y),1⟩:Edge)∈es
   .rw[if_pos q,if_pos (this.mp q)]
   .rw[if_neg q,if_neg (λz=>q (this.mpr z))]
  have i2:ind es ⟨(x+1,y),3⟩=if C (x+1,y)=true/\C (x,y)=false then 1 else 0:=by
   unfold ind
   have:(⟨(x+1,y),3⟩:Edge)∈es ↔ C (x+1,y)=true/\C (x,y)=false:=by rw[hE];unfold IsE;simp[gap,go,mv];intro _;rw[show x+1+-1=x by lia]
   by_cases q:(⟨(x+1,y),3⟩:Edge)∈es
   .rw[if_pos q,if_pos (this.mp q)]
   .rw[if_neg q,if_neg (λz=>q (this.mpr z))]
  rw[i1,i2]
  cases C (x,y) <;> cases C (x+1,y) <;> decide
 have far:∀y x:Int,m<=x->wd es (x,y)=0:=λy x hx=>zcS λe he hw z=>by
  have hc:=hm e.c ((hE e).mp he).2.1;have:px e<=e.c.1+1:=by unfold px;split <;> lia
  have:=z.2;simp only at this;lia
 obtain⟨x,y⟩:=c
 have main:∀n:Nat,∀x:Int,m<=x+n->wd es (x,y)=if C (x,y)=true then 1 else 0:=by
  intro n
  induction n with
  |zero =>
   intro x hx;rw[far y x (by lia),if_neg (λz=>by have:=hm (x,y) z;simp only at this;lia)]
  |succ k ih =>
   intro x hx;have h1:=ih (x+1) (by lia);have h2:=step x y;lia
 exact main (m-x).toNat x (by lia)
end RP
namespace L2
open PySem RP
noncomputable def ckey(c:Cell):List Key:=[.inl c.1,.inl c.2]
theorem ziH{c d:Cell}(h:ckey c=ckey d):c=d:=by obtain⟨a,b⟩:=c;obtain⟨x,y⟩:=d;simp[ckey]at h;rw[h.1,h.2]
noncomputable def dep(Cs:List Cell)(f:Cell->Int):List (List Key×V):=Cs.map λc=>(ckey c,.int (f c))
theorem zdW(f:Cell->Int)(c:Cell):∀Cs:List Cell,valV (dep Cs f) (ckey c)=if c∈Cs then some (.int (f c)) else none
 |[]=>rfl
 |d::r=>by
  have ih:=zdW f c r;unfold valV dep at ih ⊢;rw[AO,C5]
  by_cases q:d=c
  .subst q;simp
  .have:decide ((ckey d,V.int (f d)).1=ckey c)=false:=decide_eq_false λz=>q (ziH z)
   rw[this];simp only;rw[ih];have q':¬ c=d:=λz=>q z.symm
   simp[q']
theorem zkV{Cs:List Cell}{f:Cell->Int}{c:Cell}{n:Int}:putK (dep Cs f) (ckey c) (.int n)=dep (if c∈Cs then Cs else Cs++[c]) λd=>if d=c then n else f d:=by
 by_cases h:c∈Cs
 .rw[if_pos h]
  have:((dep Cs f).any λkv=>decide (kv.1=ckey c))=true:=by rw[List.any_eq_true];exact⟨(ckey c,.int (f c)),AE.mpr ⟨c,h,rfl⟩,by simp⟩
  unfold putK;rw[if_pos this];unfold dep;rw[List.map_map];refine List.map_congr_left λd _=>?_
  show (if ckey d=ckey c then (ckey d,V.int n) else (ckey d,V.int (f d)))=(ckey d,V.int (if d=c then n else f d))
  by_cases q:d=c
  .subst q;simp
  .rw[if_neg (λz=>q (ziH z)),if_neg q]
 .rw[if_neg h,zd1 _ (by rw[zdW,if_neg h])];unfold dep;rw[Ay]
  congr 1
  .refine List.map_congr_left λd hd=>?_
   show (ckey d,V.int (f d))=(ckey d,V.int (if d=c then n else f d));rw[if_neg (λz:d=c=>h (z ▸ hd))]
  .simp
theorem zkN{a:Addr}{od:Obj}{kvs:List (List Key × V)}{g:TG}{tb:TS}{D:Ends}{σ : St}{H:Hp}(Pv:Nat -> St -> Hp -> Prop)(h0:Pv 0 σ H)(hl:∀i σ H, i <= kvs.length -> Pv i σ H -> H a=some (.frz od (.dT kvs)))
  (hs:∀i p b k v σ H,kvs[i]?=some (k,v)->H p=none->H b=some (.tup (k.map kV))->Pv i σ H->g (.ref p) σ (upd H p (.tup [.ref b,v])) λσ2 H2=>tb { D with nx:=Pv (i+1),ct:=Pv (i+1),bk:=D.nx } σ2 H2) (hd:∀ σ H,Pv kvs.length σ H->D.nx σ H) :
  ∃W:Nat->Nat->St->Hp->Prop,(∃m,W 0 m σ H)/\∀i m σ H,W i m σ H ->
   ((Itm a od).stop i H/\D.nx σ H)∨((Itm a od).go i H/\∃N:St->Hp->Prop,(∀ σ' H',N σ' H'->∃m',m'<m/\W (i+1) m' σ' H')/\∀x H',(Itm a od).yld i H x H'->g x σ H' λσ2 H2=>tb { D with nx:=N,ct:=N,bk:=D.nx } σ2 H2):=by
 refine⟨λi m σ H=>m=kvs.length-i/\i<=kvs.length/\Pv i σ H,⟨kvs.length,by simp,Bd _,h0⟩,?_⟩;rintro i m σ H ⟨rfl,hi,p⟩;have q:=hl i σ H hi p
 by_cases hlt:i<kvs.length
 .refine .inr ⟨⟨kvs,q,hlt⟩,Pv (i+1),λσ' H' p'=>⟨kvs.length-(i+1),by lia,rfl,hlt,p'⟩,λx H' y=>?_⟩;obtain⟨t,b,k,v,rfl,h1,h2,h3,rfl⟩:=y kvs q;exact hs i t b k v σ _ h2 h1 h3 p
 .have e:i=kvs.length:=by lia
  subst e;exact .inl ⟨⟨kvs,q,Ai _⟩,hd σ H p⟩
theorem zeG{Cs:List Cell}(h:Cs.Nodup){l lo:Int}(hb:∀c∈Cs,l<=c.1/\c.1<l+61/\lo<=c.2/\c.2<lo+60):Cs.length<=3660:=by
 have h1:(Cs.map λc=>(c.1-l)+61*(c.2-lo)).Nodup:=by
  rw[List.Nodup,Cf];refine ED (λ{x y} hx hy hne e=>hne ?_) h;have b1:=hb x hx;have b2:=hb y hy;obtain⟨x1,x2⟩:=x;obtain⟨y1,y2⟩:=y;simp only at b1 b2 e;have:x1=y1:=by lia
  have:x2=y2:=by lia
  simp[*]
 have:=zd6 (lo:=0) (n:=3660) h1 λz hz=>by obtain⟨c,hc,rfl⟩:=AE.mp hz;have:=hb c hc;lia
 simpa using this
theorem ziD{Cs Cs':List Cell}{f f':Cell -> Int}{L:List Cell}{i:Nat}{c:Cell}{s:Int}(hL:L.Nodup)(hc:L[i]? = some c)(nd:Cs'.Nodup)(hm:∀d, d ∈ Cs' ↔ d ∈ Cs ∨ d ∈ L.take i)(hf:∀d, f' d=f d + if d ∈ L.take i then s else 0) :
  (if c∈Cs' then Cs' else Cs'++[c]).Nodup/\(∀d,d∈(if c∈Cs' then Cs' else Cs'++[c]) ↔ d∈Cs∨d∈L.take (i+1))/\∀d,(if d=c then f' c+s else f' d)=f d+if d∈L.take (i+1) then s else 0:=by
 have e:L.take (i+1)=L.take i++[c]:=by rw[List.take_add_one,hc];rfl
 have hn:c ∉ L.take i:=λz=>by
  obtain⟨j,hj,ej⟩:=AD z;have hjl:j<i:=by rw[AS]at hj;lia
  rw[List.getElem_take]at ej;have hi:=(Ad.mp hc).1;have:=(C3 (i:=j) (j:=i) (by lia) hL).mp (by rw[hc,Ab (by lia),ej]);lia
 refine⟨?_,λd=>?_,λd=>?_⟩
 .by_cases q:c∈Cs'
  .rw[if_pos q];exact nd
  .rw[if_neg q,DD];exact⟨nd,by simp,λx hx y hy z=>q (by rw[Am.mp hy]at z;rw[<- z];exact hx)⟩
 .rw[e]
  by_cases q:c∈Cs'
  .rw[if_pos q,hm d];constructor
   .rintro (z |z)
    .exact .inl z
    .exact .inr (BF _ z)
   .rintro (z |z)
    .exact .inl z
    .rcases AC.mp z with z |z
     .exact .inr z
     .rw[Am.mp z];exact (hm c).mp q
  .rw[if_neg q,AC,hm d,AC];exact or_assoc
 .rw[e]
  by_cases q:d=c
  .subst q;rw[if_pos rfl,if_pos (Aw _ (Am.mpr rfl)),hf d,if_neg hn];lia
  .rw[if_neg q,hf d]
   congr 1
   have:d∈L.take i++[c] ↔ d∈L.take i:=by simp[q]
   by_cases z:d∈L.take i
   .rw[if_pos z,if_pos (this.mpr z)]
   .rw[if_neg z,if_neg (λw=>z (this.mp w))]
end L2
namespace RP
end RP
namespace L2
open PySem PySem.Spec PyProof.Rows
section
variable {prog:AQ}{w:Bg}{A:AY}{E:Ac->Ae->Prop}{s:Ae}
theorem zjo{z TI TO i1 i2 l1 l2 T0:Addr}{b:Bool}{k1 k2:Nat}{xs ys:Array Ac}{x y:Ac}{o0:Obj}{Q:Ac -> Ae -> Prop}(D:ZipApart z TI TO i1 i2 l1 l2)(hz:zhh s.heap z TI TO T0 b)(hT0:s.heap.get? T0=some o0)(hTI:DJ s.heap TI (.ref i1) (.ref i2))
  (h1:s.heap.IsListIter i1 l1 k1) (h2:s.heap.IsListIter i2 l2 k2) (hl1:s.heap.IsList l1 xs) (hl2:s.heap.IsList l2 ys) (hx:xs[k1]?=some x) (hy:ys[k2]?=some y)
  (hQ:∀h',zhh h' z TI TO T0 true->h'.IsListIter i1 l1 (k1+1)->h'.IsListIter i2 l2 (k2+1)->DJ h' s.heap.objs.size x y ->
   (∀c o,c≠z->c≠i1->c≠i2->s.heap.get? c=some o->h'.get? c=some o)->Q (.ref s.heap.objs.size) { s with heap:=h' }):Ak (An prog w) A (AL (.ref z)) Q E s:=by
 have hT:s.TypeIs (.ref z) "zip":=⟨_,hz,rfl⟩;unfold AL;refine Aa (Bi (name:=Bx "__next__") hT Cb (Bo Cb hT D0 ?_ (DT _)));show Ak (An prog w) A.in1 (field (.ref z) 2 >>= _) _ _ s;refine Aa (Be hz rfl (x:=.bool false) rfl ?_);show Ak (An prog w) A.in1 (field (.ref z) 3 >>= _) _ _ s;refine Aa (Be hz rfl (x:=.ref TI) rfl (Aa (Cq hTI rfl ?_)));show Ak (An prog w) A.in1 (AM (.ref z) >>= _) _ _ s;unfold AM;refine Aa (Aa (Be hz rfl (x:=Cg T0) rfl ?_));show Ak (An prog w) A.in1 (loadIfAlive ((T0:Int).toNat) >>= _) _ _ s;refine Aa (W.kdx_alive (o:=o0) (by simpa using hT0) ?_);simp only[Option.isNone_some,Bn,if_false];refine Aa (Be hz rfl (x:=.bool b) rfl ?_);refine zgn (D:=λha=>zhh ha z TI TO T0 true/\BR z s.heap ha) ?C (λshare=>?g) ?h
 case g =>
  cases b with
  |false =>
   rw[if_pos (by decide)];refine Aa (Bc hz (by simp) λha hza sa=>Af ?_);exact share ha ⟨hza,sa⟩
  |true =>
   rw[if_neg (by decide)];refine Af ?_
   exact share s.heap ⟨hz,⟨rfl,λ_ _=>rfl⟩⟩
 case h =>
  rintro ha ⟨hza,sa⟩;rw[if_neg AT];refine Aa ?_
  rw[<- Array.forIn_toList];simp only[Dt,List.forIn_nil];refine Aa (Aa ?_);refine Bb ?_
  show Ak (An prog w) A.in1 (AL (.ref i1) >>= _) _ _ _;refine Aa (D1 (h1.extBut sa.extBut D.i1z) (hl1.extBut sa.extBut D.l1z) hx λhb h1b sb=>Af (Af (Aa (Aa (Bb ?_)))));show Ak (An prog w) A.in1 (AL (.ref i2) >>= _) _ _ _;refine Aa (D1 ((h2.extBut sa.extBut D.i2z).extBut sb.extBut D.i12.symm) ((hl2.extBut sa.extBut D.l2z).extBut sb.extBut D.l2i1) hy λhc h2c sc=>Af (Af (Af ?_)));refine Aa (wpAny_newTuple ?_ (by show 2<=sizeLine;decide));have sz:hc.objs.size=s.heap.objs.size:=by rw[sc.1,sb.1,sa.1]
  refine Af ⟨.ref hc.objs.size,rfl,Af ?_⟩;have kc:∀c o,c≠z->c≠i1->c≠i2->s.heap.get? c=some o->hc.get? c=some o:=λc o c1 c2 c3 e=>sc.extBut _ _ c3 (sb.extBut _ _ c2 (sa.extBut _ _ c1 e))
  have up:∀{c:Addr} {o u:Obj},hc.get? c=some o->(hc.push u).get? c=some o:=λe=>Ag _ e
  rw[sz];refine hQ (hc.push { cls:=.type "tuple",data:=.seq #[x,y] }) (up (sc.extBut _ _ D.i2z.symm (sb.extBut _ _ D.i1z.symm hza))) ((h1b.extBut sc.extBut D.i12).at λo e=>up e) (h2c.at λo e=>up e) ?_ λc o c1 c2 c3 e=>up (kc c o c1 c2 c3 e)
  show (hc.push _).get? s.heap.objs.size=_;rw[<- sz];exact At _ rfl
theorem zje{e it:Addr}{i:Nat}{x old:Ac}{G:Heap -> Prop}{Q:Option Ac -> Ae -> Prop}(en:IsEnum s.heap e it i old)
  (src:∀(Q1:Ac->Ae->Prop) (E1:Ac->Ae->Prop),(∀h1,G h1->IsEnum h1 e it i old->Q1 x { s with heap:=h1 })->Ak (An prog w) A.in1 (AL (.ref it)) Q1 E1 s)
  (k:∀h1 h',G h1->IsEnumOut h' e it ((i:Int)+1) x h1.objs.size->h'.get? h1.objs.size=some { cls:=.type "tuple",data:=.seq #[.int i s.toks,x] } ->
   (∀b o,b≠e->h1.get? b=some o->h'.get? b=some o)->Q (some (.ref h1.objs.size)) { s with heap:=h',toks:=s.toks+1 }):Ak (An prog w) A (DU (.ref e)) Q E s:=by
 have ty:s.TypeIs (.ref e) "enumerate":=⟨_,en,rfl⟩;unfold DU;refine Aa (DI (Bi (name:=Bx "__next__") ty Dc (Bo Dc ty PySem.F.entry_enumerate_next ?_ (PySem.F.args_enumerate_next_1 _))));obtain⟨hp,gg,d,tk,os⟩:=s;show Ak (An prog w) A.in1 (field (.ref e) 2 >>= _) _ _ _;refine Aa (Be (x:=.ref it) en rfl rfl (Aa (src _ _ λh1 g1 c1=>?_)));show Ak (An prog w) A.in1 (field (.ref e) 3 >>= _) _ _ (Shared.mk h1 gg d tk os);refine Aa (Be (x:=Cg i) c1 rfl rfl ?_);show Ak (An prog w) A.in1 (field (.ref e) 4 >>= _) _ _ (Shared.mk h1 gg d tk os);refine Aa (Be (x:=.none) c1 rfl rfl ?_);show Ak (An prog w) A.in1 (mkInt i >>= _) _ _ (Shared.mk h1 gg d tk os);refine Aa (wpAny_mkInt ?_);show Ak (An prog w) A.in1 (setField (.ref e) 3 (Cg ((i:Int)+1)) >>= _) _ _ (Shared.mk h1 gg d (tk+1) os);refine Aa (Bc c1 (by simp) λh2 c2 b2=>?_)
 replace b2:BR e h1 h2:=b2
 replace c2:IsEnum h2 e it ((i:Int)+1) old:=c2
 show Ak (An prog w) A.in1 (setField (.ref e) 4 .none >>= _) _ _ (Shared.mk h2 gg d (tk+1) os);refine Aa (Bc c2 (by simp) λh3 c3 b3=>?_)
 replace b3:BR e h2 h3:=b3
 replace c3:IsEnum h3 e it ((i:Int)+1) old:=c3
 show Ak (An prog w) A.in1 (newTuple [.int i tk,x] >>= _) _ _ (Shared.mk h3 gg d (tk+1) os);refine Aa (wpAny_newTuple ?_);have c4:IsEnum (h3.push { cls:=.type "tuple",data:=.seq #[.int i tk,x] }) e it ((i:Int)+1) old:=Ag _ c3;have z3:h3.objs.size=h1.objs.size:=by rw[b3.1,b2.1]
 have ne:h1.objs.size≠e:=CC (Aq c1);have t4:(h3.push { cls:=.type "tuple",data:=.seq #[.int i tk,x] }).get? h1.objs.size=some { cls:=.type "tuple",data:=.seq #[.int i tk,x] }:=by rw[<- z3];exact At _ rfl
 have k4:∀b o,b≠e->h1.get? b=some o->(h3.push { cls:=.type "tuple",data:=.seq #[.int i tk,x] }).get? b=some o:=λb o hb q=>Ag _ (b3.extBut b o hb (b2.extBut b o hb q))
 show Ak (An prog w) A.in1 (AM (.ref e) >>= _) _ _ (Shared.mk (h3.push { cls:=.type "tuple",data:=.seq #[.int i tk,x] }) gg d (tk+1) os);rw[z3];generalize h3.push { cls:=.type "tuple",data:=.seq #[.int i tk,x] }=h4 at c4 t4 k4;unfold AM;refine Aa (Aa (Be (x:=.none) c4 rfl rfl (Af ?_)));simp only[if_true];refine Aa (B9 (Aa (Be (x:=old) c4 rfl rfl ?_)));refine Aa (Bc c4 (by simp) λh5 c5 b5=>?_)
 replace b5:BR e h4 h5:=b5
 replace c5:IsEnum h5 e it ((i:Int)+1) x:=c5
 show Ak (An prog w) A.in1 (Cn (.ref e) (.ref h1.objs.size) >>= _) _ _ (Shared.mk h5 gg d (tk+1) os);unfold Cn;refine Aa (Aa (Bc c5 (by simp) λh6 c6 b6=>?_))
 replace c6:IsEnumOut h6 e it ((i:Int)+1) x h1.objs.size:=c6
 refine Bc c6 (by simp) λh7 c7 b7=>?_
 have all:∀b o,b≠e->h4.get? b=some o->h7.get? b=some o:=λb o hb q=>BC b7 b o hb (BC b6 b o hb (b5.extBut b o hb q))
 exact Aa (Dh (Af ⟨_,rfl,Af (k h1 h7 g1 c7 (all _ _ ne t4) λb o hb q=>all b o hb (k4 b o hb q))⟩))
theorem zlk{z TI TO i1 i2 l1 l2 T0:Addr}{b:Bool}{k:Nat}{xs:Array Ac}{o0:Obj}{Q:Ac -> Ae -> Prop}(hh:A.handled=none)(D:ZipApart z TI TO i1 i2 l1 l2)(hz:zhh s.heap z TI TO T0 b)(hT0:s.heap.get? T0=some o0)(hTI:DJ s.heap TI (.ref i1) (.ref i2))
  (h1:s.heap.IsListIter i1 l1 k) (hl1:s.heap.IsList l1 xs) (hx:xs[k]?=none)
  (hE:∀h' e,(∀c o,c≠z->c≠i1->s.heap.get? c=some o->h'.get? c=some o)->(∃o,h'.get? e=some o/\o.cls=.type "StopIteration")->E (.ref e) { s with heap:=h' }):Ak (An prog w) A (AL (.ref z)) Q E s:=by
 have hT:s.TypeIs (.ref z) "zip":=⟨_,hz,rfl⟩;unfold AL;refine Aa (Bi (name:=Bx "__next__") hT Cb (Bo Cb hT D0 ?_ (DT _)));show Ak (An prog w) A.in1 (field (.ref z) 2 >>= _) _ _ s;refine Aa (Be hz rfl (x:=.bool false) rfl ?_);show Ak (An prog w) A.in1 (field (.ref z) 3 >>= _) _ _ s;refine Aa (Be hz rfl (x:=.ref TI) rfl (Aa (Cq hTI rfl ?_)));show Ak (An prog w) A.in1 (AM (.ref z) >>= _) _ _ s;unfold AM;refine Aa (Aa (Be hz rfl (x:=Cg T0) rfl ?_));show Ak (An prog w) A.in1 (loadIfAlive ((T0:Int).toNat) >>= _) _ _ s;refine Aa (W.kdx_alive (o:=o0) (by simpa using hT0) ?_);simp only[Option.isNone_some,Bn,if_false];refine Aa (Be hz rfl (x:=.bool b) rfl ?_);refine zgn (D:=λha=>zhh ha z TI TO T0 true/\BR z s.heap ha) ?C (λshare=>?g) ?h
 case g =>
  cases b with
  |false =>
   rw[if_pos (by decide)];refine Aa (Bc hz (by simp) λha hza sa=>Af ?_);exact share ha ⟨hza,sa⟩
  |true =>
   rw[if_neg (by decide)];refine Af ?_
   exact share s.heap ⟨hz,⟨rfl,λ_ _=>rfl⟩⟩
 case h =>
  rintro ha ⟨hza,sa⟩;rw[if_neg AT];refine Aa ?_
  rw[<- Array.forIn_toList];simp only[Dt,List.forIn_nil];refine Aa (Aa (Bb ?_));show Ak (An prog w) A.in1 (AL (.ref i1) >>= _) _ _ _;exact Aa (wpAny_nextOf_list_end hh (h1.extBut sa.extBut D.i1z) (hl1.extBut sa.extBut D.l1z) hx λhb e sb he=>hE _ e (λc o c1 c3 q=>sb _ _ c3 (sa.extBut _ _ c1 q)) he)
theorem zkQ{e it:Addr}{i:Int}{old:Ac}{G:Heap -> Prop}{Q:Option Ac -> Ae -> Prop}(en:IsEnum s.heap e it i old)
  (src:∀(Q1:Ac->Ae->Prop) (E1:Ac->Ae->Prop),(∀h1 x,G h1->(∃o,h1.get? x=some o/\o.cls=.type "StopIteration")->E1 (.ref x) { s with heap:=h1 })->Ak (An prog w) A.in1 (AL (.ref it)) Q1 E1 s)
  (k:∀h1,G h1->Q none { s with heap:=h1 }):Ak (An prog w) A (DU (.ref e)) Q E s:=by
 have ty:s.TypeIs (.ref e) "enumerate":=⟨_,en,rfl⟩;unfold DU;refine Aa (DI (Bi (name:=Bx "__next__") ty Dc (Bo Dc ty PySem.F.entry_enumerate_next ?_ (PySem.F.args_enumerate_next_1 _))));show Ak (An prog w) A.in1 (field (.ref e) 2 >>= _) _ _ _;refine Aa (Be (x:=.ref it) en rfl rfl (Aa (src _ _ λh1 x g ⟨o,ho,hc⟩=>?_)));exact Aa (wpAny_isInstance (b:=true) (T:="StopIteration") ⟨o,ho,hc⟩ isSubtype_stop (Af (k h1 g)))
end
noncomputable abbrev zbx (h:Heap) (z TI TO:Addr) (f0:Ac) (b:Bool):Prop:=h.get? z=some { cls:=.type "zip",dict:=none,data:=.fields #[f0,.bool b,.bool false,.ref TI,.ref TO],slots:=#[] }
section
variable {prog:AQ}{w:Bg}{A:AY}{E:Ac->Ae->Prop}{s:Ae}
theorem zlj{z TI TO i1 i2 l1 l2:Addr}{f0:Ac}{bb:Bool}{xs ys:Array Ac}{x y a b:Ac}{k1 k2:Nat}{Q:Ac -> Ae -> Prop}(D:ZipApart z TI TO i1 i2 l1 l2)(hz:zbx s.heap z TI TO f0 bb)(hTI:DJ s.heap TI (.ref i1) (.ref i2))(hTO:DJ s.heap TO a b)
  (h1:s.heap.IsListIter i1 l1 k1) (h2:s.heap.IsListIter i2 l2 k2) (hl1:s.heap.IsList l1 xs) (hl2:s.heap.IsList l2 ys) (hx:xs[k1]?=some x) (hy:ys[k2]?=some y)
  (free:∀(Q1:Bool->Ae->Prop) (E1:Ac->Ae->Prop),Q1 true s->Ak (An prog w) A (AM (.ref z)) Q1 E1 s)
  (k:∀h',zbx h' z TI TO (Cg s.heap.objs.size) false->DJ h' TO x y->h'.IsListIter i1 l1 (k1+1)->h'.IsListIter i2 l2 (k2+1)->DJ h' s.heap.objs.size x y ->
   (∀c o,c≠z->c≠TO->c≠i1->c≠i2->s.heap.get? c=some o->h'.get? c=some o)->Q (.ref s.heap.objs.size) { s with heap:=h' }) :
  Ak (An prog w) A (DL.«zip.__next__» ⟨[.ref z],[]⟩) (λfin s'=>∃v,fin=.done (.ret v)/\Q v s') E s:=by
 show Ak (An prog w) A (field (.ref z) 2 >>= _) _ _ s;refine Aa (Be (x:=.bool false) hz rfl rfl ?_);show Ak (An prog w) A (field (.ref z) 3 >>= _) _ _ s;refine Aa (Be (x:=.ref TI) hz rfl rfl (Aa (Cq hTI rfl ?_)));show Ak (An prog w) A (AM (.ref z) >>= _) _ _ s;refine Aa (free _ _ ?_);simp only[if_true];refine Aa (B9 (Aa (Be (x:=.ref TO) hz rfl rfl (Aa (Bc hz (by simp) λha za sa=>?_)))))
 replace za:zbx ha z TI TO .ellipsis bb:=za
 refine Aa ?_
 simp only[List.zipIdx_cons,List.zipIdx_nil,Dt,List.forIn_nil];refine Aa (Aa (wpAny_onRaise (?_:Ak _ _ (AL (.ref i1) >>= _) _ _ _)));refine Aa (D1 (h1.extBut sa.extBut D.i1z) (hl1.extBut sa.extBut D.l1z) hx λhb ib sb=>Af ?_);have tb:DJ hb TO a b:=sb.extBut _ _ D.TOi1 (sa.extBut _ _ D.TOz hTO);refine Aa (Cq tb rfl (Aa (wpAny_updateSeq_pair tb λhc tc sc=>?_)))
 replace tc:DJ hc TO x b:=tc
 refine Aa (Dh (Af (Aa (Aa (wpAny_onRaise (?_:Ak _ _ (AL (.ref i2) >>= _) _ _ _))))));refine Aa (D1 (((h2.extBut sa.extBut D.i2z).extBut sb.extBut D.i12.symm).extBut sc.extBut D.TOi2.symm) (((hl2.extBut sa.extBut D.l2z).extBut sb.extBut D.l2i1).extBut sc.extBut D.l2TO) hy λhd id' sd=>Af ?_);have td:DJ hd TO x b:=sd.extBut _ _ D.TOi2 tc;refine Aa (Cq td rfl (Aa (wpAny_updateSeq_pair td λhe te se=>?_)))
 replace te:DJ he TO x y:=te
 refine Aa (Dh (Af (Af (Aa (Cq te rfl (Aa (wpAny_newTuple ?_)))))));have sz:he.objs.size=s.heap.objs.size:=by rw[se.1,sd.1,sc.1,sb.1,sa.1]
 have ze:zbx he z TI TO .ellipsis bb:=se.extBut _ _ D.TOz.symm (sd.extBut _ _ D.i2z.symm (sc.extBut _ _ D.TOz.symm (sb.extBut _ _ D.i1z.symm za)));have ke:∀c o,c≠z->c≠TO->c≠i1->c≠i2->s.heap.get? c=some o->he.get? c=some o:=λc o c1 c2 c3 c4 q=>se.extBut _ _ c2 (sd.extBut _ _ c4 (sc.extBut _ _ c2 (sb.extBut _ _ c3 (sa.extBut _ _ c1 q))))
 have j1:he.IsListIter i1 l1 (k1+1):=((ib.extBut sc.extBut D.TOi1.symm).extBut sd.extBut D.i12).extBut se.extBut D.TOi1.symm;have j2:he.IsListIter i2 l2 (k2+1):=id'.extBut se.extBut D.TOi2.symm;have zn:he.objs.size≠z:=CC (Aq ze);show Ak (An prog w) A (Cn (.ref z) (.ref he.objs.size) >>= _) _ _ _;unfold Cn;have zf:zbx (he.push { cls:=.type "tuple",data:=.seq #[x,y] }) z TI TO .ellipsis bb:=Ag _ ze;refine Aa (Aa (Bc zf (by simp) λhg zg sg=>?_))
 replace zg:zbx hg z TI TO (Cg he.objs.size) bb:=zg
 refine Bc zg (by simp) λhi zi si=>?_
 replace zi:zbx hi z TI TO (Cg he.objs.size) false:=zi
 have up:∀c o,c≠z->he.get? c=some o->hi.get? c=some o:=λc o c1 q=>BC si _ _ c1 (BC sg _ _ c1 (Ag _ q))
 have ti:DJ hi he.objs.size x y:=BC si _ _ zn (BC sg _ _ zn (At _ rfl));rw[sz]at zi ti;refine Af ⟨_,rfl,?_⟩;show Q (.ref he.objs.size) _;rw[sz];exact k hi zi (up _ _ D.TOz te) (j1.at λo q=>up _ o D.i1z q) (j2.at λo q=>up _ o D.i2z q) ti λc o c1 c2 c3 c4 q=>up c o c1 (ke c o c1 c2 c3 c4 q)
theorem zgh{z TI TO i1 i2 l1 l2:Addr}{f0:Ac}{bb:Bool}{xs:Array Ac}{k1:Nat}{Q:Fin -> Ae -> Prop}(hh:A.handled=none)(D:ZipApart z TI TO i1 i2 l1 l2)(hz:zbx s.heap z TI TO f0 bb)(hTI:DJ s.heap TI (.ref i1) (.ref i2))
  (h1:s.heap.IsListIter i1 l1 k1) (hl1:s.heap.IsList l1 xs) (hx:xs[k1]?=none)
  (free:∀(Q1:Bool->Ae->Prop) (E1:Ac->Ae->Prop),Q1 true s->Ak (An prog w) A (AM (.ref z)) Q1 E1 s)
  (k:∀h' e,(∀c o,c≠z->c≠i1->s.heap.get? c=some o->h'.get? c=some o)->(∃o,h'.get? e=some o/\o.cls=.type "StopIteration")->E (.ref e) { s with heap:=h' }) :
  Ak (An prog w) A (DL.«zip.__next__» ⟨[.ref z],[]⟩) Q E s:=by
 show Ak (An prog w) A (field (.ref z) 2 >>= _) _ _ s;refine Aa (Be (x:=.bool false) hz rfl rfl ?_);show Ak (An prog w) A (field (.ref z) 3 >>= _) _ _ s;refine Aa (Be (x:=.ref TI) hz rfl rfl (Aa (Cq hTI rfl ?_)));show Ak (An prog w) A (AM (.ref z) >>= _) _ _ s;refine Aa (free _ _ ?_);simp only[if_true];refine Aa (B9 (Aa (Be (x:=.ref TO) hz rfl rfl (Aa (Bc hz (by simp) λha za sa=>?_)))))
 replace za:zbx ha z TI TO .ellipsis bb:=za
 refine Aa ?_
 simp only[List.zipIdx_cons,List.zipIdx_nil,Dt,List.forIn_nil];refine Aa (Aa (wpAny_onRaise (?_:Ak _ _ (AL (.ref i1) >>= _) _ _ _)));refine Aa (wpAny_nextOf_list_end hh (h1.extBut sa.extBut D.i1z) (hl1.extBut sa.extBut D.l1z) hx λhb e sb ⟨oe,ge,ce⟩=>?_);have zb:zbx hb z TI TO .ellipsis bb:=sb _ _ D.i1z.symm za;have ez:e≠z:=λq=>by subst q;rw[zb]at ge;cases ge;simp at ce
 exact Bc zb (by simp) λhc _ sc=>k hc e (λc o c1 c3 q=>BC sc _ _ c1 (sb _ _ c3 (sa.extBut _ _ c1 q))) ⟨oe,BC sc _ _ ez ge,ce⟩
noncomputable def ZF(f0:Ac):Prop:=f0=.none∨∃T0:Nat,f0=Cg T0
theorem zkZ{a:Addr}{Q:Option Obj->Ae->Prop}(ho:s.heap.get? a=none)(h:Q none s):Ak (An prog w) A (loadIfAlive a) Q E s:=by
 have h':Q (s.heap.get? a) s:=by rw[ho];exact h
 exact λ_ _ _=>h'
theorem zkM{z TI TO:Addr}{f0:Ac}{bb:Bool}(hz:zbx s.heap z TI TO f0 bb)(hf:f0 = .none ∨ ∃T0:Nat, f0=Cg T0 /\ s.heap.get? T0=none)(Q1:Bool -> Ae -> Prop)(E1:Ac -> Ae -> Prop)(h:Q1 true s) :
  Ak (An prog w) A (AM (.ref z)) Q1 E1 s:=by
 unfold AM;rcases hf with rfl |⟨T0,rfl,hd⟩
 .exact Aa (Be (x:=.none) hz rfl rfl (Af h))
 .refine Aa (Be (x:=Cg T0) hz rfl rfl ?_);show Ak (An prog w) A (loadIfAlive ((T0:Int).toNat) >>= _) _ _ s;refine Aa (zkZ (by simpa using hd) ?_);simp only[Option.isNone_none,if_true];exact Af h
theorem zjp{z TI TO i1 i2 l1 l2:Addr}{f0:Ac}{bb:Bool}{xs ys:Array Ac}{x y a b:Ac}{k1 k2:Nat}{Q:Ac -> Ae -> Prop}(D:ZipApart z TI TO i1 i2 l1 l2)(hz:zbx s.heap z TI TO f0 bb)(hf:ZF f0)(hTI:DJ s.heap TI (.ref i1) (.ref i2))(hTO:DJ s.heap TO a b)
  (h1:s.heap.IsListIter i1 l1 k1) (h2:s.heap.IsListIter i2 l2 k2) (hl1:s.heap.IsList l1 xs) (hl2:s.heap.IsList l2 ys) (hx:xs[k1]?=some x) (hy:ys[k2]?=some y)
  (k:∀h' f1 b1 u v,zbx h' z TI TO f1 b1->ZF f1->DJ h' TO u v->h'.IsListIter i1 l1 (k1+1)->h'.IsListIter i2 l2 (k2+1)->DJ h' s.heap.objs.size x y ->
   (∀c o,c≠z->c≠TO->c≠i1->c≠i2->s.heap.get? c=some o->h'.get? c=some o)->Q (.ref s.heap.objs.size) { s with heap:=h' }):Ak (An prog w) A (AL (.ref z)) Q E s:=by
 have way:(f0=.none∨∃T0:Nat,f0=Cg T0/\s.heap.get? T0=none)->Ak (An prog w) A (AL (.ref z)) Q E s:=λhw=>by have ty:s.TypeIs (.ref z) "zip":=⟨_,hz,rfl⟩;unfold AL;refine Aa (Bi (name:=Bx "__next__") ty Cb (Bo Cb ty D0 ?_ (DT _)));exact zlj D hz hTI hTO h1 h2 hl1 hl2 hx hy (zkM hz hw) λh' z1 t1 j1 j2 pr kk=>Af (k h' _ _ _ _ z1 (.inr ⟨_,rfl⟩) t1 j1 j2 pr kk)
 rcases hf with q |⟨T0,q⟩
 .exact way (.inl q)
 .cases hT:s.heap.get? T0 with
  |none=>exact way (.inr ⟨T0,q,hT⟩)
  |some o0 =>
   subst q;exact zjo D hz hT hTI h1 h2 hl1 hl2 hx hy λh' z1 j1 j2 pr kk=>k h' _ _ a b z1 (.inr ⟨T0,rfl⟩) (kk TO _ D.TOz D.TOi1 D.TOi2 hTO) j1 j2 pr λc o c1 _ c3 c4 e=>kk c o c1 c3 c4 e
theorem zll{z TI TO i1 i2 l1 l2:Addr}{f0:Ac}{bb:Bool}{xs:Array Ac}{k1:Nat}{Q:Ac -> Ae -> Prop}(hh:A.handled=none)(D:ZipApart z TI TO i1 i2 l1 l2)(hz:zbx s.heap z TI TO f0 bb)(hf:ZF f0)(hTI:DJ s.heap TI (.ref i1) (.ref i2))
  (h1:s.heap.IsListIter i1 l1 k1) (hl1:s.heap.IsList l1 xs) (hx:xs[k1]?=none)
  (k:∀h' e,(∀c o,c≠z->c≠i1->s.heap.get? c=some o->h'.get? c=some o)->(∃o,h'.get? e=some o/\o.cls=.type "StopIteration")->E (.ref e) { s with heap:=h' }):Ak (An prog w) A (AL (.ref z)) Q E s:=by
 have way:(f0=.none∨∃T0:Nat,f0=Cg T0/\s.heap.get? T0=none)->Ak (An prog w) A (AL (.ref z)) Q E s:=λhw=>by have ty:s.TypeIs (.ref z) "zip":=⟨_,hz,rfl⟩;unfold AL;refine Aa (Bi (name:=Bx "__next__") ty Cb (Bo Cb ty D0 ?_ (DT _)));exact zgh (A:=A.in1) hh D hz hTI h1 hl1 hx (zkM hz hw) k
 rcases hf with q |⟨T0,q⟩
 .exact way (.inl q)
 .cases hT:s.heap.get? T0 with
  |none=>exact way (.inr ⟨T0,q,hT⟩)
  |some o0 =>
   subst q;exact zlk hh D hz hT hTI h1 hl1 hx k
end
noncomputable def Ity(K:W.Frag)(a b:Addr):It :=
 ⟨λi H=>∃xs ys x y,SqL K H a xs/\SqL K H b ys/\xs[i]?=some x/\ys[i]?=some y,
  λi H v H'=>∃p t x y,v=.ref p/\H t=none/\H p=none/\t≠p/\H'=upd (upd H t (.tup [x,y])) p (.tup [.int i,.ref t])/\(∀xs,SqL K H a xs->xs[i]?=some x)/\∀ys,SqL K H b ys->ys[i]?=some y,
  λi H=>∃xs,SqL K H a xs/\xs.length<=i⟩
structure EnumApart (e z TI TO i1 i2:Addr):Prop where
 ez:e≠z
 eTI:e≠TI
 eTO:e≠TO
 e1:e≠i1
 e2:e≠i2
theorem zgo{P:AQ}{w:Bg}{K:W.Frag}{es:List Expr}{x1:Nat}{pos:Pos}(a b e z TI TO i1 i2:Addr)(D:ZipApart z TI TO i1 i2 a b)(N:EnumApart e z TI TO i1 i2) :
  Turn P w K (.Tuple es x1 pos) (Ity K a b) [e,z,TI,TO,i1,i2] e (λi h=>∃old f0 bb u v,IsEnum h e z ((i:Nat):Int) old/\zbx h z TI TO f0 bb/\ZF f0/\DJ h TI (.ref i1) (.ref i2)/\DJ h TO u v/\h.IsListIter i1 a i/\h.IsListIter i2 b i) where
 mem:=by simp
 obj:=λi h st c hc=>by
  obtain⟨old,f0,bb,u,v,h0,h1,_,h2,h3,⟨o4,e4,c4,d4⟩,⟨o5,e5,c5,d5⟩⟩:=st;simp only[Ax,Di,or_false]at hc;rcases hc with rfl |rfl |rfl |rfl |rfl |rfl
  .exact⟨_,h0,λv q=>nomatch q⟩
  .exact⟨_,h1,λv q=>nomatch q⟩
  .exact⟨_,h2,λv q=>nomatch q⟩
  .exact⟨_,h3,λv q=>nomatch q⟩
  .exact⟨o4,e4,λv q=>by rw[d4]at q;cases q⟩
  .exact⟨o5,e5,λv q=>by rw[d5]at q;cases q⟩
 keep:=λi h h' ⟨old,f0,bb,u,v,h0,h1,zf,h2,h3,h4,h5⟩ k=>⟨old,f0,bb,u,v,k e (by simp) _ h0,k z (by simp) _ h1,zf,k TI (by simp) _ h2,k TO (by simp) _ h3,h4.at λo q=>k i1 (by simp) o q,h5.at λo q=>k i2 (by simp) o q⟩
 item:=by
  intro X hP hw hK hc i pins s σ H E I hf st hg;subst hP hw hK;obtain⟨old,f0,bb,u0,v0,he,hz,zf,hTI,hTO,h1,h2⟩:=st;obtain⟨xs,ys,x,y,hq1,hq2,hx,hy⟩:=hg;obtain⟨its1,rv1,p1,hz1⟩:=I.list hq1;obtain⟨its2,rv2,p2,hz2⟩:=I.list hq2;obtain⟨u,hu,ru⟩:=rv1.get hx;obtain⟨v,hv,rv⟩:=rv2.get hy
  have lt:∀c∈[e,z,TI,TO,i1,i2],c<s.heap.objs.size:=λc hc=>by
   simp only[Ax,Di,or_false]at hc;obtain⟨o4,e4,_⟩:=id h1;obtain⟨o5,e5,_⟩:=id h2;rcases hc with rfl |rfl |rfl |rfl |rfl |rfl
   .exact Aq he
   .exact Aq hz
   .exact Aq hTI
   .exact Aq hTO
   .exact Aq e4
   .exact Aq e5
  refine zje (G:=λh1=>∃f1 b1 u1 v1,zbx h1 z TI TO f1 b1/\ZF f1/\DJ h1 TO u1 v1/\h1.IsListIter i1 a (i+1)/\h1.IsListIter i2 b (i+1)/\DJ h1 s.heap.objs.size u v/\∀c o,c≠z->c≠TO->c≠i1->c≠i2->s.heap.get? c=some o->h1.get? c=some o) he
   (λQ1 E1 hk=>zjp D hz zf hTI hTO h1 h2 p1.isList p2.isList (by simpa using hu) (by simpa using hv) λh' f1 b1 u1 v1 z1 zf1 t1 j1 j2 pr kk=>hk h' ⟨f1,b1,u1,v1,z1,zf1,t1,j1,j2,pr,kk⟩ (kk e _ N.ez N.eTO N.e1 N.e2 he))
   λh1 h' ⟨f1,b1,u1,v1,z1,zf1,t1,j1,j2,pr,kk⟩ eo tup keep=>⟨_,rfl,?_⟩
  refine wpAny_letOwnedTupleGo_enum (s:={ s with heap:=h',toks:=s.toks+1 }) eo λh2 he2 sb=>?_
  have szl:s.heap.objs.size<h1.objs.size:=Aq pr;have fr:H s.heap.objs.size=none:=I.hok.fresh (Ai _)
  have I1:Inv X pins σ (upd H s.heap.objs.size (.tup [x,y])) { s with heap:=s.heap.push { cls:=.type "tuple",data:=.seq #[u,v] },toks:=s.toks } :=
   I.laid (t':=s.toks) (o:=.tup [x,y]) (λb ob q=>Ag _ q) (Ai _) ⟨by show 2<=sizeLine;decide,_,.cons ru (.cons rv .nil),IsTup.new _ _⟩
  have fp1:∀c∈[e,z,TI,TO,i1,i2],FpOk X pins (upd H s.heap.objs.size (.tup [x,y])) c:=λc hc=>⟨by rw[zag (AK (lt c hc))];exact (hf c hc).1,(hf c hc).2⟩
  have I2:Inv X pins σ (upd H s.heap.objs.size (.tup [x,y])) { s with heap:=h1,toks:=s.toks }:=I1.turnedL (t':=s.toks) (λc o hc q=>by
   rcases Heap.get?_push_cases q with⟨w,rfl⟩ |q
   .rw[w];exact pr
   .exact kk c o (λw=>hc (by simp[w])) (λw=>hc (by simp[w])) (λw=>hc (by simp[w])) (λw=>hc (by simp[w])) q) fp1
  have fr2:upd H s.heap.objs.size (.tup [x,y]) h1.objs.size=none:=I2.hok.fresh (Ai _)
  have I3:Inv X pins σ (upd (upd H s.heap.objs.size (.tup [x,y])) h1.objs.size (.tup [.int i,.ref s.heap.objs.size])) { s with heap:=h1.push { cls:=.type "tuple",data:=.seq #[.int i s.toks,.ref s.heap.objs.size] },toks:=s.toks } :=
   I2.laid (t':=s.toks) (o:=.tup [.int i,.ref s.heap.objs.size]) (λb ob q=>Ag _ q) (Ai _) ⟨by show 2<=sizeLine;decide,_,.cons ⟨_,rfl⟩ (.cons rfl .nil),IsTup.new _ _⟩
  have fp3:∀c∈[e,z,TI,TO,i1,i2],FpOk X pins (upd (upd H s.heap.objs.size (.tup [x,y])) h1.objs.size (.tup [.int i,.ref s.heap.objs.size])) c:=λc hc=>⟨by rw[zag (AK (Nat.lt_trans (lt c hc) szl))];exact (fp1 c hc).1,(fp1 c hc).2⟩
  have I4:Inv X pins σ (upd (upd H s.heap.objs.size (.tup [x,y])) h1.objs.size (.tup [.int i,.ref s.heap.objs.size])) { s with heap:=h2,toks:=s.toks+1 }:=I3.turnedL (t':=s.toks+1) (λc o hc q=>by
   have ce:c≠e:=λw=>hc (by simp[w])
   refine (sb.2 c ce).trans ?_
   show h'.get? c=some o;rcases Heap.get?_push_cases q with⟨w,rfl⟩ |q
   .rw[w];exact tup
   .exact keep c o ce q) fp3
  have kb:∀c o,c≠e->h1.get? c=some o->h2.get? c=some o:=λc o ce q=>(sb.2 c ce).trans (keep c o ce q)
  have frp:H h1.objs.size=none:=by rw[zag (CC szl)]at fr2;exact fr2
  refine⟨.ref h1.objs.size,_,I4,rfl,⟨_,s.heap.objs.size,x,y,rfl,fr,frp,AK szl,rfl,λzs hzs=>by rw[I.list_inj hzs hq1];exact hx,λzs hzs=>by rw[I.list_inj hzs hq2];exact hy⟩,
   ⟨_,f1,b1,u1,v1,he2,kb z _ N.ez.symm z1,zf1,kb TI _ N.eTI.symm (kk TI _ D.TIz D.TITO D.TIi1 D.TIi2 hTI),kb TO _ N.eTO.symm t1,j1.at λo q=>kb i1 o N.e1.symm q,j2.at λo q=>kb i2 o N.e2.symm q⟩,λc hc=>(fp3 c hc).1⟩
 done:=by
  intro X hP hw hK hc i pins s σ H E I hf st hg;subst hP hw hK;obtain⟨old,f0,bb,u0,v0,he,hz,zf,hTI,hTO,h1,h2⟩:=st;obtain⟨xs,hq1,hx⟩:=hg;obtain⟨its1,rv1,p1,hz1⟩:=I.list hq1;have hl:=rv1.length
  refine zkQ (G:=λh'=>∀c o,c≠z->c≠i1->s.heap.get? c=some o->h'.get? c=some o) he
   (λQ1 E1 hk=>zll (A:=X.A.in1) (I.ok.hd hc) D hz zf hTI h1 p1.isList (by simp;lia) λh' x kk hs=>hk h' x kk hs) λh' kk=>⟨rfl,?_⟩
  exact I.turnedL (t':=s.toks) (λc o hcc q=>kk c o (λw=>hcc (by simp[w])) (λw=>hcc (by simp[w])) q) hf
 self:=λ_ _ _ _ _ ⟨_,_,_,_,_,he,_⟩ h=>wpAny_pyIter_enum he h
open AutoSeq1 (wpAny_loadPart')
theorem zfW(z TI TO:Addr)(f0:Ac) :
  Meets (DL.«enumerate.__new__» ⟨[.type "enumerate",.ref z],[]⟩) (λ_ R s=>IsZip s.heap z TI TO f0 /\
   R (.ok (.ret (.ref s.heap.objs.size))) { s with heap:=s.heap.push { cls:=.type "enumerate",data:=.fields #[.none,.bool false,.ref z,Cg 0,.none,.none] } }) :=
 .of_wp λprog w A R s h=>by
  obtain⟨hp,g,d,tk,os⟩:=s;obtain⟨hz,h⟩:=h;have hsub:=sub_enumerate;have hZ:IsZip (Shared.heap ⟨hp,g,d,tk,os⟩) z TI TO f0:=hz
  wp_walk using BK hz
  refine wpAny_stack_any λst=>Af ?_
  split
  .rename_i c _ _ _ _ _
   cases (c == DE "enumerate")
   .wp_walk using BK hz,wpAny_pyIter_zip hZ
    exact⟨_,rfl,h⟩
   .wp_walk using BK hz,wpAny_pyIter_zip hZ
    exact⟨_,rfl,h⟩
  .wp_walk using BK hz,wpAny_pyIter_zip hZ
   exact⟨_,rfl,h⟩
section
variable {prog:AQ}{w:Bg}{A:AY}{E:Ac->Ae->Prop}{s:Ae}
theorem zg4{z TI TO:Addr}{f0:Ac}{Q:Ac -> Ae -> Prop}(hz:IsZip s.heap z TI TO f0)
  (k:∀h',IsEnum h' s.heap.objs.size z 0 .none->(∀b o,s.heap.get? b=some o->h'.get? b=some o)->Q (.ref s.heap.objs.size) { s with heap:=h' }) :
  Ak (An prog w) A (call (.type "enumerate") [.ref z]) Q E s:=by
 refine callType_new PySem.F.called_enumerate (by decide) (PySem.F.typeCall_enumerate_1 _) (PySem.F.newCall_enumerate_1 _) (λobj=>PySem.F.args_object_init_2 obj _) PySem.F.entry_enumerate_new (zfW z TI TO f0) ⟨hz,?_⟩;have he:IsEnum (s.heap.push { cls:=.type "enumerate",data:=.fields #[.none,.bool false,.ref z,Cg 0,.none,.none] }) s.heap.objs.size z 0 .none:=At _ rfl;exact⟨⟨_,he,rfl⟩,k _ he λb o q=>Ag _ q⟩
end
section
variable {X:Cx}
noncomputable def zlX(K:W.Frag)(t:TA):TI:=λσ H R=>t σ H λvs H1=>∃a b,vs=[.ref a,.ref b]/\(∃xs,SqL K H1 a xs)/\(∃ys,SqL K H1 b ys)/\R (Ity K a b) H1
theorem ziW {l m:Expr}{t:TA}{es:List Expr}{x1:Nat}{pos pos' pos2 p p2:Pos}(hg:Gl X "enumerate") (hm:X.mg "enumerate" = none) (hg2:Gl X "zip") (hm2:X.mg "zip" = none) (ha:PA X [l, m] t)
  (he:Bh [.Call (.Name "zip" p2) [l,m] [] pos2] X.env=(false,eval (.Call (.Name "zip" p2) [l,m] [] pos2) X.env)::Bh [] X.env:=by rfl) (hpl:(EO pos' (Bh [] X.env)).any (·.1)=false:=by rfl)
  (he2:Bh [l,m] X.env=(false,eval l X.env)::Bh [m] X.env:=by rfl) (hpl2:(EO pos2 (Bh [m] X.env)).any (·.1)=false:=by rfl) :
  PI X (.Tuple es x1 pos) (.Call (.Name "enumerate" p) [.Call (.Name "zip" p2) [l,m] [] pos2] [] pos') (zlX X.K t):=by
 intro pins s σ H R I h;refine Cw (zck I hg hm (by rfl) ?_ (by decide) (by decide));refine BT ?_ he hpl;rw[he];show Ak _ _ (spliced ((false,eval (.Call (.Name "zip" p2) [l,m] [] pos2) X.env)::EO pos' (Bh [] X.env))) _ _ s;refine B4 ?_
 refine Cw (zck I hg2 hm2 (by rfl) ?_ (by decide) (by decide));refine BT (thn (ha pos2 pins s σ H _ I h) λus s1 ⟨vs,H1,I1,r1,q1⟩=>?_) he2 hpl2;obtain⟨a,b,ex,⟨xs,hq1⟩,⟨ys,hq2⟩,q⟩:=q1;subst ex;obtain⟨u,v,rfl,ru,rv⟩:=vals2 r1
 cases ru
 cases rv
 obtain⟨its1,rv1,p1,hz1⟩:=I1.list hq1;obtain⟨its2,rv2,p2',hz2⟩:=I1.list hq2;have la:a<s1.heap.objs.size:=by obtain⟨o,ho,_⟩:=p1.isList;exact Aq ho
 have lb:b<s1.heap.objs.size:=by obtain⟨o,ho,_⟩:=p2'.isList;exact Aq ho
 refine call_zip_2 p1.isList p2'.isList λh' hz hTI hTO hi1 hi2 hsz kp=>Du ?_
 refine zg4 hz λh'' hen kp2=>wpAny_pyIter_enum hen ?_
 have I2:Inv X pins σ H1 { s1 with heap:=h'' }:=I1.kept (t':=s1.toks) λb o q=>kp2 b o (kp b o q)
 have ne:∀i j:Nat,i≠j->(s1.heap.objs.size+i:Nat)≠s1.heap.objs.size+j:=λi j h=>by lia
 have na:∀i:Nat,a≠s1.heap.objs.size+i:=λi=>AK (AG la (Dj _ _))
 have nb:∀i:Nat,b≠s1.heap.objs.size+i:=λi=>AK (AG lb (Dj _ _))
 have D:ZipApart (s1.heap.objs.size+4) (s1.heap.objs.size+2) (s1.heap.objs.size+3) s1.heap.objs.size (s1.heap.objs.size+1) a b :=
  ⟨ne 2 4 (by decide),ne 3 4 (by decide),ne 0 4 (by decide),ne 1 4 (by decide),ne 2 3 (by decide),ne 2 0 (by decide),ne 2 1 (by decide),ne 3 0 (by decide),ne 3 1 (by decide),ne 0 1 (by decide),
   na 4,na 3,na 0,na 1,nb 4,nb 3,nb 0,nb 1⟩
 have zl:s1.heap.objs.size+4<h'.objs.size:=Aq hz;have gt:∀j:Nat,j<=4->h'.objs.size≠s1.heap.objs.size+j:=λj hj=>CC (CP (Nat.add_le_add_left hj _) zl)
 have N:EnumApart h'.objs.size (s1.heap.objs.size+4) (s1.heap.objs.size+2) (s1.heap.objs.size+3) s1.heap.objs.size (s1.heap.objs.size+1) :=
  ⟨gt 4 (by decide),gt 2 (by decide),gt 3 (by decide),gt 0 (by decide),gt 1 (by decide)⟩
 refine⟨h'.objs.size,[h'.objs.size,s1.heap.objs.size+4,s1.heap.objs.size+2,s1.heap.objs.size+3,s1.heap.objs.size,s1.heap.objs.size+1],_,_,H1,rfl,I2,zgo a b _ _ _ _ _ _ D N,
  ⟨_,_,_,_,_,hen,kp2 _ _ hz,.inl rfl,kp2 _ _ hTI,kp2 _ _ hTO,hi1.at λo q=>kp2 _ o q,hi2.at λo q=>kp2 _ o q⟩,λc hc=>?_,q⟩
 have hge:s1.heap.objs.size<=c:=by
  simp only[Ax,Di,or_false]at hc;rcases hc with rfl |rfl |rfl |rfl |rfl |rfl
  .lia
  .exact Dj _ _
  .exact Dj _ _
  .exact Dj _ _
  .exact Ai _
  .exact Dj _ _
 exact I1.fpOk hge (I1.hok.fresh hge)
theorem zhM{K:W.Frag}{a b:Addr}{xs ys:List V}{g:TG}{tb:TS}{D:Ends}{σ : St}{H:Hp}(hlen:xs.length=ys.length)(Pv:Nat -> St -> Hp -> Prop)(h0:Pv 0 σ H)(hl:∀i σ H, i <= xs.length -> Pv i σ H -> SqL K H a xs /\ SqL K H b ys)
  (hs:∀i x y σ H p t,xs[i]?=some x->ys[i]?=some y->Pv i σ H->H t=none->H p=none->t≠p->g (.ref p) σ (upd (upd H t (.tup [x,y])) p (.tup [.int i,.ref t])) λσ2 H2=>tb { D with nx:=Pv (i+1),ct:=Pv (i+1),bk:=D.nx } σ2 H2) (hd:∀ σ H,Pv xs.length σ H->D.nx σ H) :
  ∃W:Nat->Nat->St->Hp->Prop,(∃m,W 0 m σ H)/\∀i m σ H,W i m σ H ->
   ((Ity K a b).stop i H/\D.nx σ H)∨((Ity K a b).go i H/\∃N:St->Hp->Prop,(∀ σ' H',N σ' H'->∃m',m'<m/\W (i+1) m' σ' H')/\∀x H',(Ity K a b).yld i H x H'->g x σ H' λσ2 H2=>tb { D with nx:=N,ct:=N,bk:=D.nx } σ2 H2):=by
 refine⟨λi m σ H=>m=xs.length-i/\i<=xs.length/\Pv i σ H,⟨xs.length,by simp,Bd _,h0⟩,?_⟩;rintro i m σ H ⟨rfl,hi,p⟩;obtain⟨q1,q2⟩:=hl i σ H hi p
 by_cases hlt:i<xs.length
 .have hlt2:i<ys.length:=by lia
  refine .inr ⟨⟨xs,ys,xs[i],ys[i],q1,q2,by simp[hlt],by simp[hlt2]⟩,Pv (i+1),λσ' H' p'=>⟨xs.length-(i+1),by lia,rfl,hlt,p'⟩,λx H' y=>?_⟩;obtain⟨o,t,u,v,rfl,ht,ho,hne,rfl,y1,y2⟩:=y;exact hs i u v σ H o t (y1 xs q1) (y2 ys q2) p ht ho hne
 .have e:i=xs.length:=by lia
  subst e;exact .inl ⟨⟨xs,q1,Ai _⟩,hd σ H p⟩
end
end L2
namespace RR
open PySem L2
noncomputable def top(i:Nat):Stmt:=PySem.Challenge.pw_rimsteps_k18_whole_the_reader_and_the_wa.main.body.getD i (.Pass ⟨0,0,0,0⟩)
noncomputable abbrev zcv:Stmt:=top 7
noncomputable abbrev zhe:List Str:=["cell"]
theorem zfC:FnScope zhe ["cell"] (zad zcv):=sC
noncomputable abbrev zca:Stmt:=top 8
noncomputable abbrev zgg:List Str:=["picture","at"]
theorem zcM:FnScope zgg ["picture"] (zad zca):=sC
noncomputable abbrev zjZ:Stmt:=top 9
noncomputable abbrev zou:List Str:=["x","y","step","right","up"]
theorem zhu:FnScope zou ["x","y","step"] (zad zjZ):=sC
noncomputable abbrev zbN:Stmt:=top 10
noncomputable abbrev zdQ:List Str:=["picture"]
theorem zfB:FnScope zdQ ["picture"] (zad zbN):=sC
noncomputable abbrev zct:Stmt:=top 12
noncomputable abbrev zhc:List Str:=["edge","x","y","way"]
theorem zby:FnScope zhc ["edge"] (zad zct):=sC
noncomputable abbrev zbG:Stmt:=top 13
noncomputable abbrev zc6:List Str:=["picture","table","edges"]
theorem zcp:FnScope zc6 ["picture"] (zad zbG):=sC
noncomputable abbrev zbF:Stmt:=top 14
noncomputable abbrev zeI:List Str:=["way"]
theorem zdS:FnScope zeI ["way"] (zad zbF):=sC
noncomputable abbrev zcr:Stmt:=top 15
noncomputable abbrev zha:List Str:=["way"]
theorem zfy:FnScope zha ["way"] (zad zcr):=sC
noncomputable abbrev zb5:Stmt:=top 16
noncomputable abbrev zgb:List Str:=["table","edge","x","y","way","step"]
theorem za1:FnScope zgb ["table","edge"] (zad zb5):=sC
noncomputable abbrev zdr:Stmt:=top 17
noncomputable abbrev zjk:List Str:=["step"]
theorem zhs:FnScope zjk ["step"] (zad zdr):=sC
noncomputable abbrev zb8:Stmt:=top 18
noncomputable abbrev zge:List Str:=["edge","step","x","y","way","new_x","new_y"]
theorem zaQ:FnScope zge ["edge","step"] (zad zb8):=sC
noncomputable abbrev zcT:Stmt:=top 21
noncomputable abbrev zhT:List Str:=["table","begin","step","walk","edge"]
theorem zbg:FnScope zhT ["table","begin"] (zad zcT):=sC
noncomputable abbrev zaH:Stmt:=top 22
noncomputable abbrev zbo:List Str:=["walk","lefts","slants"]
theorem za7:FnScope zbo ["walk"] (zad zaH):=sC
noncomputable abbrev za9:Stmt:=top 23
noncomputable abbrev zc5:List Str:=["walk","lefts","slants"]
theorem zaX:FnScope zc5 ["walk"] (zad za9):=sC
noncomputable abbrev zej:Stmt:=top 24
noncomputable abbrev zlh:List Str:=["walk"]
theorem ziT:FnScope zlh ["walk"] (zad zej):=sC
noncomputable abbrev zcG:Stmt:=top 25
noncomputable abbrev zfj:List Str:=["walk","sort"]
theorem zhw:FnScope zfj ["walk","sort"] (zad zcG):=sC
noncomputable abbrev zbA:Stmt:=top 26
noncomputable abbrev zdF:List Str:=["walk","sort","begin","at","row"]
theorem zbD:FnScope zdF ["walk"] (zad zbA):=sC
noncomputable abbrev zb6:Stmt:=top 27
noncomputable abbrev zgc:List Str:=["one","sort","x","y","row"]
theorem za2:FnScope zgc ["one"] (zad zb6):=sC
noncomputable abbrev zbS:Stmt:=top 28
noncomputable abbrev zeY:List Str:=["table","edges","walked","told","begin","walk","edge","step"]
theorem zaE:FnScope zeY ["table","edges"] (zad zbS):=sC
noncomputable abbrev zfD:Stmt:=top 29
noncomputable abbrev zme:List Str:=["picture"]
theorem zjX:FnScope zme ["picture"] (zad zfD):=sC
noncomputable abbrev zcw:Stmt:=top 32
noncomputable abbrev zhf:List Str:=["one","sort","x","y","row"]
theorem zbk:FnScope zhf ["one"] (zad zcw):=sC
noncomputable abbrev zeg:Stmt:=top 33
noncomputable abbrev zle:List Str:=["step"]
theorem ziS:FnScope zle ["step"] (zad zeg):=sC
noncomputable abbrev zb9:Stmt:=top 34
noncomputable abbrev zgf:List Str:=["begin_way","row","way","deeds","step","lefts"]
theorem zaR:FnScope zgf ["begin_way","row"] (zad zb9):=sC
noncomputable abbrev zei:Stmt:=top 35
noncomputable abbrev zlg:List Str:=["begin","deeds","walk","edge","deed"]
theorem zbZ:FnScope zlg ["begin","deeds"] (zad zei):=sC
noncomputable abbrev zcq:Stmt:=top 36
noncomputable abbrev zg9:List Str:=["begin","row"]
theorem zfx:FnScope zg9 ["begin","row"] (zad zcq):=sC
noncomputable abbrev zbR:Stmt:=top 37
noncomputable abbrev zeX:List Str:=["edge","step","x","y","way","behind","seen"]
theorem zaM:FnScope zeX ["edge","step"] (zad zbR):=sC
noncomputable abbrev zb7:Stmt:=top 38
noncomputable abbrev zgd:List Str:=["walk","known","steps_gone","edge","step","cell","inside"]
theorem zaC:FnScope zgd ["walk"] (zad zb7):=sC
noncomputable abbrev zcu:Stmt:=top 39
noncomputable abbrev zhd:List Str:=["walk","edge","step"]
theorem zb4:FnScope zhd ["walk"] (zad zcu):=sC
noncomputable abbrev zcV:Stmt:=top 40
noncomputable abbrev zhU:List Str:=["walk","sort"]
theorem zgx:FnScope zhU ["walk","sort"] (zad zcV):=sC
noncomputable abbrev zeh:Stmt:=top 41
noncomputable abbrev zlf:List Str:=["one","sort","x","y","row","begin","walk","at"]
theorem zbf:FnScope zlf ["one"] (zad zeh):=sC
noncomputable abbrev zcW:Stmt:=top 42
noncomputable abbrev zhV:List Str:=["one"]
theorem zgy:FnScope zhV ["one"] (zad zcW):=sC
noncomputable abbrev zcF:Stmt:=top 43
noncomputable abbrev zfi:List Str:=["one"]
theorem zhv:FnScope zfi ["one"] (zad zcF):=sC
noncomputable abbrev zdq:Stmt:=top 44
noncomputable abbrev zjj:List Str:=["thing"]
theorem zhr:FnScope zjj ["thing"] (zad zdq):=sC
noncomputable abbrev zdZ:Stmt:=top 45
noncomputable abbrev ziK:List Str:=["thing"]
theorem zjY:FnScope ziK ["thing"] (zad zdZ):=sC
noncomputable abbrev zdt:Stmt:=top 46
noncomputable abbrev zjm:List Str:=["thing","sort","x","y","row"]
theorem zbE:FnScope zjm ["thing"] (zad zdt):=sC
noncomputable abbrev zds:Stmt:=top 47
noncomputable abbrev zjl:List Str:=["thing"]
theorem zht:FnScope zjl ["thing"] (zad zds):=sC
noncomputable abbrev zek:Stmt:=top 49
noncomputable abbrev zli:List Str:=["table","edge"]
theorem ziU:FnScope zli ["table","edge"] (zad zek):=sC
noncomputable abbrev zbL:Stmt:=top 50
noncomputable abbrev zdO:List Str:=["table","walk"]
theorem zfA:FnScope zdO ["table","walk"] (zad zbL):=sC
noncomputable abbrev za5:Stmt:=top 51
noncomputable abbrev zcl:List Str:=["some"]
theorem zdo:FnScope zcl ["some"] (zad za5):=sC
noncomputable abbrev zcU:Stmt:=top 52
noncomputable abbrev zdE:List Str:=["picture","thing","table","walks"]
theorem zfz:FnScope zdE ["picture","thing"] (zad zcU):=sC
noncomputable abbrev zdp:Stmt:=top 54
noncomputable abbrev zji:List Str:=["edges","places","x","y","way"]
theorem zbC:FnScope zji ["edges"] (zad zdp):=sC
noncomputable abbrev zbs:Stmt:=top 55
noncomputable abbrev zcQ:List Str:=["one","places","cells","y","turns","at"]
theorem zaN:FnScope zcQ ["one"] (zad zbs):=sC
noncomputable abbrev zbM:Stmt:=top 56
noncomputable abbrev zdP:List Str:=["some","depths","one","gain","cell"]
theorem zbj:FnScope zdP ["some"] (zad zbM):=sC
noncomputable abbrev zbT:Stmt:=top 57
noncomputable abbrev zeZ:List Str:=["some","others","at","one","other"]
theorem zbi:FnScope zeZ ["some","others"] (zad zbT):=sC
noncomputable abbrev zcs:Stmt:=top 58
noncomputable abbrev zhb:List Str:=["some","picture","at"]
theorem zb3:FnScope zhb ["some"] (zad zcs):=sC
noncomputable abbrev zbU:Stmt:=top 60
noncomputable abbrev ze0:List Str:=["_law_script","_law_k"]
theorem zef:FnScope ze0 ["_law_script","_law_k"] (zad zbU):=sC
noncomputable abbrev zdu:Stmt:=top 61
noncomputable abbrev zjn:List Str:=["_law_cell","_law_many","_law_base","_law_found","_law_left","_law_number","_law_k"]
theorem za8:FnScope zjn ["_law_cell","_law_many","_law_base"] (zad zdu):=sC
noncomputable abbrev zbt:Stmt:=top 62
noncomputable abbrev zcR:List Str:=["_law_script","_law_start","_law_wide","_law_high","_law_share","_law_left","_law_low","_law_way","_law_far","_law_found","_law_y","_law_row_here"]
theorem zap:FnScope zcR ["_law_script","_law_start"] (zad zbt):=sC
noncomputable abbrev zaF:Stmt:=top 63
noncomputable abbrev zeJ:List Str:=["_law_cells"]
theorem zdT:FnScope zeJ ["_law_cells"] (zad zaF):=sC
noncomputable abbrev zbO:Stmt:=top 64
noncomputable abbrev zcB:List Str:=["_law_script","_law_cells","_law_way","_law_many","_law_a","_law_b","_law_c","_law_there","_law_cell","_law_left","_law_low","_law_at"]
theorem zaw:FnScope zcB ["_law_script","_law_cells"] (zad zbO):=sC
noncomputable abbrev s_law:Stmt:=top 65
noncomputable abbrev N_law:List Str:=["_law_script","_law_cells","_law_others","_law_some","_law_more","_law_picture_here","_law_told","_law_found"]
theorem zdJ:FnScope N_law ["_law_script"] (zad s_law):=sC
open PySem L2 RP
noncomputable def cellT(c:Cell):List V:=[.int c.1,.int c.2]
noncomputable def edgeT(e:Edge):List V:=[.int e.c.1,.int e.c.2,.int e.w]
noncomputable def sv:Option Nat->V
 |none=>.non
 |some s=>.int s
noncomputable def Tab(H:Hp)(t:Addr)(C:Cell->Bool):Prop:=∃kvs:List (List Key×V),H t=some (.dT kvs)/\∀c:Cell,(valV kvs [Ct c.1,Ct c.2]).isSome=C c
theorem Tab.same{H H':Hp}{t:Addr}{C:Cell->Bool}(h:Tab H t C)(s:Same H H'):Tab H' t C:=let ⟨kvs,e,q⟩:=h;⟨kvs,s _ _ e,q⟩
theorem Same.up{H:Hp}{p:Addr}{o:HO}(h:H p=none):Same H (upd H p o):=λb u e=>by rw[zag (zam e h)];exact e
structure Txt (P:AQ) (w:Bg) (K:W.Frag) (mg:Str->Option Ac):Prop where
 moves:∃M,mg "MOVES" = some (.ref M)/\∀H,∃ms:List Addr,SqT K H M (ms.map V.ref)/\ms.length=8/\∀(i:Nat) a,ms[i]?=some a->SqT K H a [.int (mv i).1,.int (mv i).2]
 ways:Ways P w K mg
 more:Two P w K mg "MORE_LEFTS" 4 (-4)
 nsys:∀B,mg "BEGIN_WAYS" = some (.ref B)->(B == PySem.sysModules)=false
 nrange:mg "range" = none
 nlen:mg "len" = none
 nmin:mg "min" = none
 nsorted:mg "sorted" = none
 ntuple:mg "tuple" = none
 nint:mg "int" = none
 nbool:mg "bool" = none
 nstr:mg "str" = none
 nall:mg "all" = none
 nisinstance:mg "isinstance" = none
 nlist:mg "list" = none
 nsum:mg "sum" = none
 nenumerate:mg "enumerate" = none
 nzip:mg "zip" = none
theorem two:2<=sizeLine:=by decide
theorem three:3<=sizeLine:=by decide
section
variable {P:AQ}{w:Bg}{K:W.Frag}{mg:Str->Option Ac}{base:Heap}
noncomputable def zft(K:W.Frag):Sp:=λvs H Q _=>∃(a:Addr) (x y:Int) (r:List V),vs=[.ref a]/\SqT K H a (.int x::.int y::r)/\∀(p:Addr) (H':Hp),H p=none->Same H H'->H' p=some (.tup [.int y,.int x])->Q (.ref p) H'
theorem zfR (d:Df K mg "cell_order" zcv ["cell"]):FnOk P w K mg base CX0 1 d.f d.fd ["cell"] (zft K):=by
 refine d.F.ok zfC (λvs H Q E h=>?_) (λcdv A outer s H vs Q E hr h=>?_)
 .obtain⟨a,x,y,r,rfl,_⟩:=h;rfl
 .obtain⟨a,x,y,r,rfl,hq,k⟩:=h;refine⟨_,(zaf (zak (zaO (zai (pe_ix zcO (pv 0) zah (λ_ _=>rfl)) (zai (pe_ix zcO (pv 0) zah (λ_ _=>rfl)) zab))))),?_⟩;refine⟨_,rfl,a,_,_,_,rfl,rfl,hq,zaG (j:=1) rfl,_,rfl,a,_,_,_,rfl,rfl,hq,zaG (j:=0) rfl,two,λp hp=>?_⟩;exact k p _ hp (Same.up hp) zaa
noncomputable def zgr:Sp:=λvs H Q _=>∃(c:Cell) (i:Nat),vs=[.int c.1,.int c.2,.int i]/\i<8/\∀(p:Addr) (H':Hp),H p=none->Same H H'->H' p=some (.tup (cellT (go c i)))->Q (.ref p) H'
theorem zm4 (T:Txt P w K mg) (d:Df K mg "gone" zjZ ["x","y","step"]):FnOk P w K mg base CX0 1 d.f d.fd ["x","y","step"] zgr:=by
 refine d.F.ok zhu (λvs H Q E h=>?_) (λcdv A outer s H vs Q E hr h=>?_)
 .obtain⟨c,i,rfl,_⟩:=h;rfl
 .obtain⟨c,i,rfl,hi,k⟩:=h;obtain⟨M,hM,hms⟩:=T.moves;obtain⟨ms,hq,hl,hm⟩:=hms H
  refine⟨_,(zac (zbP (pe_ix zcO (zdy (v:=.ref M) rfl hM rfl) (pv 2) (λ_ _=>rfl)) (zbh (by rfl) (zae (nG 3 zhu.nd) (zae (nG 4 zhu.nd) zat))))
   (zaf (zak (zaO (pa_B (pe_op zaW (pv 0) (pv 3)) (pa_B (pe_op zaW (pv 1) (pv 4)) zab)))))),?_⟩
  have hi':i<ms.length:=by lia
  have e1:ms[i]?=some ms[i]:=by simp[hi']
  refine⟨_,rfl,M,_,(i:Int),.ref ms[i],rfl,rfl,hq,zaG (by simp[hi']),ms[i],_,rfl,hm i _ e1,rfl,_,_,rfl,_,_,rfl,rfl,?_⟩;refine⟨_,rfl,_,rfl,_,_,rfl,rfl,_,rfl,_,rfl,_,_,rfl,rfl,two,λp hp=>?_⟩;exact k p _ hp (Same.up hp) zaa
noncomputable def zdn:Sp:=λvs H Q _=>∃w:Nat,vs=[.int w]/\w<4/\Q (.int (2*w:Nat)) H
theorem zdU (d:Df K mg "straight_step" zbF ["way"]):FnOk P w K mg base CX0 1 d.f d.fd ["way"] zdn:=by
 refine d.F.ok zdS (λvs H Q E h=>?_) (λcdv A outer s H vs Q E hr h=>?_)
 .obtain⟨w,rfl,_⟩:=h;rfl
 .obtain⟨w,rfl,hw,k⟩:=h;refine⟨_,(zaf (zak (pe_op zdi zah (pv 0)))),?_⟩;refine⟨_,rfl,_,_,rfl,rfl,.inl ⟨by decide,by decide⟩,?_⟩;have e:(2*(w:Int))=((2*w:Nat):Int):=by lia
  show Q (.int (2*(w:Int))) H;rw[e];exact k
noncomputable def zhp:Sp:=λvs H Q _=>∃w:Nat,vs=[.int w]/\w<4/\Q (.int ((2*w+7) % 8:Nat)) H
theorem zfK (d:Df K mg "slant_step" zcr ["way"]):FnOk P w K mg base CX0 1 d.f d.fd ["way"] zhp:=by
 refine d.F.ok zfy (λvs H Q E h=>?_) (λcdv A outer s H vs Q E hr h=>?_)
 .obtain⟨w,rfl,_⟩:=h;rfl
 .obtain⟨w,rfl,hw,k⟩:=h;refine⟨_,(zaf (zak (pe_op zaV (pe_op zaW (pe_op zdi zah (pv 0)) zah) zah))),?_⟩;refine⟨_,rfl,_,_,rfl,rfl,.inl ⟨by decide,by decide⟩,_,_,rfl,rfl,_,_,rfl,rfl,(by show (0:Int)<8;decide),?_⟩;have e:(2*(w:Int)+7) % 8=(((2*w+7) % 8:Nat):Int):=by lia
  show Q (.int ((2*(w:Int)+7) % 8)) H;rw[e];exact k
noncomputable def zdc:Sp:=λvs H Q _=>∃o:Option Nat,vs=[sv o]/\Q (.bl (slant o)) H
theorem zhD (d:Df K mg "is_slant" zdr ["step"]):FnOk P w K mg base CX0 1 d.f d.fd ["step"] zdc:=by
 refine d.F.ok zhs (λvs H Q E h=>?_) (λcdv A outer s H vs Q E hr h=>?_)
 .obtain⟨o,rfl,_⟩:=h;rfl
 .obtain⟨o,rfl,k⟩:=h;refine⟨_,(zaf (zak (zcj (zbH zep (pv 0) zb0 (zau _)) (zdg (zbH op_eq (pe_op zaV (pv 0) zah) zah (zau _)))))),?_⟩
  cases o with
  |none=>exact⟨_,rfl,rfl,false,rfl,iteF k⟩
  |some n =>
   refine⟨_,rfl,rfl,true,rfl,iteT ⟨_,rfl,_,_,rfl,rfl,(by show (0:Int)<2;decide),rfl,?_⟩⟩
   have e:decide (V.int ((n:Int) % 2)=V.int 1)=slant (some n):=by
    show _=(n % 2 == 1)
    by_cases q:n % 2=1
    .rw[decide_eq_true (by rw[show (n:Int) % 2=1 by lia]),q];rfl
    .rw[decide_eq_false (λz=>by injection z with z;lia)];simp[q]
   rw[<- e]at k;exact k
noncomputable def spGap(K:W.Frag):Sp:=λvs H Q _=>∃(a:Addr) (e:Edge),vs=[.ref a]/\SqT K H a (edgeT e)/\e.w<4/\∀(p:Addr) (H':Hp),H p=none->Same H H'->H' p=some (.tup (cellT (gap e)))->Q (.ref p) H'
theorem zfN (g_gone:Fn P w K mg base 1 "gone" ["x","y","step"] zgr) (d:Df K mg "gap_beside" zct ["edge"]):FnOk P w K mg base CX0 2 d.f d.fd ["edge"] (spGap K):=by
 refine d.F.ok zby (λvs H Q E h=>?_) (λcdv A outer s H vs Q E hr h=>?_)
 .obtain⟨a,e,rfl,_⟩:=h;rfl
 .obtain⟨a,e,rfl,hq,hw,k⟩:=h
  refine⟨_,(zac (zbP (pv 0) (zbh (by rfl) (zae (nG 1 zby.nd) (zae (nG 2 zby.nd) (zae (nG 3 zby.nd) zat)))))
   (zaf (zak (pC g_gone hr (pa_N (pv 1) (pa_N (pv 2) (pa_B (pe_op zaV (pe_op zaW (pe_op zdi zah (pv 3)) zah) zah) zab))))))),?_⟩
  refine⟨_,rfl,a,_,rfl,hq,rfl,_,_,rfl,_,_,rfl,_,_,rfl,rfl,?_⟩;have e6:(2*(e.w:Int)+6) % 8=(((2*e.w+6) % 8:Nat):Int):=by lia
  refine⟨_,rfl,_,rfl,_,rfl,_,_,rfl,rfl,.inl ⟨by decide,by decide⟩,_,_,rfl,rfl,_,_,rfl,rfl,(by show (0:Int)<8;decide),e.c,(2*e.w+6) % 8,(by rw[<- e6];rfl),by lia,λp H' hp hS hH=>k p H' hp hS hH⟩
theorem iteN{b:Bool}{A B:Prop}(h:b=false)(q:B):if b=true then A else B:=by subst h;exact iteF q
theorem iteY{b:Bool}{A B:Prop}(h:b=true)(q:A):if b=true then A else B:=by subst h;exact iteT q
theorem zb2{tb:TS}{D:Ends}{σ:St}{H:Hp}(h:tb D σ H):tIfs (λ_ H Q=>Q true H) tb D σ H:=by
 show if true=true then tb D σ H else D.nx σ H
 exact iteT h
theorem gN{j:Nat}{v:V}{σ:St}{H:Hp}{tb:TS}{D:Ends}(h:tb D (σ.set j (some v)) H):gName j v σ H λσ2 H2=>tIfs (λ_ H Q=>Q true H) tb D σ2 H2:=zb2 h
noncomputable def LR{α:Type}(K:W.Frag)(H:Hp)(a:Addr)(l:List α)(R:α->V->Hp->Prop):Prop:=∃vs:List V,SqL K H a vs/\vs.length=l.length/\∀(i:Nat) x v,l[i]?=some x->vs[i]?=some v->R x v H
noncomputable def cR(c:Cell)(v:V)(H:Hp):Prop:=∃b,v=.ref b/\H b=some (.tup (cellT c))
noncomputable def eR(e:Edge)(v:V)(H:Hp):Prop:=∃b,v=.ref b/\H b=some (.tup (edgeT e))
noncomputable def wR(q:Edge×Option Nat)(v:V)(H:Hp):Prop:=∃A b,v=.ref A/\H A=some (.tup [.ref b,sv q.2])/\H b=some (.tup (edgeT q.1))
theorem cR.same{c:Cell}{v:V}{H H':Hp}(h:cR c v H)(s:Same H H'):cR c v H':=let ⟨b,e,q⟩:=h;⟨b,e,s _ _ q⟩
theorem eR.same{c:Edge}{v:V}{H H':Hp}(h:eR c v H)(s:Same H H'):eR c v H':=let ⟨b,e,q⟩:=h;⟨b,e,s _ _ q⟩
theorem wR.same{c:Edge×Option Nat}{v:V}{H H':Hp}(h:wR c v H)(s:Same H H'):wR c v H':=let ⟨A,b,e,q,r⟩:=h;⟨A,b,e,s _ _ q,s _ _ r⟩
theorem LR.same{α:Type}{K:W.Frag}{H H':Hp}{a:Addr}{l:List α}{R:α->V->Hp->Prop}(h:LR K H a l R)(s:Same H H')(m:∀x v,R x v H->R x v H'):LR K H' a l R :=
 let ⟨vs,q,n,r⟩:=h;⟨vs,s.seq q,n,λi x v h1 h2=>m x v (r i x v h1 h2)⟩
theorem zbv{α:Type}{l:List α}{i:Nat}{x c:α}(h:l[i]?=some x):c∈l.take (i+1) ↔ c∈l.take i∨c=x:=by rw[DP,h,AC];exact⟨λz=>z.elim .inl λz=>.inr (Am.mp z),λz=>z.elim .inl λz=>.inr (Am.mpr z)⟩
noncomputable def InOrd(cs:List Cell):Prop:=∀(i:Nat) c d,cs[i]?=some c->cs[i+1]?=some d->HT.lexLt [c.2,c.1] [d.2,d.1]=true
noncomputable def spAsk(K:W.Frag):Sp:=λvs H Q _=>∃(a:Addr) (cs:List Cell),vs=[.ref a]/\LR K H a cs cR/\InOrd cs/\cs.length<=1000/\∀H',Same H H'->Q (.bl true) H'
theorem zeR (T:Txt P w K mg) (g_cell_order:Fn P w K mg base 1 "cell_order" ["cell"] (zft K)) (d:Df K mg "ask_picture" zca ["picture"]):FnOk P w K mg base CX0 2 d.f d.fd ["picture"] (spAsk K):=by
 refine d.F.ok zcM (λvs H Q E h=>?_) (λcdv A outer s H vs Q E hr h=>?_)
 .obtain⟨a,cs,rfl,_⟩:=h;rfl
 .obtain⟨a,cs,rfl,⟨ws,hq,hn,hc⟩,ho,hlen,k⟩:=h;have hu0:=hr.units0
  refine⟨_,(zac (zbm Bf rfl (zgC (by rfl) T.nrange (pa_C zah (zai (zan zas (by rfl) T.nlen (by rfl) (pa_N (pv 0) zab)) zab))) (nG 1 zcM.nd)
   (zaf (ps_if (zax (zn6 hu0) (pC g_cell_order hr (zai (pe_ix zbX (pv 0) (pv 1) (λ_ _=>rfl)) zab)) (pC g_cell_order hr (zai (pe_ix zbX (pv 0) (pe_op zdh (pv 1) zah) (λ_ _=>rfl)) zab)) (zau _))
   (zaf zd2)
   zaB)))
   (zaf (zak pe_bl))),?_⟩
  refine⟨_,rfl,a,_,rfl,.inl hq,_,_,rfl,⟨by decide,by decide,by lia,by lia⟩,?_⟩;refine zbJ (lo:=1) (n:=((ws.length:Int)-1).toNat) (λi σ H2=>∃o,σ=[some (.ref a),o]/\Same H H2) ⟨_,rfl,Same.refl _⟩ ?_ ?_
  .rintro i σ H2 hi ⟨o,rfl,s2⟩;have h1:i+1<ws.length:=by lia
   have v1:ws[i+1]?=some ws[i+1]:=Ab h1;have v0:ws[i]?=some ws[i]:=Ab (by lia)
   have c1:cs[i+1]?=some cs[i+1]:=Ab (by lia)
   have c0:cs[i]?=some cs[i]:=Ab (by lia)
   obtain⟨b1,e1,q1⟩:=hc (i+1) _ _ c1 v1;obtain⟨b0,e0,q0⟩:=hc i _ _ c0 v0;refine⟨_,rfl,_,rfl,a,_,_,_,rfl,rfl,s2.seq hq,(by rw[show (1:Int)+(i:Int)=((i+1:Nat):Int) by lia];exact zaG v1),b1,_,_,[],(by rw[e1];rfl),SqT.of (s2 _ _ q1),λp1 H3 hp1 s3 f1=>?_⟩;refine⟨_,rfl,_,rfl,_,_,rfl,rfl,a,_,_,_,rfl,rfl,(s2.trans s3).seq hq,(by rw[show (1:Int)+(i:Int)-1=(i:Int) by lia];exact zaG v0),b0,_,_,[],(by rw[e0];rfl),SqT.of ((s2.trans s3) _ _ q0),λp0 H4 hp0 s4 f0=>?_⟩;refine⟨p1,p0,[cs[i+1].2,cs[i+1].1],[cs[i].2,cs[i].1],rfl,rfl,SqT.of (s4 _ _ f1),SqT.of f0,_,rfl,iteN ?_ ?_⟩
   .rw[HT.lexLe_eq,ho i _ _ c0 c1];rfl
   .exact⟨_,rfl,(s2.trans s3).trans s4⟩
  .rintro σ H2 ⟨o,rfl,s2⟩;exact k H2 s2
noncomputable def kC(c:Cell):List Key:=[Ct c.1,Ct c.2]
theorem zgS{c d:Cell}:kC c=kC d ↔ c=d:=by
 constructor
 .intro h;unfold kC at h;injection h with h1 h2;injection h2 with h2 _;exact Prod.ext (Ee h1) (Ee h2)
 .rintro rfl;rfl
noncomputable def zfr(K:W.Frag):Sp:=λvs H Q _=>∃(a:Addr) (cs:List Cell),vs=[.ref a]/\LR K H a cs cR/\cs.length<=1000/\∀t H',H t=none->Same H H'->Tab H' t (isIn cs)->Q (.ref t) H'
theorem zfQ (d:Df K mg "cell_table" zbN ["picture"]):FnOk P w K mg base CX0 1 d.f d.fd ["picture"] (zfr K):=by
 refine d.F.ok zfB (λvs H Q E h=>?_) (λcdv A outer s H vs Q E hr h=>?_)
 .obtain⟨a,cs,rfl,_⟩:=h;rfl
 .obtain⟨a,cs,rfl,⟨ws,hq,hn,hc⟩,hlen,k⟩:=h;have hu1:=hu_of hr;have nb0:(["cell"]:List Str).Nodup:=by decide +kernel
  refine⟨_,(zaf (zak (zlK hu1 (osc:=zad zbN) (N:=zdQ) (N':=["cell"]) (sel:=[none]) bO (zaz (pv 0)) (λ_ _ _ _ _=>(nG 0 nb0)) (λ_ _ _ _ _=>zbl) (λ_ _ _ _ _=>(pv 0)) (λ_ _ _ _ _=>pe_bl)))),?_⟩;refine⟨_,rfl,a,rfl,⟨_,hq⟩,λp hp=>?_⟩
  refine zao (K:=K) (a:=a) (xs:=ws) (λi σ H2=>∃o,σ=[o]/\Same H H2/\∃kvs,H2 p=some (.dT kvs)/\kvs.length<=i/\∀c:Cell,(valV kvs (kC c)).isSome=decide (c∈cs.take i))
   ⟨_,rfl,Same.up hp,[],zaa,Ai _,λc=>by simp[valV]⟩ (λi σ H2 _ ⟨_,_,s2,_⟩=>s2.seq hq) ?_ ?_
  .rintro i v σ H2 hi ⟨o,rfl,s2,kvs,e2,hl,hv⟩;have hil:i<ws.length:=(Ad.mp hi).1;have ci:cs[i]?=some cs[i]:=Ab (by lia)
   obtain⟨b,rfl,q⟩:=hc i _ _ ci hi;refine gN ?_
   refine⟨_,rfl,_,.inr ⟨kvs,kC cs[i],b,e2,rfl,s2 _ _ q,zaj (by lia),rfl⟩,_,rfl,λz o e=>?_,_,zaa,?_,λc=>?_⟩
   .rw[zag (zam e hp)];exact s2 z o e
   .exact A3 (zaK _ _ _) (by lia)
   .rw[zcC]
    by_cases e:c=cs[i]
    .rw[if_pos (zgS.mpr e),decide_eq_true ((zbv ci).mpr (.inr e))];rfl
    .rw[if_neg (λz=>e (zgS.mp z)),hv];exact decide_eq_decide.mpr ⟨λz=>(zbv ci).mpr (.inl z),λz=>((zbv ci).mp z).resolve_right e⟩
  .rintro σ H2 ⟨o,rfl,s2,kvs,e2,hl,hv⟩;refine k p H2 hp s2 ⟨kvs,e2,λc=>?_⟩;show (valV kvs (kC c)).isSome=isIn cs c;rw[hv,hn,AI];rfl
noncomputable def zho(K:W.Frag):Sp:=λvs H Q _=>∃(t a:Addr) (C:Cell->Bool) (e:Edge),vs=[.ref t,.ref a]/\Tab H t C/\SqT K H a (edgeT e)/\e.w<4/\∀H',Same H H'->Q (sv (stepB C e)) H'
theorem zeK (g_gone:Fn P w K mg base 1 "gone" ["x", "y", "step"] zgr) (g_slant_step:Fn P w K mg base 1 "slant_step" ["way"] zhp) (g_straight_step:Fn P w K mg base 1 "straight_step" ["way"] zdn)
  (d:Df K mg "step_behind" zb5 ["table","edge"]):FnOk P w K mg base CX0 2 d.f d.fd ["table","edge"] (zho K):=by
 refine d.F.ok za1 (λvs H Q E h=>?_) (λcdv A outer s H vs Q E hr h=>?_)
 .obtain⟨t,a,C,e,rfl,_⟩:=h;rfl
 .obtain⟨t,a,C,e,rfl,⟨kvs,ht,hC⟩,hq,hw,k⟩:=h;have hu1:=hu_of hr
  refine⟨_,(zac (zbP (pv 1) (zbh (by rfl) (zae (nG 2 za1.nd) (zae (nG 3 za1.nd) (zae (nG 4 za1.nd) zat)))))
   (zac (zbm Bf rfl (zka (zaO (zai (pC g_slant_step hr (pa_N (pv 4) zab)) (zai (pC g_straight_step hr (pa_N (pv 4) zab)) zab)))) (nG 5 za1.nd)
   (zaf (ps_if (zj5 (zmv hu1 (pC g_gone hr (pa_N (pv 2) (pa_N (pv 3) (pa_N (pv 5) zab)))) (pv 0)))
   (zaf (zak (pv 5)))
   zaB)))
   (zaf (zak zb0)))),?_⟩
  refine⟨_,rfl,a,_,rfl,hq,rfl,_,_,rfl,_,_,rfl,_,_,rfl,rfl,?_⟩;refine⟨_,rfl,e.w,rfl,hw,_,rfl,e.w,rfl,hw,two,λp hp=>⟨p,rfl,⟨_,SqT.of zaa⟩,?_⟩⟩
  refine zhL (K:=K) (a:=p) (xs:=[.int ((2*e.w+7) % 8:Nat),.int (2*e.w:Nat)]) (λi σ H2=>∃o,σ=[some (.ref t),some (.ref a),some (.int e.c.1),some (.int e.c.2),some (.int e.w),o]/\Same (upd H p (.tup [.int ((2*e.w+7) % 8:Nat),.int (2*e.w:Nat)])) H2/\(1<=i->C (go e.c ((2*e.w+7) % 8))=false)/\(2<=i->C (go e.c (2*e.w))=false))
   ⟨_,rfl,Same.refl _,λh=>absurd h (by decide),λh=>absurd h (by decide)⟩ (λi σ H2 _ ⟨_,_,s2,_⟩=>s2.seqT (SqT.of zaa)) ?_ ?_
  .rintro i v σ H2 hi ⟨o,rfl,s2,n1,n2⟩;have sH:Same H H2:=(Same.up hp).trans s2
   match i,hi with
   | 0,hi =>
    cases hi
    refine⟨_,rfl,_,rfl,_,rfl,e.c,(2*e.w+7) % 8,rfl,by lia,λp1 H3 hp1 s3 f1=>?_⟩;refine⟨_,rfl,t,_,rfl,.inr ⟨kvs,kC (go e.c ((2*e.w+7) % 8)),p1,Rd.of ((sH.trans s3) _ _ ht),rfl,f1,rfl⟩,_,rfl,?_⟩;have hv:=hC (go e.c ((2*e.w+7) % 8));change (valV kvs (kC (go e.c ((2*e.w+7) % 8)))).isSome=_ at hv;rw[hv];refine ite2 (λhy=>?_) (λhn=>?_)
    .refine⟨_,rfl,?_⟩;have:=k H3 (sH.trans s3);unfold stepB at this;rw[if_pos hy]at this;exact this
    .exact⟨_,rfl,s2.trans s3,λ_=>by simpa using hn,λh=>absurd h (by decide)⟩
   | 1,hi =>
    cases hi
    refine⟨_,rfl,_,rfl,_,rfl,e.c,2*e.w,rfl,by lia,λp1 H3 hp1 s3 f1=>?_⟩;refine⟨_,rfl,t,_,rfl,.inr ⟨kvs,kC (go e.c (2*e.w)),p1,Rd.of ((sH.trans s3) _ _ ht),rfl,f1,rfl⟩,_,rfl,?_⟩;have hv:=hC (go e.c (2*e.w));change (valV kvs (kC (go e.c (2*e.w)))).isSome=_ at hv;rw[hv];have h1:=n1 (by decide);refine ite2 (λhy=>?_) (λhn=>?_)
    .refine⟨_,rfl,?_⟩;have:=k H3 (sH.trans s3);unfold stepB at this;rw[h1,if_neg (by decide),if_pos hy]at this;exact this
    .exact⟨_,rfl,s2.trans s3,λ_=>h1,λ_=>by simpa using hn⟩
   |i+2,hi=>simp at hi
  .rintro σ H2 ⟨o,rfl,s2,n1,n2⟩;have:=k H2 ((Same.up hp).trans s2);unfold stepB at this;rw[n1 (by simp),n2 (by simp),if_neg (by decide),if_neg (by decide)]at this;exact this
noncomputable def zed(K:W.Frag):Sp:=λvs H Q _=>∃(a:Addr) (e:Edge) (o:Option Nat),vs=[.ref a,sv o]/\SqT K H a (edgeT e)/\e.w<4/\(∀s,o=some s->s<8)/\∀(p:Addr) (H':Hp),H p=none->Same H H'->H' p=some (.tup (edgeT (edgeB e o)))->Q (.ref p) H'
theorem zeP (g_gone:Fn P w K mg base 1 "gone" ["x", "y", "step"] zgr) (g_is_slant:Fn P w K mg base 1 "is_slant" ["step"] zdc)
  (d:Df K mg "edge_behind" zb8 ["edge","step"]):FnOk P w K mg base CX0 2 d.f d.fd ["edge","step"] (zed K):=by
 refine d.F.ok zaQ (λvs H Q E h=>?_) (λcdv A outer s H vs Q E hr h=>?_)
 .obtain⟨a,e,o,rfl,_⟩:=h;rfl
 .obtain⟨a,e,o,rfl,hq,hw,ho,k⟩:=h
  refine⟨_,(zac (zbP (pv 0) (zbh (by rfl) (zae (nG 2 zaQ.nd) (zae (nG 3 zaQ.nd) (zae (nG 4 zaQ.nd) zat)))))
   (zac (ps_if (zax zkk (pv 1) zb0 (zau _))
   (zaf (zak (zaO (pa_N (pv 2) (pa_N (pv 3) (pa_B (pe_op zaV (pe_op zaW (pv 4) zah) zah) zab))))))
   zaB)
   (zac (zbP (pC g_gone hr (pa_N (pv 2) (pa_N (pv 3) (pa_N (pv 1) zab)))) (zbh (by rfl) (zae (nG 5 zaQ.nd) (zae (nG 6 zaQ.nd) zat))))
   (zac (ps_if (zci (pC g_is_slant hr (pa_N (pv 1) zab)))
   (zaf (zak (zaO (pa_N (pv 5) (pa_N (pv 6) (pa_B (pe_op zaV (pe_op zaW (pv 4) zah) zah) zab))))))
   zaB)
   (zaf (zak (zaO (pa_N (pv 5) (pa_N (pv 6) (pa_N (pv 4) zab)))))))))),?_⟩
  refine⟨_,rfl,a,_,rfl,hq,rfl,_,_,rfl,_,_,rfl,_,_,rfl,rfl,?_⟩
  cases o with
  |none =>
   refine⟨_,rfl,rfl,true,rfl,iteT ?_⟩;refine⟨_,rfl,_,rfl,_,rfl,_,_,rfl,rfl,_,_,rfl,rfl,(by show (0:Int)<4;decide),three,λp hp=>k p _ hp (Same.up hp) ?_⟩;rw[zaa];have e1:((e.w:Int)+1) % 4=(((e.w+1) % 4:Nat):Int):=by lia
   show some (HO.tup [.int e.c.1,.int e.c.2,.int (((e.w:Int)+1) % 4)])=_;rw[e1];rfl
  |some n =>
   refine⟨_,rfl,rfl,false,rfl,iteF ?_⟩;refine⟨_,rfl,_,rfl,_,rfl,e.c,n,rfl,ho n rfl,λp1 H1 hp1 s1 f1=>?_⟩;refine⟨p1,_,rfl,SqT.of f1,rfl,_,_,rfl,_,_,rfl,rfl,?_⟩;refine⟨_,rfl,some n,rfl,_,rfl,?_⟩;refine ite2 (λhs=>?_) (λhs=>?_)
   .refine⟨_,rfl,_,rfl,_,rfl,_,_,rfl,rfl,_,_,rfl,rfl,(by show (0:Int)<4;decide),three,λp hp=>k p _ (s1.free hp) (s1.trans (Same.up hp)) ?_⟩;rw[zaa];have e1:((e.w:Int)+3) % 4=(((e.w+3) % 4:Nat):Int):=by lia
    have hn:n % 2=1:=by simpa[slant]using hs
    show some (HO.tup [.int (go e.c n).1,.int (go e.c n).2,.int (((e.w:Int)+3) % 4)])=_;rw[e1];unfold edgeB;simp only[if_pos hn];rfl
   .refine⟨_,rfl,_,rfl,_,rfl,three,λp hp=>k p _ (s1.free hp) (s1.trans (Same.up hp)) ?_⟩;rw[zaa];have hn:¬ n % 2=1:=by simpa[slant]using hs
    unfold edgeB;simp only[if_neg hn];rfl
noncomputable def KT(H H':Hp):Prop:=∀b xs,H b=some (.tup xs)->H' b=some (.tup xs)
theorem KT.refl(H:Hp):KT H H:=λ_ _ h=>h
theorem KT.trans{H H1 H2:Hp}(a:KT H H1)(b:KT H1 H2):KT H H2:=λc o h=>b c o (a c o h)
theorem KT.of{H H':Hp}(s:Same H H'):KT H H':=λb xs e=>s b _ e
theorem KT.up{H:Hp}{p:Addr}{o:HO}(h:H p=none):KT H (upd H p o):=KT.of (Same.up h)
theorem KT.lst{H:Hp}{p:Addr}{xs:List V}{o:HO}(h:H p=some (.lst xs)):KT H (upd H p o):=λb ys e=>by rw[zag (ne_of e h (λz=>nomatch z))];exact e
theorem KT.dct{H:Hp}{p:Addr}{xs:List (List Key×V)}{o:HO}(h:H p=some (.dT xs)):KT H (upd H p o):=λb ys e=>by rw[zag (ne_of e h (λz=>nomatch z))];exact e
theorem cR.kt{c:Cell}{v:V}{H H':Hp}(h:cR c v H)(s:KT H H'):cR c v H':=let ⟨b,e,q⟩:=h;⟨b,e,s _ _ q⟩
theorem eR.kt{c:Edge}{v:V}{H H':Hp}(h:eR c v H)(s:KT H H'):eR c v H':=let ⟨b,e,q⟩:=h;⟨b,e,s _ _ q⟩
theorem wR.kt{c:Edge×Option Nat}{v:V}{H H':Hp}(h:wR c v H)(s:KT H H'):wR c v H':=let ⟨A,b,e,q,r⟩:=h;⟨A,b,e,s _ _ q,s _ _ r⟩
noncomputable def VR{α:Type}(vs:List V)(l:List α)(R:α->V->Hp->Prop)(H:Hp):Prop:=vs.length=l.length/\∀(i:Nat) x v,l[i]?=some x->vs[i]?=some v->R x v H
theorem VR.nil{α:Type}{R:α->V->Hp->Prop}{H:Hp}:VR [] ([]:List α) R H:=⟨rfl,λi x v h=>by simp at h⟩
theorem VR.snoc{α:Type}{vs:List V}{l:List α}{R:α->V->Hp->Prop}{H H':Hp}{x:α}{v:V}(h:VR vs l R H)(m:∀x v,R x v H->R x v H')(hx:R x v H'):VR (vs++[v]) (l++[x]) R H':=by
 refine⟨by simp[h.1],λi y u h1 h2=>?_⟩;rcases A6 i l.length with hi |hi
 .rw[AH hi]at h1;rw[AH (by rw[h.1];exact hi)]at h2;exact m _ _ (h.2 i y u h1 h2)
 .rw[AW hi]at h1;rw[AW (by rw[h.1];exact hi)]at h2
  have hz:i-l.length=0:=by have:=(Ad.mp h1).1;simp at this;lia
  rw[hz]at h1;rw[h.1,hz]at h2
  cases h1;cases h2
  exact hx
theorem VR.mono{α:Type}{vs:List V}{l:List α}{R:α->V->Hp->Prop}{H H':Hp}(h:VR vs l R H)(m:∀x v,R x v H->R x v H'):VR vs l R H':=⟨h.1,λi x v h1 h2=>m _ _ (h.2 i x v h1 h2)⟩
theorem VR.at{α:Type}{vs:List V}{l:List α}{R:α->V->Hp->Prop}{H:Hp}(h:VR vs l R H){i:Nat}{v:V}(hv:vs[i]?=some v):∃x,l[i]?=some x/\R x v H:=by
 have hi:i<l.length:=by rw[<- h.1];exact (Ad.mp hv).1
 exact⟨l[i],Ab hi,h.2 i _ v (Ab hi) hv⟩
theorem zal{H H2:Hp}{p:Addr}{o:HO}(hp:H p=none)(s:Same H H2):Same H (upd H2 p o):=λz u e=>by rw[zag (zam e hp)];exact s z u e
theorem ziR(cs:List Cell)(c:Cell):sides (cs++[c])=sides cs++(Bk 4).map λw=>⟨c,w⟩:=by unfold sides;simp[List.flatMap_append]
theorem zar{α:Type}{l:List α}{i:Nat}{x:α}(h:l[i]?=some x):l.take (i+1)=l.take i++[x]:=by rw[DP,h];rfl
theorem zez{α:Type}(p:α->Bool)(l:List α)(x:α):(l++[x]).filter p=l.filter p++(if p x=true then [x] else []):=by rw[DZ];congr 1;simp[List.filter_cons]
noncomputable def zjP(K:W.Frag):Sp:=λvs H Q _=>∃(a:Addr) (cs:List Cell),vs=[.ref a]/\LR K H a cs cR/\cs.length<=120/\∀p H' es,H p=none->Same H H'->H' p=some (.lst es)->VR es (allE cs) eR H'->Q (.ref p) H'
theorem zgL (T:Txt P w K mg) (g_cell_table:Fn P w K mg base 1 "cell_table" ["picture"] (zfr K)) (g_gap_beside:Fn P w K mg base 2 "gap_beside" ["edge"] (spGap K))
  (d:Df K mg "all_edges" zbG ["picture"]):FnOk P w K mg base CX0 3 d.f d.fd ["picture"] (zjP K):=by
 refine d.F.ok zcp (λvs H Q E h=>?_) (λcdv A outer s H vs Q E hr h=>?_)
 .obtain⟨a,cs,rfl,_⟩:=h;rfl
 .obtain⟨a,cs,rfl,hLR,hlen,k⟩:=h;obtain⟨ws,hq,hn,hc⟩:=id hLR;have hu1:=hu_of hr;have nb0:(["x","y","way"]:List Str).Nodup:=by decide +kernel
  have nb1:(["edge","table"]:List Str).Nodup:=by decide +kernel
  refine⟨_,(zac (zgB (i:=1) zcp.nd (by rfl) (EQ rfl) (pC g_cell_table hr (pa_N (pv 0) zab)))
   (zac (zj6 (i:=2) (osc:=zad zbG) (N:=zc6) (N':=["x","y","way"]) (sel:=[none,none,none]) bO zcp.nd (by rfl) (Or.inl rfl) (zaz (pv 0)) (λ_ _ _ _ _=>(zbV (K:=K) (n:=2) (by rfl) (zae (nG 0 nb0) (zae (nG 1 nb0) zat)))) (λ_ _ _ _ _=>zbl) (λ_ _ _ _ _=>(zdf (by rfl) T.nrange (pa_C zah zab))) (λ_ _ _ _ _=>(nG 2 nb0)) (λ_ _ _ _ _=>zbl) (λ_ _ _ _ _=>(zaO (pa_N (pv 0) (pa_N (pv 1) (pa_N (pv 2) zab))))) (λ_ _ _=>rfl))
   (zaf (zak (zaI (osc:=zad zbG) (N:=zc6) (N':=["edge","table"]) (sel:=[none,some 1]) bO (zaz (pv 2)) (λ_ _ _ _ _=>(nG 0 nb1)) (λ_ _ _ _ _=>zcX (zj5 (zen hu1 (pC g_gap_beside hr (pa_N (pv 0) zab)) (pv 1)))) (λ_ _ _ _ _=>(pv 0))))))),?_⟩
  refine⟨_,rfl,a,cs,rfl,hLR,by lia,λt H1 ht s1 tab=>?_⟩;obtain⟨kvs,et,hC⟩:=tab;refine⟨_,rfl,a,rfl,⟨_,s1.seq hq⟩,λp hp=>?_⟩
  refine zao (K:=K) (a:=a) (xs:=ws) (λi σ H2=>∃o1 o2 o3,σ=[o1,o2,o3]/\Same H1 H2/\∃es,H2 p=some (.lst es)/\VR es (sides (cs.take i)) eR H2)
   ⟨_,_,_,rfl,Same.up hp,[],zaa,VR.nil⟩ (λi σ H2 _ ⟨_,_,_,_,s2,_⟩=>(s1.trans s2).seq hq) ?_ ?_
  .rintro i v σ H2 hi ⟨o1,o2,o3,rfl,s2,es,e2,hv⟩;have hil:i<ws.length:=(Ad.mp hi).1;have ci:cs[i]?=some cs[i]:=Ab (by lia)
   obtain⟨b,rfl,qb⟩:=hc i _ _ ci hi;refine⟨b,_,rfl,SqT.of ((s1.trans s2) _ _ qb),rfl,_,_,rfl,_,_,rfl,rfl,?_⟩;refine zb2 ?_
   refine⟨4,rfl,by decide,by decide,?_⟩
   refine zbJ (lo:=0) (n:=4) (λj σ H3=>∃o,σ=[some (.int cs[i].1),some (.int cs[i].2),o]/\Same H1 H3/\∃es,H3 p=some (.lst es)/\VR es (sides (cs.take i)++(Bk j).map λw=>⟨cs[i],w⟩) eR H3)
    ⟨_,rfl,s2,es,e2,by simpa using hv⟩ ?_ ?_
   .rintro j σ H3 hj ⟨o,rfl,s3,es3,e3,hv3⟩
    have hl3:es3.length<=1000:=by rw[hv3.1,Av,zbe,AS,Ah,CH];lia
    refine gN ?_
    refine⟨_,rfl,_,rfl,_,rfl,three,λq hq'=>⟨es3,?_,zaj hl3,_,rfl,zal hp (s3.trans (Same.up hq')),_,zaa,?_⟩⟩
    .rw[zag (zam e3 hq')];exact e3
    .rw[List.range_succ,Ay,<- AN];have hpq:p≠q:=zam e3 hq';have k2:KT (upd H3 q (.tup [.int cs[i].1,.int cs[i].2,.int (0+(j:Int))])) (upd (upd H3 q (.tup [.int cs[i].1,.int cs[i].2,.int (0+(j:Int))])) p (.lst (es3++[.ref q]))):=KT.lst (xs:=es3) (by rw[zag hpq];exact e3);refine hv3.snoc (λx v hx=>hx.kt ((KT.up hq').trans k2)) ⟨q,rfl,k2 _ _ ?_⟩;rw[zaa];show some (HO.tup [.int cs[i].1,.int cs[i].2,.int (0+(j:Int))])=some (HO.tup [.int cs[i].1,.int cs[i].2,.int (j:Int)]);rw[Int.zero_add]
   .rintro σ H3 ⟨o,rfl,s3,es3,e3,hv3⟩;exact⟨_,_,_,rfl,s3,es3,e3,by rw[zar ci,ziR];exact hv3⟩
  .rintro σ H2 ⟨o1,o2,o3,rfl,s2,es,e2,hv⟩;rw[hn,AI]at hv;have hles:es.length<=1000:=by rw[hv.1,zbe];lia
   refine⟨_,rfl,p,rfl,⟨_,SqL.of e2⟩,λp2 hp2=>?_⟩
   refine zao (K:=K) (a:=p) (xs:=es) (λi σ H3=>∃o,σ=[o,some (.ref t)]/\Same H2 H3/\∃es3,H3 p2=some (.lst es3)/\VR es3 (((sides cs).take i).filter λe=>!isIn cs (gap e)) eR H3)
    ⟨_,rfl,Same.up hp2,[],zaa,VR.nil⟩ (λi σ H3 _ ⟨_,_,s3,_⟩=>s3.seq (SqL.of e2)) ?_ ?_
   .rintro i v σ H3 hi ⟨o,rfl,s3,es3,e3,hv3⟩;obtain⟨e,he,b,rfl,qb⟩:=hv.at hi;have hw4:e.w<4:=(zb1.mp (Aj he)).2
    have hl3:es3.length<=1000:=by have h1:=BV (λe=>!isIn cs (gap e)) ((sides cs).take i);rw[hv3.1];rw[AS,zbe]at h1;lia
    refine⟨_,rfl,b,e,rfl,SqT.of (s3 _ _ qb),hw4,λp3 H4 hp3 s4 f4=>?_⟩;refine⟨_,rfl,t,_,rfl,.inr ⟨kvs,kC (gap e),p3,Rd.of ((s2.trans (s3.trans s4)) _ _ et),rfl,f4,rfl⟩,_,rfl,?_⟩;have hcv:=hC (gap e);change (valV kvs (kC (gap e))).isSome=_ at hcv;rw[hcv,zar he,zez];refine ite2 (λhy=>?_) (λhn'=>?_)
    .refine⟨_,rfl,es3,s4 _ _ e3,zaj hl3,_,rfl,zal hp2 (s3.trans s4),_,zaa,?_⟩;rw[if_pos hy];have k2:KT H4 (upd H4 p2 (.lst (es3++[.ref b]))):=KT.lst (s4 _ _ e3);exact hv3.snoc (λx v hx=>hx.kt ((KT.of s4).trans k2)) ⟨b,rfl,k2 _ _ ((s3.trans s4) _ _ qb)⟩
    .refine⟨_,rfl,s3.trans s4,es3,s4 _ _ e3,?_⟩;rw[if_neg hn',BJ];exact hv3.mono λx v hx=>hx.kt (KT.of s4)
   .rintro σ H3 ⟨o,rfl,s3,es3,e3,hv3⟩;rw[hv.1,AI]at hv3;exact k p2 H3 es3 (s1.free (s2.free hp2)) (s1.trans (s2.trans s3)) e3 hv3
noncomputable def eI(e:Edge):List Int:=[e.c.1,e.c.2,(e.w:Int)]
theorem zix{e f:Edge}:eI e=eI f ↔ e=f:=by
 constructor
 .intro h;obtain⟨⟨x,y⟩,w⟩:=e;obtain⟨⟨x',y'⟩,w'⟩:=f;unfold eI at h;injection h with h1 h2;injection h2 with h2 h3;injection h3 with h3 _;simp only at h1 h2 h3;have:w=w':=by lia
  subst h1 h2 this;rfl
 .rintro rfl;rfl
theorem zcx{K:W.Frag}{H:Hp}{b:Addr}{e:Edge}(h:H b=some (.tup (edgeT e))):RD K H (.ref b) (tI (eI e)):=.tup (SqT.of h) (RDs.ints (eI e))
theorem zda{C:Cell->Bool}{e:Edge}(hw:e.w<4):∀s,stepB C e=some s->s<8:=by
 intro s h;unfold stepB at h;split at h
 .cases h;lia
 .split at h
  .cases h;lia
  .cases h
noncomputable def wk(C:Cell->Bool)(es:List Edge):List (Edge×Option Nat):=es.map λe=>(e,stepB C e)
theorem zmG(C:Cell->Bool)(es:List Edge)(e:Edge):wk C (es++[e])=wk C es++[(e,stepB C e)]:=by unfold wk;simp
theorem zbu(C:Cell->Bool)(es:List Edge):(wk C es).length=es.length:=by unfold wk;simp
noncomputable def zkt:Option HO->Nat
 |some (.lst ws)=>ws.length
 |_=>0
noncomputable def zml(K:W.Frag):Sp:=λvs H Q _=>∃(t a:Addr) (cs:List Cell) (b:Edge),vs=[.ref t,.ref a]/\Tab H t (isIn cs)/\H a=some (.tup (edgeT b))/\IsE (isIn cs) b/\cs.length<=120 /\
 ∀p H' ws es,H p=none->Same H H'->H' p=some (.lst ws)->VR ws (wk (isIn cs) es) wR H'->Closed (isIn cs) b es->Q (.ref p) H'
theorem zgH (g_step_behind:Fn P w K mg base 2 "step_behind" ["table", "edge"] (zho K)) (g_edge_behind:Fn P w K mg base 2 "edge_behind" ["edge", "step"] (zed K))
  (d:Df K mg "walk_from" zcT ["table","begin"]):FnOk P w K mg base CX0 3 d.f d.fd ["table","begin"] (zml K):=by
 refine d.F.ok zbg (λvs H Q E h=>?_) (λcdv A outer s H vs Q E hr h=>?_)
 .obtain⟨t,a,cs,b,rfl,_⟩:=h;rfl
 .obtain⟨t,a,cs,b,rfl,tab,ha,hb,hlen,k⟩:=h;have hu64:=hr.units
  refine⟨_,(zac (sE 2 zbg.nd (pC g_step_behind hr (pa_N (pv 0) (pa_N (pv 1) zab))))
   (zac (sE 3 zbg.nd (zbw (pa_T (zaO (pa_N (pv 1) (pa_N (pv 2) zab))) zab)))
   (zac (sE 4 zbg.nd (pC g_edge_behind hr (pa_N (pv 1) (pa_N (pv 2) zab))))
   (zac (zlB Bf (zax (zkj hu64) (pv 4) (pv 1) (zau _))
   (zac (sE 2 zbg.nd (pC g_step_behind hr (pa_N (pv 0) (pa_N (pv 4) zab))))
   (zac (zaY (pe_bm A5 Bt Bu zaT (pv 3) (pa_T (zaO (pa_N (pv 4) (pa_N (pv 2) zab))) zab)))
   (zaf (sE 4 zbg.nd (pC g_edge_behind hr (pa_N (pv 4) (pa_N (pv 2) zab))))))))
   (zaf (zak (pv 3))))))),?_⟩
  refine⟨_,rfl,_,rfl,t,a,isIn cs,b,rfl,tab,SqT.of ha,hb.1,λH1 s1=>?_⟩;refine⟨_,rfl,_,rfl,two,λq hq=>⟨(by show 1<=sizeLine;decide),λp hp=>?_⟩⟩;have hpq:p≠q:=λz=>by subst z;rw[zaa]at hp;cases hp
  have hp1:H1 p=none:=by rw[zag hpq]at hp;exact hp
  have s2:Same H1 (upd (upd H1 q (.tup [.ref a,sv (stepB (isIn cs) b)])) p (.lst [.ref q])):=zal hp1 (Same.up hq);refine⟨_,rfl,_,rfl,a,b,stepB (isIn cs) b,rfl,SqT.of (s2 _ _ (s1 _ _ ha)),hb.1,zda hb.1,λr H3 hr3 s3 f3=>?_⟩;have s03:Same H H3:=s1.trans (s2.trans s3);have hp0:H p=none:=s1.free hp1
  refine zlm (λσ H4=>∃ws es l o re,σ=[some (.ref t),some (.ref a),some o,some (.ref p),some (.ref re)]/\Same H H4/\H4 p=some (.lst ws)/\VR ws (wk (isIn cs) (es++[l])) wR H4/\Chain (isIn cs) b (es++[l])/\H4 re=some (.tup (edgeT (nxt (isIn cs) l))))
   (λ_ H4=>4*cs.length+1-zkt (H4 p)) ?_ ?_ ?_
  .refine⟨[.ref q],[],b,_,r,rfl,s03,s3 _ _ zaa,⟨rfl,λi x v h1 h2=>?_⟩,Chain.start hb,f3⟩
   match i,h1,h2 with
   | 0,h1,h2 =>
    cases h1;cases h2
    refine⟨q,a,rfl,s3 _ _ ?_,s03 _ _ ha⟩;rw[zag (Cj hpq),zaa]
   |i+1,h1,h2=>simp at h2
  .rintro σ H4 ⟨ws,es,l,o,re,rfl,s4,e4,hv,hch,er⟩;have hw4:(nxt (isIn cs) l).w<4:=(zdL (hch.2.2.1 l (by simp))).1;refine⟨_,rfl,_,rfl,_,_,zcx er,zcx (s4 _ _ ha),zaZ _,zaZ _,_,rfl,?_⟩;rw[zeA]
   by_cases hne:nxt (isIn cs) l=b
   .rw[decide_eq_true (zix.mpr hne)];refine iteF ?_
    refine⟨_,rfl,k p H4 ws (es++[l]) hp0 s4 e4 hv ⟨hch,l,?_,hne⟩⟩;simp
   .rw[decide_eq_false (λz=>hne (zix.mp z))];refine iteT ?_
    have hch2:=hch.more hne;have hsh:=hch2.short;have hl4:ws.length=(es++[l]).length:=by rw[hv.1,zbu]
    have hl5:ws.length+1<=4*cs.length:=by rw[hl4];rw[Av,Ea]at hsh;exact hsh
    refine⟨_,rfl,_,rfl,t,re,isIn cs,nxt (isIn cs) l,rfl,tab.same s4,SqT.of er,hw4,λH5 s5=>?_⟩;refine⟨_,rfl,.inl ⟨rfl,_,SqL.of (s5 _ _ e4)⟩,_,rfl,_,rfl,two,λq5 hq5=>?_⟩;have e5:=s5 _ _ e4;have hp5:p≠q5:=zam e5 hq5;refine⟨p,ws,_,rfl,rfl,(by rw[zag hp5];exact e5),zaj (by lia),?_⟩;have k5:KT H5 (upd (upd H5 q5 (.tup [.ref re,sv (stepB (isIn cs) (nxt (isIn cs) l))])) p (.lst (ws++[.ref q5]))):=(KT.up hq5).trans (KT.lst (xs:=ws) (by rw[zag hp5];exact e5));have e6:upd (upd H5 q5 (.tup [.ref re,sv (stepB (isIn cs) (nxt (isIn cs) l))])) p (.lst (ws++[.ref q5])) re=some (.tup (edgeT (nxt (isIn cs) l))):=k5 _ _ (s5 _ _ er);have s6:Same H (upd (upd H5 q5 (.tup [.ref re,sv (stepB (isIn cs) (nxt (isIn cs) l))])) p (.lst (ws++[.ref q5]))):=zal hp0 ((s4.trans s5).trans (Same.up hq5));refine⟨_,rfl,_,rfl,re,nxt (isIn cs) l,_,rfl,SqT.of e6,hw4,zda hw4,λr7 H7 hr7 s7 f7=>?_⟩;have e7:=s7 _ _ zaa;refine⟨⟨ws++[.ref q5],es++[l],nxt (isIn cs) l,_,r7,rfl,s6.trans s7,e7,?_,hch2,f7⟩,?_⟩
    .rw[zmG];refine hv.snoc (λx v hx=>hx.kt ((KT.of s5).trans (k5.trans (KT.of s7)))) ⟨q5,re,rfl,s7 _ _ ?_,s7 _ _ e6⟩;rw[zag (Cj hp5),zaa]
    .show 4*cs.length+1-zkt (H7 p)<4*cs.length+1-zkt (H4 p);rw[e7,e4];show 4*cs.length+1-(ws++[V.ref q5]).length<4*cs.length+1-ws.length;rw[Av,Ea];lia
  .rintro σ H4 Q1 Q2 hQ ⟨v,h1,v2,h2,dd,ee,r1,r2,x1,x2,kk,h3,q⟩;exact⟨v,h1,v2,h2,dd,ee,r1,r2,x1,x2,kk,h3,hQ _ _ q⟩
noncomputable abbrev Wk:=List (Edge×Option Nat)
noncomputable def nL(W:Wk):Nat:=(W.filter λq=>q.2.isNone).length
noncomputable def nS(W:Wk):Nat:=(W.filter λq=>slant q.2).length
theorem zmj(o:Option Nat):decide (sv o=V.non)=o.isNone:=by cases o <;> simp[sv]
theorem zc1{α:Type}{p:α->Bool}{l:List α}{i:Nat}{x:α}(h:l[i]?=some x):((l.take (i+1)).filter p)=(l.take i).filter p++(if p x=true then [x] else []):=by rw[zar h,zez]
theorem LR.vr{α:Type}{K:W.Frag}{H:Hp}{a:Addr}{l:List α}{R:α->V->Hp->Prop}(h:LR K H a l R):∃vs,SqL K H a vs/\VR vs l R H:=let ⟨vs,q,n,r⟩:=h;⟨vs,q,n,r⟩
theorem LR.of{α:Type}{K:W.Frag}{H:Hp}{a:Addr}{vs:List V}{l:List α}{R:α->V->Hp->Prop}(e:H a=some (.lst vs))(h:VR vs l R H):LR K H a l R:=⟨vs,SqL.of e,h.1,h.2⟩
noncomputable def zjK(K:W.Frag):Sp:=λvs H Q _=>∃(a:Addr) (W:Wk),vs=[.ref a]/\LR K H a W wR/\W.length<=500/\∀p H',H p=none->Same H H'->H' p=some (.tup [.int (nL W),.int (nS W)])->Q (.ref p) H'
theorem zcZ (T:Txt P w K mg) (g_is_slant:Fn P w K mg base 1 "is_slant" ["step"] zdc) (d:Df K mg "lefts_and_slants" zaH ["walk"]):FnOk P w K mg base CX0 2 d.f d.fd ["walk"] (zjK K):=by
 refine d.F.ok za7 (λvs H Q E h=>?_) (λcdv A outer s H vs Q E hr h=>?_)
 .obtain⟨a,W,rfl,_⟩:=h;rfl
 .obtain⟨a,W,rfl,hLR,hlen,k⟩:=h;obtain⟨ws,hq,hv⟩:=hLR.vr;have nb0:(["edge","step"]:List Str).Nodup:=by decide +kernel
  have nb1:(["edge","step"]:List Str).Nodup:=by decide +kernel
  refine⟨_,(zac (sE 1 za7.nd (zan zas (by rfl) T.nlen (by rfl) (zai (zaI (osc:=zad zaH) (N:=zbo) (N':=["edge","step"]) (sel:=[none,none]) bO (zaz (pv 0)) (λ_ _ _ _ _=>(zbV (K:=K) (n:=2) (by rfl) (zae (nG 0 nb0) (zae (nG 1 nb0) zat)))) (λ_ _ _ _ _=>zcX (zax zkk (pv 1) zb0 (zau _))) (λ_ _ _ _ _=>(pv 1))) zab)))
   (zac (sE 2 za7.nd (zan zas (by rfl) T.nlen (by rfl) (zai (zaI (osc:=zad zaH) (N:=zbo) (N':=["edge","step"]) (sel:=[none,none]) bO (zaz (pv 0)) (λ_ _ _ _ _=>(zbV (K:=K) (n:=2) (by rfl) (zae (nG 0 nb1) (zae (nG 1 nb1) zat)))) (λ_ _ _ _ _=>zcX (zci (pC g_is_slant hr (pa_N (pv 1) zab)))) (λ_ _ _ _ _=>(pv 1))) zab)))
   (zaf (zak (zaO (pa_N (pv 1) (pa_N (pv 2) zab))))))),?_⟩
  refine⟨_,rfl,a,rfl,⟨_,hq⟩,λp hp=>?_⟩
  refine zao (K:=K) (a:=a) (xs:=ws) (λi σ H2=>∃o1 o2,σ=[o1,o2]/\Same H H2/\∃ss:List V,H2 p=some (.lst ss)/\ss.length=((W.take i).filter λq=>q.2.isNone).length)
   ⟨_,_,rfl,Same.up hp,[],zaa,rfl⟩ (λi σ H2 _ ⟨_,_,_,s2,_⟩=>s2.seq hq) ?_ ?_
  .rintro i v σ H2 hi ⟨o1,o2,rfl,s2,ss,e2,hl⟩;obtain⟨⟨e,st⟩,he,B,b,rfl,q1,q2⟩:=hv.at hi
   have hl2:ss.length<=1000:=by have:=BV (λq:Edge×Option Nat=>q.2.isNone) (W.take i);rw[AS]at this;lia
   refine⟨B,_,rfl,SqT.of (s2 _ _ q1),rfl,_,_,rfl,_,_,rfl,rfl,?_⟩;refine⟨_,rfl,rfl,_,rfl,?_⟩;rw[zmj];rw[zc1 he]at *;refine ite2 (λhy=>?_) (λhn=>?_)
   .refine⟨_,rfl,ss,e2,zaj hl2,_,_,rfl,zal hp s2,_,zaa,?_⟩;rw[if_pos hy,Av,Av,hl];rfl
   .exact⟨_,_,rfl,s2,ss,e2,by rw[if_neg hn,BJ];exact hl⟩
  .rintro σ H2 ⟨o1,o2,rfl,s2,ss,e2,hl⟩;refine⟨p,_,rfl,.inl (SqL.of e2),?_⟩;refine⟨_,rfl,a,rfl,⟨_,s2.seq hq⟩,λp2 hp2=>?_⟩
   refine zao (K:=K) (a:=a) (xs:=ws) (λi σ H3=>∃o1 o2,σ=[o1,o2]/\Same H2 H3/\∃s3:List V,H3 p2=some (.lst s3)/\s3.length=((W.take i).filter λq=>slant q.2).length)
    ⟨_,_,rfl,Same.up hp2,[],zaa,rfl⟩ (λi σ H3 _ ⟨_,_,_,s3,_⟩=>(s2.trans s3).seq hq) ?_ ?_
   .rintro i v σ H3 hi ⟨o1,o2,rfl,s3,ss3,e3,hl3⟩;obtain⟨⟨e,st⟩,he,B,b,rfl,q1,q2⟩:=hv.at hi
    have hl2:ss3.length<=1000:=by have:=BV (λq:Edge×Option Nat=>slant q.2) (W.take i);rw[AS]at this;lia
    refine⟨B,_,rfl,SqT.of ((s2.trans s3) _ _ q1),rfl,_,_,rfl,_,_,rfl,rfl,?_⟩;refine⟨_,rfl,st,rfl,_,rfl,?_⟩;rw[zc1 he]at *;refine ite2 (λhy=>?_) (λhn=>?_)
    .refine⟨_,rfl,ss3,e3,zaj hl2,_,_,rfl,zal hp2 s3,_,zaa,?_⟩;rw[if_pos hy,Av,Av,hl3];rfl
    .exact⟨_,_,rfl,s3,ss3,e3,by rw[if_neg hn,BJ];exact hl3⟩
   .rintro σ H3 ⟨o1,o2,rfl,s3,ss3,e3,hl3⟩;refine⟨p2,_,rfl,.inl (SqL.of e3),?_⟩;refine⟨_,rfl,_,rfl,two,λp4 hp4=>k p4 _ (s2.free (s3.free hp4)) ((s2.trans s3).trans (Same.up hp4)) ?_⟩;rw[hv.1,AI]at hl hl3;rw[zaa,hl,hl3];rfl
noncomputable def zjJ(K:W.Frag):Sp:=λvs H Q _=>∃(a:Addr) (W:Wk),vs=[.ref a]/\LR K H a W wR/\W.length<=500/\∀H',Same H H'->Q (.int ((nL W:Int)-nS W)) H'
theorem zcL (g_lefts_and_slants:Fn P w K mg base 2 "lefts_and_slants" ["walk"] (zjK K)) (d:Df K mg "lefts_less_slants" za9 ["walk"]):FnOk P w K mg base CX0 3 d.f d.fd ["walk"] (zjJ K):=by
 refine d.F.ok zaX (λvs H Q E h=>?_) (λcdv A outer s H vs Q E hr h=>?_)
 .obtain⟨a,W,rfl,_⟩:=h;rfl
 .obtain⟨a,W,rfl,hLR,hlen,k⟩:=h
  refine⟨_,(zac (zbP (pC g_lefts_and_slants hr (pa_N (pv 0) zab)) (zbh (by rfl) (zae (nG 1 zaX.nd) (zae (nG 2 zaX.nd) zat))))
   (zaf (zak (pe_op zdh (pv 1) (pv 2))))),?_⟩
  refine⟨_,rfl,a,W,rfl,hLR,hlen,λp H1 hp s1 f1=>?_⟩;refine⟨p,_,rfl,SqT.of f1,rfl,_,_,rfl,_,_,rfl,rfl,?_⟩;exact⟨_,rfl,_,rfl,_,_,rfl,rfl,k H1 s1⟩
noncomputable def sortS (W:Wk):Str:=if nS W<nL W then "rim" else "hole"
noncomputable def zmn(K:W.Frag):Sp:=λvs H Q _=>∃(a:Addr) (W:Wk),vs=[.ref a]/\LR K H a W wR/\W.length<=500/\∀H',Same H H'->Q (.str (sortS W)) H'
theorem zi0 (g_lefts_less_slants:Fn P w K mg base 3 "lefts_less_slants" ["walk"] (zjJ K)) (d:Df K mg "sort_of" zej ["walk"]):FnOk P w K mg base CX0 4 d.f d.fd ["walk"] (zmn K):=by
 refine d.F.ok ziT (λvs H Q E h=>?_) (λcdv A outer s H vs Q E hr h=>?_)
 .obtain⟨a,W,rfl,_⟩:=h;rfl
 .obtain⟨a,W,rfl,hLR,hlen,k⟩:=h;refine⟨_,(zaf (zak (zfH (zax op_gt (pC g_lefts_less_slants hr (pa_N (pv 0) zab)) zah (zau _)) zie zie))),?_⟩;refine⟨_,rfl,a,W,rfl,hLR,hlen,λH1 s1=>?_⟩;refine⟨_,_,rfl,rfl,_,rfl,?_⟩;have h1:=k H1 s1;unfold sortS at h1
  by_cases hlt:nS W<nL W
  .rw[if_pos hlt]at h1;exact iteY (decide_eq_true (by lia)) h1
  .rw[if_neg hlt]at h1;exact iteN (decide_eq_false (by lia)) h1
noncomputable def kOf (s:Str):Nat:=if s = "rim" then 0 else 2
noncomputable def zcg(W:Wk)(s:Str)(e:Edge):Prop:=e∈W.map (·.1)/\e.w=kOf s/\∀f∈W.map (·.1),f.w=kOf s->HT.lexLt [f.c.2,f.c.1] [e.c.2,e.c.1]=false
noncomputable def zhq (K:W.Frag):Sp:=λvs H Q _=>∃(a:Addr) (W:Wk) (s:Str),vs=[.ref a,.str s]/\(s = "rim" ∨ s = "hole")/\LR K H a W wR/\W.length<=500/\(∃e∈W.map (·.1),e.w=kOf s) /\
 ∀b e H',Same H H'->H' b=some (.tup (edgeT e))->zcg W s e->Q (.ref b) H'
theorem zhH (T:Txt P w K mg) (g_cell_order:Fn P w K mg base 1 "cell_order" ["cell"] (zft K)) (d:Df K mg "begin_of" zcG ["walk","sort"]):FnOk P w K mg base CX0 3 d.f d.fd ["walk","sort"] (zhq K):=by
  refine d.F.ok zhw (λvs H Q E h=>?_) (λcdv A outer s H vs Q E hr h=>?_)
  . obtain⟨a,W,s,rfl,_⟩:=h;rfl
  . obtain⟨a,W,so,rfl,hso,hLR,hlen,hex,k⟩:=h;obtain⟨ws,hq,hv⟩:=hLR.vr;have nb0:(["edge","step","sort"]:List Str).Nodup:=by decide +kernel
    refine⟨_,(zaf (zak (zmY g_cell_order.ok (hr.mono (by decide)) g_cell_order.b (by rfl) T.nmin (by rfl) g_cell_order.m (zaI (osc:=zad zcG) (N:=zfj) (N':=["edge","step","sort"]) (sel:=[none,none,some 1]) bO (zaz (pv 0)) (λ_ _ _ _ _=>(zbV (K:=K) (n:=2) (by rfl) (zae (nG 0 nb0) (zae (nG 1 nb0) zat)))) (λ_ _ _ _ _=>zcX (zax op_eq (pe_ix (zhK (K:=K)) (pv 0) zah (λ_ _=>rfl)) (zkd (by rfl) T.ways (pv 2)) (zau _))) (λ_ _ _ _ _=>(pv 0)))))),?_⟩;refine⟨_,rfl,a,rfl,⟨_,hq⟩,λp hp=>?_⟩
    refine zao (K:=K) (a:=a) (xs:=ws) (λi σ H2=>∃o1 o2,σ=[o1,o2,some (.str so)]/\Same H H2/\∃es:List V,H2 p=some (.lst es)/\VR es (((W.take i).filter λq=>q.1.w == kOf so).map (·.1)) eR H2)
      ⟨_,_,rfl,Same.up hp,[],zaa,VR.nil⟩ (λi σ H2 _ ⟨_,_,_,s2,_⟩=>s2.seq hq) ?_ ?_
    . rintro i v σ H2 hi ⟨o1,o2,rfl,s2,es,e2,hl⟩;obtain⟨⟨e,st⟩,he,B,b,rfl,q1,q2⟩:=hv.at hi
      have hl2:es.length<=1000:=by have:=BV (λq:Edge×Option Nat=>q.1.w == kOf so) (W.take i);rw[hl.1,Ah];rw[AS]at this;lia
      have fin:∀kk:Int, kk=(kOf so:Int) -> (if decide (V.int (e.w:Int)=V.int kk)=true then zcn p (tVar 0) { nx := λσ H2 => ∃o1 o2, σ = [o1, o2, some (V.str so)] /\ Same H H2 /\ ∃es, H2 p=some (.lst es) /\ VR es (List.map (λx => x.fst) (List.filter (λq => q.1.w == kOf so) (List.take (i + 1) W))) eR H2, rt := λ_ _ => False } [some (.ref b), some (sv st), some (.str so)] H2
          else (∃o1 o2,[some (.ref b),some (sv st),some (V.str so)]=[o1,o2,some (V.str so)]/\Same H H2/\∃es,H2 p=some (.lst es)/\VR es (List.map (λx=>x.fst) (List.filter (λq=>q.1.w == kOf so) (List.take (i+1) W))) eR H2)):=λkk hk=>by
        have hd:decide (V.int (e.w:Int)=V.int kk)=(e.w == kOf so):=by
          subst hk
          by_cases q:e.w=kOf so
          . rw[q];simp
          . rw[decide_eq_false (λz=>q (by injection z with z;lia))];simp[q]
        rw[hd,zc1 he];refine ite2 (λhy=>?_) (λhn=>?_)
        . refine⟨_,rfl,es,e2,zaj hl2,_,_,rfl,zal hp s2,_,zaa,?_⟩;rw[if_pos hy,Ay];have k2:KT H2 (upd H2 p (.lst (es++[.ref b]))):=KT.lst e2;exact hl.snoc (λx v hx=>hx.kt k2) ⟨b,rfl,k2 _ _ (s2 _ _ q2)⟩
        . exact⟨_,_,rfl,s2,es,e2,by rw[if_neg hn,BJ];exact hl⟩
      refine⟨B,_,rfl,SqT.of (s2 _ _ q1),rfl,_,_,rfl,_,_,rfl,rfl,?_⟩;rcases hso with z |z
      . have f0:=fin 0 (by rw[z];rfl);exact⟨_,rfl,b,_,_,_,rfl,rfl,SqT.of (s2 _ _ q2),zaG (j:=2) rfl,_,rfl,.inl ⟨by rw[z],rfl,_,rfl,f0⟩⟩
      . have f2:=fin 2 (by rw[z];rfl);exact⟨_,rfl,b,_,_,_,rfl,rfl,SqT.of (s2 _ _ q2),zaG (j:=2) rfl,_,rfl,.inr ⟨by rw[z],rfl,_,rfl,f2⟩⟩
    . rintro σ H2 ⟨o1,o2,rfl,s2,es,e2,hl⟩;rw[hv.1,AI]at hl;obtain⟨L,hL⟩:∃L,L=((W.filter λq=>q.1.w == kOf so).map (·.1)):=⟨_,rfl⟩;rw[<- hL]at hl
      have memL:∀f,f∈L ↔ f∈W.map (·.1)/\f.w=kOf so:=λf=>by
        rw[hL];constructor
        . intro h;obtain⟨q,hq1,rfl⟩:=AE.mp h;obtain⟨h1,h2⟩:=Bz.mp hq1;exact⟨AE.mpr ⟨q,h1,rfl⟩,by simpa using h2⟩
        . rintro⟨h1,h2⟩;obtain⟨q,hq1,rfl⟩:=AE.mp h1;exact AE.mpr ⟨q,Bz.mpr ⟨hq1,by simpa using h2⟩,rfl⟩
      have hpos:0<es.length:=by obtain⟨f,h1,h2⟩:=hex;rw[hl.1];exact List.length_pos_of_mem ((memL f).mpr ⟨h1,h2⟩)
      have kap:∀(i:Nat) e,L[i]?=some e->(λi=>(L[i]?.map λe:Edge=>[e.c.2,e.c.1]).getD []) i=[e.c.2,e.c.1]:=λi e h=>by simp only[h];rfl
      refine⟨p,es,λi=>(L[i]?.map λe:Edge=>[e.c.2,e.c.1]).getD [],rfl,SqL.of e2,hpos,λi x H3 hx s3=>?_,λi x H3 hx hle s3=>?_⟩
      . obtain⟨e,he,b,rfl,q⟩:=hl.at hx;refine⟨b,e.c.1,e.c.2,_,rfl,SqT.of (s3 _ _ q),λp4 H4 hp4 s4 f4=>⟨s4,p4,rfl,SqT.of ?_⟩⟩;rw[kap i e he];exact f4
      . obtain⟨e,he,b,rfl,q⟩:=hl.at hx;have hm:=(memL e).mp (Aj he);refine k b e H3 (s2.trans s3) (s3 _ _ q) ⟨hm.1,hm.2,λf h1 h2=>?_⟩;obtain⟨j,hj,ej⟩:=AD ((memL f).mpr ⟨h1,h2⟩);have hj':L[j]?=some f:=by rw[Ab hj,ej]
        have:=(hle j (by rw[hl.1];exact hj)).1;rw[kap j f hj',kap i e he]at this;exact this
theorem sIx_nat(n d j:Nat):HT.sIx n d (some (j:Int))=min j n:=by show (if (j:Int)<0 then ((j:Int)+(n:Int)).toNat else min (j:Int).toNat n)=min j n;rw[if_neg (by lia),CG]
theorem zmb(xs:List V){j:Nat}(h:j<=xs.length):cutV xs (some (j:Int)) none=xs.drop j:=by unfold cutV;rw[sIx_nat,Nat.min_eq_left h];exact B5 (by rw[List.length_drop];exact Ai _)
theorem zoo(xs:List V){j:Nat}(h:j<=xs.length):cutV xs none (some (j:Int))=xs.take j:=by unfold cutV;rw[sIx_nat,Nat.min_eq_left h];rfl
theorem VR.rot{α:Type}{vs:List V}{l:List α}{R:α->V->Hp->Prop}{H:Hp}(h:VR vs l R H)(j:Nat):VR (vs.drop j++vs.take j) (l.drop j++l.take j) R H:=by
 refine⟨by simp[h.1],λi x v h1 h2=>?_⟩;have hd:(vs.drop j).length=(l.drop j).length:=by simp[h.1]
 rcases A6 i (l.drop j).length with hi |hi
 .rw[AH hi,ER]at h1;rw[AH (by lia),ER]at h2;exact h.2 _ x v h1 h2
 .rw[AW hi]at h1;rw[AW (by lia),hd]at h2;rw[List.getElem?_take]at h1 h2;split at h1
  .rw[if_pos (by assumption)]at h2;exact h.2 _ x v h1 h2
  .cases h1
theorem ziv{α:Type} [DecidableEq α]{x:α}:∀{l:List α},x∈l->∃j:Nat,l[j]?=some x/\∀(m:Nat) y,m<j->l[m]?=some y->y≠x
 |[],h=>by cases h
 |a::l,h=>by
  by_cases e:a=x
  .exact⟨0,by rw[e];rfl,λm y hm=>absurd hm (Nat.not_lt_zero _)⟩
  .obtain⟨j,h1,h2⟩:=ziv ((Ax.mp h).resolve_left (Cj e));refine⟨j+1,by simpa using h1,λm y hm hy=>?_⟩
   match m,hm,hy with
   | 0,_,hy=>cases hy;exact e
   |m+1,hm,hy=>exact h2 m y (by lia) (by simpa using hy)
theorem zgz{K:W.Frag}{H:Hp}:∀{vs:List V}{l:List Edge},VR vs l eR H->RDs K H vs (l.map λe=>tI (eI e))
 |[],[],_=>.nil
 |[],_::_,h=>by have:=h.1;cases this
 |_::_,[],h=>by have:=h.1;cases this
 |v::vs,e::l,h=>by
  obtain⟨b,rfl,q⟩:=h.2 0 e v rfl rfl;exact .cons (zcx q) (zgz ⟨by simpa using h.1,λi x u h1 h2=>h.2 (i+1) x u (by simpa using h1) (by simpa using h2)⟩)
structure Rnd where
 so:Str
 x:Int
 y:Int
 row:List Nat
 deriving DecidableEq
noncomputable def rowV(row:List Nat):List V:=row.map λn:Nat=>V.int (n:Int)
noncomputable def rR(r:Rnd)(v:V)(H:Hp):Prop:=∃a b,v=.ref a/\H a=some (.tup [.str r.so,.int r.x,.int r.y,.ref b])/\H b=some (.tup (rowV r.row))
theorem rR.kt{r:Rnd}{v:V}{H H':Hp}(h:rR r v H)(s:KT H H'):rR r v H':=let ⟨a,b,e,q1,q2⟩:=h;⟨a,b,e,s _ _ q1,s _ _ q2⟩
noncomputable def IsRnd(W:Wk)(r:Rnd):Prop:=r.so=sortS W/\∃(j:Nat) (e:Edge),(W.map (·.1))[j]?=some e/\zcg W (sortS W) e/\r.x=e.c.1/\r.y=e.c.2/\r.row=(W.drop j++W.take j).filterMap (·.2)
theorem zdd (W:Wk):sortS W = "rim" ∨ sortS W = "hole":=by unfold sortS;split <;> simp
noncomputable def zgq(K:W.Frag):Sp:=λvs H Q _=>∃(a:Addr) (W:Wk),vs=[.ref a]/\LR K H a W wR/\W.length<=500/\(∃e∈W.map (·.1),e.w=0)/\(∃e∈W.map (·.1),e.w=2) /\
 ∀v H' r,Same H H'->rR r v H'->IsRnd W r->Q v H'
theorem zhB (T:Txt P w K mg) (g_sort_of:Fn P w K mg base 4 "sort_of" ["walk"] (zmn K)) (g_begin_of:Fn P w K mg base 3 "begin_of" ["walk", "sort"] (zhq K))
  (d:Df K mg "round_of" zbA ["walk"]):FnOk P w K mg base CX0 5 d.f d.fd ["walk"] (zgq K):=by
 refine d.F.ok zbD (λvs H Q E h=>?_) (λcdv A outer s H vs Q E hr h=>?_)
 .obtain⟨a,W,rfl,_⟩:=h;rfl
 .obtain⟨a,W,rfl,hLR,hlen,h0,h2,k⟩:=h;obtain⟨ws,hq,hv⟩:=hLR.vr;have hun:=hr.un;have hu65:(A.deeper (PyProof.Rows.envOfC (Bx "round_of") (zad zbA) s.heap.objs.size d.f cdv)).units+65<cLine:=by lia
  have nb0:(["edge","step"]:List Str).Nodup:=by decide +kernel
  have nb1:(["edge","step"]:List Str).Nodup:=by decide +kernel
  refine⟨_,(zac (sE 1 zbD.nd (pC g_sort_of hr (pa_N (pv 0) zab)))
   (zac (sE 2 zbD.nd (pC g_begin_of hr (pa_N (pv 0) (pa_N (pv 1) zab))))
   (zac (sE 3 zbD.nd (pe_bm A5 PySem.F.slot_list_index PySem.F.type_list_index (zkp hu65) (zaI (osc:=zad zbA) (N:=zdF) (N':=["edge","step"]) (sel:=[none,none]) bO (zaz (pv 0)) (λ_ _ _ _ _=>(zbV (K:=K) (n:=2) (by rfl) (zae (nG 0 nb0) (zae (nG 1 nb0) zat)))) (λ_ _ _ _ _=>zbl) (λ_ _ _ _ _=>(pv 0))) (pa_N (pv 2) zab)))
   (zac (sE 4 zbD.nd (zgE zf7 (by rfl) T.ntuple (by rfl) (zai (zaI (osc:=zad zbA) (N:=zdF) (N':=["edge","step"]) (sel:=[none,none]) bO (zaz (pe_op zmx (zcH zfw (pv 0) (zdv (pv 3)) zdw) (zcH zfw (pv 0) zdw (zdv (pv 3))))) (λ_ _ _ _ _=>(zbV (K:=K) (n:=2) (by rfl) (zae (nG 0 nb1) (zae (nG 1 nb1) zat)))) (λ_ _ _ _ _=>zcX (zax zep (pv 1) zb0 (zau _))) (λ_ _ _ _ _=>(pv 1))) zab)))
   (zaf (zak (zaO (pa_N (pv 1) (zai (pe_ix zcO (pv 2) zah (λ_ _=>rfl)) (zai (pe_ix zcO (pv 2) zah (λ_ _=>rfl)) (pa_N (pv 4) zab))))))))))),?_⟩
  refine⟨_,rfl,a,W,rfl,hLR,hlen,λH1 s1=>?_⟩
  have hex:∃e∈W.map (·.1),e.w=kOf (sortS W):=by
   rcases zdd W with z |z <;> rw[z]
   .exact h0
   .exact h2
  refine⟨_,rfl,_,rfl,a,W,sortS W,rfl,zdd W,hLR.same s1 (λx v hx=>hx.same s1),hlen,hex,λb e H2 s2 hb hbg=>?_⟩;have s12:=s1.trans s2;refine⟨_,rfl,a,rfl,⟨_,s12.seq hq⟩,λp hp=>?_⟩
  refine zao (K:=K) (a:=a) (xs:=ws) (λi σ H3=>∃o1 o2,σ=[o1,o2]/\Same H2 H3/\∃es:List V,H3 p=some (.lst es)/\VR es ((W.take i).map (·.1)) eR H3)
   ⟨_,_,rfl,Same.up hp,[],zaa,VR.nil⟩ (λi σ H3 _ ⟨_,_,_,s3,_⟩=>(s12.trans s3).seq hq) ?_ ?_
  .rintro i v σ H3 hi ⟨o1,o2,rfl,s3,es,e3,hl⟩;obtain⟨⟨f,st⟩,he,B,bb,rfl,q1,q2⟩:=hv.at hi;have hl2:es.length<=1000:=by rw[hl.1,Ah,AS];lia
   refine⟨B,_,rfl,SqT.of ((s12.trans s3) _ _ q1),rfl,_,_,rfl,_,_,rfl,rfl,?_⟩;refine zb2 ?_
   refine⟨_,rfl,es,e3,zaj hl2,_,_,rfl,zal hp s3,_,zaa,?_⟩;rw[zar he,Ay];have k2:KT H3 (upd H3 p (.lst (es++[.ref bb]))):=KT.lst e3;exact hl.snoc (λx v hx=>hx.kt k2) ⟨bb,rfl,k2 _ _ ((s12.trans s3) _ _ q2)⟩
  .rintro σ H3 ⟨o1,o2,rfl,s3,es,e3,hl⟩;rw[hv.1,AI]at hl;obtain⟨j,hj,hjm⟩:=ziv hbg.1;have hjl:j<W.length:=by have:=(Ad.mp hj).1;simpa using this
   have s13:=s12.trans s3;refine⟨.inl ⟨rfl,_,SqL.of e3⟩,_,rfl,p,es,_,_,_,j,_,rfl,rfl,SqL.of e3,zcx (s3 _ _ hb),zgz hl,zaZ _,(λz hz=>by obtain⟨f,_,rfl⟩:=AE.mp hz;exact zaZ _),(by rw[AA,hj];rfl),(by rw[zeA];exact decide_eq_true rfl),(λm z hm hz=>?_),?_⟩
   .rw[AA]at hz;obtain⟨f,hf,rfl⟩:=A4.mp hz;rw[zeA];exact decide_eq_false (λq=>hjm m f hm hf (zix.mp q))
   have hwl:j<=ws.length:=by rw[hv.1];lia
   refine⟨_,rfl,_,rfl,_,rfl,a,ws,rfl,s13.seq hq,λp4 hp4=>?_⟩;rw[zmb ws hwl];have s4:=Same.up (o:=.lst (ws.drop j)) hp4;refine⟨_,rfl,_,rfl,_,rfl,a,ws,rfl,(s13.trans s4).seq hq,λp5 hp5=>?_⟩;rw[zoo ws hwl];have s5:=Same.up (o:=.lst (ws.take j)) hp5;refine⟨p4,p5,_,_,rfl,rfl,s5 _ _ zaa,zaa,BZ (zaj (by simp[hv.1];lia)),λp6 hp6=>?_⟩;have s6:=Same.up (o:=.lst (ws.drop j++ws.take j)) hp6;have s16:=s13.trans (s4.trans (s5.trans s6));have e6:upd (upd (upd H3 p4 (.lst (ws.drop j))) p5 (.lst (ws.take j))) p6 (.lst (ws.drop j++ws.take j)) p6=some (.lst (ws.drop j++ws.take j)):=zaa;have b6:=(s4.trans (s5.trans s6)) _ _ (s3 _ _ hb);generalize upd (upd (upd H3 p4 (.lst (ws.drop j))) p5 (.lst (ws.take j))) p6 (.lst (ws.drop j++ws.take j))=H6 at s16 e6 b6 ⊢;have hv6:=hv.rot j;have hWl:(W.drop j++W.take j).length<=500:=by simp;lia
   generalize hW6:W.drop j++W.take j=W6 at hv6 hWl;generalize ws.drop j++ws.take j=ws6 at hv6 e6;refine⟨p6,rfl,⟨_,SqL.of e6⟩,λp7 hp7=>?_⟩
   refine zao (K:=K) (a:=p6) (xs:=ws6) (λi σ H7=>∃o1 o2,σ=[o1,o2]/\Same H6 H7/\H7 p7=some (.lst (rowV ((W6.take i).filterMap (·.2)))))
    ⟨_,_,rfl,Same.up hp7,zaa⟩ (λi σ H7 _ ⟨_,_,_,s7,_⟩=>s7.seq (SqL.of e6)) ?_ ?_
   .rintro i v σ H7 hi ⟨o1,o2,rfl,s7,e7⟩;obtain⟨⟨f,st⟩,he,B,bb,rfl,q1,q2⟩:=hv6.at hi
    have hl2:(rowV ((W6.take i).filterMap (·.2))).length<=1000:=by unfold rowV;rw[Ah];have:=EE (λq:Edge×Option Nat=>q.2) (W6.take i);rw[AS]at this;lia
    refine⟨B,_,rfl,SqT.of ((s16.trans s7) _ _ q1),rfl,_,_,rfl,_,_,rfl,rfl,?_⟩;refine⟨_,rfl,rfl,_,rfl,?_⟩;rw[zmj,zar he,List.filterMap_append]
    cases st with
    |none=>exact iteF ⟨_,_,rfl,s7,by simpa using e7⟩
    |some n =>
     refine iteT ⟨_,rfl,_,e7,zaj hl2,_,_,rfl,zal hp7 s7,?_⟩;rw[zaa];simp[rowV,sv]
   .rintro σ H7 ⟨o1,o2,rfl,s7,e7⟩;rw[hv6.1,AI]at e7;refine⟨p7,_,rfl,.inl ⟨SqL.of e7,λp8 hp8=>?_⟩⟩;have s8:=Same.up (o:=.tup (rowV (W6.filterMap (·.2)))) hp8;have b8:=s8 _ _ (s7 _ _ b6);refine⟨_,rfl,_,rfl,b,_,_,_,rfl,rfl,SqT.of b8,zaG (j:=0) rfl,_,rfl,b,_,_,_,rfl,rfl,SqT.of b8,zaG (j:=1) rfl,_,rfl,(by show 4<=sizeLine;decide),λp9 hp9=>?_⟩;refine k _ _ ⟨sortS W,e.c.1,e.c.2,W6.filterMap (·.2)⟩ ((s16.trans (s7.trans s8)).trans (Same.up hp9)) ⟨p9,p8,rfl,zaa,Same.up hp9 _ _ zaa⟩ ⟨rfl,j,e,hj,hbg,rfl,rfl,?_⟩;rw[<- hW6]
noncomputable def keyV (r:Rnd):List V:=[.int r.y,.int r.x,.bl (decide (V.str r.so=V.str "hole"))]
noncomputable def zco(K:W.Frag):Sp:=λvs H Q _=>∃(v:V) (r:Rnd),vs=[v]/\rR r v H/\∀p H',H p=none->Same H H'->H' p=some (.tup (keyV r))->Q (.ref p) H'
theorem zeL (d:Df K mg "round_order" zb6 ["one"]):FnOk P w K mg base CX0 1 d.f d.fd ["one"] (zco K):=by
 refine d.F.ok za2 (λvs H Q E h=>?_) (λcdv A outer s H vs Q E hr h=>?_)
 .obtain⟨v,r,rfl,_⟩:=h;rfl
 .obtain⟨v,r,rfl,⟨a,b,rfl,q1,q2⟩,k⟩:=h
  refine⟨_,(zac (zbP (pv 0) (zbh (by rfl) (zae (nG 1 za2.nd) (zae (nG 2 za2.nd) (zae (nG 3 za2.nd) (zae (nG 4 za2.nd) zat))))))
   (zaf (zak (zaO (pa_N (pv 3) (pa_N (pv 2) (zai (zbH op_eq (pv 1) zie (zau _)) zab))))))),?_⟩
  refine⟨_,rfl,a,_,rfl,SqT.of q1,rfl,_,_,rfl,_,_,rfl,_,_,rfl,_,_,rfl,rfl,?_⟩;refine⟨_,rfl,_,rfl,_,rfl,rfl,three,λp hp=>k p _ hp (Same.up hp) zaa⟩
theorem VR.cons{α:Type}{v:V}{vs:List V}{x:α}{l:List α}{R:α->V->Hp->Prop}{H:Hp}:VR (v::vs) (x::l) R H ↔ R x v H/\VR vs l R H:=by
 constructor
 .intro h;exact⟨h.2 0 x v rfl rfl,by simpa using h.1,λi y u h1 h2=>h.2 (i+1) y u (by simpa using h1) (by simpa using h2)⟩
 .rintro⟨h1,h2⟩;refine⟨by simp[h2.1],λi y u e1 e2=>?_⟩
  match i,e1,e2 with
  | 0,e1,e2=>cases e1;cases e2;exact h1
  |i+1,e1,e2=>exact h2.2 i y u (by simpa using e1) (by simpa using e2)
noncomputable def kE(e:Edge):List Key:=[Ct e.c.1,Ct e.c.2,Ct (e.w:Int)]
theorem zmA{e f:Edge}:kE e=kE f ↔ e=f:=by
 constructor
 .intro h;refine zix.mp ?_
  unfold kE at h;injection h with h1 h2;injection h2 with h2 h3;injection h3 with h3 _;unfold eI;rw[Ee h1,Ee h2,Ee h3]
 .rintro rfl;rfl
theorem _root_.RP.Closed.back{C:Cell->Bool}{b x:Edge}{es:List Edge}(h:Closed C b es)(hx:IsE C x)(hm:nxt C x∈es):x∈es:=by
 obtain⟨⟨h0,hs,hE,hnd⟩,l,hl,hb⟩:=h;obtain⟨i,hi,ei⟩:=AD hm;have hlm:l∈es:=Aj hl;rcases Nat.eq_zero_or_pos i with rfl |hp
 .rw[Ab hi,ei]at h0;have e:=A9 h0;rw[<- hb]at e;rw[zev hx (hE l hlm) e];exact hlm
 .have hi':i-1<es.length:=by lia
  have e1:=hs (i-1) es[i-1] (nxt C x) (Ab hi') (by rw[show i-1+1=i by lia,Ab hi,ei]);rw[zev hx (hE _ (Bj hi')) e1];exact Bj hi'
theorem _root_.RP.Closed.apart{C:Cell->Bool}{b:Edge}{es done:List Edge}(h:Closed C b es)(hd:∀x,IsE C x->nxt C x∈done->x∈done)(hb:b ∉ done):∀e∈es,e ∉ done:=by
 obtain⟨⟨h0,hs,hE,hnd⟩,_⟩:=h
 have key:∀(i:Nat) e,es[i]?=some e->e ∉ done:=by
  intro i
  induction i with
  |zero=>intro e he;rw[he]at h0;cases h0;exact hb
  |succ i ih =>
   intro e he hm;have hi:i+1<es.length:=(Ad.mp he).1;have h1:es[i]?=some es[i]:=Ab (by lia)
   have hn:=hs i _ e h1 he;rw[hn]at hm;exact ih _ h1 (hd _ (hE _ (Bj _)) hm)
 intro e he;obtain⟨i,hi,ei⟩:=AD he;exact key i e (by rw[Ab hi,ei])
structure Part (C:Cell->Bool) (ESS:List (List Edge)) (R:List Rnd):Prop where
 len:R.length=ESS.length
 each:∀(i:Nat) es r,ESS[i]?=some es->R[i]?=some r->(∃b,Closed C b es)/\IsRnd (wk C es) r
 nd:ESS.flatten.Nodup
theorem Part.closed{C:Cell->Bool}{ESS:List (List Edge)}{R:List Rnd}(h:Part C ESS R):∀es∈ESS,∃b,Closed C b es:=λes he=>by
 obtain⟨i,hi,ei⟩:=AD he;have hr:i<R.length:=by rw[h.len];exact hi
 exact (h.each i es R[i] (by rw[Ab hi,ei]) (Ab hr)).1
theorem Part.isE{C:Cell->Bool}{ESS:List (List Edge)}{R:List Rnd}(h:Part C ESS R):∀e∈ESS.flatten,IsE C e:=λe he=>by obtain⟨es,h1,h2⟩:=CA.mp he;obtain⟨b,hc⟩:=h.closed es h1;exact hc.1.2.2.1 e h2
theorem Part.back{C:Cell->Bool}{ESS:List (List Edge)}{R:List Rnd}(h:Part C ESS R):∀x,IsE C x->nxt C x∈ESS.flatten->x∈ESS.flatten:=λx hx hm=>by obtain⟨es,h1,h2⟩:=CA.mp hm;obtain⟨b,hc⟩:=h.closed es h1;exact CA.mpr ⟨es,h1,hc.back hx h2⟩
theorem Part.nil{C:Cell->Bool}:Part C [] []:=⟨rfl,λi es r h=>by simp at h,by simp⟩
theorem Part.snoc{C:Cell->Bool}{ESS:List (List Edge)}{R:List Rnd}{b:Edge}{es:List Edge}{r:Rnd}(h:Part C ESS R)(hc:Closed C b es)(hr:IsRnd (wk C es) r)(hb:b ∉ ESS.flatten):Part C (ESS++[es]) (R++[r]):=by
 refine⟨by simp[h.len],λi fs q h1 h2=>?_,?_⟩
 .rcases A6 i ESS.length with hi |hi
  .rw[AH hi]at h1;rw[AH (by rw[h.len];exact hi)]at h2;exact h.each i fs q h1 h2
  .rw[AW hi]at h1;rw[AW (by rw[h.len];exact hi)]at h2
   have hz:i-ESS.length=0:=by have:=(Ad.mp h1).1;simp at this;lia
   rw[hz]at h1;rw[h.len,hz]at h2
   cases h1;cases h2
   exact⟨⟨b,hc⟩,hr⟩
 .have ap:=hc.apart h.back hb;rw[Ev,DD];refine⟨h.nd,by simpa using hc.1.2.2.2,λx hx y hy e=>?_⟩;subst e;exact ap x (by simpa using hy) hx
theorem zin{p:Edge->Bool}:∀(ESS:List (List Edge)),(∀es∈ESS,∃e∈es,p e=true)->ESS.length<=(ESS.flatten.filter p).length
 |[],_=>Bd _
 |es::r,h=>by
  have ih:=zin r λes he=>h es (As _ he)
  obtain⟨e,he,hp⟩:=h es Ap;rw[Br,DZ,Av,AZ];have:0<(es.filter p).length:=List.length_pos_of_mem (Bz.mpr ⟨he,hp⟩);lia
theorem Part.few{cs:List Cell}{ESS:List (List Edge)}{R:List Rnd}(h:Part (isIn cs) ESS R):R.length<=cs.length:=by
 rw[h.len];refine A3 (zin (p:=λe=>e.w == 0) ESS λes he=>?_) ?_
 .obtain⟨b,hc⟩:=h.closed es he;obtain⟨e,h1,h2⟩:=hc.has (k:=0) (.inl rfl);exact⟨e,h1,by simpa using h2⟩
 .rw[<- Ah (f:=λc:Cell=>(⟨c,0⟩:Edge)) (as:=cs)];refine zaA (List.Pairwise.filter _ h.nd) λe he=>?_
  obtain⟨h1,h2⟩:=Bz.mp he;have hE:=h.isE e h1;refine AE.mpr ⟨e.c,of_decide_eq_true hE.2.1,?_⟩;obtain⟨c,w⟩:=e;simp only at h2 ⊢;have:w=0:=by simpa using h2
  rw[this]
theorem Part.small{cs:List Cell}{ESS:List (List Edge)}{R:List Rnd}(h:Part (isIn cs) ESS R):ESS.flatten.length<=4*cs.length:=by rw[<- zbe];exact zaA h.nd λe he=>zb1.mpr ⟨of_decide_eq_true (h.isE e he).2.1,(h.isE e he).1⟩
noncomputable def keyI (r:Rnd):List Int:=[r.y,r.x,PyProof.Rows.b2i (decide (V.str r.so=V.str "hole"))]
noncomputable def Whole(cs:List Cell)(R:List Rnd):Prop:=∃ESS,Part (isIn cs) ESS R/\∀e,e∈ESS.flatten ↔ IsE (isIn cs) e
noncomputable def zfs(K:W.Frag):Sp:=λvs H Q _=>∃(a:Addr) (cs:List Cell),vs=[.ref a]/\LR K H a cs cR/\InOrd cs/\cs.length<=120 /\
 ∀p H' rs R R0,H p=none->Same H H'->H' p=some (.lst rs)->VR rs R rR H'->R.Perm R0->R.Pairwise (λr q=>HT.lexLt (keyI q) (keyI r)=false)->Whole cs R0->Q (.ref p) H'
noncomputable def zdb(K:W.Frag):Sp:=λvs H Q _=>∃(t pe:Addr) (cs:List Cell) (es:List V),vs=[.ref t,.ref pe]/\Tab H t (isIn cs)/\H pe=some (.lst es)/\VR es (allE cs) eR H/\cs.length<=120 /\
 ∀p H' rs R R0,H p=none->Same H H'->H' p=some (.lst rs)->VR rs R rR H'->R.Perm R0->R.Pairwise (λr q=>HT.lexLt (keyI q) (keyI r)=false)->Whole cs R0->Q (.ref p) H'
theorem zer(T:Txt P w K mg)
    (g_walk_from:Fn P w K mg base 3 "walk_from" ["table","begin"] (zml K)) (g_round_of:Fn P w K mg base 5 "round_of" ["walk"] (zgq K)) (g_round_order:Fn P w K mg base 1 "round_order" ["one"] (zco K))
    (d:Df K mg "rounds_along" zbS ["table","edges"]):FnOk P w K mg base CX0 6 d.f d.fd ["table","edges"] (zdb K):=by
  refine d.F.ok zaE (λvs H Q E h=>?_) (λcdv A outer s H2 vs Q E hr h=>?_)
  . obtain⟨t,pe,cs,es,rfl,_⟩:=h;rfl
  . obtain⟨t,pe,cs,es,rfl,tab,epe,hvpe,hlen,k⟩:=h;have hu1:=hu_of hr
    refine⟨_,(zac (sE 2 zaE.nd zd3)
      (zac (sE 3 zaE.nd (zbw zab))
      (zac (zbm Bf rfl (zaz (pv 1)) (nG 4 zaE.nd)
      (zaf (ps_if (zj5 (zen hu1 (pv 4) (pv 2)))
      (zac (sE 5 zaE.nd (pC g_walk_from hr (pa_N (pv 0) (pa_N (pv 4) zab))))
      (zac (zbm Bf rfl (zaz (pv 5)) (zbh (by rfl) (zae (nG 6 zaE.nd) (zae (nG 7 zaE.nd) zat)))
      (zaf (zfG hu1 (pv 2) (pv 6) pe_bl rfl)))
      (zaf (zaY (pe_bm A5 Bt Bu zaT (pv 3) (zai (pC g_round_of hr (pa_N (pv 5) zab)) zab))))))
      zaB)))
      (zaf (zak (zif g_round_order.ok (hr.mono (by decide)) g_round_order.b (by rfl) T.nsorted (by rfl) g_round_order.m (pv 3))))))),?_⟩
    refine λdd hdd=>⟨(by show 0<=sizeLine;decide),λp hp=>?_⟩
    have hpd:p≠dd:=λz=>by subst z;rw[zaa]at hp;cases hp
    have s4:Same H2 (upd (upd H2 dd (.dT [])) p (.lst [])):=(Same.up hdd).trans (Same.up hp);have d4:upd (upd H2 dd (.dT [])) p (.lst []) dd=some (.dT []):=by rw[zag (Cj hpd),zaa]
    have p4:upd (upd H2 dd (.dT [])) p (.lst []) p=some (.lst []):=zaa;have n2:H2 dd=none:=hdd;have n2p:H2 p=none:=by rw[zag hpd]at hp;exact hp
    generalize upd (upd H2 dd (.dT [])) p (.lst [])=H5 at s4 d4 p4;have s15:Same H2 H5:=s4;have e5:=s4 _ _ epe;have hv5:=hvpe.mono λx v hx=>hx.same s4
    refine⟨_,rfl,pe,rfl,⟨_,SqL.of e5⟩,?_⟩;have hped:pe≠dd:=zam epe n2;have hpep:pe≠p:=zam epe n2p
    refine zao (K := K) (a := pe) (xs := es) (λi σ H6 => ∃o4 o5 o6 o7, σ = [some (.ref t), some (.ref pe), some (.ref dd), some (.ref p), o4, o5, o6, o7] /\ Same H2 H6 /\ H6 pe=some (.lst es) /\ KT H5 H6 /\
        ∃kvs rs ESS R,H6 dd=some (.dT kvs)/\H6 p=some (.lst rs)/\VR rs R rR H6/\Part (isIn cs) ESS R/\(∀e,(valV kvs (kE e)).isSome=decide (e∈ESS.flatten))/\kvs.length<=ESS.flatten.length/\∀e∈(allE cs).take i,e∈ESS.flatten)
      ⟨_,_,_,_,rfl,s15,e5,KT.refl _,[],[],[],[],d4,p4,VR.nil,Part.nil,(λe=>by simp[valV]),Ai _,(λe he=>by simp at he)⟩ (λi σ H6 _ ⟨_,_,_,_,_,_,e6,_⟩=>SqL.of e6) ?_ ?_
    . rintro i v σ H6 hi ⟨o4,o5,o6,o7,rfl,s6,e6,kt6,kvs,rs,ESS,R,d6,p6,hR,hP,hkv,hkl,hall⟩;obtain⟨e,he,b,rfl,qb⟩:=hv5.at hi;have hE:IsE (isIn cs) e:=zcJ.mp (Aj he);have qb6:=kt6 _ _ qb;refine⟨_,rfl,_,rfl,dd,_,rfl,.inr ⟨kvs,kE e,b,Rd.of d6,rfl,qb6,rfl⟩,_,rfl,?_⟩;rw[hkv]
      by_cases hin:e∈ESS.flatten
      . rw[decide_eq_true hin];refine iteF ⟨_,_,_,_,rfl,s6,e6,kt6,kvs,rs,ESS,R,d6,p6,hR,hP,hkv,hkl,λf hf=>?_⟩;rcases (zbv he).mp hf with z |z
        . exact hall f z
        . rw[z];exact hin
      . rw[decide_eq_false hin];refine iteT ?_
        have tab6:=tab.same s6;refine⟨_,rfl,_,rfl,t,b,cs,e,rfl,tab6,qb6,hE,by lia,λpw H7 ws fs hpw s7 e7 hv7 hcl=>?_⟩;have hfs:fs.length<=4*cs.length:=hcl.1.short;have hap:=hcl.apart hP.back hin;have d7:=s7 _ _ d6;have hdw:dd≠pw:=λz=>by subst z;rw[d6]at hpw;cases hpw
        have hws:ws.length=fs.length:=by rw[hv7.1,zbu]
        refine⟨_,rfl,pw,rfl,⟨_,SqL.of e7⟩,?_⟩
        refine zao (K := K) (a := pw) (xs := ws) (λj σ H8 => ∃o6 o7, σ = [some (.ref t), some (.ref pe), some (.ref dd), some (.ref p), some (.ref b), some (.ref pw), o6, o7] /\ (∀z o, z ≠ dd -> H7 z=some o -> H8 z=some o) /\
            ∃kv8,H8 dd=some (.dT kv8)/\(∀f,(valV kv8 (kE f)).isSome=decide (f∈ESS.flatten∨f∈fs.take j))/\kv8.length<=ESS.flatten.length+j)
          ⟨_,_,rfl,(λz o _ h=>h),kvs,d7,(λf=>by rw[hkv];simp),by lia⟩ (λj σ H8 _ ⟨_,_,_,k8,_⟩=>SqL.of (k8 _ _ (Cj hdw) e7)) ?_ ?_
        . rintro j u σ H8 hj ⟨o6,o7,rfl,k8,kv8,d8,hk8,hl8⟩;obtain⟨⟨f,st⟩,hf,B,bb,rfl,q1,q2⟩:=hv7.at hj
          have hf':fs[j]?=some f:=by
            unfold wk at hf;rw[AA]at hf;obtain⟨g,hg,eg⟩:=A4.mp hf
            cases eg
            exact hg
          have nB:B≠dd:=ne_of q1 d7 (λz=>nomatch z);have nb:bb≠dd:=ne_of q2 d7 (λz=>nomatch z);refine⟨B,_,rfl,SqT.of (k8 _ _ nB q1),rfl,_,_,rfl,_,_,rfl,rfl,?_⟩;have hjl:j<fs.length:=by rw[<- hws];exact (Ad.mp hj).1
          have hsm:=hP.small;refine⟨_,rfl,_,rfl,dd,_,rfl,.inr ⟨kv8,kE f,bb,d8,rfl,k8 _ _ nb q2,zaj (by lia),rfl⟩,?_⟩;refine⟨_,_,rfl,(λz o hz h=>by rw[zag hz];exact k8 z o hz h),_,zaa,(λg=>?_),A3 (zaK _ _ _) (by lia)⟩;rw[zcC]
          by_cases eg:g=f
          . rw[if_pos (zmA.mpr eg),decide_eq_true (.inr ((zbv hf').mpr (.inr eg)))];rfl
          . rw[if_neg (λz=>eg (zmA.mp z)),hk8];refine decide_eq_decide.mpr ⟨λz=>z.imp id λq=>(zbv hf').mpr (.inl q),λz=>z.imp id λq=>((zbv hf').mp q).resolve_right eg⟩
        . rintro σ H8 ⟨o6,o7,rfl,k8,kv8,d8,hk8,hl8⟩;rw[hws,AI]at hk8;have hdp:p≠dd:=hpd;have p8:=k8 _ _ hdp (s7 _ _ p6);have kt8:KT H7 H8:=λz xs h=>k8 z _ (ne_of h d7 (λq=>nomatch q)) h
          have w8:H8 pw=some (.lst ws):=k8 _ _ (Cj hdw) e7;have hrl:rs.length<=120:=by rw[hR.1];exact A3 hP.few hlen
          have hh:∀kk,kk=0∨kk=2->∃x∈(wk (isIn cs) fs).map (·.1),x.w=kk:=λkk hkk=>by obtain⟨x,h1,h2⟩:=hcl.has hkk;exact⟨x,by unfold wk;rw[List.map_map];simpa using h1,h2⟩
          refine⟨_,rfl,.inl ⟨rfl,_,SqL.of p8⟩,_,rfl,pw,wk (isIn cs) fs,rfl,LR.of w8 (hv7.mono λx v hx=>hx.kt kt8),(by rw[zbu];lia),hh 0 (.inl rfl),hh 2 (.inr rfl),λvr H9 r s9 hr9 hrn=>?_⟩;have p9:=s9 _ _ p8;refine⟨p,rs,_,rfl,rfl,p9,zaj (by lia),?_⟩;have kt9:KT H9 (upd H9 p (.lst (rs++[vr]))):=KT.lst p9;have ktA:KT H6 (upd H9 p (.lst (rs++[vr]))):=(KT.of s7).trans (kt8.trans ((KT.of s9).trans kt9));refine⟨_,_,_,_,rfl,(λz o h=>?_),?_,kt6.trans ktA,kv8,rs++[vr],ESS++[fs],R++[r],?_,zaa,hR.snoc (λx v hx=>hx.kt ktA) (hr9.kt kt9),hP.snoc hcl hrn hin,(λf=>?_),?_,(λf hf=>?_)⟩
          . rw[zag (zam h n2p)];exact s9 _ _ (k8 _ _ (zam h n2) (s7 _ _ (s6 _ _ h)))
          . rw[zag hpep];exact s9 _ _ (k8 _ _ hped (s7 _ _ e6))
          . rw[zag (Cj hpd)];exact s9 _ _ d8
          . rw[hk8];refine decide_eq_decide.mpr ?_
            rw[Ev,AC];simp
          . rw[Ev,Av,show [fs].flatten=fs by simp];lia
          . rw[Ev,AC];rcases (zbv he).mp hf with z |z
            . exact .inl (hall f z)
            . rw[z];refine .inr ?_
              have:=hcl.1.1;simpa using Aj this
    . rintro σ H6 ⟨o4,o5,o6,o7,rfl,s6,e6,kt6,kvs,rs,ESS,R,d6,p6,hR,hP,hkv,hkl,hall⟩;rw[hv5.1,AI]at hall;have hrl:rs.length<=120:=by rw[hR.1];exact A3 hP.few hlen
      have ge:∀(i:Nat) r,R[i]?=some r->R.getD i ⟨"",0,0,[]⟩=r:=λi r h=>by simp only[A8,h,Option.getD_some]
      refine⟨_,rfl,p,rs,λi=>keyV (R.getD i ⟨"",0,0,[]⟩),λi=>keyI (R.getD i ⟨"",0,0,[]⟩),rfl,SqL.of p6,by lia,λi x H7 hx s7=>?_,
        λi j hi hj=>⟨_,_,_,_,_,_,rfl,rfl,.cons (.int _ _) (.cons (.bl _ _) .nil),rfl,rfl⟩,λpp D H7 hpm hpo hD s7 f7=>?_⟩
      . obtain⟨r,hr',hx'⟩:=hR.at hx;refine⟨x,r,rfl,hx'.kt (KT.of s7),λq H8 hq s8 f8=>⟨s8,q,rfl,SqT.of ?_⟩⟩;show H8 q=some (HO.tup (keyV (R.getD i ⟨"",0,0,[]⟩)));rw[ge i r hr'];exact f8
      . have hpl:pp.length=R.length:=by rw[hpm.length_eq,CH,hR.1]
        have hlt:∀i∈pp,i<R.length:=λi hi=>by have:=DQ.mp (hpm.mem_iff.mp hi);rw[hR.1]at this;exact this
        have hRR:(pp.map λi=>R.getD i ⟨"",0,0,[]⟩).Perm R:=by
          have h1:=hpm.map λi=>R.getD i (⟨"",0,0,[]⟩:Rnd)
          rw[hR.1]at h1
          have h2:((Bk R.length).map λi=>R.getD i (⟨"",0,0,[]⟩:Rnd))=R:=by
            apply List.ext_getElem
            . simp
            . intro i a b;simp[show i<R.length by simpa using a]
          rw[h2]at h1;exact h1
        have vR:VR (pp.map λi=>rs.getD i V.non) (pp.map λi=>R.getD i ⟨"",0,0,[]⟩) rR H7:=by
          refine⟨by simp,λi r v h1 h2=>?_⟩;rw[AA]at h1 h2;obtain⟨a,ha,rfl⟩:=A4.mp h1;rw[ha]at h2
          cases h2
          have hal:=hlt a (Aj ha);have hal2:a<rs.length:=by rw[hR.1];exact hal
          have e1:R.getD a ⟨"",0,0,[]⟩=R[a]:=by simp[hal]
          have e2:rs.getD a V.non=rs[a]:=by simp[hal2]
          rw[e1];show rR R[a] (rs.getD a V.non) H7;rw[e2];exact (hR.2 a _ _ (Ab hal) (Ab hal2)).kt (KT.of s7)
        refine k D H7 _ _ R (s6.free hD) (s6.trans s7) f7 vR hRR ?_ ⟨ESS,hP,λe=>⟨hP.isE e,λh=>hall e (zcJ.mpr h)⟩⟩
        rw[Cf];exact hpo
theorem zkl (T:Txt P w K mg) (g_ask_picture:Fn P w K mg base 2 "ask_picture" ["picture"] (spAsk K)) (g_cell_table:Fn P w K mg base 1 "cell_table" ["picture"] (zfr K)) (g_all_edges:Fn P w K mg base 3 "all_edges" ["picture"] (zjP K))
  (g_rounds_along:Fn P w K mg base 6 "rounds_along" ["table","edges"] (zdb K))
  (d:Df K mg "rounds" zfD ["picture"]):FnOk P w K mg base CX0 7 d.f d.fd ["picture"] (zfs K):=by
 refine d.F.ok zjX (λvs H Q E h=>?_) (λcdv A outer s H vs Q E hr h=>?_)
 .obtain⟨a,cs,rfl,_⟩:=h;rfl
 .obtain⟨a,cs,rfl,hLR,hord,hlen,k⟩:=h;have hu1:=hu_of hr
  refine⟨_,(zac (zaY (pC g_ask_picture hr (pa_N (pv 0) zab)))
   (zaf (zak (pC g_rounds_along hr (zai (pC g_cell_table hr (pa_N (pv 0) zab)) (zai (pC g_all_edges hr (pa_N (pv 0) zab)) zab)))))),?_⟩
  refine⟨_,rfl,a,cs,rfl,hLR,hord,by lia,λH1 s1=>?_⟩;have hLR1:=hLR.same s1 λx v hx=>hx.same s1
  refine⟨_,rfl,a,cs,rfl,hLR1,by lia,λt H2 ht s2 tab=>?_⟩;refine⟨_,rfl,a,cs,rfl,hLR1.same s2 (λx v hx=>hx.same s2),by lia,λpe H5 es hpe s5 e5 hv5=>?_⟩;refine⟨t,pe,cs,es,rfl,tab.same s5,e5,hv5,hlen,λp H' rs R R0 hp sp f1 f2 f3 f4 f5=>?_⟩;exact k p H' rs R R0 (s1.free (s2.free (s5.free hp))) (s1.trans (s2.trans (s5.trans sp))) f1 f2 f3 f4 f5
theorem _root_.RP.Closed.uniq{C:Cell->Bool}{b:Edge}{es fs:List Edge}(h:Closed C b es)(k:Closed C b fs):es=fs:=by
 have lt:∀{es fs:List Edge},Closed C b es->Closed C b fs->¬ es.length<fs.length:=λ{es fs} h k hl=>by have e:=h.it_len;have hp:=h.pos;have g1:=k.1.get es.length hl;have g2:=k.1.get 0 (by lia);rw[e]at g1;have:=(C3 (i:=es.length) (j:=0) hl k.1.2.2.2).mp (by rw[g1,g2];rfl);lia
 have hl:es.length=fs.length:=by have:=lt h k;have:=lt k h;lia
 apply List.ext_getElem?
 intro i;rcases A6 i es.length with hi |hi
 .rw[h.1.get i hi,k.1.get i (by lia)]
 .rw[Ed hi,Ed (by lia)]
theorem zfF{α:Type}(l:List α)(j:Nat):(l.drop j++l.take j).Perm l:=by have:=Dp (l₁:=l.drop j) (l₂:=l.take j);rw[Do]at this;exact this
theorem _root_.RP.Closed.share{C:Cell -> Bool}{b c e:Edge}{es fs:List Edge}(h:Closed C b es)(k:Closed C c fs)(h1:e ∈ es)(h2:e ∈ fs) :
  ∃i j,es[i]?=some e/\fs[j]?=some e/\es.drop i++es.take i=fs.drop j++fs.take j:=by
 obtain⟨i,hi,ei⟩:=AD h1;obtain⟨j,hj,ej⟩:=AD h2;have a1:es[i]?=some e:=by rw[Ab hi,ei]
 have a2:fs[j]?=some e:=by rw[Ab hj,ej]
 exact⟨i,j,a1,a2,(h.rot i a1).uniq (k.rot j a2)⟩
theorem _root_.RP.Closed.perm{C:Cell->Bool}{b c e:Edge}{es fs:List Edge}(h:Closed C b es)(k:Closed C c fs)(h1:e∈es)(h2:e∈fs):es.Perm fs:=by obtain⟨i,j,_,_,q⟩:=h.share k h1 h2;exact (zfF es i).symm.trans (q ▸ zfF fs j)
theorem zdG{C:Cell->Bool}(es:List Edge):(wk C es).map (·.1)=es:=by unfold wk;rw[List.map_map];exact List.map_id' _
theorem ze8{C:Cell->Bool}{es fs:List Edge}(p:es.Perm fs):sortS (wk C es)=sortS (wk C fs):=by have q:(wk C es).Perm (wk C fs):=p.map _;unfold sortS nL nS;have a:=(q.filter λq=>q.2.isNone).length_eq;have b:=(q.filter λq=>slant q.2).length_eq;rw[a,b]
theorem lex2{a b c d:Int}(h1:HT.lexLt [a,b] [c,d]=false)(h2:HT.lexLt [c,d] [a,b]=false):a=c/\b=d:=by have:=HT.lexLt_total h1 h2;simpa using this
theorem zcg.one{W W':Wk}{s:Str}{e f:Edge}(p:(W.map (·.1)).Perm (W'.map (·.1)))(h:zcg W s e)(k:zcg W' s f):e=f:=by obtain⟨h1,h2,h3⟩:=h;obtain⟨k1,k2,k3⟩:=k;have a:=h3 f (p.mem_iff.mpr k1) k2;have b:=k3 e (p.mem_iff.mp h1) h2;obtain⟨q1,q2⟩:=lex2 a b;obtain⟨⟨x,y⟩,w⟩:=e;obtain⟨⟨x',y'⟩,w'⟩:=f;simp only at q1 q2 h2 k2;rw[h2,k2,q1,q2]
theorem IsRnd.one{C:Cell->Bool}{b c e:Edge}{es fs:List Edge}{r q:Rnd}(h:Closed C b es)(k:Closed C c fs)(h1:e∈es)(h2:e∈fs)(hr:IsRnd (wk C es) r)(hq:IsRnd (wk C fs) q):r=q:=by
 have p:=h.perm k h1 h2;obtain⟨r0,i,f,rf,rb,rx,ry,rr⟩:=hr;obtain⟨q0,j,g,qg,qb,qx,qy,qr⟩:=hq;have ss:=ze8 (C:=C) p;rw[<- ss]at qb;have fg:f=g:=rb.one (by rw[zdG,zdG];exact p) qb;subst fg;rw[zdG]at rf qg;have e1:=(h.rot i rf).uniq (k.rot j qg)
 have e2:(wk C es).drop i++(wk C es).take i=(wk C fs).drop j++(wk C fs).take j:=by unfold wk;rw[<- D8,<- D9,<- Ay,e1,Ay,D8,D9]
 obtain⟨a1,a2,a3,a4⟩:=r;obtain⟨b1,b2,b3,b4⟩:=q;simp only at r0 rx ry rr q0 qx qy qr;rw[r0,q0,rx,ry,rr,qx,qy,qr,ss,e2]
noncomputable def begE(r:Rnd):Edge:=⟨(r.x,r.y),kOf r.so⟩
theorem IsRnd.beg {C:Cell->Bool}{es:List Edge}{r:Rnd}(h:IsRnd (wk C es) r):begE r∈es/\(r.so = "rim" ∨ r.so = "hole"):=by
 obtain⟨r0,i,f,rf,⟨rb,rw',_⟩,rx,ry,rr⟩:=h;rw[zdG]at rb;refine⟨?_,by rw[r0];exact zdd _⟩
 have:begE r=f:=by obtain⟨⟨x,y⟩,w⟩:=f;unfold begE;rw[rx,ry,r0];simp only at rw' ⊢;rw[rw']
 rw[this];exact rb
theorem Part.got{C:Cell->Bool}{ESS:List (List Edge)}{R:List Rnd}(h:Part C ESS R){i:Nat}{r:Rnd}(hr:R[i]?=some r):∃es b,ESS[i]?=some es/\Closed C b es/\IsRnd (wk C es) r:=by have hi:=(Ad.mp hr).1;rw[h.len]at hi;obtain⟨⟨b,hb⟩,q⟩:=h.each i _ r (Ab hi) hr;exact⟨_,b,Ab hi,hb,q⟩
theorem zl4{α:Type}{L:List (List α)}(h:L.flatten.Nodup):∀{i j:Nat}{a b:List α}{x:α},L[i]?=some a->L[j]?=some b->x∈a->x∈b->i=j:=by
 induction L with
 |nil=>intro i j a b x h1;simp at h1
 |cons l r ih =>
  rw[Br,DD]at h;obtain⟨_,h2,h3⟩:=h;intro i j a b x h1 h4 xa xb
  cases i with
  |zero =>
   cases j with
   |zero=>rfl
   |succ j =>
    simp only[List.getElem?_cons_zero,Option.some.injEq,DR]at h1 h4;subst h1;exact absurd rfl (h3 x xa x (CA.mpr ⟨b,Aj h4,xb⟩))
  |succ i =>
   cases j with
   |zero =>
    simp only[List.getElem?_cons_zero,Option.some.injEq,DR]at h1 h4;subst h4;exact absurd rfl (h3 x xb x (CA.mpr ⟨a,Aj h1,xa⟩))
   |succ j =>
    have:=ih h2 (i:=i) (j:=j) (by simpa using h1) (by simpa using h4) xa xb;rw[this]
theorem Part.beg_inj{C:Cell->Bool}{ESS:List (List Edge)}{R:List Rnd}(h:Part C ESS R){i j:Nat}{r q:Rnd}(hr:R[i]?=some r)(hq:R[j]?=some q)(e:begE r=begE q):i=j:=by obtain⟨es,b,h1,h2,h3⟩:=h.got hr;obtain⟨fs,c,k1,k2,k3⟩:=h.got hq;exact zl4 h.nd h1 k1 h3.beg.1 (e ▸ k3.beg.1)
theorem Part.so {C:Cell->Bool}{ESS:List (List Edge)}{R:List Rnd}(h:Part C ESS R){r:Rnd}(hr:r∈R):r.so = "rim" ∨ r.so = "hole":=by obtain⟨i,hi,ei⟩:=AD hr;obtain⟨es,b,h1,h2,h3⟩:=h.got (by rw[Ab hi,ei]);exact h3.beg.2
theorem Whole.mem{cs:List Cell}{R S:List Rnd}(h:Whole cs R)(k:Whole cs S){r:Rnd}(hr:r∈R):r∈S:=by
 obtain⟨E,h1,h2⟩:=h;obtain⟨F,k1,k2⟩:=k;obtain⟨i,hi,ei⟩:=AD hr;obtain⟨es,b,a1,a2,a3⟩:=h1.got (by rw[Ab hi,ei]);have m:=a3.beg.1;obtain⟨fs,f1,f2⟩:=CA.mp ((k2 _).mpr (a2.1.2.2.1 _ m));obtain⟨j,hj,ej⟩:=AD f1;have hjs:j<S.length:=by rw[k1.len];exact hj
 obtain⟨⟨c,hc⟩,q⟩:=k1.each j fs S[j] (by rw[Ab hj,ej]) (Ab hjs);rw[IsRnd.one a2 hc m f2 a3 q];exact Bj _
theorem zng {r q:Rnd}(hr:r.so = "rim" ∨ r.so = "hole") (hq:q.so = "rim" ∨ q.so = "hole") (h:keyI r=keyI q):begE r=begE q:=by obtain⟨a1,a2,a3,a4⟩:=r;obtain⟨b1,b2,b3,b4⟩:=q;simp only[keyI,List.cons.injEq,and_true]at h;obtain⟨h1,h2,h3⟩:=h;subst h1 h2;unfold begE;simp only at hr hq h3 ⊢;have n:decide (V.str "rim" = V.str "hole")=false:=decide_eq_false (by decide);have y:decide (V.str "hole" = V.str "hole")=true:=decide_eq_true rfl;rcases hr with rfl |rfl <;> rcases hq with rfl |rfl <;> first |rfl | (rw[n,y]at h3;exact absurd h3 (by decide))
theorem zkB{r q:Rnd}(h1:HT.lexLt (keyI r) (keyI q)=false)(h2:HT.lexLt (keyI q) (keyI r)=false):keyI r=keyI q:=HT.lexLt_total h1 h2
noncomputable abbrev InKey(R:List Rnd):Prop:=R.Pairwise (λr q=>HT.lexLt (keyI q) (keyI r)=false)
theorem InKey.one:∀{R S:List Rnd},InKey R->InKey S->(∀r,r∈R ↔ r∈S)->R.Nodup->S.Nodup->(∀r∈R,∀q∈R,keyI r=keyI q->r=q)->R=S
  |[],[],_,_,_,_,_,_=>rfl
  |[],q::S,_,_,h,_,_,_=>by have:=(h q).mpr Ap;cases this
  |r::R,[],_,_,h,_,_,_=>by have:=(h r).mp Ap;cases this
  |r::R,q::S,h1,h2,h,n1,n2,kj=>by
    obtain⟨a1,a2⟩:=Ch.mp h1;obtain⟨b1,b2⟩:=Ch.mp h2
    have e:r=q:=by
      rcases Ax.mp ((h r).mp Ap) with z |z
      . exact z
      rcases Ax.mp ((h q).mpr Ap) with y |y
      . exact y.symm
      . exact kj r Ap q (As _ y) (zkB (b1 r z) (a1 q y))
    subst e;have m1:=Bs.mp n1;have m2:=Bs.mp n2
    rw[InKey.one a2 b2 (λx => ⟨λhx => by
        rcases Ax.mp ((h x).mp (As _ hx)) with z |z
        . rw[z]at hx;exact absurd hx m1.1
        . exact z,λhx=>by
        rcases Ax.mp ((h x).mpr (As _ hx)) with z |z
        . rw[z]at hx;exact absurd hx m2.1
        . exact z⟩) m1.2 m2.2 λx hx y hy=>kj x (As _ hx) y (As _ hy)]
theorem Part.nodup{C:Cell->Bool}{ESS:List (List Edge)}{R:List Rnd}(h:Part C ESS R):R.Nodup:=by unfold List.Nodup;rw[BA];intro i j hi hj hij e;have:=h.beg_inj (i:=i) (j:=j) (r:=R[j]) (q:=R[j]) (by rw[Ab hi,e]) (Ab hj) rfl;lia
theorem Part.key_inj{C:Cell->Bool}{ESS:List (List Edge)}{R:List Rnd}(h:Part C ESS R):∀r∈R,∀q∈R,keyI r=keyI q->r=q:=by intro r hr q hq e;have be:=zng (h.so hr) (h.so hq) e;obtain⟨i,hi,ei⟩:=AD hr;obtain⟨j,hj,ej⟩:=AD hq;have:=h.beg_inj (i:=i) (j:=j) (by rw[Ab hi,ei]) (by rw[Ab hj,ej]) be;subst this;rw[<- ei,<- ej]
theorem Whole.one{cs:List Cell}{R R0 S S0:List Rnd}(p:R.Perm R0)(q:S.Perm S0)(hR:InKey R)(hS:InKey S)(h:Whole cs R0)(k:Whole cs S0):R=S:=by
 obtain⟨E,h1,h2⟩:=id h;obtain⟨F,k1,k2⟩:=id k;refine InKey.one hR hS (λr=>⟨λm=>q.mem_iff.mpr (h.mem k (p.mem_iff.mp m)),λm=>p.mem_iff.mpr (k.mem h (q.mem_iff.mp m))⟩) (p.nodup_iff.mpr h1.nodup) (q.nodup_iff.mpr k1.nodup) ?_
 exact λr hr q hq=>h1.key_inj r (p.mem_iff.mp hr) q (p.mem_iff.mp hq)
theorem ziB(s:Nat):∀(l:List Nat) (w:Nat),dgo w (l++[s])=((dgo w l).1++(Ar ((zbc s+4-(dgo w l).2) % 4) none++[some s]),wayB s)
 |[],w=>by simp[dgo]
 |a::l,w=>by
  have ih:=ziB s l (wayB a);show (Ar ((zbc a+4-w) % 4) none++some a::(dgo (wayB a) (l++[s])).1,(dgo (wayB a) (l++[s])).2)=_;rw[ih];show _=((Ar ((zbc a+4-w) % 4) none++some a::(dgo (wayB a) l).1)++_,_);simp;rfl
theorem zf5:∀(l:List Nat) (w:Nat),(dgo w l).1.length<=4*l.length
 |[],w=>by simp[dgo]
 |a::l,w=>by
  have ih:=zf5 l (wayB a);show (Ar ((zbc a+4-w) % 4) none++some a::(dgo (wayB a) l).1).length<=_;have:(zbc a+4-w) % 4<4:=Ci _ (by decide);simp only[Av,CL,AZ];lia
theorem zhP:∀(l:List Nat) (w:Nat),w<4->(dgo w l).2<4
 |[],w,h=>h
 |a::l,w,h=>zhP l (wayB a) (Ci _ (by decide))
theorem zju(s:Nat):zbc s<4:=Ci _ (by decide)
theorem ziu(n:Nat):(Ar n [V.non]).flatten=(Ar n (none:Option Nat)).map sv:=by
 induction n with
 |zero=>rfl
 |succ n ih=>rw[C9,Br,ih];rfl
theorem zbd{n:Nat}(h:n<=5000):n<sizeLine:=CP h (by decide)
theorem zmy:1<=sizeLine:=by decide
noncomputable def zgu:Sp:=λvs H Q _=>∃(v:V) (r:Rnd),vs=[v]/\rR r v H/\(r.so = "rim" ∨ r.so = "hole")/\∀p H',H p=none->Same H H'->H' p=some (.tup (edgeT (begE r)))->Q (.ref p) H'
theorem zfS (T:Txt P w K mg) (d:Df K mg "begin_edge" zcw ["one"]):FnOk P w K mg base CX0 1 d.f d.fd ["one"] zgu:=by
 refine d.F.ok zbk (λvs H Q E h=>?_) (λcdv A outer s H vs Q E hr h=>?_)
 .obtain⟨v,r,rfl,_⟩:=h;rfl
 .obtain⟨v,r,rfl,⟨a,b,rfl,q1,q2⟩,hso,k⟩:=h
  refine⟨_,(zac (zbP (pv 0) (zbh (by rfl) (zae (nG 1 zbk.nd) (zae (nG 2 zbk.nd) (zae (nG 3 zbk.nd) (zae (nG 4 zbk.nd) zat))))))
   (zaf (zak (zaO (pa_N (pv 2) (pa_N (pv 3) (zai (zkd (by rfl) T.ways (pv 1)) zab))))))),?_⟩
  refine⟨_,rfl,a,_,rfl,SqT.of q1,rfl,_,_,rfl,_,_,rfl,_,_,rfl,_,_,rfl,rfl,?_⟩;refine⟨_,rfl,_,rfl,_,rfl,?_⟩;rcases hso with e |e
  .refine .inl ⟨by rw[e],three,λp hp=>k p _ hp (Same.up hp) ?_⟩;rw[zaa];unfold begE edgeT kOf;simp only[e];rfl
  .refine .inr ⟨by rw[e],three,λp hp=>k p _ hp (Same.up hp) ?_⟩;rw[zaa];unfold begE edgeT kOf;simp only[e];rfl
noncomputable def zh4:Sp:=λvs H Q _=>∃s:Nat,vs=[.int s]/\Q (.int (zbc s:Nat)) H
theorem ziX (d:Df K mg "way_for" zeg ["step"]):FnOk P w K mg base CX0 1 d.f d.fd ["step"] zh4:=by
 refine d.F.ok ziS (λvs H Q E h=>?_) (λcdv A outer s H vs Q E hr h=>?_)
 .obtain⟨s,rfl,_⟩:=h;rfl
 .obtain⟨t,rfl,k⟩:=h;refine⟨_,(zaf (zak (pe_op zaV (pe_op zfI (pe_op zaW (pv 0) zah) zah) zah))),?_⟩;refine⟨_,rfl,_,_,rfl,rfl,_,_,rfl,rfl,⟨by decide,by decide⟩,_,_,rfl,rfl,(by show (0:Int)<4;decide),?_⟩;have e:((t:Int)+1) / 2 % 4=(zbc t:Nat):=by unfold zbc;lia
  show Q (V.int (((t:Int)+1) / 2 % 4)) H;rw[e];exact k
noncomputable def zjN(K:W.Frag):Sp:=λvs H Q _=>∃(wn:Nat) (b:Addr) (row:List Nat),vs=[.int (wn:Int),.ref b]/\wn<4/\SqT K H b (rowV row)/\row.length<=500 /\
 ∀p H',H p=none->Same H H'->H' p=some (.lst ((deeds wn row).map sv))->Q (.ref p) H'
theorem zeQ (g_way_for:Fn P w K mg base 1 "way_for" ["step"] zh4) (d:Df K mg "deeds_along" zb9 ["begin_way","row"]):FnOk P w K mg base CX0 2 d.f d.fd ["begin_way","row"] (zjN K):=by
 refine d.F.ok zaR (λvs H Q E h=>?_) (λcdv A outer s H vs Q E hr h=>?_)
 .obtain⟨wn,b,row,rfl,_⟩:=h;rfl
 .obtain⟨wn,b,row,rfl,hw,hq,hlen,k⟩:=h
  refine⟨_,(zac (sE 2 zaR.nd (pv 0))
   (zac (sE 3 zaR.nd (zbw zab))
   (zac (zbm Bf rfl (zka (pv 1)) (nG 4 zaR.nd)
   (zac (zaY (pe_bm A5 EF EG zex (pv 3) (pa_B (pe_op zmw (zbw (pa_C zb0 zab)) (pe_op zaV (pe_op zdh (pC g_way_for hr (pa_N (pv 4) zab)) (pv 2)) zah)) zab)))
   (zac (zaY (pe_bm A5 Bt Bu zaT (pv 3) (pa_N (pv 4) zab)))
   (zaf (sE 2 zaR.nd (pe_op zaV (pe_op zdh (pC g_way_for hr (pa_N (pv 4) zab)) (pe_op zaV (pv 4) zah)) zah))))))
   (zac (sE 5 zaR.nd (zfH (zlA (pv 1) (λ_=>rfl)) (pe_op zaV (pe_op zdh (pv 0) (pv 2)) zah) zah))
   (zaf (zak (pe_op zmx (pv 3) (pe_op zmw (zbw (pa_C zb0 zab)) (pv 5))))))))),?_⟩
  refine⟨_,rfl,(by show 0<=sizeLine;decide),λp hp=>?_⟩;have s0:Same H (upd H p (.lst [])):=Same.up hp;have e0:upd H p (.lst []) p=some (.lst []):=zaa;generalize upd H p (.lst [])=H0 at s0 e0;refine⟨_,rfl,b,rfl,⟨_,s0.seqT hq⟩,?_⟩;have hrl:(rowV row).length=row.length:=by unfold rowV;exact Ah _
  refine zhL (K:=K) (a:=b) (xs:=rowV row) (λi σ H1=>∃o4 o5,σ=[some (.int (wn:Int)),some (.ref b),some (.int ((dgo wn (row.take i)).2:Nat)),some (.ref p),o4,o5]/\Same H H1/\H1 p=some (.lst ((dgo wn (row.take i)).1.map sv)))
   ⟨_,_,rfl,s0,e0⟩ (λi σ H1 _ ⟨_,_,_,s1,_⟩=>s1.seqT hq) ?_ ?_
  .rintro i v σ H1 hi ⟨o4,o5,rfl,s1,e1⟩;have hi':i<row.length:=by rw[<- hrl];exact (Ad.mp hi).1
   unfold rowV at hi;rw[AA,Ab hi']at hi
   cases hi
   have hdl:=zf5 (row.take i) wn;rw[AS]at hdl;have hdw:=zhP (row.take i) wn hw;have hwf:=zju row[i];have hn:=ziB row[i] (row.take i) wn;rw[<- zar (Ab hi')]at hn;refine⟨_,rfl,.inl ⟨rfl,_,SqL.of e1⟩,zmy,λl hl=>?_⟩;have s2:Same H1 (upd H1 l (.lst [.non])):=Same.up hl;have e2:upd H1 l (.lst [.non]) l=some (.lst [.non]):=zaa;generalize upd H1 l (.lst [.non])=H2 at s2 e2;refine⟨_,rfl,row[i],rfl,?_⟩;refine⟨_,rfl,_,_,rfl,rfl,_,_,rfl,rfl,(by show (0:Int)<4;decide),?_⟩;have ek:(((zbc row[i]:Nat):Int)-((dgo wn (row.take i)).2:Nat)) % 4=(((zbc row[i]+4-(dgo wn (row.take i)).2) % 4:Nat):Int):=by lia
   have k4:(zbc row[i]+4-(dgo wn (row.take i)).2) % 4<4:=Ci _ (by decide);generalize hk:(zbc row[i]+4-(dgo wn (row.take i)).2) % 4=kk at *;refine⟨l,(kk:Int),_,rfl,congrArg V.int ek,e2,by lia,by lia,(BZ (zaj (by simp;lia))),λq hq'=>?_⟩;rw[CG,ziu];have s3:Same H2 (upd H2 q (.lst ((Ar kk (none:Option Nat)).map sv))):=Same.up hq';have e3:upd H2 q (.lst ((Ar kk (none:Option Nat)).map sv)) q=some (.lst ((Ar kk (none:Option Nat)).map sv)):=zaa;have hpq:p≠q:=λz=>by subst z;rw[s2 _ _ e1]at hq';cases hq'
   generalize upd H2 q (.lst ((Ar kk (none:Option Nat)).map sv))=H3 at s3 e3;have e13:=s3 _ _ (s2 _ _ e1);refine⟨p,q,_,_,rfl,rfl,e13,e3,?_,?_⟩
   .simp only[Ah,CL];exact BZ (zbd (by lia))
   have hp2:H p=none:=hp;have s4:Same H (upd H3 p (.lst ((dgo wn (row.take i)).1.map sv++(Ar kk (none:Option Nat)).map sv))):=zal hp2 (s1.trans (s2.trans s3));have e4:upd H3 p (.lst ((dgo wn (row.take i)).1.map sv++(Ar kk (none:Option Nat)).map sv)) p=some (.lst ((dgo wn (row.take i)).1.map sv++(Ar kk (none:Option Nat)).map sv)):=zaa;generalize upd H3 p (.lst ((dgo wn (row.take i)).1.map sv++(Ar kk (none:Option Nat)).map sv))=H4 at s4 e4;refine⟨_,rfl,.inl ⟨rfl,_,SqL.of e4⟩,_,rfl,p,_,_,rfl,rfl,e4,?_,?_⟩
   .simp only[Av,Ah,CL];exact zbd (by lia)
   have s5:Same H (upd H4 p (.lst (((dgo wn (row.take i)).1.map sv++(Ar kk (none:Option Nat)).map sv)++[V.int (row[i]:Nat)]))):=zal hp2 s4
   have e5:upd H4 p (.lst (((dgo wn (row.take i)).1.map sv++(Ar kk (none:Option Nat)).map sv)++[V.int (row[i]:Nat)])) p=some (.lst ((dgo wn (row.take (i+1))).1.map sv)):=by rw[zaa,hn];simp[sv]
   generalize upd H4 p (.lst (((dgo wn (row.take i)).1.map sv++(Ar kk (none:Option Nat)).map sv)++[V.int (row[i]:Nat)]))=H5 at s5 e5;refine⟨_,rfl,row[i],rfl,?_⟩;refine⟨_,rfl,_,_,rfl,rfl,(by show (0:Int)<2;decide),_,_,rfl,rfl,_,_,rfl,rfl,(by show (0:Int)<4;decide),?_⟩
   have ew:(((zbc row[i]:Nat):Int)-(row[i]:Int) % 2) % 4=((dgo wn (row.take (i+1))).2:Nat):=by rw[hn];show _=((wayB row[i]:Nat):Int);unfold wayB;lia
   refine⟨some (V.int (row[i]:Nat)),o5,?_,s5,e5⟩;exact congrArg (λz:Int=>[some (V.int (wn:Int)),some (V.ref b),some (V.int z),some (V.ref p),some (V.int (row[i]:Nat)),o5]) ew
  .rintro σ H1 ⟨o4,o5,rfl,s1,e1⟩;rw[hrl,AI]at e1;rw[hrl,AI];have hdl:=zf5 row wn;have hdw:=zhP row wn hw
   have fin:∀z:Int,z=(zaJ wn row:Nat)->tRet (tOp rCat (tVar 3) (tOp rRep (tLst (tCons (tC .non) tNil)) (tVar 5))) { nx:=λ_ H'=>Q .non H',rt:=Q } [some (.int (wn:Int)),some (.ref b),some (.int ((dgo wn row).2:Nat)),some (.ref p),o4,some (.int z)] H1:=λz hz=>by
    have hll:zaJ wn row<=4:=by
     unfold zaJ;split
     .decide
     .exact BZ (Ci _ (by decide))
    refine⟨_,rfl,zmy,λl hl=>?_⟩;have s2:Same H1 (upd H1 l (.lst [.non])):=Same.up hl;have e2:upd H1 l (.lst [.non]) l=some (.lst [.non]):=zaa;generalize upd H1 l (.lst [.non])=H2 at s2 e2;subst hz;refine⟨_,rfl,l,_,_,rfl,rfl,e2,by lia,by lia,(BZ (zaj (by simp;lia))),λq hq'=>?_⟩;rw[CG,ziu];have s3:Same H2 (upd H2 q (.lst ((Ar (zaJ wn row) (none:Option Nat)).map sv))):=Same.up hq';have e3:upd H2 q (.lst ((Ar (zaJ wn row) (none:Option Nat)).map sv)) q=some (.lst ((Ar (zaJ wn row) (none:Option Nat)).map sv)):=zaa;generalize upd H2 q (.lst ((Ar (zaJ wn row) (none:Option Nat)).map sv))=H3 at s3 e3;refine⟨p,q,_,_,rfl,rfl,s3 _ _ (s2 _ _ e1),e3,?_,λx hx=>?_⟩
    .simp only[Ah,CL];exact BZ (zbd (by lia))
    .have s13:=s1.trans (s2.trans s3);refine k x _ (s13.free hx) (s13.trans (Same.up hx)) ?_
     rw[zaa];unfold deeds;rw[Ay]
   refine⟨_,rfl,_,.inr (.inl ⟨_,s1.seqT hq,rfl⟩),?_⟩
   by_cases he:row=[]
   .exact iteN (by rw[he];rfl) (fin 4 (by rw[he];rfl))
   .refine iteY (by cases row with |nil=>exact absurd rfl he |cons x r=>rfl) ⟨_,rfl,_,rfl,_,_,rfl,rfl,_,_,rfl,rfl,(by show (0:Int)<4;decide),fin _ ?_⟩
    have hl:zaJ wn row=(wn+4-(dgo wn row).2) % 4:=by unfold zaJ;rw[if_neg (by simpa using he)]
    rw[hl];lia
noncomputable def wby:Edge->List (Option Nat)->List (Edge×Option Nat)
 |_,[]=>[]
 |e,d::r=>(e,d)::wby (edgeB e d) r
noncomputable def eAt:Edge->List (Option Nat)->Edge
 |e,[]=>e
 |e,d::r=>eAt (edgeB e d) r
theorem ziy(d:Option Nat):∀(l:List (Option Nat)) (e:Edge),eAt e (l++[d])=edgeB (eAt e l) d
 |[],_=>rfl
 |_::l,e=>ziy d l _
theorem zhW(d:Option Nat):∀(l:List (Option Nat)) (e:Edge),wby e (l++[d])=wby e l++[(eAt e l,d)]
 |[],_=>rfl
 |a::l,e=>by
  show (e,a)::wby (edgeB e a) (l++[d])=_;rw[zhW d l];rfl
theorem ze2:∀(l:List (Option Nat)) (e:Edge),(wby e l).length=l.length
 |[],_=>rfl
 |a::l,e=>by show (wby (edgeB e a) l).length+1=_;rw[ze2 l];rfl
theorem zl7{e:Edge}{o:Option Nat}(h:e.w<4):(edgeB e o).w<4:=by
 unfold edgeB
 cases o with
 |none=>exact Ci _ (by decide)
 |some s=>simp only;split <;> simp only <;> lia
theorem zmB:∀(l:List (Option Nat)){e:Edge},e.w<4->(eAt e l).w<4
 |[],_,h=>h
 |_::l,_,h=>zmB l (zl7 h)
theorem zgi{C:Cell->Bool}:∀(es:List Edge){b:Edge},es[0]?=some b∨es=[]->(∀i e f,es[i]?=some e->es[i+1]?=some f->f=nxt C e)->wby b (es.map (stepB C))=wk C es
 |[],_,_,_=>rfl
 |e::r,b,h0,hs=>by
  have hb:e=b:=by rcases h0 with h |h;simpa using h;cases h
  subst hb;show (e,stepB C e)::wby (nxt C e) (r.map (stepB C))=(e,stepB C e)::wk C r;rw[zgi r (b:=nxt C e) ?_ λi x y h1 h2=>hs (i+1) x y (by simpa using h1) (by simpa using h2)]
  cases r with
  |nil=>exact .inr rfl
  |cons f r=>exact .inl (by have:=hs 0 e f rfl rfl;rw[<- this];rfl)
noncomputable def zh5(K:W.Frag):Sp:=λvs H Q _=>∃(a l:Addr) (b:Edge) (ds:List (Option Nat)),vs=[.ref a,.ref l]/\H a=some (.tup (edgeT b))/\b.w<4/\H l=some (.lst (ds.map sv))/\(∀s,some s∈ds->s<8)/\ds.length<=3000 /\
 ∀p H' ws,H p=none->Same H H'->H' p=some (.lst ws)->VR ws (wby b ds) wR H'->Q (.ref p) H'
theorem ziZ (g_edge_behind:Fn P w K mg base 2 "edge_behind" ["edge","step"] (zed K)) (d:Df K mg "walk_by" zei ["begin","deeds"]):FnOk P w K mg base CX0 3 d.f d.fd ["begin","deeds"] (zh5 K):=by
 refine d.F.ok zbZ (λvs H Q E h=>?_) (λcdv A outer s H vs Q E hr h=>?_)
 .obtain⟨a,l,b,ds,rfl,_⟩:=h;rfl
 .obtain⟨a,l,b,ds,rfl,ha,hb,hl,h8,hlen,k⟩:=h
  refine⟨_,(zac (sE 2 zbZ.nd (zbw zab))
   (zac (sE 3 zbZ.nd (pv 0))
   (zac (zbm Bf rfl (zaz (pv 1)) (nG 4 zbZ.nd)
   (zac (zaY (pe_bm A5 Bt Bu zaT (pv 2) (pa_T (zaO (pa_N (pv 3) (pa_N (pv 4) zab))) zab)))
   (zaf (sE 3 zbZ.nd (pC g_edge_behind hr (pa_N (pv 3) (pa_N (pv 4) zab)))))))
   (zaf (zak (pv 2)))))),?_⟩
  refine⟨(by show 0<=sizeLine;decide),λp hp=>?_⟩;have s0:Same H (upd H p (.lst [])):=Same.up hp;have e0:upd H p (.lst []) p=some (.lst []):=zaa;generalize upd H p (.lst [])=H0 at s0 e0;refine⟨_,rfl,_,rfl,l,rfl,⟨_,SqL.of (s0 _ _ hl)⟩,?_⟩
  refine zao (K:=K) (a:=l) (xs:=ds.map sv) (λi σ H1=>∃(c:Addr) (o4:Option V) (ws:List V),σ=[some (.ref a),some (.ref l),some (.ref p),some (.ref c),o4]/\Same H H1/\H1 c=some (.tup (edgeT (eAt b (ds.take i))))/\H1 p=some (.lst ws)/\VR ws (wby b (ds.take i)) wR H1)
   ⟨a,_,[],rfl,s0,s0 _ _ ha,e0,VR.nil⟩ (λi σ H1 _ ⟨_,_,_,_,s1,_⟩=>SqL.of (s1 _ _ hl)) ?_ ?_
  .rintro i v σ H1 hi ⟨c,o4,ws,rfl,s1,hc,e1,hv⟩;have hi':i<ds.length:=by have:=(Ad.mp hi).1;rwa [Ah]at this
   rw[AA,Ab hi']at hi
   cases hi
   have tk:=zar (Ab hi');have wl:ws.length<=3000:=by rw[hv.1,ze2,AS];lia
   refine⟨_,rfl,.inl ⟨rfl,_,SqL.of e1⟩,_,rfl,_,rfl,two,λt ht=>?_⟩;have s2:Same H1 (upd H1 t (.tup [.ref c,sv ds[i]])):=Same.up ht;have e2:upd H1 t (.tup [.ref c,sv ds[i]]) t=some (.tup [.ref c,sv ds[i]]):=zaa;generalize upd H1 t (.tup [.ref c,sv ds[i]])=H2 at s2 e2;have e12:=s2 _ _ e1;refine⟨p,ws,_,rfl,rfl,e12,zbd (by lia),?_⟩;have kt3:KT H2 (upd H2 p (.lst (ws++[.ref t]))):=KT.lst e12;have s3:Same H (upd H2 p (.lst (ws++[.ref t]))):=zal hp (s1.trans s2);have e3:upd H2 p (.lst (ws++[.ref t])) p=some (.lst (ws++[.ref t])):=zaa;generalize upd H2 p (.lst (ws++[.ref t]))=H3 at kt3 s3 e3;have hc3:=kt3 _ _ (s2 _ _ hc);refine⟨_,rfl,_,rfl,c,eAt b (ds.take i),ds[i],rfl,SqT.of hc3,zmB _ hb,λz hz=>h8 z (hz ▸ Bj _),λq H4 hq s4 e4=>?_⟩;refine⟨q,_,ws++[.ref t],rfl,s3.trans s4,?_,s4 _ _ e3,?_⟩
   .rw[tk,ziy];exact e4
   .rw[tk,zhW];exact hv.snoc (λx v h=>((h.kt (KT.of s2)).kt kt3).kt (KT.of s4)) ⟨t,c,rfl,s4 _ _ (kt3 _ _ e2),s4 _ _ hc3⟩
  .rintro σ H1 ⟨c,o4,ws,rfl,s1,hc,e1,hv⟩;rw[Ah,AI]at hv;exact⟨_,rfl,k p H1 ws hp s1 e1 hv⟩
noncomputable def zec(K:W.Frag):Sp:=λvs H Q _=>∃(a b:Addr) (e:Edge) (row:List Nat),vs=[.ref a,.ref b]/\H a=some (.tup (edgeT e))/\e.w<4/\SqT K H b (rowV row)/\row.length<=500/\(∀s,some s∈deeds e.w row->s<8) /\
 ∀p H' ws,H p=none->Same H H'->H' p=some (.lst ws)->VR ws (wby e (deeds e.w row)) wR H'->Q (.ref p) H'
theorem zfJ (g_walk_by:Fn P w K mg base 3 "walk_by" ["begin","deeds"] (zh5 K)) (g_deeds_along:Fn P w K mg base 2 "deeds_along" ["begin_way","row"] (zjN K)) (d:Df K mg "walk_along" zcq ["begin","row"]):FnOk P w K mg base CX0 4 d.f d.fd ["begin","row"] (zec K):=by
 refine d.F.ok zfx (λvs H Q E h=>?_) (λcdv A outer s H vs Q E hr h=>?_)
 .obtain⟨a,b,e,row,rfl,_⟩:=h;rfl
 .obtain⟨a,b,e,row,rfl,ha,hw,hq,hlen,h8,k⟩:=h;refine⟨_,(zaf (zak (pC g_walk_by hr (pa_N (pv 0) (zai (pC g_deeds_along hr (zai (pe_ix zcO (pv 0) zah (λ_ _=>rfl)) (pa_N (pv 1) zab))) zab))))),?_⟩;refine⟨_,rfl,_,rfl,a,_,_,_,rfl,rfl,SqT.of ha,zaG (j:=2) rfl,_,rfl,e.w,b,row,rfl,hw,hq,hlen,λp H1 hp s1 e1=>?_⟩
  have hd:(deeds e.w row).length<=3000:=by
   unfold deeds;have:=zf5 row e.w
   have:zaJ e.w row<=4:=by
    unfold zaJ;split
    .decide
    .exact BZ (Ci _ (by decide))
   simp only[Av,CL];lia
  exact⟨a,p,e,_,rfl,s1 _ _ ha,hw,e1,h8,hd,λq H2 ws hq2 s2 e2 hv=>k q H2 ws (s1.free hq2) (s1.trans s2) e2 hv⟩
noncomputable def sR(q:Cell×Bool)(v:V)(H:Hp):Prop:=∃A b,v=.ref A/\H A=some (.tup [.ref b,.bl q.2])/\H b=some (.tup (cellT q.1))
theorem sR.kt{q:Cell×Bool}{v:V}{H H':Hp}(h:sR q v H)(s:KT H H'):sR q v H':=let ⟨A,b,e,q1,q2⟩:=h;⟨A,b,e,s _ _ q1,s _ _ q2⟩
noncomputable def zmo(K:W.Frag):Sp:=λvs H Q _=>∃(a:Addr) (C:Cell->Bool) (e:Edge),vs=[.ref a,sv (stepB C e)]/\H a=some (.tup (edgeT e))/\IsE C e /\
 ∀p H' ss L,H p=none->Same H H'->H' p=some (.lst ss)->VR ss L sR H'->(∀q∈L,C q.1=q.2)->L.length<=6->Q (.ref p) H'
theorem zeq (g_edge_behind:Fn P w K mg base 2 "edge_behind" ["edge", "step"] (zed K)) (g_gap_beside:Fn P w K mg base 2 "gap_beside" ["edge"] (spGap K)) (g_is_slant:Fn P w K mg base 1 "is_slant" ["step"] zdc)
  (g_gone:Fn P w K mg base 1 "gone" ["x","y","step"] zgr) (g_slant_step:Fn P w K mg base 1 "slant_step" ["way"] zhp) (g_straight_step:Fn P w K mg base 1 "straight_step" ["way"] zdn)
  (d:Df K mg "seen_between" zbR ["edge","step"]):FnOk P w K mg base CX0 3 d.f d.fd ["edge","step"] (zmo K):=by
 refine d.F.ok zaM (λvs H Q E h=>?_) (λcdv A outer s H vs Q E hr h=>?_)
 .obtain⟨a,C,e,rfl,_⟩:=h;rfl
 .obtain⟨a,C,e,rfl,ha,hE,k⟩:=h
  refine⟨_,(zac (zbP (pv 0) (zbh (by rfl) (zae (nG 2 zaM.nd) (zae (nG 3 zaM.nd) (zae (nG 4 zaM.nd) zat)))))
   (zac (sE 5 zaM.nd (pC g_edge_behind hr (pa_N (pv 0) (pa_N (pv 1) zab))))
   (zac (sE 6 zaM.nd (zbw (pa_T (zaO (pa_T (zaO (pa_N (pv 2) (pa_N (pv 3) zab))) (pa_C pe_bl zab))) (pa_T (zaO (zai (pC g_gap_beside hr (pa_N (pv 0) zab)) (pa_C pe_bl zab))) (pa_T (zaO (zai (zcH zjS (pv 5) zdw (zdv zah)) (pa_C pe_bl zab))) (pa_T (zaO (zai (pC g_gap_beside hr (pa_N (pv 5) zab)) (pa_C pe_bl zab))) zab))))))
   (zac (ps_if (zcN (zci (pC g_is_slant hr (pa_N (pv 1) zab))))
   (zaf (zaY (pe_bm A5 Bt Bu zaT (pv 6) (pa_T (zaO (zai (pC g_gone hr (pa_N (pv 2) (pa_N (pv 3) (zai (pC g_slant_step hr (pa_N (pv 4) zab)) zab)))) (pa_C pe_bl zab))) zab))))
   zaB)
   (zac (ps_if (zax zkk (pv 1) zb0 (zau _))
   (zaf (zaY (pe_bm A5 Bt Bu zaT (pv 6) (pa_T (zaO (zai (pC g_gone hr (pa_N (pv 2) (pa_N (pv 3) (zai (pC g_straight_step hr (pa_N (pv 4) zab)) zab)))) (pa_C pe_bl zab))) zab))))
   zaB)
   (zaf (zak (pv 6)))))))),?_⟩
  have hw:=hE.1;have hN:=zdL hE;refine⟨_,rfl,a,_,rfl,SqT.of ha,rfl,_,_,rfl,_,_,rfl,_,_,rfl,rfl,?_⟩;refine⟨_,rfl,_,rfl,a,e,stepB C e,rfl,SqT.of ha,hw,zda hw,λp1 H1 hp1 s1 e1=>?_⟩;change H1 p1=some (.tup (edgeT (nxt C e))) at e1;refine⟨_,rfl,_,rfl,two,λt1 ht1=>⟨two,λt2 ht2=>?_⟩⟩;have s2:Same H1 (upd (upd H1 t1 (.tup [.int e.c.1,.int e.c.2])) t2 (.tup [.ref t1,.bl true])):=(Same.up ht1).trans (Same.up ht2);have r1:sR (e.c,true) (.ref t2) (upd (upd H1 t1 (.tup [.int e.c.1,.int e.c.2])) t2 (.tup [.ref t1,.bl true])):=⟨t2,t1,rfl,zaa,by rw[zag (λz=>by subst z;rw[zaa]at ht2;cases ht2),zaa];rfl⟩;generalize upd (upd H1 t1 (.tup [.int e.c.1,.int e.c.2])) t2 (.tup [.ref t1,.bl true])=H2 at s2 r1;refine⟨_,rfl,a,e,rfl,SqT.of ((s1.trans s2) _ _ ha),hw,λp3 H3 hp3 s3 e3=>⟨two,λt3 ht3=>?_⟩⟩;have s4:Same H3 (upd H3 t3 (.tup [.ref p3,.bl false])):=Same.up ht3;have r2:sR (gap e,false) (.ref t3) (upd H3 t3 (.tup [.ref p3,.bl false])):=⟨t3,p3,rfl,zaa,s4 _ _ e3⟩;generalize upd H3 t3 (.tup [.ref p3,.bl false])=H4 at s4 r2;have s14:=s2.trans (s3.trans s4);have e14:=s14 _ _ e1;have hs1:HT.sIx 3 3 (some 2)=2:=by decide
  refine⟨_,rfl,_,rfl,p1,_,rfl,SqT.of e14,λhx=>absurd (show (3:Nat)=2 from hx.2.symm.trans hs1) (by decide),λ_ t5 ht5=>⟨two,λt6 ht6=>?_⟩⟩;have ec:cutV (edgeT (nxt C e)) none (some 2)=cellT (nxt C e).c:=rfl;have s6:Same H4 (upd (upd H4 t5 (.tup (cutV (edgeT (nxt C e)) none (some 2)))) t6 (.tup [.ref t5,.bl true])):=(Same.up ht5).trans (Same.up ht6);have r3:sR ((nxt C e).c,true) (.ref t6) (upd (upd H4 t5 (.tup (cutV (edgeT (nxt C e)) none (some 2)))) t6 (.tup [.ref t5,.bl true])):=⟨t6,t5,rfl,zaa,by rw[zag (λz=>by subst z;rw[zaa]at ht6;cases ht6),zaa,ec]⟩;generalize upd (upd H4 t5 (.tup (cutV (edgeT (nxt C e)) none (some 2)))) t6 (.tup [.ref t5,.bl true])=H6 at s6 r3;refine⟨_,rfl,p1,nxt C e,rfl,SqT.of (s6 _ _ e14),hN.1,λp7 H7 hp7 s7 e7=>⟨two,λt7 ht7=>?_⟩⟩;have s8:Same H7 (upd H7 t7 (.tup [.ref p7,.bl false])):=Same.up ht7;have r4:sR (gap (nxt C e),false) (.ref t7) (upd H7 t7 (.tup [.ref p7,.bl false])):=⟨t7,p7,rfl,zaa,s8 _ _ e7⟩;generalize upd H7 t7 (.tup [.ref p7,.bl false])=H8 at s8 r4;refine⟨(by show 4<=sizeLine;decide),λl hl=>?_⟩;have s48:=s6.trans (s7.trans s8);have s28:=s3.trans (s4.trans s48);have s08:=s1.trans (s2.trans s28);have kl:KT H8 (upd H8 l (.lst [.ref t2,.ref t3,.ref t6,.ref t7])):=KT.up hl;have sl:Same H (upd H8 l (.lst [.ref t2,.ref t3,.ref t6,.ref t7])):=s08.trans (Same.up hl);have el:upd H8 l (.lst [.ref t2,.ref t3,.ref t6,.ref t7]) l=some (.lst [.ref t2,.ref t3,.ref t6,.ref t7]):=zaa;have hl0:H l=none:=s08.free hl
  have hv:VR [.ref t2,.ref t3,.ref t6,.ref t7] [(e.c,true),(gap e,false),((nxt C e).c,true),(gap (nxt C e),false)] sR (upd H8 l (.lst [.ref t2,.ref t3,.ref t6,.ref t7])) :=
   VR.cons.mpr ⟨(r1.kt (KT.of s28)).kt kl,VR.cons.mpr ⟨(r2.kt (KT.of s48)).kt kl,VR.cons.mpr ⟨(r3.kt (KT.of (s7.trans s8))).kt kl,VR.cons.mpr ⟨r4.kt kl,VR.nil⟩⟩⟩⟩
  generalize upd H8 l (.lst [.ref t2,.ref t3,.ref t6,.ref t7])=H9 at kl sl el hv
  have hL:∀q∈[(e.c,true),(gap e,false),((nxt C e).c,true),(gap (nxt C e),false)],C q.1=q.2:=by
   intro q hq;simp only[Ax,Di,or_false]at hq;rcases hq with rfl |rfl |rfl |rfl
   .exact hE.2.1
   .exact hE.2.2
   .exact hN.2.1
   .exact hN.2.2
  rcases zaP hE with⟨c1,hs,_⟩ |⟨c1,c2,hs,_⟩ |⟨c1,c2,hs,_⟩ <;> rw[hs]
  .refine⟨_,rfl,some ((2*e.w+7) % 8),rfl,_,rfl,?_⟩;have:slant (some ((2*e.w+7) % 8))=true:=by show ((2*e.w+7) % 8 % 2 == 1)=true;rw[odd7];rfl
   rw[this];refine iteF ?_
   refine⟨_,rfl,rfl,_,rfl,iteF ?_⟩;exact⟨_,rfl,k l H9 _ _ hl0 sl el hv hL (by show 4<=6;decide)⟩
  .refine⟨_,rfl,some (2*e.w),rfl,_,rfl,?_⟩;have:slant (some (2*e.w))=false:=by show ((2*e.w) % 2 == 1)=false;rw[show 2*e.w % 2=0 by lia];rfl
   rw[this];refine iteT ?_
   refine⟨_,rfl,.inl ⟨rfl,_,SqL.of el⟩,_,rfl,_,rfl,_,rfl,e.w,rfl,hw,e.c,(2*e.w+7) % 8,rfl,Ci _ (by decide),λp10 H10 hp10 s10 e10=>⟨two,λt11 ht11=>?_⟩⟩;have s11:Same H10 (upd H10 t11 (.tup [.ref p10,.bl false])):=Same.up ht11;have r5:sR (go e.c ((2*e.w+7) % 8),false) (.ref t11) (upd H10 t11 (.tup [.ref p10,.bl false])):=⟨t11,p10,rfl,zaa,s11 _ _ e10⟩;generalize upd H10 t11 (.tup [.ref p10,.bl false])=H11 at s11 r5;have el11:=(s10.trans s11) _ _ el;refine⟨l,_,_,rfl,rfl,el11,zbd (by show 4<=5000;decide),?_⟩;have kt12:KT H11 (upd H11 l (.lst ([.ref t2,.ref t3,.ref t6,.ref t7]++[.ref t11]))):=KT.lst el11;have s12:Same H (upd H11 l (.lst ([.ref t2,.ref t3,.ref t6,.ref t7]++[.ref t11]))):=zal hl0 (sl.trans (s10.trans s11));have e12:upd H11 l (.lst ([.ref t2,.ref t3,.ref t6,.ref t7]++[.ref t11])) l=some (.lst ([.ref t2,.ref t3,.ref t6,.ref t7]++[.ref t11])):=zaa;have hv12:=hv.snoc (λx v h=>(h.kt (KT.of (s10.trans s11))).kt kt12) (r5.kt kt12);generalize upd H11 l (.lst ([.ref t2,.ref t3,.ref t6,.ref t7]++[.ref t11]))=H12 at kt12 s12 e12 hv12;refine⟨_,rfl,rfl,_,rfl,iteF ?_⟩;refine⟨_,rfl,k l H12 _ _ hl0 s12 e12 hv12 (λq hq=>?_) (by show 5<=6;decide)⟩;rcases AC.mp hq with m |m
   .exact hL q m
   .rw[Am.mp m];exact c1
  .refine⟨_,rfl,none,rfl,_,rfl,iteT ?_⟩;refine⟨_,rfl,.inl ⟨rfl,_,SqL.of el⟩,_,rfl,_,rfl,_,rfl,e.w,rfl,hw,e.c,(2*e.w+7) % 8,rfl,Ci _ (by decide),λp10 H10 hp10 s10 e10=>⟨two,λt11 ht11=>?_⟩⟩;have s11:Same H10 (upd H10 t11 (.tup [.ref p10,.bl false])):=Same.up ht11;have r5:sR (go e.c ((2*e.w+7) % 8),false) (.ref t11) (upd H10 t11 (.tup [.ref p10,.bl false])):=⟨t11,p10,rfl,zaa,s11 _ _ e10⟩;generalize upd H10 t11 (.tup [.ref p10,.bl false])=H11 at s11 r5;have el11:=(s10.trans s11) _ _ el;refine⟨l,_,_,rfl,rfl,el11,zbd (by show 4<=5000;decide),?_⟩;have kt12:KT H11 (upd H11 l (.lst ([.ref t2,.ref t3,.ref t6,.ref t7]++[.ref t11]))):=KT.lst el11;have s12:Same H (upd H11 l (.lst ([.ref t2,.ref t3,.ref t6,.ref t7]++[.ref t11]))):=zal hl0 (sl.trans (s10.trans s11));have e12:upd H11 l (.lst ([.ref t2,.ref t3,.ref t6,.ref t7]++[.ref t11])) l=some (.lst ([.ref t2,.ref t3,.ref t6,.ref t7]++[.ref t11])):=zaa;have hv12:=hv.snoc (λx v h=>(h.kt (KT.of (s10.trans s11))).kt kt12) (r5.kt kt12);generalize upd H11 l (.lst ([.ref t2,.ref t3,.ref t6,.ref t7]++[.ref t11]))=H12 at kt12 s12 e12 hv12;refine⟨_,rfl,rfl,_,rfl,iteT ?_⟩;refine⟨_,rfl,.inl ⟨rfl,_,SqL.of e12⟩,_,rfl,_,rfl,_,rfl,e.w,rfl,hw,e.c,2*e.w,rfl,by lia,λp13 H13 hp13 s13 e13=>⟨two,λt14 ht14=>?_⟩⟩;have s14':Same H13 (upd H13 t14 (.tup [.ref p13,.bl false])):=Same.up ht14;have r6:sR (go e.c (2*e.w),false) (.ref t14) (upd H13 t14 (.tup [.ref p13,.bl false])):=⟨t14,p13,rfl,zaa,s14' _ _ e13⟩;generalize upd H13 t14 (.tup [.ref p13,.bl false])=H14 at s14' r6;have e14':=(s13.trans s14') _ _ e12;refine⟨l,_,_,rfl,rfl,e14',zbd (by show 5<=5000;decide),?_⟩;have kt15:KT H14 (upd H14 l (.lst (([.ref t2,.ref t3,.ref t6,.ref t7]++[.ref t11])++[.ref t14]))):=KT.lst e14';have s15:Same H (upd H14 l (.lst (([.ref t2,.ref t3,.ref t6,.ref t7]++[.ref t11])++[.ref t14]))):=zal hl0 (s12.trans (s13.trans s14'));have e15:upd H14 l (.lst (([.ref t2,.ref t3,.ref t6,.ref t7]++[.ref t11])++[.ref t14])) l=some (.lst (([.ref t2,.ref t3,.ref t6,.ref t7]++[.ref t11])++[.ref t14])):=zaa;have hv15:=hv12.snoc (λx v h=>(h.kt (KT.of (s13.trans s14'))).kt kt15) (r6.kt kt15);refine⟨_,rfl,k l _ _ _ hl0 s15 e15 hv15 (λq hq=>?_) (by show 6<=6;decide)⟩;rcases AC.mp hq with m |m
   .rcases AC.mp m with m |m
    .exact hL q m
    .rw[Am.mp m];exact c1
   .rw[Am.mp m];exact c2
noncomputable def Known(C:Cell->Bool)(kvs:List (List Key×V)):Prop:=∀c v,valV kvs (kC c)=some v->v=.bl (C c)
noncomputable def ze7(K:W.Frag):Sp:=λvs H Q _=>∃(a:Addr) (C:Cell->Bool) (es:List Edge),vs=[.ref a]/\LR K H a (wk C es) wR/\(∀e∈es,IsE C e)/\es.length<=500/\∀H',Same H H'->Q .non H'
theorem zeO (g_seen_between:Fn P w K mg base 3 "seen_between" ["edge","step"] (zmo K)) (d:Df K mg "gainsaid_at" zb7 ["walk"]):FnOk P w K mg base CX0 4 d.f d.fd ["walk"] (ze7 K):=by
 refine d.F.ok zaC (λvs H Q E h=>?_) (λcdv A outer s H vs Q E hr h=>?_)
 .obtain⟨a,C,es,rfl,_⟩:=h;rfl
 .obtain⟨a,C,es,rfl,hLR,hE,hlen,k⟩:=h;have hu1:=hu_of hr
  refine⟨_,(zac (sE 1 zaC.nd zd3)
   (zac (sE 2 zaC.nd zah)
   (zac (zbm Bf rfl (zaz (pv 0)) (zbh (by rfl) (zae (nG 3 zaC.nd) (zae (nG 4 zaC.nd) zat)))
   (zac (zbm Bf rfl (zaz (pC g_seen_between hr (pa_N (pv 3) (pa_N (pv 4) zab)))) (zbh (by rfl) (zae (nG 5 zaC.nd) (zae (nG 6 zaC.nd) zat)))
   (zaf (ps_if (zax op_ne (zlG hu1 (pv 1) (pv 5) (pv 6) ⟨rfl,rfl,rfl,rfl⟩) (pv 6) (zau _))
   (zaf (zak (pv 2)))
   zaB)))
   (zaf (ps_if (zax zep (pv 4) zb0 (zau _))
   (zaf (zn0 (i:=2) zaC.nd (by rfl) (Or.inl rfl) zah zoi))
   zaB))))
   (zaf (zak zb0))))),?_⟩
  obtain⟨ws,hq,hv⟩:=hLR.vr;have hwl:ws.length=es.length:=by rw[hv.1,zbu]
  refine λdd hdd=>?_
  have s0:Same H (upd H dd (.dT [])):=Same.up hdd;have d0:upd H dd (.dT []) dd=some (.dT []):=zaa;generalize upd H dd (.dT [])=H0 at s0 d0;refine⟨_,rfl,a,rfl,⟨_,s0.seq hq⟩,?_⟩
  refine zao (K:=K) (a:=a) (xs:=ws) (λi σ H1=>∃(n:Int) (o3 o4 o5 o6:Option V) (kvs:List (List Key×V)),σ=[some (.ref a),some (.ref dd),some (.int n),o3,o4,o5,o6]/\Same H H1/\H1 dd=some (.dT kvs)/\Known C kvs/\kvs.length<=6*i)
   ⟨_,_,_,_,_,[],rfl,s0,d0,(λc v h=>by cases h),Bd _⟩ (λi σ H1 _ ⟨_,_,_,_,_,_,_,s1,_⟩=>s1.seq hq) ?_ ?_
  .rintro i v σ H1 hi ⟨n,o3,o4,o5,o6,kvs,rfl,s1,d1,hk,hkl⟩;obtain⟨⟨e,st⟩,he,B,b,rfl,q1,q2⟩:=hv.at hi;have hi':i<es.length:=by rw[<- hwl];exact (Ad.mp hi).1
   have he':es[i]?=some e/\st=stepB C e:=by
    unfold wk at he;rw[AA]at he;obtain⟨g,hg,eg⟩:=A4.mp he
    cases eg
    exact⟨hg,rfl⟩
   obtain⟨he1,rfl⟩:=he';have hEe:=hE e (Aj he1);refine⟨B,_,rfl,SqT.of (s1 _ _ q1),rfl,_,_,rfl,_,_,rfl,rfl,?_⟩;refine⟨_,rfl,_,rfl,b,C,e,rfl,s1 _ _ q2,hEe,λp H2 ss L hp s2 e2 hs2 hL hLl=>?_⟩;have hpd:p≠dd:=λz=>by subst z;rw[d1]at hp;cases hp
   have d2:=s2 _ _ d1;refine⟨p,rfl,⟨_,SqL.of e2⟩,?_⟩
   refine zao (K:=K) (a:=p) (xs:=ss) (λj σ H3=>∃(o5 o6:Option V) (kv3:List (List Key×V)),σ=[some (.ref a),some (.ref dd),some (.int n),some (.ref b),some (sv (stepB C e)),o5,o6]/\(∀z o,z≠dd->H2 z=some o->H3 z=some o)/\H3 dd=some (.dT kv3)/\Known C kv3/\kv3.length<=6*i+j)
    ⟨_,_,kvs,rfl,(λz o _ h=>h),d2,hk,by lia⟩ (λj σ H3 _ ⟨_,_,_,_,k3,_⟩=>SqL.of (k3 _ _ hpd e2)) ?_ ?_
   .rintro j u σ H3 hj ⟨o5,o6,kv3,rfl,k3,d3,hk3,hl3⟩;obtain⟨⟨c,t⟩,hq',A2,b2,rfl,r1,r2⟩:=hs2.at hj;have hjl:j<L.length:=by rw[<- hs2.1];exact (Ad.mp hj).1
    have hct:C c=t:=hL _ (Aj hq');have nA:A2≠dd:=ne_of r1 d2 (λz=>nomatch z);have nb:b2≠dd:=ne_of r2 d2 (λz=>nomatch z);refine⟨A2,_,rfl,SqT.of (k3 _ _ nA r1),rfl,_,_,rfl,_,_,rfl,rfl,?_⟩;refine⟨_,rfl,dd,rfl,.inr ⟨_,Rd.of d3⟩,_,rfl,_,rfl,kv3,kC c,b2,d3,rfl,k3 _ _ nb r2,zbd (by lia),λv hv'=>?_,λhn=>?_⟩
    .have hv2:v=.bl t:=by rw[hk3 c v hv',hct]
     subst hv2;refine⟨_,rfl,rfl,_,rfl,iteN (by simp) ?_⟩;exact⟨_,_,kv3,rfl,k3,d3,hk3,by lia⟩
    .refine⟨_,rfl,rfl,_,rfl,iteN (by simp) ?_⟩;refine⟨_,_,putK kv3 (kC c) (.bl t),rfl,(λz o hz h=>by rw[zag hz];exact k3 z o hz h),zaa,(λc' v' hv'=>?_),A3 (zaK _ _ _) (by lia)⟩;rw[zcC]at hv'
     by_cases ec:c'=c
     .subst ec;rw[if_pos rfl]at hv'
      cases hv'
      rw[hct]
     .rw[if_neg (λz=>ec (zgS.mp z))]at hv';exact hk3 c' v' hv'
   .rintro σ H3 ⟨o5,o6,kv3,rfl,k3,d3,hk3,hl3⟩;have s3:Same H H3:=λz o h=>k3 z o (zam h hdd) (s2 _ _ (s1 _ _ h))
    have hl4:kv3.length<=6*(i+1):=by have:=hs2.1;lia
    cases hst:stepB C e with
    |none =>
     refine⟨_,rfl,rfl,_,rfl,iteF ?_⟩;exact⟨_,_,_,_,_,kv3,rfl,s3,d3,hk3,hl4⟩
    |some z =>
     refine⟨_,rfl,rfl,_,rfl,iteT ?_⟩;refine⟨_,rfl,_,_,rfl,rfl,?_⟩;exact⟨_,_,_,_,_,kv3,rfl,s3,d3,hk3,hl4⟩
  .rintro σ H1 ⟨n,o3,o4,o5,o6,kvs,rfl,s1,d1,hk,hkl⟩;exact k H1 s1
theorem zmd{α:Type}{xs:List α}(h:0<xs.length):atI xs (-1)=xs[xs.length-1]?:=by unfold atI ixN;rw[if_neg (by decide),if_pos (by lia)];show xs[((-1:Int)+xs.length).toNat]?=_;rw[show ((-1:Int)+xs.length).toNat=xs.length-1 by lia]
noncomputable def zjO(K:W.Frag):Sp:=λvs H Q _=>∃(a:Addr) (C:Cell->Bool) (b:Edge) (es:List Edge),vs=[.ref a]/\LR K H a (wk C es) wR/\Closed C b es/\es.length<=500/\∀H',Same H H'->Q (.bl true) H'
theorem zfO (g_edge_behind:Fn P w K mg base 2 "edge_behind" ["edge","step"] (zed K)) (d:Df K mg "comes_back" zcu ["walk"]):FnOk P w K mg base CX0 3 d.f d.fd ["walk"] (zjO K):=by
 refine d.F.ok zb4 (λvs H Q E h=>?_) (λcdv A outer s H vs Q E hr h=>?_)
 .obtain⟨a,C,b,es,rfl,_⟩:=h;rfl
 .obtain⟨a,C,b,es,rfl,hLR,hcl,hlen,k⟩:=h;have hu64:=hr.units
  refine⟨_,(zac (zbP (pe_ix zbX (pv 0) (pe_un zmh zah) (λ_ _=>rfl)) (zbh (by rfl) (zae (nG 1 zb4.nd) (zae (nG 2 zb4.nd) zat))))
   (zaf (zak (zbH (zgG hu64) (pC g_edge_behind hr (pa_N (pv 1) (pa_N (pv 2) zab))) (pe_ix zcO (pe_ix zbX (pv 0) zah (λ_ _=>rfl)) zah (λ_ _=>rfl)) (zau _))))),?_⟩
  obtain⟨ws,hq,hv⟩:=hLR.vr;have hwl:ws.length=es.length:=by rw[hv.1,zbu]
  have hp:=hcl.pos;obtain⟨hch,l,hl,hb⟩:=id hcl;obtain⟨v1,hv1⟩:∃v,ws[ws.length-1]?=some v:=⟨_,Ab (by lia)⟩;obtain⟨⟨e1,st1⟩,he1,B1,b1,rfl,q1,q2⟩:=hv.at hv1;obtain⟨v0,hv0⟩:∃v,ws[0]?=some v:=⟨_,Ab (by lia)⟩;obtain⟨⟨e0,st0⟩,he0,B0,b0,rfl,r1,r2⟩:=hv.at hv0
  have h1:e1=l/\st1=stepB C l:=by
   unfold wk at he1;rw[hwl,AA,hl]at he1
   cases he1;exact⟨rfl,rfl⟩
  obtain⟨rfl,rfl⟩:=h1
  have h0:e0=b:=by
   unfold wk at he0;rw[AA,hch.1]at he0
   cases he0;rfl
  subst h0;have hEl:IsE C e1:=hch.2.2.1 e1 (Aj hl);refine⟨_,rfl,_,rfl,a,ws,_,_,rfl,rfl,hq,(zmd (by lia)).trans hv1,?_⟩;refine⟨B1,_,rfl,SqT.of q1,rfl,_,_,rfl,_,_,rfl,rfl,?_⟩;refine⟨_,rfl,_,rfl,b1,e1,stepB C e1,rfl,SqT.of q2,hEl.1,zda hEl.1,λp H1 hp1 s1 f1=>?_⟩;refine⟨_,rfl,a,ws,_,_,rfl,rfl,s1.seq hq,(zaG (j:=0) hv0),B0,_,_,_,rfl,rfl,SqT.of (s1 _ _ r1),zaG (j:=0) rfl,?_⟩;refine⟨_,_,zcx f1,zcx (s1 _ _ r2),zaZ _,zaZ _,?_⟩;rw[zeA,decide_eq_true (by show eI (nxt C e1)=eI e0;rw[hb])];exact k H1 s1
theorem nL_wk(C:Cell->Bool)(es:List Edge):nL (wk C es)=(es.filter λe=>(stepB C e).isNone).length:=by unfold nL wk;rw[List.filter_map,Ah];rfl
theorem nS_wk(C:Cell->Bool)(es:List Edge):nS (wk C es)=(es.filter λe=>slant (stepB C e)).length:=by unfold nS wk;rw[List.filter_map,Ah];rfl
theorem zjx{C:Cell->Bool}{b:Edge}{es:List Edge}(h:Closed C b es):(nL (wk C es):Int)-nS (wk C es)=4∨(nL (wk C es):Int)-nS (wk C es)=-4:=by rw[nL_wk,nS_wk,<- zfp];exact h.turning
noncomputable def ze6(K:W.Frag):Sp:=λvs H Q _=>∃(a:Addr) (C:Cell->Bool) (b:Edge) (es:List Edge),vs=[.ref a,.str (sortS (wk C es))]/\LR K H a (wk C es) wR/\Closed C b es/\es.length<=500/\∀H',Same H H'->Q (.bl true) H'
theorem zgJ (T:Txt P w K mg) (g_comes_back:Fn P w K mg base 3 "comes_back" ["walk"] (zjO K)) (g_lefts_less_slants:Fn P w K mg base 3 "lefts_less_slants" ["walk"] (zjJ K)) (d:Df K mg "is_closed" zcV ["walk","sort"]):FnOk P w K mg base CX0 4 d.f d.fd ["walk","sort"] (ze6 K):=by
 refine d.F.ok zgx (λvs H Q E h=>?_) (λcdv A outer s H vs Q E hr h=>?_)
 .obtain⟨a,C,b,es,rfl,_⟩:=h;rfl
 .obtain⟨a,C,b,es,rfl,hLR,hcl,hlen,k⟩:=h;refine⟨_,(zaf (zak (zcj (pC g_comes_back hr (pa_N (pv 0) zab)) (zdg (zbH op_eq (pC g_lefts_less_slants hr (pa_N (pv 0) zab)) (zn2 (by rfl) T.more (pv 1)) (zau _)))))),?_⟩;refine⟨_,rfl,a,C,b,es,rfl,hLR,hcl,hlen,λH1 s1=>⟨_,rfl,iteT ?_⟩⟩;refine⟨_,rfl,a,wk C es,rfl,hLR.same s1 (λx v h=>h.same s1),by rw[zbu];exact hlen,λH2 s2=>⟨_,rfl,?_⟩⟩;rcases zjx hcl with t |t
  .refine .inl ⟨?_,rfl,?_⟩
   .unfold sortS;rw[if_pos (by lia)]
   .rw[t,decide_eq_true rfl];exact k H2 (s1.trans s2)
  .refine .inr ⟨?_,rfl,?_⟩
   .unfold sortS;rw[if_neg (by lia)]
   .rw[t,decide_eq_true rfl];exact k H2 (s1.trans s2)
theorem IsRnd.walk{C:Cell -> Bool}{b:Edge}{es:List Edge}{r:Rnd}(h:Closed C b es)(k:IsRnd (wk C es) r) :
  ∃es',Closed C (begE r) es'/\es'.Perm es/\r.row=(es'.map (stepB C)).filterMap id/\zcg (wk C es') r.so (begE r)/\r.so=sortS (wk C es')/\IsRnd (wk C es') r:=by
 obtain⟨r0,j,f,rf,⟨rb,rw',rl⟩,rx,ry,rr⟩:=id k;rw[zdG]at rf rb rl
 have ef:begE r=f:=by obtain⟨⟨x,y⟩,w⟩:=f;unfold begE;rw[rx,ry,r0];simp only at rw' ⊢;rw[rw']
 have h1:=h.rot j rf;have pm:=zfF es j;have ss:=ze8 (C:=C) pm
 have hrow:r.row=((es.drop j++es.take j).map (stepB C)).filterMap id:=by rw[rr];unfold wk;rw[<- D8,<- D9,<- Ay,DW,DW];rfl
 have hb:zcg (wk C (es.drop j++es.take j)) r.so f:=⟨by rw[zdG];exact pm.mem_iff.mpr rb,by rw[rw',r0],λg hg hw=>by rw[zdG]at hg;exact rl g (pm.mem_iff.mp hg) (by rw[hw,r0])⟩
 rw[ef];refine⟨_,h1,pm,hrow,hb,by rw[r0,ss],by rw[r0,ss],0,f,by rw[zdG];exact h1.1.1,by rw[ss,<- r0];exact hb,rx,ry,?_⟩;rw[hrow,List.drop_zero,List.take_zero,BJ];unfold wk;rw[DW,DW];rfl
noncomputable def zdY(K:W.Frag):Sp:=λvs H Q _=>∃(v:V) (r:Rnd) (C:Cell->Bool) (es:List Edge),vs=[v]/\rR r v H/\Closed C (begE r) es/\r.row=(es.map (stepB C)).filterMap id/\zcg (wk C es) r.so (begE r)/\r.so=sortS (wk C es)/\es.length<=500 /\
 ∀p H' ws,H p=none->Same H H'->H' p=some (.lst ws)->VR ws (wk C es) wR H'->Q (.ref p) H'
theorem ziY (g_begin_edge:Fn P w K mg base 1 "begin_edge" ["one"] zgu) (g_walk_along:Fn P w K mg base 4 "walk_along" ["begin", "row"] (zec K)) (g_gainsaid_at:Fn P w K mg base 4 "gainsaid_at" ["walk"] (ze7 K))
  (g_is_closed:Fn P w K mg base 4 "is_closed" ["walk","sort"] (ze6 K)) (g_begin_of:Fn P w K mg base 3 "begin_of" ["walk","sort"] (zhq K)) (d:Df K mg "walk_of" zeh ["one"]):FnOk P w K mg base CX0 5 d.f d.fd ["one"] (zdY K):=by
 refine d.F.ok zbf (λvs H Q E h=>?_) (λcdv A outer s H vs Q E hr h=>?_)
 .obtain⟨v,r,C,es,rfl,_⟩:=h;rfl
 .obtain⟨v,r,C,es,rfl,hv,hcl,hrow,hbg,hso,hlen,k⟩:=h;have hu64:=hr.units
  refine⟨_,(zac (zbP (pv 0) (zbh (by rfl) (zae (nG 1 zbf.nd) (zae (nG 2 zbf.nd) (zae (nG 3 zbf.nd) (zae (nG 4 zbf.nd) zat))))))
   (zac (sE 5 zbf.nd (pC g_begin_edge hr (pa_N (pv 0) zab)))
   (zac (sE 6 zbf.nd (pC g_walk_along hr (pa_N (pv 5) (pa_N (pv 4) zab))))
   (zac (sE 7 zbf.nd (pC g_gainsaid_at hr (pa_N (pv 6) zab)))
   (zac (ps_if (zax zep (pv 7) zb0 (zau _))
   (zaf zd2)
   zaB)
   (zac (ps_if (pw_or (zcN (zci (pC g_is_closed hr (pa_N (pv 6) (pa_N (pv 1) zab))))) (zem (zax (zkj hu64) (pC g_begin_of hr (pa_N (pv 6) (pa_N (pv 1) zab))) (pv 5) (zau _)))).pt
   (zaf zd2)
   zaB)
   (zaf (zak (pv 6))))))))),?_⟩
  obtain⟨a,b,rfl,q1,q2⟩:=id hv;have hE:IsE C (begE r):=hcl.1.2.2.1 _ (Aj hcl.1.1);have so2:r.so = "rim" ∨ r.so = "hole":=by rw[hso];exact zdd _
  have hrl:r.row.length<=500:=by rw[hrow];exact A3 (EE _ _) (by rw[Ah];exact hlen)
  have hdd:deeds (begE r).w r.row=es.map (stepB C):=by rw[hrow];exact hcl.deeds.symm
  refine⟨_,rfl,a,_,rfl,SqT.of q1,rfl,_,_,rfl,_,_,rfl,_,_,rfl,_,_,rfl,rfl,?_⟩;refine⟨_,rfl,.ref a,r,rfl,hv,so2,λp1 H1 hp1 s1 e1=>?_⟩;refine⟨_,rfl,_,rfl,p1,b,begE r,r.row,rfl,e1,hE.1,SqT.of (s1 _ _ q2),hrl,(λz hz=>?_),λp H2 ws hp s2 e2 hw=>?_⟩
  .rw[hdd]at hz;obtain⟨e,he,ez⟩:=AE.mp hz;exact zda (hcl.1.2.2.1 e he).1 z ez
  rw[hdd,zgi es (.inl hcl.1.1) hcl.1.2.1]at hw;have lr:LR K H2 p (wk C es) wR:=LR.of e2 hw;refine⟨_,rfl,p,C,es,rfl,lr,hcl.1.2.2.1,hlen,λH3 s3=>?_⟩;refine⟨_,rfl,rfl,_,rfl,iteF ?_⟩;have lr3:=lr.same s3 (λx v h=>h.same s3);refine⟨_,rfl,_,rfl,p,C,begE r,es,(by rw[<- hso];rfl),lr3,hcl,hlen,λH4 s4=>⟨_,rfl,iteF ?_⟩⟩;have lr4:=lr3.same s4 (λx v h=>h.same s4);refine⟨_,rfl,_,rfl,p,wk C es,r.so,rfl,so2,lr4,by rw[zbu];exact hlen,⟨begE r,hbg.1,hbg.2.1⟩,λb5 e5 H5 s5 f5 ib=>?_⟩;have ee:e5=begE r:=ib.one (List.Perm.refl _) hbg;subst ee;have s25:=s3.trans (s4.trans s5);refine⟨_,rfl,_,_,zcx f5,zcx ((s2.trans s25) _ _ e1),zaZ _,zaZ _,_,rfl,iteN (by rw[zeA,decide_eq_true rfl];rfl) ?_⟩;refine⟨_,rfl,k p H5 ws (s1.free hp) (s1.trans (s2.trans s25)) (s25 _ _ e2) (hw.mono λx v h=>h.same s25)⟩
noncomputable def rowI(row:List Nat):List Int:=row.map λn:Nat=>(n:Int)
noncomputable def dR(r:Rnd):PyData:=.tuple [.str r.so,.int r.x,.int r.y,tI (rowI r.row)]
theorem znX(row:List Nat):rowV row=(rowI row).map V.int:=by unfold rowV rowI;rw[List.map_map];rfl
theorem zlw{a b:List Nat}(h:rowI a=rowI b):a=b:=by unfold rowI at h;exact List.map_inj_right (f:=λn:Nat=>(n:Int)) (λx y e=>by lia) |>.mp h
theorem zic{K:W.Frag}{H:Hp}{r:Rnd}{v:V}(h:rR r v H):RD K H v (dR r):=by obtain⟨a,b,rfl,q1,q2⟩:=h;refine .tup (SqT.of q1) (.cons (.str _) (.cons (.int _) (.cons (.int _) (.cons (.tup (SqT.of q2) ?_) .nil))));rw[znX];exact RDs.ints _
theorem zok(r q:Rnd):C6 (dR r) (dR q)=decide (r=q):=by
 show ((r.so == q.so) && ((r.x == q.x) && ((r.y == q.y) && (C6 (tI (rowI r.row)) (tI (rowI q.row)) && true))))=_;rw[zeA,Bool.and_true];obtain⟨a,b,c,d⟩:=r;obtain⟨a',b',c',d'⟩:=q;simp only
 by_cases h1:a=a'
 .by_cases h2:b=b'
  .by_cases h3:c=c'
   .by_cases h4:d=d'
    .subst h1 h2 h3 h4;simp
    .have:¬ rowI d=rowI d':=λz=>h4 (zlw z)
     simp[h4,this]
   .simp[h3]
  .simp[h2]
 .have:(a == a')=false:=by rw[beq_eq_false_iff_ne];exact h1
  rw[this];simp[h1]
noncomputable abbrev SoOk (r:Rnd):Prop:=r.so = "rim" ∨ r.so = "hole"
theorem zk6{r:Rnd}(h:SoOk r):PyData.canLay0 (dR r)=true:=by have:=zaZ (rowI r.row);unfold Cd at this;rw[B6]at this;show (PyData.strOk r.so && (true && (true && (PyData.canLay0 (tI (rowI r.row)) && true))))=true;rw[this.1];rcases h with h |h <;> rw[h] <;> decide +kernel
theorem ziC(ns:List Int):Dy (tI ns)=1:=by unfold tI;rw[Dy,zce]
theorem zma(r:Rnd):Dy (dR r)=2:=by show Dy (.tuple [.str r.so,.int r.x,.int r.y,tI (rowI r.row)])=2;rw[Dy];show max 0 (max 0 (max 0 (max (Dy (tI (rowI r.row))) 0)))+1=2;rw[ziC];rfl
theorem zgw{r:Rnd}(h:SoOk r):Cd (dR r)=true:=by unfold Cd;rw[zk6 h,zma];rfl
theorem Whole.so{cs:List Cell}{R:List Rnd}(h:Whole cs R):∀r∈R,SoOk r:=λr hr=>let ⟨_,hP,_⟩:=h;hP.so hr
theorem Whole.few{cs:List Cell}{R:List Rnd}(h:Whole cs R):R.length<=cs.length:=let ⟨_,hP,_⟩:=h;hP.few
structure Can (C:Cell->Bool) (es:List Edge) (r:Rnd):Prop where
 cl:Closed C (begE r) es
 row:r.row=(es.map (stepB C)).filterMap id
 bg:zcg (wk C es) r.so (begE r)
 so:r.so=sortS (wk C es)
inductive Al {α β:Type} (P:α->β->Prop):List α->List β->Prop where
 |nil:Al P [] []
 |cons {a:α} {b:β} {l:List α} {m:List β}:P a b->Al P l m->Al P (a::l) (b::m)
theorem Al.of{α β:Type}{P:α->β->Prop}:∀{l:List α}{m:List β},l.length=m.length->(∀(i:Nat) a b,m[i]?=some b->l[i]?=some a->P a b)->Al P l m
 |[],[],_,_=>.nil
 |[],_::_,h,_=>by cases h
 |_::_,[],h,_=>by cases h
 |a::l,b::m,h,q=>.cons (q 0 a b rfl rfl) (Al.of (by simpa using h) λi x y h1 h2=>q (i+1) x y (by simpa using h1) (by simpa using h2))
theorem Al.length{α β:Type}{P:α->β->Prop}{l:List α}{m:List β}(h:Al P l m):l.length=m.length:=by
 induction h with
 |nil=>rfl
 |cons _ _ ih=>simp[ih]
theorem Al.at{α β:Type}{P:α->β->Prop}{l:List α}{m:List β}(h:Al P l m):∀{i:Nat}{a:α}{b:β},m[i]?=some b->l[i]?=some a->P a b:=by
 induction h with
 |nil=>intro i a b h1;simp at h1
 |cons p _ ih =>
  intro i a b h1 h2
  cases i with
  |zero=>simp at h1 h2;subst h1 h2;exact p
  |succ i=>exact ih (by simpa using h1) (by simpa using h2)
theorem Al.perm{α β:Type}{P:α->β->Prop}{l' l:List α}(p:l'.Perm l):∀{m:List β},Al P l m->∃m',m'.Perm m/\Al P l' m':=by
 induction p with
 |nil=>intro m h;exact⟨m,.refl _,h⟩
 |cons a _ ih =>
  intro m h
  cases h with
  |cons p t =>
   obtain⟨m',q,r⟩:=ih t;exact⟨_::m',q.cons _,.cons p r⟩
 |swap a b l =>
  intro m h
  cases h with
  |cons p t =>
   cases t with
   |cons p2 t2=>exact⟨_::_::_,.swap _ _ _,.cons p2 (.cons p t2)⟩
 |trans _ _ ih1 ih2 =>
  intro m h;obtain⟨m1,q1,r1⟩:=ih2 h;obtain⟨m2,q2,r2⟩:=ih1 r1;exact⟨m2,q2.trans q1,r2⟩
theorem Al.bind{α γ:Type}{P Q:α->List γ->Prop}(f:∀a b,P a b->∃c,Q a c/\c.Perm b){l:List α}{m:List (List γ)}(h:Al P l m):∃m',Al Q l m'/\m'.flatten.Perm m.flatten:=by
 induction h with
 |nil=>exact⟨[],.nil,.refl _⟩
 |cons p _ ih =>
  obtain⟨c,q1,q2⟩:=f _ _ p;obtain⟨m',r1,r2⟩:=ih;exact⟨c::m',.cons q1 r1,by rw[Br,Br];exact q2.append r2⟩
theorem zgW{γ:Type}{a b:List (List γ)}(p:a.Perm b):a.flatten.Perm b.flatten:=by
 induction p with
 |nil=>exact .refl _
 |cons x _ ih=>rw[Br,Br];exact ih.append_left _
 |swap x y l =>
  simp only[Br];rw[<- AN,<- AN];exact List.perm_append_comm.append_right _
 |trans _ _ i1 i2=>exact i1.trans i2
structure Cans (C:Cell->Bool) (ESS:List (List Edge)) (R:List Rnd):Prop where
 al:Al (λr es=>Can C es r) R ESS
 nd:ESS.flatten.Nodup
 all:∀e,e∈ESS.flatten ↔ IsE C e
theorem Whole.cans{cs:List Cell}{R R0:List Rnd}(p:R.Perm R0)(h:Whole cs R0):∃ESS,Cans (isIn cs) ESS R:=by
 obtain⟨E,h1,h2⟩:=h;have a1:Al (λr es=>(∃b,Closed (isIn cs) b es)/\IsRnd (wk (isIn cs) es) r) R0 E:=Al.of h1.len λi r es e1 e2=>h1.each i es r e1 e2
 obtain⟨F,q1,a2⟩:=a1.perm p
 obtain⟨G,a3,q2⟩:=Al.bind (Q:=λr es=>Can (isIn cs) es r) (λr es ⟨⟨b,hb⟩,hr⟩=>by obtain⟨es',k1,k2,k3,k4,k5,_⟩:=IsRnd.walk hb hr;exact⟨es',⟨k1,k3,k4,k5⟩,k2⟩) a2
 have pm:=q2.trans (zgW q1);exact⟨G,a3,pm.nodup_iff.mpr h1.nd,λe=>by rw[pm.mem_iff];exact h2 e⟩
theorem Cans.so{C:Cell->Bool}{ESS:List (List Edge)}{R:List Rnd}(h:Cans C ESS R){i:Nat}{r:Rnd}(hr:R[i]?=some r):∃es,ESS[i]?=some es/\Can C es r:=by have hi:=(Ad.mp hr).1;rw[h.al.length]at hi;exact⟨_,Ab hi,h.al.at (Ab hi) hr⟩
inductive Lnk (C:Cell->Bool):Edge->List Edge->Prop where
 |one (e:Edge):Lnk C e []
 |more {e:Edge} {es:List Edge}:Lnk C (nxt C e) es->Lnk C e (nxt C e::es)
structure Box where
 (a b c d:Int)
theorem VR.app{α:Type}{vs ws:List V}{l m:List α}{R:α->V->Hp->Prop}{H:Hp}(h:VR vs l R H)(k:VR ws m R H):VR (vs++ws) (l++m) R H:=by
 refine⟨by rw[Av,Av,h.1,k.1],λi x v h1 h2=>?_⟩
 by_cases hi:i<l.length
 .rw[AH hi]at h1;rw[AH (by rw[h.1];exact hi)]at h2;exact h.2 i x v h1 h2
 .rw[AW (by lia)]at h1;rw[AW (by rw[h.1];lia),h.1]at h2;exact k.2 _ x v h1 h2
noncomputable abbrev Bfr(a b:Cell):Prop:=HT.lexLt [a.2,a.1] [b.2,b.1]=true
noncomputable def lT(l:List (List Int)):PyData:=.list (l.map tI)
theorem zdN:∀l:List (List Int),Dx (l.map tI)=true
 |[]=>rfl
 |x::l=>by
  have:=zaZ x;unfold Cd at this;rw[B6]at this;show (PyData.canLay0 (tI x) && Dx (l.map tI))=true;rw[this.1,zdN l];rfl
theorem zeC:∀l:List (List Int),PyData.depthAll (l.map tI)<=1
 |[]=>Bd _
 |x::l=>by show max (Dy (tI x)) (PyData.depthAll (l.map tI))<=1;rw[ziC];have:=zeC l;lia
theorem za0(l:List (List Int)):Cd (lT l)=true:=by unfold Cd lT;rw[PyData.canLay0,zdN l,Dy];have:=zeC l;simp only[Bool.true_and,decide_eq_true_eq];lia
noncomputable def cI(c:Cell):List Int:=[c.1,c.2]
theorem zgA{K:W.Frag}{H:Hp}:∀{vs:List V}{cs:List Cell},VR vs cs cR H->RDs K H vs ((cs.map cI).map tI)
 |[],[],_=>.nil
 |[],_::_,h=>by have:=h.1;cases this
 |_::_,[],h=>by have:=h.1;cases this
 |v::vs,r::R,h=>by
  obtain⟨⟨b,rfl,q⟩,h2⟩:=VR.cons.mp h;exact .cons (.tup (SqT.of q) (RDs.ints (cI r))) (zgA h2)
theorem zbz{K:W.Frag}{H:Hp}{a:Addr}{vs:List V}{cs:List Cell}(e:SqL K H a vs)(h:VR vs cs cR H):RD K H (.ref a) (lT (cs.map cI)):=.lst e (zgA h)
theorem zjd(l:List (List Int)):C6 (lT l) (lT [])=l.isEmpty:=by cases l <;> rfl
noncomputable def zgs(K:W.Frag):Sp:=λvs H Q _=>∃(v:V) (r:Rnd) (C:Cell->Bool) (es:List Edge),vs=[v]/\rR r v H/\Can C es r/\es.length<=480/\∀p H' us,H p=none->Same H H'->H' p=some (.lst us)->VR us es eR H'->Q (.ref p) H'
theorem zhG (g_walk_of:Fn P w K mg base 5 "walk_of" ["one"] (zdY K)) (d:Df K mg "edges_of" zcF ["one"]):FnOk P w K mg base CX0 6 d.f d.fd ["one"] (zgs K):=by
 refine d.F.ok zhv (λvs H Q E h=>?_) (λcdv A outer s H vs Q E hr h=>?_)
 .obtain⟨v,r,C,es,rfl,_⟩:=h;rfl
 .obtain⟨v,r,C,es,rfl,hv,hc,hlen,k⟩:=h;have nb0:(["edge","step"]:List Str).Nodup:=by decide +kernel
  refine⟨_,(zaf (zak (zaI (osc:=zad zcF) (N:=zfi) (N':=["edge","step"]) (sel:=[none,none]) bO (zaz (pC g_walk_of hr (pa_N (pv 0) zab))) (λ_ _ _ _ _=>(zbV (K:=K) (n:=2) (by rfl) (zae (nG 0 nb0) (zae (nG 1 nb0) zat)))) (λ_ _ _ _ _=>zbl) (λ_ _ _ _ _=>(pv 0))))),?_⟩;refine⟨_,rfl,v,r,C,es,rfl,hv,hc.cl,hc.row,hc.bg,hc.so,by lia,λp H1 ws hp s1 e1 hw=>?_⟩;refine⟨p,rfl,⟨_,SqL.of e1⟩,λg hg=>?_⟩;have wl:ws.length=es.length:=by rw[hw.1,zbu]
  refine zao (K:=K) (a:=p) (xs:=ws) (λj σ H2=>∃o0 o1,σ=[o0,o1]/\Same H1 H2/\∃zs,H2 g=some (.lst zs)/\VR zs (es.take j) eR H2)
   ⟨_,_,rfl,Same.up hg,[],zaa,VR.nil⟩ (λj σ H2 _ ⟨_,_,_,s2,_⟩=>SqL.of (s2 _ _ e1)) ?_ ?_
  .rintro j u σ H2 hj ⟨o0,o1,rfl,s2,zs,e2,hz⟩;have hjl:j<ws.length:=(Ad.mp hj).1;obtain⟨⟨f,st⟩,he,B,bb,rfl,q1,q2⟩:=hw.at hj
   have hf:es[j]?=some f:=by
    unfold wk at he;rw[AA]at he;obtain⟨y,hy,ey⟩:=A4.mp he
    cases ey;exact hy
   have hl3:zs.length<=480:=by rw[hz.1,AS];lia
   refine⟨B,_,rfl,SqT.of (s2 _ _ q1),rfl,_,_,rfl,_,_,rfl,rfl,?_⟩;refine zb2 ?_
   refine⟨_,rfl,zs,e2,zaj (by lia),_,_,rfl,zal hg s2,_,zaa,?_⟩;rw[zar hf];exact hz.snoc (λx v h=>h.kt (KT.lst e2)) ⟨bb,rfl,KT.lst e2 _ _ (s2 _ _ q2)⟩
  .rintro σ H2 ⟨o0,o1,rfl,s2,zs,e2,hz⟩;rw[wl,AI]at hz;exact k g H2 zs (s1.free hg) (s1.trans s2) e2 hz
noncomputable def spUp(K:W.Frag):Sp:=λvs H Q _=>∃(p:Addr) (us:List V) (es:List Edge),vs=[.ref p]/\H p=some (.lst us)/\VR us es eR H/\es.length<=480/\∀a H' kvs B,UD H H' a es kvs B->Q (.ref a) H'
theorem zhA (T:Txt P w K mg) (d:Df K mg "uprights" zdp ["edges"]):FnOk P w K mg base CX0 1 d.f d.fd ["edges"] (spUp K):=by
 refine d.F.ok zbC (λvs H Q E h=>?_) (λcdv A outer s H vs Q E hr h=>?_)
 .obtain⟨p,us,es,rfl,_⟩:=h;rfl
 .obtain⟨p,us,es,rfl,hp,hw,hlen,k⟩:=h
  refine⟨_,(zac (sE 1 zbC.nd zlI)
   (zac (zbm Bf rfl (zaz (pv 0)) (zbh (by rfl) (zae (nG 2 zbC.nd) (zae (nG 3 zbC.nd) (zae (nG 4 zbC.nd) zat))))
   (zaf (ps_if (zax op_eq (pv 4) zah (zau _))
   (zaf (zaY (pe_bm A5 Bt Bu zaT (zig (pv 1) (pv 3) (zbw zab) ⟨rfl,rfl,rfl,rfl⟩) (pa_B (pe_op zaW (pv 2) zah) zab))))
   (zaf (ps_if (zax op_eq (pv 4) zah (zau _))
   (zaf (zaY (pe_bm A5 Bt Bu zaT (zig (pv 1) (pv 3) (zbw zab) ⟨rfl,rfl,rfl,rfl⟩) (pa_N (pv 2) zab))))
   zaB)))))
   (zaf (zak (pv 1))))),?_⟩
  intro a ha;have U0:=UD.start ha;refine⟨_,rfl,p,rfl,⟨_,SqL.of (U0.same _ _ hp)⟩,?_⟩
  refine zao (K:=K) (a:=p) (xs:=us) (λj σ H2=>∃o2 o3 o4 kvs B,σ=[some (.ref p),some (.ref a),o2,o3,o4]/\UD H H2 a (es.take j) kvs B)
   ⟨_,_,_,_,_,rfl,U0⟩ (λj σ H2 _ ⟨_,_,_,_,_,_,U⟩=>SqL.of (U.same _ _ hp)) ?_ ?_
  .rintro j u σ H2 hj ⟨o2,o3,o4,kvs,B,rfl,U⟩;obtain⟨f,hf,bf,rfl,qf⟩:=hw.at hj;have hjl:j<es.length:=(Ad.mp hf).1;have hkl:kvs.length<=480:=by have:=U.len;rw[AS]at this;lia
   have hul:∀y,(upr (es.take j) y).length<=480:=λy=>by have h1:=BV (isUp y) (es.take j);have h2:=List.length_take_le j es;unfold upr;rw[Ah];lia
   refine⟨bf,_,rfl,SqT.of (U.same _ _ qf),rfl,_,_,rfl,_,_,rfl,_,_,rfl,rfl,?_⟩;refine⟨_,rfl,rfl,_,rfl,?_⟩;rw[zar hf];refine ite2 (λhy=>?_) (λhn=>?_)
   .have hw1:f.w=1 := by have:=of_decide_eq_true hy;injection this with this;lia
    have hpx:V.int (px f)=V.int (f.c.1+1):=by simp[px,hw1]
    refine⟨_,rfl,a,rfl,.inl ⟨kvs,.inl U.dict⟩,_,rfl,Bd _,λz hz=>?_⟩;have nz:∀{b o},H2 b=some o->b≠z:=λq w=>by rw[w,hz]at q;cases q
    refine⟨kvs,.inl f.c.2,by rw[zag (nz U.dict)];exact U.dict,rfl,zaj (by lia),λv hv=>?_,λhv=>?_⟩
    .by_cases hy:upr (es.take j) f.c.2=[]
     .rw[U.no _ hy]at hv;cases hv
     .obtain⟨b1,b2,b3,b4⟩:=U.at_ _ hy;rw[b1]at hv
      cases hv
      have e3:upd H2 z (.lst []) (B f.c.2)=some (.lst ((upr (es.take j) f.c.2).map V.int)):=by rw[zag (nz b2)];exact b2
      have U':=U.more (Or.inl hw1) hz hy;rw[hpx]at U';exact⟨.inl ⟨rfl,_,SqL.of e3⟩,_,rfl,_,_,rfl,rfl,_,_,_,rfl,rfl,e3,zaj (by rw[Ah];have:=hul f.c.2;lia),_,_,_,kvs,B,rfl,U'⟩
    .have hy:upr (es.take j) f.c.2=[]:=Ba λhy=>by rw[(U.at_ _ hy).1]at hv;cases hv
     have e3:upd (upd H2 z (.lst [])) a (.dK (putK kvs (.inl f.c.2) (.ref z))) z=some (.lst []):=by rw[zag (nz U.dict).symm];exact zaa
     have U':=U.first (Or.inl hw1) hz hy;rw[hpx]at U';exact⟨.inl ⟨rfl,_,SqL.of e3⟩,_,rfl,_,_,rfl,rfl,_,_,_,rfl,rfl,e3,zaj (by simp),_,_,_,_,_,rfl,U'⟩
   .have hw1:f.w≠1:=λz=>hn (by rw[z];rfl)
    refine⟨_,rfl,rfl,_,rfl,?_⟩;refine ite2 (λhy=>?_) (λhn3=>?_)
    .have hw1:f.w=3 := by have:=of_decide_eq_true hy;injection this with this;lia
     have hpx:V.int (px f)=V.int f.c.1:=by simp[px,hw1]
     refine⟨_,rfl,a,rfl,.inl ⟨kvs,.inl U.dict⟩,_,rfl,Bd _,λz hz=>?_⟩;have nz:∀{b o},H2 b=some o->b≠z:=λq w=>by rw[w,hz]at q;cases q
     refine⟨kvs,.inl f.c.2,by rw[zag (nz U.dict)];exact U.dict,rfl,zaj (by lia),λv hv=>?_,λhv=>?_⟩
     .by_cases hy:upr (es.take j) f.c.2=[]
      .rw[U.no _ hy]at hv;cases hv
      .obtain⟨b1,b2,b3,b4⟩:=U.at_ _ hy;rw[b1]at hv
       cases hv
       have e3:upd H2 z (.lst []) (B f.c.2)=some (.lst ((upr (es.take j) f.c.2).map V.int)):=by rw[zag (nz b2)];exact b2
       have U':=U.more (EQ hw1) hz hy;rw[hpx]at U';exact⟨.inl ⟨rfl,_,SqL.of e3⟩,_,rfl,_,_,_,rfl,rfl,e3,zaj (by rw[Ah];have:=hul f.c.2;lia),_,_,_,kvs,B,rfl,U'⟩
     .have hy:upr (es.take j) f.c.2=[]:=Ba λhy=>by rw[(U.at_ _ hy).1]at hv;cases hv
      have e3:upd (upd H2 z (.lst [])) a (.dK (putK kvs (.inl f.c.2) (.ref z))) z=some (.lst []):=by rw[zag (nz U.dict).symm];exact zaa
      have U':=U.first (EQ hw1) hz hy;rw[hpx]at U';exact⟨.inl ⟨rfl,_,SqL.of e3⟩,_,rfl,_,_,_,rfl,rfl,e3,zaj (by simp),_,_,_,_,_,rfl,U'⟩
    .have hw3:f.w≠3:=λz=>hn3 (by rw[z];rfl)
     exact⟨_,_,_,kvs,B,rfl,U.skip (λz=>z.elim hw1 hw3)⟩
  .rintro σ H2 ⟨o2,o3,o4,kvs,B,rfl,U⟩;rw[show us.length=es.length from hw.1,AI]at U;exact⟨_,rfl,k a H2 kvs B U⟩
noncomputable abbrev Ahd(c d:Cell):Prop:=c.2<d.2∨(c.2=d.2/\c.1<d.1)
noncomputable def zgt(K:W.Frag):Sp:=λvs H Q _=>∃(v:V) (r:Rnd) (C:Cell->Bool) (es:List Edge),vs=[v]/\rR r v H/\Can C es r/\es.length<=480/\(∃l lo:Int,∀e∈es,l<=e.c.1/\e.c.1<l+60/\lo<=e.c.2/\e.c.2<lo+60) /\
 ∀p H' us L,H p=none->Same H H'->H' p=some (.lst us)->VR us L cR H'->(∀c,c∈L ↔ wd es c≠0)->L.Pairwise Ahd->L.length<=3660->Q (.ref p) H'
theorem zde{n:Nat}(h:n<=4000):n<sizeLine:=CP h (by decide)
theorem zeu (T:Txt P w K mg) (g_edges_of:Fn P w K mg base 6 "edges_of" ["one"] (zgs K)) (g_uprights:Fn P w K mg base 1 "uprights" ["edges"] (spUp K)) (d:Df K mg "cells_within" zbs ["one"]):FnOk P w K mg base CX0 7 d.f d.fd ["one"] (zgt K):=by
  refine d.F.ok zaN (λvs H Q E h=>?_) (λcdv A outer s H vs Q E hr h=>?_)
  . obtain⟨v,r,C,es,rfl,_⟩:=h;rfl
  . obtain⟨v,r,C,es,rfl,hv,hc,hlen,⟨l,lo,hB⟩,k⟩:=h;have hsum:=hc.cl.turning;have hBx:∀e∈es,l<=e.c.1/\e.c.1<l+60:=λe he=>⟨(hB e he).1,(hB e he).2.1⟩
    have hfl:=zl5 hc.cl hsum hBx;have hul:=zmI hc.cl hBx;have hu1:=hu_of hr;have nb0:(["x","y"]:List Str).Nodup:=by decide +kernel
    refine⟨_,(zac (sE 1 zaN.nd (pC g_uprights hr (zai (pC g_edges_of hr (pa_N (pv 0) zab)) zab)))
      (zac (sE 2 zaN.nd (zbw zab))
      (zac (zbm Bf rfl (zaz (zan (zjg rfl) (by rfl) T.nsorted (by rfl) (pa_N (pv 1) zab))) (zdx (i:=3) zaN.nd (by rfl) (EQ rfl))
      (zac (sE 4 zaN.nd (zan zjf (by rfl) T.nsorted (by rfl) (zai (zmZ hu1 (pv 1) (pv 3) (λ_ _=>rfl)) zab)))
      (zaf (zbm Bf rfl (zkc (by rfl) T.nrange (pa_C zah (zai (zan zas (by rfl) T.nlen (by rfl) (pa_N (pv 4) zab)) (pa_C zah zab)))) (nG 5 zaN.nd)
      (zaf (zaY (pe_bm A5 EF EG zex (pv 2) (zai (zaI (osc:=zad zbs) (N:=zcQ) (N':=["x","y"]) (sel:=[none,some 3]) bO (zkb (by rfl) T.nrange (zai (pe_ix zbX (pv 4) (pv 5) (λ_ _=>rfl)) (zai (pe_ix zbX (pv 4) (pe_op zaW (pv 5) zah) (λ_ _=>rfl)) zab))) (λ_ _ _ _ _=>(nG 0 nb0)) (λ_ _ _ _ _=>zbl) (λ_ _ _ _ _=>(zaO (pa_N (pv 0) (pa_N (pv 1) zab))))) zab))))))))
      (zaf (zak (pv 2)))))),?_⟩
    refine⟨_,rfl,v,r,C,es,rfl,hv,hc,hlen,λpe H1 us hpe s1 e1 hw=>?_⟩;refine⟨pe,us,es,rfl,e1,hw,hlen,λa H2 kvs B U=>?_⟩;refine⟨Bd _,λg hg=>?_⟩;obtain⟨ns,hns⟩:=zgQ λk' hk=>let ⟨y,e,_⟩:=U.keys k' hk;⟨y,e⟩
    have hnl:ns.length=kvs.length:=by have:=congrArg Dv hns;simpa using this.symm
    have hmem:∀y,y∈ns ↔ upr es y≠[]:=λy=>by
      constructor
      . intro hy;obtain⟨z,e,q⟩:=U.keys (Ct y) (by rw[hns];exact AE.mpr ⟨y,hy,rfl⟩)
        cases e
        exact q
      . intro hy;have h1:=(U.at_ y hy).1;unfold valV at h1;obtain⟨kv,hf,_⟩:=A4.mp h1;have h2:kv.1=Ct y:=by simpa using List.find?_some hf
        have h3:Ct y∈kvs.map (·.1):=AE.mpr ⟨kv,Er hf,h2⟩;rw[hns]at h3;obtain⟨z,hz,e⟩:=AE.mp h3
        cases e
        exact hz
    have hnd:ns.Nodup:=by have:=U.nd;rw[hns]at this;exact (List.pairwise_map.mp this).imp λh e=>h (by rw[e])
    have hn60:ns.length<=60:=zd6 (lo:=lo) hnd λy hy=>by have hne:=(hmem y).mp hy;obtain⟨x,hx⟩:=List.exists_mem_of_ne_nil _ hne;unfold upr at hx;obtain⟨e,he,_⟩:=AE.mp hx;have m:=Bz.mp he;have:=hB e m.1;rw[<- (zbQ.mp m.2).2];lia
    refine⟨_,rfl,a,kvs,ns,rfl,.inl (Same.up hg _ _ U.dict),hns,by lia,λD ns' hp' hs' hD=>?_⟩;have hgD:g≠D:=λz=>by rw[<- z,zaa]at hD;cases hD
    have hst:ns'.Pairwise (·<·):=List.Pairwise.imp (R:=λa b:Int=>a<=b/\a≠b) (λ{a b} q=>by lia) (hs'.and (hp'.nodup_iff.mpr hnd));have hD2:H2 D=none:=(Same.up hg).free hD;have S4:Same H2 (upd (upd H2 g (.lst [])) D (.lst (ns'.map V.int))):=(Same.up hg).trans (Same.up hD);have eD0:upd (upd H2 g (.lst [])) D (.lst (ns'.map V.int)) D=some (.lst (ns'.map V.int)):=zaa;have eg0:upd (upd H2 g (.lst [])) D (.lst (ns'.map V.int)) g=some (.lst []):=by rw[zag hgD];exact zaa
    generalize upd (upd H2 g (.lst [])) D (.lst (ns'.map V.int))=H4 at S4 eD0 eg0;refine⟨D,rfl,⟨_,SqL.of eD0⟩,?_⟩
    refine zao (K:=K) (a:=D) (xs:=ns'.map V.int) (λj σ H5=>∃o3 o4 o5,σ=[some v,some (.ref a),some (.ref g),o3,o4,o5]/\Same H2 H5/\H5 D=some (.lst (ns'.map V.int))/\∃zs,H5 g=some (.lst zs)/\VR zs (zbK es (ns'.take j)) cR H5)
      ⟨_,_,_,rfl,S4,eD0,[],eg0,VR.nil⟩ (λj σ H5 _ ⟨_,_,_,_,_,e5,_⟩=>SqL.of e5) ?_ ?_
    . rintro j u σ H5 hj ⟨o3,o4,o5,rfl,s5,eD5,zs,e5,hz5⟩;obtain⟨y,hy,rfl⟩:∃y,ns'[j]?=some y/\V.int y=u:=by simpa using hj
      have hjl:j<ns'.length:=(Ad.mp hy).1;have hn':ns'.length<=60:=by rw[hp'.length_eq];exact hn60
      have hyu:upr es y≠[]:=(hmem y).mp (hp'.mem_iff.mp (Aj hy));obtain⟨b1,b2,b3,b4⟩:=U.at_ y hyu;have hdg:DGet H5 a (V.int y) (some (.ref (B y))):=by rw[<- b1];exact DGet.k (k:=Ct y) (s5 _ _ U.dict)
      refine⟨_,rfl,_,rfl,a,_,rfl,hdg,B y,upr es y,rfl,SqL.of (s5 _ _ b2),(by have:=hul y;lia),λt Ts hT hTs ht=>?_⟩;obtain rfl:=zmL hT hTs;have hTl:(srt (upr es y)).length<=61:=by rw[hT.length_eq];exact hul y
      have hpar:=(zfE hc.cl hsum (zdX (upr es y)) (zh3 _)).1
      have hcl:(zbK es (ns'.take j)).length<=61*59:=by
        have:=zdm hfl (ns'.take j);have h2:(ns'.take j).length<=59:=by rw[AS];lia
        lia
      have S6:Same H5 (upd H5 t (.lst ((srt (upr es y)).map V.int))):=Same.up ht;have et0:upd H5 t (.lst ((srt (upr es y)).map V.int)) t=some (.lst ((srt (upr es y)).map V.int)):=zaa;generalize upd H5 t (.lst ((srt (upr es y)).map V.int))=H6 at S6 et0;have htg:t≠g:=λz=>by rw[z,e5]at ht;cases ht
      have htD:t≠D:=λz=>by rw[z,eD5]at ht;cases ht
      refine⟨_,rfl,t,_,rfl,.inl (SqL.of et0),0,_,rfl,⟨by decide,by decide,by lia,by rw[Ah];lia⟩,?_⟩;rw[show ((((((srt (upr es y)).map V.int).length:Nat):Int)-0+1) / 2).toNat=(srt (upr es y)).length / 2 by rw[Ah];lia]
      refine zjc (lo := 0) (n := (srt (upr es y)).length / 2) (λi σ H7 => ∃o5, σ = [some v, some (.ref a), some (.ref g), some (.int y), some (.ref t), o5] /\ Same H2 H7 /\ H7 D=some (.lst (ns'.map V.int)) /\ H7 t=some (.lst ((srt (upr es y)).map V.int)) /\
          ∃zs,H7 g=some (.lst zs)/\VR zs (zbK es (ns'.take j)++(fillT ((srt (upr es y)).take (2*i))).map λx=>(x,y)) cR H7)
        ⟨_,rfl,s5.trans S6,S6 _ _ eD5,et0,zs,S6 _ _ e5,by simpa[fillT]using hz5.mono λx v h=>h.same S6⟩ ?_ ?_
      . rintro i σ H7 hi ⟨o5,rfl,s7,eD7,et7,ys,e7,hz7⟩;have h1:2*i<(srt (upr es y)).length:=by lia
        have h2:2*i+1<(srt (upr es y)).length:=by lia
        have g1:((srt (upr es y)).map V.int)[2*i]?=some (.int (srt (upr es y))[2*i]):=by rw[AA,Ab h1];rfl
        have g2:((srt (upr es y)).map V.int)[2*i+1]?=some (.int (srt (upr es y))[2*i+1]):=by rw[AA,Ab h2];rfl
        have hft:=zfe (srt (upr es y)) i _ _ (Ab h1) (Ab h2)
        have hyl:ys.length<=61*60:=by rw[hz7.1,Av,Ah];have e:=congrArg Dv (zc2 (srt (upr es y)) i);rw[Av]at e;have:=hfl y;lia
        have hul2:(upto (srt (upr es y))[2*i] (srt (upr es y))[2*i+1]).length<=61:=by have e:=congrArg Dv (zc2 (srt (upr es y)) (i+1));rw[hft,Av,Av]at e;have:=hfl y;lia
        generalize (srt (upr es y))[2*i]=A0 at g1 hft hul2;generalize (srt (upr es y))[2*i+1]=B0 at g2 hft hul2
        refine⟨_,rfl,.inl ⟨rfl,_,SqL.of e7⟩,_,rfl,_,rfl,t,_,_,_,rfl,rfl,SqL.of et7,(by rw[show (0:Int)+(i:Int)*2=((2*i:Nat):Int) by lia];exact zaG g1),
          _,rfl,_,rfl,_,_,rfl,rfl,t,_,_,_,rfl,rfl,SqL.of et7,(by rw[show (0:Int)+(i:Int)*2+1=((2*i+1:Nat):Int) by lia];exact zaG g2),_,_,rfl,λc hc7=>?_⟩
        refine zbJ (lo:=A0) (n:=(B0-A0).toNat) (λm σ H8=>∃o0,σ=[o0,some (.int y)]/\Same H7 H8/\∃xs,H8 c=some (.lst xs)/\VR xs (((Bk m).map λq:Nat=>A0+(q:Int)).map λx=>(x,y)) cR H8)
          ⟨_,rfl,Same.up hc7,[],zaa,VR.nil⟩ ?_ ?_
        . rintro m σ H8 hm ⟨o0,rfl,s8,xs,e8,hz8⟩
          have hxl:xs.length<=61:=by rw[hz8.1,Ah,Ah,CH];unfold upto at hul2;rw[Ah,CH]at hul2;lia
          unfold gName;refine zb2 ?_
          refine⟨_,rfl,_,rfl,two,λq hq=>?_⟩;have s9:Same H8 (upd H8 q (.tup [.int (A0+(m:Int)),.int y])):=Same.up hq;have r9:cR (A0+(m:Int),y) (.ref q) (upd H8 q (.tup [.int (A0+(m:Int)),.int y])):=⟨q,rfl,by rw[zaa];rfl⟩;generalize upd H8 q (.tup [.int (A0+(m:Int)),.int y])=H9 at s9 r9;have e9:=s9 _ _ e8;refine⟨xs,e9,zaj (by lia),_,rfl,zal hc7 (s8.trans s9),_,zaa,?_⟩;rw[List.range_succ,Ay,Ay];exact hz8.snoc (λx v h=>(h.kt (KT.of s9)).kt (KT.lst e9)) (r9.kt (KT.lst e9))
        . rintro σ H8 ⟨o0,rfl,s8,xs,e8,hz8⟩
          have hxl:xs.length<=61:=by rw[hz8.1,Ah,Ah,CH];unfold upto at hul2;rw[Ah,CH]at hul2;exact hul2
          have e78:=s8 _ _ e7;refine⟨g,c,_,_,rfl,rfl,e78,e8,BZ (zde (by lia)),?_⟩;have k9:KT H8 (upd H8 g (.lst (ys++xs))):=KT.lst e78;have hDg:D≠g:=Cj hgD;refine⟨_,rfl,zal hg (s7.trans s8),by rw[zag hDg];exact s8 _ _ eD7,by rw[zag htg];exact s8 _ _ et7,_,zaa,?_⟩;rw[hft,Ay,<- AN];exact (hz7.mono λx v h=>(h.kt (KT.of s8)).kt k9).app (hz8.mono λx v h=>h.kt k9)
      . rintro σ H7 ⟨o5,rfl,s7,eD7,et7,ys,e7,hz7⟩;rw[show 2*((srt (upr es y)).length / 2)=(srt (upr es y)).length by lia,AI]at hz7;refine⟨_,_,_,rfl,s7,eD7,ys,e7,?_⟩;rw[zar hy,zhj];exact hz7
    . rintro σ H5 ⟨o3,o4,o5,rfl,s5,eD5,zs,e5,hz5⟩;rw[Ah,AI]at hz5;have hsp:=zhi hc.cl hsum hst λy=>by rw[hp'.mem_iff];exact hmem y
      refine⟨_,rfl,k g H5 zs _ (s1.free (U.same.free hg)) (s1.trans (U.same.trans s5)) e5 hz5 hsp.1 hsp.2 ?_⟩;have:=zdm hfl ns';rw[hp'.length_eq]at this;lia
theorem Can.sum3 {C:Cell->Bool}{es:List Edge}{r:Rnd}(h:Can C es r):(r.so = "rim" /\ (es.map (tt C)).sum=4)∨(r.so = "hole" /\ (es.map (tt C)).sum=-4):=by
 have e:(es.map (tt C)).sum=(nL (wk C es):Int)-nS (wk C es):=by rw[nL_wk,nS_wk,<- zfp]
 rw[h.so,e];unfold sortS;rcases zjx h.cl with z |z
 .left;rw[if_pos (by lia)];exact⟨rfl,z⟩
 .right;rw[if_neg (by lia)];exact⟨rfl,z⟩
theorem zlq{C:Cell->Bool}{b:Edge}{es:List Edge}(h:Closed C b es){l lo:Int}(hB:∀e∈es,l<=e.c.1/\e.c.1<l+60/\lo<=e.c.2/\e.c.2<lo+60){c:Cell}(hz:wd es c≠0):l<=c.1/\c.1<l+61/\lo<=c.2/\c.2<lo+60:=by
 obtain⟨e,he,f,hf,k1,k2,k3,k4,_,_⟩:=zmf h hz;have:=hB e he;have:=hB f hf;have:e.c.1<=px e:=by unfold px;split <;> lia
 have:px f<=f.c.1+1:=by unfold px;split <;> lia
 lia
theorem zd9:∀{l:List Int},(∀x∈l,x=0)->l.sum=0
 |[],_=>rfl
 |a::r,h=>by rw[BH,h a Ap,zd9 λx hx=>h x (As _ hx)];rfl
theorem zib:∀cs:List Cell,∃m:Int,∀c∈cs,c.1<m
 |[]=>⟨0,λ_ h=>(nomatch h)⟩
 |c::r=>by
  obtain⟨m,h⟩:=zib r;refine⟨max m (c.1+1),λd hd=>?_⟩;rcases Ax.mp hd with rfl |hd
  .lia
  .have:=h d hd;lia
theorem zmz{a b c d:Int}:HT.lexLt [a,b] [c,d]=false ↔ ¬ (a<c∨(a=c/\b<d)):=by
 rw[HT.lexLt_cons,HT.lexLt_cons,HT.lexLt_nil_nil]
 by_cases h2:a=c
 .subst h2
  by_cases h3:b=d
  .subst h3;simp
  .simp[h3]
 .simp[h2]
theorem zdH{α:Type}{L:List α}{n:Nat}(h:n=L.length):L.take n=L:=by rw[h,AI]
noncomputable def zmm(K:W.Frag):Sp:=λvs H Q _=>∃(p:Addr) (us:List V) (R:List Rnd) (ESS:List (List Edge)) (cs:List Cell),vs=[.ref p]/\H p=some (.lst us)/\VR us R rR H/\Cans (isIn cs) ESS R/\(∀es∈ESS,es.length<=480) /\
 (∃l lo:Int,∀es∈ESS,∀e∈es,l<=e.c.1/\e.c.1<l+60/\lo<=e.c.2/\e.c.2<lo+60)/\cs.Pairwise Ahd/\cs.length<=120/\∀g H' zs,H g=none->Same H H'->H' g=some (.lst zs)->VR zs cs cR H'->Q (.ref g) H'
theorem zfP (T:Txt P w K mg) (g_cells_within:Fn P w K mg base 7 "cells_within" ["one"] (zgt K)) (g_cell_order:Fn P w K mg base 1 "cell_order" ["cell"] (zft K)) (d:Df K mg "cells_told" zbM ["some"]):FnOk P w K mg base CX0 8 d.f d.fd ["some"] (zmm K):=by
 refine d.F.ok zbj (λvs H Q E h=>?_) (λcdv A outer s H vs Q E hr h=>?_)
 .obtain⟨p,us,R,ESS,cs,rfl,_⟩:=h;rfl
 .obtain⟨p,us,R,ESS,cs,rfl,hp,hv,hcan,hlen,⟨l,lo,hB⟩,hord,hcl,k⟩:=h;have hu1:=hu_of hr;have nb0:(["cell","depth"]:List Str).Nodup:=by decide +kernel
  refine⟨_,(zac (sE 1 zbj.nd zd3)
   (zac (zbm Bf rfl (zaz (pv 0)) (nG 2 zbj.nd)
   (zac (sE 3 zbj.nd (zfH (zax op_eq (pe_ix zcO (pv 2) zah (λ_ _=>rfl)) zie (zau _)) zah (pe_un zmh zah)))
   (zaf (zbm Bf rfl (zaz (pC g_cells_within hr (pa_N (pv 2) zab))) (nG 4 zbj.nd)
   (zaf (zfG hu1 (pv 1) (pv 4) (pe_op zaW (zlJ hu1 (pv 1) (pv 4) zah ⟨rfl,rfl,rfl,rfl⟩) (pv 3)) rfl))))))
   (zaf (zak (zif g_cell_order.ok (hr.mono (by decide)) g_cell_order.b (by rfl) T.nsorted (by rfl) g_cell_order.m (zaI (osc:=zad zbM) (N:=zdP) (N':=["cell","depth"]) (sel:=[none,none]) bO (zlE (pv 1)) (λ_ _ _ _ _=>(zbV (K:=K) (n:=2) (by rfl) (zae (nG 0 nb0) (zae (nG 1 nb0) zat)))) (λ_ _ _ _ _=>zcX (zax op_gt (pv 1) zah (zau _))) (λ_ _ _ _ _=>(pv 0)))))))),?_⟩
  have hbox:∀es∈ESS,∀d,wd es d≠0->l<=d.1/\d.1<l+61/\lo<=d.2/\d.2<lo+60:=λes hes d hz=>by
   obtain⟨j,hj,ej⟩:=AD hes;have hjR:j<R.length:=by rw[hcan.al.length];exact hj
   have:=hcan.al.at (i:=j) (b:=es) (by rw[Ab hj,ej]) (Ab hjR);exact zlq this.cl (hB es hes) hz
  intro a ha;have S0:Same H (upd H a (.dT [])):=Same.up ha;have e0:upd H a (.dT []) a=some (.dT (dep [] λ_=>0)):=zaa;generalize upd H a (.dT [])=H1 at S0 e0;refine⟨_,rfl,p,rfl,⟨_,SqL.of (S0 _ _ hp)⟩,?_⟩
  refine zao (K:=K) (a:=p) (xs:=us) (λj σ H2=>∃o2 o3 o4 Cs f,σ=[some (.ref p),some (.ref a),o2,o3,o4]/\Same H H2/\H2 a=some (.dT (dep Cs f))/\Cs.Nodup/\(∀d,d∈Cs ↔ ∃es∈ESS.take j,wd es d≠0)/\∀d,f d=((ESS.take j).map λes=>wd es d).sum)
   ⟨_,_,_,[],_,rfl,S0,e0,.nil,by simp,λd=>rfl⟩ (λj σ H2 _ ⟨_,_,_,_,_,_,s2,_⟩=>SqL.of (s2 _ _ hp)) ?_ ?_
  .rintro j u σ H2 hj ⟨o2,o3,o4,Cs,f,rfl,s2,e2,nd2,hm2,hf2⟩;obtain⟨r,hr1,hvr⟩:=hv.at hj;have hjl:j<ESS.length:=by rw[<- hcan.al.length];exact (Ad.mp hr1).1
   obtain⟨es,hes1⟩:∃es,ESS[j]?=some es:=⟨_,Ab hjl⟩;have hes:=Aj hes1;have hc1:Can (isIn cs) es r:=hcan.al.at hes1 hr1
   have hzero:∀d,d ∉ Cs->f d=0:=λd hd=>by
    rw[hf2 d];have:∀es∈ESS.take j,wd es d=0:=λes h=>Ba λw=>hd ((hm2 d).mpr ⟨es,h,w⟩)
    exact zd9 λx hx=>by obtain⟨es,h,rfl⟩:=AE.mp hx;exact this es h
   have hR:rR r u H2:=hvr.kt (KT.of s2);obtain⟨pa,pb,rfl,qa,qb0⟩:=id hR;generalize hu:V.ref pa=u at hR;refine⟨_,rfl,pa,_,_,_,hu.symm,rfl,SqT.of qa,rfl,?_⟩;refine⟨rfl,_,rfl,?_⟩;rcases Can.sum3 hc1 with⟨hso,hsum⟩ |⟨hso,hsum⟩
   .rw[if_pos (by rw[hso];decide)];refine⟨_,rfl,_,r,isIn cs,es,rfl,hR,hc1,hlen es hes,⟨l,lo,hB es hes⟩,λq H4 ws L hq s4 e4 hw4 hmL hoL hlL=>?_⟩;refine⟨q,rfl,⟨_,SqL.of e4⟩,?_⟩;have hLn:L.Nodup:=hoL.imp λ{x y} h e=>by subst e;rcases h with h |h <;> lia
    have hqa:q≠a:=λz=>by rw[z,e2]at hq;cases hq
    refine zao (K:=K) (a:=q) (xs:=ws) (λi σ H5=>∃o4 Cs' f',σ=[some (.ref p),some (.ref a),some u,some (.int (1)),o4]/\Same H H5/\H5 a=some (.dT (dep Cs' f'))/\H5 q=some (.lst ws)/\KT H4 H5/\Cs'.Nodup/\(∀d,d∈Cs' ↔ d∈Cs∨d∈L.take i)/\∀d,f' d=f d+if d∈L.take i then (1) else 0)
     ⟨_,Cs,f,rfl,s2.trans s4,s4 _ _ e2,e4,KT.refl _,nd2,by simp,by simp⟩ (λi σ H5 _ ⟨_,_,_,_,_,_,h,_⟩=>SqL.of h) ?_ ?_
    .rintro i x σ H5 hi ⟨o4,Cs',f',rfl,s5,e5,eq5,k5,nd5,hm5,hf5⟩;obtain⟨c,hc,b,rfl,qb⟩:=hw4.at hi;have qb5:=k5 _ _ qb
     have hbl:Cs'.length<=3660:=zeG nd5 λd hd=>by
      rcases (hm5 d).mp hd with z |z
      .obtain⟨es',h1,h2⟩:=(hm2 d).mp z;exact hbox es' (Bq h1) d h2
      .exact hbox es hes d ((hmL d).mp (Bq z))
     have hdl:(dep Cs' f').length<=4000:=by unfold dep;rw[Ah];lia
     have hget:(valV (dep Cs' f') (ckey c)).getD (.int 0)=V.int (f' c):=by
      rw[zdW]
      by_cases z:c∈Cs'
      .rw[if_pos z];rfl
      .rw[if_neg z];have h1:c ∉ Cs:=λw=>z ((hm5 c).mpr (.inl w))
       have h2:c ∉ L.take i:=λw=>z ((hm5 c).mpr (.inr w))
       rw[hf5 c,if_neg h2,hzero c h1];rfl
     have st:=ziD (s:=(1)) hLn hc nd5 hm5 hf5;refine⟨_,rfl,a,rfl,.inr ⟨_,.inl e5⟩,_,rfl,_,.inr ⟨dep Cs' f',ckey c,b,.inl e5,rfl,qb5,rfl⟩,_,rfl,_,_,hget,rfl,_,rfl,_,rfl,a,_,rfl,.inr ⟨dep Cs' f',ckey c,b,e5,rfl,qb5,zde hdl,rfl⟩,?_⟩;rw[zkV];exact⟨_,_,_,rfl,zal ha s5,zaa,by rw[zag hqa];exact eq5,k5.trans (KT.dct e5),st.1,st.2.1,st.2.2⟩
    .rintro σ H5 ⟨o4,Cs',f',rfl,s5,e5,eq5,k5,nd5,hm5,hf5⟩;have hwl:L.take ws.length=L:=zdH hw4.1;rw[hwl]at hm5 hf5;refine⟨_,_,_,Cs',f',rfl,s5,e5,nd5,λd=>?_,λd=>?_⟩
     .rw[hm5 d,hm2 d,zar hes1,hmL d];constructor
      .rintro (⟨es',h1,h2⟩ |h)
       .exact⟨es',BF _ h1,h2⟩
       .exact⟨es,Aw _ (Am.mpr rfl),h⟩
      .rintro⟨es',h1,h2⟩;rcases AC.mp h1 with h1 |h1
       .exact .inl ⟨es',h1,h2⟩
       .rw[Am.mp h1]at h2;exact .inr h2
     .rw[hf5 d,hf2 d,zar hes1,Ay,CJ];have h01:=wd_01 hc1.cl hsum d;have hmd:=hmL d;simp only[AO,DV,BH,List.sum_nil]
      by_cases z:d∈L
      .rw[if_pos z];have:=hmd.mp z;lia
      .rw[if_neg z];have:wd es d=0:=Ba λw=>z (hmd.mpr w);lia
   .rw[if_neg (by rw[hso];decide)];refine⟨_,rfl,?_⟩;refine⟨_,rfl,_,r,isIn cs,es,rfl,hR,hc1,hlen es hes,⟨l,lo,hB es hes⟩,λq H4 ws L hq s4 e4 hw4 hmL hoL hlL=>?_⟩;refine⟨q,rfl,⟨_,SqL.of e4⟩,?_⟩;have hLn:L.Nodup:=hoL.imp λ{x y} h e=>by subst e;rcases h with h |h <;> lia
    have hqa:q≠a:=λz=>by rw[z,e2]at hq;cases hq
    refine zao (K:=K) (a:=q) (xs:=ws) (λi σ H5=>∃o4 Cs' f',σ=[some (.ref p),some (.ref a),some u,some (.int (-1)),o4]/\Same H H5/\H5 a=some (.dT (dep Cs' f'))/\H5 q=some (.lst ws)/\KT H4 H5/\Cs'.Nodup/\(∀d,d∈Cs' ↔ d∈Cs∨d∈L.take i)/\∀d,f' d=f d+if d∈L.take i then (-1) else 0)
     ⟨_,Cs,f,rfl,s2.trans s4,s4 _ _ e2,e4,KT.refl _,nd2,by simp,by simp⟩ (λi σ H5 _ ⟨_,_,_,_,_,_,h,_⟩=>SqL.of h) ?_ ?_
    .rintro i x σ H5 hi ⟨o4,Cs',f',rfl,s5,e5,eq5,k5,nd5,hm5,hf5⟩;obtain⟨c,hc,b,rfl,qb⟩:=hw4.at hi;have qb5:=k5 _ _ qb
     have hbl:Cs'.length<=3660:=zeG nd5 λd hd=>by
      rcases (hm5 d).mp hd with z |z
      .obtain⟨es',h1,h2⟩:=(hm2 d).mp z;exact hbox es' (Bq h1) d h2
      .exact hbox es hes d ((hmL d).mp (Bq z))
     have hdl:(dep Cs' f').length<=4000:=by unfold dep;rw[Ah];lia
     have hget:(valV (dep Cs' f') (ckey c)).getD (.int 0)=V.int (f' c):=by
      rw[zdW]
      by_cases z:c∈Cs'
      .rw[if_pos z];rfl
      .rw[if_neg z];have h1:c ∉ Cs:=λw=>z ((hm5 c).mpr (.inl w))
       have h2:c ∉ L.take i:=λw=>z ((hm5 c).mpr (.inr w))
       rw[hf5 c,if_neg h2,hzero c h1];rfl
     have st:=ziD (s:=(-1)) hLn hc nd5 hm5 hf5;refine⟨_,rfl,a,rfl,.inr ⟨_,.inl e5⟩,_,rfl,_,.inr ⟨dep Cs' f',ckey c,b,.inl e5,rfl,qb5,rfl⟩,_,rfl,_,_,hget,rfl,_,rfl,_,rfl,a,_,rfl,.inr ⟨dep Cs' f',ckey c,b,e5,rfl,qb5,zde hdl,rfl⟩,?_⟩;rw[zkV];exact⟨_,_,_,rfl,zal ha s5,zaa,by rw[zag hqa];exact eq5,k5.trans (KT.dct e5),st.1,st.2.1,st.2.2⟩
    .rintro σ H5 ⟨o4,Cs',f',rfl,s5,e5,eq5,k5,nd5,hm5,hf5⟩;have hwl:L.take ws.length=L:=zdH hw4.1;rw[hwl]at hm5 hf5;refine⟨_,_,_,Cs',f',rfl,s5,e5,nd5,λd=>?_,λd=>?_⟩
     .rw[hm5 d,hm2 d,zar hes1,hmL d];constructor
      .rintro (⟨es',h1,h2⟩ |h)
       .exact⟨es',BF _ h1,h2⟩
       .exact⟨es,Aw _ (Am.mpr rfl),h⟩
      .rintro⟨es',h1,h2⟩;rcases AC.mp h1 with h1 |h1
       .exact .inl ⟨es',h1,h2⟩
       .rw[Am.mp h1]at h2;exact .inr h2
     .rw[hf5 d,hf2 d,zar hes1,Ay,CJ];have h01:=wd_0m hc1.cl hsum d;have hmd:=hmL d;simp only[AO,DV,BH,List.sum_nil]
      by_cases z:d∈L
      .rw[if_pos z];have:=hmd.mp z;lia
      .rw[if_neg z];have:wd es d=0:=Ba λw=>z (hmd.mpr w);lia
  .rintro σ H2 ⟨o2,o3,o4,Cs,f,rfl,s2,e2,nd2,hm2,hf2⟩
   have hmem:∀c,(c∈Cs/\0<f c) ↔ c∈cs:=λc=>by
    obtain⟨m,hm⟩:=zib cs;have hw:=zln hcan.nd hcan.all (m:=m) (λc hc=>hm c (of_decide_eq_true hc)) c;rw[zjs]at hw
    have hfc:f c=if isIn cs c=true then 1 else 0:=by rw[hf2 c,<- hw,show us.length=ESS.length by rw[hv.1,hcan.al.length],AI]
    have hi:isIn cs c=true ↔ c∈cs:=by unfold isIn;exact decide_eq_true_iff
    constructor
    .rintro⟨_,h⟩
     by_cases z:c∈cs
     .exact z
     .rw[hfc,if_neg (λw=>z (hi.mp w))]at h;lia
    .intro z;rw[if_pos (hi.mpr z)]at hfc;refine⟨Ba λw=>?_,by lia⟩
     have:f c=0:=by
      rw[hf2 c];refine zd9 λx hx=>?_
      obtain⟨es,h,rfl⟩:=AE.mp hx;exact Ba λw2=>w ((hm2 c).mpr ⟨es,h,w2⟩)
     lia
   have hbl:Cs.length<=3660:=zeG nd2 λd hd=>by obtain⟨es',h1,h2⟩:=(hm2 d).mp hd;exact hbox es' (Bq h1) d h2
   refine⟨_,rfl,a,_,rfl,e2,λod g hg=>?_⟩;have s3:Same H (upd H2 a (.frz od (.dT (dep Cs f)))):=zal ha s2;have e3:upd H2 a (.frz od (.dT (dep Cs f))) a=some (.frz od (.dT (dep Cs f))):=zaa;generalize upd H2 a (.frz od (.dT (dep Cs f)))=H3 at s3 e3 hg;have hga:a≠g:=λz=>by rw[<- z,e3]at hg;cases hg
   refine zkN (a:=a) (od:=od) (kvs:=dep Cs f) (λi σ H4=>∃o0 o1,σ=[o0,o1]/\Same H H4/\H4 a=some (.frz od (.dT (dep Cs f)))/\∃zs,H4 g=some (.lst zs)/\VR zs ((Cs.take i).filter λc=>decide (0<f c)) cR H4)
    ⟨_,_,rfl,s3.trans (Same.up hg),by rw[zag hga];exact e3,[],zaa,VR.nil⟩ (λi σ H4 _ ⟨_,_,_,_,e4,_⟩=>e4) ?_ ?_
   .rintro i t b kk vv σ H4 hk ht hb ⟨o0,o1,rfl,s4,e4,zs,eg,hz⟩;obtain⟨c,hc,ec⟩:∃c,Cs[i]?=some c/\(ckey c,V.int (f c))=(kk,vv):=by unfold dep at hk;rw[AA]at hk;exact A4.mp hk
    cases ec
    have s5:Same H4 (upd H4 t (.tup [.ref b,.int (f c)])):=Same.up ht;have et:upd H4 t (.tup [.ref b,.int (f c)]) t=some (.tup [.ref b,.int (f c)]):=zaa;generalize upd H4 t (.tup [.ref b,.int (f c)])=H5 at s5 et;refine⟨t,_,rfl,SqT.of et,rfl,_,_,rfl,_,_,rfl,rfl,?_⟩;refine⟨_,rfl,_,_,rfl,rfl,_,rfl,?_⟩;rw[zar hc,DZ];have hz5:=hz.mono λx v h=>h.same s5
    have hzl:zs.length<=3660:=by
     rw[hz.1];have h1:=BV (λc=>decide (0<f c)) (Cs.take i);have h2:(Cs.take i).length<=Cs.length:=by rw[AS];lia
     lia
    refine ite2 (λhy=>?_) (λhn=>?_)
    .have hy':0<f c:=of_decide_eq_true hy;have eg5:=s5 _ _ eg;refine⟨_,rfl,zs,eg5,zde (by lia),_,_,rfl,zal (s3.free hg) (s4.trans s5),by rw[zag hga];exact s5 _ _ e4,_,zaa,?_⟩;rw[show [c].filter (λc=>decide (0<f c))=[c] by simp[hy']];exact hz5.snoc (λx v h=>h.kt (KT.lst eg5)) ⟨b,rfl,KT.lst eg5 _ _ (s5 _ _ hb)⟩
    .have hy':¬ 0<f c:=by simpa using hn
     refine⟨_,_,rfl,s4.trans s5,s5 _ _ e4,zs,s5 _ _ eg,?_⟩;rw[show [c].filter (λc=>decide (0<f c))=[] by simp[hy'],BJ];exact hz5
   .rintro σ H4 ⟨o0,o1,rfl,s4,e4,ws,eg,hw⟩;rw[show (dep Cs f).length=Cs.length by unfold dep;rw[Ah],AI]at hw;have ndR:(Cs.filter λc=>decide (0<f c)).Nodup:=nd2.filter _;have hRm:∀c,c∈(Cs.filter λc=>decide (0<f c)) ↔ c∈cs:=λc=>by rw[List.mem_filter,<- hmem c];simp
    generalize (Cs.filter λc=>decide (0<f c))=R' at hw ndR hRm;have ndc:cs.Nodup:=hord.imp λ{x y} h e=>by subst e;rcases h with h |h <;> lia
    have hRc:R'.Perm cs:=(List.perm_ext_iff_of_nodup ndR ndc).mpr hRm;have ge:∀(i:Nat) r,R'[i]?=some r->R'.getD i (0,0)=r:=λi r h=>by simp only[A8,h,Option.getD_some]
    refine⟨g,ws,λi=>[.int (R'.getD i (0,0)).2,.int (R'.getD i (0,0)).1],λi=>[(R'.getD i (0,0)).2,(R'.getD i (0,0)).1],rfl,SqL.of eg,by rw[hw.1,hRc.length_eq];lia,λi x H7 hx s7=>?_,
     λi j hi hj=>⟨_,_,_,_,_,_,rfl,rfl,.cons (.int _ _) .nil,rfl,rfl⟩,λpp D H7 hpm hpo hD s7 f7=>?_⟩
    .obtain⟨r,hr',c,rfl,hx'⟩:=hw.at hx;refine⟨c,r.1,r.2,[],rfl,SqT.of (s7 _ _ hx'),λp8 H8 hp8 s8 f8=>⟨s8,p8,rfl,SqT.of ?_⟩⟩;show H8 p8=some (HO.tup [.int (R'.getD i (0,0)).2,.int (R'.getD i (0,0)).1]);rw[ge i r hr'];exact f8
    .have hlt:∀i ∈ pp, i < R'.length := λi hi => by have:=DQ.mp (hpm.mem_iff.mp hi);rw[hw.1]at this;exact this
     have hRR:(pp.map λi=>R'.getD i (0,0)).Perm R':=by
      have h1:=hpm.map λi=>R'.getD i ((0,0):Cell)
      rw[hw.1]at h1
      have h2:((Bk R'.length).map λi=>R'.getD i ((0,0):Cell))=R':=by
       apply List.ext_getElem
       .simp
       .intro i a b;simp[show i<R'.length by simpa using a]
      rw[h2]at h1;exact h1
     have vR:VR (pp.map λi=>ws.getD i V.non) (pp.map λi=>R'.getD i (0,0)) cR H7:=by
      refine⟨by simp,λi r v h1 h2=>?_⟩;rw[AA]at h1 h2;obtain⟨a,ha,rfl⟩:=A4.mp h1;rw[ha]at h2
      cases h2
      have hal:=hlt a (Aj ha);have hal2:a<ws.length:=by rw[hw.1];exact hal
      have e1:R'.getD a (0,0)=R'[a]:=by simp[hal]
      have e2:ws.getD a V.non=ws[a]:=by simp[hal2]
      rw[e1];show cR R'[a] (ws.getD a V.non) H7;rw[e2];exact (hw.2 a _ _ (Ab hal) (Ab hal2)).kt (KT.of s7)
     have hX:(pp.map λi=>R'.getD i (0,0))=cs:=by
      refine List.Perm.eq_of_pairwise (le:=λa b:Cell=>¬ Ahd b a) (λa b _ _ h k=>?_) ?_ ?_ (hRR.trans hRc)
      .obtain⟨a1,a2⟩:=a;obtain⟨b1,b2⟩:=b;simp only[Ahd]at h k;have:a1=b1:=by lia
       have:a2=b2:=by lia
       simp[*]
      .rw[Cf];exact hpo.imp λ{i j} h z=>by rw[zmz]at h;exact h z
      .exact hord.imp λ{x y} h z=>by unfold Ahd at h z;lia
     rw[hX]at vR;exact k D H7 _ (s4.free hD) (s4.trans s7) f7 vR
theorem cpow{i j:Int}(h:0<=j/\j<=1000000/\i.natAbs<2 ^ 64):CPow i j:=h
theorem zjR{b:Int}(h0:0<b)(h:b<=6000):b.natAbs.log2<9000:=by refine (Nat.log2_lt (by lia)).mpr (AG (show b.natAbs<2 ^ 13 by lia) (Nat.pow_le_pow_right (by decide) (by decide)))
theorem zeo{cs:List Cell}(h:cs.Pairwise Bfr):InOrd cs:=by intro i c d h1 h2;have hi:=(Ad.mp h1).1;have hj:=(Ad.mp h2).1;have e1:=(Ad.mp h1).2;have e2:=(Ad.mp h2).2;have a:=BA.mp h i (i+1) hi hj (by lia);rw[e1,e2]at a;exact a
theorem znq{a b y:Int}(h:a<b):Bfr (a,y) (b,y):=by show HT.lexLt [y,a] [y,b]=true;rw[HT.lexLt_cons,if_pos rfl,HT.lexLt_cons,if_neg (by lia)];exact decide_eq_true h
theorem zoq{a b:Cell}(h:a.2<b.2):Bfr a b:=by show HT.lexLt [a.2,a.1] [b.2,b.1]=true;rw[HT.lexLt_cons,if_neg (by lia)];exact decide_eq_true h
noncomputable def zfu(K:W.Frag):Sp:=λvs H Q _=>∃(a:Addr) (ns:List Int) (k:Nat),vs=[.ref a,.int k]/\SqL K H a (ns.map V.int)/\∀n,Q (.int n) H
theorem zeN (T:Txt P w K mg) (d:Df K mg "_law_cell_at" zbU ["_law_script","_law_k"]):FnOk P w K mg base CX0 1 d.f d.fd ["_law_script","_law_k"] (zfu K):=by
 refine d.F.ok zef (λvs H Q E h=>?_) (λcdv A outer s H vs Q E hr h=>?_)
 .obtain⟨a,ns,k,rfl,_⟩:=h;rfl
 .obtain⟨a,ns,i,rfl,hq,k⟩:=h
  refine⟨_,(zac (ps_if (zax op_lt (pv 1) (zan zas (by rfl) T.nlen (by rfl) (pa_N (pv 0) zab)) (zau _))
   (zaf (zak (pe_ix zbX (pv 0) (pv 1) (λ_ _=>rfl))))
   zaB)
   (zaf (zak zah))),?_⟩
  refine⟨_,rfl,_,rfl,a,_,rfl,.inl hq,_,_,rfl,rfl,_,rfl,?_⟩;refine ite2 (λhy=>?_) (λhn=>k 0)
  have hlt:i<ns.length:=by have:=of_decide_eq_true hy;rw[Ah]at this;lia
  exact⟨_,rfl,_,rfl,a,_,_,_,rfl,rfl,hq,zaG (v:=.int ns[i]) (by simp[hlt]),k _⟩
noncomputable def spRow:Sp:=λvs H Q _=>∃(c b:Int) (m:Nat),vs=[.int c,.int m,.int b]/\m<=60/\0<b/\b<=6000/\∀p H' (ns:List Int),H p=none->Same H H'->H' p=some (.lst (ns.map V.int))->ns.length=m->(∀n∈ns,0<=n/\n<b)->Q (.ref p) H'
theorem zi1 (T:Txt P w K mg) (d:Df K mg "_law_row" zdu ["_law_cell","_law_many","_law_base"]):FnOk P w K mg base CX0 1 d.f d.fd ["_law_cell","_law_many","_law_base"] spRow:=by
 refine d.F.ok za8 (λvs H Q E h=>?_) (λcdv A outer s H vs Q E hr h=>?_)
 .obtain⟨c,b,m,rfl,_⟩:=h;rfl
 .obtain⟨c,b,m,rfl,hm,hb,hb2,k⟩:=h
  refine⟨_,(zac (sE 3 za8.nd (zbw zab))
   (zac (sE 4 za8.nd (pe_op zdh (pv 0) (pe_op zkh zah zah)))
   (zac (sE 5 za8.nd (pe_op zaV (pv 0) zah))
   (zac (zbm Bf rfl (zdf (by rfl) T.nrange (pa_N (pv 1) zab)) (nG 6 za8.nd)
   (zaf (ps_if (zax op_ge (pv 0) (pe_op zkh zah zah) (zau _))
   (zac (zaY (pe_bm A5 Bt Bu zaT (pv 3) (pa_B (pe_op zaV (pv 4) (pv 2)) zab)))
   (zaf (sE 4 za8.nd (pe_op zlM (pv 4) (pv 2)))))
   (zac (sE 5 za8.nd (pe_op zaV (pe_op zaW (pe_op zaW (pe_op zdi (pv 5) zah) (pe_op zdi (pe_op zdi (pv 6) (pv 6)) zah)) zah) zah))
   (zaf (zaY (pe_bm A5 Bt Bu zaT (pv 3) (pa_B (pe_op zaV (pe_op zfI (pe_op zaV (pe_op zdi (pv 5) (pv 5)) zah) zah) (pv 2)) zab))))))))
   (zaf (zak (pv 3))))))),?_⟩
  have hmod:∀z:Int,0<=z % b/\z % b<b:=λz=>⟨Int.emod_nonneg _ (by lia),ET _ hb⟩
  have hnum:∀z:Int,0<=z % 2147483629/\z % 2147483629<2147483629:=λz=>⟨Int.emod_nonneg _ (by decide),ET _ (by decide)⟩
  refine⟨(by show 0<=sizeLine;decide),λp hp=>?_⟩;have s1:Same H (upd H p (.lst [])):=Same.up hp;have e1:upd H p (.lst []) p=some (.lst []):=zaa;generalize upd H p (.lst [])=H1 at s1 e1;refine⟨_,rfl,_,_,rfl,rfl,(by refine cpow ?_;decide),_,_,rfl,rfl,?_⟩;refine⟨_,rfl,_,_,rfl,rfl,(by show (0:Int)<2147483629;decide),?_⟩;refine⟨_,rfl,_,rfl,(by lia),(by lia),?_⟩
  refine zbJ (lo:=0) (n:=m) (λi σ H2=>∃(l q:Int) (o:Option V) (ns:List Int),σ=[some (.int c),some (.int m),some (.int b),some (.ref p),some (.int l),some (.int q),o]/\0<=q/\q<2147483629/\Same H H2/\H2 p=some (.lst (ns.map V.int))/\ns.length=i/\∀n∈ns,0<=n/\n<b)
   ⟨_,_,_,[],rfl,(hnum c).1,(hnum c).2,s1,e1,rfl,by simp⟩ ?_ ?_
  .rintro i σ H2 hi ⟨l,q,o,ns,rfl,q0,q1,s2,e2,hl,hall⟩
   have snoc:∀z:Int,0<=z->z<b->(ns++[z]).length=i+1/\∀n∈ns++[z],0<=n/\n<b:=λz z0 z1=>⟨by rw[Av,hl];rfl,λn hn=>by
    rcases AC.mp hn with h |h
    .exact hall n h
    .rw[Am.mp h];exact⟨z0,z1⟩⟩
   refine⟨_,rfl,_,_,rfl,rfl,(by refine cpow ?_;decide),_,_,rfl,rfl,_,rfl,?_⟩;refine ite2 (λ_=>?_) (λ_=>?_)
   .refine⟨_,rfl,.inl ⟨rfl,_,SqL.of e2⟩,_,rfl,_,rfl,_,_,rfl,rfl,hb,p,_,_,rfl,rfl,e2,zaj (by rw[Ah];lia),?_⟩;refine⟨_,rfl,_,rfl,_,_,rfl,rfl,⟨hb,zjR hb hb2⟩,?_⟩;obtain⟨z1,z2⟩:=snoc (l % b) (hmod l).1 (hmod l).2;exact⟨_,q,_,ns++[l % b],rfl,q0,q1,zal hp s2,by rw[zaa,Ay];rfl,z1,z2⟩
   .refine⟨_,rfl,_,_,rfl,rfl,.inr ⟨by decide,by decide⟩,_,rfl,_,rfl,_,_,rfl,rfl,.inl ⟨by lia,by lia⟩,_,_,rfl,rfl,.inr ⟨by decide,by decide⟩,_,_,rfl,rfl,_,_,rfl,rfl,_,_,rfl,rfl,(by show (0:Int)<2147483629;decide),?_⟩;obtain⟨n0,n1⟩:=hnum (q*48271+(0+(i:Int))*(0+(i:Int))*69621+11);refine⟨_,rfl,.inl ⟨rfl,_,SqL.of e2⟩,_,rfl,_,rfl,_,_,rfl,rfl,.inl ⟨by lia,by lia⟩,_,_,rfl,rfl,(by show (0:Int)<2147483647;decide),_,_,rfl,rfl,⟨by decide,by decide⟩,_,rfl,_,_,rfl,rfl,hb,p,_,_,rfl,rfl,e2,zaj (by rw[Ah];lia),?_⟩;obtain⟨z1,z2⟩:=snoc (((q*48271+(0+(i:Int))*(0+(i:Int))*69621+11) % 2147483629)*((q*48271+(0+(i:Int))*(0+(i:Int))*69621+11) % 2147483629) % 2147483647 / 64 % b) (hmod _).1 (hmod _).2;exact⟨l,((q*48271+(0+(i:Int))*(0+(i:Int))*69621+11) % 2147483629),_,ns++[((q*48271+(0+(i:Int))*(0+(i:Int))*69621+11) % 2147483629)*((q*48271+(0+(i:Int))*(0+(i:Int))*69621+11) % 2147483629) % 2147483647 / 64 % b],rfl,n0,n1,zal hp s2,by rw[zaa,Ay];rfl,z1,z2⟩
  .rintro σ H2 ⟨l,q,o,ns,rfl,q0,q1,s2,e2,hl,hall⟩;exact⟨_,rfl,k p H2 ns hp s2 e2 hl hall⟩
noncomputable def rowX(ns:List Int)(sh dx y:Int)(n:Nat):List Cell:=((Bk n).filter λx=>decide (ns.getD x 0<=sh)).map λx:Nat=>((x:Int)+dx,y)
theorem zj2(ns:List Int)(sh dx y:Int)(n:Nat):rowX ns sh dx y (n+1)=rowX ns sh dx y n++(if ns.getD n 0<=sh then [((n:Int)+dx,y)] else []):=by
 unfold rowX;rw[List.range_succ,DZ,Ay]
 congr 1
 by_cases h:ns.getD n 0<=sh
 .rw[if_pos h]
  have e:(List.filter (λx=>decide (ns.getD x 0<=sh)) [n])=[n]:=by show (match decide (ns.getD n 0<=sh) with |true=>[n] |false=>[])=[n];rw[decide_eq_true h]
  rw[e];rfl
 .rw[if_neg h]
  have e:(List.filter (λx=>decide (ns.getD x 0<=sh)) [n])=[]:=by show (match decide (ns.getD n 0<=sh) with |true=>[n] |false=>[])=[];rw[decide_eq_false h]
  rw[e];rfl
theorem zel(ns:List Int)(sh dx y:Int)(n:Nat):(rowX ns sh dx y n).length<=n:=by
 unfold rowX;rw[Ah];refine A3 (BV _ _) ?_
 rw[CH];exact Ai _
theorem zmS(ns:List Int)(sh dx y:Int)(n:Nat):(rowX ns sh dx y n).Pairwise Bfr:=by unfold rowX;rw[Cf];refine (List.pairwise_lt_range.filter _).imp λ{a b} h=>znq (by lia)
theorem zmr{ns:List Int}{sh dx y:Int}{n:Nat}{c:Cell}(h:c∈rowX ns sh dx y n):c.2=y:=by obtain⟨x,_,rfl⟩:=AE.mp h;rfl
theorem znW{ns:List Int}{sh dx y:Int}{n:Nat}{c:Cell}(h:c∈rowX ns sh dx y n):dx<=c.1/\c.1<dx+n:=by obtain⟨x,hx,rfl⟩:=AE.mp h;have:=DQ.mp (Bz.mp hx).1;show dx<=(x:Int)+dx/\(x:Int)+dx<dx+n;lia
noncomputable def zh7(K:W.Frag):Sp:=λvs H Q _=>∃(a:Addr) (ns:List Int) (st:Nat),vs=[.ref a,.int st]/\SqL K H a (ns.map V.int)/\∀p H' vs cs,H p=none->Same H H'->H' p=some (.lst vs)->VR vs cs cR H'->cs.Pairwise Bfr->cs.length<=120->(∃l lo:Int,∀c∈cs,l<=c.1/\c.1<l+60/\lo<=c.2/\c.2<lo+60)->Q (.ref p) H'
theorem six{α:Type}{l:List α}(h:l.length=6):∃a b c d e f,l=[a,b,c,d,e,f]:=by
 match l,h with
 |[a,b,c,d,e,f],_=>exact⟨a,b,c,d,e,f,rfl⟩
theorem zeM (T:Txt P w K mg) (g__law_cell_at:Fn P w K mg base 1 "_law_cell_at" ["_law_script", "_law_k"] (zfu K)) (g__law_row:Fn P w K mg base 1 "_law_row" ["_law_cell", "_law_many", "_law_base"] spRow)
    (d:Df K mg "_law_picture" zbt ["_law_script","_law_start"]):FnOk P w K mg base CX0 2 d.f d.fd ["_law_script","_law_start"] (zh7 K):=by
  refine d.F.ok zap (λvs H Q E h=>?_) (λcdv A outer s H vs Q E hr h=>?_)
  . obtain⟨a,ns,st,rfl,_⟩:=h;rfl
  . obtain⟨a,ns,st,rfl,hS,k⟩:=h;have nb0:(["_law_x","_law_y","_law_far","_law_row_here","_law_share","_law_left","_law_low"]:List Str).Nodup:=by decide +kernel
    refine⟨_,(zac (zbP (pC g__law_row hr (zai (pC g__law_cell_at hr (pa_N (pv 0) (pa_N (pv 1) zab))) (pa_C zah (pa_C zah zab)))) (zmu (by rfl) (zae (nG 2 zap.nd) (zae (nG 3 zap.nd) (zae (zdx (i:=4) zap.nd (by rfl) (EQ rfl)) (zae (zdx (i:=5) zap.nd (by rfl) (EQ rfl)) (zae (zdx (i:=6) zap.nd (by rfl) (EQ rfl)) (zae (nG 7 zap.nd) zat))))))))
      (zac (zgB (i:=8) zap.nd (by rfl) (EQ rfl) (pe_ix zbX (zbw (pa_C zah (pa_B (pe_op zkh zah zah) zab))) (pe_op zfI (pv 7) zah) (λ_ _=>rfl)))
      (zac (sE 9 zap.nd (zbw zab))
      (zac (zbm Bf rfl (zdf (by rfl) T.nrange (pa_B (pe_op zaW zah (pe_op zaV (pv 3) zah)) zab)) (zdx (i:=10) zap.nd (by rfl) (EQ rfl))
      (zac (zgB (i:=11) zap.nd (by rfl) (EQ rfl) (pC g__law_row hr (pa_B (pe_op zaW (pC g__law_cell_at hr (pa_N (pv 0) (pa_B (pe_op zaW (pe_op zaW (pv 1) zah) (pv 10)) zab))) (pv 10)) (pa_B (pe_op zaW zah (pe_op zaV (pv 2) zah)) (pa_C zah zab)))))
      (zaf (zaY (pe_bm A5 EF EG zex (pv 9) (zai (zaI (osc:=zad zbt) (N:=zcR) (N':=["_law_x","_law_y","_law_far","_law_row_here","_law_share","_law_left","_law_low"]) (sel:=[none,some 10,some 8,some 11,some 4,some 5,some 6]) bO (zdf (by rfl) T.nrange (zai (zan zas (by rfl) T.nlen (by rfl) (pa_N (pv 11) zab)) zab)) (λ_ _ _ _ _=>(nG 0 nb0)) (λ_ _ _ _ _=>zcX (zax op_le (pe_ix (zfZ (K:=K)) (pv 3) (pv 0) (λ_ _=>rfl)) (pe_op zaV (pv 4) zah) (zau _))) (λ_ _ _ _ _=>(zaO (pa_B (pe_op zaW (pv 0) (pe_op zdi (pe_op zdh (pv 5) zah) (pv 2))) (pa_B (pe_op zaW (pv 1) (pe_op zdi (pe_op zdh (pv 6) zah) (pv 2))) zab))))) zab))))))
      (zaf (zak (pv 9))))))),?_⟩
    refine⟨_,rfl,_,rfl,a,ns,st,rfl,hS,λc0=>⟨c0,60,6,rfl,by decide,by decide,by decide,λp1 H1 ms hp1 s1 e1 hl1 hb1=>?_⟩⟩;obtain⟨wd,hg,sh,lf,lw,wy,rfl⟩:=six hl1;have bw:=hb1 wd (by simp);have bh:=hb1 hg (by simp);have bl:=hb1 lf (by simp);have bo:=hb1 lw (by simp);have by':=hb1 wy (by simp);refine⟨p1,_,rfl,SqL.of e1,rfl,_,_,rfl,_,_,rfl,_,_,rfl,_,_,rfl,_,_,rfl,_,_,rfl,rfl,?_⟩;refine⟨_,_,rfl,rfl,(by refine cpow ?_;decide),two,λl2 hl2=>?_⟩;have s2:Same H1 (upd H1 l2 (.lst [.int 1,.int (10 ^ (28:Int).toNat)])):=Same.up hl2;have e2:upd H1 l2 (.lst [.int 1,.int (10 ^ (28:Int).toNat)]) l2=some (.lst [.int 1,.int (10 ^ (28:Int).toNat)]):=zaa;generalize upd H1 l2 (.lst [.int 1,.int (10 ^ (28:Int).toNat)])=H2 at s2 e2
    obtain⟨far,hfar⟩:∃far:Int,atI [V.int 1,V.int (10 ^ (28:Int).toNat)] (wy / 50)=some (.int far):=by
      have:wy / 50=0∨wy / 50=1:=by lia
      rcases this with z |z <;> rw[z]
      . exact⟨_,rfl⟩
      . exact⟨_,rfl⟩
    refine⟨_,rfl,_,_,rfl,rfl,⟨by decide,by decide⟩,l2,_,_,_,rfl,rfl,SqL.of e2,hfar,?_⟩;refine⟨(by show 0<=sizeLine;decide),λf hf=>?_⟩;have s3:Same H2 (upd H2 f (.lst [])):=Same.up hf;have e3:upd H2 f (.lst []) f=some (.lst []):=zaa;generalize upd H2 f (.lst [])=H3 at s3 e3;have s02:=s1.trans s2;have hf0:H f=none:=s02.free hf;have s03:=s02.trans s3;have hh0:=Int.emod_nonneg hg (show (10:Int)≠0 by decide);have hh1:=ET hg (show (0:Int)<10 by decide);have hw0:=Int.emod_nonneg wd (show (12:Int)≠0 by decide);have hw1:=ET wd (show (0:Int)<12 by decide);refine⟨_,rfl,_,_,rfl,rfl,(by show (0:Int)<10;decide),_,_,rfl,rfl,_,rfl,(by show -(2 ^ 62)<=1+hg % 10;lia),(by show 1+hg % 10<2 ^ 62;lia),?_⟩
    refine zbJ (lo := 0) (n := (1 + hg % 10).toNat) (λi σ H4 => ∃o10 o11, σ = [some (.ref a), some (.int st), some (.int wd), some (.int hg), some (.int sh), some (.int lf), some (.int lw), some (.int wy), some (.int far), some (.ref f), o10, o11] /\ Same H H4 /\
        ∃vs cs,H4 f=some (.lst vs)/\VR vs cs cR H4/\cs.Pairwise Bfr/\(∀c∈cs,c.2<(i:Int)+(lw-30)*far/\(lw-30)*far<=c.2/\(lf-30)*far<=c.1/\c.1<(lf-30)*far+12)/\cs.length<=12*i)
      ⟨_,_,rfl,s03,[],[],e3,VR.nil,.nil,by simp,Bd _⟩ ?_ ?_
    . rintro i σ H4 hi ⟨o10,o11,rfl,s4,vs,cs,e4,hv4,hpw,hup,hcl⟩;have hi10:i<10:=by lia
      refine⟨_,rfl,_,rfl,_,_,rfl,rfl,_,rfl,_,_,rfl,rfl,a,ns,st+1+i,(by rw[Int.zero_add];rfl),s4.seq hS,λc1=>⟨_,rfl,_,_,rfl,rfl,?_⟩⟩;refine⟨_,rfl,_,_,rfl,rfl,(by show (0:Int)<12;decide),_,_,rfl,rfl,_,4,(1+wd % 12).toNat,(by rw[Int.toNat_of_nonneg (by lia)];rfl),by lia,by decide,by decide,λp5 H5 rs hp5 s5 e5 hl5 _=>?_⟩;have e45:=s5 _ _ e4;refine⟨_,rfl,.inl ⟨rfl,_,SqL.of e45⟩,_,rfl,p5,_,rfl,.inl (SqL.of e5),_,rfl,(by rw[Ah];lia),(by rw[Ah];lia),λg hg5=>?_⟩;rw[show ((((rs.map V.int).length:Nat):Int)).toNat=rs.length by rw[Ah];rfl];have hrl:rs.length<=12:=by lia
      refine zbJ (lo:=0) (n:=rs.length) (λj σ H6=>∃o0,σ=[o0,some (.int (0+(i:Int))),some (.int far),some (.ref p5),some (.int sh),some (.int lf),some (.int lw)]/\Same H5 H6/\∃zs,H6 g=some (.lst zs)/\VR zs (rowX rs (sh % 3) ((lf-30)*far) ((i:Int)+(lw-30)*far) j) cR H6)
        ⟨_,rfl,Same.up hg5,[],zaa,VR.nil⟩ ?_ ?_
      . rintro j σ H6 hj ⟨o0,rfl,s6,zs,e6,hz6⟩;have hzl:zs.length<=12:=by rw[hz6.1];have:=zel rs (sh % 3) ((lf-30)*far) ((i:Int)+(lw-30)*far) j;lia
        have hget:(rs.map V.int)[j]?=some (.int (rs.getD j 0)):=by rw[AA,A8,Ab hj];rfl
        refine⟨_,rfl,_,rfl,p5,_,_,_,rfl,rfl,SqL.of (s6 _ _ e5),(by rw[Int.zero_add];exact zaG hget),_,rfl,_,_,rfl,rfl,(by show (0:Int)<3;decide),_,_,rfl,rfl,_,rfl,?_⟩;rw[zj2];refine ite2 (λhy=>?_) (λhn=>?_)
        . rw[if_pos (of_decide_eq_true hy)];refine⟨_,rfl,_,rfl,_,_,rfl,rfl,_,rfl,_,_,rfl,rfl,.inl ⟨by lia,by lia⟩,_,_,rfl,rfl,?_⟩;refine⟨_,rfl,_,rfl,_,_,rfl,rfl,_,rfl,_,_,rfl,rfl,.inl ⟨by lia,by lia⟩,_,_,rfl,rfl,two,λt ht=>?_⟩;have s7:Same H6 (upd H6 t (.tup [.int (0+(j:Int)+(lf-30)*far),.int (0+(i:Int)+(lw-30)*far)])):=Same.up ht;have r7:cR ((j:Int)+(lf-30)*far,(i:Int)+(lw-30)*far) (.ref t) (upd H6 t (.tup [.int (0+(j:Int)+(lf-30)*far),.int (0+(i:Int)+(lw-30)*far)])):=⟨t,rfl,by rw[zaa,Int.zero_add,Int.zero_add];rfl⟩;generalize upd H6 t (.tup [.int (0+(j:Int)+(lf-30)*far),.int (0+(i:Int)+(lw-30)*far)])=H7 at s7 r7;have e7:=s7 _ _ e6;refine⟨zs,e7,zaj (by lia),_,rfl,zal hg5 (s6.trans s7),_,zaa,?_⟩;exact hz6.snoc (λx v h=>(h.kt (KT.of s7)).kt (KT.lst e7)) (r7.kt (KT.lst e7))
        . rw[if_neg (by simpa using hn)];exact⟨_,rfl,s6,zs,e6,by rw[BJ];exact hz6⟩
      . rintro σ H6 ⟨o0,rfl,s6,zs,e6,hz6⟩;have hrx:=zel rs (sh % 3) ((lf-30)*far) ((i:Int)+(lw-30)*far) rs.length;have hzl:zs.length<=12:=by rw[hz6.1];lia
        have hvl:vs.length<=120:=by rw[hv4.1];lia
        have e46:=s6 _ _ e45;refine⟨f,g,_,_,rfl,rfl,e46,e6,BZ (zaj (by lia)),?_⟩;have k7:KT H6 (upd H6 f (.lst (vs++zs))):=KT.lst e46;refine⟨_,_,rfl,zal hf0 (s4.trans (s5.trans s6)),_,_,zaa,(hv4.mono λx v h=>(h.kt (KT.of (s5.trans s6))).kt k7).app (hz6.mono λx v h=>h.kt k7),?_,?_,?_⟩
        . refine AX.mpr ⟨hpw,zmS _ _ _ _ _,λx hx y hy=>zoq ?_⟩;have:=(hup x hx).1;rw[zmr hy];exact this
        . intro c hc;rcases AC.mp hc with h |h
          . have:=hup c h;lia
          . have e1:=zmr h;have e2:=znW h;lia
        . rw[Av];lia
    . rintro σ H4 ⟨o10,o11,rfl,s4,vs,cs,e4,hv4,hpw,hup,hcl⟩;exact⟨_,rfl,k f H4 vs cs hf0 s4 e4 hv4 hpw (by lia) ⟨(lf-30)*far,(lw-30)*far,λc hc=>by have:=hup c hc;lia⟩⟩
theorem znr{a b:Cell}:Bfr a b ↔ Ahd a b:=by
 have h:=zmz (a:=a.2) (b:=a.1) (c:=b.2) (d:=b.1);unfold Bfr Ahd
 cases e:HT.lexLt [a.2,a.1] [b.2,b.1] with
 |false=>simp only[Bn,false_iff];exact h.mp e
 |true =>
  simp only[true_iff];exact Ba λz=>by rw[h.mpr z]at e;cases e
theorem zkv{α:Type}:∀{L:List (List α)},(∀l∈L,0<l.length)->L.length<=L.flatten.length
 |[],_=>Ai _
 |a::r,h=>by
  have h1:=h a Ap;have h2:=zkv λl hl=>h l (As _ hl)
  rw[Br,Av,AZ];lia
noncomputable def zh6(K:W.Frag):Sp:=λvs H Q _=>∃(p q:Addr) (us ws:List V) (R:List Rnd),vs=[.ref p,.ref q]/\H p=some (.lst us)/\H q=some (.lst ws)/\VR us R rR H/\VR ws R rR H/\R.length<=480/\(∀r∈R,SoOk r)/\∀H',Same H H'->Q .non H'
noncomputable def zjH(K:W.Frag):Sp:=λvs H Q _=>∃(p:Addr) (us:List V) (R R0:List Rnd) (cs:List Cell),vs=[.ref p]/\H p=some (.lst us)/\VR us R rR H/\R.Perm R0/\InKey R/\Whole cs R0/\cs.Pairwise Bfr/\cs.length<=120 /\
 (∃l lo:Int,∀c∈cs,l<=c.1/\c.1<l+60/\lo<=c.2/\c.2<lo+60)/\∀g H' zs,H g=none->Same H H'->H' g=some (.lst zs)->VR zs cs cR H'->Q (.ref g) H'
theorem zfL (g_cells_told:Fn P w K mg base 8 "cells_told" ["some"] (zmm K)) (g_first_unlike:Fn P w K mg base 2 "first_unlike" ["some","others"] (zh6 K)) (g_rounds:Fn P w K mg base 7 "rounds" ["picture"] (zfs K)) (d:Df K mg "picture_of" zcs ["some"]):FnOk P w K mg base CX0 9 d.f d.fd ["some"] (zjH K):=by
 refine d.F.ok zb3 (λvs H Q E h=>?_) (λcdv A outer s H vs Q E hr h=>?_)
 .obtain⟨p,us,R,R0,cs,rfl,_⟩:=h;rfl
 .obtain⟨p,us,R,R0,cs,rfl,hp,hv,hpm,hin,hwh,hbf,hcl,⟨l,lo,hB⟩,k⟩:=h
  refine⟨_,(zac (sE 1 zb3.nd (pC g_cells_told hr (pa_N (pv 0) zab)))
   (zac (sE 2 zb3.nd (pC g_first_unlike hr (pa_N (pv 0) (zai (pC g_rounds hr (pa_N (pv 1) zab)) zab))))
   (zac (ps_if (zax zep (pv 2) zb0 (zau _))
   (zaf zd2)
   zaB)
   (zaf (zak (pv 1)))))),?_⟩
  obtain⟨ESS,hcan⟩:=Whole.cans hpm hwh;have hE:∀es∈ESS,∀e∈es,IsE (isIn cs) e:=λes hes e he=>(hcan.all e).mp (CA.mpr ⟨es,hes,he⟩)
  have hshort:∀es∈ESS,es.length<=480:=λes hes=>by
   obtain⟨j,hj,ej⟩:=AD hes;have hjR:j<R.length:=by rw[hcan.al.length];exact hj
   have:=(hcan.al.at (i:=j) (b:=es) (by rw[Ab hj,ej]) (Ab hjR)).cl.1.short;lia
  refine⟨_,rfl,p,us,R,ESS,cs,rfl,hp,hv,hcan,hshort,⟨l,lo,λes hes e he=>hB e.c (of_decide_eq_true (hE es hes e he).2.1)⟩,hbf.imp λh=>znr.mp h,hcl,λg H1 zs hg s1 e1 hz1=>?_⟩;refine⟨_,rfl,_,rfl,g,cs,rfl,LR.of e1 hz1,zeo hbf,hcl,λq H2 ws S S0 hq s2 e2 hw2 hpS hkS hwS=>?_⟩;have hS:S=R:=Whole.one hpS hpm hkS hin hwS hwh;subst hS
  have hRl:S.length<=480:=by
   have h1:=hcan.al.length
   have h2:ESS.length<=ESS.flatten.length:=zkv λes hes=>by
    obtain⟨j,hj,ej⟩:=AD hes;have hjR:j<S.length:=by rw[hcan.al.length];exact hj
    exact (hcan.al.at (i:=j) (b:=es) (by rw[Ab hj,ej]) (Ab hjR)).cl.pos
   have h3:ESS.flatten.length<=(sides cs).length:=zaA hcan.nd λe he=>zb1.mpr ⟨of_decide_eq_true ((hcan.all e).mp he).2.1,((hcan.all e).mp he).1⟩
   rw[zbe]at h3;lia
  refine⟨p,q,us,ws,S,rfl,s2 _ _ (s1 _ _ hp),e2,hv.mono λx v h=>h.kt (KT.of (s1.trans s2)),hw2,hRl,λr h=>hwh.so r (hpm.mem_iff.mp h),λH3 s3=>?_⟩;refine⟨_,rfl,rfl,_,rfl,iteF ?_⟩;exact⟨_,rfl,k g H3 zs hg ((s1.trans s2).trans s3) (s3 _ _ (s2 _ _ e1)) (hz1.mono λx v h=>h.kt (KT.of (s2.trans s3)))⟩
theorem zet (T:Txt P w K mg) (d:Df K mg "first_unlike" zbT ["some","others"]):FnOk P w K mg base CX0 2 d.f d.fd ["some","others"] (zh6 K):=by
 refine d.F.ok zbi (λvs H Q E h=>?_) (λcdv A outer s H vs Q E hr h=>?_)
 .obtain⟨p,q,us,ws,R,rfl,_⟩:=h;rfl
 .obtain⟨p,q,us,ws,R,rfl,hp,hq,hu,hw,hl,hsk,k⟩:=h;have hu64:=hr.units
  refine⟨_,(zac (zbm Bf rfl (ziW (by rfl) T.nenumerate (by rfl) T.nzip (pa_N (pv 0) (pa_N (pv 1) zab))) (zbh (by rfl) (zae (nG 2 zbi.nd) (zae (zbh (by rfl) (zae (nG 3 zbi.nd) (zae (nG 4 zbi.nd) zat))) zat)))
   (zaf (ps_if (zax (zkj hu64) (pv 3) (pv 4) (zau _))
   (zaf (zak (pv 2)))
   zaB)))
   (zac (ps_if (zax op_ne (zan zas (by rfl) T.nlen (by rfl) (pa_N (pv 0) zab)) (zan zas (by rfl) T.nlen (by rfl) (pa_N (pv 1) zab)) (zau _))
   (zaf (zak (zan (zla rfl) (by rfl) T.nmin (by rfl) (zai (zan zas (by rfl) T.nlen (by rfl) (pa_N (pv 0) zab)) (zai (zan zas (by rfl) T.nlen (by rfl) (pa_N (pv 1) zab)) zab)))))
   zaB)
   (zaf (zak zb0)))),?_⟩
  refine⟨_,rfl,_,rfl,p,q,rfl,⟨_,SqL.of hp⟩,⟨_,SqL.of hq⟩,?_⟩;have hlen:us.length=ws.length:=by rw[hu.1,hw.1]
  refine zhM (K:=K) (a:=p) (b:=q) (xs:=us) (ys:=ws) hlen (λj σ H2=>∃o2 o3 o4,σ=[some (.ref p),some (.ref q),o2,o3,o4]/\Same H H2)
   ⟨_,_,_,rfl,Same.refl _⟩ (λj σ H2 _ ⟨_,_,_,_,s2⟩=>⟨SqL.of (s2 _ _ hp),SqL.of (s2 _ _ hq)⟩) ?_ ?_
  .rintro j x y σ H2 o t hx hy ⟨o2,o3,o4,rfl,s2⟩ ht ho hne;obtain⟨r,hr1,hxr⟩:=hu.at hx;obtain⟨r',hr2,hyr⟩:=hw.at hy;rw[hr1]at hr2
   cases hr2
   have s3:Same H2 (upd (upd H2 t (.tup [x,y])) o (.tup [.int j,.ref t])):=(Same.up ht).trans (Same.up (by rw[zag hne.symm];exact ho));have eo:upd (upd H2 t (.tup [x,y])) o (.tup [.int j,.ref t]) o=some (.tup [.int j,.ref t]):=zaa;have et:upd (upd H2 t (.tup [x,y])) o (.tup [.int j,.ref t]) t=some (.tup [x,y]):=by rw[zag hne];exact zaa
   generalize upd (upd H2 t (.tup [x,y])) o (.tup [.int j,.ref t])=H3 at s3 eo et;refine⟨o,_,rfl,SqT.of eo,rfl,_,_,rfl,_,_,rfl,⟨t,_,rfl,SqT.of et,rfl,_,_,rfl,_,_,rfl,rfl,?_⟩⟩;have s13:=s2.trans s3;have hm:=Aj hr1;refine⟨rfl,_,rfl,_,rfl,dR r,dR r,zic (rR.kt hxr (KT.of s13)),zic (rR.kt hyr (KT.of s13)),zgw (hsk r hm),zgw (hsk r hm),_,rfl,iteN (by rw[zok];simp) ?_⟩;exact⟨_,_,_,rfl,s13⟩
  .rintro σ H2 ⟨o2,o3,o4,rfl,s2⟩;refine⟨_,rfl,p,us,rfl,.inl (SqL.of (s2 _ _ hp)),_,rfl,q,ws,rfl,.inl (SqL.of (s2 _ _ hq)),rfl,_,rfl,iteN (by rw[hlen];simp) ?_⟩;exact k H2 s2
theorem sv_eq{a b:Option Nat}:sv a=sv b ↔ a=b:=by
 constructor
 .intro h
  cases a <;> cases b <;> first |rfl | (injection h with h;congr 1;lia) |cases h
 .intro h;rw[h]
theorem zmP(a b:Option Nat):scal (sv a) (sv b)=true:=by cases a <;> cases b <;> rfl
theorem zlt{C:Cell->Bool}{e:Edge}(hw:e.w<4){n:Nat}(h:stepB C e=some n):n<8:=by
 unfold stepB at h;split at h
 .injection h with h;lia
 .split at h
  .injection h with h;lia
  .cases h
noncomputable def zh9:Sp:=λvs H Q _=>∃(v:V) (r:Rnd) (C:Cell->Bool) (es:List Edge),vs=[v]/\rR r v H/\Can C es r/\es.length<=480/\∀H',Same H H'->Q (.bl true) H'
theorem zgK (g_walk_of:Fn P w K mg base 5 "walk_of" ["one"] (zdY K)) (d:Df K mg "ask_round" zcW ["one"]):FnOk P w K mg base CX0 6 d.f d.fd ["one"] zh9:=by
 refine d.F.ok zgy (λvs H Q E h=>?_) (λcdv A outer s H vs Q E hr h=>?_)
 .obtain⟨v,r,C,es,rfl,_⟩:=h;rfl
 .obtain⟨v,r,C,es,rfl,hx,hcan,hel,k⟩:=h
  refine⟨_,(zac (zaY (pC g_walk_of hr (pa_N (pv 0) zab)))
   (zaf (zak pe_bl))),?_⟩
  exact⟨_,rfl,v,r,C,es,rfl,hx,hcan.cl,hcan.row,hcan.bg,hcan.so,by lia,λp H' ws _ s' _ _=>k H' s'⟩
noncomputable def spWh:Sp:=λvs H Q _=>∃n:Int,vs=[.int n]/\Q (.bl true) H
theorem zhC (T:Txt P w K mg) (d:Df K mg "is_whole" zdq ["thing"]):FnOk P w K mg base CX0 1 d.f d.fd ["thing"] spWh:=by
 refine d.F.ok zhr (λvs H Q E h=>?_) (λcdv A outer s H vs Q E hr h=>?_)
 .obtain⟨n,rfl,_⟩:=h;rfl
 .obtain⟨n,rfl,k⟩:=h;refine⟨_,(zaf (zak (zcj (zan zcf (by rfl) T.nisinstance (by rfl) (pa_N (pv 0) (pa_N (zcY (v:=.ty "int") (by rfl) T.nint (by rfl) rfl) zab))) (zdg (zn3 (zan zcf (by rfl) T.nisinstance (by rfl) (pa_N (pv 0) (pa_N (zcY (v:=.ty "bool") (by rfl) T.nbool (by rfl) rfl) zab)))))))),?_⟩;refine⟨_,rfl,.int n,"int",_,true,rfl,.int n,zcb _ _,_,rfl,iteT ?_⟩;exact⟨_,rfl,.int n,"bool",_,false,rfl,.int n,zgP _,_,rfl,k⟩
noncomputable def zjL:Sp:=λvs H Q _=>∃(b:Addr) (row:List Nat),vs=[.ref b]/\H b=some (.tup (rowV row))/\row.length<=500/\(∀n∈row,n<8)/\∀H',Same H H'->Q (.bl true) H'
theorem zkm (T:Txt P w K mg) (g_is_whole:Fn P w K mg base 1 "is_whole" ["thing"] spWh) (d:Df K mg "is_row" zdZ ["thing"]):FnOk P w K mg base CX0 2 d.f d.fd ["thing"] zjL:=by
 refine d.F.ok zjY (λvs H Q E h=>?_) (λcdv A outer s H vs Q E hr h=>?_)
 .obtain⟨b,row,rfl,_⟩:=h;rfl
 .obtain⟨b,row,rfl,q2,hlen,h8,k⟩:=h;have nb0:(["step"]:List Str).Nodup:=by decide +kernel
  refine⟨_,(zaf (zak (zcj (zan zcf (by rfl) T.nisinstance (by rfl) (pa_N (pv 0) (pa_N (zcY (v:=.ty "tuple") (by rfl) T.ntuple (by rfl) rfl) zab))) (zdg (zan (zcA rfl) (by rfl) T.nall (by rfl) (zai (zaI (osc:=zad zdZ) (N:=ziK) (N':=["step"]) (sel:=[none]) bO (zka (pv 0)) (λ_ _ _ _ _=>(nG 0 nb0)) (λ_ _ _ _ _=>zbl) (λ_ _ _ _ _=>(zcj (pC g_is_whole hr (pa_N (pv 0) zab)) (zdg (zlL op_le op_le zah (pv 0) zah))))) zab)))))),?_⟩;refine⟨_,rfl,.ref b,"tuple",_,true,rfl,.tup q2,zcb _ _,_,rfl,iteT ?_⟩;refine⟨_,rfl,b,rfl,⟨_,SqT.of q2⟩,λq hq=>?_⟩
  refine zhL (K:=K) (a:=b) (xs:=rowV row) (λj σ H9=>∃o,σ=[o]/\Same H H9/\H9 q=some (.lst ((Ar j true).map V.bl)))
   ⟨_,rfl,Same.up hq,zaa⟩ (λj σ H9 _ ⟨_,_,s9,_⟩=>SqT.of (s9 _ _ q2)) ?_ ?_
  .rintro j v σ H9 hj ⟨o,rfl,s9,e9⟩;unfold rowV at hj;have hjl:j<row.length:=by have:=(Ad.mp hj).1;rw[Ah]at this;exact this
   rw[AA]at hj;obtain⟨n,hn,rfl⟩:=A4.mp hj;have hn8:=h8 n (Aj hn);refine gN ?_
   refine⟨_,rfl,(n:Int),rfl,_,rfl,iteT ?_⟩;refine⟨_,rfl,_,_,rfl,rfl,_,rfl,iteY (decide_eq_true (by lia)) ?_⟩;refine⟨_,_,rfl,rfl,?_⟩;have h7:decide ((n:Int)<=7)=true:=decide_eq_true (by lia);refine⟨_,e9,zaj (by simp;lia),_,rfl,zal hq s9,?_⟩;rw[zaa,Ej,Ay];show some (HO.lst (_++[V.bl (decide ((n:Int)<=7))]))=_;rw[h7];rfl
  .rintro σ H9 ⟨o,rfl,s9,e9⟩;refine⟨q,Ar (rowV row).length true,rfl,SqL.of e9,?_⟩;rw[show (Ar (rowV row).length true).all id=true by simp];exact k H9 s9
noncomputable def zmq:Sp:=λvs H Q _=>∃(v:V) (r:Rnd),vs=[v]/\rR r v H/\SoOk r/\r.row.length<=500/\(∀n∈r.row,n<8)/\∀H',Same H H'->Q (.bl true) H'
theorem zhF (T:Txt P w K mg) (g_is_whole:Fn P w K mg base 1 "is_whole" ["thing"] spWh) (g_is_row:Fn P w K mg base 2 "is_row" ["thing"] zjL) (d:Df K mg "has_form" zdt ["thing"]):FnOk P w K mg base CX0 3 d.f d.fd ["thing"] zmq:=by
 refine d.F.ok zbE (λvs H Q E h=>?_) (λcdv A outer s H vs Q E hr h=>?_)
 .obtain⟨v,r,rfl,_⟩:=h;rfl
 .obtain⟨v,r,rfl,⟨a,b,rfl,q1,q2⟩,hso,hlen,h8,k⟩:=h
  refine⟨_,(zac (ps_if (pw_or (zcN (zci (zan zcf (by rfl) T.nisinstance (by rfl) (pa_N (pv 0) (pa_N (zcY (v:=.ty "tuple") (by rfl) T.ntuple (by rfl) rfl) zab))))) (zem (zax op_ne (zan zas (by rfl) T.nlen (by rfl) (pa_N (pv 0) zab)) zah (zau _)))).pt
   (zaf (zak pe_bl))
   zaB)
   (zac (zbP (pv 0) (zbh (by rfl) (zae (nG 1 zbE.nd) (zae (nG 2 zbE.nd) (zae (nG 3 zbE.nd) (zae (nG 4 zbE.nd) zat))))))
   (zaf (zak (zcj (zan zcf (by rfl) T.nisinstance (by rfl) (pa_N (pv 1) (pa_N (zcY (v:=.ty "str") (by rfl) T.nstr (by rfl) rfl) zab))) (zcj (zke (zkf (by rfl) T.ways T.nsys (pv 1))) (zcj (pC g_is_whole hr (pa_N (pv 2) zab)) (zcj (pC g_is_whole hr (pa_N (pv 3) zab)) (zdg (pC g_is_row hr (pa_N (pv 4) zab))))))))))),?_⟩
  refine⟨_,rfl,.ref a,"tuple",_,true,rfl,.tup q1,zcb _ _,_,rfl,iteF ?_⟩;refine⟨_,rfl,a,_,rfl,.inr (SqT.of q1),?_⟩;refine⟨rfl,_,rfl,iteN rfl ?_⟩;refine⟨_,rfl,a,_,rfl,SqT.of q1,rfl,_,_,rfl,_,_,rfl,_,_,rfl,_,_,rfl,rfl,?_⟩;refine⟨_,rfl,_,_,_,_,rfl,.str _,zcb _ _,_,rfl,iteT ?_⟩;refine⟨_,rfl,(by rcases hso with z |z <;> rw[z] <;> simp),_,rfl,iteT ?_⟩;refine⟨_,rfl,r.x,rfl,_,rfl,iteT ?_⟩;refine⟨_,rfl,r.y,rfl,_,rfl,iteT ?_⟩;exact⟨_,rfl,b,r.row,rfl,q2,hlen,h8,k⟩
theorem zhE (g_has_form:Fn P w K mg base 3 "has_form" ["thing"] zmq) (g_ask_round:Fn P w K mg base 6 "ask_round" ["one"] zh9) (d:Df K mg "is_round" zds ["thing"]):FnOk P w K mg base CX0 7 d.f d.fd ["thing"] zh9:=by
 refine d.F.ok zht (λvs H Q E h=>?_) (λcdv A outer s H vs Q E hr h=>?_)
 .obtain⟨v,r,C,es,rfl,_⟩:=h;rfl
 .obtain⟨v,r,C,es,rfl,hx,hcan,hel,k⟩:=h
  refine⟨_,(zac (ps_if (zcN (zci (pC g_has_form hr (pa_N (pv 0) zab))))
   (zaf (zak pe_bl))
   zaB)
   (zaf (zmX (zaf (zak (pC g_ask_round hr (pa_N (pv 0) zab))))))),?_⟩
  have hE:=hcan.cl.1.2.2.1
  have hrl:r.row.length<=480:=by rw[hcan.row];have:=EE id (es.map (stepB C));rw[Ah]at this;lia
  have h8:∀n∈r.row,n<8:=λn hn=>by rw[hcan.row]at hn;obtain⟨o,ho,e⟩:=List.mem_filterMap.mp hn;obtain⟨ed,hed,rfl⟩:=AE.mp ho;exact zlt (hE ed hed).1 e
  refine⟨_,rfl,v,r,rfl,hx,(by have:=zdd (wk C es);rw[<- hcan.so]at this;exact this),by lia,h8,λH1 s1=>⟨_,rfl,iteF ?_⟩⟩;exact⟨_,rfl,v,r,C,es,rfl,rR.kt hx (KT.of s1),hcan,hel,λH2 s2=>k H2 (s1.trans s2)⟩
noncomputable def zh8(K:W.Frag):Sp:=λvs H Q _=>∃(t a:Addr) (C:Cell->Bool) (e:Edge),vs=[.ref t,.ref a]/\Tab H t C/\H a=some (.tup (edgeT e))/\e.w<4/\∀H',Same H H'->Q (.bl (C e.c && !C (gap e))) H'
theorem zi2 (g_gap_beside:Fn P w K mg base 2 "gap_beside" ["edge"] (spGap K)) (d:Df K mg "is_edge" zek ["table","edge"]):FnOk P w K mg base CX0 3 d.f d.fd ["table","edge"] (zh8 K):=by
 refine d.F.ok ziU (λvs H Q E h=>?_) (λcdv A outer s H vs Q E hr h=>?_)
 .obtain⟨t,a,C,e,rfl,_⟩:=h;rfl
 .obtain⟨t,a,C,e,rfl,ht,ha,hw,k⟩:=h;have hu1:=hu_of hr;refine⟨_,(zaf (zak (zcj (zke (zmv hu1 (zcH zjS (pv 1) zdw (zdv zah)) (pv 0))) (zdg (zke (zen hu1 (pC g_gap_beside hr (pa_N (pv 1) zab)) (pv 0))))))),?_⟩;obtain⟨kvs,et,hC⟩:=ht;have hc0:=hC e.c;refine⟨_,rfl,_,rfl,a,_,rfl,SqT.of ha,(λz=>absurd z.2 (by show ¬ HT.sIx 3 3 (some 2)=3;decide)),λ_ p hp=>?_⟩;have s1:=Same.up (o:=HO.tup (cellT e.c)) hp;have p1:upd H p (HO.tup (cellT e.c)) p=some (.tup (cellT e.c)):=zaa;change ∃v,_/\∃a o,_/\DGet (upd H p (HO.tup (cellT e.c))) _ _ _/\∃c,_/\if c=true then zjD (tCall (spGap K) [] E0 (tCons (tVar 1) tNil)) (tVar 0) _ (upd H p (HO.tup (cellT e.c))) _ else Q (V.bl false) (upd H p (HO.tup (cellT e.c)))
  generalize upd H p (HO.tup (cellT e.c))=H1 at s1 p1;refine⟨_,rfl,t,_,rfl,.inr ⟨_,kC e.c,p,Rd.of (s1 _ _ et),rfl,p1,rfl⟩,_,rfl,?_⟩;change (valV kvs (kC e.c)).isSome=_ at hc0;rw[hc0]
  cases hce:C e.c with
  |false =>
   refine iteF ?_
   have:=k H1 s1;rw[hce]at this;exact this
  |true =>
   refine iteT ?_
   refine⟨_,rfl,a,e,rfl,SqT.of (s1 _ _ ha),hw,λq H2 hq s2 q2=>?_⟩;have hc1:=hC (gap e);change (valV kvs (kC (gap e))).isSome=_ at hc1;refine⟨_,rfl,t,_,rfl,.inr ⟨_,kC (gap e),q,Rd.of ((s1.trans s2) _ _ et),rfl,q2,rfl⟩,?_⟩;rw[hc1];have:=k H2 (s1.trans s2);rw[hce,Bool.true_and]at this;exact this
noncomputable def alg(C D:Cell->Bool)(e:Edge):Bool:=(D e.c && !D (gap e)) && decide (stepB D e=stepB C e)
noncomputable def zmp(K:W.Frag):Sp:=λvs H Q _=>∃(t p:Addr) (C D:Cell->Bool) (es:List Edge) (ws:List V),vs=[.ref t,.ref p]/\Tab H t D/\H p=some (.lst ws)/\VR ws (wk C es) wR H/\(∀e∈es,e.w<4)/\es.length<=500/\∀H',Same H H'->Q (.bl (es.all (alg C D))) H'
theorem zfM (T:Txt P w K mg) (g_is_edge:Fn P w K mg base 3 "is_edge" ["table","edge"] (zh8 K)) (g_step_behind:Fn P w K mg base 2 "step_behind" ["table","edge"] (zho K)) (d:Df K mg "goes_along" zbL ["table","walk"]):FnOk P w K mg base CX0 4 d.f d.fd ["table","walk"] (zmp K):=by
 refine d.F.ok zfA (λvs H Q E h=>?_) (λcdv A outer s H vs Q E hr h=>?_)
 .obtain⟨t,p,C,D,es,ws,rfl,_⟩:=h;rfl
 .obtain⟨t,p,C,D,es,ws,rfl,ht,hp,hv,hw,hl,k⟩:=h;have nb0:(["edge","step","table"]:List Str).Nodup:=by decide +kernel
  refine⟨_,(zaf (zak (zan (zcA rfl) (by rfl) T.nall (by rfl) (zai (zaI (osc:=zad zbL) (N:=zdO) (N':=["edge","step","table"]) (sel:=[none,none,some 0]) bO (zaz (pv 1)) (λ_ _ _ _ _=>(zbV (K:=K) (n:=2) (by rfl) (zae (nG 0 nb0) (zae (nG 1 nb0) zat)))) (λ_ _ _ _ _=>zbl) (λ_ _ _ _ _=>(zcj (pC g_is_edge hr (pa_N (pv 2) (pa_N (pv 0) zab))) (zdg (zbH op_eq (pC g_step_behind hr (pa_N (pv 2) (pa_N (pv 0) zab))) (pv 1) (zau _)))))) zab)))),?_⟩;have hwl:ws.length=es.length:=by rw[hv.1];unfold wk;rw[Ah]
  refine⟨_,rfl,p,rfl,⟨_,SqL.of hp⟩,λg hg=>?_⟩
  refine zao (K:=K) (a:=p) (xs:=ws) (λj σ H2=>∃o0 o1,σ=[o0,o1,some (.ref t)]/\Same H H2/\H2 g=some (.lst (((es.take j).map (alg C D)).map V.bl)))
   ⟨_,_,rfl,Same.up hg,zaa⟩ (λj σ H2 _ ⟨_,_,_,s2,_⟩=>SqL.of (s2 _ _ hp)) ?_ ?_
  .rintro j x σ H2 hj ⟨o0,o1,rfl,s2,e2⟩;have hjl:j<es.length:=by rw[<- hwl];exact (Ad.mp hj).1
   obtain⟨q,hq,hx⟩:=hv.at hj;obtain⟨wa,wb,rfl,q1,q2⟩:=hx;unfold wk at hq;rw[AA]at hq;obtain⟨e,he,rfl⟩:=A4.mp hq;have hew:=hw e (Aj he)
   have fin:∀(b:Bool) (H3:Hp),Same H2 H3->b=alg C D e->∃xs,H3 g=some (.lst xs)/\xs.length<sizeLine/\∃o0 o1,[some (V.ref wb),some (sv (stepB C e)),some (V.ref t)]=[o0,o1,some (V.ref t)]/\Same H (upd H3 g (.lst (xs++[V.bl b])))/\upd H3 g (.lst (xs++[V.bl b])) g=some (.lst (((es.take (j+1)).map (alg C D)).map V.bl)):=λb H3 s3 hb=>by refine⟨_,s3 _ _ e2,zaj (by rw[Ah,Ah,AS];lia),_,_,rfl,zal hg (s2.trans s3),?_⟩;rw[zaa,zar he,Ay,Ay,hb];rfl
   refine⟨wa,_,rfl,SqT.of (s2 _ _ q1),rfl,_,_,rfl,_,_,rfl,rfl,?_⟩;refine zb2 ?_
   refine⟨_,rfl,_,rfl,t,wb,D,e,rfl,ht.same s2,s2 _ _ q2,hew,λH3 s3=>⟨_,rfl,?_⟩⟩
   cases hc:(D e.c && !D (gap e)) with
   |false =>
    refine iteF (fin false H3 s3 ?_);unfold alg;rw[hc];rfl
   |true =>
    refine iteT ?_
    refine⟨_,rfl,_,rfl,t,wb,D,e,rfl,ht.same (s2.trans s3),SqT.of ((s2.trans s3) _ _ q2),hew,λH4 s4=>?_⟩;refine⟨_,rfl,zmP _ _,fin _ H4 (s3.trans s4) ?_⟩;unfold alg;rw[hc,Bool.true_and];exact decide_eq_decide.mpr sv_eq
  .rintro σ H2 ⟨o0,o1,rfl,s2,e2⟩;rw[hwl,AI]at e2;refine⟨g,es.map (alg C D),rfl,SqL.of e2,?_⟩;rw[List.all_map];exact k H2 s2
theorem zgY{C D:Cell->Bool}(h:∀e,IsE C e ↔ IsE D e)(y:Int):∀(n:Nat) (x:Int),C (x+n,y)=D (x+n,y)->C (x,y)=D (x,y)
 | 0,x,hx=>by simpa using hx
 |n+1,x,hx=>by
  have h1:=zgY h y n (x+1) (by rw[show x+1+(n:Int)=x+((n+1:Nat):Int) by lia];exact hx);have e1:=h ⟨(x,y),1⟩;have e2:=h ⟨(x+1,y),3⟩;have g1:gap ⟨(x,y),1⟩=(x+1,y):=by simp[gap,go,mv]
  have g2:gap ⟨(x+1,y),3⟩=(x,y):=by simp[gap,go,mv];lia
  unfold IsE at e1 e2;rw[g1]at e1;rw[g2]at e2;simp only at e1 e2
  cases a:C (x,y) <;> cases b:D (x,y) <;> cases c:C (x+1,y) <;> cases d:D (x+1,y) <;> simp_all
theorem zkR{cs ds:List Cell}(h:∀e,IsE (isIn cs) e ↔ IsE (isIn ds) e):∀c,isIn cs c=isIn ds c:=by
 obtain⟨B,hB⟩:∃B:Int,∀c∈cs++ds,c.1<B:=by
  have:∀l:List Cell,∃B:Int,∀c∈l,c.1<B:=λl=>by
   induction l with
   |nil=>exact⟨0,λc h=>by cases h⟩
   |cons a r ih =>
    obtain⟨B,hB⟩:=ih;refine⟨max B (a.1+1),λc hc=>?_⟩;rcases Ax.mp hc with rfl |hc
    .lia
    .have:=hB c hc;lia
  exact this _
 intro c;obtain⟨x,y⟩:=c
 have far:∀x:Int,B<=x->isIn cs (x,y)=isIn ds (x,y):=λx hx=>by
  have a:(x,y) ∉ cs:=λm=>by have:=hB _ (BF ds m);simp only at this;lia
  have b:(x,y) ∉ ds:=λm=>by have:=hB _ (Aw cs m);simp only at this;lia
  rw[show isIn cs (x,y)=false from decide_eq_false a,show isIn ds (x,y)=false from decide_eq_false b]
 exact zgY h y (B-x).toNat x (far _ (by lia))
noncomputable def zjF:Sp:=λvs H Q _=>∃(p:Addr) (rs:List V) (R:List Rnd),vs=[.ref p]/\H p=some (.lst rs)/\VR rs R rR H/\R.length<=500/\(∀(i:Nat) r q,R[i]?=some r->R[i+1]?=some q->HT.lexLt (keyI r) (keyI q)=true)/\∀H',Same H H'->Q (.bl true) H'
theorem zdz (T:Txt P w K mg) (g_round_order:Fn P w K mg base 1 "round_order" ["one"] (zco K)) (d:Df K mg "stand_in_order" za5 ["some"]):FnOk P w K mg base CX0 2 d.f d.fd ["some"] zjF:=by
 refine d.F.ok zdo (λvs H Q E h=>?_) (λcdv A outer s H vs Q E hr h=>?_)
 .obtain⟨p,rs,R,rfl,_⟩:=h;rfl
 .obtain⟨p,rs,R,rfl,hp,hv,hl,hst,k⟩:=h;have hu1:=hu_of hr;have hu0:=CP (Dj _ 1) hu1;have nb0:(["at","some"]:List Str).Nodup:=by decide +kernel
  refine⟨_,(zaf (zak (zan (zcA rfl) (by rfl) T.nall (by rfl) (zai (zaI (osc:=zad za5) (N:=zcl) (N':=["at","some"]) (sel:=[none,some 0]) bO (zgC (by rfl) T.nrange (pa_C zah (zai (zan zas (by rfl) T.nlen (by rfl) (pa_N (pv 0) zab)) zab))) (λ_ _ _ _ _=>(nG 0 nb0)) (λ_ _ _ _ _=>zbl) (λ_ _ _ _ _=>(zbH (zm3 (K:=K) hu0) (pC g_round_order hr (zai (pe_ix (zfZ (K:=K)) (pv 1) (pe_op zdh (pv 0) zah) (λ_ _=>rfl)) zab)) (pC g_round_order hr (zai (pe_ix (zfZ (K:=K)) (pv 1) (pv 0) (λ_ _=>rfl)) zab)) (zau _)))) zab)))),?_⟩;have hul:=hv.1;refine⟨_,rfl,p,rs,rfl,.inl (SqL.of hp),1,_,rfl,⟨by decide,by decide,by lia,by lia⟩,λg hg=>?_⟩
  refine zbJ (lo:=1) (n:=((rs.length:Int)-1).toNat) (λi σ H2=>∃o0,σ=[o0,some (.ref p)]/\Same H H2/\H2 g=some (.lst ((Ar i true).map V.bl)))
   ⟨_,rfl,Same.up hg,zaa⟩ ?_ ?_
  .rintro i σ H2 hi ⟨o0,rfl,s2,e2⟩;have hi1:i+1<rs.length:=by lia
   obtain⟨x,hx⟩:∃x,rs[i]?=some x:=⟨_,Ab (by lia)⟩;obtain⟨y,hy⟩:∃y,rs[i+1]?=some y:=⟨_,Ab hi1⟩;obtain⟨r,hr',qr⟩:=hv.at hx;obtain⟨q,hq',qq⟩:=hv.at hy;refine gN ?_
   refine⟨_,rfl,_,rfl,_,_,rfl,rfl,p,_,_,_,rfl,rfl,SqL.of (s2 _ _ hp),(by rw[show ((1:Int)+(i:Int)-1)=((i:Nat):Int) by lia];exact zaG hx),x,r,rfl,rR.kt qr (KT.of s2),λk1 H3 _ s3 e3=>?_⟩;refine⟨_,rfl,_,rfl,p,_,_,_,rfl,rfl,SqL.of ((s2.trans s3) _ _ hp),(by rw[show ((1:Int)+(i:Int))=((i+1:Nat):Int) by lia];exact zaG hy),y,q,rfl,rR.kt qq (KT.of (s2.trans s3)),λk2 H4 _ s4 e4=>?_⟩;refine⟨k1,k2,_,_,keyI r,keyI q,rfl,rfl,SqT.of (s4 _ _ e3),SqT.of e4,.cons (.int _ _) (.cons (.int _ _) (.cons (.bl _ _) .nil)),?_⟩;rw[hst i r q hr' hq'];refine⟨_,(s3.trans s4) _ _ e2,zaj (by simp;lia),_,rfl,zal hg (s2.trans (s3.trans s4)),?_⟩;rw[zaa,Ej,Ay];rfl
  .rintro σ H2 ⟨o0,rfl,s2,e2⟩;refine⟨g,Ar _ true,rfl,SqL.of e2,?_⟩;rw[show (Ar ((rs.length:Int)-1).toNat true).all id=true by simp];exact k H2 s2
theorem zdI:∀{cs:List Cell},cs.Nodup->(sides cs).Nodup
 |[],_=>List.Pairwise.nil
 |c::cs,h=>by
  have h':=Bs.mp h;show ((Bk 4).map (λw=>(⟨c,w⟩:Edge))++sides cs).Nodup;refine List.nodup_append.mpr ⟨List.Pairwise.map _ (λa b hab e=>hab (by injection e)) List.nodup_range,zdI h'.2,λx hx y hy e=>?_⟩;obtain⟨w,_,rfl⟩:=AE.mp hx;rw[<- e]at hy;exact h'.1 (zb1.mp hy).1
theorem zhR{cs:List Cell}(h:cs.Nodup):(allE cs).Nodup:=List.Pairwise.filter _ (zdI h)
theorem zjE{α:Type} [DecidableEq α]:∀{l m:List α},l.Nodup->(∀x∈l,x∈m)->m.length<=l.length->∀x∈m,x∈l
 |[],m,_,_,hl,x,hx=>by
  have:m=[]:=List.eq_nil_of_length_eq_zero (by simpa using hl);rw[this]at hx;exact hx
 |a::r,m,hn,hs,hl,x,hx=>by
  have hn':=Bs.mp hn;have ham:a∈m:=hs a Ap
  have hle:(m.erase a).length<=r.length:=by rw[List.length_erase_of_mem ham];rw[AZ]at hl;lia
  have ih:=zjE (m:=m.erase a) hn'.2 (λy hy=>(List.mem_erase_of_ne (λ(e:y=a)=>hn'.1 (by rw[<- e];exact hy))).mpr (hs y (As _ hy))) hle
  by_cases e:x=a
  .rw[e];exact Ap
  .exact As _ (ih x ((List.mem_erase_of_ne e).mpr hx))
theorem zf2{α:Type}:∀l:List (List α),l.flatten.length=(l.map Dv).sum
 |[]=>rfl
 |a::r=>by rw[Br,Av,zf2 r];rfl
theorem zmk:∀l:List (List Edge),(l.map λes=>(es.length:Int)).sum=(((l.map Dv).sum:Nat):Int)
 |[]=>rfl
 |x::r=>by rw[AO,BH,AO,BH,zmk r];lia
theorem zjT{cs ds:List Cell}{ESS:List (List Edge)}{R:List Rnd}(hc:Cans (isIn cs) ESS R)(hd:ds.Nodup)(ha:∀es∈ESS,es.all (alg (isIn cs) (isIn ds))=true)(hl:(ESS.map Dv).sum=(allE ds).length):∀c,isIn cs c=isIn ds c:=by
 refine zkR λe=>?_
 have sub:∀x∈ESS.flatten,x∈allE ds:=λx hx=>by obtain⟨es,he,hxe⟩:=CA.mp hx;have q:=List.all_eq_true.mp (ha es he) x hxe;unfold alg at q;simp only[B6,Bool.not_eq_true']at q;exact zcJ.mpr ⟨((hc.all x).mp hx).1,q.1.1,q.1.2⟩
 have sup:=zjE hc.nd sub (by rw[zf2,hl];exact Ai _);exact⟨λh=>zcJ.mp (sub e ((hc.all e).mpr h)),λh=>(hc.all e).mp (sup e (zcJ.mpr h))⟩
theorem zjV{cs ds:List Cell}{ESS:List (List Edge)}{R:List Rnd}(hc:Cans (isIn cs) ESS R)(h:∀c,isIn cs c=isIn ds c):∀es∈ESS,es.all (alg (isIn cs) (isIn ds))=true:=by
 have e:isIn cs=isIn ds:=funext h;intro es he;refine List.all_eq_true.mpr λx hx=>?_
 have q:=(hc.all x).mp (CA.mpr ⟨es,he,hx⟩);unfold alg;rw[<- e,q.2.1,q.2.2];simp
theorem zjU{cs ds:List Cell}{ESS:List (List Edge)}{R:List Rnd}(hc:Cans (isIn cs) ESS R)(hd:ds.Nodup)(h:∀c,isIn cs c=isIn ds c):(ESS.map Dv).sum=(allE ds).length:=by
 have e:isIn cs=isIn ds:=funext h;rw[<- zf2];have hn:=zhR hd;have p:ESS.flatten.Perm (allE ds):=(List.perm_ext_iff_of_nodup hc.nd hn).mpr λx=>by rw[hc.all,e];exact zcJ.symm
 exact p.length_eq
noncomputable def lkR(wl:Addr)(C:Cell->Bool)(es:List Edge)(v:V)(H:Hp):Prop:=∃q ws,v=.ref q/\q≠wl/\H q=some (.lst ws)/\VR ws (wk C es) wR H
theorem wR.kt'{q:Edge×Option Nat}{v:V}{H H':Hp}(h:wR q v H)(s:Same H H'):wR q v H':=let ⟨A,b,e,q1,q2⟩:=h;⟨A,b,e,s _ _ q1,s _ _ q2⟩
theorem lkR.same{wl:Addr}{C:Cell->Bool}{es:List Edge}{v:V}{H H':Hp}(h:lkR wl C es v H)(s:Same H H'):lkR wl C es v H':=let ⟨q,ws,e,n,q1,q2⟩:=h;⟨q,ws,e,n,s _ _ q1,q2.mono λx v h=>h.kt' s⟩
noncomputable def zjG(K:W.Frag):Sp:=λvs H Q _=>∃(a p:Addr) (us rs:List V) (cs ds:List Cell) (R:List Rnd) (ESS:List (List Edge)),vs=[.ref a,.ref p]/\H a=some (.lst us)/\VR us ds cR H/\InOrd ds/\ds.length<=120/\ds.Nodup /\
 H p=some (.lst rs)/\VR rs R rR H/\Cans (isIn cs) ESS R/\cs.length<=120/\R.length<=120/\(∀(i:Nat) r q,R[i]?=some r->R[i+1]?=some q->HT.lexLt (keyI r) (keyI q)=true)/\∀b H',Same H H'->(b=true ↔ ∀c,isIn cs c=isIn ds c)->Q (.bl b) H'
theorem zlN (T:Txt P w K mg) (g_ask_picture:Fn P w K mg base 2 "ask_picture" ["picture"] (spAsk K)) (g_is_round:Fn P w K mg base 7 "is_round" ["thing"] zh9) (g_cell_table:Fn P w K mg base 1 "cell_table" ["picture"] (zfr K)) (g_walk_of:Fn P w K mg base 5 "walk_of" ["one"] (zdY K))
  (g_stand_in_order:Fn P w K mg base 2 "stand_in_order" ["some"] zjF) (g_goes_along:Fn P w K mg base 4 "goes_along" ["table","walk"] (zmp K)) (g_all_edges:Fn P w K mg base 3 "all_edges" ["picture"] (zjP K)) (d:Df K mg "shows" zcU ["picture","thing"]):FnOk P w K mg base CX0 8 d.f d.fd ["picture","thing"] (zjG K):=by
 refine d.F.ok zfz (λvs H Q E h=>?_) (λcdv A outer s H vs Q E hr h=>?_)
 .obtain⟨a,p,us,rs,cs,ds,R,ESS,rfl,_⟩:=h;rfl
 .obtain⟨a,p,us,rs,cs,ds,R,ESS,rfl,ea,hv,hord,hdl,hdn,ep,hvR,hcans,hcl,hRl,hst,k⟩:=h;have nb0:(["one"]:List Str).Nodup:=by decide +kernel
  have nb1:(["one"]:List Str).Nodup:=by decide +kernel
  have nb2:(["walk","table"]:List Str).Nodup:=by decide +kernel
  have nb3:(["walk"]:List Str).Nodup:=by decide +kernel
  refine⟨_,(zac (zaY (pC g_ask_picture hr (pa_N (pv 0) zab)))
   (zac (ps_if (pw_or (zcN (zci (zan zcf (by rfl) T.nisinstance (by rfl) (pa_N (pv 1) (pa_N (zcY (v:=.ty "list") (by rfl) T.nlist (by rfl) rfl) zab))))) (zem (zcN (zci (zan (zcA rfl) (by rfl) T.nall (by rfl) (zai (zaI (osc:=zad zcU) (N:=zdE) (N':=["one"]) (sel:=[none]) bO (zaz (pv 1)) (λ_ _ _ _ _=>(nG 0 nb0)) (λ_ _ _ _ _=>zbl) (λ_ _ _ _ _=>(pC g_is_round hr (pa_N (pv 0) zab)))) zab)))))).pt
   (zaf (zak pe_bl))
   zaB)
   (zac (zgB (i:=2) zfz.nd (by rfl) (EQ rfl) (pC g_cell_table hr (pa_N (pv 0) zab)))
   (zac (zlC (i:=3) (osc:=zad zcU) (N:=zdE) (N':=["one"]) (sel:=[none]) bO zfz.nd (by rfl) (Or.inl rfl) (zaz (pv 1)) (λ_ _ _ _ _=>(nG 0 nb1)) (λ_ _ _ _ _=>zbl) (λ_ _ _ _ _=>(pC g_walk_of hr (pa_N (pv 0) zab))))
   (zac (ps_if (pw_or (zcN (zci (pC g_stand_in_order hr (pa_N (pv 1) zab)))) (zem (zcN (zci (zan (zcA rfl) (by rfl) T.nall (by rfl) (zai (zaI (osc:=zad zcU) (N:=zdE) (N':=["walk","table"]) (sel:=[none,some 2]) bO (zaz (pv 3)) (λ_ _ _ _ _=>(nG 0 nb2)) (λ_ _ _ _ _=>zbl) (λ_ _ _ _ _=>(pC g_goes_along hr (pa_N (pv 1) (pa_N (pv 0) zab))))) zab)))))).pt
   (zaf (zak pe_bl))
   zaB)
   (zaf (zak (zbH op_eq (zan (zk7 rfl) (by rfl) T.nsum (by rfl) (zai (zaI (osc:=zad zcU) (N:=zdE) (N':=["walk"]) (sel:=[none]) bO (zaz (pv 3)) (λ_ _ _ _ _=>(nG 0 nb3)) (λ_ _ _ _ _=>zbl) (λ_ _ _ _ _=>(zan (zf8 (K:=K)) (by rfl) T.nlen (by rfl) (pa_N (pv 0) zab)))) zab)) (zan zas (by rfl) T.nlen (by rfl) (zai (pC g_all_edges hr (pa_N (pv 0) zab)) zab)) (zau _))))))))),?_⟩
  have hσ:L2.start zdE [V.ref a,V.ref p]=[some (.ref a),some (.ref p),none,none]:=rfl;rw[hσ];have hrl:=hvR.1;have elen:∀{es:List Edge} {r:Rnd},Can (isIn cs) es r->es.length<=480:=λh=>by have:=h.cl.1.short;lia
  refine⟨_,rfl,a,ds,rfl,LR.of ea hv,hord,by lia,λH1 s1=>?_⟩;refine⟨_,rfl,_,_,_,_,rfl,.lst (s1 _ _ ep),zcb _ _,_,rfl,iteF ?_⟩;refine⟨_,rfl,p,rfl,⟨_,SqL.of (s1 _ _ ep)⟩,λg hg=>?_⟩
  refine zao (K:=K) (a:=p) (xs:=rs) (λj σ H2=>∃o0,σ=[o0]/\Same H1 H2/\H2 g=some (.lst ((Ar j true).map V.bl)))
   ⟨_,rfl,Same.up hg,zaa⟩ (λj σ H2 _ ⟨_,_,s2,_⟩=>SqL.of ((s1.trans s2) _ _ ep)) ?_ ?_
  .rintro j x σ H2 hj ⟨o0,rfl,s2,e2⟩;have hjl:j<rs.length:=(Ad.mp hj).1;obtain⟨r,hr',qr⟩:=hvR.at hj;obtain⟨es,_,hcan⟩:=hcans.so hr';refine gN ?_
   refine⟨_,rfl,x,r,isIn cs,es,rfl,rR.kt qr (KT.of (s1.trans s2)),hcan,elen hcan,λH3 s3=>?_⟩;refine⟨_,s3 _ _ e2,zaj (by simp;lia),_,rfl,zal hg (s2.trans s3),?_⟩;rw[zaa,Ej,Ay];rfl
  rintro σ H2 ⟨o0,rfl,s2,e2⟩;refine⟨g,Ar _ true,rfl,SqL.of e2,?_⟩;rw[show (Ar rs.length true).all id=true by simp];refine⟨_,rfl,iteF ?_⟩;have s12:=s1.trans s2;clear e2;refine⟨_,rfl,a,ds,rfl,LR.of (s12 _ _ ea) (hv.mono λx v h=>h.kt (KT.of s12)),by lia,λt H3 ht s3 hT=>?_⟩;have s13:=s12.trans s3;simp only[za6,BL,BM];refine⟨_,rfl,p,rfl,⟨_,SqL.of (s13 _ _ ep)⟩,λwl hwl=>?_⟩
  refine zao (K:=K) (a:=p) (xs:=rs) (λj σ H4=>∃o0,σ=[o0]/\Same H3 H4/\∃zs,H4 wl=some (.lst zs)/\VR zs (ESS.take j) (lkR wl (isIn cs)) H4)
   ⟨_,rfl,Same.up hwl,[],zaa,VR.nil⟩ (λj σ H4 _ ⟨_,_,s4,_⟩=>SqL.of ((s13.trans s4) _ _ ep)) ?_ ?_
  .rintro j x σ H4 hj ⟨o0,rfl,s4,zs,e4,v4⟩;have hjl:j<rs.length:=(Ad.mp hj).1;obtain⟨r,hr',qr⟩:=hvR.at hj;obtain⟨es,hes,hcan⟩:=hcans.so hr';have hzl:zs.length<=j:=by rw[v4.1,AS];lia
   refine gN ?_
   refine⟨_,rfl,x,r,isIn cs,es,rfl,rR.kt qr (KT.of (s13.trans s4)),hcan.cl,hcan.row,hcan.bg,hcan.so,(by have:=elen hcan;lia),λq H5 ws hq s5 e5 v5=>?_⟩;have e45:=s5 _ _ e4;have hqw:q≠wl:=λz=>by rw[z]at hq;rw[hq]at e4;cases e4
   have hs6:∀{es:List Edge} {v:V},lkR wl (isIn cs) es v H5->lkR wl (isIn cs) es v (upd H5 wl (.lst (zs++[.ref q]))):=λ{es v} h=>by
    obtain⟨q',ws',rfl,hn,f1,f2⟩:=h
    exact⟨q',ws',rfl,hn,by rw[zag hn];exact f1,f2.mono λx v h=>by obtain⟨A,b,e,g1,g2⟩:=h;exact⟨A,b,e,KT.lst e45 _ _ g1,KT.lst e45 _ _ g2⟩⟩
   refine⟨zs,e45,zaj (by lia),_,rfl,zal hwl (s4.trans s5),_,zaa,?_⟩;rw[zar hes];exact v4.snoc (λx v h=>hs6 (h.same s5)) (hs6 ⟨q,ws,rfl,hqw,e5,v5⟩)
  rintro σ H4 ⟨o0,rfl,s4,zs,e4,v4⟩;have hEl:ESS.length=R.length:=(hcans.al.length).symm;rw[hrl,<- hEl,AI]at v4;have s14:=s13.trans s4;have v4R:=hvR.mono λx v h=>rR.kt h (KT.of s14)
  simp only[za6,BL,BM];refine⟨_,rfl,p,rs,R,rfl,s14 _ _ ep,v4R,by lia,hst,λH5 s5=>⟨_,rfl,iteF ?_⟩⟩;have e5:=s5 _ _ e4;have hT5:=hT.same (s4.trans s5);have v5:=v4.mono λx v h=>h.same s5
  have s15:=s14.trans s5;have hzl:zs.length=ESS.length:=v4.1;refine⟨_,rfl,wl,rfl,⟨_,SqL.of e5⟩,λg2 hg2=>?_⟩
  refine zao (K:=K) (a:=wl) (xs:=zs) (λj σ H6=>∃o0,σ=[o0,some (.ref t)]/\Same H5 H6/\H6 g2=some (.lst (((ESS.take j).map λes=>es.all (alg (isIn cs) (isIn ds))).map V.bl)))
   ⟨_,rfl,Same.up hg2,zaa⟩ (λj σ H6 _ ⟨_,_,s6,_⟩=>SqL.of (s6 _ _ e5)) ?_ ?_
  .rintro j x σ H6 hj ⟨o0,rfl,s6,e6⟩;have hjl:j<zs.length:=(Ad.mp hj).1;obtain⟨es,hes,qe⟩:=v5.at hj;obtain⟨q,ws,rfl,_,f1,f2⟩:=qe.same s6;obtain⟨r,hr'⟩:∃r,R[j]?=some r:=⟨_,Ab (by lia)⟩;obtain⟨es',hes',hcan⟩:=hcans.so hr';rw[hes]at hes'
   cases hes'
   refine gN ?_
   refine⟨_,rfl,_,rfl,t,q,isIn cs,isIn ds,es,ws,rfl,hT5.same s6,f1,f2,(λe he=>(hcan.cl.1.2.2.1 e he).1),(by have:=elen hcan;lia),λH7 s7=>?_⟩;refine⟨_,s7 _ _ e6,zaj (by rw[Ah,Ah,AS];lia),_,rfl,zal hg2 (s6.trans s7),?_⟩;rw[zaa,zar hes,Ay,Ay];rfl
  rintro σ H6 ⟨o0,rfl,s6,e6⟩;rw[hzl,AI]at e6;refine⟨g2,_,rfl,SqL.of e6,?_⟩;have s16:=s15.trans s6
  cases hall:(ESS.map λes=>es.all (alg (isIn cs) (isIn ds))).all id with
  |false =>
   refine⟨_,rfl,iteT ?_⟩;refine k false H6 s16 ⟨λz=>(by cases z),λhc=>?_⟩;have:=zjV hcans hc;rw[<- hall];rw[List.all_map];exact (List.all_eq_true.mpr λes he=>this es he).symm.trans rfl |>.symm
  |true =>
   refine⟨_,rfl,iteF ?_⟩
   have hallT:∀es∈ESS,es.all (alg (isIn cs) (isIn ds))=true:=λes he=>by rw[List.all_map]at hall;exact List.all_eq_true.mp hall es he
   have e6':=s6 _ _ e5;have v6:=v5.mono λx v h=>h.same s6
   refine⟨_,rfl,wl,rfl,⟨_,SqL.of e6'⟩,λg3 hg3=>?_⟩
   refine zao (K:=K) (a:=wl) (xs:=zs) (λj σ H7=>∃o0,σ=[o0]/\Same H6 H7/\H7 g3=some (.lst (((ESS.take j).map λes=>(es.length:Int)).map V.int)))
    ⟨_,rfl,Same.up hg3,zaa⟩ (λj σ H7 _ ⟨_,_,s7,_⟩=>SqL.of (s7 _ _ e6')) ?_ ?_
   .rintro j x σ H7 hj ⟨o0,rfl,s7,e7⟩;have hjl:j<zs.length:=(Ad.mp hj).1;obtain⟨es,hes,qe⟩:=v6.at hj;obtain⟨q,ws,rfl,_,f1,f2⟩:=qe.same s7;have hwl:ws.length=es.length:=by rw[f2.1];unfold wk;rw[Ah]
    refine gN ?_
    refine⟨_,rfl,q,ws,rfl,.inl (SqL.of f1),?_⟩;rw[hwl];refine⟨_,e7,zaj (by rw[Ah,Ah,AS];lia),_,rfl,zal hg3 s7,?_⟩;rw[zaa,zar hes,Ay,Ay];rfl
   rintro σ H7 ⟨o0,rfl,s7,e7⟩;rw[hzl,AI]at e7;have s17:=s16.trans s7;refine⟨g3,ESS.map λes=>(es.length:Int),rfl,SqL.of e7,λn hn=>?_,(by rw[Ah];lia),?_⟩
   .obtain⟨es,he,rfl⟩:=AE.mp hn;obtain⟨j,hj⟩:=List.getElem?_of_mem he;obtain⟨r,hr'⟩:∃r,R[j]?=some r:=⟨_,Ab (by have:=(Ad.mp hj).1;lia)⟩;obtain⟨es',hes',hcan⟩:=hcans.so hr';rw[hj]at hes'
    cases hes'
    have:=elen hcan;lia
   refine⟨_,rfl,a,ds,rfl,LR.of (s17 _ _ ea) (hv.mono λx v h=>h.kt (KT.of s17)),hdl,λpe H8 es8 hpe s8 e8 v8=>?_⟩;refine⟨pe,es8,rfl,.inl (SqL.of e8),?_⟩;rw[zmk,v8.1];refine⟨rfl,k _ H8 (s17.trans s8) ?_⟩;rw[decide_eq_true_iff];constructor
   .intro z;exact zjT hcans hdn hallT (by injection z with z;lia)
   .intro hc;rw[zjU hcans hdn hc]
noncomputable def dC(L:List Cell):List (List Key×V):=L.map λc=>(kC c,V.bl true)
theorem ziE(L:List Cell):(dC L).length=L.length:=by unfold dC;rw[Ah]
theorem zhk(c:Cell):∀L:List Cell,(valV (dC L) (kC c)).isSome=isIn L c
 |[]=>by simp[dC,valV,isIn]
 |d::L=>by
  have ih:=zhk c L;unfold isIn at *
  by_cases e:d=c
  .subst e;simp[dC,valV]
  .have e2:¬ kC d=kC c:=λz=>e (zgS.mp z)
   have e3:¬ c=d:=λz=>e z.symm
   have e4:valV (dC (d::L)) (kC c)=valV (dC L) (kC c):=by simp[dC,valV,C5,e2]
   rw[e4,ih];simp[e3]
theorem zmt{L:List Cell}{c:Cell}(h:c ∉ L):putK (dC L) (kC c) (.bl true)=dC (L++[c]):=by
 rw[zd1]
 .unfold dC;rw[Ay];rfl
 .have:=zhk c L;unfold isIn at this;rw[decide_eq_false h]at this
  cases z:valV (dC L) (kC c) with
  |none=>rfl
  |some v=>rw[z]at this;cases this
abbrev cAt(F:List Cell)(i:Nat):Cell:=F.getD i (0,0)
noncomputable def keyC(F:List Cell)(i:Nat):List Int:=[(cAt F i).2,(cAt F i).1]
noncomputable def keyCV(F:List Cell)(i:Nat):List V:=[.int (cAt F i).2,.int (cAt F i).1]
theorem zno{F:List Cell}{i:Nat}{c:Cell}(h:F[i]?=some c):cAt F i=c:=by unfold cAt;rw[A8,h];rfl
theorem sortC{F:List Cell}{pp:List Nat}(hpm:pp.Perm (Bk F.length)):(pp.map (cAt F)).Perm F:=by
 have h1:=hpm.map (cAt F)
 have h2:(Bk F.length).map (cAt F)=F:=by
  apply List.ext_getElem
  .simp
  .intro i a b;simp[cAt,show i<F.length by simpa using a]
 rw[h2]at h1;exact h1
theorem zmK{F:List Cell}(hs:F.Pairwise λa b=>HT.lexLt [b.2,b.1] [a.2,a.1]=false)(hn:F.Nodup):F.Pairwise Bfr:=by
 refine (List.Pairwise.and hs hn).imp λ{a b} h=>?_
 show HT.lexLt [a.2,a.1] [b.2,b.1]=true
 cases q:HT.lexLt [a.2,a.1] [b.2,b.1] with
 |true=>rfl
 |false =>
  have e:=HT.lexLt_total q h.1;injection e with e1 e2;injection e2 with e2 _;exact absurd (Prod.ext e2 e1) h.2
theorem sortP{F:List Cell}{pp:List Nat}(hpm:pp.Perm (Bk F.length))(hpo:pp.Pairwise λi j=>HT.lexLt (keyC F j) (keyC F i)=false)(hn:F.Nodup):(pp.map (cAt F)).Pairwise Bfr:=by
 refine zmK ?_ ((sortC hpm).nodup_iff.mpr hn)
 rw[Cf];exact hpo
theorem sortV{F:List Cell}{xs:List V}{pp:List Nat}{H:Hp}(hpm:pp.Perm (Bk F.length))(h:VR xs F cR H):VR (pp.map λi=>xs.getD i V.non) (pp.map (cAt F)) cR H:=by
 refine⟨by simp,λi c v h1 h2=>?_⟩;rw[AA]at h1 h2;obtain⟨a,ha,rfl⟩:=A4.mp h1;rw[ha]at h2
 cases h2
 have hal:a<F.length:=DQ.mp (hpm.mem_iff.mp (Aj ha));have hal2:a<xs.length:=by rw[h.1];exact hal
 have e1:cAt F a=F[a]:=by simp[cAt,hal]
 have e2:xs.getD a V.non=xs[a]:=by simp[hal2]
 rw[e1];show cR F[a] (xs.getD a V.non) H;rw[e2];exact h.2 a _ _ (Ab hal) (Ab hal2)
theorem KeyL.cells{H:Hp}{ts:List V}{L:List Cell}(h:KeyL H ts (dC L)):VR ts L cR H:=by refine⟨by rw[h.1,ziE],λi c v h1 h2=>?_⟩;exact h.2 i v (kC c) (.bl true) h2 (by unfold dC;rw[AA,h1];rfl)
theorem _root_.L2.But1.kt{pos:Pos}{qual:Str}{P:Addr}{H H':Hp}(b:But1 P H H')(l:LamAt pos qual P H):KT H H':=λz xs e=>b z _ (l.ne e nofun) e
theorem _root_.L2.But1.at{pos:Pos}{qual:Str}{P a:Addr}{H H':Hp}{o:HO}(b:But1 P H H')(l:LamAt pos qual P H)(e:H a=some o)(n:∀ps,o≠.tbl ps):H' a=some o:=b a o (l.ne e n) e
noncomputable def lamQ (f:Str):Str:=f ++ ".<locals>." ++ "<lambda>"
noncomputable abbrev lpO:Pos:=(⟨261,34,261,80⟩:Pos)
noncomputable abbrev LamO (P:Addr) (H:Hp):Prop:=LamAt lpO (lamQ "_law_in_order") P H
theorem But1.of{L:Addr}{H H':Hp}(s:Same H H'):But1 L H H':=λb o _ h=>s b o h
theorem zk2(us:List V)(k:Nat):cutV us none (some (k:Int))=us.take k:=by
 have e:cutV us none (some (k:Int))=us.take (min k us.length):=by unfold cutV;rw[HT.sIx_nat,HT.sIx_none,List.drop_zero,Nat.sub_zero]
 rw[e];rcases Nat.le_total k us.length with h |h
 .rw[Nat.min_eq_left h]
 .rw[Nat.min_eq_right h,AI,B5 h]
theorem zm8{K:W.Frag}{H:Hp}{a:Addr}{vs:List V}{cs:List Cell}(e:SqL K H a vs)(h:VR vs cs cR H){q:Addr}{Q:VK}(f:H q=some (.lst []))(k:Q (.bl (decide (cs=[]))) H):rEqD K (.ref a) (.ref q) H Q:=by
 refine⟨lT (cs.map cI),lT [],zbz e h,.lst (SqL.of f) .nil,za0 _,za0 _,?_⟩;rw[zjd];have:(cs.map cI).isEmpty=decide (cs=[]):=by cases cs <;> simp
 rw[this];exact k
theorem znn(L:List Cell)(c:Cell):dropK (dC L) (kC c)=dC (L.filter λx=>decide (x≠c)):=by
 unfold dC dropK;rw[List.filter_map]
 congr 1
 apply List.filter_congr
 intro x _;show decide (kC x≠kC c)=decide (x≠c)
 by_cases h:x=c
 .subst h;simp
 .have:¬ kC x=kC c:=λz=>h (zgS.mp z)
  simp[h,this]
theorem zon{L:List Cell}{k:List Key}{v:V}(h:valV (dC L) k=some v):v=.bl true:=by unfold valV at h;obtain⟨kv,h1,h2⟩:=A4.mp h;have:=Er h1;unfold dC at this;obtain⟨c,_,rfl⟩:=AE.mp this;exact h2.symm
noncomputable def zjM(K:W.Frag)(L:Addr):Sp:=λvs H Q _=>∃(a:Addr) (us:List V) (F:List Cell),vs=[.ref a]/\H a=some (.lst us)/\VR us F cR H/\F.Nodup/\F.length<=1000/\LamO L H /\
 ∀p H' vs F',H p=none->But1 L H H'->LamO L H'->H' p=some (.lst vs)->VR vs F' cR H'->F'.Pairwise Bfr->F'.Perm F->Q (.ref p) H'
theorem zes {L c:Addr}(T:Txt P w K mg) (hB:Bm mg base) (hh:DY K c L=true) (d:Df K mg "_law_in_order" zaF ["_law_cells"]) (hc:d.fd.code=.ref c):FnOk P w K mg base CX0 4 d.f d.fd ["_law_cells"] (zjM K L):=by
 refine d.F.okL hc zdT (λvs H Q E h=>?_) (λA outer s H vs Q E hr h=>?_)
 .obtain⟨a,us,F,rfl,_⟩:=h;rfl
 .obtain⟨a,us,F,rfl,ea,hv,hn,hlen,hlam,k⟩:=h;refine⟨_,(zaf (zak (zlF (k:=0) (N:=["_law_cell"]) (hr.mono (by decide)) (by rfl) T.nsorted rfl hh hB (by rfl) ⟨rfl,rfl,rfl,by decide +kernel,rfl,by decide +kernel,by decide +kernel⟩ (λ_ _ _ _=>rfl) (pv 0) (λ_ _ _ _ _ _=>(zaO (zai (pe_ix (zhK (K:=K)) (pv 0) zah (λ_ _=>rfl)) (zai (pe_ix (zhK (K:=K)) (pv 0) zah (λ_ _=>rfl)) zab))))))),?_⟩;have hul:us.length=F.length:=hv.1;refine⟨_,rfl,a,us,keyCV F,keyC F,rfl,hlam,SqL.of ea,by lia,λi x H2 hx b2=>?_,λi j hi hj=>⟨_,_,_,_,_,_,rfl,rfl,.cons (.int _ _) .nil,rfl,rfl⟩,λpp D H5 hpm hpo hD b5 l5 f5=>?_⟩
  .obtain⟨c,hc,x,rfl,ex⟩:=hv.at hx;have q:=b2.kt hlam _ _ ex;refine⟨_,rfl,x,_,_,_,rfl,rfl,SqT.of q,zaG (j:=1) rfl,_,rfl,x,_,_,_,rfl,rfl,SqT.of q,zaG (j:=0) rfl,two,λp hp=>⟨Same.up hp,p,rfl,SqT.of ?_⟩⟩;show upd H2 p _ p=some (HO.tup [.int (cAt F i).2,.int (cAt F i).1]);rw[zno hc,zaa]
  .rw[hul]at hpm;exact k D H5 _ _ hD b5 l5 f5 (sortV hpm (hv.mono λx v h=>h.kt (b5.kt hlam))) (sortP hpm hpo hn) (sortC hpm)
noncomputable def Bx6(cs:List Cell):Prop:=∃l lo:Int,∀c∈cs,l<=c.1/\c.1<l+60/\lo<=c.2/\c.2<lo+60
noncomputable def zjI(K:W.Frag)(L:Addr):Sp:=λvs H Q _=>∃(a p:Addr) (ns:List Int) (us:List V) (cs:List Cell),vs=[.ref a,.ref p]/\SqL K H a (ns.map V.int)/\H p=some (.lst us)/\VR us cs cR H/\cs.Pairwise Bfr/\cs.length<=120/\Bx6 cs/\LamO L H /\
 ∀q H' vs ds,But1 L H H'->LamO L H'->H' q=some (.lst vs)->VR vs ds cR H'->ds.Pairwise Bfr->ds.length<=120->Bx6 ds->Q (.ref q) H'
theorem zgI {L:Addr}(T:Txt P w K mg) (g__law_cell_at:Fn P w K mg base 1 "_law_cell_at" ["_law_script", "_law_k"] (zfu K)) (g__law_row:Fn P w K mg base 1 "_law_row" ["_law_cell", "_law_many", "_law_base"] spRow) (g__law_picture:Fn P w K mg base 2 "_law_picture" ["_law_script", "_law_start"] (zh7 K))
    (g__law_in_order:Fn P w K mg base 4 "_law_in_order" ["_law_cells"] (zjM K L)) (d:Df K mg "_law_other" zbO ["_law_script","_law_cells"]):FnOk P w K mg base CX0 5 d.f d.fd ["_law_script","_law_cells"] (zjI K L):=by
  refine d.F.ok zaw (λvs H Q E h=>?_) (λcdv A outer s H vs Q E hr h=>?_)
  . obtain⟨a,p,ns,us,cs,rfl,_⟩:=h;rfl
  . obtain⟨a,p,ns,us,cs,rfl,hS,ep,hv,hbf,hcl,hbx,hlam,k⟩:=h;have hu1:=hu_of hr;have hu64:=hr.units;have nb0:(["_law_x","_law_y"]:List Str).Nodup:=by decide +kernel
    refine⟨_,(zac (zbP (pC g__law_row hr (zai (pC g__law_cell_at hr (pa_N (pv 0) (pa_C zah zab))) (pa_C zah (pa_C zah zab)))) (zmu (by rfl) (zae (nG 2 zaw.nd) (zae (nG 3 zaw.nd) (zae (nG 4 zaw.nd) (zae (nG 5 zaw.nd) (zae (nG 6 zaw.nd) zat)))))))
      (zac (ps_if (pw_or (zax op_eq (pe_op zaV (pv 2) zah) zah (zau _)) (zem (zax (zgG hu64) (pv 1) (zbw zab) (zau _)))).pt
      (zaf (zak (zcH zfw (pC g__law_picture hr (pa_N (pv 0) (pa_C zah zab))) zdw (zdv zah))))
      zaB)
      (zac (sE 7 zaw.nd zd3)
      (zac (zbm Bf rfl (zaz (pv 1)) (nG 8 zaw.nd)
      (zaf (zfG hu1 (pv 7) (pv 8) pe_bl rfl)))
      (zac (znZ (i:=9) (j:=10) rfl zaw.nd (by rfl) (by rfl) (by decide) (by rfl) (by rfl) (zai (zan (zk9 rfl) (by rfl) T.nmin (by rfl) (zai (zaI (osc:=zad zbO) (N:=zcB) (N':=["_law_x","_law_y"]) (sel:=[none,none]) bO (zaz (pv 1)) (λ_ _ _ _ _=>(zbV (K:=K) (n:=2) (by rfl) (zae (nG 0 nb0) (zae (nG 1 nb0) zat)))) (λ_ _ _ _ _=>zbl) (λ_ _ _ _ _=>(pv 0))) zab)) (zai (pe_ix zcO (pe_ix zbX (pv 1) zah (λ_ _=>rfl)) zah (λ_ _=>rfl)) zab)) (by rfl))
      (zac (zbm Bf rfl (zaz (zcH zfw (zbw (pa_N (pv 4) (pa_N (pv 5) (pa_N (pv 6) zab)))) zdw (zdv (pe_op zaW zah (pe_op zaV (pv 3) zah))))) (nG 11 zaw.nd)
      (zac (sE 8 zaw.nd (zaO (pa_B (pe_op zaW (pv 9) (pe_op zaV (pv 11) zah)) (pa_B (pe_op zaW (pv 10) (pe_op zaV (pe_op zfI (pv 11) zah) zah)) zab))))
      (zaf (ps_if (znY (zcN (zci (zlH hu1 (pv 7) (pv 8) pe_bl ⟨rfl,rfl,rfl,rfl⟩))) (zmW (zax op_lt (zan zhQ (by rfl) T.nlen (by rfl) (pa_N (pv 7) zab)) zah (zau _)))).pt
      (zaf (zfG hu1 (pv 7) (pv 8) pe_bl rfl))
      zaB))))
      (zaf (zak (pC g__law_in_order hr (zai (zgE (zg3 rfl) (by rfl) T.nlist (by rfl) (pa_N (pv 7) zab)) zab)))))))))),?_⟩
    have hσ:L2.start zcB [V.ref a,V.ref p]=[some (.ref a),some (.ref p),none,none,none,none,none,none,none,none,none,none]:=rfl;rw[hσ];refine⟨_,rfl,a,ns,0,rfl,hS,λc0=>⟨c0,5040,5,rfl,by decide,by decide,by decide,λf H1 fs hf s1 e1 hfl hfb=>?_⟩⟩
    obtain⟨wy,mn,ka,kb,kc,rfl⟩:∃a b c d e,fs=[a,b,c,d,e]:=by
      match fs,hfl with
      |[a,b,c,d,e],_=>exact⟨a,b,c,d,e,rfl⟩
    refine⟨f,_,rfl,SqL.of e1,rfl,_,_,rfl,_,_,rfl,_,_,rfl,_,_,rfl,_,_,rfl,rfl,?_⟩;simp only[za6,BL,BM];have s1k:=But1.of (L:=L) s1;have lam1:LamO L H1:=hlam.same s1;refine⟨_,rfl,_,_,rfl,rfl,(by show (0:Int)<3;decide),rfl,_,rfl,?_⟩
    have pic:∀(H2:Hp), Same H H2 -> LamO L H2 -> tRet (tSl (rSlL K) (tCall (zh7 K) [] E0 (tCons (tVar 0) (tCons (tC (V.int 12)) tNil))) zjC (tPart (tC (V.int 120)))) { nx := λx H' => Q V.non H', rt := Q }
        [some (V.ref a),some (V.ref p),some (V.int wy),some (V.int mn),some (V.int ka),some (V.int kb),some (V.int kc),none,none,none,none,none] H2:=λH2 s2 lam2=>by
      refine⟨_,rfl,a,ns,12,rfl,s2.seq hS,λq H3 vs ds hq s3 e3 v3 bf3 dl3 bx3=>?_⟩;refine⟨_,rfl,q,vs,rfl,SqL.of e3,λz hz=>?_⟩;rw[show cutV vs none (some 120)=vs.take 120 from zk2 vs 120,B5 (by rw[v3.1];exact dl3)];have s4:=(s2.trans s3).trans (Same.up (o:=.lst vs) hz);exact k z _ vs ds (But1.of s4) (hlam.same s4) zaa (v3.mono λx v h=>h.kt (KT.up hz)) bf3 dl3 bx3
    refine ite2 (λ_=>iteT (pic H1 s1 lam1)) (λ_=>?_);refine⟨_,rfl,Bd _,λq0 hq0=>?_⟩;have s2:=s1.trans (Same.up (o:=.lst []) hq0);have e2:upd H1 q0 (.lst []) q0=some (.lst []):=zaa;generalize upd H1 q0 (.lst [])=H2 at s2 e2;have lam2:LamO L H2:=hlam.same s2;refine zm8 (SqL.of (s2 _ _ ep)) (hv.mono λx v h=>h.kt (KT.of s2)) e2 ⟨_,rfl,?_⟩;refine ite2 (λ_=>pic H2 s2 lam2) (λhcn=>?_);have hcs:cs≠[]:=λz=>by rw[z]at hcn;exact absurd hcn (by decide)
    refine λf7 hf7=>?_
    have s3:=s2.trans (Same.up (o:=.dT []) hf7);have e3:upd H2 f7 (.dT []) f7=some (.dT []):=zaa;have hf0:H f7=none:=s2.free hf7;generalize upd H2 f7 (.dT [])=H3 at s3 e3;simp only[za6,BL,BM]
    have hcn:cs.Nodup:=hbf.imp λ{a b} q e=>by subst e;have q:HT.lexLt [a.2,a.1] [a.2,a.1]=true:=q;rw[HT.lexLt_irrefl]at q;cases q
    refine⟨_,rfl,p,rfl,⟨_,SqL.of (s3 _ _ ep)⟩,?_⟩
    refine zao (K:=K) (a:=p) (xs:=us) (λj σ H4=>∃o8,σ=[some (V.ref a),some (V.ref p),some (V.int wy),some (V.int mn),some (V.int ka),some (V.int kb),some (V.int kc),some (V.ref f7),o8,none,none,none]/\Same H H4/\H4 f7=some (.dT (dC (cs.take j))))
      ⟨_,rfl,s3,e3⟩ (λj σ H4 _ ⟨_,_,s4,_⟩=>SqL.of (s4 _ _ ep)) ?_ ?_
    . rintro j x σ H4 hj ⟨o8,rfl,s4,e4⟩;have hjl:j<us.length:=(Ad.mp hj).1;rw[hv.1]at hjl;obtain⟨c,hc,b,rfl,qb⟩:=hv.at hj;have b4:=s4 _ _ qb
      have hnm:c ∉ cs.take j:=λm=>by have h1:(cs.take (j+1)).Nodup:=(Cp _ _).nodup hcn;rw[zar hc]at h1;exact (List.nodup_append.mp h1).2.2 c m c (by simp) rfl
      refine⟨_,rfl,_,rfl,f7,_,rfl,.inr ⟨dC (cs.take j),kC c,b,e4,rfl,b4,(by rw[ziE,AS];exact CP (Nat.min_le_left _ _) (AG (show j<1000 by lia) (by decide))),rfl⟩,?_⟩;rw[zmt hnm,<- zar hc];exact⟨_,rfl,zal hf0 s4,zaa⟩
    rintro σ H4 ⟨o8,rfl,s4,e4⟩;rw[hv.1,AI]at e4;refine⟨_,rfl,p,rfl,⟨_,SqL.of (s4 _ _ ep)⟩,λg hg=>?_⟩;have hv4:=hv.mono λx v h=>h.kt (KT.of s4)
    refine zao (K:=K) (a:=p) (xs:=us) (λj σ H5=>∃o0 o1,σ=[o0,o1]/\Same H4 H5/\H5 g=some (.lst (((cs.take j).map (·.1)).map V.int)))
      ⟨_,_,rfl,Same.up hg,zaa⟩ (λj σ H5 _ ⟨_,_,_,s5,_⟩=>SqL.of ((s4.trans s5) _ _ ep)) ?_ ?_
    . rintro j x σ H5 hj ⟨o0,o1,rfl,s5,e5⟩;have hjl:j<us.length:=(Ad.mp hj).1;rw[hv.1]at hjl;obtain⟨c,hc,b,rfl,qb⟩:=hv4.at hj;refine⟨b,_,rfl,SqT.of (s5 _ _ qb),rfl,_,_,rfl,_,_,rfl,rfl,?_⟩;refine zb2 ?_
      refine⟨_,rfl,_,e5,zaj (by rw[Ah,Ah,AS];lia),_,_,rfl,zal hg s5,?_⟩;rw[zaa,zar hc,Ay,Ay];rfl
    rintro σ H5 ⟨o0,o1,rfl,s5,e5⟩;rw[hv.1,AI]at e5;refine⟨g,cs.map (·.1),rfl,SqL.of e5,(λz=>hcs (List.map_eq_nil_iff.mp z)),λlf hmin=>?_⟩;have s05:=s4.trans s5;have f5:=s5 _ _ e4;obtain⟨u0,hu0⟩:∃u0,us[0]?=some u0:=⟨_,Ab (by rw[hv.1];exact List.length_pos_iff.mpr hcs)⟩;obtain⟨c1,hc1,b1,rfl,qb1⟩:=hv.at hu0;refine⟨_,rfl,p,_,_,_,rfl,rfl,SqL.of (s05 _ _ ep),zaG (j:=0) hu0,b1,_,_,_,rfl,rfl,SqT.of (s05 _ _ qb1),zaG (j:=1) rfl,_,_,rfl,?_⟩;clear e4 e5
    have hbox:∀c∈cs,lf<=c.1/\c.1<lf+60/\c1.2<=c.2/\c.2<c1.2+60:=by
      obtain⟨l,lo,hb⟩:=hbx;obtain⟨c2,hc2,hlf2⟩:=AE.mp hmin.1;have hl2:=hb c2 hc2;have hc1m:=hb c1 (Aj hc1);intro c hc;have h1:=hb c hc;have h2:=hmin.2 c.1 (AE.mpr ⟨c,hc,rfl⟩)
      have h3:c1.2<=c.2:=by
        cases cs with
        |nil=>cases hc
        |cons z r =>
          have ez:z=c1:=by injection hc1
          rcases Ax.mp hc with hz |hc
          . rw[hz,ez];exact Int.le_refl _
          . have q:HT.lexLt [z.2,z.1] [c.2,c.1]=true:=(Ch.mp hbf).1 c hc;rw[ez]at q;rw[HT.lexLt_cons]at q;split at q
            . lia
            . have:=of_decide_eq_true q;lia
      lia
    simp only[za6,BL,BM];refine⟨_,rfl,_,rfl,_,rfl,three,λl6 hl6=>?_⟩;refine⟨_,rfl,_,_,rfl,rfl,(by show (0:Int)<3;decide),_,_,rfl,rfl,_,rfl,l6,_,rfl,SqL.of zaa,λl7 hl7=>?_⟩
    obtain⟨ms,hms,hml⟩:∃ms:List Int,cutV [V.int ka,V.int kb,V.int kc] none (some (1+mn % 3))=ms.map V.int/\ms.length<=3:=by
      refine⟨([ka,kb,kc].drop (HT.sIx 3 0 none)).take (HT.sIx 3 3 (some (1+mn % 3))-HT.sIx 3 0 none),?_,?_⟩
      . show (([ka,kb,kc].map V.int).drop (HT.sIx 3 0 none)).take _=_;rw[D9,D8];rfl
      . rw[AS,List.length_drop];show min _ (3-_)<=3;lia
    rw[hms];have s7:=s05.trans ((Same.up (o:=.lst [V.int ka,V.int kb,V.int kc]) hl6).trans (Same.up (o:=.lst (ms.map V.int)) hl7));have f7':=((Same.up (o:=.lst [V.int ka,V.int kb,V.int kc]) hl6).trans (Same.up (o:=.lst (ms.map V.int)) hl7)) _ _ f5;have e7:upd (upd H5 l6 (.lst [V.int ka,V.int kb,V.int kc])) l7 (.lst (ms.map V.int)) l7=some (.lst (ms.map V.int)):=zaa;generalize upd (upd H5 l6 (.lst [V.int ka,V.int kb,V.int kc])) l7 (.lst (ms.map V.int))=H7 at s7 f7' e7;have hlf:f7≠l7:=λz=>by rw[z]at f7';rw[e7]at f7';cases f7'
    refine⟨l7,rfl,⟨_,SqL.of e7⟩,?_⟩
    refine zao (K:=K) (a:=l7) (xs:=ms.map V.int) (λj σ H8=>∃o8 o11 F,σ=[some (V.ref a),some (V.ref p),some (V.int wy),some (V.int mn),some (V.int ka),some (V.int kb),some (V.int kc),some (V.ref f7),o8,some (V.int lf),some (V.int c1.2),o11]/\Same H H8/\H8 l7=some (.lst (ms.map V.int))/\H8 f7=some (.dT (dC F))/\F.Nodup/\F.length<=120/\∀c∈F,lf<=c.1/\c.1<lf+60/\c1.2<=c.2/\c.2<c1.2+60)
      ⟨_,_,cs,rfl,s7,e7,f7',hcn,hcl,hbox⟩ (λj σ H8 _ ⟨_,_,_,_,_,e8,_⟩=>SqL.of e8) ?_ ?_
    . rintro j x σ H8 hj ⟨o8,o11,F,rfl,s8,e8,f8,hn8,hl8,hF8⟩;rw[AA]at hj;obtain⟨n,hn,rfl⟩:=A4.mp hj;simp only[za6,BL,BM];refine⟨_,rfl,_,rfl,_,_,rfl,rfl,(by show (0:Int)<12;decide),_,_,rfl,rfl,_,rfl,_,rfl,_,_,rfl,rfl,⟨by decide,by decide⟩,_,_,rfl,rfl,(by show (0:Int)<10;decide),_,_,rfl,rfl,two,λt9 ht9=>?_⟩;have s9:=Same.up (o:=.tup (cellT (lf+n % 12,c1.2+n / 12 % 10))) ht9;have e9:upd H8 t9 (.tup (cellT (lf+n % 12,c1.2+n / 12 % 10))) t9=some (.tup (cellT (lf+n % 12,c1.2+n / 12 % 10))):=zaa;simp only[za6,BL,BM];have hcell:∃c:Cell,[V.int (lf+n % 12),V.int (c1.2+n / 12 % 10)]=cellT c/\lf<=c.1/\c.1<lf+60/\c1.2<=c.2/\c.2<c1.2+60:=⟨(lf+n % 12,c1.2+n / 12 % 10),rfl,by show lf<=lf+n % 12/\lf+n % 12<lf+60/\c1.2<=c1.2+n / 12 % 10/\c1.2+n / 12 % 10<c1.2+60;lia⟩;obtain⟨c,hce,hcb⟩:=hcell;have hce':cellT (lf+n % 12,c1.2+n / 12 % 10)=cellT c:=hce;rw[hce']at s9 e9;rw[hce];clear hce hce';generalize upd H8 t9 (.tup (cellT c))=H9 at s9 e9;have f9:=s9 _ _ f8;have l9:=s9 _ _ e8;have s89:=s8.trans s9;have hft:t9≠f7:=λz=>by rw[z]at e9;rw[f9]at e9;cases e9
      refine⟨_,rfl,f7,rfl,.inr ⟨_,Rd.of f9⟩,_,rfl,dC F,kC c,t9,f9,rfl,e9,λv hv'=>?_,λhv'=>?_⟩
      . have hv1:=zon hv';subst hv1;refine⟨_,rfl,iteF ?_⟩;rw[znn];refine⟨_,_,F.filter λx=>decide (x≠c),rfl,zal hf0 s89,by rw[zag (Cj hlf)];exact l9,zaa,hn8.filter _,A3 (BV _ _) hl8,λx hx=>hF8 x (Bz.mp hx).1⟩
      . have hcF:c ∉ F := λm => by
          have:=zhk c F;rw[hv']at this;rw[show isIn F c=true from decide_eq_true m]at this
          cases this
        refine⟨_,rfl,iteT ?_⟩;refine⟨_,rfl,f7,_,rfl,Rd.of f9,_,_,rfl,rfl,_,rfl,?_⟩;refine ite2 (λhy=>?_) (λ_=>⟨_,_,F,rfl,s89,l9,f9,hn8,hl8,hF8⟩)
        have hlt:F.length<120:=by have:=of_decide_eq_true hy;rw[ziE]at this;lia
        refine⟨_,rfl,_,rfl,f7,_,rfl,.inr ⟨dC F,kC c,t9,f9,rfl,e9,(by rw[ziE];exact AG hlt (by decide)),rfl⟩,?_⟩;rw[zmt hcF]
        refine⟨_,_,F++[c],rfl,zal hf0 s89,by rw[zag (Cj hlf)];exact l9,zaa,?_,by rw[Av,Ea];lia,λx hx=>by
          rcases AC.mp hx with z |z
          . exact hF8 x z
          . rw[Am.mp z];exact hcb⟩
        refine List.nodup_append.mpr ⟨hn8,by simp,λa ha b hb=>?_⟩;rw[Am.mp hb];exact λz=>hcF (z ▸ ha)
    rintro σ H8 ⟨o8,o11,F,rfl,s8,e8,f8,hn8,hl8,hF8⟩;refine⟨_,rfl,f7,dC F,rfl,Rd.of f8,λl9 ts hl9 hkl=>?_⟩;have vts:=KeyL.cells hkl;have s9:=s8.trans (Same.up (o:=.lst ts) hl9);have vt9:=vts.mono λx v h=>h.kt (KT.up (o:=.lst ts) hl9)
    have lam9:LamO L (upd H8 l9 (.lst ts)):=hlam.same s9;refine⟨l9,ts,F,rfl,zaa,vt9,hn8,by lia,lam9,λq H10 vs ds hq b10 lam10 e10 v10 bf10 pm10=>?_⟩;exact k q H10 vs ds ((But1.of s9).trans b10) lam10 e10 v10 bf10 (by rw[pm10.length_eq];exact hl8) ⟨lf,c1.2,λc hc=>hF8 c (pm10.mem_iff.mp hc)⟩
theorem zd0{F:List Cell}(h:F.Pairwise Bfr):F.Nodup:=h.imp λ{a b} q e=>by subst e;have q:HT.lexLt [a.2,a.1] [a.2,a.1]=true:=q;rw[HT.lexLt_irrefl]at q;cases q
theorem zms:∀{F G:List Cell},F.Pairwise Bfr->G.Pairwise Bfr->(∀c,c∈F ↔ c∈G)->F=G
 |[],[],_,_,_=>rfl
 |[],g::G,_,_,h=>absurd ((h g).mpr Ap) (by simp)
 |f::F,[],_,_,h=>absurd ((h f).mp Ap) (by simp)
 |f::F,g::G,hF,hG,h=>by
  have hF':=Ch.mp hF;have hG':=Ch.mp hG
  have e:f=g:=by
   rcases Ax.mp ((h f).mp Ap) with z |z
   .exact z
   .rcases Ax.mp ((h g).mpr Ap) with y |y
    .exact y.symm
    .have a:=hG'.1 f z;have b:=hF'.1 g y;have:=HT.lexLt_asym a;rw[b]at this;cases this
  subst e;have nf:=(Bs.mp (zd0 hF)).1;have ng:=(Bs.mp (zd0 hG)).1;rw[zms hF'.2 hG'.2 λc=>⟨λm=>?_,λm=>?_⟩]
  .exact (Ax.mp ((h c).mp (As _ m))).resolve_left λz=>nf (z ▸ m)
  .exact (Ax.mp ((h c).mpr (As _ m))).resolve_left λz=>ng (z ▸ m)
theorem znf{R:List Rnd}(hin:InKey R)(hd:R.Nodup)(hi:∀r∈R,∀q∈R,keyI r=keyI q->r=q){i:Nat}{r q:Rnd}(h1:R[i]?=some r)(h2:R[i+1]?=some q):HT.lexLt (keyI r) (keyI q)=true:=by
 have l1:=(Ad.mp h1).1;have l2:=(Ad.mp h2).1;have e1:=(Ad.mp h1).2;have e2:=(Ad.mp h2).2;have a:=BA.mp hin i (i+1) l1 l2 (by lia);have b:=BA.mp hd i (i+1) l1 l2 (by lia);rw[e1,e2]at a b
 cases z:HT.lexLt (keyI r) (keyI q) with
 |true=>rfl
 |false=>exact absurd (hi r (Aj h1) q (Aj h2) (zkB z a)) b
theorem zkP:∀l m:List (List Int),PyData.eqvAll (l.map tI) (m.map tI)=decide (l=m)
 |[],[]=>rfl
 |[],_::_=>rfl
 |_::_,[]=>rfl
 |x::l,y::m=>by
  show (C6 (tI x) (tI y) && PyData.eqvAll (l.map tI) (m.map tI))=_;rw[zkP l m,zeA]
  by_cases h1:x=y <;> by_cases h2:l=m <;> simp[h1,h2]
theorem eqv2(cs ds:List Cell):C6 (lT (cs.map cI)) (lT (ds.map cI))=decide (cs=ds):=by show PyData.eqvAll ((cs.map cI).map tI) ((ds.map cI).map tI)=_;rw[zkP];refine decide_eq_decide.mpr ⟨λh=>(List.map_inj_right (λx y e=>?_)).mp h,λh=>by rw[h]⟩;obtain⟨a,b⟩:=x;obtain⟨c,d⟩:=y;simp[cI]at e;rw[e.1,e.2]
structure RdsS (K:W.Frag) (H:Hp) (q:Addr) (rs:List V) (R R0:List Rnd) (cs:List Cell):Prop where
 li:H q=some (.lst rs)
 vr:VR rs R rR H
 pm:R.Perm R0
 ik:InKey R
 wh:Whole cs R0
theorem RdsS.same{K:W.Frag}{H H':Hp}{q:Addr}{rs:List V}{R R0:List Rnd}{cs:List Cell}(h:RdsS K H q rs R R0 cs)(s:Same H H'):RdsS K H' q rs R R0 cs:=⟨s _ _ h.li,h.vr.mono λx v z=>rR.kt z (KT.of s),h.pm,h.ik,h.wh⟩
theorem RdsS.few{K:W.Frag}{H:Hp}{q:Addr}{rs:List V}{R R0:List Rnd}{cs:List Cell}(h:RdsS K H q rs R R0 cs):R.length<=cs.length:=by rw[h.pm.length_eq];exact h.wh.few
theorem RdsS.up{K:W.Frag}{H:Hp}{q:Addr}{rs:List V}{R R0:List Rnd}{cs:List Cell}(h:RdsS K H q rs R R0 cs):∀(i:Nat) r q,R[i]?=some r->R[i+1]?=some q->HT.lexLt (keyI r) (keyI q)=true:=λi r q h1 h2=>by obtain⟨E,hP,_⟩:=h.wh;exact znf h.ik (h.pm.nodup_iff.mpr hP.nodup) (λx hx y hy e=>hP.key_inj x (h.pm.mem_iff.mp hx) y (h.pm.mem_iff.mp hy) e) h1 h2
noncomputable def spLaw(K:W.Frag)(L:Addr):Sp:=λvs H Q _=>∃(a:Addr) (ns:List Int),vs=[.ref a]/\SqL K H a (ns.map V.int)/\ns.length<=63/\LamO L H/\∀H',Q (.bl true) H'
theorem zn7 {L:Addr}(T:Txt P w K mg) (g__law_picture:Fn P w K mg base 2 "_law_picture" ["_law_script", "_law_start"] (zh7 K)) (g__law_other:Fn P w K mg base 5 "_law_other" ["_law_script", "_law_cells"] (zjI K L)) (g_rounds:Fn P w K mg base 7 "rounds" ["picture"] (zfs K)) (g_shows:Fn P w K mg base 8 "shows" ["picture", "thing"] (zjG K)) (g_picture_of:Fn P w K mg base 9 "picture_of" ["some"] (zjH K))
  (d:Df K mg "law" s_law ["_law_script"]):FnOk P w K mg base CX0 10 d.f d.fd ["_law_script"] (spLaw K L):=by
 refine d.F.ok zdJ (λvs H Q E h=>?_) (λcdv A outer s H vs Q E hr h=>?_)
 .obtain⟨a,ns,rfl,_⟩:=h;rfl
 .obtain⟨a,ns,rfl,hS,_,hlam,k⟩:=h;have hu64:=hr.units
  refine⟨_,(zac (sE 1 zdJ.nd (pC g__law_picture hr (pa_N (pv 0) (pa_C zah zab))))
   (zac (sE 2 zdJ.nd (pC g__law_other hr (pa_N (pv 0) (pa_N (pv 1) zab))))
   (zac (sE 3 zdJ.nd (pC g_rounds hr (pa_N (pv 1) zab)))
   (zac (sE 4 zdJ.nd (pC g_rounds hr (pa_N (pv 2) zab)))
   (zac (ps_if (pw_or (zax zki (pC g_shows hr (pa_N (pv 1) (pa_N (pv 3) zab))) pe_bl (zau _)) (zem (zax zki (pC g_shows hr (pa_N (pv 2) (pa_N (pv 4) zab))) pe_bl (zau _)))).pt
   (zaf (zak pe_bl))
   zaB)
   (zac (zbm Bf rfl (zaz (zbw (pa_T (zaO (pa_N (pv 1) (pa_N (pv 4) zab))) (pa_T (zaO (pa_N (pv 2) (pa_N (pv 3) zab))) zab)))) (zbh (by rfl) (zae (nG 5 zdJ.nd) (zae (nG 6 zdJ.nd) zat)))
   (zac (sE 7 zdJ.nd (pC g_shows hr (pa_N (pv 5) (pa_N (pv 6) zab))))
   (zaf (ps_if (pw_or (zcN (zci (zan zcf (by rfl) T.nisinstance (by rfl) (pa_N (pv 7) (pa_N (zcY (v:=.ty "bool") (by rfl) T.nbool (by rfl) rfl) zab))))) (zem (zax op_ne (pv 7) (zbH (zgG hu64) (pv 1) (pv 2) (zau _)) (zau _)))).pt
   (zaf (zak pe_bl))
   zaB))))
   (zaf (zak (zcj (zbH (zgG hu64) (pC g_picture_of hr (pa_N (pv 3) zab)) (pv 1) (zau _)) (zdg (zbH (zgG hu64) (pC g_picture_of hr (pa_N (pv 4) zab)) (pv 2) (zau _)))))))))))),?_⟩
  have hσ:L2.start N_law [V.ref a]=[some (.ref a),none,none,none,none,none,none,none]:=rfl;rw[hσ];refine⟨_,rfl,a,ns,1,rfl,hS,λp1 H1 v1 cs hp1 s1 e1 hv1 hb1 hl1 hB1=>?_⟩;have lam1:LamO L H1:=hlam.same s1;refine⟨_,rfl,_,rfl,a,p1,ns,v1,cs,rfl,s1.seq hS,e1,hv1,hb1,hl1,hB1,lam1,λp2 H2 v2 ds b2 lam2 e2 hv2 hb2 hl2 hB2=>?_⟩;have e12:=b2.at lam1 e1 nofun;have hv12:=hv1.mono λx v h=>h.kt (b2.kt lam1)
  clear e1 hv1 b2 lam1 lam2 hlam s1;refine⟨_,rfl,p1,cs,rfl,LR.of e12 hv12,zeo hb1,hl1,λq H3 rs R R0 hq s3 e3 hr3 hpm hin hwh=>?_⟩;refine⟨_,rfl,p2,ds,rfl,LR.of (s3 _ _ e2) (hv2.mono λx v h=>h.kt (KT.of s3)),zeo hb2,hl2,λz H4 ts S S0 hz s4 e4 hr4 hpS hinS hwS=>?_⟩;have rA:RdsS K H4 q rs R R0 cs:=(⟨e3,hr3,hpm,hin,hwh⟩:RdsS K H3 q rs R R0 cs).same s4;have rB:RdsS K H4 z ts S S0 ds:=⟨e4,hr4,hpS,hinS,hwS⟩;have s24:=s3.trans s4;have c4:=s24 _ _ e12;have vc4:=hv12.mono λx v h=>h.kt (KT.of s24)
  have d4:=s24 _ _ e2;have vd4:=hv2.mono λx v h=>h.kt (KT.of s24)
  clear e12 hv12 e2 hv2 e3 hr3 e4 hr4 s3 s4 s24;have ncs:=zd0 hb1;have nds:=zd0 hb2;obtain⟨ESS,hcA⟩:=Whole.cans hpm hwh;obtain⟨FSS,hcB⟩:=Whole.cans hpS hwS
  have same:(∀c,isIn cs c=isIn ds c) ↔ cs=ds:=by
   constructor
   .intro h;refine zms hb1 hb2 λc=>?_
    have:=h c;unfold isIn at this;exact decide_eq_decide.mp this
   .intro h c;rw[h]
  simp only[za6,BL,BM];refine⟨_,rfl,_,rfl,p1,q,v1,rs,cs,cs,R,ESS,rfl,c4,vc4,zeo hb1,hl1,ncs,rA.li,rA.vr,hcA,hl1,A3 rA.few hl1,rA.up,λb H5 s5 hb=>?_⟩;have hbt:b=true:=hb.mpr λ_=>rfl
  subst hbt;refine⟨_,_,rfl,rfl,_,rfl,iteF ?_⟩;have rA5:=rA.same s5;have rB5:=rB.same s5;refine⟨_,rfl,_,rfl,p2,z,v2,ts,ds,ds,S,FSS,rfl,s5 _ _ d4,vd4.mono λx v h=>h.kt (KT.of s5),zeo hb2,hl2,nds,rB5.li,rB5.vr,hcB,hl2,A3 rB5.few hl2,rB5.up,λb H6 s6 hb'=>?_⟩;have hbt:b=true:=hb'.mpr λ_=>rfl
  subst hbt;refine⟨_,_,rfl,rfl,_,rfl,iteF ?_⟩;have s46:=s5.trans s6;have rA6:=rA.same s46;have rB6:=rB.same s46;have c6:=s46 _ _ c4;have d6:=s46 _ _ d4;have vc6:=vc4.mono λx v h=>h.kt (KT.of s46)
  have vd6:=vd4.mono λx v h=>h.kt (KT.of s46)
  clear c4 d4 vc4 vd4 rA rB rA5 rB5 s5 s6 s46 hb hb';refine⟨_,rfl,_,rfl,two,λt1 ht1=>⟨_,rfl,_,rfl,two,λt2 ht2=>⟨two,λl3 hl3=>?_⟩⟩⟩;have s7:Same H6 (upd (upd (upd H6 t1 (.tup [V.ref p1,V.ref z])) t2 (.tup [V.ref p2,V.ref q])) l3 (.lst [V.ref t1,V.ref t2])):=((Same.up ht1).trans (Same.up ht2)).trans (Same.up hl3);have x1:upd (upd (upd H6 t1 (.tup [V.ref p1,V.ref z])) t2 (.tup [V.ref p2,V.ref q])) l3 (.lst [V.ref t1,V.ref t2]) t1=some (.tup [V.ref p1,V.ref z]):=Same.up hl3 _ _ (Same.up ht2 _ _ zaa);have x2:upd (upd (upd H6 t1 (.tup [V.ref p1,V.ref z])) t2 (.tup [V.ref p2,V.ref q])) l3 (.lst [V.ref t1,V.ref t2]) t2=some (.tup [V.ref p2,V.ref q]):=Same.up hl3 _ _ zaa;have x3:upd (upd (upd H6 t1 (.tup [V.ref p1,V.ref z])) t2 (.tup [V.ref p2,V.ref q])) l3 (.lst [V.ref t1,V.ref t2]) l3=some (.lst [V.ref t1,V.ref t2]):=zaa;generalize upd (upd (upd H6 t1 (.tup [V.ref p1,V.ref z])) t2 (.tup [V.ref p2,V.ref q])) l3 (.lst [V.ref t1,V.ref t2])=H7 at s7 x1 x2 x3;have rA7:=rA6.same s7;have rB7:=rB6.same s7;have c7:=s7 _ _ c6;have d7:=s7 _ _ d6;have vc7:=vc6.mono λx v h=>h.kt (KT.of s7)
  have vd7:=vd6.mono λx v h=>h.kt (KT.of s7)
  clear c6 d6 vc6 vd6 rA6 rB6 s7;refine⟨l3,rfl,⟨_,SqL.of x3⟩,?_⟩
  refine zao (K:=K) (a:=l3) (xs:=[V.ref t1,V.ref t2]) (λj σ H8=>∃o5 o6 o7,σ=[some (V.ref a),some (V.ref p1),some (V.ref p2),some (V.ref q),some (V.ref z),o5,o6,o7]/\Same H7 H8)
   ⟨_,_,_,rfl,Same.refl _⟩ (λj σ H8 _ ⟨_,_,_,_,s8⟩=>SqL.of (s8 _ _ x3)) ?_ ?_
  .rintro j x σ H8 hj ⟨o5,o6,o7,rfl,s8⟩
   have hj2:(j=0/\x=.ref t1)∨(j=1/\x=.ref t2):=by
    match j,hj with
    | 0,h=>left;exact⟨rfl,by injection h with h;exact h.symm⟩
    | 1,h=>right;exact⟨rfl,by injection h with h;exact h.symm⟩
    |j+2,h=>simp at h
   rcases hj2 with⟨rfl,rfl⟩ |⟨rfl,rfl⟩
   .refine⟨t1,_,rfl,SqT.of (s8 _ _ x1),rfl,_,_,rfl,_,_,rfl,rfl,?_⟩;simp only[za6,BL,BM];refine⟨_,rfl,_,rfl,p1,z,v1,ts,ds,cs,S,FSS,rfl,s8 _ _ c7,vc7.mono λx v h=>h.kt (KT.of s8),zeo hb1,hl1,ncs,(rB7.same s8).li,(rB7.same s8).vr,hcB,hl2,A3 rB7.few hl2,rB7.up,λb H9 s9 hb=>?_⟩;simp only[za6,BL,BM];refine⟨_,rfl,_,_,_,_,rfl,.bl _,zcb _ _,_,rfl,iteF ?_⟩;have s79:=s8.trans s9;refine⟨_,rfl,_,rfl,_,rfl,lT (cs.map cI),lT (ds.map cI),zbz (SqL.of (s79 _ _ c7)) (vc7.mono λx v h=>h.kt (KT.of s79)),zbz (SqL.of (s79 _ _ d7)) (vd7.mono λx v h=>h.kt (KT.of s79)),za0 _,za0 _,rfl,_,rfl,iteN ?_ ⟨_,_,_,rfl,s79⟩⟩
    have hbd:b=C6 (lT (cs.map cI)) (lT (ds.map cI)):=by rw[eqv2,Ds,hb,decide_eq_true_iff];exact⟨λh=>same.mp λc=>(h c).symm,λh c=>(same.mpr h c).symm⟩
    rw[hbd];simp
   .refine⟨t2,_,rfl,SqT.of (s8 _ _ x2),rfl,_,_,rfl,_,_,rfl,rfl,?_⟩;simp only[za6,BL,BM];refine⟨_,rfl,_,rfl,p2,q,v2,rs,cs,ds,R,ESS,rfl,s8 _ _ d7,vd7.mono λx v h=>h.kt (KT.of s8),zeo hb2,hl2,nds,(rA7.same s8).li,(rA7.same s8).vr,hcA,hl1,A3 rA7.few hl1,rA7.up,λb H9 s9 hb=>?_⟩;simp only[za6,BL,BM];refine⟨_,rfl,_,_,_,_,rfl,.bl _,zcb _ _,_,rfl,iteF ?_⟩;have s79:=s8.trans s9;refine⟨_,rfl,_,rfl,_,rfl,lT (cs.map cI),lT (ds.map cI),zbz (SqL.of (s79 _ _ c7)) (vc7.mono λx v h=>h.kt (KT.of s79)),zbz (SqL.of (s79 _ _ d7)) (vd7.mono λx v h=>h.kt (KT.of s79)),za0 _,za0 _,rfl,_,rfl,iteN ?_ ⟨_,_,_,rfl,s79⟩⟩
    have hbd:b=C6 (lT (cs.map cI)) (lT (ds.map cI)):=by rw[eqv2,Ds,hb,decide_eq_true_iff];exact same
    rw[hbd];simp
  rintro σ H8 ⟨o5,o6,o7,rfl,s8⟩;have rA8:=rA7.same s8;refine⟨_,rfl,q,rs,R,R0,cs,rfl,rA8.li,rA8.vr,hpm,hin,hwh,hb1,hl1,hB1,λg H9 zs hg s9 e9 hz9=>?_⟩;have s79:=s8.trans s9;refine⟨_,rfl,lT (cs.map cI),lT (cs.map cI),zbz (SqL.of e9) hz9,zbz (SqL.of (s79 _ _ c7)) (vc7.mono λx v h=>h.kt (KT.of s79)),za0 _,za0 _,_,rfl,iteY (by rw[eqv2];simp) ?_⟩;have rB9:=rB7.same s79;refine⟨_,rfl,z,ts,S,S0,ds,rfl,rB9.li,rB9.vr,hpS,hinS,hwS,hb2,hl2,hB2,λg' H10 zs' hg' s10 e10 hz10=>?_⟩;have s710:=s79.trans s10;refine⟨_,rfl,lT (ds.map cI),lT (ds.map cI),zbz (SqL.of e10) hz10,zbz (SqL.of (s710 _ _ d7)) (vd7.mono λx v h=>h.kt (KT.of s710)),za0 _,za0 _,?_⟩;rw[eqv2,decide_eq_true rfl];exact k _
end
theorem all_mk {L0:Addr}{l:W.OpenLaw}{w:Bg}{K:W.Frag}{h:Heap}{mg:Str -> Option Ac}{fa:Addr}(X:K.In h) (G:h.Ns AU mg) (hfa:mg "law" = some (.ref fa)){fx48 fx50:Addr}{od48 an48 od50 an50:Option Addr}{sl48 sl50:Array (Option Ac)}{oc48 kV48 dc48 pm48 ct48 oc50 kV50 dc50 pm50 ct50 cd50:Ac}{cc0:Addr}{hd0:Option Addr}{hv0:Array Ac}{hs0:Array (Option Ac)}
  (h0:DA K "cell_order" zcv)
  (h1:DA K "ask_picture" zca)
  (h2:DA K "gone" zjZ)
  (h3:DA K "cell_table" zbN)
  (h4:DA K "gap_beside" zct)
  (h5:DA K "all_edges" zbG)
  (h6:DA K "straight_step" zbF)
  (h7:DA K "slant_step" zcr)
  (h8:DA K "step_behind" zb5)
  (h9:DA K "is_slant" zdr)
  (h10:DA K "edge_behind" zb8)
  (h11:DA K "walk_from" zcT)
  (h12:DA K "lefts_and_slants" zaH)
  (h13:DA K "lefts_less_slants" za9)
  (h14:DA K "sort_of" zej)
  (h15:DA K "begin_of" zcG)
  (h16:DA K "round_of" zbA)
  (h17:DA K "round_order" zb6)
  (h18:DA K "rounds_along" zbS)
  (h19:DA K "rounds" zfD)
  (h20:DA K "begin_edge" zcw)
  (h21:DA K "way_for" zeg)
  (h22:DA K "deeds_along" zb9)
  (h23:DA K "walk_by" zei)
  (h24:DA K "walk_along" zcq)
  (h25:DA K "seen_between" zbR)
  (h26:DA K "gainsaid_at" zb7)
  (h27:DA K "comes_back" zcu)
  (h28:DA K "is_closed" zcV)
  (h29:DA K "walk_of" zeh)
  (h30:DA K "ask_round" zcW)
  (h31:DA K "edges_of" zcF)
  (h32:DA K "is_whole" zdq)
  (h33:DA K "is_row" zdZ)
  (h34:DA K "has_form" zdt)
  (h35:DA K "is_round" zds)
  (h36:DA K "is_edge" zek)
  (h37:DA K "goes_along" zbL)
  (h38:DA K "stand_in_order" za5)
  (h39:DA K "shows" zcU)
  (h40:DA K "uprights" zdp)
  (h41:DA K "cells_within" zbs)
  (h42:DA K "cells_told" zbM)
  (h43:DA K "first_unlike" zbT)
  (h44:DA K "picture_of" zcs)
  (h45:DA K "_law_cell_at" zbU)
  (h46:DA K "_law_row" zdu)
  (h47:DA K "_law_picture" zbt)
  (a48:DS K AU "_law_in_order" = some (some (.ref fx48))) (l48:K.lookup fx48=some ⟨oc48,od48,.func (Es "_law_in_order" "_law_in_order" (zbb zaF) (zaU zaF) (zad zaF) .none kV48 dc48 pm48 an48 (.ref cc0) ct48),sl48⟩) (c48:W.codeIn K (.ref cc0) "_law_in_order" = true) (k48:W.keepIn K (.ref fx48)=true)
  (lc0:K.lookup cc0=some ⟨.type "code",hd0,.fields hv0,hs0⟩) (lh0:hdOk hv0 cc0 L0=true)
  (h49:DA K "_law_other" zbO)
  (a50:DS K AU "law" = some (some (.ref fx50))) (l50:K.lookup fx50=some ⟨oc50,od50,.func (Es "law" "law" (zbb s_law) (zaU s_law) (zad s_law) .none kV50 dc50 pm50 an50 cd50 ct50),sl50⟩) (c50:W.codeIn K cd50 "law" = true) (k50:W.keepIn K (.ref fx50)=true)
  {M m0 m1 m2 m3 m4 m5 m6 m7:Addr}{odM:Option Addr}{nM:Nat}{slM:Array (Option Ac)}
  (aM:DS K AU "MOVES" = some (some (.ref M))) (lM:K.lookup M=some ⟨.type "tuple",odM,.seq #[.ref m0,.ref m1,.ref m2,.ref m3,.ref m4,.ref m5,.ref m6,.ref m7] nM,slM⟩)
  {odm0:Option Addr}{nm0:Nat}{slm0:Array (Option Ac)}{tm0 um0:Tok} (x0:K.lookup m0=some ⟨.type "tuple",odm0,.seq #[.int (1) tm0,.int (0) um0] nm0,slm0⟩)
  {odm1:Option Addr}{nm1:Nat}{slm1:Array (Option Ac)}{tm1 um1:Tok} (x1:K.lookup m1=some ⟨.type "tuple",odm1,.seq #[.int (1) tm1,.int (1) um1] nm1,slm1⟩)
  {odm2:Option Addr}{nm2:Nat}{slm2:Array (Option Ac)}{tm2 um2:Tok} (x2:K.lookup m2=some ⟨.type "tuple",odm2,.seq #[.int (0) tm2,.int (1) um2] nm2,slm2⟩)
  {odm3:Option Addr}{nm3:Nat}{slm3:Array (Option Ac)}{tm3 um3:Tok} (x3:K.lookup m3=some ⟨.type "tuple",odm3,.seq #[.int (-1) tm3,.int (1) um3] nm3,slm3⟩)
  {odm4:Option Addr}{nm4:Nat}{slm4:Array (Option Ac)}{tm4 um4:Tok} (x4:K.lookup m4=some ⟨.type "tuple",odm4,.seq #[.int (-1) tm4,.int (0) um4] nm4,slm4⟩)
  {odm5:Option Addr}{nm5:Nat}{slm5:Array (Option Ac)}{tm5 um5:Tok} (x5:K.lookup m5=some ⟨.type "tuple",odm5,.seq #[.int (-1) tm5,.int (-1) um5] nm5,slm5⟩)
  {odm6:Option Addr}{nm6:Nat}{slm6:Array (Option Ac)}{tm6 um6:Tok} (x6:K.lookup m6=some ⟨.type "tuple",odm6,.seq #[.int (0) tm6,.int (-1) um6] nm6,slm6⟩)
  {odm7:Option Addr}{nm7:Nat}{slm7:Array (Option Ac)}{tm7 um7:Tok} (x7:K.lookup m7=some ⟨.type "tuple",odm7,.seq #[.int (1) tm7,.int (-1) um7] nm7,slm7⟩)
  {B:Addr}{t1 t2 t3 t4:Tok}{nB:Nat} (aB:DS K AU "BEGIN_WAYS" = some (some (.ref B))) (lB:K.lookup B=some ⟨.type "dict",none,.dict #[⟨BX w.params "rim",.str "rim" t1,.int 0 t2⟩,⟨BX w.params "hole",.str "hole" t3,.int 2 t4⟩] nB,#[]⟩)
  (sB:(B == PySem.sysModules)=false)
  {B2:Addr}{u1 u2 u3 u4:Tok}{nB2:Nat} (aB2:DS K AU "MORE_LEFTS" = some (some (.ref B2))) (lB2:K.lookup B2=some ⟨.type "dict",none,.dict #[⟨BX w.params "rim",.str "rim" u1,.int 4 u2⟩,⟨BX w.params "hole",.str "hole" u3,.int (-4) u4⟩] nB2,#[]⟩)
  (z_range:DS K AU "range" = some none)
  (z_len:DS K AU "len" = some none)
  (z_min:DS K AU "min" = some none)
  (z_sorted:DS K AU "sorted" = some none)
  (z_tuple:DS K AU "tuple" = some none)
  (z_int:DS K AU "int" = some none)
  (z_bool:DS K AU "bool" = some none)
  (z_str:DS K AU "str" = some none)
  (z_all:DS K AU "all" = some none)
  (z_isinstance:DS K AU "isinstance" = some none)
  (z_list:DS K AU "list" = some none)
  (z_sum:DS K AU "sum" = some none)
  (z_enumerate:DS K AU "enumerate" = some none)
  (z_zip:DS K AU "zip" = some none) :
  ∃fd:Cc,(∀(s:Ae) (v:Ac),BindsTo s fd ⟨[v],[]⟩ [("_law_script",v)])/\(∀P∈[L0],∃c,DY K c P=true)/\∀base:Heap,K.In base->base.Ns AU mg->Bm mg base->FnOk l.prog w K mg base CX0 10 fa fd ["_law_script"] (spLaw K L0):=by
 have e:=hfa.symm.trans (W.mg_of X G a50)
 cases e
 have moves:∃M,mg "MOVES" = some (.ref M)/\∀H,∃ms:List Addr,SqT K H M (ms.map V.ref)/\ms.length=8/\∀(i:Nat) a,ms[i]?=some a->SqT K H a [.int (mv i).1,.int (mv i).2]:=by
  refine⟨M,W.mg_of X G aM,λH=>⟨[m0,m1,m2,m3,m4,m5,m6,m7],.inr ⟨_,_,_,lM,rfl,rfl,(by show 8<=sizeLine;decide),.cons rfl (.cons rfl (.cons rfl (.cons rfl (.cons rfl (.cons rfl (.cons rfl (.cons rfl .nil)))))))⟩,rfl,λi a e=>?_⟩⟩
  match i,e with
  | 0,e=>cases e;exact .inr ⟨_,_,_,x0,rfl,rfl,(by show 2<=sizeLine;decide),.cons ⟨_,rfl⟩ (.cons ⟨_,rfl⟩ .nil)⟩
  | 1,e=>cases e;exact .inr ⟨_,_,_,x1,rfl,rfl,(by show 2<=sizeLine;decide),.cons ⟨_,rfl⟩ (.cons ⟨_,rfl⟩ .nil)⟩
  | 2,e=>cases e;exact .inr ⟨_,_,_,x2,rfl,rfl,(by show 2<=sizeLine;decide),.cons ⟨_,rfl⟩ (.cons ⟨_,rfl⟩ .nil)⟩
  | 3,e=>cases e;exact .inr ⟨_,_,_,x3,rfl,rfl,(by show 2<=sizeLine;decide),.cons ⟨_,rfl⟩ (.cons ⟨_,rfl⟩ .nil)⟩
  | 4,e=>cases e;exact .inr ⟨_,_,_,x4,rfl,rfl,(by show 2<=sizeLine;decide),.cons ⟨_,rfl⟩ (.cons ⟨_,rfl⟩ .nil)⟩
  | 5,e=>cases e;exact .inr ⟨_,_,_,x5,rfl,rfl,(by show 2<=sizeLine;decide),.cons ⟨_,rfl⟩ (.cons ⟨_,rfl⟩ .nil)⟩
  | 6,e=>cases e;exact .inr ⟨_,_,_,x6,rfl,rfl,(by show 2<=sizeLine;decide),.cons ⟨_,rfl⟩ (.cons ⟨_,rfl⟩ .nil)⟩
  | 7,e=>cases e;exact .inr ⟨_,_,_,x7,rfl,rfl,(by show 2<=sizeLine;decide),.cons ⟨_,rfl⟩ (.cons ⟨_,rfl⟩ .nil)⟩
  |i+8,e=>exact absurd (Ad.mp e).1 (by simp)
 have ways:Ways l.prog w K mg:=⟨⟨B,t1,t2,t3,t4,nB,W.mg_of X G aB,lB⟩⟩;have T:Txt l.prog w K mg:={ moves:=moves,ways:=ways,nsys:=λ_ e=>by cases (W.mg_of X G aB).symm.trans e;exact sB,more:=⟨⟨B2,u1,u2,u3,u4,nB2,W.mg_of X G aB2,lB2⟩⟩,nrange:=Cm X G z_range,nlen:=Cm X G z_len,nmin:=Cm X G z_min,nsorted:=Cm X G z_sorted,ntuple:=Cm X G z_tuple,nint:=Cm X G z_int,nbool:=Cm X G z_bool,nstr:=Cm X G z_str,nall:=Cm X G z_all,nisinstance:=Cm X G z_isinstance,nlist:=Cm X G z_list,nsum:=Cm X G z_sum,nenumerate:=Cm X G z_enumerate,nzip:=Cm X G z_zip };obtain⟨d'0⟩:=h0.d1 X G (p0:="cell");obtain⟨d'1⟩:=h1.d1 X G (p0:="picture");obtain⟨d'2⟩:=h2.d3 X G (p0:="x") (p1:="y") (p2:="step");obtain⟨d'3⟩:=h3.d1 X G (p0:="picture");obtain⟨d'4⟩:=h4.d1 X G (p0:="edge");obtain⟨d'5⟩:=h5.d1 X G (p0:="picture");obtain⟨d'6⟩:=h6.d1 X G (p0:="way");obtain⟨d'7⟩:=h7.d1 X G (p0:="way");obtain⟨d'8⟩:=h8.d2 X G (p0:="table") (p1:="edge");obtain⟨d'9⟩:=h9.d1 X G (p0:="step");obtain⟨d'a⟩:=h10.d2 X G (p0:="edge") (p1:="step");obtain⟨d'b⟩:=h11.d2 X G (p0:="table") (p1:="begin");obtain⟨d'c⟩:=h12.d1 X G (p0:="walk");obtain⟨d'd⟩:=h13.d1 X G (p0:="walk");obtain⟨d'e⟩:=h14.d1 X G (p0:="walk");obtain⟨d'f⟩:=h15.d2 X G (p0:="walk") (p1:="sort");obtain⟨d'10⟩:=h16.d1 X G (p0:="walk");obtain⟨d'11⟩:=h17.d1 X G (p0:="one");obtain⟨d'12⟩:=h18.d2 X G (p0:="table") (p1:="edges");obtain⟨d'13⟩:=h19.d1 X G (p0:="picture");obtain⟨d'14⟩:=h20.d1 X G (p0:="one");obtain⟨d'15⟩:=h21.d1 X G (p0:="step");obtain⟨d'16⟩:=h22.d2 X G (p0:="begin_way") (p1:="row");obtain⟨d'17⟩:=h23.d2 X G (p0:="begin") (p1:="deeds");obtain⟨d'18⟩:=h24.d2 X G (p0:="begin") (p1:="row");obtain⟨d'19⟩:=h25.d2 X G (p0:="edge") (p1:="step");obtain⟨d'1a⟩:=h26.d1 X G (p0:="walk");obtain⟨d'1b⟩:=h27.d1 X G (p0:="walk");obtain⟨d'1c⟩:=h28.d2 X G (p0:="walk") (p1:="sort");obtain⟨d'1d⟩:=h29.d1 X G (p0:="one");obtain⟨d'1e⟩:=h30.d1 X G (p0:="one");obtain⟨d'1f⟩:=h31.d1 X G (p0:="one");obtain⟨d'20⟩:=h32.d1 X G (p0:="thing");obtain⟨d'21⟩:=h33.d1 X G (p0:="thing");obtain⟨d'22⟩:=h34.d1 X G (p0:="thing");obtain⟨d'23⟩:=h35.d1 X G (p0:="thing");obtain⟨d'24⟩:=h36.d2 X G (p0:="table") (p1:="edge");obtain⟨d'25⟩:=h37.d2 X G (p0:="table") (p1:="walk");obtain⟨d'26⟩:=h38.d1 X G (p0:="some");obtain⟨d'27⟩:=h39.d2 X G (p0:="picture") (p1:="thing");obtain⟨d'28⟩:=h40.d1 X G (p0:="edges");obtain⟨d'29⟩:=h41.d1 X G (p0:="one");obtain⟨d'2a⟩:=h42.d1 X G (p0:="some");obtain⟨d'2b⟩:=h43.d2 X G (p0:="some") (p1:="others");obtain⟨d'2c⟩:=h44.d1 X G (p0:="some");obtain⟨d'2d⟩:=h45.d2 X G (p0:="_law_script") (p1:="_law_k");obtain⟨d'2e⟩:=h46.d3 X G (p0:="_law_cell") (p1:="_law_many") (p2:="_law_base");obtain⟨d'2f⟩:=h47.d2 X G (p0:="_law_script") (p1:="_law_start");have F48:=zdM (st:=zaF) l48 c48 k48;have b48:=F48.b1 (p0:="_law_cells");obtain⟨d'30,hc_0⟩:∃d:Df K mg "_law_in_order" zaF ["_law_cells"],d.fd.code=.ref cc0:=⟨⟨fx48,_,F48,W.mg_of X G a48,b48⟩,rfl⟩;obtain⟨d'31⟩:=h49.d2 X G (p0:="_law_script") (p1:="_law_cells");have F50:=zdM (st:=s_law) l50 c50 k50;have b50:=F50.b1 (p0:="_law_script");have hh_0:DY K cc0 L0=true:=hd_of lc0 lh0;refine⟨Es "law" "law" (zbb s_law) (zaU s_law) (zad s_law) .none kV50 dc50 pm50 an50 cd50 ct50,λs v=>.of_eq rfl,List.forall_mem_cons.mpr ⟨⟨cc0,hh_0⟩,λ_ z=>nomatch z⟩,λbase _ _ hB=>?_⟩;have fn:∀{k:Nat}{x:Str}{s:Stmt}{ps:List Str}{sp:Sp} (d:Df K mg x s ps),FnOk l.prog w K mg base CX0 k d.f d.fd ps sp->Fn l.prog w K mg base k x ps sp:=λd h=>d.fn h
 have g'32:=fn d'0 (zfR d'0);have g'33:=fn d'2 (zm4 T d'2);have g'34:=fn d'6 (zdU d'6);have g'35:=fn d'7 (zfK d'7);have g'36:=fn d'9 (zhD d'9);have g'37:=fn d'4 (zfN g'33 d'4);have g'38:=fn d'1 (zeR T g'32 d'1);have g'39:=fn d'3 (zfQ d'3);have g'3a:=fn d'8 (zeK g'33 g'35 g'34 d'8);have g'3b:=fn d'a (zeP g'33 g'36 d'a);have g'3c:=fn d'5 (zgL T g'39 g'37 d'5);have g'3d:=fn d'b (zgH g'3a g'3b d'b);have g'3e:=fn d'c (zcZ T g'36 d'c);have g'3f:=fn d'd (zcL g'3e d'd);have g'40:=fn d'e (zi0 g'3f d'e);have g'41:=fn d'f (zhH T g'32 d'f);have g'42:=fn d'10 (zhB T g'40 g'41 d'10);have g'43:=fn d'11 (zeL d'11);have g'44:=fn d'12 (zer T g'3d g'42 g'43 d'12);have g'45:=fn d'13 (zkl T g'38 g'39 g'3c g'44 d'13);have g'46:=fn d'14 (zfS T d'14);have g'47:=fn d'15 (ziX d'15);have g'48:=fn d'16 (zeQ g'47 d'16);have g'49:=fn d'17 (ziZ g'3b d'17);have g'4a:=fn d'18 (zfJ g'49 g'48 d'18);have g'4b:=fn d'19 (zeq g'3b g'37 g'36 g'33 g'35 g'34 d'19);have g'4c:=fn d'1a (zeO g'4b d'1a);have g'4d:=fn d'1b (zfO g'3b d'1b);have g'4e:=fn d'1c (zgJ T g'4d g'3f d'1c);have g'4f:=fn d'1d (ziY g'46 g'4a g'4c g'4e g'41 d'1d);have g'50:=fn d'1f (zhG g'4f d'1f);have g'51:=fn d'28 (zhA T d'28);have g'52:=fn d'29 (zeu T g'50 g'51 d'29);have g'53:=fn d'2a (zfP T g'52 g'32 d'2a);have g'54:=fn d'2b (zet T d'2b);have g'55:=fn d'2c (zfL g'53 g'54 g'45 d'2c);have g'56:=fn d'1e (zgK g'4f d'1e);have g'57:=fn d'20 (zhC T d'20);have g'58:=fn d'21 (zkm T g'57 d'21);have g'59:=fn d'22 (zhF T g'57 g'58 d'22);have g'5a:=fn d'23 (zhE g'59 g'56 d'23);have g'5b:=fn d'24 (zi2 g'37 d'24);have g'5c:=fn d'25 (zfM T g'5b g'3a d'25);have g'5d:=fn d'26 (zdz T g'43 d'26);have g'5e:=fn d'27 (zlN T g'38 g'5a g'39 g'4f g'5d g'5c g'3c d'27);have g'5f:=fn d'2d (zeN T d'2d);have g'60:=fn d'2e (zi1 T d'2e);have g'61:=fn d'2f (zeM T g'5f g'60 d'2f);have g'62:=fn d'30 (zes T hB hh_0 d'30 hc_0);have g'63:=fn d'31 (zgI T g'5f g'60 g'61 g'62 d'31);exact zn7 T g'61 g'63 g'45 g'5e g'55 ⟨_,_,F50,W.mg_of X G a50,b50⟩
theorem walk{L0:Addr}{l:W.OpenLaw}{q:AQ}{loose:List Str}{XP:(Str -> Option Ac) -> Heap -> Prop}{YP:Bg -> Heap -> Prop}{d:DefRec}{K:Params -> W.Frag}(hn:l.most=some 63)(hdf:d.params.defaults = [])
  (hY:∀(w:Bg) (h:Heap),YP w h->(K w.params).In h/\(∀P∈[L0],h.get? P=some (W.tabObj #[]))/\∀P∈[L0],(K w.params).lookup P=none)
  (F:∀(w:Bg) (mg:Str->Option Ac) (fa:Addr) (h:Heap),(K w.params).In h->h.Ns AU mg->mg d.name=some (.ref fa) ->
   ∃fd:Cc,(∀(s:Ae) (u:Ac),BindsTo s fd ⟨[u],[]⟩ [("_law_script",u)])/\(∀P∈[L0],∃c,DY (K w.params) c P=true)/\∀base:Heap,(K w.params).In base->base.Ns AU mg->Bm mg base->FnOk l.prog w (K w.params) mg base CX0 10 fa fd ["_law_script"] (spLaw (K w.params) L0)) :
  W.WalkO q loose XP YP l.row.toRowW d [] (λf vs=>PySem.call f vs) :=
 L2.walk_ofL (n:=63) (k:=10) (x:="_law_script") (CX:=λ_=>CX0) (sp:=λw=>spLaw (K w.params) L0) (ts:=[L0]) hn (by decide) hdf ⟨rfl,by decide,by decide⟩ hY F (λ_ _ a ns hl hT hS=>⟨a,ns,rfl,hS,hl,⟨#[],hT L0 (by simp),.inl rfl⟩,λ_=>rfl⟩) λ_ _ _ _ _ z=>z
end RR
namespace PySem.W.Fast
noncomputable def tw6479107620024384517:=()
noncomputable def tw10980941662994944178:=()
noncomputable def tw10317043308366544423:=()
noncomputable def tw2025128657282266395:=()
noncomputable def tw449148244088310043:=()
noncomputable def tw6842442422184590500:=()
noncomputable def tw11837930677851142955:=()
noncomputable def tw13488991831501825989:=()
noncomputable def tw4640182117232202041:=()
noncomputable def tw13646704145968310790:=()
noncomputable def tw4660403439212614601:=()
noncomputable def tw8865768065405039209:=()
noncomputable def tw594546381758665524:=()
noncomputable def tw16904876025733786633:=()
noncomputable def tw14160082256538497285:=()
noncomputable def tw16182319470515643835:=()
noncomputable def tw10866792914384732117:=()
noncomputable def tw7617000000919055356:=()
noncomputable def tw8231319031082518906:=()
noncomputable def tw10029893096158830200:=()
noncomputable def tw17277530955510170616:=()
noncomputable def tw15296741232273910152:=()
noncomputable def tw755229461887874283:=()
noncomputable def tw12613912081391683672:=()
noncomputable def tw5052952796456333218:=()
noncomputable def tw9233325591430111941:=()
noncomputable def tw16436279437336983339:=()
noncomputable def tw11335827769183452130:=()
noncomputable def tw13759251556935557313:=()
noncomputable def tw5195129902444115450:=()
noncomputable def tw12664585918450942079:=()
noncomputable def tw12830940924895670956:=()
noncomputable def tw16311307252314672203:=()
noncomputable def tw5186801525432652732:=()
noncomputable def tw8450098558974405333:=()
noncomputable def tw6577256209465586445:=()
noncomputable def tw18288045012578925338:=()
noncomputable def tw10935873989758356570:=()
noncomputable def tw9759961547595333092:=()
noncomputable def tw6884320090020023051:=()
noncomputable def tw16691329428422483811:=()
noncomputable def tw2837443454966662166:=()
noncomputable def tw2267130204743477444:=()
noncomputable def tw16494993941600733818:=()
noncomputable def tw9001380558832981690:=()
noncomputable def tw10870502167097423707:=()
noncomputable def tw8059586646919696383:=()
noncomputable def tw15316151964740377761:=()
noncomputable def tw2844765466874241344:=()
noncomputable def tw17009570068471277704:=()
noncomputable def tw15848569086114740760:=()
noncomputable def tw9246166225758370769:=()
noncomputable def tw15804936571742159624:=()
noncomputable def tw14419496029835598820:=()
noncomputable def tw13444674005688108915:=()
noncomputable def tw9674985209467883315:=()
noncomputable def tw12281263620541363105:=()
noncomputable def tw12227345538126899220:=()
noncomputable def tw14821998937000874244:=()
noncomputable def tw6349896994756982307:=()
noncomputable def tw10224396390226805060:=()
noncomputable def tw9124921827117290335:=()
noncomputable def tw13751152070539138236:=()
noncomputable def tw11647488222562477319:=()
noncomputable def tw17153851361244346442:=()
noncomputable def tw6576711933606450430:=()
noncomputable def tw83920715680261136:=()
noncomputable def tw669272446361411197:=()
noncomputable def tw6136125443434387612:=()
noncomputable def tw2185344679487166869:=()
noncomputable def tw13992662486347096265:=()
noncomputable def tw169230086937008757:=()
noncomputable def tw8116141208696744039:=()
noncomputable def tw13380229954786198897:=()
noncomputable def tw10654026990423834456:=()
noncomputable def tw14535742655287778718:=()
noncomputable def tw11386425373038865072:=()
noncomputable def tw8456488828642774134:=()
noncomputable def tw6912426131235503587:=()
noncomputable def tw16403078416498995519:=()
noncomputable def tw4412160677336358906:=()
noncomputable def tw9450653733284402904:=()
noncomputable def tw16846407205999781321:=()
noncomputable def tw16647407946923798885:=()
noncomputable def tw16833761982030356917:=()
noncomputable def tw7606077194980468047:=()
noncomputable def tw7161057988947414295:=()
noncomputable def tw13085154810777020761:=()
noncomputable def tw17262041901959163849:=()
noncomputable def tw11377403120658445541:=()
noncomputable def tw17734666623913897622:=()
noncomputable def tw15227305039892063698:=()
noncomputable def tw14537690430287669119:=()
noncomputable def tw8849249138430157100:=()
noncomputable def tw3057945333944859262:=()
noncomputable def tw12057296279984289945:=()
noncomputable def tw15610158957571046091:=()
noncomputable def tw1851550214403659433:=()
noncomputable def tw2189374981500259409:=()
noncomputable def tw18285543372018557960:=()
noncomputable def tw8883818139415813161:=()
noncomputable def tw10258457881226052352:=()
noncomputable def tw7571048209578359158:=()
noncomputable def tw1249507947687887430:=()
noncomputable def tw6349295232687517108:=()
noncomputable def tw3599037119309802016:=()
noncomputable def tw12593480643927701392:=()
noncomputable def tw14410944597848160307:=()
noncomputable def tw16622427946173769648:=()
noncomputable def tw16435773599231015907:=()
noncomputable def tw3287941374190695611:=()
noncomputable def tw6727748096053144063:=()
noncomputable def tw9878688444383617972:=()
noncomputable def tw10566664913261350105:=()
noncomputable def tw5199772102708328369:=()
noncomputable def tw15403229019465338815:=()
noncomputable def tw5622063933511510258:=()
noncomputable def tw16642240258497543050:=()
noncomputable def tw12319538993640942612:=()
noncomputable def tw12971037924481239420:=()
noncomputable def tw4513101175158927787:=()
noncomputable def tw5097012894586281092:=()
noncomputable def tw4131459357746097607:=()
noncomputable def tw15390494270133570658:=()
noncomputable def tw11501815821938074772:=()
noncomputable def tw4099875600361699997:=()
noncomputable def tw17610114170304907542:=()
noncomputable def tw8049905453905108712:=()
noncomputable def tw14851501595992997136:=()
noncomputable def tw8187471670947667544:=()
noncomputable def tw8427405378442377563:=()
noncomputable def tw9531026322417376973:=()
noncomputable def tw4449697463238841792:=()
noncomputable def tw16277501583315856817:=()
noncomputable def tw5553408567216668889:=()
noncomputable def tw18170251205556243951:=()
noncomputable def tw12510201186388199230:=()
noncomputable def tw8258159944036124784:=()
noncomputable def tw8150035033973905080:=()
noncomputable def tw4373472284914762004:=()
noncomputable def tw6031774573419681641:=()
noncomputable def tw13172880994704686327:=()
noncomputable def tw15205556496437490587:=()
noncomputable def tw6386425811017080589:=()
noncomputable def tw5016896917229523622:=()
noncomputable def tw14934892749378156449:=()
noncomputable def tw5605492221419578424:=()
noncomputable def tw4313324462067494212:=()
noncomputable def tw6086904806517553552:=()
noncomputable def tw16019305585498901589:=()
noncomputable def tw10152643019931388439:=()
noncomputable def tw10870887870245875351:=()
noncomputable def tw3780764260165488580:=()
noncomputable def tw2458123710573470358:=()
noncomputable def tw13702877100139359088:=()
noncomputable def tw2238485688651148409:=()
noncomputable def tw3909151722158504624:=()
noncomputable def tw15671144986651815483:=()
noncomputable def tw16561865780993454882:=()
noncomputable def tw10709235125617600587:=()
noncomputable def tw5553634181150998828:=()
noncomputable def tw17170731169420330917:=()
noncomputable def tw13896695678781806309:=()
noncomputable def tw5982397616986032383:=()
noncomputable def tw9829671071923753093:=()
noncomputable def tw17645878475245602822:=()
noncomputable def tw17154560328528181241:=()
noncomputable def tw17633055179485461654:=()
noncomputable def tw2305741067700351042:=()
noncomputable def tw3689223893295225263:=()
noncomputable def tw7098485611759825935:=()
noncomputable def tw13723136862428351380:=()
noncomputable def tw15162535748672313581:=()
noncomputable def tw7739815975956819517:=()
noncomputable def tw15205409221475195819:=()
noncomputable def tw6790702713792579568:=()
noncomputable def tw11685468984436125603:=()
noncomputable def tw2337094034465240924:=()
noncomputable def tw17711297626414859226:=()
noncomputable def tw3209403694134884746:=()
noncomputable def tw15757612023330411495:=()
noncomputable def tw10552255389616353316:=()
noncomputable def tw667042066550005626:=()
noncomputable def tw12122331119214437528:=()
noncomputable def tw16048387520390821153:=()
noncomputable def tw12639724877870401253:=()
noncomputable def tw6997446652056740571:=()
noncomputable def tw4467952833859161419:=()
noncomputable def tw14035478991310859456:=()
noncomputable def tw15183597827544159963:=()
noncomputable def tw11011397157786820374:=()
noncomputable def tw13935933320361739362:=()
noncomputable def tw7608018592974986758:=()
noncomputable def tw4107624189564758931:=()
noncomputable def tw6488720837104494097:=()
noncomputable def tw6751131502068520769:=()
noncomputable def tw4780546844835548683:=()
noncomputable def tw2070050558906062289:=()
noncomputable def tw6567978546802679144:=()
noncomputable def tw4632038911381277242:=()
noncomputable def tw10177610323535935255:=()
noncomputable def tw13633923288840074555:=()
noncomputable def tw1497231737565713028:=()
noncomputable def tw17653270904951187858:=()
noncomputable def tw16385581066549605078:=()
noncomputable def tw17951889124390140510:=()
noncomputable def tw17914557028114015010:=()
noncomputable def tw3162305979916087161:=()
noncomputable def tw11918107015036415134:=()
noncomputable def tw13719336001631773379:=()
noncomputable def tw17432061707857172965:=()
noncomputable def tw11086364412976714721:=()
noncomputable def tw1771676300230944734:=()
noncomputable def tw183191974743511507:=()
noncomputable def tw9843596402374029448:=()
noncomputable def tw17768252586468567208:=()
noncomputable def tw16536412744157144082:=()
noncomputable def tw11369140929044526721:=()
noncomputable def tw5063289555814382180:=()
noncomputable def tw9045039668647635343:=()
noncomputable def tw16565109474110358885:=()
noncomputable def tw8577951996675254266:=()
noncomputable def tw4877518671448730350:=()
noncomputable def tw7368025073617294712:=()
noncomputable def tw7568550952581931455:=()
noncomputable def tw12702739426644700071:=()
noncomputable def tw2682298305017158520:=()
noncomputable def tw12124838881695112834:=()
noncomputable def tw8503646943636523142:=()
noncomputable def tw5247444713615454412:=()
noncomputable def tw3980541742809718941:=()
noncomputable def tw4723969422720051222:=()
noncomputable def tw9181692184063005044:=()
noncomputable def tw7660948514082955456:=()
noncomputable def tw2106480188857803279:=()
noncomputable def tw13430333783918346403:=()
noncomputable def tw11676348245803918122:=()
noncomputable def tw15911078642273469338:=()
noncomputable def tw12285936809989453214:=()
noncomputable def tw1923782237418144865:=()
noncomputable def tw5223481041405146899:=()
noncomputable def tw1389383380829002938:=()
noncomputable def tw6639495594423615316:=()
noncomputable def tw9668673170130579903:=()
noncomputable def tw12956772020182891161:=()
noncomputable def tw12131173232278858112:=()
noncomputable def tw3294346410663610384:=()
noncomputable def tw4914261393099101281:=()
noncomputable def tw4328295944737616094:=()
noncomputable def tw12005736919647055924:=()
noncomputable def tw5060863748435452424:=()
noncomputable def tw12324315694803118338:=()
noncomputable def tw11190531931544835872:=()
noncomputable def tw2017556954575517617:=()
noncomputable def tw13871169707569634238:=()
noncomputable def tw5365765568145886463:=()
noncomputable def tw5599550342870375385:=()
noncomputable def tw3445134468922123705:=()
noncomputable def tw12863328378874971219:=()
noncomputable def tw8518950400956560499:=()
noncomputable def tw11576334158749270764:=()
noncomputable def tw16413639283006353627:=()
noncomputable def tw10488790791332539040:=()
noncomputable def tw7464084176560531576:=()
noncomputable def tw11705310524634756457:=()
noncomputable def tw16884546109470455333:=()
noncomputable def tw13052915531647752238:=()
noncomputable def tw11559333675636781666:=()
noncomputable def tw16906480044362754255:=()
noncomputable def tw7012092728916570671:=()
noncomputable def tw1206415112838891892:=()
noncomputable def tw11305847617493616337:=()
noncomputable def tw4895224757900962824:=()
noncomputable def tw11536149489115426803:=()
noncomputable def tw11783447275140374330:=()
noncomputable def tw12279388873785439778:=()
noncomputable def tw10177350255302145563:=()
noncomputable def tw31902375451084757:=()
noncomputable def tw5419091212399315197:=()
noncomputable def tw8882467643373292000:=()
noncomputable def tw18022260546429000879:=()
noncomputable def tw6865225854284733648:=()
noncomputable def tw6374314441154826663:=()
noncomputable def tw2742350556790055035:=()
noncomputable def tw8802527105178526119:=()
noncomputable def tw1059221285170249644:=()
noncomputable def tw5638037486331786814:=()
noncomputable def tw1616184568234366181:=()
noncomputable def tw7799648112716029239:=()
noncomputable def tw2303873921001843812:=()
noncomputable def tw2473209808711939535:=()
noncomputable def tw7433548630215083207:=()
noncomputable def tw17130578053816731718:=()
end PySem.W.Fast
open PySem PySem.W PyProof.Rows
set_option maxRecDepth 100000 in
set_option maxHeartbeats 0 in
theorem PySem.Challenge.cw_rimsteps_k18_whole_the_reader_and_the_wa_holds : PySem.Challenge.rw_rimsteps_k18_whole_the_reader_and_the_wa.Holds := by
 w_on;o_law;k_head;(case hw=>w_witness2)
 k_fill
 refine RR.walk (l:=PySem.Challenge.rw_rimsteps_k18_whole_the_reader_and_the_wa) rfl rfl (L2.km_all (by decide)) ?F
 case F =>
  intro w mg fa h KX G hmg
  refine' RR.all_mk KX G hmg (.mk ?a0 ?l0 ?c0 ?k0) (.mk ?a1 ?l1 ?c1 ?k1) (.mk ?a2 ?l2 ?c2 ?k2) (.mk ?a3 ?l3 ?c3 ?k3) (.mk ?a4 ?l4 ?c4 ?k4) (.mk ?a5 ?l5 ?c5 ?k5) (.mk ?a6 ?l6 ?c6 ?k6) (.mk ?a7 ?l7 ?c7 ?k7) (.mk ?a8 ?l8 ?c8 ?k8) (.mk ?a9 ?l9 ?c9 ?k9) (.mk ?a10 ?l10 ?c10 ?k10) (.mk ?a11 ?l11 ?c11 ?k11) (.mk ?a12 ?l12 ?c12 ?k12) (.mk ?a13 ?l13 ?c13 ?k13) (.mk ?a14 ?l14 ?c14 ?k14) (.mk ?a15 ?l15 ?c15 ?k15) (.mk ?a16 ?l16 ?c16 ?k16) (.mk ?a17 ?l17 ?c17 ?k17) (.mk ?a18 ?l18 ?c18 ?k18) (.mk ?a19 ?l19 ?c19 ?k19) (.mk ?a20 ?l20 ?c20 ?k20) (.mk ?a21 ?l21 ?c21 ?k21) (.mk ?a22 ?l22 ?c22 ?k22) (.mk ?a23 ?l23 ?c23 ?k23) (.mk ?a24 ?l24 ?c24 ?k24) (.mk ?a25 ?l25 ?c25 ?k25) (.mk ?a26 ?l26 ?c26 ?k26) (.mk ?a27 ?l27 ?c27 ?k27) (.mk ?a28 ?l28 ?c28 ?k28) (.mk ?a29 ?l29 ?c29 ?k29) (.mk ?a30 ?l30 ?c30 ?k30) (.mk ?a31 ?l31 ?c31 ?k31) (.mk ?a32 ?l32 ?c32 ?k32) (.mk ?a33 ?l33 ?c33 ?k33) (.mk ?a34 ?l34 ?c34 ?k34) (.mk ?a35 ?l35 ?c35 ?k35) (.mk ?a36 ?l36 ?c36 ?k36) (.mk ?a37 ?l37 ?c37 ?k37) (.mk ?a38 ?l38 ?c38 ?k38) (.mk ?a39 ?l39 ?c39 ?k39) (.mk ?a40 ?l40 ?c40 ?k40) (.mk ?a41 ?l41 ?c41 ?k41) (.mk ?a42 ?l42 ?c42 ?k42) (.mk ?a43 ?l43 ?c43 ?k43) (.mk ?a44 ?l44 ?c44 ?k44) (.mk ?a45 ?l45 ?c45 ?k45) (.mk ?a46 ?l46 ?c46 ?k46) (.mk ?a47 ?l47 ?c47 ?k47) ?a48 ?l48 ?c48 ?k48 ?lc0 ?lh0 (.mk ?a49 ?l49 ?c49 ?k49) ?a50 ?l50 ?c50 ?k50 ?aM ?lM ?x0 ?x1 ?x2 ?x3 ?x4 ?x5 ?x6 ?x7 ?aB ?lB ?sB ?aB2 ?lB2 ?z_range ?z_len ?z_min ?z_sorted ?z_tuple ?z_int ?z_bool ?z_str ?z_all ?z_isinstance ?z_list ?z_sum ?z_enumerate ?z_zip
  (case a0=>k_is)
  (case l0=>k_is)
  (case c0=>k_is)
  (case k0=>k_is)
  (case a1=>k_is)
  (case l1=>k_is)
  (case c1=>k_is)
  (case k1=>k_is)
  (case a2=>k_is)
  (case l2=>k_is)
  (case c2=>k_is)
  (case k2=>k_is)
  (case a3=>k_is)
  (case l3=>k_is)
  (case c3=>k_is)
  (case k3=>k_is)
  (case a4=>k_is)
  (case l4=>k_is)
  (case c4=>k_is)
  (case k4=>k_is)
  (case a5=>k_is)
  (case l5=>k_is)
  (case c5=>k_is)
  (case k5=>k_is)
  (case a6=>k_is)
  (case l6=>k_is)
  (case c6=>k_is)
  (case k6=>k_is)
  (case a7=>k_is)
  (case l7=>k_is)
  (case c7=>k_is)
  (case k7=>k_is)
  (case a8=>k_is)
  (case l8=>k_is)
  (case c8=>k_is)
  (case k8=>k_is)
  (case a9=>k_is)
  (case l9=>k_is)
  (case c9=>k_is)
  (case k9=>k_is)
  (case a10=>k_is)
  (case l10=>k_is)
  (case c10=>k_is)
  (case k10=>k_is)
  (case a11=>k_is)
  (case l11=>k_is)
  (case c11=>k_is)
  (case k11=>k_is)
  (case a12=>k_is)
  (case l12=>k_is)
  (case c12=>k_is)
  (case k12=>k_is)
  (case a13=>k_is)
  (case l13=>k_is)
  (case c13=>k_is)
  (case k13=>k_is)
  (case a14=>k_is)
  (case l14=>k_is)
  (case c14=>k_is)
  (case k14=>k_is)
  (case a15=>k_is)
  (case l15=>k_is)
  (case c15=>k_is)
  (case k15=>k_is)
  (case a16=>k_is)
  (case l16=>k_is)
  (case c16=>k_is)
  (case k16=>k_is)
  (case a17=>k_is)
  (case l17=>k_is)
  (case c17=>k_is)
  (case k17=>k_is)
  (case a18=>k_is)
  (case l18=>k_is)
  (case c18=>k_is)
  (case k18=>k_is)
  (case a19=>k_is)
  (case l19=>k_is)
  (case c19=>k_is)
  (case k19=>k_is)
  (case a20=>k_is)
  (case l20=>k_is)
  (case c20=>k_is)
  (case k20=>k_is)
  (case a21=>k_is)
  (case l21=>k_is)
  (case c21=>k_is)
  (case k21=>k_is)
  (case a22=>k_is)
  (case l22=>k_is)
  (case c22=>k_is)
  (case k22=>k_is)
  (case a23=>k_is)
  (case l23=>k_is)
  (case c23=>k_is)
  (case k23=>k_is)
  (case a24=>k_is)
  (case l24=>k_is)
  (case c24=>k_is)
  (case k24=>k_is)
  (case a25=>k_is)
  (case l25=>k_is)
  (case c25=>k_is)
  (case k25=>k_is)
  (case a26=>k_is)
  (case l26=>k_is)
  (case c26=>k_is)
  (case k26=>k_is)
  (case a27=>k_is)
  (case l27=>k_is)
  (case c27=>k_is)
  (case k27=>k_is)
  (case a28=>k_is)
  (case l28=>k_is)
  (case c28=>k_is)
  (case k28=>k_is)
  (case a29=>k_is)
  (case l29=>k_is)
  (case c29=>k_is)
  (case k29=>k_is)
  (case a30=>k_is)
  (case l30=>k_is)
  (case c30=>k_is)
  (case k30=>k_is)
  (case a31=>k_is)
  (case l31=>k_is)
  (case c31=>k_is)
  (case k31=>k_is)
  (case a32=>k_is)
  (case l32=>k_is)
  (case c32=>k_is)
  (case k32=>k_is)
  (case a33=>k_is)
  (case l33=>k_is)
  (case c33=>k_is)
  (case k33=>k_is)
  (case a34=>k_is)
  (case l34=>k_is)
  (case c34=>k_is)
  (case k34=>k_is)
  (case a35=>k_is)
  (case l35=>k_is)
  (case c35=>k_is)
  (case k35=>k_is)
  (case a36=>k_is)
  (case l36=>k_is)
  (case c36=>k_is)
  (case k36=>k_is)
  (case a37=>k_is)
  (case l37=>k_is)
  (case c37=>k_is)
  (case k37=>k_is)
  (case a38=>k_is)
  (case l38=>k_is)
  (case c38=>k_is)
  (case k38=>k_is)
  (case a39=>k_is)
  (case l39=>k_is)
  (case c39=>k_is)
  (case k39=>k_is)
  (case a40=>k_is)
  (case l40=>k_is)
  (case c40=>k_is)
  (case k40=>k_is)
  (case a41=>k_is)
  (case l41=>k_is)
  (case c41=>k_is)
  (case k41=>k_is)
  (case a42=>k_is)
  (case l42=>k_is)
  (case c42=>k_is)
  (case k42=>k_is)
  (case a43=>k_is)
  (case l43=>k_is)
  (case c43=>k_is)
  (case k43=>k_is)
  (case a44=>k_is)
  (case l44=>k_is)
  (case c44=>k_is)
  (case k44=>k_is)
  (case a45=>k_is)
  (case l45=>k_is)
  (case c45=>k_is)
  (case k45=>k_is)
  (case a46=>k_is)
  (case l46=>k_is)
  (case c46=>k_is)
  (case k46=>k_is)
  (case a47=>k_is)
  (case l47=>k_is)
  (case c47=>k_is)
  (case k47=>k_is)
  (case a48=>k_is)
  (case l48=>k_is)
  (case c48=>k_is)
  (case k48=>k_is)
  (case lc0=>k_is)
  (case lh0=>exact rfl)
  (case a49=>k_is)
  (case l49=>k_is)
  (case c49=>k_is)
  (case k49=>k_is)
  (case a50=>k_is)
  (case l50=>k_is)
  (case c50=>k_is)
  (case k50=>k_is)
  (case aM=>k_is)
  (case lM=>k_is)
  (case x0=>k_is)
  (case x1=>k_is)
  (case x2=>k_is)
  (case x3=>k_is)
  (case x4=>k_is)
  (case x5=>k_is)
  (case x6=>k_is)
  (case x7=>k_is)
  (case aB=>k_is)
  (case lB=>k_is)
  (case sB=>exact rfl)
  (case aB2=>k_is)
  (case lB2=>k_is)
  (case z_range=>k_is)
  (case z_len=>k_is)
  (case z_min=>k_is)
  (case z_sorted=>k_is)
  (case z_tuple=>k_is)
  (case z_int=>k_is)
  (case z_bool=>k_is)
  (case z_str=>k_is)
  (case z_all=>k_is)
  (case z_isinstance=>k_is)
  (case z_list=>k_is)
  (case z_sum=>k_is)
  (case z_enumerate=>k_is)
  (case z_zip=>k_is)

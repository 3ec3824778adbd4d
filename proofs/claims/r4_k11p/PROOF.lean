import PyProof.Rows.All
import Wide.All
import OpenK.AllK
import Wide.FinOn
import Lean
import PyProof.EqAt
import PyProof.EqKinds
import PyProof.TupleCall
import PySem.Challenge.RW_rimsteps_k11_whole_read_just_where_a_pic
set_option Elab.async false
set_option linter.all false
set_option maxRecDepth 100000
open List renaming getElem?_eq_getElem → Aa,getElem?_eq_some_iff → Ad,mem_of_getElem? → Ag,replicate → Ah,length_map → Ai,length_append → Ak,mem_singleton → An,mem_append_right → Ap,mem_map → Aq,mem_cons_of_mem → Ar,size_toArray → As,mem_cons → At,getElem?_map → Ax,getElem_of_mem → Ay,mem_cons_self → Az,mem_append → AA,getD_eq_getElem?_getD → AC,getElem?_append_left → AG,set_cons_succ → AH,set_cons_zero → AI,map_append → AJ,append_nil → AN,range → AO,map_cons → AR,take_length → AS,getElem_mem → AZ,getElem?_append_right → A0,length_take → A6,length_cons → A7,length_filter_le → A8,mem_append_left → Bf,lookup_cons → Bi,mem_range → Bp,filterMap_map → Br,length_singleton → Bs,flatten_cons → By,length_replicate → BB,mem_flatMap → BF,length_range → BH,replicate_succ → BL,getElem?_eq_none → BO,sum_cons → BQ,filterMap_cons → BU,map_congr_left → B7,nodup_cons → B8,append_assoc → Co,getElem?_cons_succ → Cp,lookup → Cz,map_drop → CC,map_take → CF,filter_append → CI,find?_cons → CM,nodup_append → CQ,getElem?_inj → CS,mem_of_mem_take → CT,getElem?_range → C1,length_pos_of_mem → Da,mem_filter → Dd,sum_append → Dl,filterMap_append → Du,take_succ → DC,not_mem_nil → DG,map_map → DH,flatten_append → DM,length_filterMap_le → DT,length_nil → DW
open PySem renaming wpAny_bind → Ab,Shared → Ac,wpAny_pure → Af,wpAny → Am,model → Aw,Program → AB,mainGlobals → AE,Around → AF,World → AV,starEach → A5,wpAny_holding → A9,wpAny_newObj_type → Bh,wpAny_mono → Bk,FuncData → Bq,Spec → Bv,compareOp → BD,wpAny_truthy_bool → BG,wpAny_loadPart' → BP,sysModules → BS,wpAny_tryCatch → B5,wpAny_updateSeq → B9,binaryOp → Cb,wpAny_Call_Name_kw → Cc,wpAny_typeNameOfWhole_keyiter → Ck,wpAny_callSpecial?_slot → Cn,assignEach → Cq,rawInt → Cr,mem_of_lookup → Ct,keywordEach → CA,plainId_quiet → CB,codeAny → CK,wpAny_passesOwn → CL,wpAny_field → CO,wpAny_letGo → CP,call_meets → CZ,wpAny_call_entry → C4,wpAny_seqItems → C6,codeAny_mono → C7,bindArgs → De,codeAny_builtin → Dj,wpAny_standAt → Dp,wpAny_pyIter_list → Dv,wpAny_loadPart_at → Dx,wpAny_binaryOp_repeat_ref → DJ,backTo → DK,behindInMarks → DN,backToKw → DO,wpAny_execs_nil → DU,tupleKind_room_in1 → DZ,tupleKind → D3,Model → D4,sizeLine_eq → D5,sliceBounds → D7
open PySem.Heap renaming get?_push_of_some → Ae,lt_size → Au,get?_push_size → Av,get?_update_other → AW,get?_update_self → BN,SameBut → Ce
open Nat renaming le_refl → Aj,lt_of_lt_of_le → AD,ne_of_lt → AK,le_trans → AM,lt_or_ge → AX,mod_lt → A1,zero_le → Be,le_of_lt → Bg,lt_irrefl → BV,ne_of_gt → Cf,le_succ → Cj,lt_of_le_of_lt → CH,zero_add → Db
open PySem.Value renaming ref → Ao,type → CU,int → Dm
open PySem.F renaming plainAttrs_list → AL,plain_min_loop → AY,slot_list_append → Ba,type_list_append → Bb,slot_dict_keyiterator_next → BY,entry_min_loop → B4,slot_int_rmul → Dh,args_dict_keyiterator_next_1 → DL,args_tuple_add_2 → DP,entry_dict_keyiterator_next → DQ,slot_list_extend → DR,type_list_extend → DS,entry_tuple_add → D6,slot_int_index → D9
open PyProof.Rows renaming arrOf → AQ,slot_tuple_getitem → A3,wpS_bind → Bo,seqObj → Bz,getElem?_mirror_all → BM,wpS_pure → BR,SortSt → Ca,SortKind → Cu,callWith_type1 → Cv,failedOf → Dk,pendingOf → Dr,wpS_forRange → DF,get?_update_seq → DY
open Bool renaming false_ne_true → AT,and_eq_true → Bw,false_eq_true → BA,not_eq_true' → Dw,eq_iff_iff → DV
open PySem.Obj renaming mapSeq → AU,mapFields → Ds,data_mapFields → D1
open Option.some renaming inj → A4
open Option renaming map_eq_some_iff → Bc,map_some → Dg
open PySem.PassesOwn renaming never → Bd
open False renaming elim → Bj
open PySem.Builtin.Tuple renaming tupleExact → Bl,tupleItemsOf → Dy
open PySem.SeqAt renaming shaped → Bt
open PySem.NameKind renaming free → Bu,cell → Dq
open Ne renaming symm → Bx
open PySem.Heap.SameBut renaming update → BC
open PySem.PyData renaming keyHash → BE,canLayAll0 → B3,depth → Cg,canLay0 → C5,eqv → C9,depthAll → Di,int → Dz
open PySem.Builtin.Slice renaming slicePlaces → BI,sliceApplied → CG,sliceAdjust → DI
open Classical renaming byContradiction → BJ
open PySem.W renaming mg_none_of → BK,nsIn → Cd,findIn → Cs,keepIn → C3,fnOf → C8,codeHdIn → Dc,kia_one → Do,kas_item → DB,mg_of → DE
open PySem.Str renaming ofString → BW
open True renaming intro → BX
open Lean renaming maxHeartbeats → BZ
open Array renaming getElem?_eq_some_iff → B6,length_toList → C0,getElem?_toList → Dt
open Prod renaming ext → Ch
open PySem.Around renaming under_plainId → Ci
open Int renaming toNat_natCast → Cm,emod_lt_of_pos → CJ,emod_nonneg → CN,sub_add_cancel → D2,le_refl → D8
open PySem.Builtin.Builtins renaming bindParams → Cw
open PySem.Builtin.List renaming listExtendWith → Cy,listTooLong → CY
open PySem.Paired renaming length → CV
open PySem.AutoSeq1 renaming sub_tuple_tuple → CW
open Sum renaming inl → DD
open ForInStep renaming yield → DX
open Or renaming inr → D0
namespace L2
open PySem PySem.Spec PyProof.Rows
noncomputable abbrev Key:=Sum Int Str
noncomputable def keyIs:Key->Value->Bool
 |.inl k,v=>Value.isInt k v
 |.inr x,v=>Value.isStrOf x v
noncomputable def keyH(w:AV):Key->Int
 |.inl k=>hashInt k
 |.inr x=>hashStr w x
theorem zaS:∀{k:Key}{v:Value},keyIs k v=true->(∃i t,k=DD i/\v=Dm i t)∨(∃x t,k=Sum.inr x/\v=Value.str x t)
 |.inl i,v,h=>by
  obtain⟨t,e⟩:=Value.isInt_shape (k:=i) (v:=v) h;exact .inl ⟨i,t,rfl,e⟩
 |.inr x,v,h=>by
  obtain⟨t,e⟩:=Value.isStrOf_shape (x:=x) (v:=v) h;exact .inr ⟨x,t,rfl,e⟩
theorem zjD(i:Int)(t:Tok):keyIs (.inl i) (.int i t)=true:=by simp[keyIs,Value.isInt]
theorem zjC(x:Str)(t:Tok):keyIs (.inr x) (.str x t)=true:=by simp[keyIs,Value.isStrOf]
theorem zmP(a b:Int):decide ((DD a:Key)=DD b)=(a == b):=by
 by_cases e:a=b
 .subst e;simp
 .have h:¬ (DD a:Key)=DD b:=λq=>e (Sum.inl.inj q)
  rw[decide_eq_false h];exact (beq_eq_false_iff_ne.mpr e).symm
theorem zmM(a b:Str):decide ((Sum.inr a:Key)=Sum.inr b)=decide (a=b):=by
 by_cases e:a=b
 .subst e;simp
 .have h:¬ (Sum.inr a:Key)=Sum.inr b:=λq=>e (Sum.inr.inj q)
  rw[decide_eq_false h,decide_eq_false e]
theorem zmO(a:Int)(b:Str):decide ((DD a:Key)=Sum.inr b)=false:=decide_eq_false (λq=>nomatch q)
theorem zmN(a:Str)(b:Int):decide ((Sum.inr a:Key)=DD b)=false:=decide_eq_false (λq=>nomatch q)
noncomputable def zaA(prog:AB)(w:AV):PySem.KeyKind prog w Key where
 is:=keyIs
 hash:=keyH w
 inj:=λv a b ha hb=>by
  rcases zaS ha with⟨i,t,rfl,rfl⟩ |⟨x,t,rfl,rfl⟩
  .rcases zaS hb with⟨j,u,rfl,e⟩ |⟨y,u,rfl,e⟩
   .injection e with e1 _;rw[e1]
   .exact nomatch e
  .rcases zaS hb with⟨j,u,rfl,e⟩ |⟨y,u,rfl,e⟩
   .exact nomatch e
   .injection e with e1 _;rw[e1]
 byValue:=λk v h=>by rcases zaS h with⟨i,t,rfl,rfl⟩ |⟨x,t,rfl,rfl⟩ <;> rfl
 pyHash:=λhv h=>by
  rcases zaS hv with⟨i,t,rfl,rfl⟩ |⟨x,t,rfl,rfl⟩
  .exact wpAny_pyHash_int h
  .exact wpAny_pyHash_str h
 eqBool:=λhu hv h=>by
  rcases zaS hu with⟨i,t,rfl,rfl⟩ |⟨x,t,rfl,rfl⟩
  .rcases zaS hv with⟨j,u,rfl,rfl⟩ |⟨y,u,rfl,rfl⟩
   .rw[zmP]at h;exact wpAny_eqBool_int h
   .rw[zmO]at h;exact SeqAt.EqAt.int_str i t y u _ _ _ _ h
  .rcases zaS hv with⟨j,u,rfl,rfl⟩ |⟨y,u,rfl,rfl⟩
   .rw[zmN]at h;exact SeqAt.EqAt.str_int x t j u _ _ _ _ h
   .rw[zmM]at h;exact wpAny_eqBool_str h
 «strs»:=λk x t v h=>by
  rcases zaS h with⟨i,u,rfl,e⟩ |⟨y,u,rfl,e⟩
  .exact nomatch e
  .injection e with e1 _;subst e1
   cases v <;> rfl
theorem zgR(prog:AB)(w:AV)(i:Int)(t:Tok):(zaA prog w).is (.inl i) (.int i t)=true:=zjD i t
theorem zbe(prog:AB)(w:AV)(x:Str)(t:Tok):(zaA prog w).is (.inr x) (.str x t)=true:=zjC x t
inductive V where
 |non |bl (b:Bool) |int (i:Int) |str (x:Str) |byt (b:Array UInt8) |flt (b:UInt64) |ref (a:Addr) |ty (n:String)
 deriving DecidableEq
noncomputable def RelV:V->Value->Prop
 |.non,u=>u=Value.none
 |.bl b,u=>u=Value.bool b
 |.int i,u=>∃t,u=Dm i t
 |.str x,u=>∃t,u=Value.str x t
 |.byt b,u=>∃t,u=Value.bytes b t
 |.flt b,u=>∃t,u=Value.float b t
 |.ref a,u=>u=Ao a
 |.ty n,u=>u=CU n
noncomputable abbrev Vals:List V->List Value->Prop:=Paired RelV
theorem Vals.length{xs:List V}{us:List Value}(r:Vals xs us):xs.length=us.length:=CV r
theorem Vals.get:∀{xs:List V}{us:List Value}{i:Nat}{x:V},Vals xs us->xs[i]?=some x->∃u,us[i]?=some u/\RelV x u
 |_,_,_,_,.nil,e=>by simp at e
 |_,_,0,_,.cons r _,e=>by simp at e;subst e;exact⟨_,rfl,r⟩
 |_,_,i+1,x,.cons _ t,e=>by
  obtain⟨u,h1,h2⟩:=Vals.get (i:=i) (x:=x) t (by simpa using e);exact⟨u,by simpa using h1,h2⟩
theorem Vals.append:∀{xs ys:List V}{us ws:List Value},Vals xs us->Vals ys ws->Vals (xs++ys) (us++ws)
 |_,_,_,_,.nil,s=>s
 |_,_,_,_,.cons r t,s=>.cons r (Vals.append t s)
theorem Vals.take:∀{xs:List V}{us:List Value}(n:Nat),Vals xs us->Vals (xs.take n) (us.take n)
 |_,_,0,_=>.nil
 |_,_,_+1,.nil=>.nil
 |_,_,n+1,.cons r t=>.cons r (Vals.take n t)
theorem Vals.drop:∀{xs:List V}{us:List Value}(n:Nat),Vals xs us->Vals (xs.drop n) (us.drop n)
 |_,_,0,r=>r
 |_,_,_+1,.nil=>.nil
 |_,_,n+1,.cons _ t=>Vals.drop n t
noncomputable def RelO:Option V->Option Value->Prop
 |some v,some u=>RelV v u
 |none,none=>True
 |_,_=>False
noncomputable def KV{κ:Type}:List (κ×V)->List (κ×Value)->Prop:=Paired λ(p:κ×V) (q:κ×Value)=>p.1=q.1/\RelV p.2 q.2
noncomputable def kV:Key->V
 |.inl i=>.int i
 |.inr x=>.str x
inductive HO where
 /-- a list -/
 |lst (xs:List V)
 /-- a tuple (never changes) -/
 |tup (xs:List V)
 /-- a dict whose keys are ints and texts;one whose keys are tuples of ints and texts (the empty one is both) -/
 |dK (kvs:List (Key×V)) |dT (kvs:List (List Key×V))
 /-- a set of ints: its members,its size -/
 |set (S:Int->Bool) (n:Nat)
 /-- an instance of the class at C,its dict at dx,its attributes -/
 |ins (C dx:Addr) (fs:List (Str×V))
 /-- the dict of the instance at x -/
 |own (x:Addr)
 /-- the dict of an exception -/
 |xd (fs:List (Str×V))
 /-- a bound method,f of x -/
 |met (f x:Addr)
 /-- a range object lo,lo+1,.. below hi -/
 |rng (lo hi:Int)
 /-- a thing that is known to the object (the script;a dict while a loop walks it): read,never written while it is so -/
 |frz (o:Obj) (u:HO)
 /-- a code object's table -/
 |tbl (ps:Array Value)
 /-- any other thing,by what is true of its one object (a def of one's own: SetO a S n:=HO.ext λh=>..) -/
 |ext (φ:Heap->Prop)
noncomputable abbrev Hp:=Addr->Option HO
noncomputable def upd(H:Hp)(a:Addr)(o:HO):Hp:=λb=>if b=a then some o else H b
theorem zaa{H:Hp}{a:Addr}{o:HO}:upd H a o a=some o:=by unfold upd;rw[if_pos rfl]
theorem zai{H:Hp}{a b:Addr}{o:HO}(h:b≠a):upd H a o b=H b:=by unfold upd;rw[if_neg h]
theorem zir{H:Hp}{a:Addr}{o u:HO}:upd (upd H a o) a u=upd H a u:=by
 funext b;unfold upd;split <;> rfl
theorem ne_of{H:Hp}{a b:Addr}{o u:HO}(h:H a=some o)(h':H b=some u)(d:o≠u):a≠b:=by intro e;subst e;rw[h]at h';exact d (A4 h')
theorem zaj{H:Hp}{a b:Addr}{o:HO}(h:H a=some o)(h':H b=none):a≠b:=by intro e;subst e;rw[h]at h';cases h'
section
variable (P:AB) (w:AV)
noncomputable def ObjOk(H:Hp)(h:Heap)(a:Addr):HO->Prop
  |.lst xs=>xs.length<=sizeLine/\∃(its:List Value) (n:Nat),Vals xs its/\h.get? a=some { cls:=.type "list",data:=.seq its.toArray n }
  |.tup xs=>xs.length<=sizeLine/\∃its:List Value,Vals xs its/\IsTup h a its.toArray
  |.dK kvs=>kvs.length<=sizeLine/\(a == BS)=false/\∃vs,KV kvs vs/\h.DictOf (zaA P w) a vs
  |.dT kvs => kvs.length <= sizeLine /\ (a == BS)=false /\ ∃xs:List (List Key × Addr × Value),
      Paired (λ(p:List Key×V) (q:List Key×Addr×Value)=>p.1=q.1/\H q.2.1=some (.tup (p.1.map kV))/\RelV p.2 q.2.2) kvs xs /\
      ∃o es ep,h.get? a=some o/\o.ExactDict/\o.data=.dict es ep/\es.toList=xs.map (entryOfKey (D3 (zaA P w)))/\(xs.map (·.1)).Nodup
  |.set S n=>h.SetOf (intKind P w) a S n
  |.ins C dx fs => H dx=some (.own a) /\ fs.length <= 1000 /\ dx ≠ a /\ h.get? a=some (W.instObj C dx) /\
      ∃mA,h.Ns1 dx mA/\(∀f,RelO (fs.lookup f) (mA f))/\PySem.Within mA (fs.map (·.1))
  |.own _=>∃o,h.get? a=some o
  |.xd fs=>∃mA,h.Ns1 a mA/\∀f,RelO (fs.lookup f) (mA f)
  |.rng lo hi=>∃t u v,h.get? a=some { cls:=.type "range",data:=.fields #[.int lo t,.int hi u,.int 1 v] }
  |.frz o u=>h.get? a=some o/\ObjOk H h a u
  |.tbl ps=>h.get? a=some { cls:=.none,data:=.fields ps }
  |.met f x=>h.get? a=some (W.methodObj (.ref f) (.ref x))
  |.ext φ=>φ h/\(∃o,h.get? a=some o)/\∀h1 h2:Heap,φ h1->(∀o,h1.get? a=some o->h2.get? a=some o)->φ h2
noncomputable def HOk(H:Hp)(h:Heap):Prop:=∀a o,H a=some o->ObjOk P w H h a o
end
section
variable {P:AB}{w:AV}{H H':Hp}{h h':Heap}{a:Addr}{o:HO}
theorem ObjOk.lt(x:ObjOk P w H h a o):a<h.objs.size:=by
 cases o with
 |lst xs=>obtain⟨_,_,_,_,e⟩:=x;exact Au e
 |tup xs=>obtain⟨_,_,_,p⟩:=x;exact p.lt
 |dK kvs=>obtain⟨_,_,_,_,o,_,_,e,_⟩:=x;exact Au e
 |dT kvs=>obtain⟨_,_,_,_,o,_,_,e,_⟩:=x;exact Au e
 |set S n=>obtain⟨o,_,_,_,e,_⟩:=x;exact Au e
 |ins C dx fs=>obtain⟨_,_,_,e,_⟩:=x;exact Au e
 |own y=>obtain⟨_,e⟩:=x;exact Au e
 |xd fs=>obtain⟨_,⟨_,_,_,e,_⟩,_⟩:=x;exact Au e
 |rng lo hi=>obtain⟨_,_,_,e⟩:=x;exact Au e
 |frz ob u=>obtain⟨e,_⟩:=x;exact Au e
 |tbl ps=>exact Au (show h.get? a=some _ from x)
 |met f y=>exact Au (show h.get? a=some _ from x)
 |ext φ=>obtain⟨_,⟨_,e⟩,_⟩:=x;exact Au e
theorem Paired.mapP{α β:Type}{F G:α->β->Prop}:∀{l₁:List α}{l₂:List β},Paired F l₁ l₂->(∀a b,F a b->G a b)->Paired G l₁ l₂
 |_,_,.nil,_=>.nil
 |_,_,.cons r t,f=>.cons (f _ _ r) (Paired.mapP t f)
theorem ObjOk.stay(x:ObjOk P w H h a o)(k:∀b u, (b=a ∨ H b=some (.own a)) -> h.get? b=some u -> h'.get? b=some u)
  (ho:∀b,H b=some (.own a)->H' b=some (.own a)) (ht:∀b xs,H b=some (.tup xs)->H' b=some (.tup xs)):ObjOk P w H' h' a o:=by
 induction o with
 |lst xs=>obtain⟨z,its,n,r,e⟩:=x;exact⟨z,its,n,r,k _ _ (.inl rfl) e⟩
 |tup xs=>obtain⟨z,its,r,ob,e,c⟩:=x;exact⟨z,its,r,ob,k _ _ (.inl rfl) e,c⟩
 |dK kvs=>obtain⟨z,y,vs,r,ob,es,ep,e,c⟩:=x;exact⟨z,y,vs,r,ob,es,ep,k _ _ (.inl rfl) e,c⟩
 |dT kvs =>
  obtain⟨z,y,xs,r,ob,es,ep,e,c⟩:=x;exact⟨z,y,xs,Paired.mapP r λp q z=>⟨z.1,ht _ _ z.2.1,z.2.2⟩,ob,es,ep,k _ _ (.inl rfl) e,c⟩
 |set S n=>obtain⟨ob,es,ep,t,e,c⟩:=x;exact⟨ob,es,ep,t,k _ _ (.inl rfl) e,c⟩
 |ins C dx fs =>
  obtain⟨d,z,ne,e,mA,⟨od,es,ep,e2,c⟩,r⟩:=x;exact⟨ho _ d,z,ne,k _ _ (.inl rfl) e,mA,⟨od,es,ep,k _ _ (.inr d) e2,c⟩,r⟩
 |own y=>obtain⟨ob,e⟩:=x;exact⟨ob,k _ _ (.inl rfl) e⟩
 |xd fs=>obtain⟨mA,⟨od,es,ep,e,c⟩,r⟩:=x;exact⟨mA,⟨od,es,ep,k _ _ (.inl rfl) e,c⟩,r⟩
 |rng lo hi=>obtain⟨t,u,v,e⟩:=x;exact⟨t,u,v,k _ _ (.inl rfl) e⟩
 |frz ob u ih=>obtain⟨e,q⟩:=x;exact⟨k _ _ (.inl rfl) e,ih q⟩
 |tbl ps =>
  have e:h.get? a=some { cls:=.none,data:=.fields ps }:=x;show h'.get? a=some { cls:=.none,data:=.fields ps };exact k a _ (.inl rfl) e
 |met f y =>
  have e:h.get? a=some (W.methodObj (.ref f) (.ref y)):=x;show h'.get? a=some (W.methodObj (.ref f) (.ref y));exact k a _ (.inl rfl) e
 |ext φ=>obtain⟨p,⟨o,e⟩,st⟩:=x;exact⟨st _ _ p λo q=>k _ _ (.inl rfl) q,⟨o,k _ _ (.inl rfl) e⟩,st⟩
theorem HOk.lt(x:HOk P w H h)(e:H a=some o):a<h.objs.size:=(x a o e).lt
theorem HOk.fresh(x:HOk P w H h)(e:h.objs.size<=a):H a=none:=by
 cases q:H a with
 |none=>rfl
 |some u=>exact absurd (AD (x.lt q) e) (BV _)
theorem HOk.kept(x:HOk P w H h)(k:∀b u,h.get? b=some u->h'.get? b=some u):HOk P w H h':=λa o e =>
 (x a o e).stay (λb u _ q=>k b u q) (λ_ q=>q) λ_ _ q=>q
theorem HOk.laid(x:HOk P w H h)(k:∀b u,h.get? b=some u->h'.get? b=some u)(hp:h.objs.size<=a)(new:ObjOk P w (upd H a o) h' a o):HOk P w (upd H a o) h':=λb u e=>by
 have hn:=x.fresh hp
 by_cases hb:b=a
 .subst hb;rw[zaa]at e;cases e;exact new
 .rw[zai hb]at e;exact (x b u e).stay (λc v _ q=>k c v q) (λc q=>by rw[zai (zaj q hn)];exact q) λc xs q=>by rw[zai (zaj q hn)];exact q
end
noncomputable def Rd(H:Hp)(a:Addr)(u:HO):Prop:=H a=some u∨∃o,H a=some (.frz o u)
theorem Rd.of{H:Hp}{a:Addr}{u:HO}(h:H a=some u):Rd H a u:=.inl h
theorem Rd.ok{P:AB}{w:AV}{H:Hp}{h:Heap}{a:Addr}{u:HO}(r:Rd H a u)(x:HOk P w H h):ObjOk P w H h a u:=by
 rcases r with r |⟨o,r⟩
 .exact x a u r
 .obtain⟨_,q⟩:=x a _ r;exact q
noncomputable def Mut:Option HO->Prop
 |some (.lst _)=>True
 |some (.dK _)=>True
 |some (.dT _)=>True
 |some (.set _ _)=>True
 |some (.ins _ _ _)=>True
 |some (.ext _)=>True
 |_=>False
section
variable {P:AB}{w:AV}{H:Hp}{h h':Heap}{x e:Addr}{o':HO}
theorem HOk.write(ok:HOk P w H h)(mu:Mut (H x))(he:e=x ∨ H e=some (.own x))(k:∀b u, b ≠ e -> h.get? b=some u -> h'.get? b=some u)(heo:∃u, h'.get? e=some u)
  (new:ObjOk P w (upd H x o') h' x o'):HOk P w (upd H x o') h':=λb u q=>by
 have nown:∀c y,H c=some (.own y)->c≠x:=λc y r z=>by subst z;rw[r]at mu;exact mu
 have ntup:∀c xs,H c=some (.tup xs)->c≠x:=λc xs r z=>by subst z;rw[r]at mu;exact mu
 by_cases hb:b=x
 .subst hb;rw[zaa]at q;cases q;exact new
 .rw[zai hb]at q
  by_cases hbe:b=e
  .have q':H b=some (.own x) := by
    rcases he with z |z
    .exact absurd (hbe.trans z) hb
    .rw[hbe];exact z
   rw[q]at q';cases q';obtain⟨v,hv⟩:=heo;exact⟨v,by rw[hbe];exact hv⟩
  .refine (ok b u q).stay (λc v hc r=>k c v ?_ r) (λc r=>by rw[zai (nown c b r)];exact r) λc xs r=>by rw[zai (ntup c xs r)];exact r
   rcases hc with rfl |hc
   .exact hbe
   .rintro rfl;rcases he with z |z
    .exact nown c b hc z
    .rw[hc]at z;cases z;exact hb rfl
end
structure Un (fs ex:List Addr) (H H':Hp) (h h':Heap):Prop where
 keep:∀b o,h.get? b=some o->H b=none->b ∉ fs->b ∉ ex->h'.get? b=some o
 slot:∀b o,h.get? b=some o->H b=none->b∈fs->b ∉ ex->∃sl,h'.get? b=some { o with slots:=sl }
 free:∀b o,h.get? b=some o->H b=none->b ∉ ex->H' b=none
 there:∀b o,h.get? b=some o->b ∉ ex->∃o',h'.get? b=some o'
 tups:∀b xs,H b=some (.tup xs)->H' b=some (.tup xs)
 frzs:∀b o u,H b=some (.frz o u)->H' b=some (.frz o u)
 tbls:∀b ps,H b=some (.tbl ps)->∃more,H' b=some (.tbl (ps++more))
section
variable {fs fs' ex ex':List Addr}{H H1 H2:Hp}{h h1 h2 h':Heap}{a x e:Addr}{o:HO}
theorem Un.any(u:Un fs ex H H1 h h1){b:Addr}{ob:Obj}(q:h.get? b=some ob)(n:H b=none)(hx:b ∉ ex):∃sl,h1.get? b=some { ob with slots:=sl }:=by
 by_cases hb:b∈fs
 .exact u.slot b ob q n hb hx
 .exact⟨ob.slots,u.keep b ob q n hb hx⟩
theorem Un.kept(k:∀b u,h.get? b=some u->h'.get? b=some u):Un fs ex H H h h' :=
 ⟨λb ob q _ _ _=>k b ob q,λb ob q _ _ _=>⟨ob.slots,k b ob q⟩,λ_ _ _ n _=>n,λb ob q _=>⟨ob,k b ob q⟩,λ_ _ q=>q,λ_ _ _ q=>q,λ_ ps q=>⟨#[],by rw[q];simp⟩⟩
theorem Un.refl:Un fs ex H H h h:=Un.kept λ_ _ q=>q
theorem Un.laid(k:∀b u,h.get? b=some u->h'.get? b=some u)(hp:h.objs.size<=a)(hn:H a=none):Un fs ex H (upd H a o) h h' where
 keep:=λb u q _ _ _=>k b u q
 slot:=λb u q _ _ _=>⟨u.slots,k b u q⟩
 free:=λb u q n _=>by rw[zai (AK (AD (Au q) hp))];exact n
 there:=λb u q _=>⟨u,k b u q⟩
 tups:=λb xs q=>by rw[zai (zaj q hn)];exact q
 frzs:=λb u xs q=>by rw[zai (zaj q hn)];exact q
 tbls:=λb ps q=>⟨#[],by rw[zai (zaj q hn),q];simp⟩
theorem Un.write(mu:Mut (H x))(he:e=x∨H e=some (.own x))(k:∀b u,b≠e->h.get? b=some u->h'.get? b=some u)(heo:∃u,h'.get? e=some u):Un fs ex H (upd H x o) h h':=by
 have hx:∀b,H b=none->b≠x:=λb n z=>by subst z;rw[n]at mu;exact mu
 have hb:∀b,H b=none->b≠e:=λb n z=>by
  subst z;rcases he with r |r
  .exact hx b n r
  .rw[n]at r;cases r
 have hm:∀b u,H b=some u->¬ Mut (some u)->b≠x:=λb u q nm z=>by subst z;rw[q]at mu;exact nm mu
 refine⟨λb u q n _ _=>k b u (hb b n) q,λb u q n _ _=>⟨u.slots,k b u (hb b n) q⟩,λb u q n _=>by rw[zai (hx b n)];exact n,λb u q _=>?_,
  λb xs q=>by rw[zai (hm b _ q λz=>z)];exact q,λb u xs q=>by rw[zai (hm b _ q λz=>z)];exact q,λb ps q=>⟨#[],by rw[zai (hm b _ q λz=>z),q];simp⟩⟩
 by_cases hbe:b=e
 .subst hbe;exact heo
 .exact⟨u,k b u hbe q⟩
end
noncomputable def trk(h:Heap)(H:Hp):List Addr:=(AO h.objs.size).filter λa=>(H a).isSome
noncomputable def hidT(h:Heap)(H:Hp):Heap:=W.hideAll h (trk h H)
theorem zjM(h:Heap)(H:Hp):(hidT h H).objs.size=h.objs.size:=W.hideAll_size _ _
theorem zkG{h:Heap}{H:Hp}{b:Addr}{o:Obj}(e:h.get? b=some o)(n:H b=none):(hidT h H).get? b=some o :=
 W.hideAll_get _ e λhm=>by have q:(H b).isSome=true:=(Dd.mp hm).2;rw[n]at q;simp at q
theorem zlS{h:Heap}{H:Hp}{b:Addr}{o:Obj}(e:(hidT h H).get? b=some o):h.get? b=some o/\H b=none:=by
 have e':h.get? b=some o:=W.of_hideAll (trk h H) e;refine⟨e',?_⟩
 cases q:H b with
 |none=>rfl
 |some x =>
  have hm:b∈trk h H:=List.mem_filter.mpr ⟨Bp.mpr (Au e'),by simp[q]⟩;have z:(hidT h H).get? b=none:=W.hideAll_none (trk h H) hm;rw[z]at e;cases e
noncomputable def zma(g h:Heap)(L:Addr):List (Addr×Obj):=(AO h.objs.size).filterMap λa=>if a=L∨(g.get? a).isSome=true then none else (h.get? a).map λo=>(a,o)
noncomputable def rest(g h:Heap)(L d:Addr):List (Addr×Obj):=(zma g h L).filter λp=>decide (p.1≠d)
structure Mod (K:W.Frag) (mg:Str->Option Value) (base:Heap):Prop where
 kin:K.In base
 glob:base.Ns AE mg
 blt:∃mb,base.Ns builtinsNs mb/\∀x:Str,x ≠ "__name__" -> mb x=bootBuiltins x
 nolimit:base.NoLimit
structure Cx where
 prog:AB
 w:AV
 K:W.Frag
 mg:Str->Option Value
 base:Heap
 A:AF
 N:List Str
 s₀:Ac
 H₀:Hp
 env:Env
 outer:List Env
 stack:List Env
 ex:List Addr
 fn:Str->Bool
 calm:Bool
 pn:List (Addr×Obj)
 xe:Value->Ac->Prop
noncomputable def frs(l:List Env):List Addr:=l.filterMap (·.frame)
noncomputable abbrev Cx.fs(X:Cx):List Addr:=frs X.outer
noncomputable def Vis(sc:Scope)(x:Str):Prop:=sc.names.lookup x=some .local∨sc.names.lookup x=some .cell∨sc.names.lookup x=some .free
noncomputable def Loc(sc:Scope)(x:Str):Prop:=sc.names.lookup x=some .local∨sc.names.lookup x=some .cell
noncomputable def Look(env:Env)(h:Heap)(m:Str->Option Value)(x:Str)(u:Value):Prop :=
 (env.kindOf x=some .local/\m x=some u)∨((env.kindOf x=some .cell∨env.kindOf x=some .free)/\∃c,env.cells.lookup x=some c/\h.IsCell c (some u))
structure Cx.Ok (X:Cx):Prop where
 mod:Mod X.K X.mg X.base
 kind:X.env.scope.kind=.function
 glob:X.env.globals=AE
 blt:X.env.builtins=builtinsNs
 above:X.s₀.heap.objs.size<=X.env.locals
 inj:∀x y c,X.env.cells.lookup x=some c->X.env.cells.lookup y=some c->x=y
 has:∀x,(X.env.kindOf x=some .cell∨X.env.kindOf x=some .free)->∃c,X.env.cells.lookup x=some c
 cab:∀x c,X.fn x=true->X.env.cells.lookup x=some c->X.s₀.heap.objs.size<=c
 hd:X.calm=true->X.A.handled=none
 frames:X.A.frames=some X.stack
 stk:X.stack=X.outer∨(X.stack=X.env::X.outer/\X.env.frame=some X.env.locals)
 exf:∀b∈X.ex,b≠X.env.locals/\∀x c,X.env.cells.lookup x=some c->c≠b
 bs:∀b o,X.base.get? b=some o->X.s₀.heap.get? b=some o/\X.H₀ b=none
 bsz:X.base.objs.size<=X.s₀.heap.objs.size
 noex:∀b o,X.base.get? b=some o->b ∉ X.ex
 exfs:∀b∈X.ex,b ∉ X.fs
 funs:X.s₀.heap.FunFrames X.base X.outer
 frf:∀b∈X.fs,X.H₀ b=none
structure Inv (X:Cx) (pins:List (Addr×Obj)) (σ:List (Option V)) (H:Hp) (s:Ac):Prop where
 ok:X.Ok
 os:s.os=X.s₀.os
 bare:AllBare s.gens
 base:Un X.fs X.ex X.H₀ H X.s₀.heap s.heap
 loc:∃m,s.heap.Ns X.env.locals m/\∀(i:Nat) (x:Str) (v:V),X.N[i]?=some x->σ[i]?=some (some v)->Vis X.env.scope x->∃u,RelV v u/\Look X.env s.heap m x u
 cell:∀x c,X.env.cells.lookup x=some c->∃v,s.heap.IsCell c v
 free:H X.env.locals=none
 freeC:∀x c,X.env.cells.lookup x=some c->H c=none
 pin:∀p∈X.pn++pins,s.heap.get? p.1=some p.2/\H p.1=none/\p.1≠X.env.locals/\p.1 ∉ X.fs/\∀v,p.2.data≠.cell v
 hok:HOk X.prog X.w H s.heap
 len:σ.length=X.N.length
section
variable {X:Cx}{pins:List (Addr×Obj)}{σ:List (Option V)}{H H':Hp}{s:Ac}{h':Heap}
theorem Cx.Ok.nofr(ok:X.Ok){b:Addr}{o:Obj}(e:X.base.get? b=some o):b ∉ X.fs:=λhb=>by have:=(ok.funs.mem hb).1;rw[e]at this;cases this
theorem Inv.bs(I:Inv X pins σ H s):∀b o,X.base.get? b=some o->s.heap.get? b=some o/\H b=none:=λb o e =>
 ⟨I.base.keep b o (I.ok.bs b o e).1 (I.ok.bs b o e).2 (I.ok.nofr e) (I.ok.noex b o e),I.base.free b o (I.ok.bs b o e).1 (I.ok.bs b o e).2 (I.ok.noex b o e)⟩
theorem Inv.bk(I:Inv X pins σ H s):∀b o,X.base.get? b=some o->s.heap.get? b=some o:=λb o e=>(I.bs b o e).1
theorem Inv.mod(I:Inv X pins σ H s):Mod X.K X.mg X.base:=I.ok.mod
theorem Inv.kIn(I:Inv X pins σ H s):X.K.In s.heap:=I.ok.mod.kin.keeps I.bk
theorem Inv.lt(I:Inv X pins σ H s):X.env.locals<s.heap.objs.size:=let ⟨_,hn,_⟩:=I.loc;hn.lt
theorem Inv.sz(I:Inv X pins σ H s):X.s₀.heap.objs.size<=s.heap.objs.size:=AM I.ok.above (Bg I.lt)
theorem Inv.nofs(I:Inv X pins σ H s){a:Addr}(h:s.heap.objs.size<=a):a ∉ X.fs:=λhb=>by obtain⟨_,o,ho,_⟩:=I.ok.funs.mem hb;exact absurd (AD (Au ho) (AM I.sz h)) (BV _)
theorem Inv.cne(I:Inv X pins σ H s):∀x c,X.env.cells.lookup x=some c->c≠X.env.locals:=λx c e z=>by obtain⟨v,o,ho,hd⟩:=I.cell x c e;obtain⟨m,⟨o',es,ep,ho',hd',_⟩,_⟩:=I.loc;rw[z,ho']at ho;cases ho;rw[hd']at hd;cases hd
theorem Inv.funs(I:Inv X pins σ H s):s.heap.FunFrames X.base X.outer:=by
 have all:∀(l:List Env),(∀b∈frs l,b∈X.fs)->X.s₀.heap.FunFrames X.base l->s.heap.FunFrames X.base l:=by
  intro l
  induction l with
  |nil=>intro _ _;trivial
  |cons env r ih =>
   intro hs hl;obtain⟨hk,⟨L,o,hf,hn,ho,hd⟩,hr⟩:=hl;have hL:L∈X.fs:=hs L (by unfold frs;rw[BU,hf];exact Az);obtain⟨sl,e⟩:=I.base.slot L o ho (I.ok.frf L hL) hL λz=>I.ok.exfs L z hL
   exact⟨hk,⟨L,_,hf,hn,e,hd⟩,ih (λb hb=>hs b (by unfold frs;rw[BU,hf];exact Ar _ hb)) hr⟩
 exact all X.outer (λ_ hb=>hb) I.ok.funs
theorem Inv.stack(I:Inv X pins σ H s):s.heap.FunFrames X.base X.stack:=by
 rcases I.ok.stk with e |⟨e,hf⟩
 .rw[e];exact I.funs
 .rw[e];obtain⟨m,hn,_⟩:=I.loc;refine .cons (by rw[I.ok.kind];decide) hf hn ?_ I.funs;exact Heap.get?_none_of_le (AM I.ok.bsz I.ok.above)
theorem Inv.stkSub(I:Inv X pins σ H s):∀b∈frs X.stack,b∈X.env.locals::X.fs:=λb hb=>by
 rcases I.ok.stk with e |⟨e,hf⟩
 .rw[e]at hb;exact Ar _ hb
 .rw[e]at hb;unfold frs at hb;rw[BU,hf]at hb;exact hb
theorem Inv.stkFree(I:Inv X pins σ H s):∀b∈frs X.stack,H b=none:=λb hb=>by
 rcases At.mp (I.stkSub b hb) with e |hb
 .rw[e];exact I.free
 .obtain⟨_,o,ho,_⟩:=I.ok.funs.mem hb;exact I.base.free b o ho (I.ok.frf b hb) λz=>I.ok.exfs b z hb
theorem Inv.step{g':Array GenState}{t':Nat}{d':Drawn}{ch:List Addr}(I:Inv X pins σ H s)
  (hch:∀b∈ch,(b∈X.ex∨X.s₀.heap.objs.size<=b)/\b≠X.env.locals/\(∀x c,X.env.cells.lookup x=some c->c≠b)/\∀p∈X.pn++pins,p.1≠b)
  (keep:∀b o,b≠X.env.locals->b ∉ X.fs->b ∉ ch->s.heap.get? b=some o->H b=none->h'.get? b=some o)
  (slot:∀b o,b≠X.env.locals->b∈X.fs->b ∉ ch->s.heap.get? b=some o->H b=none->∃sl,h'.get? b=some { o with slots:=sl }) (free:∀b o,b ∉ ch->s.heap.get? b=some o->H b=none->H' b=none)
  (there:∀b o,b ∉ ch->s.heap.get? b=some o->∃o',h'.get? b=some o')
  (tups:∀b xs,H b=some (.tup xs)->H' b=some (.tup xs)) (frzs:∀b o u,H b=some (.frz o u)->H' b=some (.frz o u)) (tbls:∀b ps,H b=some (.tbl ps)->∃more,H' b=some (.tbl (ps++more)))
  (ns:∀m,s.heap.Ns X.env.locals m->h'.Ns X.env.locals m) (hok:HOk X.prog X.w H' h') (hg:AllBare g') :
  Inv X pins σ H' { s with heap:=h',gens:=g',drawn:=d',toks:=t' }:=by
 have neL:∀b o,X.s₀.heap.get? b=some o->b≠X.env.locals:=λb o e=>AK (AD (Au e) I.ok.above)
 have neC:∀b o,X.s₀.heap.get? b=some o->b ∉ X.ex->b ∉ ch:=λb o e hx hb=>by
  rcases (hch b hb).1 with z |z
  .exact hx z
  .exact absurd (AD (Au e) z) (BV _)
 have cellK:∀x c,X.env.cells.lookup x=some c->∀v,s.heap.IsCell c v->h'.IsCell c v:=λx c e v ⟨o,ho,hd⟩=>by
  have nch:c ∉ ch:=λz=>(hch c z).2.2.1 x c e rfl
  by_cases hc:c∈X.fs
  .obtain⟨sl,q⟩:=slot c o (I.cne x c e) hc nch ho (I.freeC x c e);exact⟨_,q,hd⟩
  .exact⟨o,keep c o (I.cne x c e) hc nch ho (I.freeC x c e),hd⟩
 refine⟨I.ok,I.os,hg,⟨λb o e n hb hx=>?_,λb o e n hb hx=>?_,λb o e n hx=>?_,λb o e hx=>?_,λb xs e=>tups b xs (I.base.tups b xs e),λb o xs e=>frzs b o xs (I.base.frzs b o xs e),λb ps e=>?_⟩,?_,λx c e=>?_,?_,λx c e=>?_,λp hp=>?_,hok,I.len⟩
 .exact keep b o (neL b o e) hb (neC b o e hx) (I.base.keep b o e n hb hx) (I.base.free b o e n hx)
 .obtain⟨sl,e1⟩:=I.base.slot b o e n hb hx;obtain⟨sl',e2⟩:=slot b _ (neL b o e) hb (neC b o e hx) e1 (I.base.free b o e n hx);exact⟨sl',e2⟩
 .obtain⟨o',e1⟩:=I.base.there b o e hx;exact free b o' (neC b o e hx) e1 (I.base.free b o e n hx)
 .obtain⟨o',e1⟩:=I.base.there b o e hx;exact there b o' (neC b o e hx) e1
 .obtain⟨m1,e1⟩:=I.base.tbls b ps e;obtain⟨m2,e2⟩:=tbls b _ e1;exact⟨m1++m2,by rw[e2,Array.append_assoc]⟩
 .obtain⟨m,hn,hl⟩:=I.loc;refine⟨m,ns m hn,λi x v e1 e2 e3=>?_⟩;obtain⟨u,r,l⟩:=hl i x v e1 e2 e3;refine⟨u,r,?_⟩;rcases l with l |⟨k,c,e,z⟩
  .exact .inl l
  .exact .inr ⟨k,c,e,cellK x c e _ z⟩
 .obtain⟨v,z⟩:=I.cell x c e;exact⟨v,cellK x c e v z⟩
 .obtain⟨m,⟨o,_,_,ho,_⟩,_⟩:=I.loc;exact free _ o (λz=>(hch _ z).2.1 rfl) ho I.free
 .obtain⟨v,o,ho,hd⟩:=I.cell x c e;exact free c o (λz=>(hch c z).2.2.1 x c e rfl) ho (I.freeC x c e)
 .obtain⟨e,n,ne,nf,d⟩:=I.pin p hp;have nch:p.1 ∉ ch:=λz=>(hch p.1 z).2.2.2 p hp rfl
  exact⟨keep p.1 p.2 ne nf nch e n,free p.1 p.2 nch e n,ne,nf,d⟩
theorem Inv.un{t':Nat}(I:Inv X pins σ H s)(u:Un X.fs [] H H' s.heap h')(hok:HOk X.prog X.w H' h'):Inv X pins σ H' { s with heap:=h',toks:=t' }:=by
 obtain⟨m,⟨o,es,ep,ho,r⟩,_⟩:=id I.loc;obtain⟨sl,hL⟩:=u.any ho I.free (by simp)
 exact I.step (g':=s.gens) (d':=s.drawn) (ch:=[]) (λ_ z=>nomatch z) (λb o _ hb _ e n=>u.keep b o e n hb (by simp)) (λb o _ hb _ e n=>u.slot b o e n hb (by simp)) (λb o _ e n=>u.free b o e n (by simp)) (λb o _ e=>u.there b o e (by simp)) u.tups u.frzs u.tbls (λm' hm=>by obtain⟨o',es',ep',ho',r'⟩:=hm;rw[ho]at ho';cases ho';exact⟨_,es',ep',hL,r'⟩) hok I.bare
theorem Inv.call{g':Array GenState}{t':Nat}{d':Drawn}{ch:List Addr}(I:Inv X pins σ H s)(u:Un (frs X.stack) ch H H' s.heap h')(hok:HOk X.prog X.w H' h')(hg:AllBare g')
  (hch:∀b∈ch,(b∈X.ex∨X.s₀.heap.objs.size<=b)/\b≠X.env.locals/\(∀x c,X.env.cells.lookup x=some c->c≠b)/\∀p∈X.pn++pins,p.1≠b) :
  Inv X pins σ H' { s with heap:=h',gens:=g',drawn:=d',toks:=t' }:=by
 obtain⟨m,⟨o,es,ep,ho,r⟩,_⟩:=id I.loc;obtain⟨sl,hL⟩:=u.any ho I.free λz=>(hch _ z).2.1 rfl
 exact I.step (ch:=ch) hch (λb o hL hb hc e n=>u.keep b o e n (λz=>(At.mp (I.stkSub b z)).elim hL hb) hc) (λb o _ _ hc e n=>u.any e n hc) (λb o hc e n=>u.free b o e n hc) (λb o hc e=>u.there b o e hc) u.tups u.frzs u.tbls (λm' hm=>by obtain⟨o',es',ep',ho',r'⟩:=hm;rw[ho]at ho';cases ho';exact⟨_,es',ep',hL,r'⟩) hok hg
theorem Inv.turned{t':Nat}{it:Addr}(I:Inv X pins σ H s)(k:∀b o, b ≠ it -> s.heap.get? b=some o -> h'.get? b=some o)(hn:H it=none)(hL:it ≠ X.env.locals)
  (h1:it∈X.ex∨X.s₀.heap.objs.size<=it) (h2:∀x c,X.env.cells.lookup x=some c->c≠it) (h3:∀p∈X.pn++pins,p.1≠it):Inv X pins σ H { s with heap:=h',toks:=t' }:=by
 have nit:∀b u,H b=some u->b≠it:=λb u e z=>by rw[z,hn]at e;cases e
 refine I.step (g':=s.gens) (d':=s.drawn) (ch:=[it]) (λb hb=>?_) (λb o _ _ hc e _=>k b o (λz=>hc (by simp[z])) e) (λb o _ _ hc e _=>⟨o.slots,k b o (λz=>hc (by simp[z])) e⟩) (λ_ _ _ _ n=>n)
  (λb o hc e=>⟨o,k b o (λz=>hc (by simp[z])) e⟩) (λ_ _ e=>e) (λ_ _ _ e=>e) (λb ps e=>⟨#[],by rw[e];simp⟩) (λm hm=>?_) (λb u e=>?_) I.bare
 .have e:b=it:=by simpa using hb
  subst e;exact⟨h1,hL,h2,h3⟩
 .obtain⟨o,es,ep,ho,r⟩:=hm;exact⟨o,es,ep,k _ o (Bx hL) ho,r⟩
 .refine (I.hok b u e).stay (λc v hc q=>k c v ?_ q) (λ_ q=>q) λ_ _ q=>q
  rcases hc with z |z
  .rw[z];exact nit b u e
  .exact nit c _ z
theorem Inv.tok(I:Inv X pins σ H s)(t:Nat):Inv X pins σ H { s with toks:=t }:=I.un (h':=s.heap) (t':=t) Un.refl I.hok
theorem Inv.kept{t':Nat}(I:Inv X pins σ H s)(k:∀b u,s.heap.get? b=some u->h'.get? b=some u):Inv X pins σ H { s with heap:=h',toks:=t' }:=I.un (Un.kept k) (I.hok.kept k)
theorem Inv.laid{a:Addr}{o:HO}{t':Nat}(I:Inv X pins σ H s)(k:∀b u, s.heap.get? b=some u -> h'.get? b=some u)(hp:s.heap.objs.size <= a)(new:ObjOk X.prog X.w (upd H a o) h' a o) :
  Inv X pins σ (upd H a o) { s with heap:=h',toks:=t' }:=I.un (Un.laid k hp (I.hok.fresh hp)) (I.hok.laid k hp new)
theorem Inv.write{x e:Addr}{o:HO}{t':Nat}(I:Inv X pins σ H s)(mu:Mut (H x))(he:e=x ∨ H e=some (.own x))(k:∀b u, b ≠ e -> s.heap.get? b=some u -> h'.get? b=some u)(heo:∃u, h'.get? e=some u)
  (new:ObjOk X.prog X.w (upd H x o) h' x o):Inv X pins σ (upd H x o) { s with heap:=h',toks:=t' }:=I.un (Un.write mu he k heo) (I.hok.write mu he k heo new)
theorem Inv.pins_of{pins':List (Addr×Obj)}(I:Inv X pins σ H s)(h:∀p∈pins',s.heap.get? p.1=some p.2/\H p.1=none/\p.1≠X.env.locals/\p.1 ∉ X.fs/\∀v,p.2.data≠.cell v):Inv X pins' σ H s :=
 ⟨I.ok,I.os,I.bare,I.base,I.loc,I.cell,I.free,I.freeC,λp hp=>(AA.mp hp).elim (λz=>I.pin p (Bf _ z)) (h p),I.hok,I.len⟩
theorem zhq{N:List Str}(hN:N.Nodup){i j:Nat}{x:Str}(a:N[i]?=some x)(b:N[j]?=some x):i=j:=by obtain⟨h1,e1⟩:=Ad.mp a;obtain⟨h2,e2⟩:=Ad.mp b;exact (List.getElem_inj hN).mp (e1.trans e2.symm)
theorem zfD{M:D4}{A:AF}{E:Value -> Ac -> Prop}{i:Nat}{x:Str}{v:V}{u:Value}{Q:Unit -> Ac -> Prop}(I:Inv X pins σ H s)(hN:X.N.Nodup)(hi:X.N[i]? = some x)(hx:Loc X.env.scope x)(r:RelV v u)
  (h:∀s',Inv X pins (σ.set i (some v)) H s'->(∃a,Ce a s.heap s'.heap/\(a=X.env.locals∨X.env.cells.lookup x=some a))->Q () s') (hf:X.fn x=true∨X.env.scope.names.lookup x=some .local:=by first |exact .inl rfl |exact .inr rfl |assumption):Am M A (storeName X.env x u) Q E s:=by
 obtain⟨m,hn,hl⟩:=id I.loc;have hcls:(X.env.scope.kind == .class || (X.env.scope.kind == .module && X.env.locals != X.env.globals))=false:=by rw[I.ok.kind];rfl
 have hiσ:i<σ.length:=by rw[I.len];exact (Ad.mp hi).1
 have cne:=I.cne
 have tracked:∀{a:Addr} {h':Heap},(∃o,s.heap.get? a=some o/\H a=none)->Ce a s.heap h'->HOk X.prog X.w H h':=λ{a h'} ha hs b ob e=>by
  obtain⟨_,_,hfree⟩:=ha;refine (I.hok b ob e).stay (λc w' hc q=>(hs.2 c ?_).trans q) (λ_ q=>q) λ_ _ q=>q
  rintro rfl;rcases hc with rfl |hc
  .rw[hfree]at e;cases e
  .rw[hfree]at hc;cases hc
 rcases hx with hk |hk
 .refine wpAny_storeName_local hk hn (λh' hn' hs=>?_) hcls;obtain⟨oL,_,_,hoL,_⟩:=id hn;refine h _ ⟨I.ok,I.os,I.bare,⟨λb o e n hb hx=>?_,λb o e n hb hx=>?_,I.base.free,λb o e hx=>?_,I.base.tups,I.base.frzs,I.base.tbls⟩,⟨_,hn',λj y v' e1 e2 e3=>?_⟩,λy c e=>?_,I.free,I.freeC,λp hp=>?_,tracked ⟨oL,hoL,I.free⟩ hs,by simpa using I.len⟩ ⟨_,hs,.inl rfl⟩
  .exact (hs.2 b (AK (AD (Au e) I.ok.above))).trans (I.base.keep b o e n hb hx)
  .obtain⟨sl,e1⟩:=I.base.slot b o e n hb hx;exact⟨sl,(hs.2 b (AK (AD (Au e) I.ok.above))).trans e1⟩
  .obtain⟨o',e1⟩:=I.base.there b o e hx;exact⟨o',(hs.2 b (AK (AD (Au e) I.ok.above))).trans e1⟩
  .by_cases hj:j=i
   .subst hj;rw[hi]at e1;cases e1;rw[List.getElem?_set_self hiσ]at e2
    cases e2
    exact⟨u,r,.inl ⟨hk,by simp⟩⟩
   .rw[List.getElem?_set_ne (Bx hj)]at e2;obtain⟨u',r',q⟩:=hl j y v' e1 e2 e3;refine⟨u',r',?_⟩;rcases q with⟨k,e⟩ |⟨k,c,e,z⟩
    .refine .inl ⟨k,?_⟩;have:y≠x:=λe=>hj (zhq hN e1 (e ▸ hi))
     simp[this,e]
    .exact .inr ⟨k,c,e,z.sameBut hs (cne y c e)⟩
  .obtain⟨w',z⟩:=I.cell y c e;exact⟨w',z.sameBut hs (cne y c e)⟩
  .obtain⟨e,n,ne,nf,d⟩:=I.pin p hp;exact⟨(hs.2 p.1 ne).trans e,n,ne,nf,d⟩
 .have hfn:X.fn x=true := by
   rcases hf with z |z
   .exact z
   .rw[z]at hk;cases hk
  obtain⟨c,hc⟩:=I.ok.has x (.inl hk);obtain⟨w',z⟩:=I.cell x c hc;refine wpAny_storeName_cell I.ok.kind hk hc z (λh' hc' hs=>?_);obtain⟨oc,hoc,hocd⟩:=id z;refine h { s with heap:=h' } ⟨I.ok,I.os,I.bare,⟨λb o e n hb hx=>?_,λb o e n hb hx=>?_,I.base.free,λb o e hx=>?_,I.base.tups,I.base.frzs,I.base.tbls⟩,⟨m,hn.sameBut hs (Bx (cne x c hc)),λj y v' e1 e2 e3=>?_⟩,λy c' e=>?_,I.free,I.freeC,λp hp=>?_,tracked ⟨oc,hoc,I.freeC x c hc⟩ hs,by simpa using I.len⟩ ⟨c,hs,.inr hc⟩
  .exact (hs.2 b (AK (AD (Au e) (I.ok.cab x c hfn hc)))).trans (I.base.keep b o e n hb hx)
  .obtain⟨sl,e1⟩:=I.base.slot b o e n hb hx;exact⟨sl,(hs.2 b (AK (AD (Au e) (I.ok.cab x c hfn hc)))).trans e1⟩
  .obtain⟨o',e1⟩:=I.base.there b o e hx;exact⟨o',(hs.2 b (AK (AD (Au e) (I.ok.cab x c hfn hc)))).trans e1⟩
  .by_cases hj:j=i
   .subst hj;rw[hi]at e1;cases e1;rw[List.getElem?_set_self hiσ]at e2
    cases e2
    exact⟨u,r,.inr ⟨.inl hk,c,hc,hc'⟩⟩
   .rw[List.getElem?_set_ne (Bx hj)]at e2;obtain⟨u',r',q⟩:=hl j y v' e1 e2 e3;refine⟨u',r',?_⟩;rcases q with q |⟨k,c',e,z'⟩
    .exact .inl q
    .refine .inr ⟨k,c',e,z'.sameBut hs ?_⟩;rintro rfl;exact hj (zhq hN e1 (I.ok.inj _ _ _ e hc ▸ hi))
  .by_cases hcc:c'=c
   .subst hcc;exact⟨_,hc'⟩
   .obtain⟨w2,z2⟩:=I.cell y c' e;exact⟨w2,z2.sameBut hs hcc⟩
  .obtain⟨e,n,ne,nf,d⟩:=I.pin p hp;refine⟨(hs.2 p.1 ?_).trans e,n,ne,nf,d⟩;intro q;rw[q,hoc]at e;have q':oc=p.2:=A4 e;exact d w' (by rw[<- q'];exact hocd)
theorem zeQ{M:D4}{A:AF}{E:Value -> Ac -> Prop}{i:Nat}{x:Str}{v:V}{u:Value}{Q:Unit -> Ac -> Prop}(I:Inv X pins σ H s)(hN:X.N.Nodup)(hi:X.N[i]? = some x)(hx:Loc X.env.scope x)(r:RelV v u)
  (h:∀s',Inv X pins (σ.set i (some v)) H s'->Q () s') (hf:X.fn x=true∨X.env.scope.names.lookup x=some .local:=by first |exact .inl rfl |exact .inr rfl |assumption):Am M A (storeName X.env x u) Q E s :=
 zfD I hN hi hx r (λs' I' _=>h s' I') hf
theorem Inv.call'{s':Ac}{ch:List Addr}(I:Inv X pins σ H s)(ho:s'.os=s.os)(u:Un (frs X.stack) ch H H' s.heap s'.heap)(hok:HOk X.prog X.w H' s'.heap)(hg:AllBare s'.gens)
  (hch:∀b∈ch,(b∈X.ex∨X.s₀.heap.objs.size<=b)/\b≠X.env.locals/\(∀x c,X.env.cells.lookup x=some c->c≠b)/\∀p∈X.pn++pins,p.1≠b):Inv X pins σ H' s':=by
 obtain⟨h',g',d',t',o'⟩:=s';have e:o'=s.os:=ho;subst e;exact I.call (g':=g') (t':=t') (d':=d') u hok hg hch
end
noncomputable abbrev XK:=Value->Option Addr->Hp->Prop
noncomputable abbrev St:=List (Option V)
noncomputable abbrev VK:=V->Hp->Prop
noncomputable abbrev TE:=St->Hp->VK->Prop
noncomputable abbrev TT:=St->Hp->(Bool->Hp->Prop)->Prop
noncomputable abbrev TA:=St->Hp->(List V->Hp->Prop)->Prop
structure Ends where
 nx:St->Hp->Prop
 rt:VK
 bk:St->Hp->Prop:=λ_ _=>False
 ct:St->Hp->Prop:=λ_ _=>False
noncomputable abbrev TS:=Ends->St->Hp->Prop
noncomputable def EP(X:Cx)(pins:List (Addr×Obj))(σ:St)(Q:VK)(u:Value)(s':Ac):Prop:=∃v H',Inv X pins σ H' s'/\RelV v u/\Q v H'
noncomputable def TP(X:Cx)(pins:List (Addr×Obj))(σ:St)(Q:Bool->Hp->Prop)(b:Bool)(s':Ac):Prop:=∃H',Inv X pins σ H' s'/\Q b H'
noncomputable def AP(X:Cx)(pins:List (Addr×Obj))(σ:St)(Q:List V->Hp->Prop)(us:List Value)(s':Ac):Prop:=∃vs H',Inv X pins σ H' s'/\Vals vs us/\Q vs H'
noncomputable def SP(X:Cx)(pins:List (Addr×Obj))(D:Ends)(f:Flow)(s':Ac):Prop :=
 match f with
 |.next=>∃ σ' H',Inv X pins σ' H' s'/\D.nx σ' H'
 |.brk=>∃ σ' H',Inv X pins σ' H' s'/\D.bk σ' H'
 |.cont=>∃ σ' H',Inv X pins σ' H' s'/\D.ct σ' H'
 |.ret u=>∃v σ' H',Inv X pins σ' H' s'/\RelV v u/\D.rt v H'
noncomputable def PE(X:Cx)(e:Expr)(t:TE):Prop :=
 ∀(pins:List (Addr×Obj)) (s:Ac) (σ:St) (H:Hp) (Q:VK),Inv X pins σ H s->t σ H Q->Am (Aw X.prog X.w) X.A (eval e X.env) (EP X pins σ Q) X.xe s
noncomputable def PT(X:Cx)(e:Expr)(t:TT):Prop :=
 ∀(pins:List (Addr×Obj)) (s:Ac) (σ:St) (H:Hp) (Q:Bool->Hp->Prop),Inv X pins σ H s->t σ H Q->Am (Aw X.prog X.w) X.A (isTrue e X.env (eval e X.env)) (TP X pins σ Q) X.xe s
noncomputable def PW(X:Cx)(e:Expr)(t:TT):Prop :=
 ∀(whole:Sem Value) (pins:List (Addr×Obj)) (s:Ac) (σ:St) (H:Hp) (Q:Bool->Hp->Prop),Inv X pins σ H s->t σ H Q->Am (Aw X.prog X.w) X.A (isTrue e X.env whole) (TP X pins σ Q) X.xe s
theorem PW.pt{X:Cx}{e:Expr}{t:TT}(h:PW X e t):PT X e t:=h _
noncomputable def PA(X:Cx)(es:List Expr)(t:TA):Prop :=
 ∀(pos:Pos) (pins:List (Addr×Obj)) (s:Ac) (σ:St) (H:Hp) (Q:List V->Hp->Prop),Inv X pins σ H s->t σ H Q->Am (Aw X.prog X.w) X.A (spliced (DK pos (A5 es X.env))) (AP X pins σ Q) X.xe s
noncomputable def PS(X:Cx)(st:Stmt)(t:TS):Prop :=
 ∀(pins:List (Addr×Obj)) (s:Ac) (σ:St) (H:Hp) (D:Ends),Inv X pins σ H s->t D σ H->Am (Aw X.prog X.w) X.A (exec st X.env) (SP X pins D) X.xe s
noncomputable def PSs(X:Cx)(st:List Stmt)(t:TS):Prop :=
 ∀(pins:List (Addr×Obj)) (s:Ac) (σ:St) (H:Hp) (D:Ends),Inv X pins σ H s->t D σ H->Am (Aw X.prog X.w) X.A (execs st X.env) (SP X pins D) X.xe s
theorem thn{α:Type}{t:Sem α}{Q Q':α->Ac->Prop}{M:D4}{A:AF}{E:Value->Ac->Prop}{s:Ac}(h:Am M A t Q E s)(hQ:∀a s,Q a s->Q' a s):Am M A t Q' E s:=Bk h hQ λ_ _ x=>x
section
variable {X:Cx}
noncomputable def tVar(i:Nat):TE:=λσ H Q=>∃v,σ[i]?=some (some v)/\Q v H
noncomputable def tC(v:V):TE:=λ_ H Q=>Q v H
theorem zmA {i:Nat}{x:Str}{pos:Pos}(hN:X.N[i]?=some x) (hv:Vis X.env.scope x) (hd:(x == ("__debug__" : Str))=false:=by decide) (hcd:(x == ("__classdict__" : Str))=false:=by decide):PE X (.Name x pos) (tVar i):=by
 intro pins s σ H Q I h;obtain⟨v,e,h⟩:=h;obtain⟨m,hn,hl⟩:=I.loc;obtain⟨u,r,l⟩:=hl i x v hN e hv;have fin:EP X pins σ Q u s:=⟨v,H,I,r,h⟩;rcases l with⟨hk,hm⟩ |⟨hk,c,hc,hcell⟩
 .exact wpAny_Name (wpAny_loadName_local I.ok.kind hk hn hm fin) hd
 .rcases hk with hk |hk
  .exact wpAny_Name (wpAny_loadName_cell I.ok.kind hk hc hcell fin) hd
  .exact wpAny_Name (wpAny_loadName_free I.ok.kind hk hc hcell fin hcd) hd
theorem zad{i j pos}:PE X (.Constant (.int i) j pos) (tC (.int i)):=λ_ _ _ H _ I h=>wpAny_Constant_int ⟨.int i,H,I.tok _,⟨_,rfl⟩,h⟩
theorem pe_bl{b j pos}:PE X (.Constant (.bool b) j pos) (tC (.bl b)):=λ_ _ _ H _ I h=>Constant_bool ⟨.bl b,H,I,rfl,h⟩
theorem zbL{j pos}:PE X (.Constant .none j pos) (tC .non):=λ_ _ _ H _ I h=>Constant_none ⟨.non,H,I,rfl,h⟩
theorem zcl{x j pos}:PE X (.Constant (.str x) j pos) (tC (.str x)):=λ_ _ _ H _ I h=>Calls.Constant_str ⟨.str x,H,I.tok _,⟨_,rfl⟩,h⟩
noncomputable def Gl(X:Cx)(x:Str):Prop:=X.env.kindOf x=some .globalImplicit
theorem zfi{E:Value -> Ac -> Prop}{pins:List (Addr × Obj)}{s:Ac}{σ : St}{H:Hp}{x:Str}{u:Value}{pos:Pos}{Q:Value -> Ac -> Prop}(I:Inv X pins σ H s)(hg:Gl X x)(hm:X.mg x=some u)(h:Q u s)
  (hd:(x == ("__debug__" : Str))=false:=by decide):Am (Aw X.prog X.w) X.A (eval (.Name x pos) X.env) Q E s :=
 Calls.Name_function_global I.ok.kind hg (Calls.loadGlobal_global (by rw[I.ok.glob];exact I.mod.glob.keeps I.bk) hm h) hd
theorem zdm{E:Value -> Ac -> Prop}{pins:List (Addr × Obj)}{s:Ac}{σ : St}{H:Hp}{x:Str}{u:Value}{pos:Pos}{Q:Value -> Ac -> Prop}(I:Inv X pins σ H s)(hg:Gl X x)(hm:X.mg x=none)(hv:bootBuiltins x=some u)(h:Q u s)
  (hn:x ≠ "__name__":=by decide) (hd:(x == ("__debug__" : Str))=false:=by decide):Am (Aw X.prog X.w) X.A (eval (.Name x pos) X.env) Q E s:=by
 obtain⟨mb,h1,h2⟩:=I.mod.blt;exact Calls.Name_function_global I.ok.kind hg (Calls.loadGlobal_builtin (by rw[I.ok.glob];exact I.mod.glob.keeps I.bk) hm (by rw[I.ok.blt];exact h1.keeps I.bk) ((h2 x hn).trans hv) h) hd
theorem zdS {x:Str}{v:V}{u:Value}{pos:Pos}(hg:Gl X x) (hm:X.mg x=some u) (r:RelV v u) (hd:(x == ("__debug__" : Str))=false:=by decide):PE X (.Name x pos) (tC v) :=
 λ_ _ _ H _ I h=>zfi I hg hm ⟨v,H,I,r,h⟩ hd
theorem zcL {x:Str}{v:V}{u:Value}{pos:Pos}(hg:Gl X x) (hm:X.mg x=none) (hv:bootBuiltins x=some u) (r:RelV v u) (hn:x ≠ "__name__":=by decide) (hd:(x == ("__debug__" : Str))=false:=by decide):PE X (.Name x pos) (tC v) :=
 λ_ _ _ H _ I h=>zdm I hg hm hv ⟨v,H,I,r,h⟩ hn hd
variable {a b:Expr}{ta tb:TE}{pos:Pos}
noncomputable def PC(X:Cx)(op:CmpOp)(a b:Expr)(t:TE):Prop :=
 ∀(pins:List (Addr×Obj)) (s:Ac) (σ:St) (H:Hp) (Q:VK),Inv X pins σ H s->t σ H Q ->
  Am (Aw X.prog X.w) X.A (eval a X.env) (λv s₁=>Am (Aw X.prog X.w) X.A (eval b X.env) (λu s₂=>Am (Aw X.prog X.w) X.A (BD op v u) (EP X pins σ Q) X.xe s₂) X.xe s₁) X.xe s
noncomputable def tB(t:TE):TT:=λσ H Q=>t σ H λx H1=>∃c,x=.bl c/\Q c H1
theorem zmD{op:CmpOp}{t:TE}(h:PC X op a b t)(h1:DN op b=false:=by first |exact nobehind _ (by decide) (by decide) |rfl):PE X (.Compare a [op] [b] pos) t:=λpins s σ H Q I hw=>wpAny_Compare1 (h pins s σ H Q I hw) h1
theorem zcy{op:CmpOp}{t:TE}(h:PC X op a b t)(h1:DN op b=false:=by first |exact nobehind _ (by decide) (by decide) |rfl):PT X (.Compare a [op] [b] pos) (tB t):=by
 intro pins s σ H Q I hw;refine wpAny_isTrue_Compare1 (thn (h pins s σ H _ I hw) λv s1 h1=>thn h1 λu s2 h2=>thn h2 λc s3 ⟨x,H1,I1,r1,q1⟩=>?_) h1;obtain⟨d,rfl,q⟩:=q1
 cases r1
 exact BG ⟨H1,I1,q⟩
theorem zdQ{e:Expr}{t:TE}(h:PE X e t)(he:∀whole,isTrue e X.env whole=(do let v <- whole;standAt e.pos;holding [v] (truthy v)):=by intro _;rfl):PT X e (tB t):=by
 intro pins s σ H Q I hw;refine isTrue_plain (thn (h pins s σ H _ I hw) λv s1 ⟨x,H1,I1,r1,q1⟩=>?_) (he _);obtain⟨d,rfl,q⟩:=q1
 cases r1
 exact BG ⟨H1,I1,q⟩
variable {tA tB':TT}{rest:List Expr}
noncomputable def tAnd(t u:TT):TT:=λσ H Q=>t σ H λc H1=>if c=true then u σ H1 Q else Q false H1
noncomputable def tOr(t u:TT):TT:=λσ H Q=>t σ H λc H1=>if c=true then Q true H1 else u σ H1 Q
noncomputable def tNot(t:TT):TT:=λσ H Q=>t σ H λc H1=>Q (!c) H1
theorem zgC(ha:PT X a tA):PW X (.BoolOp .And [a] pos) tA:=by
 intro wh pins s σ H Q I h;refine isTrue_and (thn (ha pins s σ H Q I h) λc s1 e=>?_)
 cases c with
 |true=>exact isTrue_and_nil e
 |false=>exact e
theorem zhg(ha:PT X a tA):PW X (.BoolOp .Or [a] pos) tA:=by
 intro wh pins s σ H Q I h;refine isTrue_or (thn (ha pins s σ H Q I h) λc s1 e=>?_)
 cases c with
 |false=>exact isTrue_or_nil e
 |true=>exact e
theorem zi6(ha:PT X a tA)(hb:PW X (.BoolOp .And (b::rest) pos) tB'):PW X (.BoolOp .And (a::b::rest) pos) (tAnd tA tB'):=by
 intro wh pins s σ H Q I h;refine isTrue_and (thn (ha pins s σ H _ I h) λc s1 ⟨H1,I1,q1⟩=>?_)
 cases c with
 |true=>exact hb wh pins s1 σ H1 Q I1 q1
 |false=>exact⟨H1,I1,q1⟩
theorem pw_or(ha:PT X a tA)(hb:PW X (.BoolOp .Or (b::rest) pos) tB'):PW X (.BoolOp .Or (a::b::rest) pos) (tOr tA tB'):=by
 intro wh pins s σ H Q I h;refine isTrue_or (thn (ha pins s σ H _ I h) λc s1 ⟨H1,I1,q1⟩=>?_)
 cases c with
 |true=>exact⟨H1,I1,q1⟩
 |false=>exact hb wh pins s1 σ H1 Q I1 q1
theorem zfM(ha:PT X a tA):PT X (.UnaryOp .Not a pos) (tNot tA):=by intro pins s σ H Q I h;exact isTrue_not (ha pins s σ H (λc H1=>Q (!c) H1) I h)
noncomputable def tAndV(ta tb:TE):TE:=λσ H Q=>ta σ H λx H1=>∃c,x=.bl c/\if c=true then tb σ H1 Q else Q (.bl false) H1
noncomputable def tOrV(ta tb:TE):TE:=λσ H Q=>ta σ H λx H1=>∃c,x=.bl c/\if c=true then Q (.bl true) H1 else tb σ H1 Q
noncomputable def tNotV(ta:TE):TE:=λσ H Q=>ta σ H λx H1=>∃c,x=.bl c/\Q (.bl (!c)) H1
theorem zdl{op}{t:TE}(h:PE X a t):PE X (.BoolOp op [a] pos) t:=λpins s σ H Q I hw=>BoolOp_one (h pins s σ H Q I hw)
theorem zcz(ha:PE X a ta)(hb:PE X (.BoolOp .And (b::rest) pos) tb):PE X (.BoolOp .And (a::b::rest) pos) (tAndV ta tb):=by
 intro pins s σ H Q I h;refine BoolOp_and (thn (ha pins s σ H _ I h) λv s1 ⟨x,H1,I1,r1,q1⟩=>?_);obtain⟨c,rfl,q1⟩:=q1
 cases r1
 refine BG ?_
 cases c with
 |true=>exact hb pins s1 σ H1 Q I1 q1
 |false=>exact⟨.bl false,H1,I1,rfl,q1⟩
theorem pe_or(ha:PE X a ta)(hb:PE X (.BoolOp .Or (b::rest) pos) tb):PE X (.BoolOp .Or (a::b::rest) pos) (tOrV ta tb):=by
 intro pins s σ H Q I h;refine BoolOp_or (thn (ha pins s σ H _ I h) λv s1 ⟨x,H1,I1,r1,q1⟩=>?_);obtain⟨c,rfl,q1⟩:=q1
 cases r1
 refine BG ?_
 cases c with
 |false=>exact hb pins s1 σ H1 Q I1 q1
 |true=>exact⟨.bl true,H1,I1,rfl,q1⟩
theorem zld(ha:PE X a ta):PE X (.UnaryOp .Not a pos) (tNotV ta):=by
 intro pins s σ H Q I h;refine UnaryOp_ (thn (ha pins s σ H _ I h) λv s1 ⟨x,H1,I1,r1,q1⟩=>?_);obtain⟨c,rfl,q1⟩:=q1
 cases r1
 exact not_of (BG ⟨.bl (!c),H1,I1,rfl,q1⟩)
noncomputable def tIf(t:TT)(ta tb:TE):TE:=λσ H Q=>t σ H λc H1=>if c=true then ta σ H1 Q else tb σ H1 Q
theorem zkr{c:Expr}(hc:PT X c tA)(ha:PE X a ta)(hb:PE X b tb):PE X (.IfExp c a b pos) (tIf tA ta tb):=by
 intro pins s σ H Q I h;refine wpAny_IfExp (thn (hc pins s σ H _ I h) λd s1 ⟨H1,I1,q1⟩=>?_)
 cases d with
 |true=>exact ha pins s1 σ H1 Q I1 q1
 |false=>exact hb pins s1 σ H1 Q I1 q1
end
noncomputable def SqL(K:W.Frag)(H:Hp)(a:Addr)(xs:List V):Prop :=
 Rd H a (.lst xs) ∨
  ∃(o:Obj) (its:Array Value) (n:Nat),K.lookup a=some o/\o.cls=.type "list" /\ o.dict=none/\o.data=.seq its n/\its.size<=sizeLine/\Vals xs its.toList
noncomputable def SqT(K:W.Frag)(H:Hp)(a:Addr)(xs:List V):Prop :=
 Rd H a (.tup xs) ∨
  ∃(o:Obj) (its:Array Value) (n:Nat),K.lookup a=some o/\o.cls=.type "tuple" /\ o.data=.seq its n/\its.size<=sizeLine/\Vals xs its.toList
noncomputable def absV:Value->Option V
 |.none=>some .non
 |.bool b=>some (.bl b)
 |.int i _=>some (.int i)
 |.str x _=>some (.str x)
 |.bytes b _=>some (.byt b)
 |.float b _=>some (.flt b)
 |.ref a=>some (.ref a)
 |.type n=>some (.ty n)
 |_=>none
theorem RelV.abs{x:V}{u:Value}(r:RelV x u):absV u=some x:=by
 cases x with
 |non=>cases r;rfl
 |bl _=>cases r;rfl
 |int _=>obtain⟨t,rfl⟩:=r;rfl
 |str _=>obtain⟨t,rfl⟩:=r;rfl
 |byt _=>obtain⟨t,rfl⟩:=r;rfl
 |flt _=>obtain⟨t,rfl⟩:=r;rfl
 |ref _=>cases r;rfl
 |ty _=>cases r;rfl
theorem RelV.inj{x y:V}{u:Value}(r:RelV x u)(q:RelV y u):x=y:=A4 (r.abs.symm.trans q.abs)
theorem Vals.inj:∀{xs ys:List V}{us:List Value},Vals xs us->Vals ys us->xs=ys
 |_,_,_,.nil,.nil=>rfl
 |_,_,_,.cons r t,.cons r' t'=>by rw[r.inj r',Vals.inj t t']
section
variable {X:Cx}{pins:List (Addr×Obj)}{σ:St}{H:Hp}{s:Ac}{a:Addr}{xs ys:List V}
theorem SqL.of{K:W.Frag}(h:H a=some (.lst xs)):SqL K H a xs:=.inl (.inl h)
theorem SqT.of{K:W.Frag}(h:H a=some (.tup xs)):SqT K H a xs:=.inl (.inl h)
theorem Inv.list(I:Inv X pins σ H s)(h:SqL X.K H a xs):∃its:List Value,Vals xs its/\PlainL s.heap a its.toArray/\xs.length<=sizeLine:=by
 rcases h with h |⟨o,its,n,hk,hc,hd,hs,hz,r⟩
 .obtain⟨z,its,n,r,e⟩:=h.ok I.hok;exact⟨its,r,⟨_,n,e,rfl,rfl,rfl⟩,z⟩
 .refine⟨its.toList,r,⟨o,n,I.kIn a o hk,hc,hd,by simpa using hs⟩,?_⟩;have e:=r.length;simp only[C0]at e;lia
theorem Inv.tuple(I:Inv X pins σ H s)(h:SqT X.K H a xs):∃its:List Value,Vals xs its/\IsTup s.heap a its.toArray/\xs.length<=sizeLine:=by
 rcases h with h |⟨o,its,n,hk,hc,hs,hz,r⟩
 .obtain⟨z,its,r,p⟩:=h.ok I.hok;exact⟨its,r,p,z⟩
 .refine⟨its.toList,r,⟨o,I.kIn a o hk,hc,n,by simpa using hs⟩,?_⟩;have e:=r.length;simp only[C0]at e;lia
theorem Inv.list_inj(I:Inv X pins σ H s)(h:SqL X.K H a xs)(h':SqL X.K H a ys):xs=ys:=by
 obtain⟨its,r,⟨o,n,e,_,_,d⟩,_⟩:=I.list h;obtain⟨its',r',⟨o',n',e',_,_,d'⟩,_⟩:=I.list h';rw[e]at e';cases e';rw[d]at d';injection d' with d1 _;have:its=its':=by simpa using congrArg Array.toList d1
 subst this;exact r.inj r'
theorem Inv.tuple_inj(I:Inv X pins σ H s)(h:SqT X.K H a xs)(h':SqT X.K H a ys):xs=ys:=by
 obtain⟨its,r,⟨o,e,_,n,d⟩,_⟩:=I.tuple h;obtain⟨its',r',⟨o',e',_,n',d'⟩,_⟩:=I.tuple h';rw[e]at e';cases e';rw[d]at d';injection d' with d1 _;have:its=its':=by simpa using congrArg Array.toList d1
 subst this;exact r.inj r'
end
noncomputable abbrev Cx.wish(X:Cx)(E:Value->Ac->Prop):Cx:={ X with xe:=E }
noncomputable abbrev Cx.nox(X:Cx):Cx:=X.wish λ_ _=>False
theorem Cx.Ok.wish{X:Cx}(ok:X.Ok)(E:Value->Ac->Prop):(X.wish E).Ok :=
 ⟨ok.mod,ok.kind,ok.glob,ok.blt,ok.above,ok.inj,ok.has,ok.cab,ok.hd,ok.frames,ok.stk,ok.exf,ok.bs,ok.bsz,ok.noex,ok.exfs,ok.funs,ok.frf⟩
theorem Cx.Ok.unwish{X:Cx}{E:Value->Ac->Prop}(ok:(X.wish E).Ok):X.Ok :=
 ⟨ok.mod,ok.kind,ok.glob,ok.blt,ok.above,ok.inj,ok.has,ok.cab,ok.hd,ok.frames,ok.stk,ok.exf,ok.bs,ok.bsz,ok.noex,ok.exfs,ok.funs,ok.frf⟩
section
variable {X:Cx}{pins:List (Addr×Obj)}{σ:St}{H:Hp}{s:Ac}{E:Value->Ac->Prop}
theorem Inv.wish(I:Inv X pins σ H s)(E:Value->Ac->Prop):Inv (X.wish E) pins σ H s:=⟨I.ok.wish E,I.os,I.bare,I.base,I.loc,I.cell,I.free,I.freeC,I.pin,I.hok,I.len⟩
theorem Inv.unwish(I:Inv (X.wish E) pins σ H s):Inv X pins σ H s:=⟨I.ok.unwish,I.os,I.bare,I.base,I.loc,I.cell,I.free,I.freeC,I.pin,I.hok,I.len⟩
theorem SP.unwish{D:Ends}{f:Flow}{s':Ac}(h:SP (X.wish E) pins D f s'):SP X pins D f s':=by
 cases f with
 |next=>obtain⟨σ',H',I,q⟩:=h;exact⟨σ',H',I.unwish,q⟩
 |brk=>obtain⟨σ',H',I,q⟩:=h;exact⟨σ',H',I.unwish,q⟩
 |cont=>obtain⟨σ',H',I,q⟩:=h;exact⟨σ',H',I.unwish,q⟩
 |ret u=>obtain⟨v,σ',H',I,r,q⟩:=h;exact⟨v,σ',H',I.unwish,r,q⟩
theorem PE.nox{e:Expr}{t:TE}(h:PE X.nox e t):PE X e t:=λpins s σ H Q I hw =>
 Bk (h pins s σ H Q (I.wish _) hw) (λ_ _ ⟨v,H',I',r,q⟩=>⟨v,H',I'.unwish,r,q⟩) λ_ _ z=>Bj z
theorem PT.nox{e:Expr}{t:TT}(h:PT X.nox e t):PT X e t:=λpins s σ H Q I hw =>
 Bk (h pins s σ H Q (I.wish _) hw) (λ_ _ ⟨H',I',q⟩=>⟨H',I'.unwish,q⟩) λ_ _ z=>Bj z
theorem PSs.nox{st:List Stmt}{t:TS}(h:PSs X.nox st t):PSs X st t:=λpins s σ H D I hw =>
 Bk (h pins s σ H D (I.wish _) hw) (λ_ _ q=>q.unwish) λ_ _ z=>Bj z
end
section
variable {X:Cx}{st:Stmt}{rest:List Stmt}{t u:TS}{e:Expr}{te:TE}{pos:Pos}
noncomputable def tNext:TS:=λD σ H=>D.nx σ H
noncomputable def tSeq(t u:TS):TS:=λD σ H=>t { D with nx:=u D } σ H
theorem zaF:PSs X [] tNext:=λ_ _ σ H _ I h=>DU ⟨σ,H,I,h⟩
theorem zac(h1:PS X st t)(h2:PSs X rest u):PSs X (st::rest) (tSeq t u):=by
 intro pins s σ H D I h;refine wpAny_execs_cons (thn (h1 pins s σ H { D with nx:=u D } I h) λf s1 q=>?_)
 cases f with
 |next =>
  obtain⟨σ',H',I',q⟩:=q;exact h2 pins s1 σ' H' D I' q
 |ret v=>exact q
 |brk=>exact q
 |cont=>exact q
theorem zag(h1:PS X st t):PSs X [st] t:=by
 intro pins s σ H D I h;refine wpAny_execs_cons (thn (h1 pins s σ H D I h) λf s1 q=>?_)
 cases f with
 |next=>exact DU q
 |ret v=>exact q
 |brk=>exact q
 |cont=>exact q
theorem Inv.quiet{pins:List (Addr×Obj)}{σ:St}{H:Hp}{s:Ac}(I:Inv X pins σ H s):interactive X.env=false:=by simp[interactive,I.ok.kind]
noncomputable def tDrop(te:TE):TS:=λD σ H=>te σ H λ_ H1=>D.nx σ H1
theorem zbc(he:PE X e te)(hs:swapsWith e none pos.line X.env=pure false:=by rfl):PS X (.Expr e pos) (tDrop te):=by intro pins s σ H D I h;exact wpAny_Expr_any (thn (he pins s σ H _ I h) λv s1 ⟨x,H1,I1,r1,q1⟩=>⟨σ,H1,I1,q1⟩) I.quiet hs
noncomputable def tRet(te:TE):TS:=λD σ H=>te σ H D.rt
theorem zal(he:PE X e te):PS X (.Return (some e) pos) (tRet te):=by intro pins s σ H D I h;exact wpAny_Return_some (thn (he pins s σ H _ I h) λv s1 ⟨x,H1,I1,r1,q1⟩=>⟨x,σ,H1,I1,r1,q1⟩)
noncomputable def tIfS(c:TT)(t u:TS):TS:=λD σ H=>c σ H λb H1=>if b=true then t D σ H1 else u D σ H1
theorem ps_if{c:Expr}{a b:List Stmt}{tc:TT}(hc:PT X c tc)(ha:PSs X a t)(hb:PSs X b u):PS X (.If c a b pos) (tIfS tc t u):=by
 intro pins s σ H D I h;refine wpAny_If (thn (hc pins s σ H _ I h) λd s1 ⟨H1,I1,q1⟩=>?_)
 cases d with
 |true=>exact ha pins s1 σ H1 D I1 q1
 |false=>exact hb pins s1 σ H1 D I1 q1
end
noncomputable abbrev TG:=V->St->Hp->(St->Hp->Prop)->Prop
noncomputable abbrev TGs:=List V->St->Hp->(St->Hp->Prop)->Prop
noncomputable def PG(X:Cx)(target:Expr)(t:TG):Prop :=
 ∀(pins:List (Addr×Obj)) (s:Ac) (σ:St) (H:Hp) (v:V) (u:Value) (Q:St->Hp->Prop),Inv X pins σ H s->RelV v u->t v σ H Q ->
  Am (Aw X.prog X.w) X.A (assign target X.env u) (λ_ s'=>∃ σ' H',Inv X pins σ' H' s'/\Q σ' H') X.xe s
noncomputable def PGs(X:Cx)(ts:List Expr)(t:TGs):Prop :=
 ∀(pins:List (Addr×Obj)) (s:Ac) (σ:St) (H:Hp) (vs:List V) (us:List Value) (Q:St->Hp->Prop),Inv X pins σ H s->Vals vs us->t vs σ H Q ->
  Am (Aw X.prog X.w) X.A (assignInOrder ((Cq ts X.env).map (·.2)) us) (λ_ s'=>∃ σ' H',Inv X pins σ' H' s'/\Q σ' H') X.xe s
noncomputable abbrev TIp:=V->V->Hp->VK->Prop
noncomputable def PIp(X:Cx)(op:Operator)(t:TIp):Prop :=
 ∀(pins:List (Addr×Obj)) (s:Ac) (σ:St) (H:Hp) (x y:V) (v u:Value) (Q:VK),Inv X pins σ H s->RelV x v->RelV y u->t x y H Q ->
  Am (Aw X.prog X.w) X.A (inplaceOp op v u) (EP X pins σ Q) X.xe s
section
variable {X:Cx}{pos:Pos}
noncomputable def gName(i:Nat):TG:=λv σ H Q=>Q (σ.set i (some v)) H
theorem zcK{i:Nat}{x:Str}(hN:X.N.Nodup)(hi:X.N[i]?=some x)(hx:Loc X.env.scope x)(hf:X.fn x=true∨X.env.scope.names.lookup x=some .local:=by first |exact .inl rfl |exact .inr rfl |assumption):PG X (.Name x pos) (gName i):=by intro pins s σ H v u Q I r h;exact wpAny_assign_Name (zeQ I hN hi hx r (λs' I'=>⟨_,H,I',h⟩) hf)
noncomputable def gNil:TGs:=λvs σ H Q=>vs=[]/\Q σ H
noncomputable def gCons(t:TG)(u:TGs):TGs:=λvs σ H Q=>∃v r,vs=v::r/\t v σ H λσ' H'=>u r σ' H' Q
theorem zaq:PGs X [] gNil:=by
 intro pins s σ H vs us Q I r h;obtain⟨e,h⟩:=h;subst e
 cases r
 exact assignInOrder_nil ⟨σ,H,I,h⟩
theorem zae{e:Expr}{es:List Expr}{t:TG}{u:TGs}(h1:PG X e t)(h2:PGs X es u)
  (hs:(Cq (e::es) X.env).map (·.2)=assign e X.env::(Cq es X.env).map (·.2):=by rfl):PGs X (e::es) (gCons t u):=by
 intro pins s σ H vs us Q I r h;obtain⟨v,vr,e1,h⟩:=h;subst e1
 cases r with
 |cons r rr =>
  rw[hs];refine assignInOrder_cons (thn (h1 pins s σ H _ _ _ I r h) λ_ s1 ⟨σ1,H1,I1,q1⟩=>?_);exact h2 pins s1 σ1 H1 _ _ Q I1 rr q1
noncomputable def gTup(K:W.Frag)(n:Nat)(t:TGs):TG:=λv σ H Q=>∃a xs,v=.ref a/\SqT K H a xs/\xs.length=n/\t xs σ H Q
theorem za0{es:List Expr}{k:Nat}{t:TGs}{n:Nat}(hc:X.calm=true)(h:PGs X es t)
  (hn:(Cq es X.env).length=n:=by rfl) (hst:(Cq es X.env).findIdx? (·.1)=none:=by rfl):PG X (.Tuple es k pos) (gTup X.K n t):=by
 intro pins s σ H v u Q I r hw;obtain⟨a,xs,e1,hq,hl,hw⟩:=hw;subst e1
 cases r
 obtain⟨its,rv,ht,hz⟩:=I.tuple hq;refine assign_Tuple_tuple (I.ok.hd hc) ht (by simp[hn,<- hl,rv.length]) hst λh' hx=>?_
 have I1:Inv X pins σ H { s with heap:=h' }:=I.kept (t':=s.toks) λb o e=>hx b o (AK (Au e)) e
 exact h pins _ σ H xs _ Q I1 (by simpa using rv) hw
noncomputable def tAsg(te:TE)(g:TG):TS:=λD σ H=>te σ H λx H1=>g x σ H1 D.nx
theorem za2{tg e:Expr}{te:TE}{g:TG}(he:PE X e te)(hg:PG X tg g)(hs:swapsWithSole [tg] e pos.line X.env=pure false := by rfl)(hw:swappedStores [tg] e X.env=pure none := by rfl)
  (h1:(Cq [tg] X.env).map (·.2)=[assign tg X.env]:=by rfl):PS X (.Assign [tg] e pos) (tAsg te g):=by
 intro pins s σ H D I h;refine wpAny_Assign_stores (thn (he pins s σ H _ I h) λv s1 ⟨x,H1,I1,r1,q1⟩=>?_) hs hw;rw[h1];exact thn (hg pins s1 σ H1 x v _ I1 r1 q1) λ_ s2 q=>q
theorem zdR{i:Nat}{x:Str}{e:Expr}{te:TE}{pos':Pos}(hN:X.N.Nodup)(hi:X.N[i]? = some x)(hx:Loc X.env.scope x)(he:PE X e te)(hs:swapsWith e (some (.Name x pos')) pos.line X.env=pure false := by rfl)(hf:X.fn x=true ∨ X.env.scope.names.lookup x=some .local := by first |exact .inl rfl |exact .inr rfl |assumption) :
  PS X (.Assign [.Name x pos'] e pos) (tAsg te (gName i)):=by
 intro pins s σ H D I h;refine wpAny_Assign_Name (thn (he pins s σ H _ I h) λv s1 ⟨y,H1,I1,r1,q1⟩=>?_) hs;exact zeQ I1 hN hi hx r1 (λs2 I2=>⟨_,H1,I2,q1⟩) hf
noncomputable def tAug(i:Nat)(te:TE)(ti:TIp):TS:=λD σ H=>∃x,σ[i]?=some (some x)/\te σ H λy H1=>ti x y H1 λz H2=>D.nx (σ.set i (some z)) H2
theorem zmz{i:Nat}{x:Str}{e:Expr}{te:TE}{op:Operator}{ti:TIp}{pos':Pos}(hN:X.N.Nodup)(hi:X.N[i]? = some x)(hx:Loc X.env.scope x)(he:PE X e te)(ho:PIp X op ti)(hf:X.fn x=true ∨ X.env.scope.names.lookup x=some .local := by first |exact .inl rfl |exact .inr rfl |assumption) :
  PS X (.AugAssign (.Name x pos') op e pos) (tAug i te ti):=by
 intro pins s σ H D I h;obtain⟨v,e1,h⟩:=h;obtain⟨m,hn,hl⟩:=I.loc;have vis:Vis X.env.scope x:=by rcases hx with k |k;exact .inl k;exact .inr (.inl k)
 obtain⟨u,r,l⟩:=hl i x v hi e1 vis;refine wpAny_AugAssign_Name ?_
 have go:Am (Aw X.prog X.w) X.A (eval e X.env) (λw s₂=>Am (Aw X.prog X.w) X.A (inplaceOp op u w) (λr s₃=>Am (Aw X.prog X.w) X.A (storeName X.env x r) (λ_=>SP X pins D .next) X.xe s₃) X.xe s₂) X.xe s:=by
  refine thn (he pins s σ H _ I h) λw s1 ⟨y,H1,I1,r1,q1⟩=>?_
  refine thn (ho pins s1 σ H1 v y u w _ I1 r r1 q1) λz s2 ⟨zv,H2,I2,r2,q2⟩=>?_
  exact zeQ I2 hN hi hx r2 (λs3 I3=>⟨_,H2,I3,q2⟩) hf
 rcases l with⟨hk,hm⟩ |⟨hk,c,hc,hcell⟩
 .exact wpAny_loadName_local I.ok.kind hk hn hm go
 .rcases hk with hk |hk
  .exact wpAny_loadName_cell I.ok.kind hk hc hcell go
  .rcases hx with k |k
   .have:X.env.scope.names.lookup x=some .free:=hk;rw[k]at this;cases this
   .have:X.env.scope.names.lookup x=some .free:=hk;rw[k]at this;cases this
noncomputable def ipI(f:Int->Int->Int):TIp:=λx y H Q=>∃i j,x=.int i/\y=.int j/\Q (.int (f i j)) H
theorem zmS:PIp X .Add (ipI λi j=>i+j):=by intro pins s σ H x y v u Q I r1 r2 h;obtain⟨i,j,e1,e2,q⟩:=h;subst e1;subst e2;obtain⟨t,rfl⟩:=r1;obtain⟨t',rfl⟩:=r2;exact iadd_int ⟨.int _,H,I.tok _,⟨_,rfl⟩,q⟩
end
section
variable {X:Cx}{pos:Pos}
noncomputable def zkY(c:TT)(tb:TS):TS:=λD σ H=>∃W:Nat->St->Hp->Prop,(∃m,W m σ H)/\∀m σ H,W m σ H ->
 c σ H λb H1=>if b=true then ∃N:St->Hp->Prop,(∀ σ' H',N σ' H'->∃m',m'<m/\W m' σ' H')/\tb { D with nx:=N,ct:=N,bk:=D.nx } σ H1 else D.nx σ H1
theorem zhj{c:Expr}{body:List Stmt}{tc:TT}{tb:TS}(hp:PassesOwn (Aw X.prog X.w) X.A X.env X.xe)(hc:PT X c tc)(hb:PSs X body tb):PS X (.While c body [] pos) (zkY tc tb):=by
 intro pins s σ H D I h;obtain⟨W,⟨m0,w0⟩,turn⟩:=h;refine wpAny_While (codeAny_whileLoop (λn s'=>∃ σ' H',Inv X pins σ' H' s'/\W n σ' H') ?_ m0 ⟨σ,H,I,w0⟩);rintro n s1 ⟨σ1,H1,I1,w1⟩;refine CL hp (thn (hc pins s1 σ1 H1 _ I1 (turn n σ1 H1 w1)) λb s2 ⟨H2,I2,q2⟩=>?_)
 cases b with
 |true =>
  obtain⟨N,hN,q2⟩:=q2;rw[if_pos rfl];refine CL hp (thn (hb pins s2 σ1 H2 _ I2 q2) λf s3 q3=>?_)
  cases f with
  |next =>
   obtain⟨σ3,H3,I3,n3⟩:=q3;obtain⟨m',hm,w3⟩:=hN σ3 H3 n3;exact⟨m',hm,σ3,H3,I3,w3⟩
  |cont =>
   obtain⟨σ3,H3,I3,n3⟩:=q3;obtain⟨m',hm,w3⟩:=hN σ3 H3 n3;exact⟨m',hm,σ3,H3,I3,w3⟩
  |brk=>exact q3
  |ret v=>exact q3
 |false =>
  rw[if_neg AT];exact DU ⟨σ1,H2,I2,q2⟩
end
structure It where
 go:Nat->Hp->Prop
 yld:Nat->Hp->V->Hp->Prop
 stop:Nat->Hp->Prop
noncomputable def FpOk(X:Cx)(pins:List (Addr×Obj))(H:Hp)(b:Addr):Prop :=
 H b=none/\b≠X.env.locals/\b ∉ X.fs/\(b∈X.ex∨X.s₀.heap.objs.size<=b)/\(∀x c,X.env.cells.lookup x=some c->c≠b)/\∀p∈X.pn++pins,p.1≠b
theorem Inv.fpOk{X:Cx}{pins:List (Addr×Obj)}{σ:St}{H H':Hp}{s:Ac}{b:Addr}(I:Inv X pins σ H s)(hb:s.heap.objs.size<=b)(hn:H' b=none):FpOk X pins H' b:=by
 refine⟨hn,Cf (AD I.lt hb),I.nofs hb,.inr (AM I.sz hb),λx c e z=>?_,λp hp z=>?_⟩
 .obtain⟨v,q⟩:=I.cell x c e;exact absurd (AD q.lt (by rw[z];exact hb)) (BV _)
 .exact absurd (AD (Au (I.pin p hp).1) (by rw[z];exact hb)) (BV _)
structure Turn (P:AB) (w:AV) (K:W.Frag) (tg:Expr) (J:It) (fp:List Addr) (it:Addr) (tn:Nat->Heap->Prop):Prop where
 mem:it∈fp
 obj:∀i h,tn i h->∀b∈fp,∃o,h.get? b=some o/\∀v,o.data≠.cell v
 keep:∀i h h',tn i h->(∀b∈fp,∀o,h.get? b=some o->h'.get? b=some o)->tn i h'
 item:∀(X:Cx),X.prog=P->X.w=w->X.K=K->X.calm=true->∀(i:Nat) (pins:List (Addr×Obj)) (s:Ac) (σ:St) (H:Hp) (E:Value->Ac->Prop),Inv X pins σ H s->(∀b∈fp,FpOk X pins H b)->tn i s.heap->J.go i H ->
  Am (Aw P w) X.A (pyNext (.ref it)) (λr s1=>∃u,r=some u /\
   Am (Aw P w) X.A (letOwnedTupleGo tg (.ref it) u) (λ_ s2=>∃x H',Inv X pins σ H' s2/\RelV x u/\J.yld i H x H'/\tn (i+1) s2.heap/\∀b∈fp,H' b=none) E s1) E s
 done:∀(X:Cx),X.prog=P->X.w=w->X.K=K->X.calm=true->∀(i:Nat) (pins:List (Addr×Obj)) (s:Ac) (σ:St) (H:Hp) (E:Value->Ac->Prop),Inv X pins σ H s->(∀b∈fp,FpOk X pins H b)->tn i s.heap->J.stop i H ->
  Am (Aw P w) X.A (pyNext (.ref it)) (λr s1=>r=none/\Inv X pins σ H s1) E s
 self:∀(A:AF) (i:Nat) (s:Ac) (Q:Value->Ac->Prop) (E:Value->Ac->Prop),tn i s.heap->Q (.ref it) s->Am (Aw P w) A (pyIter (.ref it)) Q E s
noncomputable abbrev TI:=St->Hp->(It->Hp->Prop)->Prop
noncomputable def PIE(X:Cx)(pins:List (Addr×Obj))(σ:St)(tg:Expr)(R:It->Hp->Prop)(itv:Value)(s2:Ac):Prop :=
 ∃(it:Addr) (fp:List Addr) (tn:Nat->Heap->Prop) (J:It) (H':Hp),itv=.ref it/\Inv X pins σ H' s2/\Turn X.prog X.w X.K tg J fp it tn/\tn 0 s2.heap/\(∀b∈fp,FpOk X pins H' b)/\R J H'
noncomputable def PI(X:Cx)(tg iter:Expr)(wi:TI):Prop :=
 ∀(pins:List (Addr×Obj)) (s:Ac) (σ:St) (H:Hp) (R:It->Hp->Prop),Inv X pins σ H s->wi σ H R ->
  Am (Aw X.prog X.w) X.A (eval iter X.env) (λv s1=>Am (Aw X.prog X.w) X.A (pyIter v) (PIE X pins σ tg R) X.xe s1) X.xe s
theorem go_of {M : D4}{A : AF}{E : Value → Ac → Prop}{s : Ac}{tg : Expr}{it : Addr}{u : Value}{o : Obj}{n : String}{vs : Array Value}{Q : Unit → Ac → Prop}(ho : s.heap.get? it = some o) (hc : o.cls = .type n) (hd : o.data = .fields vs)
    (hn:["enumerate","zip","dict_itemiterator","dict_reverseitemiterator","odict_iterator","itertools.zip_longest","itertools.pairwise"].contains n=false) (hQ:Q () s):Am M A (letOwnedTupleGo tg (.ref it) u) Q E s:=by
  unfold letOwnedTupleGo
  cases tg <;> first
    | exact Af hQ
    | (cases u <;> first
        | exact Af hQ
        | (refine Ab (wpAny_load ho ?_)
           rw[hc,hd]
           show Am M A (if (["enumerate","zip","dict_itemiterator","dict_reverseitemiterator","odict_iterator","itertools.zip_longest","itertools.pairwise"].contains n && vs[0]? == some (Cr _))=true then _ else _) Q E s
           rw[if_neg (by intro h;rw[hn,Bool.false_and] at h;cases h)]
           exact Af hQ))
noncomputable def Itl(K:W.Frag)(a:Addr):It :=
 ⟨λi H=>∃xs x,SqL K H a xs/\xs[i]?=some x,λi H x H'=>H'=H/\∀xs,SqL K H a xs->xs[i]?=some x,λi H=>∃xs,SqL K H a xs/\xs.length<=i⟩
noncomputable def Itt(K:W.Frag)(a:Addr):It :=
 ⟨λi H=>∃xs x,SqT K H a xs/\xs[i]?=some x,λi H x H'=>H'=H/\∀xs,SqT K H a xs->xs[i]?=some x,λi H=>∃xs,SqT K H a xs/\xs.length<=i⟩
noncomputable def Itr(lo:Int)(n:Nat):It:=⟨λi _=>i<n,λi H x H'=>H'=H/\x=.int (lo+i),λi _=>n<=i⟩
theorem ziu{P:AB}{w:AV}{K:W.Frag}{tg:Expr}(a it:Addr):Turn P w K tg (Itl K a) [it] it (λi h=>h.IsListIter it a i) where
 mem:=by simp
 obj:=λi h st b hb=>by
  have e:b=it:=by simpa using hb
  subst e;obtain⟨o,e,c,d⟩:=st;exact⟨o,e,λv z=>by rw[d]at z;cases z⟩
 keep:=λi h h' st k=>st.at λo e=>k it (by simp) o e
 item:=by
  intro X hP hw hK hc i pins s σ H E I hf st hg;subst hP hw hK;obtain⟨xs,x,hq,hx⟩:=hg;obtain⟨its,rv,p,hz⟩:=I.list hq;obtain⟨u,hu,ru⟩:=rv.get hx;obtain⟨f0,f1,f2,f3,f4,f5⟩:=hf it (by simp);refine wpAny_pyNext_list_item st p.isList (x:=u) (by simpa using hu) λh' st' sb=>?_
  have I1:Inv X pins σ H { s with heap:=h' }:=I.turned (t':=s.toks) (λb o hb e=>(sb.2 b hb).trans e) f0 f1 f3 f4 f5;obtain⟨o,e,c,d⟩:=id st';exact⟨u,rfl,go_of (s:={ s with heap:=h' }) e c d (by decide) ⟨x,H,I1,ru,⟨rfl,λys hy=>by rw[I.list_inj hy hq];exact hx⟩,st',λb hb=>(hf b hb).1⟩⟩
 done:=by intro X hP hw hK hc i pins s σ H E I hf st hg;subst hP hw hK;obtain⟨xs,hq,hx⟩:=hg;obtain⟨its,rv,p,hz⟩:=I.list hq;obtain⟨f0,f1,f2,f3,f4,f5⟩:=hf it (by simp);have hl:=rv.length;exact wpAny_pyNext_list_end (I.ok.hd hc) st p.isList (by simp;lia) λh' eb=>⟨rfl,I.turned (t':=s.toks) (λb o hb e=>eb b o hb e) f0 f1 f3 f4 f5⟩
 self:=λ_ _ _ _ _ st h=>wpAny_pyIter_listiter st h
theorem zhU{P:AB}{w:AV}{K:W.Frag}{tg:Expr}(a it:Addr):Turn P w K tg (Itt K a) [it] it (λi h=>h.IsTupleIter it a i) where
 mem:=by simp
 obj:=λi h st b hb=>by
  have e:b=it:=by simpa using hb
  subst e;obtain⟨o,e,c,d⟩:=st;exact⟨o,e,λv z=>by rw[d]at z;cases z⟩
 keep:=λi h h' st k=>st.at λo e=>k it (by simp) o e
 item:=by
  intro X hP hw hK hc i pins s σ H E I hf st hg;subst hP hw hK;obtain⟨xs,x,hq,hx⟩:=hg;obtain⟨its,rv,p,hz⟩:=I.tuple hq;obtain⟨u,hu,ru⟩:=rv.get hx;obtain⟨f0,f1,f2,f3,f4,f5⟩:=hf it (by simp);refine wpAny_pyNext_tuple_item st (show s.heap.IsTuple a its.toArray from p) (x:=u) (by simpa using hu) λh' st' sb=>?_
  have I1:Inv X pins σ H { s with heap:=h' }:=I.turned (t':=s.toks) (λb o hb e=>(sb.2 b hb).trans e) f0 f1 f3 f4 f5;obtain⟨o,e,c,d⟩:=id st';exact⟨u,rfl,go_of (s:={ s with heap:=h' }) e c d (by decide) ⟨x,H,I1,ru,⟨rfl,λys hy=>by rw[I.tuple_inj hy hq];exact hx⟩,st',λb hb=>(hf b hb).1⟩⟩
 done:=by intro X hP hw hK hc i pins s σ H E I hf st hg;subst hP hw hK;obtain⟨xs,hq,hx⟩:=hg;obtain⟨its,rv,p,hz⟩:=I.tuple hq;obtain⟨f0,f1,f2,f3,f4,f5⟩:=hf it (by simp);have hl:=rv.length;exact wpAny_pyNext_tuple_end (I.ok.hd hc) st (show s.heap.IsTuple a its.toArray from p) (by simp;lia) λh' eb=>⟨rfl,I.turned (t':=s.toks) (λb o hb e=>eb b o hb e) f0 f1 f3 f4 f5⟩
 self:=λ_ _ _ _ _ st h=>wpAny_pyIter_tupleiter st h
theorem zet{P:AB}{w:AV}{K:W.Frag}{tg:Expr}(it:Addr)(lo:Int)(n:Nat):Turn P w K tg (Itr lo n) [it] it (λi h=>IsRangeIter h it (lo+(i:Nat)*1) ((n:Int)-(i:Nat)) 1) where
 mem:=by simp
 obj:=λi h st b hb=>by
  have e:b=it:=by simpa using hb
  subst e
  exact⟨_,st,λv z=>by
   have z':Data.fields _=Data.cell v:=z
   cases z'⟩
 keep:=λi h h' st k=>k it (by simp) _ st
 item:=by
  intro X hP hw hK hc i pins s σ H E I hf st hg;subst hP hw hK;obtain⟨f0,f1,f2,f3,f4,f5⟩:=hf it (by simp);have W:=Walks.range (prog:=X.prog) (w:=X.w) (I.ok.hd hc) it lo 1 n;refine W.item i s _ _ hg st λv h' tk hv st' kk=>?_
  obtain⟨t,rfl⟩:=hv;have I1:Inv X pins σ H { s with heap:=h',toks:=tk }:=I.turned (λb o hb e=>kk b o (by simpa using hb) e) f0 f1 f3 f4 f5;refine⟨_,rfl,go_of (s:={ s with heap:=h',toks:=tk }) (n:="range_iterator") st' rfl rfl (by decide) ⟨.int (lo+i),H,I1,⟨t,?_⟩,⟨rfl,rfl⟩,st',λb hb=>(hf b hb).1⟩⟩;rw[Int.mul_one]
 done:=by intro X hP hw hK hc i pins s σ H E I hf st hg;subst hP hw hK;obtain⟨f0,f1,f2,f3,f4,f5⟩:=hf it (by simp);exact wpAny_pyNext_range_end (I.ok.hd hc) st (by have:n<=i:=hg;lia) λh' eb=>⟨rfl,I.turned (t':=s.toks) (λb o hb e=>eb b o hb e) f0 f1 f3 f4 f5⟩
 self:=λ_ _ _ _ _ st h=>wpAny_pyIter_rangeiter st h
section
variable {X:Cx}{tg:Expr}
noncomputable def iList(K:W.Frag)(tl:TE):TI:=λσ H R=>tl σ H λx H1=>∃a,x=.ref a/\(∃xs,SqL K H1 a xs)/\R (Itl K a) H1
noncomputable def iTup(K:W.Frag)(tl:TE):TI:=λσ H R=>tl σ H λx H1=>∃a,x=.ref a/\(∃xs,SqT K H1 a xs)/\R (Itt K a) H1
theorem za3{l:Expr}{tl:TE}(hl:PE X l tl):PI X tg l (iList X.K tl):=by
 intro pins s σ H R I h;refine thn (hl pins s σ H _ I h) λv s1 ⟨x,H1,I1,r1,q1⟩=>?_
 obtain⟨a,e,⟨xs,hq⟩,q⟩:=q1;subst e
 cases r1
 obtain⟨its,rv,p,hz⟩:=I1.list hq;refine Dv p.isList ?_
 refine⟨s1.heap.objs.size,[s1.heap.objs.size],_,_,H1,rfl,I1.kept (t':=s1.toks) λb o e=>Ae _ e,ziu a _,⟨_,Av _ rfl,rfl,rfl⟩,λb hb=>?_,q⟩;have e:b=s1.heap.objs.size:=by simpa using hb
 subst e;exact I1.fpOk (Aj _) (I1.hok.fresh (Aj _))
theorem zjb{l:Expr}{tl:TE}(hl:PE X l tl):PI X tg l (iTup X.K tl):=by
 intro pins s σ H R I h;refine thn (hl pins s σ H _ I h) λv s1 ⟨x,H1,I1,r1,q1⟩=>?_
 obtain⟨a,e,⟨xs,hq⟩,q⟩:=q1;subst e
 cases r1
 obtain⟨its,rv,p,hz⟩:=I1.tuple hq;refine wpAny_pyIter_tuple (show s1.heap.IsTuple a its.toArray from p) ?_
 refine⟨s1.heap.objs.size,[s1.heap.objs.size],_,_,H1,rfl,I1.kept (t':=s1.toks) λb o e=>Ae _ e,zhU a _,⟨_,Av _ rfl,rfl,rfl⟩,λb hb=>?_,q⟩;have e:b=s1.heap.objs.size:=by simpa using hb
 subst e;exact I1.fpOk (Aj _) (I1.hok.fresh (Aj _))
theorem zko{pins:List (Addr × Obj)}{σ : St}{H:Hp}{s:Ac}{R:It -> Hp -> Prop}{E:Value -> Ac -> Prop}{lo hi:Int}{t u v:Tok}{tk:Nat}(I:Inv X pins σ H s)(h1 : -(2 ^ 62) <= lo)(h2:lo < 2 ^ 62)(h3 : -(2 ^ 62) <= hi)(h4:hi < 2 ^ 62)
  (q:R (Itr lo (hi-lo).toNat) H):Am (Aw X.prog X.w) X.A (pyIter (.ref s.heap.objs.size)) (PIE X pins σ tg R) E { s with heap:=s.heap.push { cls:=.type "range",data:=.fields #[.int lo t,.int hi u,.int 1 v] },toks:=tk }:=by
 refine wpAny_pyIter_range (IsRange.new ..) (small_one h1 h2 h3 h4) ?_
 have I1:Inv X pins σ H { s with heap:=s.heap.push { cls:=.type "range",data:=.fields #[.int lo t,.int hi u,.int 1 v] },toks:=tk }:=I.kept λb o e=>Ae _ e
 refine⟨(s.heap.push { cls:=.type "range",data:=.fields #[.int lo t,.int hi u,.int 1 v] }).objs.size,[(s.heap.push { cls:=.type "range",data:=.fields #[.int lo t,.int hi u,.int 1 v] }).objs.size],_,_,H,rfl,
  I1.kept (t':=tk) λb o e=>Ae _ e,zet _ lo (hi-lo).toNat,?_,λb hb=>?_,q⟩
 .have e1:lo+((0:Nat):Int)*1=lo:=by simp
  have e2:(((hi-lo).toNat:Nat):Int)-((0:Nat):Int)=Builtin.Range.rangeSize lo hi 1:=by rw[rangeSize_one];split <;> lia
  show IsRangeIter _ _ (lo+((0:Nat):Int)*1) ((((hi-lo).toNat:Nat):Int)-((0:Nat):Int)) 1;rw[e1,e2];exact Av _ rfl
 .have e:b=(s.heap.push { cls:=.type "range",data:=.fields #[.int lo t,.int hi u,.int 1 v] }).objs.size:=by simpa using hb
  subst e;exact I1.fpOk (Aj _) (I1.hok.fresh (Aj _))
noncomputable def iRng1(ta:TA):TI:=λσ H R=>ta σ H λvs H1=>∃j:Int,vs=[.int j]/\-(2 ^ 62)<=j/\j<2 ^ 62/\R (Itr 0 j.toNat) H1
theorem zck {a:Expr}{ta:TA}{p pos:Pos}(hg:Gl X "range") (hm:X.mg "range" = none) (ha:PA X [a] ta) (hs:A5 [a] X.env=[(false,eval a X.env)]:=by rfl):PI X tg (.Call (.Name "range" p) [a] [] pos) (iRng1 ta):=by
 intro pins s σ H R I h;refine Call_ (zdm I hg hm boot_range (Cv (thn (ha pos pins s σ H _ I h) λus s1 ⟨vs,H1,I1,r1,q1⟩=>?_) hs rfl));obtain⟨j,e,q1,q2,q⟩:=q1;subst e
 cases r1 with
 |cons r rr =>
  cases rr
  obtain⟨t,rfl⟩:=r;exact call_range_1 (zko I1 (by lia) (by lia) q1 q2 (by simpa using q))
noncomputable def tFor(wi:TI)(g:TG)(tb:TS):TS:=λD σ H=>wi σ H λJ H1=>∃W:Nat->Nat->St->Hp->Prop,(∃m,W 0 m σ H1)/\∀i m σ H,W i m σ H ->
 (J.stop i H/\D.nx σ H)∨(J.go i H/\∃N:St->Hp->Prop,(∀ σ' H',N σ' H'->∃m',m'<m/\W (i+1) m' σ' H')/\∀x H',J.yld i H x H'->g x σ H' λσ2 H2=>tb { D with nx:=N,ct:=N,bk:=D.nx } σ2 H2)
noncomputable def zdk(fp:List Addr)(h:Heap):List (Addr×Obj):=fp.filterMap λb=>(h.get? b).map λo=>(b,o)
theorem zaY{fp:List Addr}{h:Heap}{b:Addr}{o:Obj}(hb:b∈fp)(e:h.get? b=some o):(b,o)∈zdk fp h:=List.mem_filterMap.mpr ⟨b,hb,by rw[e];rfl⟩
theorem zjo{fp:List Addr}{h:Heap}{p:Addr×Obj}(hp:p∈zdk fp h):p.1∈fp/\h.get? p.1=some p.2:=by
 obtain⟨b,hb,e⟩:=List.mem_filterMap.mp hp
 cases q:h.get? b with
 |none=>rw[q]at e;cases e
 |some o =>
  rw[q]at e;have e':(b,o)=p:=A4 e;subst e';exact⟨hb,q⟩
theorem Inv.pinned{pins:List (Addr×Obj)}{σ:St}{H:Hp}{s:Ac}{fp:List Addr}(I:Inv X pins σ H s)(hf:∀b∈fp,FpOk X pins H b)(ho:∀b∈fp,∃o,s.heap.get? b=some o/\∀v,o.data≠.cell v):Inv X (pins++zdk fp s.heap) σ H s :=
 I.pins_of λp hp=>(AA.mp hp).elim (λz=>I.pin p (Ap _ z)) λz=>by obtain⟨hb,e⟩:=zjo z;obtain⟨f0,f1,f2,_⟩:=hf p.1 hb;obtain⟨o,e',d⟩:=ho p.1 hb;rw[e]at e';cases e';exact⟨e,f0,f1,f2,d⟩
theorem Inv.unpinned{pins pl:List (Addr×Obj)}{σ:St}{H:Hp}{s:Ac}(I:Inv X (pins++pl) σ H s):Inv X pins σ H s:=I.pins_of λp hp=>I.pin p (Ap _ (Bf _ hp))
theorem zbr{iter:Expr}{body:List Stmt}{wi:TI}{g:TG}{tb:TS}{pos:Pos}(hp:PassesOwn (Aw X.prog X.w) X.A X.env X.xe)(hc:X.calm=true)(hi:PI X tg iter wi)(hg:PG X tg g)(hb:PSs X body tb)
  (hs:∀x,foldedSetIterable iter X.env x=pure x:=by intro _;rfl):PS X (.For tg iter body [] pos) (tFor wi g tb):=by
 intro pins s σ H D I h;refine wpAny_For (thn (hi pins s σ H _ I h) λv s1 h1=>thn h1 λitv s2 h2=>?_) hs;obtain⟨it,fp,tn,J,H2,e,I2,T,st2,f2,W,⟨m0,w0⟩,turn⟩:=h2;subst e;have stat:∀{H':Hp},(∀b∈fp,H' b=none)->∀b∈fp,FpOk X pins H' b:=λhn b hb=>⟨hn b hb,(f2 b hb).2⟩
 refine codeAny_forLoop_any (λn s'=>∃i σ' H',Inv X pins σ' H' s'/\tn i s'.heap/\(∀b∈fp,H' b=none)/\W i n σ' H') ?_ m0 ⟨0,σ,H2,I2,st2,λb hb=>(f2 b hb).1,w0⟩;rintro n s3 ⟨i,σ3,H3,I3,st3,fr3,w3⟩;rcases turn i n σ3 H3 w3 with⟨stop,qn⟩ |⟨go,N,hN,step⟩
 .refine CL hp (thn (T.done X rfl rfl rfl hc i pins s3 σ3 H3 X.xe I3 (stat fr3) st3 stop) λr s4 ⟨hr,I4⟩=>?_);subst hr;exact DU ⟨σ3,H3,I4,qn⟩
 .refine CL hp (thn (T.item X rfl rfl rfl hc i pins s3 σ3 H3 X.xe I3 (stat fr3) st3 go) λr s4 ⟨u,hr,h4⟩=>?_);subst hr;refine CL hp (thn h4 λ_ s5 ⟨x,H5,I5,r5,y5,st5,fr5⟩=>?_);have I5':=I5.pinned (stat fr5) (T.obj _ _ st5);refine CL hp (thn (hg _ s5 σ3 H5 x u _ I5' r5 (step x H5 y5)) λ_ s6 ⟨σ6,H6,I6,q6⟩=>?_);refine CL hp (thn (hb _ s6 σ6 H6 _ I6 q6) λf s7 q7=>?_)
  have again:∀{σ7:St} {H7:Hp},Inv X (pins++zdk fp s5.heap) σ7 H7 s7->N σ7 H7->∃m,m<n/\∃i σ' H',Inv X pins σ' H' s7/\tn i s7.heap/\(∀b∈fp,H' b=none)/\W i m σ' H':=λ{σ7 H7} I7 n7=>by obtain⟨m',hm,w7⟩:=hN σ7 H7 n7;refine⟨m',hm,i+1,σ7,H7,I7.unpinned,T.keep _ _ _ st5 λb hb o e=>(I7.pin (b,o) (Ap _ (Ap _ (zaY hb e)))).1,λb hb=>?_,w7⟩;obtain⟨o,e,d⟩:=T.obj _ _ st5 b hb;exact (I7.pin (b,o) (Ap _ (Ap _ (zaY hb e)))).2.1
  cases f with
  |next=>obtain⟨σ7,H7,I7,n7⟩:=q7;exact again I7 n7
  |cont=>obtain⟨σ7,H7,I7,n7⟩:=q7;exact again I7 n7
  |brk=>obtain⟨σ7,H7,I7,q7⟩:=q7;exact⟨σ7,H7,I7.unpinned,q7⟩
  |ret v=>obtain⟨x7,σ7,H7,I7,r7,q7⟩:=q7;exact⟨x7,σ7,H7,I7.unpinned,r7,q7⟩
end
theorem zaK{K:W.Frag}{a:Addr}{xs:List V}{g:TG}{tb:TS}{D:Ends}{σ : St}{H:Hp}(Pv:Nat -> St -> Hp -> Prop)(h0:Pv 0 σ H)(hl:∀i σ H, i <= xs.length -> Pv i σ H -> SqL K H a xs)
  (hs:∀i x σ H,xs[i]?=some x->Pv i σ H->g x σ H λσ2 H2=>tb { D with nx:=Pv (i+1),ct:=Pv (i+1),bk:=D.nx } σ2 H2) (hd:∀ σ H,Pv xs.length σ H->D.nx σ H) :
  ∃W:Nat->Nat->St->Hp->Prop,(∃m,W 0 m σ H)/\∀i m σ H,W i m σ H ->
   ((Itl K a).stop i H/\D.nx σ H)∨((Itl K a).go i H/\∃N:St->Hp->Prop,(∀ σ' H',N σ' H'->∃m',m'<m/\W (i+1) m' σ' H')/\∀x H',(Itl K a).yld i H x H'->g x σ H' λσ2 H2=>tb { D with nx:=N,ct:=N,bk:=D.nx } σ2 H2):=by
 refine⟨λi m σ H=>m=xs.length-i/\i<=xs.length/\Pv i σ H,⟨xs.length,by simp,Be _,h0⟩,?_⟩;rintro i m σ H ⟨rfl,hi,p⟩;have q:=hl i σ H hi p
 by_cases hlt:i<xs.length
 .refine .inr ⟨⟨xs,xs[i],q,by simp[hlt]⟩,Pv (i+1),λσ' H' p'=>⟨xs.length-(i+1),by lia,rfl,hlt,p'⟩,λx H' y=>?_⟩;obtain⟨e,y⟩:=y;subst e;exact hs i x σ _ (y xs q) p
 .have e:i=xs.length:=by lia
  subst e;exact .inl ⟨⟨xs,q,Aj _⟩,hd σ H p⟩
theorem zgU{K:W.Frag}{a:Addr}{xs:List V}{g:TG}{tb:TS}{D:Ends}{σ : St}{H:Hp}(Pv:Nat -> St -> Hp -> Prop)(h0:Pv 0 σ H)(hl:∀i σ H, i <= xs.length -> Pv i σ H -> SqT K H a xs)
  (hs:∀i x σ H,xs[i]?=some x->Pv i σ H->g x σ H λσ2 H2=>tb { D with nx:=Pv (i+1),ct:=Pv (i+1),bk:=D.nx } σ2 H2) (hd:∀ σ H,Pv xs.length σ H->D.nx σ H) :
  ∃W:Nat->Nat->St->Hp->Prop,(∃m,W 0 m σ H)/\∀i m σ H,W i m σ H ->
   ((Itt K a).stop i H/\D.nx σ H)∨((Itt K a).go i H/\∃N:St->Hp->Prop,(∀ σ' H',N σ' H'->∃m',m'<m/\W (i+1) m' σ' H')/\∀x H',(Itt K a).yld i H x H'->g x σ H' λσ2 H2=>tb { D with nx:=N,ct:=N,bk:=D.nx } σ2 H2):=by
 refine⟨λi m σ H=>m=xs.length-i/\i<=xs.length/\Pv i σ H,⟨xs.length,by simp,Be _,h0⟩,?_⟩;rintro i m σ H ⟨rfl,hi,p⟩;have q:=hl i σ H hi p
 by_cases hlt:i<xs.length
 .refine .inr ⟨⟨xs,xs[i],q,by simp[hlt]⟩,Pv (i+1),λσ' H' p'=>⟨xs.length-(i+1),by lia,rfl,hlt,p'⟩,λx H' y=>?_⟩;obtain⟨e,y⟩:=y;subst e;exact hs i x σ _ (y xs q) p
 .have e:i=xs.length:=by lia
  subst e;exact .inl ⟨⟨xs,q,Aj _⟩,hd σ H p⟩
theorem zbA{lo:Int}{n:Nat}{g:TG}{tb:TS}{D:Ends}{σ : St}{H:Hp}(Pv:Nat -> St -> Hp -> Prop)(h0:Pv 0 σ H)
  (hs:∀i σ H,i<n->Pv i σ H->g (.int (lo+i)) σ H λσ2 H2=>tb { D with nx:=Pv (i+1),ct:=Pv (i+1),bk:=D.nx } σ2 H2) (hd:∀ σ H,Pv n σ H->D.nx σ H) :
  ∃W:Nat->Nat->St->Hp->Prop,(∃m,W 0 m σ H)/\∀i m σ H,W i m σ H ->
   ((Itr lo n).stop i H/\D.nx σ H)∨((Itr lo n).go i H/\∃N:St->Hp->Prop,(∀ σ' H',N σ' H'->∃m',m'<m/\W (i+1) m' σ' H')/\∀x H',(Itr lo n).yld i H x H'->g x σ H' λσ2 H2=>tb { D with nx:=N,ct:=N,bk:=D.nx } σ2 H2):=by
 refine⟨λi m σ H=>m=n-i/\i<=n/\Pv i σ H,⟨n,by simp,Be _,h0⟩,?_⟩;rintro i m σ H ⟨rfl,hi,p⟩
 by_cases hlt:i<n
 .refine .inr ⟨hlt,Pv (i+1),λσ' H' p'=>⟨n-(i+1),by lia,rfl,hlt,p'⟩,λx H' y=>?_⟩;obtain⟨e,y⟩:=y;subst e y;exact hs i σ _ hlt p
 .have e:i=n:=by lia
  subst e;exact .inl ⟨Aj _,hd σ H p⟩
theorem zkc{c:TT}{tb:TS}{D:Ends}{σ : St}{H:Hp}(Pv:St -> Hp -> Prop)(μ : St -> Hp -> Nat)(h0:Pv σ H)
  (hs:∀ σ H,Pv σ H->c σ H λb H1=>if b=true then tb { D with nx:=λσ' H'=>Pv σ' H'/\μ σ' H'<μ σ H,ct:=λσ' H'=>Pv σ' H'/\μ σ' H'<μ σ H,bk:=D.nx } σ H1 else D.nx σ H1)
  (mono:∀ σ H Q Q',(∀b H1,Q b H1->Q' b H1)->c σ H Q->c σ H Q'):zkY c tb D σ H:=by
 refine⟨λm σ H=>m=μ σ H/\Pv σ H,⟨_,rfl,h0⟩,?_⟩;rintro m σ H ⟨rfl,p⟩;refine mono σ H _ _ (λb H1 q=>?_) (hs σ H p)
 cases b with
 |true=>exact⟨_,λσ' H' ⟨p',l⟩=>⟨_,l,rfl,p'⟩,q⟩
 |false=>exact q
noncomputable abbrev R2:=V->V->Hp->VK->Prop
noncomputable def OpR(X:Cx)(f:Value->Value->Sem Value)(r:R2):Prop :=
 ∀(pins:List (Addr×Obj)) (s:Ac) (σ:St) (H:Hp) (x y:V) (v u:Value) (Q:VK),Inv X pins σ H s->RelV x v->RelV y u->r x y H Q ->
  Am (Aw X.prog X.w) X.A (f v u) (EP X pins σ Q) X.xe s
noncomputable def UnR(X:Cx)(f:Value->Sem Value)(r:V->Hp->VK->Prop):Prop :=
 ∀(pins:List (Addr×Obj)) (s:Ac) (σ:St) (H:Hp) (x:V) (v:Value) (Q:VK),Inv X pins σ H s->RelV x v->r x H Q ->
  Am (Aw X.prog X.w) X.A (f v) (EP X pins σ Q) X.xe s
noncomputable def CallR(X:Cx)(f:Value)(r:List V->Hp->VK->Prop):Prop :=
 ∀(pins:List (Addr×Obj)) (s:Ac) (σ:St) (H:Hp) (xs:List V) (us:List Value) (Q:VK),Inv X pins σ H s->Vals xs us->r xs H Q ->
  Am (Aw X.prog X.w) X.A (call f us) (EP X pins σ Q) X.xe s
noncomputable def TruR(X:Cx)(r:V->Hp->(Bool->Hp->Prop)->Prop):Prop :=
 ∀(pins:List (Addr×Obj)) (s:Ac) (σ:St) (H:Hp) (x:V) (v:Value) (Q:Bool->Hp->Prop),Inv X pins σ H s->RelV x v->r x H Q ->
  Am (Aw X.prog X.w) X.A (truthy v) (TP X pins σ Q) X.xe s
noncomputable def tOp(r:R2)(ta tb:TE):TE:=λσ H Q=>ta σ H λx H1=>tb σ H1 λy H2=>r x y H2 Q
noncomputable def tUn(r:V->Hp->VK->Prop)(ta:TE):TE:=λσ H Q=>ta σ H λx H1=>r x H1 Q
noncomputable def rI(C:Int->Int->Prop)(g:Int->Int->V):R2:=λx y H Q=>∃i j,x=.int i/\y=.int j/\C i j/\Q (g i j) H
noncomputable def rI0(g:Int->Int->V):R2:=λx y H Q=>∃i j,x=.int i/\y=.int j/\Q (g i j) H
noncomputable def rU(g:Int->V):V->Hp->VK->Prop:=λx H Q=>∃i,x=.int i/\Q (g i) H
section
variable {X:Cx}{a b c:Expr}{ta tb tc:TE}{pos:Pos}
theorem binT(ha:PE X a ta)(hb:PE X b tb){pins:List (Addr × Obj)}{s:Ac}{σ : St}{H:Hp}{R:V -> V -> Hp -> Prop}(I:Inv X pins σ H s)
  (h:ta σ H λx H1=>tb σ H1 λy H2=>R x y H2) {Q:Value->Ac->Prop} {f:Value->Value->Sem Value}
  (hf:∀v u s2 x y H2,Inv X pins σ H2 s2->RelV x v->RelV y u->R x y H2->Am (Aw X.prog X.w) X.A (f v u) Q X.xe s2) :
  Am (Aw X.prog X.w) X.A (eval a X.env) (λv s₁=>Am (Aw X.prog X.w) X.A (eval b X.env) (λu s₂=>Am (Aw X.prog X.w) X.A (f v u) Q X.xe s₂) X.xe s₁) X.xe s:=by
 refine thn (ha pins s σ H _ I h) λv s1 ⟨x,H1,I1,r1,q1⟩=>?_
 refine thn (hb pins s1 σ H1 _ I1 q1) λu s2 ⟨y,H2,I2,r2,q2⟩=>?_
 exact hf v u s2 x y H2 I2 r1 r2 q2
theorem pe_op{op:Operator}{r:R2}(ho:OpR X (Cb op) r)(ha:PE X a ta)(hb:PE X b tb):PE X (.BinOp a op b pos) (tOp r ta tb):=by intro pins s σ H Q I h;exact wpAny_BinOp (binT ha hb I h λv u s2 x y H2 I2 rx ry q=>ho pins s2 σ H2 x y v u Q I2 rx ry q)
theorem pe_un{op:UnaryOp}{r:V->Hp->VK->Prop}(ho:UnR X (unaryOp op) r)(ha:PE X a ta):PE X (.UnaryOp op a pos) (tUn r ta):=by intro pins s σ H Q I h;exact UnaryOp_ (thn (ha pins s σ H _ I h) λv s1 ⟨x,H1,I1,r1,q1⟩=>ho pins s1 σ H1 x v Q I1 r1 q1)
theorem opI{f:Value -> Value -> Sem Value}{C:Int -> Int -> Prop}{g:Int -> Int -> Int}
  (rule:∀(i j:Int) (t u:Tok) (s:Ac) (Q:Value->Ac->Prop) (E:Value->Ac->Prop),C i j->Q (.int (g i j) s.toks) { s with toks:=s.toks+1 }->Am (Aw X.prog X.w) X.A (f (.int i t) (.int j u)) Q E s) :
  OpR X f (rI C λi j=>.int (g i j)):=by
 intro pins s σ H x y v u Q I rx ry h;obtain⟨i,j,rfl,rfl,hc,q⟩:=h;obtain⟨t,rfl⟩:=rx;obtain⟨t',rfl⟩:=ry;exact rule i j t t' s _ _ hc ⟨.int (g i j),H,I.tok _,⟨_,rfl⟩,q⟩
theorem opI0{f:Value -> Value -> Sem Value}{g:Int -> Int -> Int}
  (rule:∀(i j:Int) (t u:Tok) (s:Ac) (Q:Value->Ac->Prop) (E:Value->Ac->Prop),Q (.int (g i j) s.toks) { s with toks:=s.toks+1 }->Am (Aw X.prog X.w) X.A (f (.int i t) (.int j u)) Q E s) :
  OpR X f (rI0 λi j=>.int (g i j)):=by
 intro pins s σ H x y v u Q I rx ry h;obtain⟨i,j,rfl,rfl,q⟩:=h;obtain⟨t,rfl⟩:=rx;obtain⟨t',rfl⟩:=ry;exact rule i j t t' s _ _ ⟨.int (g i j),H,I.tok _,⟨_,rfl⟩,q⟩
theorem opB0{f:Value -> Value -> Sem Value}{g:Int -> Int -> Bool}
  (rule:∀(i j:Int) (t u:Tok) (s:Ac) (Q:Value->Ac->Prop) (E:Value->Ac->Prop),Q (.bool (g i j)) s->Am (Aw X.prog X.w) X.A (f (.int i t) (.int j u)) Q E s) :
  OpR X f (rI0 λi j=>.bl (g i j)):=by
 intro pins s σ H x y v u Q I rx ry h;obtain⟨i,j,rfl,rfl,q⟩:=h;obtain⟨t,rfl⟩:=rx;obtain⟨t',rfl⟩:=ry;exact rule i j t t' s _ _ ⟨.bl (g i j),H,I,rfl,q⟩
noncomputable def CDiv(i j:Int):Prop:=0<j/\j<1073741824
noncomputable def CPow(i j:Int):Prop:=0<=j/\j<=1000000/\i.natAbs<2 ^ 64
noncomputable def CMul(i j:Int):Prop:=(-(2 ^ 64)<i/\i<2 ^ 64)∨(-(2 ^ 64)<j/\j<2 ^ 64)
theorem CMul.ok{i j:Int}(h:CMul i j):IntMulOk i j:=by
 rcases h with⟨h1,h2⟩ |⟨h1,h2⟩
 .exact .of_left (intBits_le_64 h1 h2)
 .exact .of_right (intBits_le_64 h1 h2)
theorem zaw:OpR X (Cb .Add) (rI0 λi j=>.int (i+j)):=opI0 λ_ _ _ _ _ _ _ q=>add_int q
theorem zb6:OpR X (Cb .Sub) (rI0 λi j=>.int (i-j)):=opI0 λ_ _ _ _ _ _ _ q=>sub_int q
theorem zbD:OpR X (Cb .Mult) (rI CMul λi j=>.int (i*j)):=opI λ_ _ _ _ _ _ _ hc q=>mul_int q hc.ok
theorem zcM:OpR X (Cb .FloorDiv) (rI CDiv λi j=>.int (i / j)):=opI λi j _ _ _ _ _ hc q=>by have h1:(0:Int)<j:=hc.1;have h2:j<1073741824:=hc.2;exact floordiv_int (by lia) (by rw[Int.fdiv_eq_ediv_of_nonneg i (by lia)];exact q) (.inl (PyProof.noPylong_small (by lia)))
theorem zat:OpR X (Cb .Mod) (rI (λ_ j=>0<j) λi j=>.int (i % j)):=opI λi j _ _ _ _ _ hc q=>by have h1:(0:Int)<j:=hc;exact mod_int' (by lia) (by rw[Int.fmod_eq_emod_of_nonneg i (by lia)];exact q)
theorem zji:OpR X (Cb .Pow) (rI CPow λi j=>.int (i ^ j.toNat)):=opI λ_ _ _ _ _ _ _ hc q=>pow_int_small hc.1 hc.2.1 hc.2.2 q
theorem unI{f:Value -> Sem Value}{g:Int -> Int}
  (rule:∀(i:Int) (t:Tok) (s:Ac) (Q:Value->Ac->Prop) (E:Value->Ac->Prop),Q (.int (g i) s.toks) { s with toks:=s.toks+1 }->Am (Aw X.prog X.w) X.A (f (.int i t)) Q E s) :
  UnR X f (rU λi=>.int (g i)):=by
 intro pins s σ H x v Q I rx h;obtain⟨i,rfl,q⟩:=h;obtain⟨t,rfl⟩:=rx;exact rule i t s _ _ ⟨.int (g i),H,I.tok _,⟨_,rfl⟩,q⟩
theorem zb9:UnR X (unaryOp .USub) (rU λi=>.int (-i)):=unI λ_ _ _ _ _ q=>neg_int q
end
noncomputable def scal:V->V->Bool
 |.non,.non=>true |.non,.int _=>true |.int _,.non=>true |.non,.bl _=>true |.bl _,.non=>true |.non,.str _=>true |.str _,.non=>true
 |.int _,.int _=>true |.bl _,.bl _=>true |.str _,.str _=>true |.byt _,.byt _=>true
 |.int _,.str _=>true |.str _,.int _=>true |.bl _,.str _=>true |.str _,.bl _=>true
 |_,_=>false
noncomputable def rEq:R2:=λx y H Q=>scal x y=true/\Q (.bl (decide (x=y))) H
noncomputable def rNe:R2:=λx y H Q=>scal x y=true/\Q (.bl (!decide (x=y))) H
theorem zjW{i j:Int}:decide (V.int i=V.int j)=(i == j):=by rw[DV];simp
theorem zlm{i j:Bool}:decide (V.bl i=V.bl j)=(i == j):=by rw[DV];simp
theorem zjV{i j:Str}:decide (V.str i=V.str j)=(i == j):=by rw[DV];simp
theorem zjX{i j:Array UInt8}:decide (V.byt i=V.byt j)=(i.toList == j.toList):=by
 rw[DV]
 cases i
 cases j
 simp
section
variable {X:Cx}{a b c:Expr}{ta tb tc:TE}{pos:Pos}
theorem zaD{pins:List (Addr×Obj)}{σ:St}{H:Hp}{s:Ac}{Q:VK}{k k':Bool}(I:Inv X pins σ H s)(q:Q (.bl k) H)(e:k=k'):EP X pins σ Q (.bool k') s:=by subst e;exact⟨.bl k,H,I,rfl,q⟩
theorem op_eq:OpR X (BD .Eq) rEq:=by
 intro pins s σ H x y v u Q I rx ry h;obtain⟨hs,q⟩:=h
 cases x with
 |non =>
  cases rx
  cases y with
  |non=>cases ry;exact PySem.EqNone.eq_none_none (zaD I q (by simp))
  |bl j=>cases ry;exact PySem.EqNone.eq_none_bool (zaD I q (by simp))
  |int j=>obtain⟨t',rfl⟩:=ry;exact PySem.EqNone.eq_none_int (zaD I q (by simp))
  |str j=>obtain⟨t',rfl⟩:=ry;exact PySem.EqNone.eq_none_str (zaD I q (by simp))
  |_=>exact absurd (show false=true from hs) AT
 |bl i =>
  cases rx
  cases y with
  |non=>cases ry;exact PySem.EqNone.eq_bool_none (zaD I q (by simp))
  |bl j=>cases ry;exact eq_bool (zaD I q zlm)
  |str j=>obtain⟨t',rfl⟩:=ry;exact PySem.EqMixed.eq_bool_str (zaD I q (by simp))
  |_=>exact absurd (show false=true from hs) AT
 |int i =>
  obtain⟨t,rfl⟩:=rx
  cases y with
  |non=>cases ry;exact PySem.EqNone.eq_int_none (zaD I q (by simp))
  |int j=>obtain⟨t',rfl⟩:=ry;exact eq_int (zaD I q zjW)
  |str j=>obtain⟨t',rfl⟩:=ry;exact PySem.EqMixed.eq_int_str (zaD I q (by simp))
  |_=>exact absurd (show false=true from hs) AT
 |str i =>
  obtain⟨t,rfl⟩:=rx
  cases y with
  |non=>cases ry;exact PySem.EqNone.eq_str_none (zaD I q (by simp))
  |bl j=>cases ry;exact PySem.EqMixed.eq_str_bool (zaD I q (by simp))
  |int j=>obtain⟨t',rfl⟩:=ry;exact PySem.EqMixed.eq_str_int (zaD I q (by simp))
  |str j=>obtain⟨t',rfl⟩:=ry;exact eq_str (zaD I q zjV)
  |_=>exact absurd (show false=true from hs) AT
 |byt i =>
  obtain⟨t,rfl⟩:=rx
  cases y with
  |byt j=>obtain⟨t',rfl⟩:=ry;exact W.eq_bytes (zaD I q zjX)
  |_=>exact absurd (show false=true from hs) AT
 |_=>cases y <;> exact absurd (show false=true from hs) AT
theorem op_ne:OpR X (BD .NotEq) rNe:=by
 intro pins s σ H x y v u Q I rx ry h;obtain⟨hs,q⟩:=h
 cases x with
 |non =>
  cases rx
  cases y with
  |non=>cases ry;exact PySem.EqNone.ne_none_none (zaD I q (by simp))
  |bl j=>cases ry;exact PySem.EqNone.ne_none_bool (zaD I q (by simp))
  |int j=>obtain⟨t',rfl⟩:=ry;exact PySem.EqNone.ne_none_int (zaD I q (by simp))
  |str j=>obtain⟨t',rfl⟩:=ry;exact PySem.EqNone.ne_none_str (zaD I q (by simp))
  |_=>exact absurd (show false=true from hs) AT
 |bl i =>
  cases rx
  cases y with
  |non=>cases ry;exact PySem.EqNone.ne_bool_none (zaD I q (by simp))
  |bl j=>cases ry;exact ne_bool (zaD I q (congrArg not zlm))
  |str j=>obtain⟨t',rfl⟩:=ry;exact PySem.EqMixed.ne_bool_str (zaD I q (by simp))
  |_=>exact absurd (show false=true from hs) AT
 |int i =>
  obtain⟨t,rfl⟩:=rx
  cases y with
  |non=>cases ry;exact PySem.EqNone.ne_int_none (zaD I q (by simp))
  |int j=>obtain⟨t',rfl⟩:=ry;exact ne_int (zaD I q (congrArg not zjW))
  |str j=>obtain⟨t',rfl⟩:=ry;exact PySem.EqMixed.ne_int_str (zaD I q (by simp))
  |_=>exact absurd (show false=true from hs) AT
 |str i =>
  obtain⟨t,rfl⟩:=rx
  cases y with
  |non=>cases ry;exact PySem.EqNone.ne_str_none (zaD I q (by simp))
  |bl j=>cases ry;exact PySem.EqMixed.ne_str_bool (zaD I q (by simp))
  |int j=>obtain⟨t',rfl⟩:=ry;exact PySem.EqMixed.ne_str_int (zaD I q (by simp))
  |str j=>obtain⟨t',rfl⟩:=ry;exact ne_str (zaD I q (congrArg not zjV))
  |_=>exact absurd (show false=true from hs) AT
 |byt i =>
  obtain⟨t,rfl⟩:=rx
  cases y with
  |byt j=>obtain⟨t',rfl⟩:=ry;exact W.ne_bytes (zaD I q (congrArg not zjX))
  |_=>exact absurd (show false=true from hs) AT
 |_=>cases y <;> exact absurd (show false=true from hs) AT
theorem op_lt:OpR X (BD .Lt) (rI0 λi j=>.bl (decide (i<j))):=opB0 λ_ _ _ _ _ _ _ q=>lt_int q
theorem op_le:OpR X (BD .LtE) (rI0 λi j=>.bl (decide (i<=j))):=opB0 λ_ _ _ _ _ _ _ q=>le_int q
theorem op_gt:OpR X (BD .Gt) (rI0 λi j=>.bl (decide (j<i))):=opB0 λ_ _ _ _ _ _ _ q=>gt_int q
theorem op_ge:OpR X (BD .GtE) (rI0 λi j=>.bl (decide (j<=i))):=opB0 λ_ _ _ _ _ _ _ q=>ge_int q
theorem zjl:OpR X (BD .Is) (λx y H Q=>y=.non/\Q (.bl (decide (x=.non))) H):=by
 intro pins s σ H x y v u Q I rx ry h;obtain⟨rfl,q⟩:=h
 cases ry
 refine is_none_gen (zaD I q ?_)
 cases x <;> first
  | (cases rx;rfl)
  | (obtain⟨t,rfl⟩:=rx;rfl)
theorem zdT:OpR X (BD .IsNot) (λx y H Q=>y=.non/\Q (.bl (!decide (x=.non))) H):=by
 intro pins s σ H x y v u Q I rx ry h;obtain⟨rfl,q⟩:=h
 cases ry
 refine isnot_none_gen (zaD I q ?_)
 cases x <;> first
  | (cases rx;rfl)
  | (obtain⟨t,rfl⟩:=rx;rfl)
theorem zaz(b:Expr){op:CmpOp}(h:op≠.In:=by decide)(h2:op≠.NotIn:=by decide):DN op b=false:=by
 have e1:(op == CmpOp.In)=false:=by cases op <;> first |rfl |exact absurd rfl h
 have e2:(op == CmpOp.NotIn)=false:=by cases op <;> first |rfl |exact absurd rfl h2
 cases b <;> simp[DN,e1,e2]
theorem zbW{op:CmpOp}{r:R2}(ho:OpR X (BD op) r)(ha:PE X a ta)(hb:PE X b tb)(hm:DN op b=false):PE X (.Compare a [op] [b] pos) (tOp r ta tb):=by intro pins s σ H Q I h;exact wpAny_Compare1 (binT ha hb I h λv u s2 x y H2 I2 rx ry q=>ho pins s2 σ H2 x y v u Q I2 rx ry q) hm
noncomputable def tTest(t:TE):TT:=λσ H Q=>t σ H λx H'=>∃k,x=.bl k/\Q k H'
theorem zay{op:CmpOp}{r:R2}(ho:OpR X (BD op) r)(ha:PE X a ta)(hb:PE X b tb)(hm:DN op b=false):PT X (.Compare a [op] [b] pos) (tTest (tOp r ta tb)):=by
 intro pins s σ H Q I h
 refine wpAny_isTrue_Compare1 (thn (ha pins s σ H _ I h) λv s1 ⟨x,H1,I1,r1,q1⟩=>thn (hb pins s1 σ H1 _ I1 q1) λu s2 ⟨y,H2,I2,r2,q2⟩ =>
  thn (ho pins s2 σ H2 x y v u _ I2 r1 r2 q2) λc s3 ⟨z,H3,I3,r3,k,e,q3⟩=>?_) hm
 subst e
 cases r3
 exact BG ⟨H3,I3,q3⟩
noncomputable def zmm(r r':R2)(ta tb tc:TE):TE:=λσ H Q=>ta σ H λx H1=>tb σ H1 λy H2=>r x y H2 λz H3=>∃k,z=.bl k /\
 (if k=true then tc σ H3 λw' H4=>r' y w' H4 Q else Q (.bl false) H3)
theorem zku{op op':CmpOp}{r r':R2}(ho:OpR X (BD op) r)(ho':OpR X (BD op') r')(ha:PE X a ta)(hb:PE X b tb)(hc:PE X c tc)
  (hm:lastMarks [op,op'] [b,c]=false:=by with_unfolding_all rfl):PE X (.Compare a [op,op'] [b,c] pos) (zmm r r' ta tb tc):=by
 intro pins s σ H Q I h
 refine Compare_chain (thn (ha pins s σ H _ I h) λv s1 ⟨x,H1,I1,r1,q1⟩=>chain_link (thn (hb pins s1 σ H1 _ I1 q1) λu s2 ⟨y,H2,I2,r2,q2⟩ =>
  thn (ho pins s2 σ H2 x y v u _ I2 r1 r2 q2) λd s3 ⟨z,H3,I3,r3,k,e,q3⟩=>?_)) hm
 subst e
 cases r3
 refine BG ?_
 cases k with
 |false=>exact ite_ff ⟨.bl false,H3,I3,rfl,q3⟩
 |true=>exact ite_tt (chain_last (thn (hc pins s3 σ H3 _ I3 q3) λw' s4 ⟨z',H4,I4,r4,q4⟩=>ho' pins s4 σ H4 y z' u w' Q I4 r2 r4 q4))
noncomputable def TruV(K:W.Frag)(x:V)(H:Hp)(k:Bool):Prop :=
 match x with
 |.non=>k=false
 |.bl b=>k=b
 |.int i=>k=(i != 0)
 |.str y=>y.length<=sizeLine/\k=((y.length:Int) != 0)
 |.byt y=>y.size<=sizeLine/\k=((y.size:Int) != 0)
 |.ref p=>(∃xs,SqL K H p xs/\k=!xs.isEmpty)∨(∃xs,SqT K H p xs/\k=!xs.isEmpty)∨∃kvs,H p=some (.dK kvs)/\k=!kvs.isEmpty
 |_=>False
theorem zib{κ:Type}{kvs:List (κ×V)}{vs:List (κ×Value)}(r:KV kvs vs):(!vs.isEmpty)=!kvs.isEmpty:=by
 cases r <;> rfl
theorem zeE{xs:List V}{its:List Value}(r:Vals xs its):(!its.toArray.isEmpty)=!xs.isEmpty:=by
 cases r <;> simp
theorem zhu:(sizeLine:Nat)<2 ^ 63:=by rw[D5];decide
theorem zmg:TruR X (λx H Q=>∃k,TruV X.K x H k/\Q k H):=by
 intro pins s σ H x v Q I rx h;obtain⟨k,e,q⟩:=h;have hl:=zhu;have hs:sizeLine=16777216:=D5
 cases x with
 |non =>
  cases rx
  have e':k=false:=e;subst e';exact truthy_none ⟨H,I,q⟩
 |bl b =>
  cases rx
  have e':k=b:=e;subst e';exact BG ⟨H,I,q⟩
 |int i =>
  obtain⟨t,rfl⟩:=rx;have e':k=(i != 0):=e;subst e';exact PySem.P.truthy_int ⟨H,I,q⟩
 |str y =>
  obtain⟨t,rfl⟩:=rx;obtain⟨hy,e'⟩:y.length<=sizeLine/\k=((y.length:Int) != 0):=e;subst e';exact PySem.P.truthy_str (by lia) ⟨H,I.tok _,q⟩
 |byt y =>
  obtain⟨t,rfl⟩:=rx;obtain⟨hy,e'⟩:y.size<=sizeLine/\k=((y.size:Int) != 0):=e;subst e';exact W.truthy_bytes (by lia) ⟨H,I.tok _,q⟩
 |ref p =>
  cases rx
  have e':(∃xs,SqL X.K H p xs/\k=!xs.isEmpty)∨(∃xs,SqT X.K H p xs/\k=!xs.isEmpty)∨∃kvs,H p=some (.dK kvs)/\k=!kvs.isEmpty:=e;rcases e' with⟨xs,hx,e'⟩ |⟨xs,hx,e'⟩ |⟨kvs,hx,e'⟩
  .subst e';obtain⟨its,r,pl,hz⟩:=I.list hx;have hlen:=r.length;exact wpAny_truthy_list pl.isList (by simp only[As];lia) ⟨H,I.tok _,by rw[zeE r];exact q⟩
  .subst e';obtain⟨its,r,pl,hz⟩:=I.tuple hx;have hlen:=r.length;exact truthy_tuple pl (by simp only[As];lia) ⟨H,I.tok _,by rw[zeE r];exact q⟩
  .subst e';obtain⟨hz,hS,vs,r,m⟩:kvs.length<=sizeLine/\(p == BS)=false/\∃vs,KV kvs vs/\s.heap.DictOf (zaA X.prog X.w) p vs:=I.hok p _ hx;have hlen:kvs.length=vs.length:=CV r;exact wpAny_truthy_dict hS m (by lia) ⟨H,I.tok _,by rw[zib r];exact q⟩
 |_=>exact (show False from e).elim
theorem zhi(ha:PE X a ta)(he:∀whole, isTrue a X.env whole=(do let v <- whole; standAt a.pos; holding [v] (truthy v))) :
  PT X a (λσ H Q=>ta σ H λx H'=>∃k,TruV X.K x H' k/\Q k H'):=by
 intro pins s σ H Q I h;exact isTrue_plain (thn (ha pins s σ H _ I h) λv s1 ⟨x,H1,I1,r1,q1⟩=>zmg pins s1 σ H1 x v Q I1 r1 q1) (he _)
theorem vals1{x:V}{us:List Value}(r:Vals [x] us):∃u,us=[u]/\RelV x u:=by
 cases r with
 |cons r1 r2=>cases r2;exact⟨_,rfl,r1⟩
theorem vals2{x y:V}{us:List Value}(r:Vals [x,y] us):∃u w',us=[u,w']/\RelV x u/\RelV y w':=by
 cases r with
 |cons r1 r2 =>
  cases r2 with
  |cons r3 r4=>cases r4;exact⟨_,_,rfl,r1,r3⟩
theorem zed:CallR X (.type "int") (λxs H Q=>(∃i,xs=[.int i]/\Q (.int i) H)∨∃k,xs=[.bl k]/\Q (.int (if k then 1 else 0)) H):=by
 intro pins s σ H xs us Q I r h;rcases h with⟨i,rfl,q⟩ |⟨k,rfl,q⟩
 .obtain⟨u,rfl,t,rfl⟩:=vals1 r;exact call_int_int ⟨.int i,H,I,⟨_,rfl⟩,q⟩
 .obtain⟨u,rfl,r1⟩:=vals1 r
  cases r1
  exact call_int_bool ⟨.int (if k then 1 else 0),H,I.tok _,⟨_,rfl⟩,q⟩
end
structure ObjM (h:Heap) (x dx C:Addr) (mA:Str->Option Value):Prop where
 obj:h.get? x=some (W.instObj C dx)
 ns:h.Ns1 dx mA
 ne:dx≠x
theorem zfZ{h:Heap}{dx:Addr}{mA:Str->Option Value}(n:h.Ns1 dx mA):∃od,h.get? dx=some od/\∀name,W.lookIn name od=some (mA name):=by
 obtain⟨o,es,ep,ho,hd,hk,_,hm⟩:=n;refine⟨o,ho,λname=>?_⟩;have e:=hm name;unfold nsFind findBy at e;rw[<- Array.find?_toList]at e;unfold W.lookIn;rw[hd];dsimp only;split
 .rename_i y q
  rw[q]at e;exact congrArg some e
 .rename_i q
  rw[q]at e
  have a:es.toList.any (·.refKey)=false:=by rw[List.any_eq_false];intro y hy;obtain⟨z,t,hkey⟩:=hk y (Array.mem_toList_iff.mp hy);simp[DictEntry.refKey,hkey]
  have a':¬ es.toList.any (·.refKey)=true:=by rw[a];exact AT
  rw[if_neg a'];exact congrArg some e
theorem ObjM.look{h:Heap}{x dx C:Addr}{mA:Str->Option Value}(I:ObjM h x dx C mA):∃od,W.InstAt h x (W.instObj C dx) C (some od)/\∀name,W.lookIn name od=some (mA name) :=
 let ⟨od,ho,hl⟩:=zfZ I.ns
 ⟨od,⟨I.obj,rfl,rfl,ho⟩,hl⟩
section
variable {prog:AB}{w:AV}{A:AF}{E:Value->Ac->Prop}{s:Ac}{K:W.Frag}{x dx C f:Addr}{mA:Str->Option Value}{name:Str}{v:Value}
end
noncomputable def putF(f:Str)(v:V):List (Str×V)->List (Str×V)
 |[]=>[(f,v)]
 | (g,x)::r=>if g=f then (g,v)::r else (g,x)::putF f v r
theorem zd1(f g:Str)(v:V):∀fs:List (Str×V),(putF f v fs).lookup g=if g=f then some v else fs.lookup g
 |[]=>by
  show Cz g [(f,v)]=_
  by_cases h:g=f
  .have hb:(g == f)=true:=beq_iff_eq.mpr h;simp only[Cz,hb,if_pos h]
  .have hb:(g == f)=false:=beq_eq_false_iff_ne.mpr h;simp only[Cz,hb,if_neg h]
 | (k,x)::r=>by
  have ih:=zd1 f g v r;rw[show putF f v ((k,x)::r)=(if k=f then (k,v)::r else (k,x)::putF f v r) from rfl]
  by_cases hk:k=f
  .rw[if_pos hk]
   by_cases h:g=k
   .have hb:(g == k)=true:=beq_iff_eq.mpr h;simp only[Cz,hb,if_pos (h.trans hk)]
   .have hb:(g == k)=false:=beq_eq_false_iff_ne.mpr h;simp only[Cz,hb,if_neg (λe:g=f=>h (e.trans hk.symm))]
  .rw[if_neg hk]
   by_cases h:g=k
   .have hb:(g == k)=true:=beq_iff_eq.mpr h;simp only[Cz,hb,if_neg (λe:g=f=>hk (h.symm.trans e))]
   .have hb:(g == k)=false:=beq_eq_false_iff_ne.mpr h;simp only[Cz,hb];exact ih
theorem zd3(f:Str)(v:V):∀fs:List (Str×V),f∈(putF f v fs).map (·.1)/\∀g,g∈fs.map (·.1)->g∈(putF f v fs).map (·.1)
 |[]=>⟨by simp[putF],λg h=>by simp at h⟩
 | (k,x)::r=>by
  obtain⟨i1,i2⟩:=zd3 f v r;rw[show putF f v ((k,x)::r)=(if k=f then (k,v)::r else (k,x)::putF f v r) from rfl]
  by_cases hk:k=f
  .rw[if_pos hk];subst hk;exact⟨by simp,λg h=>by simpa using h⟩
  .rw[if_neg hk];refine⟨?_,λg h=>?_⟩
   .rw[AR];exact Ar _ i1
   .rw[AR]at h ⊢;rcases At.mp h with e |e
    .exact List.mem_cons.mpr (.inl e)
    .exact Ar _ (i2 g e)
section
variable {P:AB}{w:AV}{H H':Hp}{h h':Heap}{a C dx:Addr}{fs fs':List (Str×V)}
theorem zl1(hok:HOk P w H h)(e:H a=some (.ins C dx fs)):∃mA,ObjM h a dx C mA/\(∀f,RelO (fs.lookup f) (mA f))/\PySem.Within mA (fs.map (·.1))/\fs.length<=1000/\H dx=some (.own a):=by obtain⟨d,z,ne,ob,mA,n,r,q⟩:=(show ObjOk P w H h a (.ins C dx fs) from hok a _ e);exact⟨mA,⟨ob,n,ne⟩,r,q,z,d⟩
end
structure Cls (K:W.Frag) (C:Addr):Prop where
 pg:W.plainGet K C Str.empty=true
 hd:W.hasDictIn K C=true
 po:W.plainOver K C=true
 sa:Cs K (.ref C) "__setattr__" = some (some (.builtin "object.__setattr__"))
theorem Cls.get{K:W.Frag}{C:Addr}(c:Cls K C)(f:Str):W.plainGet K C f=true:=c.pg
noncomputable def zhP(K:W.Frag)(C:Addr)(f:Str):Prop:=Cs K (.ref C) f=some none
structure Con (K:W.Frag) (C:Addr) (f:Str) (v:V) (u:Value):Prop where
 at_:Cs K (.ref C) f=some (some u)
 rel:RelV v u
 get:W.specialIn K u "__get__" = some none
 cp:W.copiedNames.contains f=false
structure Meth (K:W.Frag) (C:Addr) (m:Str) (f:Addr):Prop where
 at_:Cs K (.ref C) m=some (some (.ref f))
 fn:W.isFn K (.ref f)=true
 kp:C3 K (.ref f)=true
section
variable {X:Cx}{pins:List (Addr×Obj)}{σ:St}{H:Hp}{s:Ac}{a C dx:Addr}{fs:List (Str×V)}{f:Str}{v:V}{A:AF}{E:Value->Ac->Prop}
end
section
variable {X:Cx}{o e value:Expr}{f:Str}{pos pos' tpos:Pos}{ta tv:TE}
end
section
variable {X:Cx}{pins:List (Addr×Obj)}{σ:St}{H:Hp}{s:Ac}{A:AF}{E:Value->Ac->Prop}{Q:Value->Ac->Prop}{c:Value}{b:Bool}
inductive TyOf (K:W.Frag) (H:Hp):V->Value->Prop where
  |non:TyOf K H .non (.type "NoneType")
  |bl (x:Bool):TyOf K H (.bl x) (.type "bool")
  |int (i:Int):TyOf K H (.int i) (.type "int")
  |str (x:Str):TyOf K H (.str x) (.type "str")
  |flt (x:UInt64):TyOf K H (.flt x) (.type "float")
  |lst {a:Addr} {xs:List V} (e:H a=some (.lst xs)):TyOf K H (.ref a) (.type "list")
  |frz {a:Addr} {o:Obj} {xs:List V} (e:H a=some (.frz o (.lst xs))):TyOf K H (.ref a) (.type "list")
  |tup {a:Addr} {xs:List V} (e:H a=some (.tup xs)):TyOf K H (.ref a) (.type "tuple")
  |dK {a:Addr} {kvs:List (Key×V)} (e:H a=some (.dK kvs)):TyOf K H (.ref a) (.type "dict")
  |dT {a:Addr} {kvs:List (List Key×V)} (e:H a=some (.dT kvs)):TyOf K H (.ref a) (.type "dict")
  |ins {a C dx:Addr} {fs:List (Str × V)} (e:H a=some (.ins C dx fs)) (cl:Cls K C) (ha:Cs K (.ref C) "__class__" = some (some (.builtin "object.__class__")))
      (hn:W.specialIn K (.builtin "object.__class__") "__get__" = some (some (.builtin "getset_descriptor.__get__"))) (htk:W.takesIn K (.builtin "object.__class__")=some true)
      (hm:W.mroIn K C (.type "object")=some true):TyOf K H (.ref a) (.ref C)
theorem zjH{x:V}{u t:Value}(I:Inv X pins σ H s)(rx:RelV x u)(ty:TyOf X.K H x t)(e:W.kitOne X.K t c=some b)(h:∀tk, Q (.bool b) { s with toks := tk }) :
  Am (Aw X.prog X.w) A (call (.builtin "isinstance") [u,c]) Q E s:=by
 cases ty with
 |non=>cases (show u=Value.none from rx);exact Do W.kitx_none I.kIn BX e (λz=>nomatch z) h
 |bl y=>cases (show u=Value.bool y from rx);exact Do W.kitx_bool I.kIn BX e (λz=>nomatch z) h
 |int i=>obtain⟨t,q⟩:=(show ∃t,u=Dm i t from rx);cases q;exact Do W.kitx_int I.kIn BX e (λz=>nomatch z) h
 |str y=>obtain⟨t,q⟩:=(show ∃t,u=Value.str y t from rx);cases q;exact Do W.kitx_str I.kIn BX e (λz=>nomatch z) h
 |flt y=>obtain⟨t,q⟩:=(show ∃t,u=Value.float y t from rx);cases q;exact Do W.kitx_float I.kIn BX e (λz=>nomatch z) h
 |@lst a xs ea =>
  cases (show u=Ao a from rx)
  obtain⟨_,_,n,_,h1⟩:=(show ObjOk X.prog X.w H s.heap a (.lst xs) from I.hok a _ ea);exact Do W.kitx_list I.kIn ⟨_,h1,rfl⟩ e (λz=>nomatch z) h
 |@frz a ob xs ea =>
  cases (show u=Ao a from rx)
  obtain⟨_,_,_,n,_,h1⟩:=(show ObjOk X.prog X.w H s.heap a (.frz ob (.lst xs)) from I.hok a _ ea);exact Do W.kitx_list I.kIn ⟨_,h1,rfl⟩ e (λz=>nomatch z) h
 |@tup a xs ea =>
  cases (show u=Ao a from rx)
  obtain⟨_,_,_,p⟩:=(show ObjOk X.prog X.w H s.heap a (.tup xs) from I.hok a _ ea);obtain⟨o,h1,h2,_⟩:=p;exact Do W.kitx_tuple I.kIn ⟨o,h1,h2⟩ e (λz=>nomatch z) h
 |@dK a kvs ea =>
  cases (show u=Ao a from rx)
  obtain⟨_,_,vs,_,p⟩:=(show ObjOk X.prog X.w H s.heap a (.dK kvs) from I.hok a _ ea);obtain⟨o,es,ep,h1,h2,_⟩:=p;exact Do W.kitx_dict I.kIn ⟨o,h1,h2.1⟩ e (λz=>nomatch z) h
 |@dT a kvs ea =>
  cases (show u=Ao a from rx)
  obtain⟨_,_,xs,_,o,es,ep,h1,h2,_⟩:=(show ObjOk X.prog X.w H s.heap a (.dT kvs) from I.hok a _ ea);exact Do W.kitx_dict I.kIn ⟨o,h1,h2.1⟩ e (λz=>nomatch z) h
 |@ins a C dx fs ea cl ha hn htk hm =>
  cases (show u=Ao a from rx)
  obtain⟨mA,O,_⟩:=zl1 I.hok ea;obtain⟨od,J,_⟩:=O.look;exact Do (W.kitx_own (cl.get _) cl.hd ha hn htk hm) I.kIn J e (λz=>nomatch z) h
end
structure Room (k:Nat) (A:AF):Prop where
 hd:A.handled=none
 dp:A.depth+3*k+5<recursionLimit
 un:A.units+16*k+200<cLine
 gd:A.guards=some []
theorem Room.mono{j k:Nat}{A:AF}(r:Room k A)(h:j<=k):Room j A:=⟨r.hd,by have:=r.dp;lia,by have:=r.un;lia,r.gd⟩
theorem Room.deeper{k:Nat}{A:AF}(r:Room (k+1) A)(env:Env):Room k (A.deeper env) :=
 ⟨r.hd,by have:=r.dp;show A.depth+1+3*k+5<_;lia,by have:=r.un;show A.units+3+16*k+200<_;lia,r.gd⟩
theorem Room.in1{k:Nat}{A:AF}(r:Room (k+1) A):Room k A.in1 :=
 ⟨r.hd,by have:=r.dp;show A.depth+3*k+5<_;lia,by have:=r.un;show A.units+1+16*k+200<_;lia,r.gd⟩
theorem zh9 {A:AF}{C:Addr}{us:List Value}{kw:List (Str×Value)}:(A.under (.builtin "type.__call__" ⟨.ref C::us,kw⟩)).depth=A.depth+1:=by
 first |rfl |simp[Around.under,Code.weight,Code.isCreation,Code.isGuard,Code.isCaller,Code.frames,Code.isFrame,guardIds]
theorem zh8 {A:AF}{C:Addr}{us:List Value}{kw:List (Str×Value)}:(A.under (.builtin "type.__call__" ⟨.ref C::us,kw⟩)).units=A.units+1:=by
 first |rfl |simp[Around.under,Code.cUnits,Code.frames,Code.isFrame]
theorem Room.make {k:Nat}{A:AF}(r:Room (k+1) A) (C:Addr) (us:List Value) (kw:List (Str×Value)):Room k (A.under (.builtin "type.__call__" ⟨.ref C::us,kw⟩)) :=
 ⟨r.hd,by have:=r.dp;rw[zh9];lia,by have:=r.un;rw[zh8];lia,by have:=r.gd;first |exact this | (simp[Around.under,Code.guards,Code.isGuard,guardIds,pushGuards,this])⟩
theorem Room.depth{k:Nat}{A:AF}(r:Room k A):A.depth<recursionLimit:=by have:=r.dp;lia
theorem Room.units{k:Nat}{A:AF}(r:Room k A):A.units+64<cLine:=by have:=r.un;lia
noncomputable def tNil:TA:=λ_ H Q=>Q [] H
noncomputable def tCons(ta:TE)(tr:TA):TA:=λσ H Q=>ta σ H λx H1=>tr σ H1 λxs H2=>Q (x::xs) H2
section
variable {X:Cx}{e:Expr}{es:List Expr}{te:TE}{t:TA}{pos:Pos}
theorem zab:PA X [] tNil:=λ_ _ _ _ H Q I h=>Calls.spliced_nil ⟨[],H,I,.nil,h⟩
theorem zah(ha:PE X e te)(hr:PA X es t)(hs:A5 (e::es) X.env=(false,eval e X.env)::A5 es X.env:=by rfl):PA X (e::es) (tCons te t):=by intro pos pins s σ H Q I h;rw[hs];show Am _ _ (spliced ((false,eval e X.env)::DK pos (A5 es X.env))) _ _ s;refine Calls.spliced_cons (thn (ha pins s σ H _ I h) λu s1 ⟨x,H1,I1,r1,q1⟩=>?_);exact thn (hr pos pins s1 σ H1 _ I1 q1) λus s2 ⟨xs,H2,I2,r2,q2⟩=>⟨x::xs,H2,I2,.cons r1 r2,q2⟩
noncomputable def tTup(t:TA):TE:=λσ H Q=>t σ H λxs H1=>xs.length<=sizeLine/\∀p,H1 p=none->Q (.ref p) (upd H1 p (.tup xs))
noncomputable def tLst(t:TA):TE:=λσ H Q=>t σ H λxs H1=>xs.length<=sizeLine/\∀p,H1 p=none->Q (.ref p) (upd H1 p (.lst xs))
theorem zan{x1}(h:PA X es t):PE X (.Tuple es x1 pos) (tTup t):=by intro pins s σ H Q I hq;refine wpAny_Tuple_spliced (thn (h pos pins s σ H _ I hq) λus s1 ⟨xs,H1,I1,r,z,q⟩=>⟨by rw[<- r.length];exact z,?_⟩);have hf:H1 s1.heap.objs.size=none:=I1.hok.fresh (Aj _);refine⟨.ref s1.heap.objs.size,upd H1 s1.heap.objs.size (.tup xs),I1.laid (t':=s1.toks) (λb u e=>Ae _ e) (Aj _) ?_,rfl,q _ hf⟩;exact⟨z,us,r,⟨_,Av _ rfl,rfl,_,rfl⟩⟩
theorem zaI(h:PA X es t):PE X (.List es pos) (tLst t):=by intro pins s σ H Q I hq;refine wpAny_List_spliced (thn (h pos pins s σ H _ I hq) λus s1 ⟨xs,H1,I1,r,z,q⟩=>⟨by rw[<- r.length];exact z,?_⟩);have hf:H1 s1.heap.objs.size=none:=I1.hok.fresh (Aj _);refine⟨.ref s1.heap.objs.size,upd H1 s1.heap.objs.size (.lst xs),I1.laid (t':=s1.toks) (λb u e=>Ae _ e) (Aj _) ?_,rfl,q _ hf⟩;exact⟨z,us,0,r,Av _ rfl⟩
end
noncomputable abbrev Sp:=List V->Hp->VK->XK->Prop
noncomputable abbrev CXT:=List Env->Hp->Ac->XK->Value->Ac->Prop
structure Env0 (P:AB) (w:AV) (K:W.Frag) (mg:Str->Option Value) (base:Heap) (A:AF) (outer:List Env) (s:Ac) (H:Hp):Prop where
 frames:A.frames=some outer
 mod:Mod K mg base
 bs:∀b o,base.get? b=some o->s.heap.get? b=some o/\H b=none
 bsz:base.objs.size<=s.heap.objs.size
 funs:s.heap.FunFrames base outer
 frf:∀b∈frs outer,H b=none
 hok:HOk P w H s.heap
 bare:AllBare s.gens
noncomputable def CE(outer:List Env)(P:AB)(w:AV)(H:Hp)(s:Ac)(Q:VK)(u:Value)(s':Ac):Prop :=
 ∃v H',s'.os=s.os/\AllBare s'.gens/\Un (frs outer) [] H H' s.heap s'.heap/\HOk P w H' s'.heap/\RelV v u/\Q v H'
noncomputable def CR(CX:CXT)(outer:List Env)(P:AB)(w:AV)(H:Hp)(s:Ac)(Q:VK)(E:XK)(r:Result)(s':Ac):Prop :=
 match r with
 |.ok (.ret u)=>CE outer P w H s Q u s'
 |.ok _=>False
 |.error e=>CX outer H s E e s'
structure FnOk (P:AB) (w:AV) (K:W.Frag) (mg:Str->Option Value) (base:Heap) (CX:CXT) (k:Nat) (f:Addr) (fd:Bq) (ps:List Str) (sp:Sp):Prop where
 len:∀vs H Q E,sp vs H Q E->vs.length=ps.length
 run:∀(A:AF) (outer:List Env) (s:Ac) (H:Hp) (args:Args) (us:List Value) (vs:List V) (Q:VK) (E:XK),Room k A->Env0 P w K mg base A outer s H->BindsTo s fd args (ps.zip us)->Vals vs us->sp vs H Q E ->
  CK (Aw P w) A (.call (.ref f) args) (CR CX outer P w H s Q E) s
theorem Env0.make{P:AB}{w:AV}{K:W.Frag}{mg:Str -> Option Value}{base:Heap}{A:AF}{outer:List Env}{s:Ac}{H:Hp}(e:Env0 P w K mg base A outer s H)(C:Addr)(us:List Value)(kw:List (Str × Value)) :
  Env0 P w K mg base (A.under (.builtin "type.__call__" ⟨.ref C::us,kw⟩)) outer s H:=⟨by first |exact e.frames | (simpa[Around.under,Code.envs,Code.isFrame,pushEnvs]using e.frames),e.mod,e.bs,e.bsz,e.funs,e.frf,e.hok,e.bare⟩
theorem Env0.in1{P:AB}{w:AV}{K:W.Frag}{mg:Str -> Option Value}{base:Heap}{A:AF}{outer:List Env}{s:Ac}{H:Hp}(e:Env0 P w K mg base A outer s H) :
  Env0 P w K mg base A.in1 outer s H:=⟨e.frames,e.mod,e.bs,e.bsz,e.funs,e.frf,e.hok,e.bare⟩
section
variable {X:Cx}{pins:List (Addr×Obj)}{σ:St}{H:Hp}{s s':Ac}
theorem Inv.env0(I:Inv X pins σ H s):Env0 X.prog X.w X.K X.mg X.base X.A X.stack s H :=
 ⟨I.ok.frames,I.ok.mod,I.bs,AM I.ok.bsz I.sz,I.stack,I.stkFree,I.hok,I.bare⟩
theorem Inv.after{Q:VK}{u:Value}(I:Inv X pins σ H s)(h:CE X.stack X.prog X.w H s Q u s'):EP X pins σ Q u s':=by obtain⟨v,H',os,bare,un,hok,r,q⟩:=h;obtain⟨hh,g,d,t,os'⟩:=s';obtain rfl:os'=s.os:=os;exact⟨v,H',I.call (h':=hh) (g':=g) (d':=d) (t':=t) (ch:=[]) un hok bare (λb z=>absurd z (by simp)),r,q⟩
end
noncomputable def tCall(sp:Sp)(dvs:List V)(E:XK)(t:TA):TE:=λσ H Q=>t σ H λvs H1=>sp (vs++dvs) H1 Q E
noncomputable def Binds(K:W.Frag)(fd:Bq)(ps:List Str)(ds:List Value):Prop :=
 ∀(s:Ac) (us:List Value),K.In s.heap->(us++ds).length=ps.length->BindsTo s fd ⟨us,[]⟩ (ps.zip (us++ds))
theorem Binds.all{K:W.Frag}{fd:Bq}{ps:List Str}(h:∀us:List Value,us.length=ps.length->De fd ⟨us,[]⟩=pure (ps.zip us)):Binds K fd ps []:=λs us _ hl=>by rw[AN]at hl ⊢;exact .of_eq (h us hl)
noncomputable def zef(CX:CXT)(X:Cx)(E:XK):Prop:=∀(pins:List (Addr×Obj)) (σ:St) (H:Hp) (s:Ac) (e:Value) (s':Ac),Inv X pins σ H s->CX X.stack H s E e s'->X.xe e s'
section
variable {X:Cx}{CX:CXT}{k:Nat}{f C:Addr}{fd:Bq}{ps:List Str}{sp:Sp}{dvs:List V}{ds:List Value}{E:XK}{x m:Str}{p pos apos:Pos}{e o:Expr}{es:List Expr}{ta:TE}{t:TA}
theorem zmt{pins:List (Addr × Obj)}{σ : St}{H:Hp}{s:Ac}{Q:VK}{us:List Value}{vs:List V}(F:FnOk X.prog X.w X.K X.mg X.base CX k f fd ps sp)(hr:Room k X.A)(hb:Binds X.K fd ps ds)(hd:Vals dvs ds)(hx:zef CX X E)
  (I:Inv X pins σ H s) (r:Vals vs us) (h:sp (vs++dvs) H Q E):Am (Aw X.prog X.w) X.A (call (.ref f) us) (EP X pins σ Q) X.xe s:=by
 have r2:Vals (vs++dvs) (us++ds):=r.append hd;have hl:(us++ds).length=ps.length:=by rw[<- r2.length];exact F.len _ _ _ _ h
 refine wpAny_call (C7 (F.run X.A X.stack s H ⟨us,[]⟩ (us++ds) (vs++dvs) Q E hr I.env0 (hb s us I.kIn hl) r2 h) λr s' hq=>?_)
 cases r with
 |error e=>exact hx pins σ H s e s' I hq
 |ok fl =>
  cases fl with
  |ret u=>exact I.after hq
  |next=>exact Bj hq
  |brk=>exact Bj hq
  |cont=>exact Bj hq
theorem zjg(F:FnOk X.prog X.w X.K X.mg X.base CX k f fd ps sp)(hr:Room k X.A)(hg:Gl X x)(hm:X.mg x=some (.ref f))(hk:C3 X.K (.ref f)=true)(hb:Binds X.K fd ps ds)(hd:Vals dvs ds)(hx:zef CX X E)
  (ha:PA X (e::es) t) (hdb:(x == ("__debug__" : Str))=false:=by decide) (he:A5 (e::es) X.env=(false,eval e X.env)::A5 es X.env:=by rfl) (hpl:(DK pos (A5 es X.env)).any (·.1)=false:=by rfl) :
  PE X (.Call (.Name x p) (e::es) [] pos) (tCall sp dvs E t):=by
 intro pins s σ H Q I h;refine Cc (zfi I hg hm ?_ hdb);refine W.callWith_K (h₀:=X.base) I.ok.mod.kin hk (thn (ha pos pins s σ H _ I h) λus s1 ⟨vs,H1,I1,r,q⟩=>⟨I1.kIn,?_⟩) he hpl;exact zmt F hr hb hd hx I1 r q
structure Mk (K:W.Frag) (C f:Addr):Prop where
 makes:W.makesIn K C=true
 init:Cs K (.ref C) "__init__" = some (some (.ref f))
 fn:W.isFn K (.ref f)=true
 kp:C3 K (.ref C)=true
end
noncomputable def PK(X:Cx)(kws:List Keyword)(t:TA):Prop :=
 ∀(pos:Pos) (pins:List (Addr×Obj)) (s:Ac) (σ:St) (H:Hp) (Q:List V->Hp->Prop),Inv X pins σ H s->t σ H Q->Am (Aw X.prog X.w) X.A (evalAll ((DO pos (CA kws X.env)).map (·.2))) (AP X pins σ Q) X.xe s
section
variable {X:Cx}{CX:CXT}{k:Nat}{f C:Addr}{fd:Bq}{ps ks:List Str}{sp:Sp}{E:XK}{x m:Str}{p pos apos kpos:Pos}{e o:Expr}{es:List Expr}{kws:List Keyword}{te ta:TE}{t tk:TA}{nm:Option Str}
theorem zlc:PK X [] tNil:=λ_ _ _ _ H Q I h=>wpAny_evalAll_nil ⟨[],H,I,.nil,h⟩
theorem zja(ha:PE X e te)(hr:PK X kws t):PK X (⟨nm,e,kpos⟩::kws) (tCons te t):=by intro pos pins s σ H Q I h;show Am _ _ (evalAll ((do let v <- eval e X.env;standAt pos;pure v)::(DO pos (CA kws X.env)).map (·.2))) _ _ s;refine wpAny_evalAll_cons (Ab (thn (ha pins s σ H _ I h) λu s1 ⟨x,H1,I1,r1,q1⟩=>Ab (Dp (Af ?_))));exact thn (hr pos pins s1 σ H1 _ I1 q1) λus s2 ⟨xs,H2,I2,r2,q2⟩=>⟨x::xs,H2,I2,.cons r1 r2,q2⟩
structure KBinds (K:W.Frag) (fd:Bq) (ps ks:List Str) (g:List Value->List Value->List Value) (gV:List V->List V->List V):Prop where
 to:∀(s:Ac) (us ws:List Value),K.In s.heap->(g us ws).length=ps.length->BindsTo s fd ⟨us,ks.zip ws⟩ (ps.zip (g us ws))
 rel:∀{vs:List V} {us:List Value} {zs:List V} {ws:List Value},Vals vs us->Vals zs ws->Vals (gV vs zs) (g us ws)
variable {g:List Value->List Value->List Value}{gV:List V->List V->List V}
end
structure FnScope (N P:List Str) (sc:Scope):Prop where
 kind:sc.kind=.function
 co:sc.isCoroutine=false
 gen:sc.isGenerator=false
 nd:N.Nodup
 pre:N.take P.length=P
 par:∀x∈P,sc.names.lookup x=some .local∨sc.names.lookup x=some .cell
 nofree:∀y∈sc.names,y.2≠.free
theorem zgi{kindOf:Str->Option NameKind}{x:Str}:∀{binds:List (Str×Value)}{m:Str->Option Value},(∀v,(x,v) ∉ binds)->bindL kindOf binds m x=m x
 |[],_,_=>rfl
 | (n,v)::r,m,h=>by
  unfold bindL;rw[zgi λw hw=>h w (Ar _ hw)];split
  .have:x≠n:=by rintro rfl;exact h v Az
   simp[this]
  .rfl
theorem zgk{kindOf:Str->Option NameKind}{x:Str}:∀{binds:List (Str×Value)}{m:Str->Option Value},(∀v,(x,v) ∉ binds)->bindC kindOf binds m x=m x
 |[],_,_=>rfl
 | (n,v)::r,m,h=>by
  unfold bindC;rw[zgk λw hw=>h w (Ar _ hw)];split
  .rfl
  .have:x≠n:=by rintro rfl;exact h v Az
   simp[this]
theorem zgj{kindOf:Str -> Option NameKind}{x:Str}{v:Value} : ∀{P:List Str}{vs:List Value}{i:Nat}{m:Str -> Option Value}, P.Nodup -> P[i]? = some x -> vs[i]? = some v -> kindOf x=some .local ->
  bindL kindOf (P.zip vs) m x=some v
 |[],_,_,_,_,h,_,_=>by simp at h
 |_::_,[],_,_,_,_,h,_=>by simp at h
 |p::P,w::vs,0,m,nd,h1,h2,hk=>by
  simp at h1 h2;subst h1;subst h2;show bindL kindOf ((p,w)::P.zip vs) m p=_;unfold bindL;rw[zgi λv hv=>(B8.mp nd).1 (List.of_mem_zip hv).1,if_pos hk];simp
 |p::P,w::vs,i+1,m,nd,h1,h2,hk=>by
  show bindL kindOf ((p,w)::P.zip vs) m x=_;unfold bindL;exact zgj (i:=i) (B8.mp nd).2 (by simpa using h1) (by simpa using h2) hk
theorem zgl{kindOf:Str -> Option NameKind}{x:Str}{v:Value} : ∀{P:List Str}{vs:List Value}{i:Nat}{m:Str -> Option Value}, P.Nodup -> P[i]? = some x -> vs[i]? = some v -> kindOf x ≠ some .local ->
  bindC kindOf (P.zip vs) m x=some v
 |[],_,_,_,_,h,_,_=>by simp at h
 |_::_,[],_,_,_,_,h,_=>by simp at h
 |p::P,w::vs,0,m,nd,h1,h2,hk=>by
  simp at h1 h2;subst h1;subst h2;show bindC kindOf ((p,w)::P.zip vs) m p=_;unfold bindC;rw[zgk λv hv=>(B8.mp nd).1 (List.of_mem_zip hv).1,if_neg hk];simp
 |p::P,w::vs,i+1,m,nd,h1,h2,hk=>by
  show bindC kindOf ((p,w)::P.zip vs) m x=_;unfold bindC;exact zgl (i:=i) (B8.mp nd).2 (by simpa using h1) (by simpa using h2) hk
noncomputable def start(N:List Str)(vs:List V):St:=vs.map some++Ah (N.length-vs.length) none
noncomputable def cxOf(CX:CXT)(P:AB)(w:AV)(K:W.Frag)(mg:Str->Option Value)(base:Heap)(N:List Str)(qual:Str)(scope:Scope)(f:Addr)(cd:Value)(A:AF)(outer:List Env)(s:Ac)(H:Hp)(E:XK):Cx where
 prog:=P
 w:=w
 K:=K
 mg:=mg
 base:=base
 A:=A.deeper (envOfC qual scope s.heap.objs.size f cd)
 N:=N
 s₀:=s
 H₀:=H
 env:=envOfC qual scope s.heap.objs.size f cd
 outer:=outer
 stack:=envOfC qual scope s.heap.objs.size f cd::outer
 ex:=[]
 calm:=true
 fn:=λ_=>true
 pn:=[]
 xe:=λe s'=>Am (Aw P w) (A.deeper (envOfC qual scope s.heap.objs.size f cd)) (leaving (envOfC qual scope s.heap.objs.size f cd) e) (λ_ s''=>CX outer H s E e s'') (λe' s''=>CX outer H s E e' s'') s'
theorem zhM{sc:Scope}{n:Nat}{x:Str}(h:sc.names.lookup x=some .cell):∃c,(cellsFrom n sc.names []).lookup x=some c:=by have q:=W.cellsFrom_some sc.names n [] (.inl h);exact Option.isSome_iff_exists.mp q
theorem zf4{CX:CXT}{P:AB}{w:AV}{K:W.Frag}{mg:Str -> Option Value}{base:Heap}{N ps:List Str}{qual:Str}{scope:Scope}{f:Addr}{cd:Value}{A:AF}{outer:List Env}{s s1:Ac}{H:Hp}{E:XK}{us:List Value}{vs:List V}
  (S:FnScope N ps scope) (hd:A.handled=none) (e0:Env0 P w K mg base A outer s H) (hl:vs.length=ps.length) (r:Vals vs us)
  (x:InCallC s s.heap.objs.size (bindL (envOfC qual scope s.heap.objs.size f cd).kindOf (ps.zip us) λ_=>none) (cellsFrom (s.heap.objs.size+1) scope.names []) (bindC (envOfC qual scope s.heap.objs.size f cd).kindOf (ps.zip us) λ_=>none) s1) :
  Inv (cxOf CX P w K mg base N qual scope f cd A outer s H E) [] (start N vs) H s1:=by
 have hpl:ps.length<=N.length:=by have:=congrArg List.length S.pre;rw[A6]at this;lia
 obtain⟨h1,tk,rfl,hk⟩:=x.done;have noA:∀b:Addr,b ∉ (cxOf CX P w K mg base N qual scope f cd A outer s H E).ex:=λb z=>absurd (show b∈([]:List Addr) from z) (by simp)
 refine⟨⟨e0.mod,S.kind,rfl,rfl,Aj _,λy z c h1 h2=>?_,λy hy=>?_,λy c _ h=>?_,λ_=>hd,Around.frames_deeper e0.frames,.inr ⟨rfl,rfl⟩,λb z=>absurd z (noA b),e0.bs,e0.bsz,λb _ _=>noA b,λb z=>absurd z (noA b),e0.funs,e0.frf⟩,
  rfl,e0.bare,Un.kept hk,⟨_,x.toInCall.ns,λi y v h1 h2 h3=>?_⟩,λy c h=>⟨_,x.cell y c h⟩,e0.hok.fresh (Aj _),λy c h=>?_,λp hp=>absurd (show p∈([]:List (Addr×Obj)) from hp) (by simp),e0.hok.kept hk,?_⟩
 .exact name_of_addr x.apart (Ct h1) (Ct h2)
 .have hy:scope.names.lookup y=some .cell∨scope.names.lookup y=some .free:=hy;rcases hy with hy |hy
  .exact zhM hy
  .exact absurd rfl (S.nofree _ (Ct hy))
 .exact Bg (x.above y c (Ct h))
 .have hi:i < vs.length := by
   unfold start at h2
   by_cases hi:i<vs.length
   .exact hi
   .rw[A0 (by simpa using hi)]at h2;rw[List.getElem?_replicate]at h2;split at h2 <;> cases h2
  have ha:vs[i]?=some v:=by
   unfold start at h2;rw[AG (by simpa using hi),Ax]at h2
   cases e:vs[i]? with
   |none=>rw[e]at h2;cases h2
   |some a=>rw[e]at h2;cases h2;rfl
  obtain⟨u,hu,rv⟩:=r.get ha
  have hp:ps[i]?=some y:=by rw[<- S.pre,List.getElem?_take_of_lt (by lia)];exact h1
  have ndP:ps.Nodup:=by rw[<- S.pre];exact S.nd.sublist (List.take_sublist _ _)
  refine⟨u,rv,?_⟩;rcases S.par y (Ag hp) with k |k
  .exact .inl ⟨k,zgj ndP hp hu k⟩
  .obtain⟨c,e⟩:=zhM (n:=s.heap.objs.size+1) k;refine .inr ⟨.inl k,c,e,?_⟩;have q:=x.cell y c e;rw[zgl ndP hp hu (by show scope.names.lookup y≠_;rw[k];decide)]at q;exact q
 .exact e0.hok.fresh (Bg (x.above y c (Ct h)))
 .unfold start;show _=N.length;rw[Ak,Ai,BB];lia
theorem fn_of{CX:CXT}{P:AB}{w:AV}{K:W.Frag}{mg:Str -> Option Value}{base:Heap}{k:Nat}{f:Addr}{name qual:Str}{params:Arguments}{body:List Stmt}{scope:Scope}{dV kV doc pm cdv ct oc:Value}{an od:Option Addr}
  {osl:Array (Option Value)} {N ps:List Str} {sp:Sp} (lk:K.lookup f=some ⟨oc,od,.func (C8 name qual params body scope dV kV doc pm an cdv ct),osl⟩) (hcd:W.codeIn K cdv qual=true) (S:FnScope N ps scope)
  (len:∀vs H Q E,sp vs H Q E->vs.length=ps.length)
  (hbody:∀(A:AF) (outer:List Env) (s:Ac) (H:Hp) (vs:List V) (Q:VK) (E:XK),Room k (A.deeper (envOfC qual scope s.heap.objs.size f cdv))->sp vs H Q E ->
   ∃t,PSs (cxOf CX P w K mg base N qual scope f cdv A outer s H E) body t/\t { nx:=λ_ H'=>Q .non H',rt:=Q } (start N vs) H) :
  FnOk P w K mg base CX (k+1) f (C8 name qual params body scope dV kV doc pm an cdv ct) ps sp:=by
 refine⟨len,λA outer s H args us vs Q E hr e0 hb r hsp=>?_⟩;have hl:=len _ _ _ _ hsp;have KX:K.In s.heap:=e0.mod.kin.keeps λb o e=>(e0.bs b o e).1
 have lim:s.heap.NoLimit:=e0.mod.nolimit.keeps λb o e=>(e0.bs b o e).1
 have hkind:∀y∈ps.zip us,scope.names.lookup y.1=some .local∨(scope.names.lookup y.1=some .cell/\((cellsFrom (s.heap.objs.size+1) scope.names []).lookup y.1).isSome=true):=λ⟨n,v⟩ hy=>by
  rcases S.par n (List.of_mem_zip hy).1 with q |q
  .exact .inl q
  .exact .inr ⟨q,W.cellsFrom_some _ _ _ (.inl q)⟩
 refine codeAny_call_function hr.depth (KX _ _ lk) rfl S.co S.gen rfl (W.codeRec_of KX hcd) (hb _ _ _ _ ?_);refine wpAny_newFunctionEnv_cells S.kind hkind λenv he s1 x=>?_
 subst he;refine⟨lim.keeps x.toInCall.keep,codeAny_func ?_⟩;obtain⟨t,ht,hq⟩:=hbody A outer s H vs Q E (hr.deeper _) hsp;have I:Inv (cxOf CX P w K mg base N qual scope f cdv A outer s H E) [] (start N vs) H s1:=zf4 S hr.hd e0 hl r x;refine Bk (ht [] s1 (start N vs) H _ I hq) (λfl s' hs=>?_) λe s' hs=>hs
 have fin:∀{σ':St} {H':Hp} {v:V} {u:Value},Inv (cxOf CX P w K mg base N qual scope f cdv A outer s H E) [] σ' H' s'->RelV v u->Q v H'->CE outer P w H s Q u s' :=
  λ{σ' H' v u} J rv q=>⟨v,H',J.os,J.bare,J.base,J.hok,rv,q⟩
 cases fl with
 |ret u =>
  obtain⟨v,σ',H',J,rv,q⟩:=hs;exact fin J rv q
 |next =>
  obtain⟨σ',H',J,q⟩:=hs;exact fin (v:=V.non) (u:=Value.none) J rfl q
 |brk =>
  obtain⟨_,_,_,q⟩:=hs;exact Bj q
 |cont =>
  obtain⟨_,_,_,q⟩:=hs;exact Bj q
section
variable {X:Cx}{x:Str}{p pos:Pos}{e:Expr}{es:List Expr}{t:TA}{id T:String}{r:List V->Hp->VK->Prop}
noncomputable def tCB(r:List V->Hp->VK->Prop)(t:TA):TE:=λσ H Q=>t σ H λvs H1=>r vs H1 Q
theorem zav (hc:CallR X (.builtin id) r) (hg:Gl X x) (hm:X.mg x=none) (hv:bootBuiltins x=some (.builtin id)) (ha:PA X (e :: es) t) (hn:x ≠ "__name__" := by decide) (hdb:(x == ("__debug__" : Str))=false := by decide)
  (he:A5 (e::es) X.env=(false,eval e X.env)::A5 es X.env:=by rfl) (hpl:(DK pos (A5 es X.env)).any (·.1)=false:=by rfl):PE X (.Call (.Name x p) (e::es) [] pos) (tCB r t):=by
 intro pins s σ H Q I h;refine Cc (zdm I hg hm hv ?_ hn hdb);exact PyProof.Rows.callWith_builtin1 (thn (ha pos pins s σ H _ I h) λus s1 ⟨vs,H1,I1,r1,q1⟩=>hc pins s1 σ H1 vs us Q I1 r1 q1) he hpl
theorem za4 (hc:CallR X (.type T) r) (hg:Gl X x) (hm:X.mg x=none) (hv:bootBuiltins x=some (.type T)) (ha:PA X (e :: es) t) (hn:x ≠ "__name__" := by decide) (hdb:(x == ("__debug__" : Str))=false := by decide)
  (he:A5 (e::es) X.env=(false,eval e X.env)::A5 es X.env:=by rfl) (hpl:(DK pos (A5 es X.env)).any (·.1)=false:=by rfl):PE X (.Call (.Name x p) (e::es) [] pos) (tCB r t):=by
 intro pins s σ H Q I h;refine Cc (zdm I hg hm hv ?_ hn hdb);exact Cv (thn (ha pos pins s σ H _ I h) λus s1 ⟨vs,H1,I1,r1,q1⟩=>hc pins s1 σ H1 vs us Q I1 r1 q1) he hpl
end
section
variable {κ:Type} [DecidableEq κ]
noncomputable def valV(kvs:List (κ×V))(k:κ):Option V:=(kvs.find? λkv=>decide (kv.1=k)).map (·.2)
noncomputable def putK(kvs:List (κ×V))(k:κ)(v:V):List (κ×V) :=
 if (kvs.any λkv=>decide (kv.1=k))=true then kvs.map (λkv=>if kv.1=k then (kv.1,v) else kv) else kvs++[(k,v)]
theorem za8{p:κ×V}{r:List (κ×V)}{k:κ}(e:p.1=k):valV (p::r) k=some p.2:=by simp[valV,CM,e]
theorem za5{p:κ×V}{r:List (κ×V)}{k:κ}(e:¬ p.1=k):valV (p::r) k=valV r k:=by simp[valV,CM,e]
theorem zcS(k:κ):∀kvs:List (κ×V),(kvs.any λkv=>decide (kv.1=k))=(valV kvs k).isSome
 |[]=>rfl
 |p::r=>by
  rw[List.any_cons]
  by_cases e:p.1=k
  .simp only[za8 e,decide_eq_true e,Bool.true_or,Option.isSome_some]
  .rw[za5 e,decide_eq_false e,Bool.false_or];exact zcS k r
theorem zg7(k j:κ)(y:V):∀kvs:List (κ×V),valV (kvs.map λkv=>if kv.1=k then (kv.1,y) else kv) j=(valV kvs j).map λx=>if j=k then y else x
 |[]=>rfl
 |p::r=>by
  have ih:=zg7 k j y r;rw[AR]
  by_cases h:p.1=k
  .rw[if_pos h]
   by_cases e:p.1=j
   .rw[za8 (p:=(p.1,y)) e,za8 e,Dg,if_pos (e.symm.trans h)]
   .rw[za5 (p:=(p.1,y)) e,za5 e,ih]
  .rw[if_neg h]
   by_cases e:p.1=j
   .rw[za8 (p:=p) e,za8 e,Dg,if_neg (λz=>h (e.trans z))]
   .rw[za5 (p:=p) e,za5 e,ih]
theorem zfB(k j:κ)(y:V):∀kvs:List (κ×V),valV kvs k=none->valV (kvs++[(k,y)]) j=if j=k then some y else valV kvs j
 |[],_=>by
  by_cases e:k=j
  .rw[if_pos e.symm];exact za8 (p:=(k,y)) e
  .rw[if_neg (λz=>e z.symm)];exact za5 (p:=(k,y)) e
 |p::r,hn=>by
  rw[List.cons_append];have hk:¬ p.1=k:=λz=>by rw[za8 z]at hn;cases hn
  rw[za5 hk]at hn;have ih:=zfB k j y r hn
  by_cases e:p.1=j
  .rw[za8 e,za8 e,if_neg (λz=>hk (e.trans z))]
  .rw[za5 e,za5 e,ih]
theorem zg6(kvs:List (κ×V))(k j:κ)(y:V):valV (putK kvs k y) j=if j=k then some y else valV kvs j:=by
 unfold putK
 by_cases a:(kvs.any λkv=>decide (kv.1=k))=true
 .rw[if_pos a,zg7];rw[zcS]at a
  by_cases e:j=k
  .obtain⟨x,hx⟩:=Option.isSome_iff_exists.mp a;rw[if_pos e,e,hx,Dg,if_pos rfl]
  .rw[if_neg e]
   cases valV kvs j with
   |none=>rfl
   |some x=>rw[Dg,if_neg e]
 .rw[if_neg a];refine zfB k j y kvs ?_
  rw[zcS]at a
  cases q:valV kvs k with
  |none=>rfl
  |some x=>rw[q]at a;exact (a rfl).elim
theorem zbf(kvs:List (κ×V))(k:κ)(v:V):(putK kvs k v).length<=kvs.length+1:=by
 unfold putK;split
 .rw[Ai];lia
 .rw[Ak,A7,DW];lia
theorem putK_new{kvs:List (κ×V)}{k:κ}(v:V)(h:valV kvs k=none):putK kvs k v=kvs++[(k,v)]:=by unfold putK;rw[zcS,h];exact if_neg (by decide)
theorem RelO.isSome_eq{o:Option V}{u:Option Value}(r:RelO o u):o.isSome=u.isSome:=by
 cases o with
 |none=>cases u with
  |none=>rfl
  |some _=>exact (show False from r).elim
 |some _=>cases u with
  |none=>exact (show False from r).elim
  |some _=>rfl
theorem KV.val{kvs:List (κ×V)}{vs:List (κ×Value)}(r:KV kvs vs)(k:κ):RelO (valV kvs k) (valueAt vs k):=by
 unfold KV at r
 induction r with
 |nil=>exact BX
 |@cons p q ps qs h t ih =>
  obtain⟨h1,h2⟩:=h
  by_cases e:p.1=k
  .have e':q.1=k:=h1.symm.trans e;have b:valueAt (q::qs) k=some q.2:=by simp[valueAt,CM,e']
   rw[za8 e,b];exact h2
  .have e':¬ q.1=k:=λz=>e (h1.trans z)
   have b:valueAt (q::qs) k=valueAt qs k:=by simp[valueAt,CM,e']
   rw[za5 e,b];exact ih
theorem KV.any{kvs:List (κ×V)}{vs:List (κ×Value)}(r:KV kvs vs)(k:κ):(kvs.any λkv=>decide (kv.1=k))=vs.any λkv=>decide (kv.1=k):=by
 unfold KV at r
 induction r with
 |nil=>rfl
 |cons h t ih=>rw[List.any_cons,List.any_cons,ih,h.1]
theorem KV.repl{kvs:List (κ × V)}{vs:List (κ × Value)}(r:KV kvs vs)(k : κ){y:V}{u:Value}(ry:RelV y u) :
  KV (kvs.map λkv=>if kv.1=k then (kv.1,y) else kv) (vs.map λkv=>if kv.1=k then (kv.1,u) else kv):=by
 unfold KV at r ⊢
 induction r with
 |nil=>exact .nil
 |@cons p q ps qs h t ih =>
  rw[AR,AR];refine .cons ?_ ih;obtain⟨h1,h2⟩:=h
  by_cases e:p.1=k
  .rw[if_pos e,if_pos (h1.symm.trans e)];exact⟨h1,ry⟩
  .rw[if_neg e,if_neg (λz=>e (h1.trans z))];exact⟨h1,h2⟩
theorem KV.put{kvs:List (κ×V)}{vs:List (κ×Value)}(r:KV kvs vs)(k:κ){y:V}{u:Value}(ry:RelV y u):KV (putK kvs k y) (stored vs k u):=by
 unfold putK stored;rw[r.any k]
 by_cases e:(vs.any λkv=>decide (kv.1=k))=true
 .rw[if_pos e,if_pos e];exact r.repl k ry
 .rw[if_neg e,if_neg e];exact Paired.snoc r ⟨rfl,ry⟩
theorem KV.length{kvs:List (κ×V)}{vs:List (κ×Value)}(r:KV kvs vs):kvs.length=vs.length:=CV r
end
theorem kV_is{P:AB}{w:AV}{k:Key}{u:Value}(r:RelV (kV k) u):(zaA P w).is k u=true:=by
 cases k with
 |inl i=>obtain⟨t,e⟩:=(show ∃t,u=Dm i t from r);subst e;exact zgR P w i t
 |inr x=>obtain⟨t,e⟩:=(show ∃t,u=Value.str x t from r);subst e;exact zbe P w x t
theorem zf3{P:AB}{w:AV}:∀{ks:List Key}{us:List Value},Vals (ks.map kV) us->ItemsAre (zaA P w) ks us
 |[],_,r=>by rw[List.map_nil]at r;cases r;exact .nil
 |k::ks,_,r=>by
  rw[AR]at r
  cases r with
  |cons h t=>exact .cons (kV_is h) (zf3 t)
noncomputable abbrev KT(H:Hp):List (List Key×V)->List (List Key×Addr×Value)->Prop:=Paired λp q=>p.1=q.1/\H q.2.1=some (.tup (p.1.map kV))/\RelV p.2 q.2.2
theorem KT.val{H:Hp}{kvs:List (List Key×V)}{xs:List (List Key×Addr×Value)}(r:KT H kvs xs)(k:List Key):RelO (valV kvs k) ((atKey xs k).map (·.2)):=by
 induction r with
 |nil=>exact BX
 |@cons p q ps qs h t ih =>
  obtain⟨h1,_,h2⟩:=h
  by_cases e:p.1=k
  .have e':q.1=k:=h1.symm.trans e;have b:atKey (q::qs) k=some q.2:=by simp[atKey,CM,e']
   rw[za8 e,b];exact h2
  .have e':¬ q.1=k:=λz=>e (h1.trans z)
   have b:atKey (q::qs) k=atKey qs k:=by simp[atKey,CM,e']
   rw[za5 e,b];exact ih
theorem KT.repl{H:Hp}{kvs:List (List Key × V)}{xs:List (List Key × Addr × Value)}(r:KT H kvs xs)(k:List Key){y:V}{u:Value}(ry:RelV y u) :
  KT H (kvs.map λkv=>if kv.1=k then (kv.1,y) else kv) (xs.map (putAt k u)):=by
 induction r with
 |nil=>exact .nil
 |@cons p q ps qs h t ih =>
  rw[AR,AR];refine .cons ?_ ih;obtain⟨h1,h2,h3⟩:=h;unfold putAt
  by_cases e:p.1=k
  .rw[if_pos e,if_pos (h1.symm.trans e)];exact⟨h1,h2,ry⟩
  .rw[if_neg e,if_neg (λz=>e (h1.trans z))];exact⟨h1,h2,h3⟩
theorem KT.put{H:Hp}{kvs:List (List Key × V)}{xs:List (List Key × Addr × Value)}(r:KT H kvs xs)(k:List Key){b:Addr}{y:V}{u:Value}(hb:H b=some (.tup (k.map kV)))(ry:RelV y u) :
  KT H (putK kvs k y) (storedH xs k b u):=by
 have e:(kvs.any λkv=>decide (kv.1=k))=(atKey xs k).isSome:=by rw[zcS,(r.val k).isSome_eq,Option.isSome_map]
 unfold putK storedH;rw[e]
 by_cases q:(atKey xs k).isSome=true
 .rw[if_pos q,if_pos q];exact r.repl k ry
 .rw[if_neg q,if_neg q];exact Paired.snoc r ⟨rfl,hb,ry⟩
theorem KT.keeps{H H':Hp}{kvs:List (List Key×V)}{xs:List (List Key×Addr×Value)}(r:KT H kvs xs)(ht:∀b ys,H b=some (.tup ys)->H' b=some (.tup ys)):KT H' kvs xs :=
 Paired.mapP r λ_ _ z=>⟨z.1,ht _ _ z.2.1,z.2.2⟩
section
variable {P:AB}{w:AV}{H:Hp}{h:Heap}{a:Addr}
theorem rd_of{u:HO}(ok:HOk P w H h)(e:Rd H a u):ObjOk P w H h a u:=e.ok ok
theorem dk_rd{kvs:List (Key×V)}(ok:HOk P w H h)(e:Rd H a (.dK kvs)):kvs.length<=sizeLine/\(a == BS)=false/\∃vs,KV kvs vs/\h.DictOf (zaA P w) a vs :=
 show ObjOk P w H h a (.dK kvs) from rd_of ok e
theorem dk_of{kvs:List (Key×V)}(ok:HOk P w H h)(e:H a=some (.dK kvs)):kvs.length<=sizeLine/\(a == BS)=false/\∃vs,KV kvs vs/\h.DictOf (zaA P w) a vs:=dk_rd ok (.inl e)
theorem zeD{ks:List Key}(ok:HOk P w H h)(e:H a=some (.tup (ks.map kV))):(D3 (zaA P w)).is h ks a:=by obtain⟨_,its,r,o,h1,h2,n,h3⟩:=(show ObjOk P w H h a (.tup (ks.map kV)) from ok a _ e);exact⟨o,its.toArray,n,h1,h2,h3,by simpa using zf3 r⟩
theorem dt_rd{kvs:List (List Key × V)}(ok:HOk P w H h)(e:Rd H a (.dT kvs)):kvs.length <= sizeLine /\ (a == BS)=false /\
  ∃xs,KT H kvs xs/\h.DictOfH (D3 (zaA P w)) a xs:=by
 obtain⟨z,y,xs,r,o,es,ep,h1,h2,h3,h4,h5⟩:=(show ObjOk P w H h a (.dT kvs) from rd_of ok e);refine⟨z,y,xs,r,o,es,ep,h1,h2,h3,h4,λx hx=>?_,h5⟩
 have all:∀{l:List (List Key×V)} {m:List (List Key×Addr×Value)},KT H l m->∀x∈m,(D3 (zaA P w)).is h x.1 x.2.1:=by
  intro l m q
  induction q with
  |nil=>intro x hx;exact nomatch hx
  |@cons p q ps qs hq t ih =>
   intro x hx;rcases At.mp hx with e |hx
   .subst e;exact zeD ok (by rw[<- hq.1];exact hq.2.1)
   .exact ih x hx
 exact all r x hx
theorem dt_of{kvs:List (List Key × V)}(ok:HOk P w H h)(e:H a=some (.dT kvs)):kvs.length <= sizeLine /\ (a == BS)=false /\
  ∃xs,KT H kvs xs/\h.DictOfH (D3 (zaA P w)) a xs:=dt_rd ok (.inl e)
end
noncomputable def DGet(H:Hp)(a:Addr)(y:V)(r:Option V):Prop :=
 (∃kvs k,Rd H a (.dK kvs)/\y=kV k/\r=valV kvs k)∨∃kvs k b,Rd H a (.dT kvs)/\y=.ref b/\H b=some (.tup (k.map kV))/\r=valV kvs k
noncomputable def DPut(H:Hp)(a:Addr)(y v:V)(H':Hp):Prop :=
 (∃kvs k,H a=some (.dK kvs)/\y=kV k/\kvs.length<sizeLine/\H'=upd H a (.dK (putK kvs k v))) ∨
 ∃kvs k b,H a=some (.dT kvs)/\y=.ref b/\H b=some (.tup (k.map kV))/\kvs.length<sizeLine/\H'=upd H a (.dT (putK kvs k v))
section
variable {X:Cx}{pins:List (Addr×Obj)}{σ:St}{H:Hp}{s:Ac}{a:Addr}{y v:V}{u r:Value}{o:Option V}{A:AF}{E:Value->Ac->Prop}
theorem Inv.big(I:Inv X pins σ H s):BS<s.heap.objs.size:=by have h:AE<s.heap.objs.size:=(I.mod.glob.keeps I.bk).lt;exact Nat.lt_trans (by decide) h
theorem d_in{Q:Value -> Ac -> Prop}(hu:A.units + 1 < cLine)(I:Inv X pins σ H s)(g:DGet H a y o)(ry:RelV y u)(h:∀s', Inv X pins σ H s' -> Q (.bool o.isSome) s') :
  Am (Aw X.prog X.w) A (BD .In u (.ref a)) Q E s:=by
 rcases g with⟨kvs,k,e,ey,l⟩ |⟨kvs,k,b,e,ey,eb,l⟩
 .subst ey;obtain⟨z,hd,vs,rel,dd⟩:=dk_rd I.hok e;refine wpAny_in_of (kV_is ry) hd dd.mapOf ?_
  rw[<- (rel.val k).isSome_eq,<- l];exact h _ (I.tok _)
 .subst ey
  cases (show u=Ao b from ry)
  obtain⟨z,hd,xs,rel,dd⟩:=dt_rd I.hok e;refine wpAny_in_heap (DZ hu) (zeD I.hok eb) hd dd ?_
  have q:=(rel.val k).isSome_eq;rw[Option.isSome_map]at q;rw[<- q,<- l];exact h _ (I.tok _)
theorem zl5{Q:Value -> Ac -> Prop}(hu:A.units + 1 < cLine)(I:Inv X pins σ H s)(g:DGet H a y o)(ry:RelV y u)(h:∀s', Inv X pins σ H s' -> Q (.bool (!o.isSome)) s') :
  Am (Aw X.prog X.w) A (BD .NotIn u (.ref a)) Q E s:=by
 rcases g with⟨kvs,k,e,ey,l⟩ |⟨kvs,k,b,e,ey,eb,l⟩
 .subst ey;obtain⟨z,hd,vs,rel,dd⟩:=dk_rd I.hok e;refine wpAny_notIn_of (kV_is ry) hd dd.mapOf ?_
  rw[<- (rel.val k).isSome_eq,<- l];exact h _ (I.tok _)
 .subst ey
  cases (show u=Ao b from ry)
  obtain⟨z,hd,xs,rel,dd⟩:=dt_rd I.hok e;refine wpAny_notIn_heap (DZ hu) (zeD I.hok eb) hd dd ?_
  have q:=(rel.val k).isSome_eq;rw[Option.isSome_map]at q;rw[<- q,<- l];exact h _ (I.tok _)
theorem zec{h':Heap}{t':Nat}{ob:HO}(I:Inv X pins σ H s)(mu:Mut (H a))(hs:Ce a s.heap h')(he:∃q, h'.get? a=some q)(new:ObjOk X.prog X.w (upd H a ob) h' a ob) :
  Inv X pins σ (upd H a ob) { s with heap:=h',toks:=t' } :=
 I.write (x:=a) (e:=a) mu (.inl rfl) (λb q hb z=>(hs.2 b hb).trans z) he new
theorem zll{P:AB}{w:AV}{H':Hp}{h':Heap}{kvs:List (Key × V)}{vs:List (Key × Value)}(z:kvs.length <= sizeLine)(hd:(a == BS)=false)(rel:KV kvs vs)(dd:h'.DictOf (zaA P w) a vs) :
  ObjOk P w H' h' a (.dK kvs):=⟨z,hd,vs,rel,dd⟩
theorem zjY{H':Hp}{Q:Unit -> Ac -> Prop}(hu:A.units + 1 < cLine)(I:Inv X pins σ H s)(g:DPut H a y v H')(ry:RelV y u)(rv:RelV v r)(h:∀s', Inv X pins σ H' s' -> Q () s') :
  Am (Aw X.prog X.w) A (setItem (.ref a) u r) Q E s:=by
 rcases g with⟨kvs,k,e,ey,l,eH⟩ |⟨kvs,k,b,e,ey,eb,l,eH⟩
 .subst ey eH;obtain⟨z,hd,vs,rel,dd⟩:=dk_of I.hok e;have hz:vs.length<=sizeLine:=by rw[<- rel.length];exact z
  have hl:(putK kvs k v).length<=sizeLine:=by have:=zbf kvs k v;lia
  refine wpAny_setItem_pairs (hsz:=hz) (kV_is ry) dd λh' dd' hs=>h _ ?_
  have he:∃q,h'.get? a=some q:=let ⟨q,_,_,hq,_⟩:=dd';⟨q,hq⟩
  exact zec I (by rw[e];exact BX) hs he (zll hl hd (rel.put k rv) dd')
 .subst ey eH
  cases (show u=Ao b from ry)
  obtain⟨z,hd,xs,rel,dd⟩:=dt_of I.hok e;have hz:xs.length<=sizeLine:=by rw[<- CV rel];exact z
  have hl:(putK kvs k v).length<=sizeLine:=by have:=zbf kvs k v;lia
  refine wpAny_setItem_heap (hsz:=hz) (DZ hu) (zeD I.hok eb) dd λh' dd' hs=>h _ ?_
  obtain⟨q,es,ep,hq,h2,h3,h4,_,h5⟩:=dd';refine zec I (by rw[e];exact BX) hs ⟨q,hq⟩ ⟨hl,hd,_,(rel.put k eb rv).keeps λc ys ec=>?_,q,es,ep,hq,h2,h3,h4,h5⟩;rw[zai (ne_of ec e (λz=>nomatch z))];exact ec
end
section
variable {X:Cx}{pins:List (Addr×Obj)}{σ:St}{H:Hp}{s:Ac}{a:Addr}{kvs:List (Key×V)}{k:Key}{u:Value}{A:AF}{E:Value->Ac->Prop}
end
noncomputable def NoSl(i:Expr):Prop:=∀ov iv,subscripted i false ov iv=operate [ov,iv] (getItem ov iv)
theorem ziC{prog:AB}{w:AV}{A:AF}{E:Value -> Ac -> Prop}{s:Ac}{env:Env}{value slice:Expr}{pos:Pos}{T id:String}{Q:Value -> Ac -> Prop}
  (hl:typeLookup (.type T) "__getitem__" = pure (some (.builtin id))) (hs:NoSl slice)
  (h:Am (Aw prog w) A (eval value env) (λo s₁=>Am (Aw prog w) A (eval slice env) (λi s₂=>s₂.TypeIs o T/\Am (Aw prog w) A (getItem o i) Q E s₂) E s₁) E s) :
  Am (Aw prog w) A (eval (.Subscript value slice pos) env) Q E s:=by
 refine Subscript_ (Bk h (λo s₁ h₁=>Bk h₁ (λi s₂ h₂=>?_) λ_ _ x=>x) λ_ _ x=>x);obtain⟨hT,h₂⟩:=h₂;unfold subscriptTail;refine Ab ?_
 rw[getitemInPython_of_ne hT.not_modules];refine Ab (wpAny_specialOf hT hl ?_)
 have fin:Am (Aw prog w) A (subscripted slice false o i) (λr s₃=>Am (Aw prog w) A (letTemporaryGo value o r >>= λ_=>pure r) Q E s₃) E s₂:=by rw[hs o i];exact wpAny_operating (Bk h₂ (λr s₃ h₃=>Ab (wpAny_letTemporaryGo (Af h₃))) λ_ _ x=>x)
 first
  |exact Af (Ab fin)
  |exact Ab (Af (Ab fin))
  |exact Ab fin
noncomputable def tDIn(ty td:TE):TE:=λσ H Q=>ty σ H λy H1=>td σ H1 λx H2=>∃a o,x=.ref a/\DGet H2 a y o/\Q (.bl o.isSome) H2
noncomputable def zlw(ty td:TE):TE:=λσ H Q=>ty σ H λy H1=>td σ H1 λx H2=>∃a o,x=.ref a/\DGet H2 a y o/\Q (.bl (!o.isSome)) H2
noncomputable def sDPut(td ty tv:TE):TS:=λD σ H=>tv σ H λv H1=>td σ H1 λx H2=>ty σ H2 λy H3=>∃a H4,x=.ref a/\DPut H3 a y v H4/\D.nx σ H4
section
variable {X:Cx}{o i e value:Expr}{pos pos' tpos:Pos}{td ty tv:TE}
theorem zhl(hu:X.A.units+1<cLine)(hi:PE X i ty)(ho:PE X o td):PC X .In i o (tDIn ty td):=by
 intro pins s σ H Q I h;refine thn (hi pins s σ H _ I h) λiv s1 ⟨y,H1,I1,ry,q1⟩=>thn (ho pins s1 σ H1 _ I1 q1) λu s2 ⟨x,H2,I2,rx,a,ov,ex,g,q2⟩=>?_
 subst ex;obtain rfl:u=Ao a:=rx;exact d_in hu I2 g ry λs3 I3=>⟨.bl ov.isSome,H2,I3,rfl,q2⟩
theorem zbM(hu:X.A.units+1<cLine)(hi:PE X i ty)(ho:PE X o td):PC X .NotIn i o (zlw ty td):=by
 intro pins s σ H Q I h;refine thn (hi pins s σ H _ I h) λiv s1 ⟨y,H1,I1,ry,q1⟩=>thn (ho pins s1 σ H1 _ I1 q1) λu s2 ⟨x,H2,I2,rx,a,ov,ex,g,q2⟩=>?_
 subst ex;obtain rfl:u=Ao a:=rx;exact zl5 hu I2 g ry λs3 I3=>⟨.bl (!ov.isSome),H2,I3,rfl,q2⟩
theorem ze2(hu:X.A.units + 1 < cLine)(ho:PE X o td)(hi:PE X i ty)(hv:PE X value tv)(hs:swapsWith value (some (.Subscript o i pos')) pos.line X.env=pure false) :
  PS X (.Assign [.Subscript o i pos'] value pos) (sDPut td ty tv):=by
 intro pins s σ H D I h;refine wpAny_Assign_Subscript (thn (hv pins s σ H _ I h) λr s1 ⟨v,H1,I1,rv,q1⟩=>thn (ho pins s1 σ H1 _ I1 q1) λu s2 ⟨x,H2,I2,rx,q2⟩=>thn (hi pins s2 σ H2 _ I2 q2) λiv s3 ⟨y,H3,I3,ry,a,H4,ex,g,q3⟩=>?_) hs;subst ex;obtain rfl:u=Ao a:=rx;exact zjY hu I3 g ry rv λs4 I4=>⟨σ,H4,I4,q3⟩
end
theorem zhE {P:AB}{w:AV}{H:Hp}(h:Heap) (hb:BS<h.objs.size):ObjOk P w H (h.push { cls:=.type "dict",data:=.dict #[] }) h.objs.size (.dT []) :=
 ⟨Be _,beq_eq_false_iff_ne.mpr (Bx (AK hb)),[],.nil,_,#[],0,Av _ rfl,⟨rfl,rfl,rfl⟩,rfl,rfl,List.nodup_nil⟩
noncomputable def zmk:TE:=λ_ H Q=>∀p,H p=none->Q (.ref p) (upd H p (.dT []))
section
variable {X:Cx}{pos:Pos}
theorem zcW:PE X (.Dict [] [] pos) zmk:=λpins s σ H Q I h =>
 wpAny_Dict_empty ⟨.ref s.heap.objs.size,_,I.laid (a:=s.heap.objs.size) (o:=.dT []) (t':=s.toks) (λ_ _ q=>Ae _ q) (Aj _) (zhE s.heap I.big),rfl,h _ (I.hok.fresh (Aj _))⟩
end
structure M1 (X:Cx) (o:Expr) (m:Str) (apos:Pos) (e:Expr) (cpos:Pos):Prop where
 base:attributeBase o m X.env (eval o X.env)=eval o X.env
 few:((DK cpos (A5 [e] X.env)).all (λx=>!x.1) && (DO cpos (CA [] X.env)).all (λx=>x.1.isSome)
  && decide (([e]:List Expr).length+([]:List Keyword).length+(if ([]:List Keyword).isEmpty then 0 else 1)<30))=true
 line:(apos.endLine == cpos.line)=true
 trees:DK cpos (A5 [e] X.env)=[(false,eval e X.env)]
structure M2 (X:Cx) (o:Expr) (m:Str) (apos:Pos) (e f:Expr) (cpos:Pos):Prop where
 base:attributeBase o m X.env (eval o X.env)=eval o X.env
 few:((DK cpos (A5 [e,f] X.env)).all (λx=>!x.1) && (DO cpos (CA [] X.env)).all (λx=>x.1.isSome)
  && decide (([e,f]:List Expr).length+([]:List Keyword).length+(if ([]:List Keyword).isEmpty then 0 else 1)<30))=true
 line:(apos.endLine == cpos.line)=true
 trees:DK cpos (A5 [e,f] X.env)=[(false,eval e X.env),(false,eval f X.env)]
noncomputable def IsD(H:Hp)(a:Addr):Prop:=(∃kvs,Rd H a (.dK kvs))∨∃kvs,Rd H a (.dT kvs)
theorem zmR{X:Cx}{pins:List (Addr × Obj)}{σ : St}{H:Hp}{s:Ac}{a:Addr}(I:Inv X pins σ H s)(d:IsD H a) :
  s.TypeIs (.ref a) "dict" /\ (∀b,Ao a=.ref b->∃ob,s.heap.get? b=some ob/\ob.dict=none)/\(a == BS)=false:=by
 rcases d with⟨kvs,e⟩ |⟨kvs,e⟩
 .obtain⟨_,hd,vs,_,dd⟩:=dk_rd I.hok e;refine⟨dd.typeIs,λb q=>?_,hd⟩
  cases q
  obtain⟨ob,_,_,h1,h2,_⟩:=dd;exact⟨ob,h1,h2.2.1⟩
 .obtain⟨_,hd,xs,_,dd⟩:=dt_rd I.hok e;refine⟨dd.typeIs,λb q=>?_,hd⟩
  cases q
  obtain⟨ob,_,_,h1,h2,_⟩:=dd;exact⟨ob,h1,h2.2.1⟩
section
variable {X:Cx}{pins:List (Addr×Obj)}{σ:St}{H:Hp}{s:Ac}{a:Addr}{y d:V}{u r:Value}{o:Option V}{A:AF}{E:Value->Ac->Prop}
end
section
variable {X:Cx}{o e f:Expr}{apos cpos:Pos}{td ty tx:TE}
end
section
variable {X:Cx}{pins:List (Addr×Obj)}{σ:St}{H:Hp}{s:Ac}{a:Addr}{kvs:List (Key×V)}{A:AF}{E:Value->Ac->Prop}
end
section
variable {X:Cx}{pins:List (Addr×Obj)}{σ:St}{H:Hp}{s:Ac}{a:Addr}{y:V}{u:Value}{A:AF}{E:Value->Ac->Prop}
end
end L2
namespace HT
open PySem PyProof.Rows
noncomputable def lexLt:List Int->List Int->Bool
 |[],[]=>false
 |[],_::_=>true
 |_::_,[]=>false
 |x::xs,y::ys=>if x=y then lexLt xs ys else decide (x<y)
theorem lexLt_cons(x y:Int)(xs ys:List Int):lexLt (x::xs) (y::ys)=if x=y then lexLt xs ys else decide (x<y):=rfl
theorem zfg:lexLt [] []=false:=rfl
theorem zen(y:Int)(ys:List Int):lexLt [] (y::ys)=true:=rfl
theorem zeo(x:Int)(xs:List Int):lexLt (x::xs) []=false:=rfl
theorem zkL(A:AF)(s:Ac)(a:Int)(t:Tok)(c:Int)(u:Tok):∃e,SeqAt.EqAt A s (.int a t) (.int c u) e/\(e=true ↔ a=c) :=
 ⟨(a == c),SeqAt.EqAt.int_int a t c u,by simp⟩
theorem zkn(A:AF)(s:Ac)(a:Int)(t:Tok)(c:Int)(u:Tok)(prog:AB)(w:AV)(E:Value -> Ac -> Prop)(Q:Value -> Ac -> Prop)(h:Q (.bool (decide (a < c))) s) :
  Am (Aw prog w) A (richCompare .Lt (.int a t) (.int c u)) Q E s :=
 (PyProof.Rows.lt_int h:Am (Aw prog w) A (BD .Lt (.int a t) (.int c u)) Q E s)
section
open PySem.SeqAt
open PySem.AutoSeq1 (wpAny_loadPart')
open PySem.MeetsSeq PySem.MeetsSeq2 PySem.MeetsSeq3
theorem zeM(l b:Addr)(items items2:Array Value)(n n2:Nat)(dd dd2:Option Addr)(sl sl2:Array (Option Value))(ns ms:List Int)(hi:IntsAre items.toList ns)(hj:IntsAre items2.toList ms) :
  Meets (Builtin.«tuple.__lt__» ⟨[.ref l,.ref b],[]⟩)
   (λ_ R s=>s.heap.get? l=some { cls:=.type "tuple",dict:=dd,data:=.seq items n,slots:=sl }/\s.heap.get? b=some { cls:=.type "tuple",dict:=dd2,data:=.seq items2 n2,slots:=sl2 } /\
    R (.ok (.ret (.bool (lexLt ns ms)))) s) :=
 .of_wp λprog w A R s h=>by
  obtain⟨hp,g,d,tk,os⟩:=s;obtain⟨hl,hb,h⟩:=h;have f2:=CW;have z1:items.size=ns.length:=by rw[<- hi.length];simp
  have z2:items2.size=ms.length:=by rw[<- hj.length];simp
  wp_walk using BP hl,BP hb,wpAny_forIn_list _ (λrest b s'=>b.1=none/\s'=⟨hp,g,d,tk,os⟩/\∃(vs ws:List Value) (ns' ms':List Int),rest=vs.zip ws /\
   IntsAre vs ns'/\IntsAre ws ms'/\ns'.length+items2.size=ms'.length+items.size/\R (.ok (.ret (.bool (lexLt ns' ms')))) ⟨hp,g,d,tk,os⟩) _
  case turn =>
   rintro⟨y,x⟩ rest b s' ⟨hb',rfl,vs,ws,ns',ms',hz,hvi,hwi,hlen,hR⟩
   cases hvi with
   |nil=>rw[List.zip_nil_left]at hz;cases hz
   |cons a t hvi' =>
    cases hwi with
    |nil=>rw[List.zip_nil_right]at hz;cases hz
    |cons c u hwi' =>
     rw[List.zip_cons_cons]at hz;injection hz with hyx hrest;injection hyx with hy hx;subst hy hx;rw[lexLt_cons]at hR;simp only[A7]at hlen;obtain⟨e,he,hiff⟩:=zkL A.in1 ⟨hp,g,d,tk,os⟩ a t c u;refine Ab (he prog w _ _ ?_)
     cases e with
     |true =>
      rw[if_pos (hiff.mp rfl)]at hR
      wp_walk
      exact⟨rfl,rfl,_,_,_,_,hrest,hvi',hwi',by lia,hR⟩
     |false =>
      rw[if_neg (λq=>absurd (hiff.mpr q) AT)]at hR;have hri:=zkn A.in1 ⟨hp,g,d,tk,os⟩ a t c u prog w
      wp_walk using hri
      exact⟨_,rfl,by simpa using hR⟩
  case fin =>
   rintro⟨b1,b2⟩ s' ⟨hb',rfl,vs,ws,ns',ms',hz,hvi,hwi,hlen,hR⟩;simp only at hb';subst hb'
   have hv:lexLt ns' ms'=decide (items.size<items2.size):=by
    cases hvi with
    |nil =>
     cases hwi with
     |nil =>
      simp only[DW]at hlen;rw[zfg];exact (decide_eq_false (by lia)).symm
     |cons c u hw =>
      simp only[DW,A7]at hlen;rw[zen];exact (decide_eq_true (by lia)).symm
    |cons a t hv =>
     cases hwi with
     |nil =>
      simp only[DW,A7]at hlen;rw[zeo];exact (decide_eq_false (by lia)).symm
     |cons c u hw =>
      rw[List.zip_cons_cons]at hz
      cases hz
   rw[hv]at hR
   wp_walk
   exact⟨_,rfl,by simpa[Builtin.Tuple.tupleCompareSizes]using hR⟩
  case h =>
   exact⟨rfl,rfl,items.toList,items2.toList,ns,ms,rfl,hi,hj,by lia,h⟩
end
section
variable {prog:AB}{w:AV}{A:AF}{E:Value->Ac->Prop}{s:Ac}
theorem lt_tupInts{l b:Addr}{items items2:Array Value}{ns ms:List Int}{Q:Value -> Ac -> Prop}(hl:IsTup s.heap l items)(hb:IsTup s.heap b items2)(hi:IntsAre items.toList ns)(hj:IntsAre items2.toList ms)
  (hu:A.units<cLine) (h:Q (.bool (lexLt ns ms)) s):Am (Aw prog w) A (BD .Lt (.ref l) (.ref b)) Q E s:=by
 obtain⟨⟨cls,dd,data,sl⟩,ho,hc,n,hd⟩:=id hl;obtain⟨⟨cls2,dd2,data2,sl2⟩,ho2,hc2,n2,hd2⟩:=id hb;simp only at hc hd hc2 hd2;subst hc hd hc2 hd2
 exact richCompare_meets_room (op:=.Lt) ⟨_,ho,rfl⟩ ⟨_,ho2,rfl⟩ PySem.F.slot_tuple_lt PySem.F.entry_tuple_lt (PySem.F.args_tuple_lt_2 _ _) (zeM l b items items2 n n2 dd dd2 sl sl2 ns ms hi hj)
  ⟨ho,ho2,show Value.bool (lexLt ns ms)≠Value.notImplemented/\Q (.bool (lexLt ns ms)) s from ⟨(λx=>nomatch x),h⟩⟩ hu
theorem cat_tup{t b:Addr}{vs ws:List Value}{Q:Value -> Ac -> Prop}(ht:IsTup s.heap t vs.toArray)(hb:IsTup s.heap b ws.toArray)(hv:vs ≠ [])
  (h1:ws=[]->Q (.ref t) s) (h2:ws≠[]->Q (.ref s.heap.objs.size) { s with heap:=s.heap.push { cls:=.type "tuple",data:=.seq (vs++ws).toArray } })
  (hsz:vs.length+ws.length<=sizeLine):Am (Aw prog w) A (Cb .Add (.ref t) (.ref b)) Q E s:=by
 obtain⟨⟨cls,dd,data,sl⟩,ho,hc,n,hd⟩:=id ht;obtain⟨⟨cls2,dd2,data2,sl2⟩,ho2,hc2,n2,hd2⟩:=id hb;simp only at hc hd hc2 hd2;subst hc hd hc2 hd2;have e:vs.toArray++ws.toArray=(vs++ws).toArray:=by simp
 by_cases hw:ws=[]
 .exact concat_meets ⟨_, ho, rfl⟩ ⟨_, ho2, rfl⟩ noFill_tuple_add seq_tuple_add PySem.F.slot_tuple_add D6 (DP _ _)
   (tuple_addW1 t b vs.toArray ws.toArray n n2 dd dd2 sl sl2 (by simpa using hv) (by simp[hw])) ⟨ho,ho2,h1 hw⟩
 .refine concat_meets ⟨_, ho, rfl⟩ ⟨_, ho2, rfl⟩ noFill_tuple_add seq_tuple_add PySem.F.slot_tuple_add D6 (DP _ _)
   (tuple_addW2 t b vs.toArray ws.toArray n n2 dd dd2 sl sl2 (by simpa using hv) (by simpa using hw) (by rw[As,As];exact hsz)) ⟨ho,ho2,?_⟩
  rw[e];exact h2 hw
noncomputable def sIx(n d:Nat):Option Int->Nat
 |none=>d
 |some v=>if v<0 then (v+(n:Int)).toNat else min v.toNat n
theorem sIx_nat(n d k:Nat):sIx n d (some (k:Int))=min k n:=by show (if (k:Int)<0 then ((k:Int)+(n:Int)).toNat else min (k:Int).toNat n)=min k n;rw[if_neg (by lia),Cm]
theorem zmq(n d:Nat)(hd:d<=n)(o:Option Int):sIx n d o<=n:=by
 cases o with
 |none=>exact hd
 |some v =>
  show (if v<0 then (v+(n:Int)).toNat else min v.toNat n)<=n
  by_cases hv:v<0
  .rw[if_pos hv];lia
  .rw[if_neg hv];exact Nat.min_le_right _ _
theorem zj1(v:Int)(n d:Nat):(if v<0 then max (v+(n:Int)) 0 else min v (n:Int))=((sIx n d (some v):Nat):Int):=by
 show (if v<0 then max (v+(n:Int)) 0 else min v (n:Int))=(((if v<0 then (v+(n:Int)).toNat else min v.toNat n):Nat):Int)
 by_cases hv:v<0
 .simp only[if_pos hv];lia
 .simp only[if_neg hv];lia
theorem zif(lo hi:Option Int)(n:Nat):DI lo hi 1 (n:Int)=(((sIx n 0 lo:Nat):Int),((sIx n n hi:Nat):Int)):=by
 have h1:¬ ((1:Int)<0):=by lia
 unfold DI;simp only[h1,if_false];refine Ch ?_ ?_
 .cases lo with
  |none=>rfl
  |some v=>exact zj1 v n 0
 .cases hi with
  |none=>rfl
  |some v=>exact zj1 v n n
theorem zh2(i j:Nat):BI (i:Int) (j:Int) 1=j-i:=by
 unfold BI;have h1:(1:Int) > 0:=by lia
 simp only[h1,if_true,Int.ediv_one];split <;> lia
theorem zeA{v:Value}{o:Option Int}{Q:Option Int->Ac->Prop}(p:IsPart v o)(h:Q o s):Am (Aw prog w) A (Builtin.Slice.slicePartIndex v) Q E s:=by
 cases p with
 |none=>exact slicePart_none h
 |int i t=>exact slicePart_int h
theorem zb5{sl:Addr}{vl vu:Value}{lo hi:Option Int}{n:Nat}{Q:Int × Int × Nat -> Ac -> Prop}(hs:s.heap.IsSliceOf sl vl vu .none)(pl:IsPart vl lo)(pu:IsPart vu hi)
  (h:Q (((sIx n 0 lo:Nat):Int),1,sIx n n hi-sIx n 0 lo) s):Am (Aw prog w) A (CG (.ref sl) (pure (n:Int))) Q E s:=by
 obtain⟨os,hos,hcs,hds⟩:=id hs;unfold CG Builtin.Slice.sliceFields;refine Ab (Ab (CO hos hds (x:=vl) rfl (Ab (CO hos hds (x:=vu) rfl (Ab (CO hos hds (x:=.none) rfl (Af ?_)))))));refine Ab (slicePart_none ?_);show Am _ _ (if ((1:Int) == 0)=true then _ else _) _ _ s;rw[if_neg (by decide)];refine Ab (zeA pl (Ab (zeA pu (Ab (Af ?_)))));show Am _ _ (match DI lo hi 1 (n:Int) with | (lo,hi)=>pure (lo,(1:Int),BI lo hi 1)) _ _ s;rw[zif lo hi n];show Am _ _ (pure (((sIx n 0 lo:Nat):Int),(1:Int),BI ((sIx n 0 lo:Nat):Int) ((sIx n n hi:Nat):Int) 1)) _ _ s;rw[zh2];exact Af h
theorem zkp(xs:Array Value)(i k:Nat):((AO k).filterMap λ(m:Nat)=>xs[((i:Int)+(m:Int)*1).toNat]?).toArray=((xs.toList.drop i).take k).toArray:=by
 have e:(λ(m:Nat)=>xs[((i:Int)+(m:Int)*1).toNat]?)=λm=>xs[i+m]?:=by
  funext m
  have:((i:Int)+(m:Int)*1).toNat=i+m:=by lia
  rw[this]
 rw[e];have:=pick_run xs i k;rw[Br]at this;have e2:((λx=>xs[x]?) ∘ λx=>i+x)=λm=>xs[i+m]?:=rfl
 rw[e2]at this;rw[this]
theorem getItem_tuple_cut{t sl:Addr}{items:Array Value}{vl vu:Value}{lo hi:Option Int}{Q:Value -> Ac -> Prop}(ht:IsTup s.heap t items)(hs:s.heap.IsSliceOf sl vl vu .none)(pl:IsPart vl lo)(pu:IsPart vu hi)
  (hw:¬ (sIx items.size 0 lo=0/\sIx items.size items.size hi=items.size))
  (h:Q (.ref s.heap.objs.size) { s with heap:=s.heap.push { cls:=.type "tuple",data:=.seq ((items.toList.drop (sIx items.size 0 lo)).take (sIx items.size items.size hi-sIx items.size 0 lo)).toArray } })
  (hsz:items.size<=sizeLine):Am (Aw prog w) A (getItem (.ref t) (.ref sl)) Q E s:=by
 have htake:sizeOk (.seq ((items.toList.drop (sIx items.size 0 lo)).take (sIx items.size items.size hi-sIx items.size 0 lo)).toArray):=by show ((items.toList.drop (sIx items.size 0 lo)).take (sIx items.size items.size hi-sIx items.size 0 lo)).toArray.size<=sizeLine;rw[As,A6,List.length_drop,C0];lia
 have hj:sIx items.size items.size hi<=items.size:=zmq _ _ (Aj _) hi;obtain⟨os,hos,hcs,hds⟩:=id hs;have hTs:s.TypeIs (.ref sl) "slice":=⟨os,hos,hcs⟩;unfold getItem
 try with_reducible refine A9 ?_
 first |refine Ab (Af ?_) |skip
 refine Ab (wpAny_sequenceKey ht.typeIs (by decide) ?_)
 refine Ab (Cn (name:=BW "__getitem__") ht.typeIs A3
  (C4 A3 ht.typeIs entry_tuple_getitem ?_ (args_tuple_getitem _ _)))
 show Am _ _ (Dy (.ref t) >>= _) _ _ s;refine Ab (tupleItemsOf_ ht ?_);refine Ab (wpAny_typeOf hTs ?_);rw[if_pos (by decide)];refine Ab (zb5 hs pl pu ?_)
 have hno:¬ ((((sIx items.size 0 lo:Nat):Int) == 0 && (1:Int) == 1 && (sIx items.size items.size hi-sIx items.size 0 lo) == items.size)=true):=by intro q;rw[Bw,Bw]at q;have q1:((sIx items.size 0 lo:Nat):Int)=0:=eq_of_beq q.1.1;have q2:sIx items.size items.size hi-sIx items.size 0 lo=items.size:=eq_of_beq q.2;exact hw ⟨by lia,by lia⟩
 show Am _ _ (if (((sIx items.size 0 lo:Nat):Int) == 0 && (1:Int) == 1 && (sIx items.size items.size hi-sIx items.size 0 lo) == items.size)=true then _ else _) _ _ s;rw[if_neg hno,zkp]
 first
  |exact Ab (m:=Bl _) (Bh (Af ⟨_,rfl,Af h⟩) htake)
  |exact Ab (m:=Bl _) (Bh (Ab (Af (Af ⟨_,rfl,Af h⟩))) htake)
  |exact Ab (Ab (m:=Bl _) (Bh (Af (Af ⟨_,rfl,Af h⟩)) htake))
  |exact Ab (Ab (m:=Bl _) (Bh (Af ⟨_,rfl,Af h⟩) htake))
end
end HT
namespace L2
open PySem PySem.Spec PyProof.Rows
noncomputable abbrev TO:=St->Hp->(Option Int->Hp->Prop)->Prop
noncomputable def PO(X:Cx)(e:Option Expr)(t:TO):Prop :=
 ∀(pins:List (Addr×Obj)) (s:Ac) (σ:St) (H:Hp) (Q:Option Int->Hp->Prop),Inv X pins σ H s->t σ H Q ->
  Am (Aw X.prog X.w) X.A (evalPart e X.env) (λu s'=>∃o H',Inv X pins σ H' s'/\IsPart u o/\Q o H') X.xe s
noncomputable def zca:TO:=λ_ H Q=>Q none H
noncomputable def tPart(t:TE):TO:=λσ H Q=>t σ H λx H1=>∃i,x=.int i/\Q (some i) H1
theorem zeF{ns:List Int}:∀{us:List Value},Vals (ns.map V.int) us->IntsAre us ns:=by
 induction ns with
 |nil=>intro us r;rw[List.map_nil]at r;cases r;exact .nil
 |cons n ns ih =>
  intro us r;rw[AR]at r
  cases r with
  |cons r1 r2 =>
   obtain⟨t,e⟩:=r1;subst e;exact .cons n t (ih r2)
section
variable {X:Cx}{e:Expr}{te:TE}{lo hi:Option Expr}{tl th:TO}{pos p2:Pos}
theorem zbx:PO X none zca:=by intro pins s σ H Q I h;rw[evalPart_none];exact Af ⟨none,H,I,.none,h⟩
theorem zbd(h:PE X e te):PO X (some e) (tPart te):=by
 intro pins s σ H Q I hw;rw[evalPart_some];refine thn (h pins s σ H _ I hw) λu s1 ⟨x,H1,I1,r1,q1⟩=>?_
 obtain⟨i,rfl,q⟩:=q1;obtain⟨t,rfl⟩:=r1;exact⟨some i,H1,I1,.int i t,q⟩
noncomputable def SlR(X:Cx)(r:V->Option Int->Option Int->Hp->VK->Prop):Prop :=
 ∀(pins:List (Addr×Obj)) (s:Ac) (σ:St) (H:Hp) (x:V) (v vl vu:Value) (lo hi:Option Int) (sl:Addr) (Q:VK),Inv X pins σ H s->RelV x v->s.heap.IsSliceOf sl vl vu .none->IsPart vl lo->IsPart vu hi->r x lo hi H Q ->
  ∃T id,typeLookup (.type T) "__getitem__" = pure (some (.builtin id))/\s.TypeIs v T/\Am (Aw X.prog X.w) X.A (getItem v (.ref sl)) (EP X pins σ Q) X.xe s
noncomputable def tSl(r:V->Option Int->Option Int->Hp->VK->Prop)(te:TE)(tl th:TO):TE:=λσ H Q=>te σ H λx H1=>tl σ H1 λl H2=>th σ H2 λu H3=>r x l u H3 Q
theorem za6{r:V->Option Int->Option Int->Hp->VK->Prop}(hr:SlR X r)(he:PE X e te)(hl:PO X lo tl)(hu:PO X hi th):PE X (.Subscript e (.Slice lo hi none p2) pos) (tSl r te tl th):=by
 intro pins s σ H Q I h;refine Subscript_ (thn (he pins s σ H _ I h) λv s1 ⟨x,H1,I1,r1,q1⟩=>?_);refine wpAny_Slice (thn (hl pins s1 σ H1 _ I1 q1) λvl s2 ⟨l,H2,I2,pl,q2⟩=>thn (hu pins s2 σ H2 _ I2 q2) λvu s3 ⟨u,H3,I3,pu,q3⟩=>?_);rw[evalPart_none];refine Af ?_
 have I4:Inv X pins σ H3 { s3 with heap:=s3.heap.push { cls:=.type "slice",data:=.fields #[vl,vu,.none] } }:=I3.kept (t':=s3.toks) λb ob q=>Ae _ q
 obtain⟨T,id,hT,ht,hg⟩:=hr pins { s3 with heap:=s3.heap.push { cls:=.type "slice",data:=.fields #[vl,vu,.none] } } σ H3 x v vl vu l u s3.heap.objs.size Q I4 r1 (Heap.IsSliceOf.new ..) pl pu q3;show Am (Aw X.prog X.w) X.A (subscriptTail e (.Slice lo hi none p2) v (.ref s3.heap.objs.size)) (EP X pins σ Q) X.xe { s3 with heap:=s3.heap.push { cls:=.type "slice",data:=.fields #[vl,vu,.none] } };exact tail_any (ops:=[.ref s3.heap.objs.size,v]) ht hT hg (by with_unfolding_all rfl)
noncomputable def cutV(xs:List V)(lo hi:Option Int):List V:=(xs.drop (HT.sIx xs.length 0 lo)).take (HT.sIx xs.length xs.length hi-HT.sIx xs.length 0 lo)
theorem zbm(xs:List V)(lo hi:Option Int):(cutV xs lo hi).length<=xs.length:=by unfold cutV;rw[A6,List.length_drop];lia
noncomputable def rSlT(K:W.Frag):V->Option Int->Option Int->Hp->VK->Prop:=λx lo hi H Q=>∃a xs,x=.ref a/\SqT K H a xs /\
 ¬ (HT.sIx xs.length 0 lo=0/\HT.sIx xs.length xs.length hi=xs.length)/\∀p,H p=none->Q (.ref p) (upd H p (.tup (cutV xs lo hi)))
theorem zmo:SlR X (rSlT X.K):=by
 intro pins s σ H x v vl vu lo hi sl Q I rx hs pl pu h;obtain⟨a,xs,rfl,hx,hw,q⟩:=h
 cases rx
 obtain⟨its,r,ht,hz⟩:=I.tuple hx;have hlen:its.toArray.size=xs.length:=by rw[As];exact r.length.symm
 refine⟨"tuple",_,A3.lookup,ht.typeIs,?_⟩;refine HT.getItem_tuple_cut ht hs pl pu (by rw[hlen];exact hw) ?_ (by rw[hlen];exact hz)
 rw[hlen];refine⟨.ref s.heap.objs.size,_,I.laid (t':=s.toks) (o:=.tup (cutV xs lo hi)) (λb ob q=>Ae _ q) (Aj _) ?_,rfl,q _ (I.hok.fresh (Aj _))⟩;exact⟨AM (zbm xs lo hi) hz,_,(r.drop (HT.sIx xs.length 0 lo)).take (HT.sIx xs.length xs.length hi-HT.sIx xs.length 0 lo),IsTup.new _ _⟩
noncomputable def rCatT(K:W.Frag):R2:=λx y H Q=>∃a b xs ys,x=.ref a/\y=.ref b/\SqT K H a xs/\SqT K H b ys/\xs≠[]/\xs.length+ys.length<=sizeLine /\
 (ys=[]->Q (.ref a) H)/\(ys≠[]->∀p,H p=none->Q (.ref p) (upd H p (.tup (xs++ys))))
theorem Vals.nil_iff{xs:List V}{us:List Value}(r:Vals xs us):us=[] ↔ xs=[]:=by
 cases r with
 |nil=>simp
 |cons _ _=>simp
theorem zgF:OpR X (Cb .Add) (rCatT X.K):=by
 intro pins s σ H x y v u Q I rx ry h;obtain⟨a,b,xs,ys,rfl,rfl,ha,hb,hx,hz,q1,q2⟩:=h
 cases rx
 cases ry
 obtain⟨its,r1,p1,_⟩:=I.tuple ha;obtain⟨its2,r2,p2,_⟩:=I.tuple hb;refine HT.cat_tup p1 p2 (λz=>hx (r1.nil_iff.mp z)) (λz=>⟨.ref a,H,I,rfl,q1 (r2.nil_iff.mp z)⟩) (λz=>?_) (by rw[<- r1.length,<- r2.length];exact hz);refine⟨.ref s.heap.objs.size,_,I.laid (t':=s.toks) (o:=.tup (xs++ys)) (λb ob q=>Ae _ q) (Aj _) ?_,rfl,q2 (λw=>z (r2.nil_iff.mpr w)) _ (I.hok.fresh (Aj _))⟩;exact⟨by rw[Ak];exact hz,_,r1.append r2,IsTup.new _ _⟩
end
noncomputable def ixN(n:Nat)(i:Int):Option Nat:=if 0<=i then (if i<n then some i.toNat else none) else if -(n:Int)<=i then some (i+n).toNat else none
noncomputable def atI{α:Type}(xs:List α)(i:Int):Option α:=(ixN xs.length i).bind λj=>xs[j]?
theorem zlZ{n:Nat}{i:Int}{j:Nat}(h:ixN n i=some j):seqIndex? i n=some j/\j<n/\-(n:Int)<=i/\i<n:=by
 unfold ixN at h
 by_cases h0:0<=i
 .rw[if_pos h0]at h
  by_cases h1:i<n
  .rw[if_pos h1]at h;have e:i.toNat=j:=A4 h;exact⟨by rw[seqIndex_of h0 h1,e],by lia,by lia,h1⟩
  .rw[if_neg h1]at h;cases h
 .rw[if_neg h0]at h
  by_cases h1:-(n:Int)<=i
  .rw[if_pos h1]at h;have e:(i+n).toNat=j:=A4 h;exact⟨by rw[seqIndex_neg (by lia) h1,e],by lia,h1,by lia⟩
  .rw[if_neg h1]at h;cases h
theorem zj6{α:Type}{xs:List α}{i:Int}{v:α}(h:atI xs i=some v):∃j,seqIndex? i xs.length=some j/\xs[j]?=some v/\j<xs.length/\-(xs.length:Int)<=i/\i<xs.length:=by
 unfold atI at h
 cases e:ixN xs.length i with
 |none=>rw[e]at h;cases h
 |some j =>
  rw[e]at h;obtain⟨h1,h2,h3,h4⟩:=zlZ e;exact⟨j,h1,h,h2,h3,h4⟩
theorem zaT{α:Type}{xs:List α}{j:Nat}{v:α}(h:xs[j]?=some v):atI xs (j:Int)=some v:=by
 have hj:j<xs.length:=(Ad.mp h).1
 have e:ixN xs.length (j:Int)=some j:=by unfold ixN;rw[if_pos (by lia),if_pos (by lia)];simp
 unfold atI;rw[e];exact h
noncomputable def zmb(b:Expr):Prop:=∀o i,subscripted b false o i=operate [o,i] (getItem o i)
noncomputable def IxR(X:Cx)(r:R2):Prop :=
 ∀(value slice:Expr) (pins:List (Addr×Obj)) (s:Ac) (σ:St) (H:Hp) (x y:V) (v u:Value) (Q:VK),Inv X pins σ H s->RelV x v->RelV y u->r x y H Q ->
  subscripted slice false v u=operate [v,u] (getItem v u)->Am (Aw X.prog X.w) X.A (subscriptTail value slice v u) (EP X pins σ Q) X.xe s
noncomputable def MtR(X:Cx)(id:String)(r:V->List V->Hp->VK->Prop):Prop :=
 ∀(pins:List (Addr×Obj)) (s:Ac) (σ:St) (H:Hp) (x:V) (xs:List V) (v:Value) (us:List Value) (Q:VK),Inv X pins σ H s->RelV x v->Vals xs us->r x xs H Q ->
  Am (Aw X.prog X.w) X.A (call (.builtin id) (v::us)) (EP X pins σ Q) X.xe s
section
variable {X:Cx}{a b:Expr}{ta tb:TE}{pos:Pos}
theorem pe_ix{r:R2}(hr:IxR X r)(ha:PE X a ta)(hb:PE X b tb)(hs:zmb b):PE X (.Subscript a b pos) (tOp r ta tb):=by intro pins s σ H Q I h;exact Subscript_ (binT ha hb I h λv u s2 x y H2 I2 rx ry q=>hr a b pins s2 σ H2 x y v u Q I2 rx ry q (hs _ _))
noncomputable def rIxL(K:W.Frag):R2:=λx y H Q=>∃p xs i v,x=.ref p/\y=.int i/\SqL K H p xs/\atI xs i=some v/\Q v H
noncomputable def rIxT(K:W.Frag):R2:=λx y H Q=>∃p xs i v,x=.ref p/\y=.int i/\SqT K H p xs/\atI xs i=some v/\Q v H
theorem zaP:IxR X (rIxL X.K):=by
 intro value slice pins s σ H x y v u Q I rx ry h hs;obtain⟨p,xs,i,z,rfl,rfl,hq,he,q⟩:=h
 cases rx
 obtain⟨t,rfl⟩:=ry;obtain⟨its,r,pl,hz⟩:=I.list hq;obtain⟨j,h1,h2,h3,h4,h5⟩:=zj6 he;obtain⟨w,ew,rw'⟩:=r.get h2;have hl:=r.length;have hn:=zhu;have fin:EP X pins σ Q w s:=⟨z,H,I,rw',q⟩
 by_cases h0:0<=i
 .have hj:i.toNat=j := by rw[seqIndex_of h0 h5]at h1;exact A4 h1
  exact item_listR pl.isList h0 (by lia) (by rw[hj];simpa using ew) fin hs
 .have hj:(i + (its.toArray.size:Int)).toNat=j := by rw[seqIndex_neg (by lia) h4]at h1;rw[As,<- hl];exact A4 h1
  exact subscriptTail_builtinR (x:=w) pl.isList.typeIs slot_list_getitem.lookup
   (wpAny_getItem_list_neg (Q:=λr s'=>r=w/\EP X pins σ Q r s') pl.isList (by lia) (by rw[As] <;> lia) (by lia) (by rw[hj];simpa using ew) ⟨rfl,fin⟩) hs
theorem zcn:IxR X (rIxT X.K):=by
 intro value slice pins s σ H x y v u Q I rx ry h hs;obtain⟨p,xs,i,z,rfl,rfl,hq,he,q⟩:=h
 cases rx
 obtain⟨t,rfl⟩:=ry;obtain⟨its,r,pl,hz⟩:=I.tuple hq;obtain⟨j,h1,h2,h3,h4,h5⟩:=zj6 he;obtain⟨w,ew,rw'⟩:=r.get h2;have hl:=r.length;have hn:=zhu;have fin:EP X pins σ Q w s:=⟨z,H,I,rw',q⟩
 exact subscriptTail_builtinR (x:=w) pl.typeIs slot_tuple_getitem.lookup
  (getItem_tuple (j:=j) (Q:=λr s'=>r=w/\EP X pins σ Q r s') pl (by lia) (by lia) (by rw[As,<- hl];exact h1) (by simpa using ew) ⟨rfl,fin⟩) hs
theorem zfF(lo hi:Option Int)(n:Nat):(D7 lo hi none n).1=((HT.sIx n 0 lo:Nat):Int)/\(D7 lo hi none n).2.1=((HT.sIx n n hi:Nat):Int)/\(D7 lo hi none n).2.2=1:=by
 refine⟨?_,?_,rfl⟩
 .cases lo with
  |none=>simp[D7,HT.sIx]
  |some i =>
   simp only[D7,HT.sIx,Option.getD_none,show (1:Int) > 0 by decide,if_true]
   by_cases h:i<0
   .simp only[h,if_true] <;> lia
   .simp only[h,if_false] <;> lia
 .cases hi with
  |none=>simp[D7,HT.sIx]
  |some i =>
   simp only[D7,HT.sIx,Option.getD_none,show (1:Int) > 0 by decide,if_true]
   by_cases h:i<0
   .simp only[h,if_true] <;> lia
   .simp only[h,if_false] <;> lia
theorem zeV(its:List Value)(lo hi:Option Int):slicePick its.toArray lo hi none=((its.drop (HT.sIx its.length 0 lo)).take (HT.sIx its.length its.length hi-HT.sIx its.length 0 lo)).toArray:=by obtain⟨h1,h2,h3⟩:=zfF lo hi its.toArray.size;unfold slicePick;rw[h1,h2,h3];simp only[sliceRange_one,pick_run,As] <;> rfl
noncomputable def rSlL(K:W.Frag):V->Option Int->Option Int->Hp->VK->Prop:=λx lo hi H Q=>∃a xs,x=.ref a/\SqL K H a xs/\∀p,H p=none->Q (.ref p) (upd H p (.lst (cutV xs lo hi)))
theorem zgv:SlR X (rSlL X.K):=by
 intro pins s σ H x v vl vu lo hi sl Q I rx hs pl pu h;obtain⟨a,xs,rfl,hx,q⟩:=h
 cases rx
 obtain⟨its,r,ht,hz⟩:=I.list hx;have hlen:=r.length;refine⟨"list",_,slot_list_getitem.lookup,ht.isList.typeIs,?_⟩;refine wpAny_getItem_list_slice ht.isList hs pl pu .none (by simp) ?_ (by rw[As] <;> lia)
 rw[zeV,<- hlen];refine⟨.ref s.heap.objs.size,_,I.laid (t':=s.toks) (o:=.lst (cutV xs lo hi)) (λb ob q=>Ae _ q) (Aj _) ?_,rfl,q _ (I.hok.fresh (Aj _))⟩;exact⟨AM (zbm xs lo hi) hz,_,0,(r.drop (HT.sIx xs.length 0 lo)).take (HT.sIx xs.length xs.length hi-HT.sIx xs.length 0 lo),Av _ rfl⟩
theorem zaL:CallR X (.builtin "len") (λxs H Q=>∃p ys,xs=[.ref p]/\(SqL X.K H p ys∨SqT X.K H p ys)/\Q (.int ys.length) H):=by
 intro pins s σ H xs us Q I r h;obtain⟨p,ys,rfl,hq,q⟩:=h;obtain⟨u,rfl,rx⟩:=vals1 r
 cases rx
 have hn:=zhu;rcases hq with hq |hq
 .obtain⟨its,r',pl,hz⟩:=I.list hq;have hlen:=r'.length;exact Calls.call_len_list pl.isList (by simp only[As] <;> lia) ⟨.int ys.length,H,I.tok _,⟨s.toks+1,by rw[As,hlen]⟩,q⟩
 .obtain⟨its,r',pl,hz⟩:=I.tuple hq;have hlen:=r'.length;exact len_tuple pl (by simp only[As] <;> lia) ⟨.int ys.length,H,I.tok _,⟨s.toks+1,by rw[As,hlen]⟩,q⟩
theorem zbZ:CallR X (.type "tuple") (λxs H Q=>∃p ys,xs=[.ref p]/\((SqL X.K H p ys/\∀l,H l=none->Q (.ref l) (upd H l (.tup ys)))∨(SqT X.K H p ys/\Q (.ref p) H))):=by
 intro pins s σ H xs us Q I r h;obtain⟨p,ys,rfl,h⟩:=h;obtain⟨u,rfl,rx⟩:=vals1 r
 cases rx
 rcases h with⟨hq,q⟩ |⟨hq,q⟩
 .obtain⟨its,r',pl,hz⟩:=I.list hq;have hlen:=r'.length;refine call_tuple_list pl.isList (λh' kp=>?_) (by simp only[As] <;> lia);have I1:Inv X pins σ H { s with heap:=h' }:=I.kept (t':=s.toks) kp
  have I2:Inv X pins σ (upd H h'.objs.size (.tup ys)) { s with heap:=h'.push { cls:=.type "tuple",data:=.seq its.toArray } } :=
   I1.laid (t':=s.toks) (λb o e=>Ae _ e) (Aj _) (show ObjOk X.prog X.w _ _ _ (.tup ys) from ⟨hz,its,r',IsTup.new _ _⟩)
  exact⟨.ref h'.objs.size,_,I2,rfl,q _ (I1.hok.fresh (Aj _))⟩
 .obtain⟨its,r',pl,hz⟩:=I.tuple hq;exact call_tuple_same pl ⟨.ref p,H,I,rfl,q⟩
noncomputable def tyV(K:W.Frag)(T:String)(x:V)(H:Hp):Prop:=match x with
  |.str _=>T = "str"
  |.int _=>T = "int"
  |.ref p => (T = "list" /\ ∃xs, SqL K H p xs) ∨ (T = "tuple" /\ ∃o, K.lookup p=some o /\ o.cls = .type "tuple" /\ o.dict=none) ∨
      (T = "dict" /\ ((∃kvs,H p=some (.dK kvs))∨∃kvs,H p=some (.dT kvs)))∨(T = "set" /\ ∃S n,H p=some (.set S n))
  |_=>False
theorem zkW{pins:List (Addr × Obj)}{σ : St}{H:Hp}{s:Ac}{T:String}{x:V}{v:Value}(I:Inv X pins σ H s)(r:RelV x v)(ty:tyV X.K T x H) :
  s.TypeIs v T/\∀a,v=.ref a->∃ob,s.heap.get? a=some ob/\ob.dict=none:=by
 cases x with
 |str z =>
  obtain⟨t,rfl⟩:=r
  cases (show T = "str" from ty)
  exact⟨typeIs_str s z t,λ_ e=>nomatch e⟩
 |int i =>
  obtain⟨t,rfl⟩:=r
  cases (show T = "int" from ty)
  exact⟨typeIs_int s i t,λ_ e=>nomatch e⟩
 |ref p =>
  cases r
  rcases ty with⟨rfl,xs,hq⟩ |⟨rfl,o,hk,hc,hd⟩ |⟨rfl,hk⟩ |⟨rfl,S,n,hk⟩
  .obtain⟨its,_,pl,_⟩:=I.list hq;refine⟨pl.isList.typeIs,λa e=>?_⟩
   cases e
   obtain⟨o,n,e,c,hd,_⟩:=pl;exact⟨o,e,hd⟩
  .refine⟨⟨o,I.kIn p o hk,hc⟩,λa e=>?_⟩
   cases e
   exact⟨o,I.kIn _ o hk,hd⟩
  .have z:∃o, s.heap.get? p=some o /\ o.ExactDict := by
    rcases hk with⟨kvs,hk⟩ |⟨kvs,hk⟩
    .obtain⟨_,_,_,_,o,_,_,e,ex,_⟩:=I.hok p _ hk;exact⟨o,e,ex⟩
    .obtain⟨_,_,_,_,o,_,_,e,ex,_⟩:=I.hok p _ hk;exact⟨o,e,ex⟩
   obtain⟨o,e,ex⟩:=z;refine⟨⟨o,e,ex.1⟩,λa e2=>?_⟩
   cases e2
   exact⟨o,e,ex.2.1⟩
  .obtain⟨o,_,_,_,e,ex,_⟩:=I.hok p _ hk;refine⟨⟨o,e,ex.1⟩,λa e2=>?_⟩
   cases e2
   exact⟨o,e,ex.2.1⟩
 |_=>exact Bj ty
noncomputable def tBM0(K:W.Frag)(T:String)(r:V->List V->Hp->VK->Prop)(to:TE):TE:=λσ H Q=>to σ H λx H1=>tyV K T x H1/\r x [] H1 Q
noncomputable def tBM(K:W.Frag)(T:String)(r:V->List V->Hp->VK->Prop)(to:TE)(t:TA):TE:=λσ H Q=>to σ H λx H1=>tyV K T x H1/\t σ H1 λxs H2=>r x xs H2 Q
variable {o e:Expr}{es:List Expr}{to:TE}{t:TA}{name:Str}{apos cpos:Pos}{T id:String}{r:V->List V->Hp->VK->Prop}
theorem zmE (pa:PlainAttrs T) (slot:Slot T name id) (hty:typeOf (.builtin id)=pure (.type "method_descriptor")) (hm:MtR X id r) (ho:PE X o to)
  (hbase:attributeBase o name X.env (eval o X.env)=eval o X.env:=by rfl) (hline:(apos.endLine == cpos.line)=true:=by rfl):PE X (.Call (.Attribute o name apos) [] [] cpos) (tBM0 X.K T r to):=by
 intro pins s σ H Q I h;refine wpAny_Call_method0_late hbase hline (thn (ho pins s σ H _ I h) λv s1 ⟨x,H1,I1,r1,ty,q1⟩=>?_);obtain⟨h1,h2⟩:=zkW I1 r1 ty;exact⟨T,id,pa,slot,hty,h1,h2,Calls.callWith_builtin rfl (PySem.evalArgs_none (hm pins s1 σ H1 x [] v [] Q I1 r1 .nil q1))⟩
theorem pe_bm (pa:PlainAttrs T) (slot:Slot T name id) (hty:typeOf (.builtin id)=pure (.type "method_descriptor")) (hm:MtR X id r) (ho:PE X o to) (ha:PA X (e :: es) t)
  (hbase:attributeBase o name X.env (eval o X.env)=eval o X.env:=by rfl)
  (hfew:((DK cpos (A5 (e::es) X.env)).all (λx=>!x.1) && (DO cpos (CA [] X.env)).all (λx=>x.1.isSome)
   && decide ((e::es).length+([]:List Keyword).length+(if ([]:List Keyword).isEmpty then 0 else 1)<30))=true:=by rfl)
  (hline:(apos.endLine == cpos.line)=true:=by rfl) (hs:A5 (e::es) X.env=(false,eval e X.env)::A5 es X.env:=by rfl) (hplain:(DK cpos (A5 es X.env)).any (·.1)=false:=by rfl) :
  PE X (.Call (.Attribute o name apos) (e::es) [] cpos) (tBM X.K T r to t):=by
 intro pins s σ H Q I h;refine wpAny_Call_method_late hbase hfew hline rfl (thn (ho pins s σ H _ I h) λv s1 ⟨x,H1,I1,r1,ty,q1⟩=>?_);obtain⟨h1,h2⟩:=zkW I1 r1 ty;refine⟨T,id,pa,slot,hty,h1,h2,?_⟩;have hA:=ha cpos pins s1 σ H1 _ I1 q1;rw[hs]at hA ⊢;refine Calls.callWith_builtin (by show (false || (DK cpos (A5 es X.env)).any (·.1))=false;rw[hplain] <;> rfl) (Calls.evalArgs_plain ?_);exact thn hA λus s2 ⟨vs,H2,I2,r2,q2⟩=>hm pins s2 σ H2 x vs v us Q I2 r1 r2 q2
/- xs.append(e),list.index on a module's tuple .. are MtR facts of 06m -/
end
noncomputable def MtM(X:Cx)(id:String)(r:V->List V->Hp->VK->Prop):Prop :=
 ∀(pins:List (Addr×Obj)) (s:Ac) (σ:St) (H:Hp) (x:V) (xs:List V) (v:Value) (us:List Value) (Q:VK),Inv X pins σ H s->RelV x v->Vals xs us->r x xs H Q ->
  Am (Aw X.prog X.w) X.A (call (.builtin id) (v::us)) (EP X pins σ Q) X.xe s
theorem Vals.one:∀{x:V}{us:List Value},Vals [x] us->∃u,us=[u]/\RelV x u
 |_,_,.cons r .nil=>⟨_,rfl,r⟩
theorem Vals.zero:∀{us:List Value},Vals [] us->us=[]
 |_,.nil=>rfl
theorem Vals.dropLast{xs:List V}{us:List Value}(h:Vals xs us):Vals xs.dropLast us.dropLast:=by
 induction h with
 |nil=>exact .nil
 |cons r t ih =>
  cases t with
  |nil=>exact .nil
  |cons q t'=>exact .cons r ih
theorem Vals.reverse{xs:List V}{us:List Value}(h:Vals xs us):Vals xs.reverse us.reverse:=by
 induction h with
 |nil=>exact .nil
 |cons r t ih=>rw[List.reverse_cons,List.reverse_cons];exact Vals.append ih (.cons r .nil)
theorem Vals.rep{xs:List V}{us:List Value}(h:Vals xs us):∀k:Nat,Vals (Ah k xs).flatten (Ah k us).flatten
 | 0=>.nil
 |k+1=>by
  rw[BL,BL,By,By];exact Vals.append h (Vals.rep h k)
theorem zic{α:Type}(l:List α):l.eraseIdx (l.length-1)=l.dropLast:=by
 induction l with
 |nil=>rfl
 |cons a r ih =>
  cases r with
  |nil=>rfl
  |cons b r =>
   have e:(a::b::r).length-1=((b::r).length-1)+1:=by have h1:(a::b::r).length=r.length+2:=rfl;have h2:(b::r).length=r.length+1:=rfl;lia
   rw[e,List.eraseIdx_cons_succ,ih]
   all_goals rfl
theorem zf6(its:List Value):∀(k:Nat) (acc:List Value),
  List.foldl (λx1 x2=>x1++x2) acc.toArray (Ah k its.toArray)=(acc++(Ah k its).flatten).toArray
 | 0,acc=>by simp
 |k+1,acc=>by
  have e:acc.toArray++its.toArray=(acc++its).toArray:=by simp
  have e2:(acc++its)++(Ah k its).flatten=acc++(Ah (k+1) its).flatten:=by rw[BL,By,Co]
  rw[<- e2,<- zf6 its k (acc++its),<- e,BL,List.foldl_cons]
section
variable {X:Cx}{pins:List (Addr×Obj)}{σ:St}{H:Hp}{s:Ac}{l b:Addr}{xs ys zs:List V}
theorem Inv.lset{its its':List Value}{n:Nat}{f:Array Value -> Array Value}{t':Nat}(I:Inv X pins σ H s)(hH:H l=some (.lst xs))
  (e:s.heap.get? l=some { cls:=.type "list",data:=.seq its.toArray n }) (hf:f its.toArray=its'.toArray) (hv:Vals ys its') (hz:ys.length<=sizeLine) :
  Inv X pins σ (upd H l (.lst ys)) { s with heap:=s.heap.update l (AU f),toks:=t' }:=by
 have q:=PySem.IsL.update e f;rw[hf]at q;refine I.write (x:=l) (e:=l) (by rw[hH];exact trivial) (.inl rfl) (λb' u hb hu=>(AW s.heap (AU f) (Bx hb)).trans hu) ⟨_,q⟩ ?_
 exact⟨hz,its',_,hv,q⟩
theorem Inv.lnew{its:List Value}{t':Nat}(I:Inv X pins σ H s)(hv:Vals ys its)(hz:ys.length <= sizeLine) :
  Inv X pins σ (upd H s.heap.objs.size (.lst ys)) { s with heap:=s.heap.push { cls:=.type "list",data:=.seq its.toArray },toks:=t' } :=
 I.laid (λ_ _ q=>Ae _ q) (Aj _) ⟨hz,its,0,hv,Av _ rfl⟩
theorem Inv.fresh(I:Inv X pins σ H s):H s.heap.objs.size=none:=I.hok.fresh (Aj _)
theorem Inv.lstM (I:Inv X pins σ H s) (hH:H l=some (.lst xs)):xs.length<=sizeLine/\∃(its:List Value) (n:Nat),Vals xs its/\xs.length=its.length/\s.heap.get? l=some { cls:=.type "list",data:=.seq its.toArray n }:=by obtain⟨z,its,n,r,e⟩:=I.hok l _ hH;exact⟨z,its,n,r,r.length,e⟩
theorem zho{n:Nat}(h:n<=sizeLine):CY n=false:=by unfold CY;exact decide_eq_false (by lia)
end
section
variable {X:Cx}
noncomputable def zlH:V->List V->Hp->VK->Prop:=λx vs H Q=>∃l xs y,x=.ref l/\vs=[y]/\H l=some (.lst xs)/\xs.length<sizeLine/\Q .non (upd H l (.lst (xs++[y])))
theorem zaU:MtM X "list.append" zlH:=by
 intro pins s σ H x vs v us Q I rx rv h;obtain⟨l,xs,y,rfl,rfl,hH,hz,q⟩:=h
 cases rx
 obtain⟨u,rfl,ru⟩:=rv.one;obtain⟨z,its,n,r,hl,e⟩:=I.lstM hH;refine CZ F.slot_list_append ⟨_,e,rfl⟩ F.entry_list_append (F.args_list_append_2 _ _) (PySem.list_append l its.toArray n u (by rw[As];lia)) ⟨e,?_⟩;refine⟨.non,_,I.lset (its':=its++[u]) hH e (by simp) (r.append (.cons ru .nil)) ?_,rfl,q⟩;rw[Ak,Bs];lia
noncomputable def zlF:V->List V->Hp->VK->Prop:=λx vs H Q=>∃l b xs zs,x=.ref l/\vs=[.ref b]/\H l=some (.lst xs)/\H b=some (.lst zs)/\xs.length+zs.length<=sizeLine/\Q .non (upd H l (.lst (xs++zs)))
theorem zdY:MtM X "list.extend" zlF:=by
 intro pins s σ H x vs v us Q I rx rv h;obtain⟨l,b,xs,zs,rfl,rfl,hH,hB,hz,q⟩:=h
 cases rx
 obtain⟨u,rfl,ru⟩:=rv.one
 cases ru
 obtain⟨z,its,n,r,hl,e⟩:=I.lstM hH;obtain⟨z2,its2,n2,r2,hl2,e2⟩:=I.lstM hB;have hsz:its.toArray.size+its2.toArray.size<=sizeLine:=by rw[As,As];lia
 have hlong:¬ (!its.toArray.isEmpty && CY (its.toArray.size+its2.toArray.size))=true:=by rw[zho hsz,Bool.and_false];exact AT
 refine CZ F.slot_list_extend ⟨_,e,rfl⟩ F.entry_list_extend (F.args_list_extend_2 _ _)
  (AutoSeq1.list_extend_list_list_0 l its.toArray n b its2.toArray n2 hlong (by rw[As];lia) (by lia)) ⟨e,e2,?_⟩
 refine⟨.non,_,I.lset (its':=its++its2) hH e (by simp) (r.append r2) ?_,rfl,q⟩;rw[Ak];lia
noncomputable def rPop:V->List V->Hp->VK->Prop:=λx vs H Q=>∃l xs y,x=.ref l/\vs=[]/\H l=some (.lst xs)/\xs[xs.length-1]?=some y/\Q y (upd H l (.lst xs.dropLast))
theorem zmL:MtM X "list.pop" rPop:=by
 intro pins s σ H x vs v us Q I rx rv h;obtain⟨l,xs,y,rfl,rfl,hH,hy,q⟩:=h
 cases rx
 have hus:=rv.zero;subst hus;obtain⟨z,its,n,r,hl,e⟩:=I.lstM hH;obtain⟨u,hu,ru⟩:=r.get hy
 have hy':its.toArray[its.toArray.size-1]?=some u:=by show its.toArray[its.length-1]?=some u;rw[<- Dt,<- hl];exact hu
 refine CZ F.slot_list_pop ⟨_,e,rfl⟩ F.entry_list_pop (F.args_list_pop_1 _) (MeetsSeq.list_pop_last l its.toArray n u hy' (by rw[As];lia)) ⟨e,?_⟩;refine⟨y,_,I.lset (its':=its.dropLast) hH e ?_ r.dropLast ?_,ru,q⟩
 .show its.toArray.eraseIdxIfInBounds (its.toArray.size-1)=its.dropLast.toArray;rw[As,List.eraseIdxIfInBounds_toArray,zic]
 .rw[List.length_dropLast];lia
noncomputable def rCat:R2:=λx y H Q=>∃l b xs zs,x=.ref l/\y=.ref b/\H l=some (.lst xs)/\H b=some (.lst zs)/\xs.length+zs.length<=sizeLine/\∀p,H p=none->Q (.ref p) (upd H p (.lst (xs++zs)))
theorem zfQ:OpR X (Cb .Add) rCat:=by
 intro pins s σ H x y v u Q I rx ry h;obtain⟨l,b,xs,zs,rfl,rfl,hH,hB,hz,q⟩:=h
 cases rx
 cases ry
 obtain⟨z,its,n,r,hl,e⟩:=I.lstM hH;obtain⟨z2,its2,n2,r2,hl2,e2⟩:=I.lstM hB;refine PySem.P.add_list e e2 ?_ (by rw[As,As];lia)
 have ea:its.toArray++its2.toArray=(its++its2).toArray:=by simp
 rw[ea];exact⟨.ref _,_,I.lnew (t':=s.toks) (r.append r2) (by rw[Ak];lia),rfl,q _ I.fresh⟩
noncomputable def rRep:R2:=λx y H Q=>∃l k xs,x=.ref l/\y=.int k/\H l=some (.lst xs)/\-(2 ^ 63)<=k/\k<2 ^ 63/\xs.length*k.toNat<=sizeLine /\
 ∀p,H p=none->Q (.ref p) (upd H p (.lst (Ah k.toNat xs).flatten))
theorem zlY{α:Type}(xs:List α)(k:Nat):(Ah k xs).flatten.length=k*xs.length:=by
 induction k with
 |zero=>simp
 |succ k ih=>rw[BL,By,Ak,ih,Nat.succ_mul,Nat.add_comm]
theorem zle:OpR X (Cb .Mult) rRep:=by
 intro pins s σ H x y v u Q I rx ry h;obtain⟨l,k,xs,rfl,rfl,hH,h1,h2,hz,q⟩:=h
 cases rx
 obtain⟨t,rfl⟩:=ry;obtain⟨z,its,n,r,hl,e⟩:=I.lstM hH;have hlen:its.toArray.size*k.toNat<=sizeLine:=by rw[As,<- hl];exact hz
 have hcap:¬ its.toArray.size*k.toNat > (2 ^ 63-1) / 8:=by
  have:(sizeLine:Nat)<=(2 ^ 63-1) / 8:=by decide
  lia
 have hfit:¬ (!Builtin.List.listFitsIndex k)=true:=by rw[fitsIndex_both h1 h2];exact AT
 have hlong:¬ CY (its.toArray.size*k.toNat)=true:=by rw[zho hlen];exact AT
 have hnew:List.foldl (λx1 x2=>x1++x2) #[] (Ah (if its.toArray.isEmpty=true then 0 else k.toNat) its.toArray)=(Ah k.toNat its).flatten.toArray:=by
  have f0:∀m:Nat,List.foldl (λx1 x2=>x1++x2) #[] (Ah m its.toArray)=(Ah m its).flatten.toArray:=λm=>by have:=zf6 its m [];rw[List.nil_append]at this;exact this
  rw[f0]
  cases its with
  |nil=>simp
  |cons a r'=>rw[if_neg (by simp)]
 refine DJ (T:="list") (U:="int") (by decide) ⟨_,e,rfl⟩ (λs'=>typeIs_int s' k t) noFill_list_mul F.fills_int_mul Dh repeat_list D9.lookup
  (CZ Dh (typeIs_int s k t) F.entry_int_rmul (F.args_int_rmul_2 _ _) (int___rmul___int_list k t l its.toArray n)
   ⟨e,rfl,⟨_,e,rfl⟩,CZ F.slot_list_mul ⟨_,e,rfl⟩ F.entry_list_mul (F.args_list_mul_2 _ _) (AutoListH.list___mul___list_int_3 l its.toArray n k t hfit hcap hlong) ⟨e,?_⟩⟩)
 rw[hnew];exact⟨.ref _,_,I.lnew (t':=s.toks) (r.rep k.toNat) (by rw[zlY,Nat.mul_comm];exact hz),rfl,q _ I.fresh⟩
end
section
variable {prog:AB}{w:AV}{A:AF}{E:Value->Ac->Prop}{s:Ac}
end
section
variable {X:Cx}
end
end L2
namespace Att
open PySem PySem.W PySem.Calls PyProof.Rows
theorem zd5{P:Params}{h:Heap}:∀(ns:List Int) (vs:List Value),WellAll P h vs (ns.map WData.int)->IntsAre vs ns:=by
 intro ns
 induction ns with
 |nil =>
  intro vs w;rw[List.map_nil]at w
  cases w
  exact .nil
 |cons n ns ih =>
  intro vs w;rw[AR]at w
  cases w with
  |cons a b =>
   cases a
   exact .cons _ _ (ih _ b)
theorem ziW{l:OpenLaw}{n:Nat}(hn:l.most=some n){P:Params}{h:Heap}{args:List WData}{vals:List Value}
  (hpre:l.row.toRowW.claim.pre args=true) (hwl:WellAll P h vals args) :
  ∃a vs ns,vals=[Ao a]/\args=[WData.list (ns.map WData.int)]/\h.get? a=some { cls:=.type "list",data:=.seq vs.toArray }/\IntsAre vs ns/\ns.length<=n:=by
 have hsh:WShape.hasAll [] args [.list .int]=true:=(pre_splitW hpre).1;have hc:l.pre.holds [] { args:=args }=true:=(pre_splitW hpre).2;obtain⟨d,r,rfl,h1,h2⟩:=hasAllW_cons hsh;obtain rfl:=hasAllW_nil h2;obtain⟨xs,rfl,h3⟩:=hasW_list h1;obtain⟨ns,rfl⟩:=items_int h3
 have hlen:ns.length<=n:=by
  unfold OpenLaw.pre at hc
  have h4:(WTm.not (.lt (.lit (.int (n:Int))) (.len (.arg 0)))).holds [] { args:=[.list (ns.map .int)] }=true:=by have h4:=(holds_andW hc).1;rw[hn]at h4;exact h4
  have h5:=condW_of h4 (w_not (w_lt w_lit (w_len_list (w_arg rfl))));rw[Ai]at h5;refine Nat.le_of_not_lt λq=>?_
  have q':(n:Int)<((ns.length:Nat):Int):=by lia
  first
   | (rw[decide_eq_true q']at h5;exact absurd h5 (by decide))
   | (simp at h5;lia)
 cases hwl with
 |cons w1 w2 =>
  cases w2
  cases w1 with
  |list ho hall=>exact⟨_,_,ns,rfl,rfl,ho,zd5 ns _ hall,hlen⟩
theorem zi9(l:OpenLaw)(args:List WData):l.row.toRowW.claim.post args (.bool true) args=true :=
 postW_of (r:=l.row.toRowW) (X:=(true == true))
  (show WShape.has [] (.bool true) .bool=true by first |rfl |decide |simp[WShape.has,WShape.arms,WShape.armsAll])
  (show (WTm.eq .res (.lit (.bool true))).value [] { args:=args,res:=some (.bool true),after:=args }=some (.bool (true == true)) from w_eq_bool (w_res rfl) w_lit) rfl
theorem attach_call{l:OpenLaw}{n:Nat}{q:AB}{loose:List Str}{XP:(Str -> Option Value) -> Heap -> Prop}{YP:AV -> Heap -> Prop}{d:DefRec}
  (hn:l.most=some n) (hdf:d.params.defaults=[])
  (call:∀(w:AV) (s₀ s₁:Ac) (mg mb:Str->Option Value) (fa:Addr) (o:Obj) (pm cd doc:Value) (a:Addr) (vs:List Value) (ns:List Int),
   Ground q loose [] XP w s₀ mg mb s₁.heap->YP w s₁.heap ->
   s₁.heap.get? fa=some o->o.data=.func (docDef d.name d.params d.body d.scope pm cd doc)->s₁.heap.CodeRec cd d.name->mg d.name=some (.ref fa) ->
   s₁.heap.get? a=some { cls:=.type "list",data:=.seq vs.toArray }->IntsAre vs ns->ns.length<=n->s₁.gens=#[] ->
   CK (Aw l.prog w) callerA (.call (.ref fa) ⟨[.ref a],[]⟩) (λr s'=>r=.ok (.ret (.bool true))/\OldK s₁.heap s'.heap/\s'.os=s₁.os/\AllBare s'.gens) s₁) :
  WalkO q loose XP YP l.row.toRowW d [] (λf vs=>PySem.call f vs):=by
 intro w s₀ s₁ mg mb G Y fa o pm cd doc dV kV ho hd hcd hD hmg hg args vals as hpre hlay hrd hwl hlo;obtain rfl:dV=.none:=Dflts.none hD hdf;obtain rfl:kV=.none:=Dflts.noKw hD;obtain⟨a,vs,ns,rfl,rfl,hobj,hints,hlen⟩:=ziW hn hpre hwl;refine enter_call (C7 (call w s₀ s₁ mg mb fa o pm cd doc a vs ns G Y ho (fd_plain hd) hcd hmg hobj hints hlen hg) λr s' hq=>?_);obtain⟨rfl,h2,h3,h4⟩:=hq;exact⟨.inl ⟨.bool true,.bool true,[],rfl,λ_=>rfl,.bool true,zi9 l _,λ_=>⟨List.Pairwise.nil,λ_ hm=>(nomatch hm)⟩⟩,h2,h3,h4⟩
section
variable {prog:AB}{w:AV}{A:AF}{E:Value->Ac->Prop}{s:Ac}{K:Frag}
noncomputable def zm7(h:Heap)(L d:Addr):List (Addr×Obj):=(AO h.objs.size).filterMap λa=>if a=L∨a=d then none else (h.get? a).map λo=>(a,o)
end
end Att
namespace L2
open PySem PySem.Spec PyProof.Rows
theorem zfA:∀{vs:List Value}{ns:List Int},IntsAre vs ns->Vals (ns.map V.int) vs
 |_,_,.nil=>.nil
 |_,_,.cons n t h=>.cons ⟨t,rfl⟩ (zfA h)
noncomputable abbrev KOf{K:W.Frag}{h:Heap}(_:K.In h):W.Frag:=K
end L2
/- THE LAST THEOREM (shape; LID, My.* are yours):
  My.Adr: a structure of the addresses that your layer names (classes,functions);My.Txt K t: a structure (Prop) of the equations over K;
  My.txt_mk:{K} {implicit addresses ..} (e1:nsIn K AE "law" = some (some (.ref f))) (e2:K.lookup f=some ⟨oc,od,.func (fnOf "law" "law" params body scope dV kV doc pm an cdv ct),sl⟩) (e3:codeIn K cdv "law" = true) ..:∃t,My.Txt K t
set_option maxRecDepth 100000 in
set_option maxHeartbeats 0 in
theorem PySem.Challenge.cw_LID_holds : PySem.Challenge.rw_LID.Holds := by
 w_on;o_law;k_head;(case hw=>w_witness2)
 k_fill
 refine L2.walk_of (l:=PySem.Challenge.rw_LID) (n:=63) (k:=40) (x:="script") (CX:=λw=>..) (sp:=λ_=>My.sp_law) rfl (by decide) rfl ⟨rfl,by decide,by decide⟩ (λw h Y=>W.kIn_of Y) ?F ?S ?C
 case F =>
  intro w mg fa h KX G hmg
  have T:∃ t,My.Txt (L2.KOf KX) t:=by
   dsimp only[L2.KOf]                          -- K must stand as «<heap const> w.params» for k_is
   refine' My.txt_mk ?e1 ?e2 ?e3 ..
   (case e1=>W.k_is)                    -- in the order: a name -> its address -> its object -> its parts
   (case e2=>W.k_is)
   ..
  obtain⟨t,T⟩:=T
  have e0:=hmg.symm.trans (DE KX G T.law)
  cases e0                                       -- fa is the law's own address
  exact⟨_,λs u=>.of_eq rfl,λbase kb nb=>My.law_fn T kb nb⟩     -- if «.of_eq rfl» comes too early: refine' ⟨_,?b,λbase kb nb=>My.law_fn T kb nb⟩;exact λs u=>.of_eq rfl
 case S=>exact λw H a ns hl hO hS=>..
 case C=>exact ..
(the tactic k_is has no namespace: write k_is) -/
namespace L2
open PySem PySem.Spec PyProof.Rows
noncomputable def zaZ(s:Stmt):Arguments:=match s with
 |.FunctionDef _ a _ _ _ _ _ _ _ _=>a
 |_=>{ posonlyargs:=[],args:=[],vararg:=none,kwonlyargs:=[],kw_defaults:=[],kwarg:=none,defaults:=[] }
noncomputable def zaN(s:Stmt):List Stmt:=match s with
 |.FunctionDef _ _ b _ _ _ _ _ _ _=>b
 |_=>[]
noncomputable def zaf(s:Stmt):Scope:=match s with
 |.FunctionDef _ _ _ _ _ _ sc _ _ _=>sc
 |_=>{ kind:=.function,names:=[],isGenerator:=false,isCoroutine:=false }
noncomputable abbrev CX0:CXT:=λ_ _ _ _ _ _=>False
noncomputable abbrev E0:XK:=λ_ _ _=>False
theorem pass0{X:Cx}:zef CX0 X E0:=λ_ _ _ _ _ _ _ h=>h.elim
structure Fun (K:W.Frag) (x qual:Str) (st:Stmt) (f:Addr) (fd:Bq):Prop where
 ex:∃(oc:Value) (od:Option Addr) (kV doc pm:Value) (an:Option Addr) (cdv ct:Value) (osl:Array (Option Value)),
  fd=C8 x qual (zaZ st) (zaN st) (zaf st) .none kV doc pm an cdv ct/\K.lookup f=some ⟨oc,od,.func fd,osl⟩/\W.codeIn K cdv qual=true
 kp:C3 K (.ref f)=true
section
variable {P:AB}{w:AV}{K:W.Frag}{mg:Str->Option Value}{base:Heap}
theorem Fun.ok{x qual:Str}{st:Stmt}{f:Addr}{fd:Bq}{N ps:List Str}{k:Nat}{sp:Sp}(F:Fun K x qual st f fd)(S:FnScope N ps (zaf st))(len:∀vs H Q E, sp vs H Q E -> vs.length=ps.length)
  (hbody:∀(cdv:Value) (A:AF) (outer:List Env) (s:Ac) (H:Hp) (vs:List V) (Q:VK) (E:XK),Room k (A.deeper (envOfC qual (zaf st) s.heap.objs.size f cdv))->sp vs H Q E ->
   ∃t,PSs (cxOf CX0 P w K mg base N qual (zaf st) f cdv A outer s H E).nox (zaN st) t/\t { nx:=λ_ H'=>Q .non H',rt:=Q } (start N vs) H):FnOk P w K mg base CX0 (k+1) f fd ps sp:=by
 obtain⟨oc,od,kV,doc,pm,an,cdv,ct,osl,rfl,lk,hcd⟩:=F.ex;refine fn_of lk hcd S len λA outer s H vs Q E hr hsp=>?_
 obtain⟨t,h,q⟩:=hbody cdv A outer s H vs Q E hr hsp;exact⟨t,h.nox,q⟩
theorem Fun.binds{x qual:Str}{st:Stmt}{f:Addr}{fd:Bq}{ps:List Str}(F:Fun K x qual st f fd)
  (h:∀(kV doc pm:Value) (an:Option Addr) (cdv ct:Value) (us:List Value),us.length=ps.length->De (C8 x qual (zaZ st) (zaN st) (zaf st) .none kV doc pm an cdv ct) ⟨us,[]⟩=pure (ps.zip us)):Binds K fd ps []:=by
 obtain⟨oc,od,kV,doc,pm,an,cdv,ct,osl,rfl,lk,hcd⟩:=F.ex;exact .all (h kV doc pm an cdv ct)
theorem zcp{x qual:Str}{st:Stmt}{f:Addr}{oc:Value}{od an:Option Addr}{osl:Array (Option Value)}{kV doc pm cdv ct:Value}(l:K.lookup f=some ⟨oc, od, .func (C8 x qual (zaZ st) (zaN st) (zaf st) .none kV doc pm an cdv ct), osl⟩)
  (c:W.codeIn K cdv qual=true) (k:C3 K (.ref f)=true):Fun K x qual st f (C8 x qual (zaZ st) (zaN st) (zaf st) .none kV doc pm an cdv ct):=⟨⟨oc,od,kV,doc,pm,an,cdv,ct,osl,rfl,l,c⟩,k⟩
end
theorem hu_of{A:AF}{k:Nat}(hr:Room k A):A.units+1<cLine:=CH (Nat.add_le_add_left (by decide:1<=64) _) hr.units
theorem small1000{n:Nat}(h:n<=1000):n<sizeLine:=CH h (by decide)
section
variable {X:Cx}
theorem pv (i:Nat){x:Str}{pos:Pos}(hN:X.N[i]? = some x := by rfl) (hv:Vis X.env.scope x := by first |exact Or.inl rfl |exact D0 (Or.inl rfl) |exact D0 (D0 rfl)) (hd:(x == ("__debug__" : Str))=false := by decide)
  (hcd:(x == ("__classdict__" : Str))=false:=by decide):PE X (.Name x pos) (tVar i):=zmA hN hv hd hcd
end
theorem iteF{A B:Prop}(h:B):if false=true then A else B:=by rw[if_neg AT];exact h
theorem iteT{A B:Prop}(h:A):if true=true then A else B:=by rw[if_pos rfl];exact h
theorem ite2{c A B:Prop} [Decidable c](h1:c->A)(h2:¬ c->B):if c then A else B:=by
 by_cases h:c
 .rw[if_pos h];exact h1 h
 .rw[if_neg h];exact h2 h
noncomputable def Same(H H':Hp):Prop:=∀b o,H b=some o->H' b=some o
theorem Same.refl(H:Hp):Same H H:=λ_ _ h=>h
theorem Same.trans{H H1 H2:Hp}(a:Same H H1)(b:Same H1 H2):Same H H2:=λc o h=>b c o (a c o h)
theorem Same.free{H H':Hp}(e:Same H H'){l:Addr}(h:H' l=Option.none):H l=Option.none:=by
 cases q:H l with
 |none=>rfl
 |some o =>
  rw[e l o q]at h
  cases h
theorem Same.seq{K:W.Frag}{H H':Hp}{a:Addr}{xs:List V}(e:Same H H')(h:SqL K H a xs):SqL K H' a xs:=by
 rcases h with (h |⟨o,h⟩) |h
 .exact .inl (.inl (e _ _ h))
 .exact .inl (.inr ⟨o,e _ _ h⟩)
 .exact .inr h
section
variable {κ:Type} [DecidableEq κ]
theorem zjr:∀{l:List κ}{k:κ},l.Nodup->¬ k∈l->(l++[k]).Nodup
 |[],k,_,_=>by simp
 |a::r,k,h,hk=>by
  obtain⟨h1,h2⟩:=B8.mp h;show (a::(r++[k])).Nodup;refine List.nodup_cons.mpr ⟨λm=>?_,zjr h2 λm=>hk (List.mem_cons.mpr (D0 m))⟩;rcases AA.mp m with q |q
  .exact h1 q
  .exact hk (List.mem_cons.mpr (Or.inl (An.mp q).symm))
end
end L2
set_option maxHeartbeats 4000000
namespace L2
open PySem PySem.Spec PyProof.Rows
noncomputable def zeu(J:It)(g:TG)(tb:TS):TS:=λD σ H=>∃W:Nat->Nat->St->Hp->Prop,(∃m,W 0 m σ H)/\∀i m σ H,W i m σ H ->
 (J.stop i H/\D.nx σ H)∨(J.go i H/\∃N:St->Hp->Prop,(∀ σ' H',N σ' H'->∃m',m'<m/\W (i+1) m' σ' H')/\∀x H',J.yld i H x H'->g x σ H' λσ2 H2=>tb { D with nx:=N,ct:=N,bk:=D.nx } σ2 H2)
noncomputable def PTs(X:Cx)(ifs:List Expr)(t:TT):Prop :=
 ∀(pins:List (Addr×Obj)) (s:Ac) (σ:St) (H:Hp) (Q:Bool->Hp->Prop),Inv X pins σ H s->t σ H Q ->
  Am (Aw X.prog X.w) X.A (forIn ifs true λc r=>if r=true then do let ok <- isTrue c X.env (eval c X.env);pure (DX ok) else pure (DX r)) (TP X pins σ Q) X.xe s
theorem zgD{X:Cx}:PTs X [] (λ_ H Q=>Q true H):=λpins s σ H Q I h=>Af ⟨H,I,h⟩
theorem zbH{X:Cx}{c:Expr}{t:TT}(hc:PT X c t):PTs X [c] t:=λpins s σ H Q I h=>wpAny_tests_one (hc pins s σ H Q I h)
noncomputable def PB(X:Cx)(inner:Sem Unit)(t:TS):Prop :=
 ∀(pins:List (Addr×Obj)) (s:Ac) (σ:St) (H:Hp) (D:Ends),Inv X pins σ H s->t D σ H->Am (Aw X.prog X.w) X.A inner (λ_ s'=>∃ σ' H',Inv X pins σ' H' s'/\D.nx σ' H') X.xe s
noncomputable def tIfs(tt:TT)(tb:TS):TS:=λD σ H=>tt σ H λb H1=>if b=true then tb D σ H1 else D.nx σ H1
theorem zjZ{X:Cx}{e tg:Expr}{d:Nat}{ifs:List Expr}{p:Pos}{acc:Value}{inner:Sem Unit}{g:TG}{tt:TT}{tb:TS}{it:Addr}{fp:List Addr}{tn:Nat -> Heap -> Prop}{J:It}
  {pins:List (Addr×Obj)} {s:Ac} {σ:St} {H:Hp} {D:Ends} {R:Result->Ac->Prop}
  (hq:(Code.compLoop e d (.ref it) acc X.env).quiet=true)
  (hden:(Aw X.prog X.w).den (.compLoop e d (.ref it) acc X.env)=(compTurn e d (.ref it) acc X.env).onRaise (λx=>do noteFrame x X.env;theTreesLotGoes x))
  (hT:compTurn e d (.ref it) acc X.env=(do
   standAt p
   match <- pyNext (.ref it) with
   |none=>pure (.done .next)
   |some v =>
    letOwnedTupleGo tg (.ref it) v
    assign tg X.env v
    let mut ok:=true
    for c in ifs do
     if ok then ok <- isTrue c X.env (eval c X.env)
    if ok then
     inner
    again (.compLoop e d (.ref it) acc X.env)))
  (hA:∀(B:AF) {α:Type} {t:Sem α} {Q:α->Ac->Prop} {E:Value->Ac->Prop} {s:Ac},B=X.A.under (.compLoop e d (.ref it) acc X.env)->Am (Aw X.prog X.w) X.A t Q E s->Am (Aw X.prog X.w) B t Q E s)
  (hc:X.calm=true) (hx:X.xe=λ_ _=>False) (hg:PG X tg g) (ht:PTs X ifs tt) (hb:PB X inner tb)
  (I:Inv X pins σ H s) (T:Turn X.prog X.w X.K tg J fp it tn) (st:tn 0 s.heap) (f:∀b∈fp,FpOk X pins H b) (W:zeu J g (tIfs tt tb) D σ H)
  (hR:∀fl s',(∃ σ' H',Inv X pins σ' H' s'/\(∀b∈fp,H' b=none)/\D.nx σ' H')->R (.ok fl) s') :
  CK (Aw X.prog X.w) X.A (.compLoop e d (.ref it) acc X.env) R s:=by
 obtain⟨W,⟨m0,w0⟩,turn⟩:=W;have stat:∀{H':Hp},(∀b∈fp,H' b=none)->∀b∈fp,FpOk X pins H' b:=λhn b hb=>⟨hn b hb,(f b hb).2⟩
 refine codeAny_loop hq (λn s'=>∃i σ' H',Inv X pins σ' H' s'/\tn i s'.heap/\(∀b∈fp,H' b=none)/\W i n σ' H') ?_ m0 ⟨0,σ,H,I,st,λb hb=>(f b hb).1,w0⟩;rintro n s3 ⟨i,σ3,H3,I3,st3,fr3,w3⟩;refine hA _ rfl ?_
 rw[hden];refine wpAny_noted (wpAny_noRaise ?_);rw[hT];refine Ab (Dp ?_)
 have nx:∀{α:Type} {t:Sem α} {Q:α->Ac->Prop} {s:Ac},Am (Aw X.prog X.w) X.A t Q X.xe s->Am (Aw X.prog X.w) X.A t Q (λ_ _=>False) s:=λ{α t Q s} h=>by rw[hx]at h;exact h
 rcases turn i n σ3 H3 w3 with⟨stop,qn⟩ |⟨go,N,hN,step⟩
 .refine Ab (thn (T.done X rfl rfl rfl hc i pins s3 σ3 H3 _ I3 (stat fr3) st3 stop) λr s4 ⟨hr,I4⟩=>?_);subst hr;exact Af (hR _ _ ⟨σ3,H3,I4,fr3,qn⟩)
 .refine Ab (thn (T.item X rfl rfl rfl hc i pins s3 σ3 H3 _ I3 (stat fr3) st3 go) λr s4 ⟨u,hr,h4⟩=>?_);subst hr;refine Ab (thn h4 λ_ s5 ⟨x,H5,I5,r5,y5,st5,fr5⟩=>?_);have I5':=I5.pinned (stat fr5) (T.obj _ _ st5)
  have again:∀{σ7:St} {H7:Hp} {s7:Ac},Inv X (pins++zdk fp s5.heap) σ7 H7 s7->N σ7 H7->∃m,m<n/\∃i σ' H',Inv X pins σ' H' s7/\tn i s7.heap/\(∀b∈fp,H' b=none)/\W i m σ' H':=λ{σ7 H7 s7} I7 n7=>by obtain⟨m',hm,w7⟩:=hN σ7 H7 n7;refine⟨m',hm,i+1,σ7,H7,I7.unpinned,T.keep _ _ _ st5 λb hb o e=>(I7.pin (b,o) (Ap _ (Ap _ (zaY hb e)))).1,λb hb=>?_,w7⟩;obtain⟨o,e,d⟩:=T.obj _ _ st5 b hb;exact (I7.pin (b,o) (Ap _ (Ap _ (zaY hb e)))).2.1
  refine Ab (thn (nx (hg _ s5 σ3 H5 x u _ I5' r5 (step x H5 y5))) λ_ s6 ⟨σ6,H6,I6,q6⟩=>?_);refine Ab (thn (nx (ht _ s6 σ6 H6 _ I6 q6)) λok s7 ⟨H7,I7,q7⟩=>?_)
  cases ok with
  |false =>
   exact Af ⟨rfl,again I7 q7⟩
  |true =>
   refine Ab (thn (nx (hb _ s7 σ6 H7 _ I7 q7)) λ_ s8 ⟨σ8,H8,I8,q8⟩=>?_);exact Af ⟨rfl,again I8 q8⟩
noncomputable abbrev blk(X:Cx)(sc:Scope)(cl:List (Str×Addr))(C:Addr)(N':List Str)(s0:Ac)(H0:Hp)(ex:List Addr):Cx :=
 { X with N:=N',s₀:=s0,H₀:=H0,env:=compEnvC sc cl C X.env,outer:=X.stack,stack:=X.stack,ex:=ex,fn:=λ_=>false,pn:=[],xe:=λ_ _=>False }
structure BlkOk (osc:Scope) (N:List Str) (sc:Scope) (N':List Str) (sel:List (Option Nat)):Prop where
 kind:sc.kind=.function
 nocell:∀y∈sc.names,y.2≠.cell
 names:∀y∈sc.names,y.2=.local->sc.names.lookup y.1=some .local
 free:∀y∈sc.names,y.2=.free->osc.names.lookup y.1=some .cell∨osc.names.lookup y.1=some .free
 len:sel.length=N'.length
 sel:∀p∈sel.zip N',∀i∈p.1,N[i]?=some p.2/\sc.names.lookup p.2=some .free
noncomputable def selSt(sel:List (Option Nat))(σ:St):St:=sel.map λo=>o.bind λi=>(σ[i]?).join
theorem zcQ{env:Env} : ∀(names:List (Str × NameKind)) (acc:List (Str × Addr)), (∀y ∈ names, y.2 = .free -> ∃c, env.cells.lookup y.1=some c) ->
  ∃cl,(forIn names acc λ(x:Str×NameKind) (r:List (Str×Addr))=>(if (x.2 == .free)=true then do let c <- cellOf env x.1;pure (DX ((x.1,c)::r)) else pure (DX r):Sem (ForInStep (List (Str×Addr)))))=pure cl /\
   (∀x c,cl.lookup x=some c->acc.lookup x=some c∨(env.cells.lookup x=some c/\(x,Bu)∈names))/\(∀y∈names,y.2=.free->∃c,cl.lookup y.1=some c)/\(∀x c,acc.lookup x=some c->∃c',cl.lookup x=some c')
 |[],acc,_=>⟨acc,rfl,λ_ _ h=>.inl h,(λ_ h=>nomatch h),λx c h=>⟨c,h⟩⟩
 | (n,k)::r,acc,h=>by
  by_cases hk:k=.free
  .subst hk;obtain⟨c,hc⟩:=h (n,.free) Az rfl;obtain⟨cl,e,h1,h2,h3⟩:=zcQ r ((n,c)::acc) λy hy=>h y (Ar _ hy)
   refine⟨cl,?_,λx c' hx=>?_,λy hy hf=>?_,λx c' hx=>?_⟩
   .rw[List.forIn_cons];have e1:cellOf env n=pure c:=by unfold cellOf;rw[hc]
    simp only[beq_self_eq_true,if_true,e1,pure_bind];exact e
   .rcases h1 x c' hx with q |⟨q,m⟩
    .by_cases hn:x=n
     .subst hn;rw[Bi,beq_self_eq_true]at q
      cases q
      exact .inr ⟨hc,Az⟩
     .have hb:(x == n)=false:=by simpa using hn
      rw[Bi,hb]at q;exact .inl q
    .exact .inr ⟨q,Ar _ m⟩
   .rcases At.mp hy with z |z
    .subst z;exact h3 n c (by rw[Bi,beq_self_eq_true])
    .exact h2 y z hf
   .by_cases hn:x=n
    .subst hn;exact h3 x c (by rw[Bi,beq_self_eq_true])
    .have hb:(x == n)=false:=by simpa using hn
     exact h3 x c' (by rw[Bi,hb];exact hx)
  .obtain⟨cl,e,h1,h2,h3⟩:=zcQ r acc λy hy=>h y (Ar _ hy)
   refine⟨cl,?_,λx c' hx=>?_,λy hy hf=>?_,h3⟩
   .rw[List.forIn_cons];have hb:(k == Bu)=false:=by simpa using hk
    simp only[hb,BA,if_false,pure_bind];exact e
   .rcases h1 x c' hx with q |⟨q,m⟩
    .exact .inl q
    .exact .inr ⟨q,Ar _ m⟩
   .rcases At.mp hy with z |z
    .subst z;exact absurd hf hk
    .exact h2 y z hf
structure Clo (env:Env) (sc:Scope) (cl:List (Str×Addr)):Prop where
 run:closureFor sc env=pure cl
 old:∀x c,cl.lookup x=some c->env.cells.lookup x=some c/\(x,Bu)∈sc.names
 has:∀y∈sc.names,y.2=.free->∃c,cl.lookup y.1=some c
theorem zlp{X:Cx}{osc:Scope}{N:List Str}{sc:Scope}{N':List Str}{sel:List (Option Nat)}(ok:X.Ok)(B:BlkOk osc N sc N' sel)(ho:X.env.scope=osc):∃cl,Clo X.env sc cl:=by
 have hc:∀y∈sc.names,y.2=.free->∃c,X.env.cells.lookup y.1=some c:=λy hy hf=>ok.has y.1 (by
  show X.env.scope.names.lookup y.1=_∨X.env.scope.names.lookup y.1=_;rw[ho];exact B.free y hy hf)
 obtain⟨cl,e,h1,h2,_⟩:=zcQ (env:=X.env) sc.names [] hc;refine⟨cl,?_,λx c h=>?_,h2⟩
 .unfold closureFor;have e':=e;show (do let r <- forIn sc.names [] _;pure r)=_;simp only[bind_pure];exact e'
 .rcases h1 x c h with q |q
  .cases q
  .exact q
theorem zbI{env:Env} : ∀{names:List (Str × NameKind)}{x:Str}{k:NameKind}, (names.map λ(n, k) => if (k == Bu && env.scope.kind == .function && env.kindOf n == some .cell) then (n, Dq) else (n, k)).lookup x=some k ->
  ∃k',(x,k')∈names/\(k=k'∨(k=.cell/\k'=.free))
 |[],x,k,h=>nomatch h
 | (n,j)::r,x,k,h=>by
  have ih:=@zbI env r x k;have h:Cz x ((if (j == Bu && env.scope.kind == .function && env.kindOf n == some .cell)=true then (n,Dq) else (n,j))::_)=some k:=h
  by_cases hx:x=n
  .subst hx
   by_cases hc:(j == Bu && env.scope.kind == .function && env.kindOf x == some .cell)=true
   .rw[if_pos hc,Bi,beq_self_eq_true]at h
    cases h
    refine⟨j,Az,.inr ⟨rfl,?_⟩⟩;simp only[Bw,beq_iff_eq]at hc;exact hc.1.1
   .rw[if_neg hc,Bi,beq_self_eq_true]at h
    cases h
    exact⟨j,Az,.inl rfl⟩
  .have hb:(x == n)=false:=by simpa using hx
   have h':Cz x (r.map λ(n,k)=>if (k == Bu && env.scope.kind == .function && env.kindOf n == some .cell) then (n,Dq) else (n,k))=some k:=by
    by_cases hc:(j == Bu && env.scope.kind == .function && env.kindOf n == some .cell)=true
    .rw[if_pos hc,Bi,hb]at h;exact h
    .rw[if_neg hc,Bi,hb]at h;exact h
   obtain⟨k',m,e⟩:=ih h';exact⟨k',Ar _ m,e⟩
theorem zby{env:Env} : ∀{names:List (Str × NameKind)}{x:Str}, names.lookup x=some .free ->
  (names.map λ(n,k)=>if (k == Bu && env.scope.kind == .function && env.kindOf n == some .cell) then (n,Dq) else (n,k)).lookup x=some .cell ∨
  (names.map λ(n,k)=>if (k == Bu && env.scope.kind == .function && env.kindOf n == some .cell) then (n,Dq) else (n,k)).lookup x=some .free
 |[],x,h=>nomatch h
 | (n,j)::r,x,h=>by
  have ih:=@zby env r x;rw[Bi]at h;show Cz x ((if (j == Bu && env.scope.kind == .function && env.kindOf n == some .cell)=true then (n,Dq) else (n,j))::_)=_∨Cz x ((if (j == Bu && env.scope.kind == .function && env.kindOf n == some .cell)=true then (n,Dq) else (n,j))::_)=_
  cases hx:x == n with
  |true =>
   rw[hx]at h
   cases h
   by_cases hc:(Bu == Bu && env.scope.kind == .function && env.kindOf n == some .cell)=true
   .rw[if_pos hc,Bi,hx];exact .inl rfl
   .rw[if_neg hc,Bi,hx];exact .inr rfl
  |false =>
   rw[hx]at h
   by_cases hc:(j == Bu && env.scope.kind == .function && env.kindOf n == some .cell)=true
   .rw[if_pos hc,Bi,hx];exact ih h
   .rw[if_neg hc,Bi,hx];exact ih h
section
variable {X:Cx}{osc:Scope}{N:List Str}{sc:Scope}{N':List Str}{sel:List (Option Nat)}{cl:List (Str×Addr)}{pins:List (Addr×Obj)}{σ:St}{H:Hp}{s:Ac}{fp:List Addr}
theorem zl0{h':Heap}{ob:Obj}{tk:Nat}(B:BlkOk osc N sc N' sel)(ho:X.env.scope=osc)(hN:X.N=N)(Cl:Clo X.env sc cl)(I:Inv X pins σ H s)
    (f:∀b∈fp,FpOk X pins H b) (fo:∀b∈fp,∃o,s.heap.get? b=some o) (hns:h'.Ns s.heap.objs.size (λ_=>none)) (hsb:Ce s.heap.objs.size (s.heap.push ob) h') :
    Inv (blk X sc cl s.heap.objs.size N' s H fp) [] (selSt sel σ) H { s with heap:=h',toks:=tk }:=by
  have old:∀b o,s.heap.get? b=some o->h'.get? b=some o:=λb o e=>(hsb.2 b (AK (Au e))).trans (Ae _ e)
  have bel:∀b∈fp,b<s.heap.objs.size:=λb hb=>by obtain⟨o,e⟩:=fo b hb;exact Au e
  have kk:∀x,(compEnvC sc cl s.heap.objs.size X.env).kindOf x=some .cell∨(compEnvC sc cl s.heap.objs.size X.env).kindOf x=some .free->(x,Bu)∈sc.names:=λx hx=>by
    rcases hx with hx |hx
    . obtain⟨k',m,e⟩:=zbI hx;rcases e with e |⟨_,e⟩
      . subst e;exact absurd rfl (B.nocell _ m)
      . subst e;exact m
    . obtain⟨k',m,e⟩:=zbI hx;rcases e with e |⟨e,_⟩
      . subst e;exact m
      . cases e
  refine⟨⟨I.mod, B.kind, I.ok.glob, I.ok.blt, Aj _, λx y c e1 e2 => I.ok.inj x y c (Cl.old x c e1).1 (Cl.old y c e2).1, λx hx => Cl.has _ (kk x hx) rfl, λx c z => absurd z (by intro q; cases q), I.ok.hd, I.ok.frames, .inl rfl,
      λb hb=>⟨AK (bel b hb),λx c e=>(f b hb).2.2.2.2.1 x c (Cl.old x c e).1⟩,I.bs,AM I.ok.bsz I.sz,λb o e hb=>?_,λb hb hs=>?_,I.stack,I.stkFree⟩,
    rfl,I.bare,Un.kept old,⟨_,hns,λj x v e1 e2 e3=>?_⟩,λx c e=>?_,I.hok.fresh (Aj _),λx c e=>I.freeC x c (Cl.old x c e).1,λp hp=>absurd (show p∈([]:List (Addr×Obj)) from hp) (by simp),I.hok.kept old,?_⟩
  . rcases (f b hb).2.2.2.1 with z |z
    . exact I.ok.noex b o e z
    . exact absurd (AD (Au e) (AM I.ok.bsz z)) (BV _)
  . obtain⟨_,f1,f2,_⟩:=f b hb;rcases At.mp (I.stkSub b hs) with z |z
    . exact f1 z
    . exact f2 z
  . have e2':((sel[j]?).map λo => o.bind λi => (σ[i]?).join)=some (some v) := by have:=e2;unfold selSt at this;rw[Ax]at this;exact this
    cases hj:sel[j]? with
    |none=>rw[hj]at e2';cases e2'
    |some o =>
      rw[hj]at e2'
      cases o with
      |none=>cases e2'
      |some i =>
        have e4:(σ[i]?).join=some v:=A4 e2'
        have e5:σ[i]?=some (some v):=by
          cases q:σ[i]? with
          |none=>rw[q]at e4;cases e4
          |some z=>rw[q]at e4;exact congrArg some e4
        have hz:(some i,x)∈sel.zip N':=by
          refine Ag (i:=j) ?_
          rw[List.getElem?_zip_eq_some];exact⟨hj,e1⟩
        obtain⟨g1,g2⟩:=B.sel _ hz i rfl;obtain⟨m,hn,hl⟩:=I.loc;have m2:(x,Bu)∈sc.names:=Ct g2
        have k2:X.env.kindOf x=some .cell∨X.env.kindOf x=some .free:=by show X.env.scope.names.lookup x=_∨X.env.scope.names.lookup x=_;rw[ho];exact B.free _ m2 rfl
        have v2:Vis X.env.scope x:=by
          rcases k2 with z |z
          . exact .inr (.inl z)
          . exact .inr (.inr z)
        obtain⟨u,r,l⟩:=hl i x v (by rw[hN];exact g1) e5 v2;refine⟨u,r,?_⟩;rcases l with⟨l,_⟩ |⟨_,c,e6,hc⟩
        . rcases k2 with z |z <;> (rw[l]at z;cases z)
        . obtain⟨c',hc'⟩:=Cl.has _ m2 rfl;have e7:=(Cl.old x c' hc').1;rw[e6]at e7
          cases e7
          exact .inr ⟨zby g2,c,hc',hc.keeps old⟩
  . obtain⟨v,hc⟩:=I.cell x c (Cl.old x c e).1;exact⟨v,hc.keeps old⟩
  . show (selSt sel σ).length=N'.length;unfold selSt;rw[Ai,B.len]
theorem zl8{C:Addr}{H':Hp}{σ':St}{s':Ac}(I:Inv X pins σ H s)(f:∀b∈fp,FpOk X pins H b)(I':Inv (blk X sc cl C N' s H fp) [] σ' H' s'):Inv X pins σ H' s' :=
 I.call' (ch:=fp) I'.os I'.base I'.hok I'.bare λb hb=>by obtain⟨_,f1,_,f3,f4,f5⟩:=f b hb;exact⟨f3,f1,f4,f5⟩
end
section
variable {X:Cx}
noncomputable def zdG(p:Addr)(te:TE):TS:=λD σ H=>te σ H λv H1=>∃xs,H1 p=some (.lst xs)/\xs.length<sizeLine/\D.nx σ (upd H1 p (.lst (xs++[v])))
theorem zlN {p:Addr}{elt:Expr}{te:TE}(he:PE X elt te):PB X (do let _ <- call (.builtin "list.append") [.ref p,<- eval elt X.env]) (zdG p te):=by intro pins s σ H D I h;refine Ab (thn (he pins s σ H _ I h) λv s1 ⟨x,H1,I1,r1,xs,e1,hl,q⟩=>?_);refine Ab (thn (zaU pins s1 σ H1 (.ref p) [x] (.ref p) [v] (λz H2=>D.nx σ H2) I1 rfl (.cons r1 .nil) ⟨p,xs,x,rfl,rfl,e1,hl,q⟩) λu s2 ⟨z,H2,I2,_,q2⟩=>?_);exact Af ⟨σ,H2,I2,q2⟩
theorem d_set{pins:List (Addr × Obj)}{σ : St}{H H':Hp}{s:Ac}{a:Addr}{y v:V}{u r:Value}{A:AF}{E:Value -> Ac -> Prop}{Q:Unit -> Ac -> Prop}(hu:A.units + 1 < cLine)(I:Inv X pins σ H s)(g:DPut H a y v H')(ry:RelV y u)(rv:RelV v r)(h:∀s', Inv X pins σ H' s' -> Q () s') :
  Am (Aw X.prog X.w) A (dictSet a u r) Q E s:=by
 rcases g with⟨kvs,k,e,ey,l,eH⟩ |⟨kvs,k,b,e,ey,eb,l,eH⟩
 .subst ey eH;obtain⟨z,hd,vs,rel,dd⟩:=dk_of I.hok e;have hz:vs.length<=sizeLine:=by rw[<- rel.length];exact z
  have hl:(putK kvs k v).length<=sizeLine:=by have:=zbf kvs k v;lia
  refine wpAny_dictSet_pairs (hsz:=hz) (kV_is ry) dd λh' dd' hs=>h _ ?_
  have he:∃q,h'.get? a=some q:=let ⟨q,_,_,hq,_⟩:=dd';⟨q,hq⟩
  exact zec I (by rw[e];exact BX) hs he (zll hl hd (rel.put k rv) dd')
 .subst ey eH
  cases (show u=Ao b from ry)
  obtain⟨z,hd,xs,rel,dd⟩:=dt_of I.hok e;have hz:xs.length<=sizeLine:=by rw[<- CV rel];exact z
  have hl:(putK kvs k v).length<=sizeLine:=by have:=zbf kvs k v;lia
  have hr:(D3 (zaA X.prog X.w)).room A:=by show A.units<cLine;lia
  refine wpAny_dictSet_heap (hsz:=hz) hr (zeD I.hok eb) dd λh' dd' hs=>h _ ?_
  obtain⟨q,es,ep,hq,h2,h3,h4,_,h5⟩:=dd';refine zec I (by rw[e];exact BX) hs ⟨q,hq⟩ ⟨hl,hd,_,(rel.put k eb rv).keeps λc ys ec=>?_,q,es,ep,hq,h2,h3,h4,h5⟩;rw[zai (ne_of ec e (λz=>nomatch z))];exact ec
end
section
variable {X:Cx}{osc:Scope}{N:List Str}{sc:Scope}{N':List Str}{sel:List (Option Nat)}{pos:Pos}{elt kx vx tg iter:Expr}{ifs:List Expr}{wi:TI}{g:TG}{tt:TT}{te tk tv:TE}
noncomputable def InBlk(X:Cx)(sc:Scope)(N':List Str)(P:Cx->Prop):Prop:=∀cl C s0 H0 ex,P (blk X sc cl C N' s0 H0 ex)
theorem zge{e:Expr}{inner:Env -> Addr -> Sem Unit}{tb:Addr -> TS}{use:Option (Value -> Sem Unit)}{pins:List (Addr × Obj)}{s:Ac}{σ : St}{H:Hp}{J:It}{it:Addr}{fp:List Addr}{tn:Nat -> Heap -> Prop}{o0:HO}{ob:Obj}
    {D:Addr->Ends} {Q:Value->Ac->Prop}
    (B:BlkOk osc N sc N' sel) (ho:X.env.scope=osc) (hN:X.N=N) (hc:X.calm=true)
    (hstart:∀(acc:Value) (env:Env) (R:Result->Ac->Prop) (s:Ac),CK (Aw X.prog X.w) X.A (.compLoop e 0 (.ref it) acc env) R s->Am (Aw X.prog X.w) X.A (pyIter (.ref it)) (λit' s'=>CK (Aw X.prog X.w) X.A (.compLoop e 0 it' acc env) R s') (notedBy (Aw X.prog X.w) X.A env λx s'=>R (.error x) s') s->CK (Aw X.prog X.w) X.A (.compStart e 0 (.ref it) acc env) R s)
    (hloop:∀cl C s0 H0 ex p pins s σ H Dn R,Inv (blk X sc cl C N' s0 H0 ex) pins σ H s->tn 0 s.heap->(∀b∈fp,FpOk (blk X sc cl C N' s0 H0 ex) pins H b)->zeu J g (tIfs tt (tb p)) Dn σ H ->
      (∀fl s',(∃ σ' H',Inv (blk X sc cl C N' s0 H0 ex) pins σ' H' s'/\(∀b∈fp,H' b=none)/\Dn.nx σ' H')->R (.ok fl) s')->CK (Aw X.prog X.w) X.A (.compLoop e 0 (.ref it) (.ref p) (compEnvC sc cl C X.env)) R s)
    (I:Inv X pins σ H s) (T:Turn X.prog X.w X.K tg J fp it tn) (st:tn 0 s.heap) (f:∀b∈fp,FpOk X pins H b)
    (hnew:ObjOk X.prog X.w (upd H s.heap.objs.size o0) (s.heap.push ob) s.heap.objs.size o0) (hfree:ob.isFreed=false)
    (h:zeu J g (tIfs tt (tb s.heap.objs.size)) (D s.heap.objs.size) (selSt sel σ) (upd H s.heap.objs.size o0))
    (hend:∀C H' s',Inv X pins σ H' s'->FpOk X pins H' C->(∃m,s'.heap.Ns C m)->(∃ σ',(D s.heap.objs.size).nx σ' H')->compPost (Aw X.prog X.w) X.A X.xe use Q (.ref s.heap.objs.size) C (.ok .next) s') (tk:Nat)
    (cl:List (Str×Addr)) (Cl:Clo X.env sc cl) (E:Value->Ac->Prop) :
    Am (Aw X.prog X.w) X.A (newFunctionEnv sc X.env.globals cl [] X.env.qual none .none (some X.env)) (λcenv s₄ =>
        CK (Aw X.prog X.w) X.A (.compStart e 0 (.ref it) (.ref s.heap.objs.size) { cenv with scope:=relabel sc X.env }) (compPost (Aw X.prog X.w) X.A X.xe use Q (.ref s.heap.objs.size) cenv.locals) s₄) E { s with heap:=s.heap.push ob,toks:=tk }:=by
  have grow:∀b o,s.heap.get? b=some o->(s.heap.push ob).get? b=some o:=λ_ _ q=>Ae _ q
  have I1:Inv X pins σ (upd H s.heap.objs.size o0) { s with heap:=s.heap.push ob,toks:=tk }:=I.laid grow (Aj _) hnew;have bel:∀b∈fp,∃o,s.heap.get? b=some o:=λb hb=>let ⟨o,e,_⟩:=T.obj _ _ st b hb;⟨o,e⟩
  have f1:∀b∈fp,FpOk X pins (upd H s.heap.objs.size o0) b:=λb hb=>by obtain⟨o,e⟩:=bel b hb;refine⟨?_,(f b hb).2⟩;rw[zai (AK (Au e))];exact (f b hb).1
  refine wpAny_newFunctionEnv (s:={ s with heap:=s.heap.push ob,toks:=tk }) B.nocell (by intro x hx;cases hx) (λh1 hns hsb=>?_) B.kind;have I2:=zl0 (tk:=tk) B ho hN Cl I1 f1 (λb hb=>let ⟨o,e⟩:=bel b hb;⟨o,grow b o e⟩) hns hsb;have old:∀b o,s.heap.get? b=some o->h1.get? b=some o:=λb o e=>(hsb.2 b (AK (Au (grow b o e)))).trans (Ae _ (grow b o e))
  have st1:tn 0 h1:=T.keep _ _ _ st λb _ o e=>old b o e
  have f2:∀b∈fp,FpOk (blk X sc cl (s.heap.push ob).objs.size N' { s with heap:=s.heap.push ob,toks:=tk } (upd H s.heap.objs.size o0) fp) [] (upd H s.heap.objs.size o0) b:=λb hb=>by
    obtain⟨g0,g1,g2,g3,g4,g5⟩:=f1 b hb;obtain⟨o,e⟩:=bel b hb;refine⟨g0,AK (Au (grow b o e)),λz=>?_,.inl hb,λx c e=>g4 x c (Cl.old x c e).1,λp hp=>absurd (show p∈([]:List (Addr×Obj)) from hp) (by simp)⟩;rcases At.mp (I1.stkSub b z) with q |q
    . exact g1 q
    . exact g2 q
  have loop:=hloop cl _ _ _ _ s.heap.objs.size [] _ _ _ (D s.heap.objs.size) (compPost (Aw X.prog X.w) X.A X.xe use Q (.ref s.heap.objs.size) (s.heap.push ob).objs.size) I2 st1 f2 h λfl s' ⟨σ',H',I',fr',q'⟩=>by
    have I3:=zl8 I1 f1 I';have hC:FpOk X pins H' (s.heap.push ob).objs.size:=I1.fpOk (Aj _) I'.free;obtain⟨m,hn,_⟩:=I'.loc;have:=hend _ H' s' I3 hC ⟨m,hn⟩ ⟨σ',q'⟩
    cases use <;> exact this
  exact hstart _ _ _ _ loop (T.self _ 0 _ _ _ st1 loop)
end
section
variable {X:Cx}{osc:Scope}{N:List Str}{sc:Scope}{N':List Str}{sel:List (Option Nat)}{pos:Pos}{elt kx vx tg iter:Expr}{ifs:List Expr}{wi:TI}{g:TG}{tt:TT}{te tk tv:TE}
theorem zeG{it:Addr}{fp:List Addr}{tn:Nat -> Heap -> Prop}{J:It}(T:Turn X.prog X.w X.K tg J fp it tn)(hc:X.calm=true)(hg:InBlk X sc N' λY => PG Y tg g)(ht:InBlk X sc N' λY => PTs Y ifs tt)(he:InBlk X sc N' λY => PE Y elt te) :
  ∀cl C s0 H0 ex p pins s σ H Dn R,Inv (blk X sc cl C N' s0 H0 ex) pins σ H s->tn 0 s.heap->(∀b∈fp,FpOk (blk X sc cl C N' s0 H0 ex) pins H b)->zeu J g (tIfs tt (zdG p te)) Dn σ H ->
   (∀fl s',(∃ σ' H',Inv (blk X sc cl C N' s0 H0 ex) pins σ' H' s'/\(∀b∈fp,H' b=none)/\Dn.nx σ' H')->R (.ok fl) s')->CK (Aw X.prog X.w) X.A (.compLoop (.ListComp elt [⟨tg,iter,ifs,0⟩] sc pos) 0 (.ref it) (.ref p) (compEnvC sc cl C X.env)) R s :=
 λcl C s0 H0 ex p pins s σ H Dn R I st f W hR =>
  zjZ (X:=blk X sc cl C N' s0 H0 ex) (p:=iter.pos) (inner:=do let _ <- call (.builtin "list.append") [.ref p,<- eval elt (compEnvC sc cl C X.env)]) rfl rfl rfl (λB {α t Q E s} h w=>by subst h;exact w) hc rfl (hg _ _ _ _ _) (ht _ _ _ _ _) (zlN (he _ _ _ _ _)) I T st f W hR
noncomputable def zml(wi:TI)(sel:List (Option Nat))(g:TG)(tt:TT)(te:TE):TE:=λσ H Q=>wi σ H λJ H1=>∀p,H1 p=none ->
 zeu J g (tIfs tt (zdG p te)) { nx:=λ_ H'=>Q (.ref p) H',rt:=λ_ _=>False } (selSt sel σ) (upd H1 p (.lst []))
theorem Inv.let_go{pins:List (Addr×Obj)}{σ:St}{H:Hp}{s:Ac}{C:Addr}{h':Heap}(I:Inv X pins σ H s)(f:FpOk X pins H C)(hs:Ce C s.heap h'):Inv X pins σ H { s with heap:=h' }:=by obtain⟨f0,f1,_,f3,f4,f5⟩:=f;exact I.turned (t':=s.toks) (λb o hb e=>(hs.2 b hb).trans e) f0 f1 f3 f4 f5
theorem zjx {P:AB}{w:AV}{H:Hp}{h:Heap}:ObjOk P w (upd H h.objs.size (.lst [])) (h.push { cls:=.type "list",dict:=none,data:=.seq ([]:List Value).toArray }) h.objs.size (.lst []) :=
 ⟨Be _,[],_,.nil,Av _ rfl⟩
theorem zbi(B:BlkOk osc N sc N' sel)(hi:PI X tg iter wi)(hg:InBlk X sc N' λY => PG Y tg g)(ht:InBlk X sc N' λY => PTs Y ifs tt)(he:InBlk X sc N' λY => PE Y elt te)
  (ho:X.env.scope=osc:=by rfl) (hN:X.N=N:=by rfl) (hc:X.calm=true:=by rfl) (hs:∀x,foldedSetIterable iter X.env x=pure x:=by intro _;rfl) :
  PE X (.ListComp elt [⟨tg,iter,ifs,0⟩] sc pos) (zml wi sel g tt te):=by
 intro pins s σ H Q I h;obtain⟨cl,Cl⟩:=zlp I.ok B ho;rw[eval_ListComp];refine wpAny_comprehension_free (use:=none) rfl hs Cl.run B.kind B.names (thn (hi pins s σ H _ I h) λv s1 h1=>thn h1 λitv s2 h2=>?_);obtain⟨it,fp,tn,J,H2,e,I2,T,st2,f2,h2⟩:=h2;subst e
 refine Bh (zge (e:=.ListComp elt [⟨tg,iter,ifs,0⟩] sc pos) (inner:=λ_ _=>pure ()) (D:=λp=>{ nx:=λ_ H'=>Q (.ref p) H',rt:=λ_ _=>False }) (tb:=λp=>zdG p te) (use:=none) B ho hN hc (λacc env R s a b=>codeAny_compStart_list a b)
  (zeG (iter:=iter) (pos:=pos) T hc hg ht he) I2 T st2 f2 zjx rfl (h2 _ (I2.hok.fresh (Aj _))) (λC H' s' I3 fC hn hq=>?_) s2.toks cl Cl X.xe)
 obtain⟨m,hn⟩:=hn;obtain⟨_,hq⟩:=hq;exact⟨m,hn,λh' hs'=>⟨.ref s2.heap.objs.size,H',I3.let_go fC hs',rfl,hq⟩⟩
noncomputable def zms(wi:TI)(sel:List (Option Nat))(g:TG)(tt:TT)(te:TE)(i:Nat):TS:=λD σ H=>wi σ H λJ H1=>∀p,H1 p=none ->
 zeu J g (tIfs tt (zdG p te)) { nx:=λ_ H'=>D.nx (σ.set i (some (.ref p))) H',rt:=λ_ _=>False } (selSt sel σ) (upd H1 p (.lst []))
theorem zhk{i:Nat}{x:Str}{px spos:Pos}(B:BlkOk osc N sc N' sel)(hnd:X.N.Nodup)(hi':X.N[i]? = some x)(hx:Loc X.env.scope x)(hi:PI X tg iter wi)(hg:InBlk X sc N' λY => PG Y tg g)(ht:InBlk X sc N' λY => PTs Y ifs tt)(he:InBlk X sc N' λY => PE Y elt te)
  (hsw:swapsWith (.ListComp elt [⟨tg,iter,ifs,0⟩] sc pos) (some (.Name x px)) spos.line X.env=pure true:=by rfl)
  (ho:X.env.scope=osc:=by rfl) (hN:X.N=N:=by rfl) (hc:X.calm=true:=by rfl) (hs:∀x,foldedSetIterable iter X.env x=pure x:=by intro _;rfl)
  (hf:X.fn x=true∨X.env.scope.names.lookup x=some .local:=by first |exact .inl rfl |exact .inr rfl |assumption) :
  PS X (.Assign [.Name x px] (.ListComp elt [⟨tg,iter,ifs,0⟩] sc pos) spos) (zms wi sel g tt te i):=by
 intro pins s σ H D I h;obtain⟨cl,Cl⟩:=zlp I.ok B ho;rw[exec_Assign_Name_used _ _ _ _ hsw];refine Ab (Dp (Ab ?_));show Am _ X.A (do let _ <- comprehension (.ListComp elt [⟨tg,iter,ifs,0⟩] sc pos) sc X.env _ (newList []) false (eval iter X.env) (some (assign (.Name x px) X.env))) _ _ s;refine Ab (thn (wpAny_comprehension_free (use:=some (assign (.Name x px) X.env)) (Q:=λ_ s'=>SP X pins D .next s') rfl hs Cl.run B.kind B.names (thn (hi pins s σ H _ I h) λv s1 h1=>thn h1 λitv s2 h2=>?_)) λ_ s' hq=>Af (Af hq));obtain⟨it,fp,tn,J,H2,e,I2,T,st2,f2,h2⟩:=h2;subst e
 refine Bh (zge (e:=.ListComp elt [⟨tg,iter,ifs,0⟩] sc pos) (inner:=λ_ _=>pure ()) (D:=λp=>{ nx:=λ_ H'=>D.nx (σ.set i (some (.ref p))) H',rt:=λ_ _=>False }) (tb:=λp=>zdG p te) (use:=some (assign (.Name x px) X.env)) B ho hN hc (λacc env R s a b=>codeAny_compStart_list a b)
  (zeG (iter:=iter) (pos:=pos) T hc hg ht he) I2 T st2 f2 zjx rfl (h2 _ (I2.hok.fresh (Aj _))) (λC H' s' I3 fC hn hq=>?_) s2.toks cl Cl X.xe)
 obtain⟨m,hn⟩:=hn;obtain⟨_,hq⟩:=hq;show Am _ X.A (assign (.Name x px) X.env (.ref s2.heap.objs.size)) _ _ _;refine wpAny_assign_Name (zfD I3 hnd hi' hx (v:=.ref s2.heap.objs.size) rfl (λs4 I4 hch=>?_) hf);obtain⟨a,sb,ha⟩:=hch
 have nC:C≠a:=by
  rcases ha with z |z
  .rw[z];exact fC.2.1
  .exact λq=>fC.2.2.2.2.1 x a z q.symm
 refine⟨m,hn.sameBut sb nC,λh' hs'=>⟨_,H',I4.let_go fC hs',hq⟩⟩
end
mutual
inductive RD (K:W.Frag) (H:Hp):V->PyData->Prop where
 |non:RD K H .non .none
 |bl (b:Bool):RD K H (.bl b) (.bool b)
 |int (i:Int):RD K H (.int i) (.int i)
 |str (x:Str):RD K H (.str x) (.str x)
 |lst {a:Addr} {xs:List V} {ds:List PyData}:SqL K H a xs->RDs K H xs ds->RD K H (.ref a) (.list ds)
 |tup {a:Addr} {xs:List V} {ds:List PyData}:SqT K H a xs->RDs K H xs ds->RD K H (.ref a) (.tuple ds)
inductive RDs (K:W.Frag) (H:Hp):List V->List PyData->Prop where
 |nil:RDs K H [] []
 |cons {x:V} {xs:List V} {d:PyData} {ds:List PyData}:RD K H x d->RDs K H xs ds->RDs K H (x::xs) (d::ds)
end
section
variable {X:Cx}{pins:List (Addr×Obj)}{σ:St}{H:Hp}{s:Ac}
mutual
theorem Inv.reads(I:Inv X pins σ H s):∀{v:V}{d:PyData}{u:Value},RD X.K H v d->RelV v u->∃as,Reads s.heap u d as
 |_,_,_,.non,r=>by cases (show _=Value.none from r);exact⟨_,.none⟩
 |_,_,_,.bl b,r=>by cases (show _=Value.bool b from r);exact⟨_,.bool b⟩
 |_,_,_,.int i,r=>by obtain⟨t,rfl⟩:=r;exact⟨_,.int i t⟩
 |_,_,_,.str x,r=>by obtain⟨t,rfl⟩:=r;exact⟨_,.str x t⟩
 |_,_,_,.lst (a:=a) hq hs,r=>by
  cases (show _=Ao a from r)
  obtain⟨its,rv,p,hz⟩:=I.list hq;obtain⟨as,ra⟩:=I.readsAll hs rv;obtain⟨o,ho,hc,n,hd⟩:=p.isList;exact⟨_,.list ho hc hd (by simpa using ra)⟩
 |_,_,_,.tup (a:=a) hq hs,r=>by
  cases (show _=Ao a from r)
  obtain⟨its,rv,p,hz⟩:=I.tuple hq;obtain⟨as,ra⟩:=I.readsAll hs rv;obtain⟨o,ho,hc,n,hd⟩:=p;exact⟨_,.tuple ho hc hd (by simpa using ra)⟩
theorem Inv.readsAll(I:Inv X pins σ H s):∀{vs:List V}{ds:List PyData}{us:List Value},RDs X.K H vs ds->Vals vs us->∃as,ReadsAll s.heap us ds as
 |_,_,_,.nil,r=>by cases r;exact⟨_,.nil⟩
 |_,_,_,.cons h t,.cons r rr=>by
  obtain⟨as,h1⟩:=I.reads h r;obtain⟨bs,h2⟩:=I.readsAll t rr;exact⟨_,.cons h1 h2⟩
end
end
theorem RDs.ints{K:W.Frag}{H:Hp}:∀(ns:List Int),RDs K H (ns.map V.int) (ns.map Dz)
 |[]=>.nil
 |n::r=>.cons (.int n) (RDs.ints r)
mutual
theorem RD.mono{K:W.Frag}{H H':Hp}(hl:∀a xs,SqL K H a xs->SqL K H' a xs)(ht:∀a xs,SqT K H a xs->SqT K H' a xs):∀{v:V}{d:PyData},RD K H v d->RD K H' v d
 |_,_,.non=>.non
 |_,_,.bl b=>.bl b
 |_,_,.int i=>.int i
 |_,_,.str x=>.str x
 |_,_,.lst h t=>.lst (hl _ _ h) (RDs.mono hl ht t)
 |_,_,.tup h t=>.tup (ht _ _ h) (RDs.mono hl ht t)
theorem RDs.mono{K:W.Frag}{H H':Hp}(hl:∀a xs,SqL K H a xs->SqL K H' a xs)(ht:∀a xs,SqT K H a xs->SqT K H' a xs):∀{v:List V}{d:List PyData},RDs K H v d->RDs K H' v d
 |_,_,.nil=>.nil
 |_,_,.cons h t=>.cons (RD.mono hl ht h) (RDs.mono hl ht t)
end
noncomputable def rEqD(K:W.Frag):R2:=λx y H Q=>∃d e,RD K H x d/\RD K H y e/\Bt d=true/\Bt e=true/\Q (.bl (C9 d e)) H
noncomputable def rNeD(K:W.Frag):R2:=λx y H Q=>∃d e,RD K H x d/\RD K H y e/\Bt d=true/\Bt e=true/\Q (.bl (!PyData.eqv d e)) H
section
variable {X:Cx}
theorem zlf(hu:X.A.units+64<cLine):OpR X (BD .Eq) (rEqD X.K):=by intro pins s σ H x y v u Q I rx ry h;obtain⟨d,e,hd,he,sd,se,q⟩:=h;obtain⟨as,ra⟩:=I.reads hd rx;obtain⟨bs,rb⟩:=I.reads he ry;exact SeqAt.compareEq_shaped ra rb sd se hu ⟨.bl _,H,I,rfl,q⟩
theorem zjk(hu:X.A.units+64<cLine):OpR X (BD .NotEq) (rNeD X.K):=by intro pins s σ H x y v u Q I rx ry h;obtain⟨d,e,hd,he,sd,se,q⟩:=h;obtain⟨as,ra⟩:=I.reads hd rx;obtain⟨bs,rb⟩:=I.reads he ry;exact SeqAt.compareNe_shaped ra rb sd se hu ⟨.bl _,H,I,rfl,q⟩
noncomputable def rInD(K:W.Frag):R2:=λx y H Q=>∃p xs d ds,y=.ref p/\SqL K H p xs/\RD K H x d/\RDs K H xs ds/\Bt d=true/\(∀e∈ds,Bt e=true)/\Q (.bl (ds.any λe=>C9 e d)) H
theorem zdo{ds:List PyData}(h:∀e∈ds,Bt e=true):B3 ds=true:=by
 induction ds with
 |nil=>rfl
 |cons d r ih=>rw[B3,SeqAt.canLay_of_shaped (h d Az),ih λe he=>h e (Ar _ he)];rfl
theorem zmG(hu:X.A.units+65<cLine):OpR X (BD .In) (rInD X.K):=by intro pins s σ H x y v u Q I rx ry h;obtain⟨p,xs,d,ds,rfl,hq,hd,hds,sd,sds,q⟩:=h;obtain⟨as,ra⟩:=I.reads hd rx;obtain⟨bs,rb⟩:=I.reads (.lst hq hds) ry;exact SeqAt.in_list_reads rb ra (zdo sds) (SeqAt.canLay_of_shaped sd) (PyProof.Rows.room_in_shaped sd hu) ⟨.bl _,H,I,rfl,q⟩
theorem zd7:∀ns ms:List Int,PyData.eqvAll (ns.map Dz) (ms.map Dz)=decide (ns=ms)
 |[],[]=>rfl
 |[],_::_=>rfl
 |_::_,[]=>rfl
 |n::r,m::t=>by
  show (n == m && PyData.eqvAll (r.map Dz) (t.map Dz))=_;rw[zd7 r t]
  by_cases e:n=m
  .subst e;by_cases e2:r=t <;> simp[e2]
  .simp[e]
theorem zbY:∀ns:List Int,Di (ns.map Dz)=0
 |[]=>rfl
 |n::r=>by show max 0 (Di (r.map Dz))=0;rw[zbY r];rfl
theorem zcB:∀ns:List Int,B3 (ns.map Dz)=true
 |[]=>rfl
 |n::r=>by show (true && B3 (r.map Dz))=true;rw[zcB r];rfl
noncomputable def tI(ns:List Int):PyData:=.tuple (ns.map .int)
theorem zhB(ns ms:List Int):C9 (tI ns) (tI ms)=decide (ns=ms):=zd7 ns ms
theorem zbo(ns:List Int):Bt (tI ns)=true:=by unfold Bt tI;rw[C5,zcB,Cg,zbY];rfl
end
section
variable {prog:AB}{w:AV}{A:AF}{E:Value->Ac->Prop}{s:Ac}
theorem zgb{it t:Addr}{items:Array Value}(hne:t ≠ it):∀(n i:Nat) (s:Ac) (Q:List Value -> Ac -> Prop), s.heap.IsListIter it t i -> s.heap.IsList t items -> i + n <= items.size ->
  (∀h',h'.IsListIter it t (i+n)->Ce it s.heap h'->Q ((items.toList.drop i).take n) { s with heap:=h' })->Am (Aw prog w) A (draw (.ref it) n) Q E s
 | 0,i,s,Q,hit,_,_,hQ=>by
  show Am _ _ (pure []) Q E s;exact Af (by simpa using hQ s.heap hit (Heap.SameBut.refl ..))
 |n+1,i,s,Q,hit,ht,hle,hQ=>by
  have hlt:i<items.size:=by lia
  show Am _ _ (pyNext (.ref it) >>= _) Q E s;refine Ab (wpAny_pyNext_list_item hit ht (x:=items[i]) (by simp[hlt]) λh₁ hit₁ hs₁=>?_);refine Ab (A9 (zgb hne n (i+1) _ _ hit₁ (ht.extBut hs₁.extBut hne) (by lia) λh₂ hit₂ hs₂=>Af ?_));have hd:items.toList.drop i=items[i]::items.toList.drop (i+1):=by simp[List.drop_eq_getElem_cons,hlt]
  have:=hQ h₂ (by rw[show i+(n+1)=i+1+n by lia];exact hit₂) (hs₁.trans hs₂);rw[hd,List.take_succ_cons]at this;exact this
theorem zdt{t:Addr}{items:Array Value}{Q:List Value -> Ac -> Prop}(hh:A.handled=none)(ht:s.heap.IsList t items)
  (hQ:∀h',Heap.ExtBut s.heap.objs.size s.heap h'->Q items.toList { s with heap:=h' }):Am (Aw prog w) A (unpackItems (.ref t) items.size none) Q E s:=by
 have hlt:t≠s.heap.objs.size:=by obtain⟨o,ho,_⟩:=ht;exact AK (Au ho)
 unfold unpackItems;refine Ab ?_
 .unfold notIterableAtAll;refine Ab (wpAny_specialOf ht.typeIs PySem.F.slot_list_iter.lookup ?_);refine Af ?_
  simp only[BA,if_false];refine Ab (A9 (Dv ht ?_));refine Ab (A9 (zgb hlt items.size 0 _ _ ⟨_,Av _ rfl,rfl,rfl⟩ (ht.push _) (by lia) λh₁ hit₁ hs₁=>?_))
  have hall:List.take items.size (List.drop 0 items.toList)=items.toList:=by rw[List.drop_zero];exact List.take_of_length_le (by simp)
  rw[hall];rw[if_neg (by simp)];have ht₁:h₁.IsList t items:=(ht.push _).extBut hs₁.extBut hlt;refine Ab (A9 (wpAny_pyNext_list_end hh hit₁ ht₁ (by simp) λh₂ he₂=>?_));simp only[Option.isSome_none,BA,if_false];refine Af (hQ h₂ λb o hb e=>he₂ b o hb (hs₁.extBut b o hb (Ae _ e)))
theorem zdd{env:Env}{elts:List Expr}{x1}{pos:Pos}{t:Addr}{items:Array Value}{Q:Unit -> Ac -> Prop}(hh:A.handled=none)(ht:s.heap.IsList t items)
  (hn:(Cq elts env).length=items.size) (hstar:(Cq elts env).findIdx? (·.1)=none)
  (h:∀h',Heap.ExtBut s.heap.objs.size s.heap h'->Am (Aw prog w) A (assignInOrder ((Cq elts env).map (·.2)) items.toList) Q E { s with heap:=h' }) :
  Am (Aw prog w) A (assign (.Tuple elts x1 pos) env (.ref t)) Q E s:=by
 rw[assign_Tuple];refine Ab (Dp ?_);unfold unpack;rw[hn,hstar];exact Ab (A9 (zdt hh ht h))
end
section
variable {X:Cx}{pos:Pos}
noncomputable def gLst(K:W.Frag)(n:Nat)(t:TGs):TG:=λv σ H Q=>∃a xs,v=.ref a/\SqL K H a xs/\xs.length=n/\t xs σ H Q
theorem zjc{es:List Expr}{k:Nat}{t:TGs}{n:Nat}(hc:X.calm=true)(h:PGs X es t)
  (hn:(Cq es X.env).length=n:=by rfl) (hst:(Cq es X.env).findIdx? (·.1)=none:=by rfl):PG X (.Tuple es k pos) (gLst X.K n t):=by
 intro pins s σ H v u Q I r hw;obtain⟨a,xs,e1,hq,hl,hw⟩:=hw;subst e1
 cases r
 obtain⟨its,rv,ht,hz⟩:=I.list hq;refine zdd (I.ok.hd hc) ht.isList (by simp[hn,<- hl,rv.length]) hst λh' hx=>?_
 have I1:Inv X pins σ H { s with heap:=h' }:=I.kept (t':=s.toks) λb o e=>hx b o (AK (Au e)) e
 exact h pins _ σ H xs _ Q I1 (by simpa using rv) hw
noncomputable def CDivB(i j:Int):Prop:=0<j/\j.natAbs.log2<9000
theorem zkw:OpR X (Cb .FloorDiv) (rI CDivB λi j=>.int (i / j)):=opI λi j _ _ _ _ _ hc q=>by have e:i.fdiv j=i / j:=Int.fdiv_eq_ediv_of_nonneg i (Int.le_of_lt hc.1);rw[<- e]at q;exact floordiv_int (by have:=hc.1;lia) q (.inl (PyProof.noPylong_of_log2 hc.2))
theorem zj5 (hh:X.calm=true):CallR X (.builtin "all") (λxs H Q=>∃(p:Addr) (bs:List Bool),xs=[.ref p]/\SqL X.K H p (bs.map V.bl)/\Q (.bl (bs.all id)) H):=by
 intro pins s σ H xs us Q I r h;obtain⟨p,bs,rfl,hq,q⟩:=h;obtain⟨u,rfl,ru⟩:=vals1 r
 cases (show u=Ao p from ru)
 obtain⟨its,rv,pl,hz⟩:=I.list hq;have hlp:p<s.heap.objs.size:=by obtain⟨o,ho,_⟩:=pl.isList;exact Au ho
 have hlen:its.length=bs.length:=by have:=rv.length;simpa using this.symm
 refine call_all_walk (Dv pl.isList ?_);refine⟨_,_,_,_,_,_,λi=>bs.getD i true,rfl,Walks.list (A:=X.A.in1) (I.ok.hd hh) s.heap.objs.size p (AK hlp) its.toArray,⟨⟨_,Av _ rfl,rfl,rfl⟩,pl.isList.push _⟩,?_,λh' tk hk=>?_⟩
 .intro i v s1 Q1 E1 hv hQ;have hv':its[i]?=some v:=by simpa using hv
  have hi:i<its.length:=(Ad.mp hv').1;obtain⟨w',hw,rw'⟩:=rv.get (i:=i) (x:=V.bl (bs[i]'(by lia))) (by simp[Aa,show i<bs.length by lia]);rw[hv']at hw
  cases hw
  cases (show v=Value.bool _ from rw')
  refine BG ?_
  have e:bs.getD i true=bs[i]'(by lia):=by simp[AC,show i<bs.length by lia]
  rw[<- e];exact hQ
 .have I1:Inv X pins σ H { s with heap:=h',toks:=tk }:=I.kept λb o e=>hk b o (by simp;exact AK (Au e)) (Ae _ e)
  refine⟨.bl _,H,I1,rfl,?_⟩
  have e:(AO its.toArray.size).all (λi=>bs.getD i true)=bs.all id:=by
   rw[show its.toArray.size=bs.length by simpa using hlen];rw[DV];simp only[List.all_eq_true,List.mem_range,id];constructor
   .intro h b hb;obtain⟨i,hi,e⟩:=Ay hb;have:=h i hi;simpa[AC,hi,e]using this
   .intro h i hi;have:=h bs[i] (AZ hi);simpa[AC,hi]using this
  rw[e];exact q
end
section
variable {X:Cx}
theorem zb0:CallR X (.builtin "isinstance") (λxs H Q=>∃x T t b,xs=[x,.ty T]/\TyOf X.K H x t/\W.kitOne X.K t (.type T)=some b/\Q (.bl b) H):=by
 intro pins s σ H xs us Q I r h;obtain⟨x,T,t,b,rfl,ty,e,q⟩:=h;obtain⟨u,w',rfl,ru,rw'⟩:=vals2 r
 cases (show w'=CU T from rw')
 exact zjH I ru ty e λtk=>⟨.bl b,H,I.tok tk,rfl,q⟩
theorem zf0 (K:W.Frag):W.kitOne K (.type "int") (.type "bool")=some false:=by rfl
theorem zbE(K:W.Frag)(T:String):W.kitOne K (.type T) (.type T)=some true:=by unfold W.kitOne;rw[if_pos (by simp)]
end
end L2
namespace HT
open PySem PyProof.Rows
section
open PySem.SeqAt
open PySem.AutoSeq1 (wpAny_loadPart')
open PySem.MeetsSeq PySem.MeetsSeq2 PySem.MeetsSeq3
end
section
variable {prog:AB}{w:AV}{A:AF}{E:Value->Ac->Prop}{s:Ac}
end
end HT
namespace L2
open PySem PySem.Spec PyProof.Rows
section
variable {X:Cx}
end
section
variable {X:Cx}
end
section
variable {X:Cx}{k:Nat}{f:Addr}{fd:Bq}{ps:List Str}{sp:Sp}{pins:List (Addr×Obj)}{σ:St}
theorem zi2{H:Hp}{s:Ac}{Q:VK}{us:List Value}{vs:List V}{E:Value -> Ac -> Prop}(F:FnOk X.prog X.w X.K X.mg X.base CX0 k f fd ps sp)(hr:Room (k + 1) X.A)(hb:Binds X.K fd ps [])
  (I:Inv X pins σ H s) (r:Vals vs us) (h:sp vs H Q E0):Am (Aw X.prog X.w) X.A.in1 (call (.ref f) us) (EP X pins σ Q) E s:=by
 have hl:(us++[]).length=ps.length:=by rw[AN,<- r.length];exact F.len _ _ _ _ h
 have hb':=hb s us I.kIn hl;rw[AN]at hb';refine wpAny_call (C7 (F.run X.A.in1 X.stack s H ⟨us,[]⟩ us vs Q E0 hr.in1 I.env0.in1 hb' r h) λr s' hq=>?_)
 cases r with
 |error e=>exact Bj hq
 |ok fl =>
  cases fl with
  |ret u=>exact I.after hq
  |next=>exact Bj hq
  |brk=>exact Bj hq
  |cont=>exact Bj hq
theorem Inv.moved{H:Hp}{s:Ac}{b:Addr}{h':Heap}{t':Nat}(I:Inv X pins σ H s)(fb:FpOk X pins H b)(hk:∀c o,c ∉ [b]->s.heap.get? c=some o->h'.get? c=some o):Inv X pins σ H { s with heap:=h',toks:=t' } :=
 I.turned (λc o hc e=>hk c o (λz=>hc (An.mp z)) e) fb.1 fb.2.1 fb.2.2.2.1 fb.2.2.2.2.1 fb.2.2.2.2.2
theorem FpOk.again{H H':Hp}{b:Addr}(fb:FpOk X pins H b)(hn:H' b=none):FpOk X pins H' b:=⟨hn,fb.2⟩
structure MK (X:Cx) (pins:List (Addr×Obj)) (σ:St) (H:Hp) (s:Ac) (it st l:Addr) (j:Nat) (vb kb:Value):Prop where
 inv:Inv X pins σ H s
 fi:FpOk X pins H it
 fs:FpOk X pins H st
 ne:st≠it
 iter:s.heap.IsListIter it l j
 hold:∃c,s.heap.get? st=some (Bz "list" #[vb,kb] c)
noncomputable def Least(κ:Nat->List Int)(n i:Nat):Prop:=∀j,j<n->HT.lexLt (κ j) (κ i)=false/\(j<i->HT.lexLt (κ i) (κ j)=true)
end
end L2
namespace HT
theorem lexLt_irrefl:∀a:List Int,lexLt a a=false
 |[]=>rfl
 |x::r=>by rw[lexLt_cons,if_pos rfl];exact lexLt_irrefl r
theorem lexLt_trans:∀{a b c:List Int},lexLt a b=true->lexLt b c=true->lexLt a c=true
 |[],[],_,h,_=>by cases h
 |[],_::_,[],_,h=>by cases h
 |[],_::_,_::_,_,_=>rfl
 |_::_,[],_,h,_=>by cases h
 |_::_,_::_,[],_,h=>by cases h
 |x::a,y::b,z::c,h,g=>by
  rw[lexLt_cons]at h g ⊢
  by_cases e1:x=y
  .subst e1;rw[if_pos rfl]at h
   by_cases e2:x=z
   .subst e2;rw[if_pos rfl]at g ⊢;exact lexLt_trans h g
   .rw[if_neg e2]at g ⊢;exact g
  .rw[if_neg e1]at h;have h':x<y:=by simpa using h
   by_cases e2:y=z
   .subst e2;rw[if_neg e1];exact h
   .rw[if_neg e2]at g;have g':y<z:=by simpa using g
    rw[if_neg (by lia)];exact decide_eq_true (by lia)
theorem lexLt_total:∀{a b:List Int},lexLt a b=false->lexLt b a=false->a=b
 |[],[],_,_=>rfl
 |[],_::_,h,_=>by cases h
 |_::_,[],_,h=>by cases h
 |x::a,y::b,h,g=>by
  rw[lexLt_cons]at h g
  by_cases e:x=y
  .subst e;rw[if_pos rfl]at h g;rw[lexLt_total h g]
  .rw[if_neg e]at h;rw[if_neg (Bx e)]at g;have h':¬ x<y:=by simpa using h
   have g':¬ y<x:=by simpa using g
   lia
theorem lexLt_of_not_lt_lt{a b c:List Int}(h:lexLt b a=false)(g:lexLt b c=true):lexLt a c=true:=by
 cases e:lexLt a b with
 |true=>exact lexLt_trans e g
 |false=>rw[lexLt_total e h];exact g
theorem lexLt_asym{a b:List Int}(h:lexLt a b=true):lexLt b a=false:=by
 cases e:lexLt b a with
 |false=>rfl
 |true=>have:=lexLt_trans h e;rw[lexLt_irrefl]at this;cases this
end HT
namespace L2
open PySem PySem.Spec PyProof.Rows
section
variable {X:Cx}{k:Nat}{f:Addr}{fd:Bq}{ps:List Str}{sp:Sp}{pins:List (Addr×Obj)}{σ:St}{H0:Hp}{Q:VK}{l it st:Addr}{xs:List V}{κ:Nat->List Int}
noncomputable def MKR(X:Cx)(pins:List (Addr×Obj))(σ:St)(Q:VK):Result->Ac->Prop:=λr s'=>match r with
 |.ok (.ret v)=>EP X pins σ Q v s'
 |.ok _=>False
 |.error e=>X.xe e s'
theorem zcu {xs:Array Value}{c:Nat}:∀v,(Bz "list" xs c).data≠.cell v:=λv h=>by cases h
theorem zdX{h:Heap}{it l:Addr}{j:Nat}(hi:h.IsListIter it l j):∃o,h.get? it=some o/\∀v,o.data≠.cell v:=by obtain⟨o,ho,_,hd⟩:=hi;exact⟨o,ho,λv z=>by rw[hd]at z;cases z⟩
theorem zkj{H:Hp}{s:Ac}{Q1:VK}{u:Value}{x:V}{E:Value -> Ac -> Prop}{j:Nat}{vb kb:Value}(F:FnOk X.prog X.w X.K X.mg X.base CX0 k f fd ps sp)(hr:Room (k + 1) X.A)(hb:Binds X.K fd ps [])
    (M:MK X pins σ H s it st l j vb kb) (r:RelV x u) (h:sp [x] H Q1 E0):Am (Aw X.prog X.w) X.A.in1 (call (.ref f) [u]) (λv s'=>∃y H',RelV y v/\Q1 y H'/\MK X pins σ H' s' it st l j vb kb) E s:=by
  obtain⟨c,hc⟩:=M.hold;obtain⟨oi,hoi,ci,di⟩:=id M.iter
  have I1:Inv X (pins ++ zdk [it, st] s.heap) σ H s := M.inv.pinned (λb hb => by
      rcases At.mp hb with rfl |hb
      . exact M.fi
      . rw[An.mp hb];exact M.fs) (λb hb=>by
      rcases At.mp hb with rfl |hb
      . exact zdX M.iter
      . rw[An.mp hb];exact⟨_,hc,zcu⟩)
  refine Bk (zi2 F hr hb I1 (.cons r .nil) h) (λv s' hv=>?_) λ_ _ e=>e
  obtain⟨y,H',I2,ry,q⟩:=hv;have p1:=I2.pin (it,oi) (Ap _ (Ap _ (zaY (by simp) hoi)));have p2:=I2.pin (st,Bz "list" #[vb,kb] c) (Ap _ (Ap _ (zaY (by simp) hc)));exact⟨y,H',ry,q,I2.unpinned,M.fi.again p1.2.1,M.fs.again p2.2.1,M.ne,⟨oi,p1.1,ci,di⟩,c,p2.1⟩
theorem zjw{H:Hp}{s:Ac}{a b:Addr}{ns ms:List Int}{E:Value -> Ac -> Prop}{Q1:Value -> Ac -> Prop}(hu:X.A.units + 1 < cLine)(I:Inv X pins σ H s)(ha:SqT X.K H a (ns.map V.int))(hb:SqT X.K H b (ms.map V.int))(q:Q1 (.bool (HT.lexLt ns ms)) s) :
  Am (Aw X.prog X.w) X.A.in1 (richCompare .Lt (.ref a) (.ref b)) Q1 E s:=by
 obtain⟨its,r1,p1,_⟩:=I.tuple ha;obtain⟨its2,r2,p2,_⟩:=I.tuple hb;exact (HT.lt_tupInts p1 p2 (zeF r1) (zeF r2) hu q:Am (Aw X.prog X.w) X.A.in1 (BD .Lt (.ref a) (.ref b)) Q1 E s)
theorem MK.set{H:Hp}{s:Ac}{j:Nat}{vb kb v kv:Value}(M:MK X pins σ H s it st l j vb kb):MK X pins σ H { s with heap:=s.heap.update st (AU λ_=>#[v,kv]) } it st l j v kv:=by obtain⟨c,hc⟩:=M.hold;have sb:=BC s.heap st (AU λ_=>#[v,kv]);obtain⟨oi,hoi,ci,di⟩:=id M.iter;exact⟨M.inv.moved (t':=s.toks) M.fs (λb o hb e=>(sb.2 b λz=>hb (by simp[z])).trans e),M.fi,M.fs,M.ne,⟨oi,(sb.2 it M.ne.symm).trans hoi,ci,di⟩,_,DY hc λ_=>#[v,kv]⟩
theorem Least.next{n i:Nat}(h:Least κ n i)(e:HT.lexLt (κ n) (κ i)=false)(hi:i<n):Least κ (n+1) i:=λj hj=>by
 by_cases z:j=n
 .subst z;exact⟨e,λq=>absurd q (by lia)⟩
 .exact h j (by lia)
theorem Least.take{n i:Nat}(h:Least κ n i)(e:HT.lexLt (κ n) (κ i)=true)(hi:i<n):Least κ (n+1) n:=λj hj=>by
 by_cases z:j=n
 .subst z;exact⟨HT.lexLt_irrefl _,λq=>absurd q (by lia)⟩
 .have g:=(h j (by lia)).1
  have t:HT.lexLt (κ n) (κ j)=true:=by
   cases q:HT.lexLt (κ i) (κ j) with
   |true=>exact HT.lexLt_trans e q
   |false=>rw[<- HT.lexLt_total q g];exact e
  exact⟨HT.lexLt_asym t,λ_=>t⟩
theorem Room.un1{n:Nat}{A:AF}(r:Room n A):A.units+1<cLine:=by have:=r.units;lia
theorem Same.seqT{K:W.Frag}{H H':Hp}{a:Addr}{xs:List V}(e:Same H H')(h:SqT K H a xs):SqT K H' a xs:=by
 rcases h with (h |⟨o,h⟩) |h
 .exact .inl (.inl (e _ _ h))
 .exact .inl (.inr ⟨o,e _ _ h⟩)
 .exact .inr h
theorem zju(hh:X.A.handled=none)(F:FnOk X.prog X.w X.K X.mg X.base CX0 k f fd ps sp)(hr:Room (k + 1) X.A)(hb:Binds X.K fd ps [])
  (turn:∀i x H,xs[i]?=some x->Same H0 H->sp [x] H (λv H'=>Same H H'/\∃a,v=.ref a/\SqT X.K H' a ((κ i).map V.int)) E0)
  (hl:SqL X.K H0 l xs) (hli:l≠it) (hQ:∀i x H',xs[i]?=some x->Least κ xs.length i->Same H0 H'->Q x H') :
  ∀(r j i:Nat) (H:Hp) (s:Ac) (vb:Value) (xb:V) (b:Addr),xs.length-(j+1)=r->j+1<=xs.length->Same H0 H->MK X pins σ H s it st l (j+1) vb (.ref b)->xs[i]?=some xb->RelV xb vb->SqT X.K H b ((κ i).map V.int)->i<=j->Least κ (j+1) i ->
   CK (Aw X.prog X.w) X.A (.builtin "min.loop" ⟨[.ref it,.ref f,.ref st],[]⟩) (MKR X pins σ Q) s:=by
 have nm:(toString "min" ++ toString ".loop" : String) = "min.loop":=by decide
 intro r
 induction r with
 |zero =>
  intro j i H s vb xb b hr0 hj hS M hxb rb kb' hij best;have hend:j+1=xs.length:=by lia
  obtain⟨its,rv,pl,hz⟩:=M.inv.list (hS.seq hl);have hlen:its.length=xs.length:=rv.length.symm;have W:=Walks.list (prog:=X.prog) (w:=X.w) (A:=X.A.in1) hh it l hli its.toArray;obtain⟨c,hc⟩:=M.hold;refine Dj B4 ?_
  rw[Ci AY _];show Am _ X.A.in1 (seqItems? (.ref st) >>= _) _ _ _;refine Ab (C6 hc rfl ?_);show Am _ X.A.in1 (tryCatch (pyNext (.ref it)) _ >>= _) _ _ _;refine Ab (B5 (W.done _ _ _ ⟨by rw[As,hlen,<- hend];exact M.iter,pl.isList⟩ λh1 tk1 hk1=>?_));have I1:=M.inv.moved (t':=tk1) M.fi hk1;have hc1:=hk1 st _ (by simpa using M.ne) hc;have sb:=BC h1 st (AU λ_=>(#[]:Array Value));show Am _ X.A.in1 (updateSeq st (λ_=>#[]) >>= _) _ _ _;refine Ab ?_
  refine B9 hc1 rfl (Ab (CP (Af ?_)));have I2:Inv X pins σ H { s with heap:=h1.update st (AU λ_=>(#[]:Array Value)),toks:=tk1 }:=I1.moved (s:={ s with heap:=h1,toks:=tk1 }) (t':=tk1) M.fs (λb o hb e=>(sb.2 b λz=>hb (by simp[z])).trans e);exact⟨xb,H,I2,rb,hQ i xb H hxb (by rw[<- hend];exact best) hS⟩
 |succ r ih =>
  intro j i H s vb xb b hr0 hj hS M hxb rb kb' hij best;have hlt:j+1<xs.length:=by lia
  obtain⟨its,rv,pl,hz⟩:=M.inv.list (hS.seq hl);have hlen:its.length=xs.length:=rv.length.symm;have W:=Walks.list (prog:=X.prog) (w:=X.w) (A:=X.A.in1) hh it l hli its.toArray;obtain⟨c,hc⟩:=M.hold;refine Dj B4 ?_
  rw[Ci AY _];show Am _ X.A.in1 (seqItems? (.ref st) >>= _) _ _ _;refine Ab (C6 hc rfl ?_);show Am _ X.A.in1 (tryCatch (pyNext (.ref it)) _ >>= _) _ _ _;refine Ab (B5 (W.item (j+1) _ _ _ (by rw[As,hlen];exact hlt) ⟨M.iter,pl.isList⟩ λv h1 tk1 hP hst1 hk1=>?_));have hv:its[j+1]?=some v:=by simpa using hP
  obtain⟨x,hx⟩:∃x,xs[j+1]?=some x:=⟨_,Aa hlt⟩;obtain⟨v',hv',rx⟩:=rv.get hx;rw[hv]at hv'
  cases hv'
  have M1:MK X pins σ H { s with heap:=h1,toks:=tk1 } it st l (j+1+1) vb (.ref b):=⟨M.inv.moved (t':=tk1) M.fi hk1,M.fi,M.fs,M.ne,hst1.1,c,hk1 st _ (by simpa using M.ne) hc⟩;show Am _ X.A.in1 (tryCatch (holding [v] (call (.ref f) [v])) _ >>= _) _ _ _;refine Ab (B5 (A9 (Bk (zkj F hr hb M1 rx (turn (j+1) x H hx hS) (E:=λ_ _=>False)) (λkv s2 he=>?_) λ_ _ hF=>hF.elim)));obtain⟨y,H2,ry,⟨hS2,a2,ey,ka2⟩,M2⟩:=he;subst ey
  cases (show kv=Ao a2 from ry)
  have hS3:=hS.trans hS2;have kb2:SqT X.K H2 b ((κ i).map V.int):=hS2.seqT kb';show Am _ X.A.in1 (tryCatch (holding [v,.ref a2] (richCompare .Lt (.ref a2) (.ref b) >>= _)) _ >>= _) _ _ _;refine Ab (B5 (A9 (Ab (zjw hr.un1 M2.inv ka2 kb2 ?_))));refine Ab (A9 (BG ?_));refine Ab (CP (Af ?_));obtain⟨c2,hc2⟩:=M2.hold
  by_cases hbt:HT.lexLt (κ (j+1)) (κ i)=true
  .simp only[hbt,if_true];refine Ab ?_
   refine B9 hc2 rfl (Ab (CP ?_));rw[nm];exact Af ⟨CB AY _,ih (j+1) (j+1) H2 _ v _ a2 (by lia) hlt hS3 M2.set hx rx ka2 (Aj _) (best.take hbt (by lia))⟩
  .have hbf:HT.lexLt (κ (j+1)) (κ i)=false:=by simpa using hbt
   simp only[hbf,BA,if_false];refine Ab (CP ?_);rw[nm];exact Af ⟨CB AY _,ih (j+1) i H2 _ vb _ b (by lia) hlt hS3 M2 hxb rb kb2 (by lia) (best.next hbf (by lia))⟩
theorem zjt(hh:X.A.handled=none)(hu:X.A.units + 1 < cLine)
  (turn:∀i x,xs[i]?=some x->∃a,x=.ref a/\SqT X.K H0 a ((κ i).map V.int))
  (hl:SqL X.K H0 l xs) (hli:l≠it) (hQ:∀i x H',xs[i]?=some x->Least κ xs.length i->Same H0 H'->Q x H') :
  ∀(r j i:Nat) (H:Hp) (s:Ac) (vb:Value) (xb:V) (b:Addr),xs.length-(j+1)=r->j+1<=xs.length->Same H0 H->MK X pins σ H s it st l (j+1) vb (.ref b)->xs[i]?=some xb->RelV xb vb->SqT X.K H b ((κ i).map V.int)->i<=j->Least κ (j+1) i ->
   CK (Aw X.prog X.w) X.A (.builtin "min.loop" ⟨[.ref it,.none,.ref st],[]⟩) (MKR X pins σ Q) s:=by
 have nm:(toString "min" ++ toString ".loop" : String) = "min.loop":=by decide
 intro r
 induction r with
 |zero =>
  intro j i H s vb xb b hr0 hj hS M hxb rb kb' hij best;have hend:j+1=xs.length:=by lia
  obtain⟨its,rv,pl,hz⟩:=M.inv.list (hS.seq hl);have hlen:its.length=xs.length:=rv.length.symm;have W:=Walks.list (prog:=X.prog) (w:=X.w) (A:=X.A.in1) hh it l hli its.toArray;obtain⟨c,hc⟩:=M.hold;refine Dj B4 ?_
  rw[Ci AY _];show Am _ X.A.in1 (seqItems? (.ref st) >>= _) _ _ _;refine Ab (C6 hc rfl ?_);show Am _ X.A.in1 (tryCatch (pyNext (.ref it)) _ >>= _) _ _ _;refine Ab (B5 (W.done _ _ _ ⟨by rw[As,hlen,<- hend];exact M.iter,pl.isList⟩ λh1 tk1 hk1=>?_));have I1:=M.inv.moved (t':=tk1) M.fi hk1;have hc1:=hk1 st _ (by simpa using M.ne) hc;have sb:=BC h1 st (AU λ_=>(#[]:Array Value));show Am _ X.A.in1 (updateSeq st (λ_=>#[]) >>= _) _ _ _;refine Ab ?_
  refine B9 hc1 rfl (Ab (CP (Af ?_)));have I2:Inv X pins σ H { s with heap:=h1.update st (AU λ_=>(#[]:Array Value)),toks:=tk1 }:=I1.moved (s:={ s with heap:=h1,toks:=tk1 }) (t':=tk1) M.fs (λb o hb e=>(sb.2 b λz=>hb (by simp[z])).trans e);exact⟨xb,H,I2,rb,hQ i xb H hxb (by rw[<- hend];exact best) hS⟩
 |succ r ih =>
  intro j i H s vb xb b hr0 hj hS M hxb rb kb' hij best;have hlt:j+1<xs.length:=by lia
  obtain⟨its,rv,pl,hz⟩:=M.inv.list (hS.seq hl);have hlen:its.length=xs.length:=rv.length.symm;have W:=Walks.list (prog:=X.prog) (w:=X.w) (A:=X.A.in1) hh it l hli its.toArray;obtain⟨c,hc⟩:=M.hold;refine Dj B4 ?_
  rw[Ci AY _];show Am _ X.A.in1 (seqItems? (.ref st) >>= _) _ _ _;refine Ab (C6 hc rfl ?_);show Am _ X.A.in1 (tryCatch (pyNext (.ref it)) _ >>= _) _ _ _;refine Ab (B5 (W.item (j+1) _ _ _ (by rw[As,hlen];exact hlt) ⟨M.iter,pl.isList⟩ λv h1 tk1 hP hst1 hk1=>?_));have hv:its[j+1]?=some v:=by simpa using hP
  obtain⟨x,hx⟩:∃x,xs[j+1]?=some x:=⟨_,Aa hlt⟩;obtain⟨v',hv',rx⟩:=rv.get hx;rw[hv]at hv'
  cases hv'
  have M1:MK X pins σ H { s with heap:=h1,toks:=tk1 } it st l (j+1+1) vb (.ref b):=⟨M.inv.moved (t':=tk1) M.fi hk1,M.fi,M.fs,M.ne,hst1.1,c,hk1 st _ (by simpa using M.ne) hc⟩;obtain⟨a2,ex,ka2'⟩:=turn (j+1) x hx;subst ex
  cases (show v=Ao a2 from rx)
  have hS3:=hS;have M2:=M1;have ka2:SqT X.K H a2 ((κ (j+1)).map V.int):=hS.seqT ka2';have kb2:=kb';show Am _ X.A.in1 (pure (Ao a2) >>= _) _ _ _;refine Ab (Af ?_);show Am _ X.A.in1 (tryCatch (holding [.ref a2,.ref a2] (richCompare .Lt (.ref a2) (.ref b) >>= _)) _ >>= _) _ _ _;refine Ab (B5 (A9 (Ab (zjw hu M2.inv ka2 kb2 ?_))));refine Ab (A9 (BG ?_));refine Ab (CP (Af ?_));obtain⟨c2,hc2⟩:=M2.hold
  by_cases hbt:HT.lexLt (κ (j+1)) (κ i)=true
  .simp only[hbt,if_true];refine Ab ?_
   refine B9 hc2 rfl (Ab (CP ?_));rw[nm];exact Af ⟨CB AY _,ih (j+1) (j+1) H _ (.ref a2) _ a2 (by lia) hlt hS3 M2.set hx rx ka2 (Aj _) (best.take hbt (by lia))⟩
  .have hbf:HT.lexLt (κ (j+1)) (κ i)=false:=by simpa using hbt
   simp only[hbf,BA,if_false];refine Ab (CP ?_);rw[nm];exact Af ⟨CB AY _,ih (j+1) i H _ vb _ b (by lia) hlt hS3 M2 hxb rb kb2 (by lia) (best.next hbf (by lia))⟩
end
theorem zjv (a:Value):argsOk "min" ⟨[a],[]⟩:=by unfold argsOk;kernel_rfl
section
variable {X:Cx}{k:Nat}{f:Addr}{fd:Bq}{ps:List Str}{sp:Sp}{pins:List (Addr×Obj)}{σ:St}{H0:Hp}{Q:VK}{l it st:Addr}{xs:List V}{κ:Nat->List Int}
structure MK0 (X:Cx) (pins:List (Addr×Obj)) (σ:St) (H:Hp) (s:Ac) (it st l:Addr) (j:Nat):Prop where
 inv:Inv X pins σ H s
 fi:FpOk X pins H it
 fs:FpOk X pins H st
 ne:st≠it
 iter:s.heap.IsListIter it l j
 hold:∃c,s.heap.get? st=some (Bz "list" #[] c)
theorem zi3{H:Hp}{s:Ac}{Q1:VK}{u:Value}{x:V}{E:Value -> Ac -> Prop}{j:Nat}(F:FnOk X.prog X.w X.K X.mg X.base CX0 k f fd ps sp)(hr:Room (k + 1) X.A)(hb:Binds X.K fd ps [])
    (M:MK0 X pins σ H s it st l j) (r:RelV x u) (h:sp [x] H Q1 E0):Am (Aw X.prog X.w) X.A.in1 (call (.ref f) [u]) (λv s'=>∃y H',RelV y v/\Q1 y H'/\MK0 X pins σ H' s' it st l j) E s:=by
  obtain⟨c,hc⟩:=M.hold;obtain⟨oi,hoi,ci,di⟩:=id M.iter
  have I1:Inv X (pins ++ zdk [it, st] s.heap) σ H s := M.inv.pinned (λb hb => by
      rcases At.mp hb with rfl |hb
      . exact M.fi
      . rw[An.mp hb];exact M.fs) (λb hb=>by
      rcases At.mp hb with rfl |hb
      . exact zdX M.iter
      . rw[An.mp hb];exact⟨_,hc,zcu⟩)
  refine Bk (zi2 F hr hb I1 (.cons r .nil) h) (λv s' hv=>?_) λ_ _ e=>e
  obtain⟨y,H',I2,ry,q⟩:=hv;have p1:=I2.pin (it,oi) (Ap _ (Ap _ (zaY (by simp) hoi)));have p2:=I2.pin (st,Bz "list" #[] c) (Ap _ (Ap _ (zaY (by simp) hc)));exact⟨y,H',ry,q,I2.unpinned,M.fi.again p1.2.1,M.fs.again p2.2.1,M.ne,⟨oi,p1.1,ci,di⟩,c,p2.1⟩
theorem MK0.set{H:Hp}{s:Ac}{j:Nat}{v kv:Value}(M:MK0 X pins σ H s it st l j):MK X pins σ H { s with heap:=s.heap.update st (AU λ_=>#[v,kv]) } it st l j v kv:=by obtain⟨c,hc⟩:=M.hold;have sb:=BC s.heap st (AU λ_=>#[v,kv]);obtain⟨oi,hoi,ci,di⟩:=id M.iter;exact⟨M.inv.moved (t':=s.toks) M.fs (λb o hb e=>(sb.2 b λz=>hb (by simp[z])).trans e),M.fi,M.fs,M.ne,⟨oi,(sb.2 it M.ne.symm).trans hoi,ci,di⟩,_,DY hc λ_=>#[v,kv]⟩
theorem zj4{s:Ac}(hh:X.A.handled=none)(F:FnOk X.prog X.w X.K X.mg X.base CX0 k f fd ps sp)(hr:Room (k + 1) X.A)(hb:Binds X.K fd ps [])
  (turn:∀i x H,xs[i]?=some x->Same H0 H->sp [x] H (λv H'=>Same H H'/\∃a,v=.ref a/\SqT X.K H' a ((κ i).map V.int)) E0)
  (hl:SqL X.K H0 l xs) (hne:0<xs.length) (hQ:∀i x H',xs[i]?=some x->Least κ xs.length i->Same H0 H'->Q x H') (I:Inv X pins σ H0 s) :
  Am (Aw X.prog X.w) X.A (call (.builtin "min") [.ref l] [(BW "key",.ref f)]) (EP X pins σ Q) X.xe s:=by
 have nm:(toString "min" ++ toString ".loop" : String) = "min.loop":=by decide
 obtain⟨its,rv,pl,hz⟩:=I.list hl;have hlen:its.length=xs.length:=rv.length.symm;have hll:l<s.heap.objs.size:=by obtain⟨o,ho,_⟩:=pl.isList;exact Au ho
 refine kmk_tree PySem.F.kind_min PySem.F.plain_min PySem.F.entry_min (kmk_min_key _ _) ?_
 show Am _ X.A.in1 (Cw "min" ["key","default"] 0 ⟨[],[(BW "key",.ref f)]⟩ >>= _) _ _ s;refine Ab (wpAny_of_eq (show Cw "min" ["key","default"] 0 ⟨[],[(BW "key",.ref f)]⟩=pure [some (.ref f),none] from rfl) ?_);refine Ab (Af ?_);refine Ab (Dv pl.isList ?_);refine Ab (wpAny_newList ?_ (Be _));rw[nm];refine Af ⟨CB AY _,?_⟩;have keep:∀b o,s.heap.get? b=some o->((s.heap.push { cls:=.type "list_iterator",data:=.fields #[.ref l,.int 0 0] }).push (Bz "list" #[] 0)).get? b=some o:=λb o e=>Ae _ (Ae _ e)
 have gi:((s.heap.push { cls:=.type "list_iterator",data:=.fields #[.ref l,.int 0 0] }).push (Bz "list" #[] 0)).get? s.heap.objs.size=some { cls:=.type "list_iterator",data:=.fields #[.ref l,.int 0 0] }:=Ae _ (Av _ rfl);have hsS:(s.heap.push { cls:=.type "list_iterator",data:=.fields #[.ref l,.int 0 0] }).objs.size=s.heap.objs.size+1:=size_push' ..;have gs:((s.heap.push { cls:=.type "list_iterator",data:=.fields #[.ref l,.int 0 0] }).push (Bz "list" #[] 0)).get? (s.heap.objs.size+1)=some (Bz "list" #[] 0):=by rw[<- hsS];exact Av _ rfl
 rw[hsS];have I1:Inv X pins σ H0 { s with heap:=(s.heap.push { cls:=.type "list_iterator",data:=.fields #[.ref l,.int 0 0] }).push (Bz "list" #[] 0) }:=I.kept (t':=s.toks) keep;have fi:FpOk X pins H0 s.heap.objs.size:=I.fpOk (Aj _) (I.hok.fresh (Aj _));have fs:FpOk X pins H0 (s.heap.objs.size+1):=I.fpOk (Cj _) (I.hok.fresh (Cj _));have M0:MK0 X pins σ H0 _ s.heap.objs.size (s.heap.objs.size+1) l 0:=⟨I1,fi,fs,Cf (Nat.lt_succ_self _),⟨_,gi,rfl,rfl⟩,⟨0,gs⟩⟩;have hli:l≠s.heap.objs.size:=AK hll;have W:=Walks.list (prog:=X.prog) (w:=X.w) (A:=X.A.in1) hh s.heap.objs.size l hli its.toArray;refine Dj B4 ?_
 rw[Ci AY _];show Am _ X.A.in1 (seqItems? (.ref _) >>= _) _ _ _;refine Ab (C6 gs rfl ?_);show Am _ X.A.in1 (tryCatch (pyNext (.ref s.heap.objs.size)) _ >>= _) _ _ _;obtain⟨its2,rv2,pl2,_⟩:=I1.list hl;refine Ab (B5 (W.item 0 _ _ _ (by rw[As,hlen];exact hne) ⟨M0.iter,pl.isList.at λo e=>keep _ _ e⟩ λv h1 tk1 hP hst1 hk1=>?_));have hv:its[0]?=some v:=by simpa using hP
 obtain⟨x,hx⟩:∃x,xs[0]?=some x:=⟨_,Aa hne⟩;obtain⟨v',hv',rx⟩:=rv.get hx;rw[hv]at hv'
 cases hv'
 have M1:MK0 X pins σ H0 { s with heap:=h1,toks:=tk1 } s.heap.objs.size (s.heap.objs.size+1) l 1:=⟨I1.moved (t':=tk1) fi hk1,fi,fs,M0.ne,hst1.1,0,hk1 _ _ (by simp) gs⟩;show Am _ X.A.in1 (tryCatch (holding [v] (call (.ref f) [v])) _ >>= _) _ _ _;refine Ab (B5 (A9 (Bk (zi3 F hr hb M1 rx (turn 0 x H0 hx (Same.refl _)) (E:=λ_ _=>False)) (λkv s2 he=>?_) λ_ _ hF=>hF.elim)));obtain⟨y,H2,ry,⟨hS2,a2,ey,ka2⟩,M2⟩:=he;subst ey
 cases (show kv=Ao a2 from ry)
 obtain⟨c2,hc2⟩:=M2.hold;show Am _ X.A.in1 (updateSeq (s.heap.objs.size+1) (λ_=>#[v,.ref a2]) >>= _) _ _ _;refine Ab ?_
 refine B9 hc2 rfl ?_
 rw[nm];refine Af ⟨CB AY _,?_⟩
 exact C7 (zju hh F hr hb turn hl hli hQ _ 0 0 H2 _ v _ a2 rfl hne hS2 M2.set hx rx ka2 (Aj _) (λj hj=>by
  have e:j=0:=by lia
  subst e;exact⟨HT.lexLt_irrefl _,λz=>absurd z (BV _)⟩)) λr s' hr'=>hr'
theorem zj2{s:Ac}(hh:X.A.handled=none)(hu:X.A.units + 1 < cLine)
  (turn:∀i x,xs[i]?=some x->∃a,x=.ref a/\SqT X.K H0 a ((κ i).map V.int))
  (hl:SqL X.K H0 l xs) (hne:0<xs.length) (hQ:∀i x H',xs[i]?=some x->Least κ xs.length i->Same H0 H'->Q x H') (I:Inv X pins σ H0 s) :
  Am (Aw X.prog X.w) X.A (call (.builtin "min") [.ref l] []) (EP X pins σ Q) X.xe s:=by
 have nm:(toString "min" ++ toString ".loop" : String) = "min.loop":=by decide
 obtain⟨its,rv,pl,hz⟩:=I.list hl;have hlen:its.length=xs.length:=rv.length.symm;have hll:l<s.heap.objs.size:=by obtain⟨o,ho,_⟩:=pl.isList;exact Au ho
 refine kmk_tree PySem.F.kind_min PySem.F.plain_min PySem.F.entry_min (zjv _) ?_
 show Am _ X.A.in1 (Cw "min" ["key","default"] 0 ⟨[],[]⟩ >>= _) _ _ s;refine Ab (wpAny_of_eq (show Cw "min" ["key","default"] 0 ⟨[],[]⟩=pure [none,none] from rfl) ?_);refine Ab (Af ?_);refine Ab (Dv pl.isList ?_);refine Ab (wpAny_newList ?_ (Be _));rw[nm];refine Af ⟨CB AY _,?_⟩;have keep:∀b o,s.heap.get? b=some o->((s.heap.push { cls:=.type "list_iterator",data:=.fields #[.ref l,.int 0 0] }).push (Bz "list" #[] 0)).get? b=some o:=λb o e=>Ae _ (Ae _ e)
 have gi:((s.heap.push { cls:=.type "list_iterator",data:=.fields #[.ref l,.int 0 0] }).push (Bz "list" #[] 0)).get? s.heap.objs.size=some { cls:=.type "list_iterator",data:=.fields #[.ref l,.int 0 0] }:=Ae _ (Av _ rfl);have hsS:(s.heap.push { cls:=.type "list_iterator",data:=.fields #[.ref l,.int 0 0] }).objs.size=s.heap.objs.size+1:=size_push' ..;have gs:((s.heap.push { cls:=.type "list_iterator",data:=.fields #[.ref l,.int 0 0] }).push (Bz "list" #[] 0)).get? (s.heap.objs.size+1)=some (Bz "list" #[] 0):=by rw[<- hsS];exact Av _ rfl
 rw[hsS];have I1:Inv X pins σ H0 { s with heap:=(s.heap.push { cls:=.type "list_iterator",data:=.fields #[.ref l,.int 0 0] }).push (Bz "list" #[] 0) }:=I.kept (t':=s.toks) keep;have fi:FpOk X pins H0 s.heap.objs.size:=I.fpOk (Aj _) (I.hok.fresh (Aj _));have fs:FpOk X pins H0 (s.heap.objs.size+1):=I.fpOk (Cj _) (I.hok.fresh (Cj _));have M0:MK0 X pins σ H0 _ s.heap.objs.size (s.heap.objs.size+1) l 0:=⟨I1,fi,fs,Cf (Nat.lt_succ_self _),⟨_,gi,rfl,rfl⟩,⟨0,gs⟩⟩;have hli:l≠s.heap.objs.size:=AK hll;have W:=Walks.list (prog:=X.prog) (w:=X.w) (A:=X.A.in1) hh s.heap.objs.size l hli its.toArray;refine Dj B4 ?_
 rw[Ci AY _];show Am _ X.A.in1 (seqItems? (.ref _) >>= _) _ _ _;refine Ab (C6 gs rfl ?_);show Am _ X.A.in1 (tryCatch (pyNext (.ref s.heap.objs.size)) _ >>= _) _ _ _;obtain⟨its2,rv2,pl2,_⟩:=I1.list hl;refine Ab (B5 (W.item 0 _ _ _ (by rw[As,hlen];exact hne) ⟨M0.iter,pl.isList.at λo e=>keep _ _ e⟩ λv h1 tk1 hP hst1 hk1=>?_));have hv:its[0]?=some v:=by simpa using hP
 obtain⟨x,hx⟩:∃x,xs[0]?=some x:=⟨_,Aa hne⟩;obtain⟨v',hv',rx⟩:=rv.get hx;rw[hv]at hv'
 cases hv'
 have M1:MK0 X pins σ H0 { s with heap:=h1,toks:=tk1 } s.heap.objs.size (s.heap.objs.size+1) l 1:=⟨I1.moved (t':=tk1) fi hk1,fi,fs,M0.ne,hst1.1,0,hk1 _ _ (by simp) gs⟩;obtain⟨a2,ex,ka2⟩:=turn 0 x hx;subst ex
 cases (show v=Ao a2 from rx)
 have M2:=M1;show Am _ X.A.in1 (pure (Ao a2) >>= _) _ _ _;refine Ab (Af ?_);obtain⟨c2,hc2⟩:=M2.hold;show Am _ X.A.in1 (updateSeq (s.heap.objs.size+1) (λ_=>#[(.ref a2),.ref a2]) >>= _) _ _ _;refine Ab ?_
 refine B9 hc2 rfl ?_
 rw[nm];refine Af ⟨CB AY _,?_⟩
 exact C7 (zjt hh hu turn hl hli hQ _ 0 0 H0 _ (.ref a2) _ a2 rfl hne (Same.refl _) M2.set hx rx ka2 (Aj _) (λj hj=>by
  have e:j=0:=by lia
  subst e;exact⟨HT.lexLt_irrefl _,λz=>absurd z (BV _)⟩)) λr s' hr'=>hr'
end
end L2
namespace RK
open PySem PySem.W PyProof.Rows
variable {n:Nat}{ans:Nat->Nat->Bool}
noncomputable def Pm(n:Nat)(p:Array Nat):Prop:=p.Perm (List.toArray (AO n))
inductive Col:Value->Value->Int->Int->Prop where
 |int (a:Int) (t:Tok) (b:Int) (u:Tok):Col (.int a t) (.int b u) a b
 |bl (p q:Bool):Col (.bool p) (.bool q) (b2i p) (b2i q)
inductive Cols:List Value->List Value->List Int->List Int->Prop where
 |nil:Cols [] [] [] []
 |cons {u v:Value} {us vs:List Value} {a b:Int} {as bs:List Int}:Col u v a b->Cols us vs as bs->Cols (u::us) (v::vs) (a::as) (b::bs)
section
variable {prog:AB}{w:AV}{A:AF}{s:Ac}{Q:Bool->Ac->Prop}
theorem zln{u v:Value}{a b:Int}(c:Col u v a b){E:Value->Ac->Prop}(h:Q (decide (a=b)) s):Am (Aw prog w) A (eqBool u v) Q E s:=by
 cases c with
 |int _ t _ u =>
  refine wpAny_eqBool_int ?_
  rw[show (a == b)=decide (a=b) from by rw[Bool.beq_eq_decide_eq]];exact h
 |bl p q =>
  refine SeqAt.EqAt.bool_bool p q prog w E Q ?_
  have e:(p == q)=decide (b2i p=b2i q):=by cases p <;> cases q <;> decide
  rw[e];exact h
theorem zm0{u v:Value}{a b:Int}(c:Col u v a b){E:Value->Ac->Prop}(h:Q (decide (a<b)) s):Am (Aw prog w) A (oneLt' false u v) Q E s:=by
 cases c with
 |int _ t _ u=>exact kat_one _ _ (lt_int (show W.BoolBack Q (.bool (decide (a<b))) s from h))
 |bl p q=>exact kat_one _ _ (lt_bool (show W.BoolBack Q (.bool (decide (b2i p<b2i q))) s from h))
theorem zhw{bb:Bool}:∀{us vs:List Value}{as bs:List Int}(i:Nat),Cols us vs as bs->Q (HT.lexLt as bs) s->KatLex prog w A bb false Q (us.zip vs) (i+1) s
 |_,_,_,_,_,.nil,h=>kat_nil h
 |_,_,_,_,i,.cons (a:=a) (b:=b) (as:=as) (bs:=bs) c r,h=>by
  rw[HT.lexLt_cons]at h;refine kat_cons (zln c ?_)
  by_cases e:a=b
  .rw[decide_eq_true e];rw[if_pos e]at h;exact kat_yes (zhw (i+1) r h)
  .rw[decide_eq_false e];rw[if_neg e]at h;refine kat_no ?_
   rw[show (bb && (i+1 == 0))=false by simp];exact zm0 c h
theorem kat_cols0{us vs:List Value}{as bs:List Int}{a b:Int}{t u:Tok}(r:Cols us vs as bs)(h:Q (HT.lexLt (a::as) (b::bs)) s):KatLex prog w A true false Q ((Dm a t::us).zip (Dm b u::vs)) 0 s:=by
 rw[HT.lexLt_cons]at h;refine kat_cons (zln (.int a t b u) ?_)
 by_cases e:a=b
 .rw[decide_eq_true e];rw[if_pos e]at h;exact kat_yes (zhw 0 r h)
 .rw[decide_eq_false e];rw[if_neg e]at h;exact kat_no (oneLt_int h)
end
end RK
namespace L2
open PySem PySem.Spec PyProof.Rows
section
variable {X:Cx}{k:Nat}{f:Addr}{fd:Bq}{ps:List Str}{sp:Sp}{pins:List (Addr×Obj)}{σ:St}{H0:Hp}{Q:VK}
theorem Inv.adopt{H:Hp}{s:Ac}{D:Addr}{o:HO}{h':Heap}{t':Nat}(I:Inv X pins σ H s)(fb:FpOk X pins H D)(hk:∀b u, b ≠ D -> s.heap.get? b=some u -> h'.get? b=some u)(heo:∃u, h'.get? D=some u)
  (new:ObjOk X.prog X.w (upd H D o) h' D o):Inv X pins σ (upd H D o) { s with heap:=h',toks:=t' }:=by
 have hn:=fb.1;have nit:∀b u,H b=some u->b≠D:=λb u e z=>by rw[z,hn]at e;cases e
 refine I.step (g':=s.gens) (d':=s.drawn) (ch:=[D]) (λb hb=>?_) (λb u _ _ hc e _=>hk b u (λz=>hc (by simp[z])) e) (λb u _ _ hc e _=>⟨u.slots,hk b u (λz=>hc (by simp[z])) e⟩)
  (λb u hc _ n=>by rw[zai (λz=>hc (by simp[z]))];exact n)
  (λb u hc e=>⟨u,hk b u (λz=>hc (by simp[z])) e⟩) (λb xs e=>by rw[zai (nit _ _ e)];exact e) (λb u xs e=>by rw[zai (nit _ _ e)];exact e) (λb ps e=>⟨#[],by rw[zai (nit _ _ e),e];simp⟩) (λm hm=>?_) (λb u e=>?_) I.bare
 .have e:b=D:=by simpa using hb
  subst e;exact⟨fb.2.2.2.1,fb.2.1,fb.2.2.2.2.1,fb.2.2.2.2.2⟩
 .obtain⟨u,es,ep,ho,r⟩:=hm;exact⟨u,es,ep,hk _ u (Bx fb.2.1) ho,r⟩
 .by_cases hb:b=D
  .subst hb;rw[zaa]at e;cases e;exact new
  .rw[zai hb]at e;refine (I.hok b u e).stay (λc v hc q=>hk c v ?_ q) (λc q=>by rw[zai (nit _ _ q)];exact q) λc xs q=>by rw[zai (nit _ _ q)];exact q
   rcases hc with z |z
   .rw[z];exact nit b u e
   .exact nit c _ z
noncomputable def zhR(X:Cx)(σ:St)(H0:Hp)(f:Addr)(xs:List V)(κV:Nat->List V):Prop:=∀(pins:List (Addr×Obj)) (i:Nat) (x:V) (u:Value) (H:Hp) (s:Ac),xs[i]?=some x->Same H0 H->Inv X pins σ H s->RelV x u ->
 Am (Aw X.prog X.w) X.A.in1.in1 (call (.ref f) [u]) (EP X pins σ λv H'=>Same H H'/\∃a,v=.ref a/\SqT X.K H' a (κV i)) (λ_ _=>False) s
inductive VCol:V->V->Int->Int->Prop where
 |int (a b:Int):VCol (.int a) (.int b) a b
 |bl (p q:Bool):VCol (.bl p) (.bl q) (b2i p) (b2i q)
inductive VCols:List V->List V->List Int->List Int->Prop where
 |nil:VCols [] [] [] []
 |cons {x y:V} {xs ys:List V} {a b:Int} {as bs:List Int}:VCol x y a b->VCols xs ys as bs->VCols (x::xs) (y::ys) (a::as) (b::bs)
theorem VCols.vals:∀{xs ys:List V}{as bs:List Int}{us vs:List Value},VCols xs ys as bs->Vals xs us->Vals ys vs->RK.Cols us vs as bs
  |_,_,_,_,_,_,.nil,.nil,.nil=>.nil
  |_, _, _, _, _, _, .cons c r, .cons h t, .cons g q => .cons (by
      cases c with
      |int a b=>obtain⟨t,rfl⟩:=h;obtain⟨u,rfl⟩:=g;exact .int _ _ _ _
      |bl p q=>cases h;cases g;exact .bl _ _) (r.vals t q)
structure SK (X:Cx) (pins:List (Addr×Obj)) (σ:St) (H:Hp) (s:Ac) (D st:Addr) (e:Nat) (κV:Nat->List V) (ks:List Addr):Prop where
 inv:Inv X pins σ H s
 fd:FpOk X pins H D
 fs:FpOk X pins H st
 ne:st≠D
 hd:s.heap.get? D=some (Bz "list" #[] e)
 hs:∃c,s.heap.get? st=some (Bz "list" (ks.map Ao).toArray c)
 hk:∀i a,ks[i]?=some a->SqT X.K H a (κV i)
theorem zhy{M:D4}{A:AF}{E:Value -> Ac -> Prop}{body:Value -> PUnit -> Sem (ForInStep PUnit)}{vs:List Value}(P:Nat -> Ac -> Prop)
  (hb:∀i x s,vs[i]?=some x->P i s->Am M A (body x ⟨⟩) (λr s'=>r=.yield ⟨⟩/\P (i+1) s') E s):∀(r:List Value) (i:Nat) (s:Ac),vs.drop i=r->i<=vs.length->P i s ->
   Am M A (forIn r PUnit.unit body) (λ_ s'=>P vs.length s') E s
 |[],i,s,hr,hi,h=>by
  rw[List.forIn_nil];have:vs.length<=i:=List.drop_eq_nil_iff.mp hr;exact Af (by rw[show vs.length=i by lia];exact h)
 |x::r,i,s,hr,hi,h=>by
  have hx:vs[i]?=some x:=by have:=congrArg (·[0]?) hr;simpa using this
  have hlt:i<vs.length:=(Ad.mp hx).1;have hr':vs.drop (i+1)=r:=by rw[<- List.tail_drop,hr];rfl
  rw[List.forIn_cons];refine Ab (Bk (hb i x s hx h) (λq s' hq=>?_) λ_ _ e=>e);obtain⟨rfl,h'⟩:=hq;exact zhy P hb r (i+1) s' hr' hlt h'
end
section
variable {X:Cx}{pins:List (Addr×Obj)}{σ:St}{H:Hp}{s:Ac}{D st:Addr}{e:Nat}{κV:Nat->List V}{ks:List Addr}{E:Value->Ac->Prop}
noncomputable def zhS(X:Cx)(G:Array Nat->Prop)(ks vs:List Value)(E:Value->Ac->Prop)(s:Ac):Prop :=
 Am (Aw X.prog X.w) X.A.in1.in1 (keyKind' ks.toArray) (λκ s0=>s0=s /\
  Am (Aw X.prog X.w) X.A.in1.in1 ((sortRuns').run (SortSt.mk' κ (ks.toArray.zip vs.toArray) #[] 7 none)) (λr s'=>s'=s/\Dk r.2=none/\∃p:Array Nat,G p/\p.size=vs.length/\AQ r.2=p.map (DB (ks.toArray.zip vs.toArray))) E s) E s
theorem zjE{as:List Addr}(I:Inv X pins σ H s):∀{ks:List Addr}{vs:List (List V)}{ns:List Int}, (∀(i:Nat) (a:Addr), ks[i]? = some a -> ∃n r, ns[i]? = some n /\ SqT X.K H a (.int n :: r)) -> ns.length=ks.length ->
  ∃fs:List Value,W.KatTups s.heap (ks.map Ao) fs/\fs.length=ks.length/\∀v∈fs,∃n t,v=Dm n t
 |[],_,_,_,_=>⟨[],.nil,rfl,λ_ h=>nomatch h⟩
 |a::r,vs,[],_,h=>by cases h
 |a::r,vs,n::ns,hk,h=>by
  obtain⟨m,q,e1,hq⟩:=hk 0 a rfl;obtain⟨fs,t,hl,hi⟩:=zjE (as:=as) (vs:=vs) I (ks:=r) (ns:=ns) (λi b hb=>by simpa using hk (i+1) b (by simpa using hb)) (by simpa using h);obtain⟨its,rv,⟨o,ho,hc,c,hd⟩,_⟩:=I.tuple hq
  cases rv with
  |cons rx rr =>
   obtain⟨t1,rfl⟩:=rx;refine⟨Dm m t1::fs,.cons ho hc hd (by simp) t,by simp[hl],λv hv=>?_⟩;rcases At.mp hv with rfl |hv
   .exact⟨_,_,rfl⟩
   .exact hi v hv
end
section
variable {X:Cx}{k:Nat}{f:Addr}{fd:Bq}{ps:List Str}{sp:Sp}{pins:List (Addr×Obj)}{σ:St}{H0 H:Hp}{s:Ac}{D st l:Addr}{e:Nat}{κV:Nat->List V}{ks:List Addr}{E:Value->Ac->Prop}{G:Array Nat->Prop}{xs:List V}{vs:List Value}{Q:VK}
noncomputable def outV(xs:List V)(p:Array Nat):List V:=p.toList.map λi=>xs.getD i .non
theorem ziq{xs:List V}{vs:List Value}(r:Vals xs vs)(i:Nat)(hi:i<xs.length):RelV (xs.getD i .non) (vs.getD i Value.none):=by
 have hx:xs[i]?=some xs[i]:=by simp[hi]
 obtain⟨u,hu,ru⟩:=r.get hx;rw[AC,hx,AC,hu];exact ru
theorem zg5{xs:List V}{vs:List Value}(r:Vals xs vs):∀(l:List Nat),(∀i∈l,i<xs.length)->Vals (l.map λi=>xs.getD i .non) (l.map λi=>vs.getD i Value.none)
 |[],_=>.nil
 |i::t,h=>.cons (ziq r i (h i Az)) (zg5 r t λj hj=>h j (Ar _ hj))
theorem zgE{p:Array Nat}:(outV xs p).length=p.size:=by unfold outV;simp
theorem zly{P:PySem.Fin -> Ac -> Prop}{so:Ca}{out:List Value}{ys:List V}(K:SK X pins σ H s D st e κV ks)(hks:ks.length <= sizeLine)(ho:(AQ so).map (·.2)=out.toArray)(ry:Vals ys out)(hz:ys.length <= sizeLine)(hf:Dk so=none)
  (h:∀s',Inv X pins σ (upd H D (.lst ys)) s'->P (.done (.ret .none)) s'):Am (Aw X.prog X.w) X.A.in1.in1 (ksk_tail D false e (.ref st) so) P E s:=by
 obtain⟨c,hc⟩:=K.hs;have hzo:out.length<=sizeLine:=by rw[<- ry.length];exact hz
 have s1:=BC s.heap st (AU λ_=>(#[]:Array Value));have hd1:(s.heap.update st (AU λ_=>(#[]:Array Value))).get? D=some (Bz "list" #[] e):=(s1.2 D K.ne.symm).trans K.hd;have s2:=BC (s.heap.update st (AU λ_=>(#[]:Array Value))) D (AU λ_=>out.toArray);obtain⟨c2,hc2⟩:∃c2,((s.heap.update st (AU λ_=>(#[]:Array Value))).update D (AU λ_=>out.toArray)).get? D=some (Bz "list" out.toArray c2):=⟨_,DY hd1 λ_=>out.toArray⟩;unfold ksk_tail
 try dsimp only
 rw[ho];refine Ab (listUpdate_at hc rfl ?_ (by simpa using hks) (Be _));refine Ab (CP ?_);refine Ab (seqEpoch_at hd1 rfl ?_);simp only[BA,if_false];refine Ab (listUpdate_at hd1 rfl ?_ (Be _) (by simp;lia));rw[hf];simp only[bne_self_eq_false,BA,if_false];refine Af (h _ ?_);have I1:Inv X pins σ H { s with heap:=s.heap.update st (AU λ_=>(#[]:Array Value)) }:=K.inv.moved (t':=s.toks) K.fs (λb o hb e=>(s1.2 b λz=>hb (by simp[z])).trans e);exact I1.adopt (t':=s.toks) K.fd (λb u hb q=>(s2.2 b hb).trans q) ⟨_,hc2⟩ ⟨hz,out,c2,ry,hc2⟩
theorem zmp{P:PySem.Fin -> Ac -> Prop}(K:SK X pins σ H s D st e κV ks)(hl:ks.length=vs.length)(r:Vals xs vs)(hz:xs.length <= sizeLine)(hG:∀p, G p -> ∀i ∈ p.toList, i < xs.length)
  (h0:vs.length<2->G (List.toArray (AO vs.length))) (core:2<=vs.length->zhS X G (ks.map Ao) vs E s)
  (h:∀p s',G p->p.size=xs.length->Inv X pins σ (upd H D (.lst (outV xs p))) s'->P (.done (.ret .none)) s'):Am (Aw X.prog X.w) X.A.in1.in1 (ksk_end D false vs.toArray e (.ref st) (ks.map Ao).toArray) P E s:=by
 have hlx:xs.length=vs.length:=r.length;have hl':(ks.map Ao).length=vs.length:=by simp[hl]
 have fin:∀(p:Array Nat) (so:Ca),G p->p.size=vs.length->AQ so=p.map (DB ((ks.map Ao).toArray.zip vs.toArray))->Dk so=none->Am (Aw X.prog X.w) X.A.in1.in1 (ksk_tail D false e (.ref st) so) P E s:=λp so g hp ha hf =>
  zly K (by lia) (W.kat_snds hl' ha) (ys:=outV xs p) (zg5 r _ (hG p g)) (by rw[zgE];lia) hf λs' I'=>h p s' g (by lia) I'
 unfold ksk_end
 try dsimp only
 simp only[BA,if_false]
 by_cases h2:vs.length<2
 .have h2':vs.toArray.size<2:=by simpa using h2
  rw[if_pos h2',if_pos h2'];refine Ab (Af ?_);show Am (Aw X.prog X.w) X.A.in1.in1 (pure ((),SortSt.mk' general' ((ks.map Ao).toArray.zip vs.toArray) #[] 7 none) >>= _) P E s;refine Ab (Af ?_)
  try dsimp only
  refine fin (List.toArray (AO vs.length)) _ (h0 h2) (by simp) ?_ rfl;have:=W.kas_range ((ks.map Ao).toArray.zip vs.toArray);rw[show ((ks.map Ao).toArray.zip vs.toArray).size=vs.length by simp[hl]]at this;exact this.symm
 .have h2':¬ vs.toArray.size<2:=by simpa using h2
  rw[if_neg h2',if_neg h2'];refine Ab (Bk (core (by lia)) (λκ s0 hk=>?_) λ_ _ z=>z);obtain⟨rfl,hk⟩:=hk;refine Ab (Bk hk (λr' s' hr=>?_) λ_ _ z=>z);obtain⟨rfl,hf,p,g,hp,ha⟩:=hr;obtain⟨⟨⟩,so⟩:=r'
  try dsimp only
  exact fin p so g hp ha hf
theorem zlz{P:PySem.Fin -> Ac -> Prop}(F:zhR X σ H0 f xs κV)
    (K:SK X pins σ H0 s D st e κV []) (r:Vals xs vs) (hz:xs.length<=sizeLine)
    (h:∀H' s' ks,ks.length=vs.length->Same H0 H'->SK X pins σ H' s' D st e κV ks->Am (Aw X.prog X.w) X.A.in1.in1 (ksk_end D false vs.toArray e (.ref st) (ks.map Ao).toArray) P E s') :
    Am (Aw X.prog X.w) X.A.in1.in1 (ksk_rest D (.ref f) false vs.toArray e (.ref st)) P E s:=by
  have hlx:xs.length=vs.length:=r.length;unfold ksk_rest;refine Ab (wpAny_rule ?_);rw[List.forIn_toArray];refine Ab (Bk (zhy (vs:=vs) (λi s'=>∃H' ks,ks.length=i/\Same H0 H'/\SK X pins σ H' s' D st e κV ks) (λi x s1 hx hP=>?_) vs 0 s rfl (Be _) ⟨H0,[],rfl,Same.refl _,K⟩) (λ_ s' hd=>?_) λ_ _ z=>z)
  . obtain⟨H1,ks,hkl,hS,K1⟩:=hP;have hi:i<xs.length:=by rw[hlx];exact (Ad.mp hx).1
    have hxx:xs[i]?=some xs[i]:=by simp[hi]
    obtain⟨u,hu,ru⟩:=r.get hxx;rw[hx]at hu
    cases hu
    obtain⟨c,hc⟩:=K1.hs
    have I1:Inv X (pins ++ zdk [D, st] s1.heap) σ H1 s1 := K1.inv.pinned (λb hb => by
        rcases At.mp hb with rfl |hb
        . exact K1.fd
        . rw[An.mp hb];exact K1.fs) (λb hb=>by
        rcases At.mp hb with rfl |hb
        . exact⟨_,K1.hd,zcu⟩
        . rw[An.mp hb];exact⟨_,hc,zcu⟩)
    refine Ab (wpAny_attempt (Bk (F _ i _ _ H1 _ hxx hS I1 ru) (λv s2 hv=>?_) λ_ _ hF=>hF.elim));obtain⟨y,H2,I2,ry,hS2,a,ey,ka⟩:=hv;subst ey
    cases (show v=Ao a from ry)
    have p1:=I2.pin (D,Bz "list" #[] e) (Ap _ (Ap _ (zaY (by simp) K1.hd)));have p2:=I2.pin (st,Bz "list" (ks.map Ao).toArray c) (Ap _ (Ap _ (zaY (by simp) hc)));have sb:=BC s2.heap st (AU (·.push (Ao a)));have ea:(ks.map Ao).toArray.push (Ao a)=((ks++[a]).map Ao).toArray:=by simp
    obtain⟨c2,hc2⟩:∃c2,(s2.heap.update st (AU (·.push (Ao a)))).get? st=some (Bz "list" ((ks++[a]).map Ao).toArray c2):=⟨_,by rw[<- ea];exact DY p2.1 (·.push (Ao a))⟩
    try dsimp only
    refine Ab (listUpdate_at p2.1 rfl ?_ (by simp;lia) (by simp;lia));refine Af ⟨rfl,H2,ks++[a],by simp[hkl],hS.trans hS2,I2.unpinned.moved (t':=s2.toks) (K1.fs.again p2.2.1) (λb o hb e=>(sb.2 b λz=>hb (by simp[z])).trans e),K1.fd.again p1.2.1,K1.fs.again p2.2.1,K1.ne,(sb.2 D K1.ne.symm).trans p1.1,⟨c2,hc2⟩,λj b hj=>?_⟩;rcases AX j ks.length with hjl |hjl
    . rw[AG hjl]at hj;exact hS2.seqT (K1.hk j b hj)
    . rw[A0 hjl]at hj
      have hj0:j-ks.length=0:=by have:=(Ad.mp hj).1;simp at this;lia
      rw[hj0]at hj
      cases A4 hj
      rw[show j=i by lia];exact ka
  . obtain⟨H',ks,hkl,hS,K'⟩:=hd;obtain⟨c,hc⟩:=K'.hs
    try dsimp only
    refine Ab (listItems_at hc rfl ?_);exact h H' s' ks hkl hS K'
theorem zlx{P:PySem.Fin -> Ac -> Prop}{c0:Nat}(F:zhR X σ H0 f xs κV)
  (I:Inv X pins σ H0 s) (fb:FpOk X pins H0 D) (hd:s.heap.get? D=some (Bz "list" vs.toArray c0)) (r:Vals xs vs) (hz:xs.length<=sizeLine)
  (h:∀e H' s' ks st,ks.length=vs.length->Same H0 H'->SK X pins σ H' s' D st e κV ks->Am (Aw X.prog X.w) X.A.in1.in1 (ksk_end D false vs.toArray e (.ref st) (ks.map Ao).toArray) P E s') :
  Am (Aw X.prog X.w) X.A.in1.in1 (ksk_tree D (.ref f) false) P E s:=by
 have hlx:xs.length=vs.length:=r.length;have s1:=BC s.heap D (AU λ_=>(#[]:Array Value));obtain⟨e1,ho1⟩:∃e1,(s.heap.update D (AU λ_=>(#[]:Array Value))).get? D=some (Bz "list" #[] e1):=⟨_,DY hd λ_=>#[]⟩;have hDl:D<s.heap.objs.size:=Au hd;unfold ksk_tree;refine Ab (listItems_at hd rfl ?_);refine Ab (listUpdate_at hd rfl ?_ (by simp;lia) (Be _));refine Ab (seqEpoch_at ho1 rfl ?_);refine Ab (wpAny_newTuple ?_ (by simp;lia));refine Ab (wpAny_newList ?_ (Be _));refine A9 ?_
 have I1:Inv X pins σ H0 { s with heap:=s.heap.update D (AU λ_=>(#[]:Array Value)) }:=I.moved (t':=s.toks) fb (λb o hb e=>(s1.2 b λz=>hb (by simp[z])).trans e);have keep:∀b o,(s.heap.update D (AU λ_=>(#[]:Array Value))).get? b=some o->(((s.heap.update D (AU λ_=>(#[]:Array Value))).push (Bz "tuple" vs.toArray.toList.toArray 0)).push (Bz "list" #[] 0)).get? b=some o:=λb o q=>Ae _ (Ae _ q)
 have hsz:((s.heap.update D (AU λ_=>(#[]:Array Value))).push (Bz "tuple" vs.toArray.toList.toArray 0)).objs.size=s.heap.objs.size+1:=by rw[size_push',Heap.size_update]
 have I2:Inv X pins σ H0 { s with heap:=((s.heap.update D (AU λ_=>(#[]:Array Value))).push (Bz "tuple" vs.toArray.toList.toArray 0)).push (Bz "list" #[] 0) }:=I1.kept (t':=s.toks) keep;show Am (Aw X.prog X.w) X.A.in1.in1 (ksk_rest D (.ref f) false vs.toArray _ (.ref ((s.heap.update D (AU λ_=>(#[]:Array Value))).push (Bz "tuple" vs.toArray.toList.toArray 0)).objs.size)) P E { s with heap:=((s.heap.update D (AU λ_=>(#[]:Array Value))).push (Bz "tuple" vs.toArray.toList.toArray 0)).push (Bz "list" #[] 0) };rw[hsz];have hss:(((s.heap.update D (AU λ_=>(#[]:Array Value))).push (Bz "tuple" vs.toArray.toList.toArray 0)).push (Bz "list" #[] 0)).get? (s.heap.objs.size+1)=some (Bz "list" #[] 0):=by rw[<- hsz];exact Av _ rfl
 exact zlz F ⟨I2,fb,I.fpOk (Cj _) (I.hok.fresh (Cj _)),Cf (Nat.lt_succ_of_lt hDl),keep _ _ ho1,⟨0,by simpa using hss⟩,λi a ha=>by simp at ha⟩ r hz λH' s' ks a b c=>h _ H' s' ks _ a b c
end
section
variable {X:Cx}{k:Nat}{f:Addr}{fd:Bq}{ps:List Str}{sp:Sp}{pins:List (Addr×Obj)}{σ:St}{H0:Hp}{s:Ac}{l:Addr}{κV:Nat->List V}{G:Array Nat->Prop}{xs:List V}{Q:VK}
theorem zie(F:zhR X σ H0 f xs κV)
  (hl:SqL X.K H0 l xs) (hG:∀p,G p->∀i∈p.toList,i<xs.length) (h0:xs.length<2->G (List.toArray (AO xs.length)))
  (core:∀{vs:List Value} {ks:List Addr} {H':Hp} {s':Ac} {D st:Addr} {e:Nat},Vals xs vs->SK X pins σ H' s' D st e κV ks->ks.length=vs.length->2<=vs.length->zhS X G (ks.map Ao) vs X.xe s')
  (hQ:∀p D H',G p->p.size=xs.length->H0 D=none->Same H0 H'->H' D=some (.lst (outV xs p))->Q (.ref D) H') (I:Inv X pins σ H0 s) :
  Am (Aw X.prog X.w) X.A (call (.builtin "sorted") [.ref l] [(BW "key",.ref f)]) (EP X pins σ Q) X.xe s:=by
 obtain⟨vs,r,pl,hz⟩:=I.list hl;have hlx:xs.length=vs.length:=r.length;refine call_function_entry_kw kind_sorted plain_sorted entry_sorted (ksk_s1 _ _) ?_
 unfold Builtin.«sorted»;refine Ab (m:=checkCount "sorted" 1 1 _) (Af ?_);refine Ab (collect_list pl.isList ?_ (by first |lia | (rw[As];lia) | (simp;lia)));refine Ab (wpAny_newList ?_ (by first |lia | (rw[As];lia) | (simp;lia)));have hsz:((s.heap.push (Bz "list" #[] 0)).update s.heap.objs.size (AU (·++vs.toArray))).objs.size=s.heap.objs.size+1:=by rw[Heap.size_update,size_push']
 have hoL:(((s.heap.push (Bz "list" #[] 0)).update s.heap.objs.size (AU (·++vs.toArray))).push (Bz "list" vs.toArray 0)).get? (s.heap.objs.size+1)=some (Bz "list" vs.toArray 0):=by rw[<- hsz];exact Av _ rfl
 have keep:∀b o,s.heap.get? b=some o->(((s.heap.push (Bz "list" #[] 0)).update s.heap.objs.size (AU (·++vs.toArray))).push (Bz "list" vs.toArray 0)).get? b=some o:=λb o q=>by have hlt:b<s.heap.objs.size:=Au q;rw[Heap.get?_push_ne _ _ _ (by rw[hsz];exact AK (Nat.lt_succ_of_lt hlt)),Heap.get?_update_ne _ _ _ _ (AK hlt),Heap.get?_push_ne _ _ _ (AK hlt)];exact q
 show Am _ _ _ _ _ { s with heap:=((s.heap.push (Bz "list" #[] 0)).update s.heap.objs.size (AU (·++vs.toArray))).push (Bz "list" vs.toArray 0) };rw[hsz];refine Ab (A9 (wpAny_call_entry_kw slot_list_sort ⟨_,hoL,rfl⟩ entry_list_sort ?body (ksk_l1 _ _)))
 case body =>
  show Am (Aw X.prog X.w) X.A.in1.in1 (Builtin.«list.sort» ⟨[.ref (s.heap.objs.size+1)],[(BW "key",.ref f)]⟩) _ _ _;rw[ksk_t1];have I1:Inv X pins σ H0 { s with heap:=((s.heap.push (Bz "list" #[] 0)).update s.heap.objs.size (AU (·++vs.toArray))).push (Bz "list" vs.toArray 0) }:=I.kept (t':=s.toks) keep;have hDn:H0 (s.heap.objs.size+1)=none:=I.hok.fresh (Cj _);refine zlx F I1 (I.fpOk (Cj _) hDn) hoL r hz λe H' s' ks st hks hS K=>?_
  refine zmp K hks r hz hG (λh2=>by rw[<- hlx];exact h0 (by lia)) (core r K hks) λp s2 g hp I2=>⟨_,rfl,?_⟩
  refine Af ⟨_,rfl,.ref (s.heap.objs.size+1),_,I2,rfl,hQ p _ _ g hp hDn (λb o q=>?_) zaa⟩;rw[zai (zaj q hDn)];exact hS b o q
end
section
variable {X:Cx}{x:Str}{p pos kp kpos:Pos}{e:Expr}{te:TE}{k:Nat}{f:Addr}{fd:Bq}{ps:List Str}{sp:Sp}{fn:Str}
noncomputable def tMinK(K:W.Frag)(te:TE)(sp:Sp):TE:=λσ H Q=>te σ H λv H1=>∃l xs,∃ κ:Nat->List Int,[v]=[V.ref l]/\SqL K H1 l xs/\0<xs.length /\
 (∀i x H2,xs[i]?=some x->Same H1 H2->sp [x] H2 (λv H'=>Same H2 H'/\∃a,v=.ref a/\SqT K H' a ((κ i).map V.int)) E0)/\∀i x H',xs[i]?=some x->Least κ xs.length i->Same H1 H'->Q x H'
theorem zlM (F:FnOk X.prog X.w X.K X.mg X.base CX0 k f fd ps sp) (hr:Room (k + 1) X.A) (hb:Binds X.K fd ps []) (hg:Gl X "min") (hm:X.mg "min" = none) (hgf:Gl X fn) (hmf:X.mg fn=some (.ref f)) (he:PE X e te)
  (hdb:(fn == ("__debug__" : Str))=false:=by decide) (hse:A5 [e] X.env=[(false,eval e X.env)]:=by rfl) (hh:X.calm=true:=by rfl)
  (hall:(DO pos (CA [⟨some "key",.Name fn kp,kpos⟩] X.env)).all (·.1.isSome)=true:=by rfl) (hkw:(DO pos (CA [⟨some "key",.Name fn kp,kpos⟩] X.env)).any (·.1.isNone)=false:=by rfl)
  (hks:(DO pos (CA [⟨some "key",.Name fn kp,kpos⟩] X.env)).filterMap (·.1)=[BW "key"]:=by rfl) :
  PE X (.Call (.Name "min" p) [e] [⟨some "key",.Name fn kp,kpos⟩] pos) (tMinK X.K te sp):=by
 intro pins s σ H Q I h;refine Cc (zdm I hg hm boot_min ?_ (by decide) (by decide))
 refine callWith_kw (thn (zah he zab (hs:=hse) pos pins s σ H (λvs H1=>∃l xs,∃ κ:Nat->List Int,vs=[V.ref l]/\SqL X.K H1 l xs/\0<xs.length /\
  (∀i x H2,xs[i]?=some x->Same H1 H2->sp [x] H2 (λv H'=>Same H2 H'/\∃a,v=.ref a/\SqT X.K H' a ((κ i).map V.int)) E0)/\∀i x H',xs[i]?=some x->Least κ xs.length i->Same H1 H'->Q x H') I ?_) λus s1 ⟨vs,H1,I1,r,q⟩=>?_) (by rw[hse];rfl) (by rw[hse];rfl) hall hkw
 .show te σ H _;exact h
 .obtain⟨l,xs,κ,rfl,hq,hne,turn,hQ⟩:=q;obtain⟨u,rfl,ru⟩:=Vals.one r
  cases (show u=Ao l from ru)
  refine thn (zja (nm:=some "key") (kpos:=kpos) (zdS (v:=.ref f) hgf hmf rfl hdb) zlc pos pins s1 σ H1 (λzs H2=>zs=[.ref f]/\H2=H1) I1 ⟨rfl,rfl⟩) λws s2 ⟨zs,H2,I2,rz,q2⟩=>?_
  obtain⟨rfl,rfl⟩:=q2;obtain⟨u2,rfl,ru2⟩:=Vals.one rz
  cases (show u2=Ao f from ru2)
  rw[hks];exact zj4 (I1.ok.hd hh) F hr hb turn hq hne hQ I2
theorem zj3 (hu:X.A.units + 1 < cLine) (hh:X.calm=true):CallR X (.builtin "min") (λvs H Q => ∃l xs, ∃ κ : Nat -> List Int, vs = [.ref l] /\ SqL X.K H l xs /\ 0 < xs.length /\
  (∀i x,xs[i]?=some x->∃a,x=.ref a/\SqT X.K H a ((κ i).map V.int))/\∀i x H',xs[i]?=some x->Least κ xs.length i->Same H H'->Q x H'):=by
 intro pins s σ H vs us Q I r h;obtain⟨l,xs,κ,rfl,hq,hne,turn,hQ⟩:=h;obtain⟨u,rfl,ru⟩:=Vals.one r
 cases (show u=Ao l from ru)
 exact zj2 (I.ok.hd hh) hu turn hq hne hQ I
end
end L2
namespace TS
open PySem PyProof.Rows
structure LtOk (M:D4) (A:AF) (E:Value->Ac->Prop) (s:Ac) (kd:Cu) (S:Keyed->Prop) (L:Keyed->Keyed->Bool):Prop where
 lt:∀x y,S x->S y->∀(st:Ca) (Q:Option Bool->Ca->Prop),kindOf st=kd->Q (some (L x y)) st->wpS M A E s (lt' x y) Q st
 tr:∀x y z,S x->S y->S z->L y x=false->L z y=false->L z x=false
 as:∀x y,S x->S y->L x y=true->L y x=false
section
variable {M:D4}{A:AF}{E:Value->Ac->Prop}{s:Ac}{kd:Cu}{S:Keyed->Prop}{L:Keyed->Keyed->Bool}
theorem zg1{arr:Array Keyed}{i:Nat}{x:Keyed}{st:Ca}{Q:Keyed->Ca->Prop}(h:arr[i]?=some x)(q:Q x st):wpS M A E s (elem' arr i) Q st:=by rw[elem'_eq,h];exact BR q
end
end TS
namespace TS
section
variable {α:Type}{le:α->α->Prop}
structure MI (le:α->α->Prop) (a b out:List α) (ia ib:Nat):Prop where
 ha:ia<=a.length
 hb:ib<=b.length
 perm:(out++a.drop ia++b.drop ib).Perm (a++b)
 sorted:out.Pairwise le
 lea:∀x∈out,∀y∈a.drop ia,le x y
 leb:∀x∈out,∀y∈b.drop ib,le x y
end
end TS
namespace TS
open PySem PyProof.Rows
noncomputable abbrev leOf(L:Keyed->Keyed->Bool):Keyed->Keyed->Prop:=λx y=>L y x=false
section
variable {M:D4}{A:AF}{E:Value->Ac->Prop}{s:Ac}{kd:Cu}{S:Keyed->Prop}{L:Keyed->Keyed->Bool}
theorem LtOk.rf(O:LtOk M A E s kd S L){x:Keyed}(h:S x):L x x=false:=by
 cases q:L x x with
 |false=>rfl
 |true=>rw[O.as x x h h q]at q;cases q
structure Two (S:Keyed->Prop) (L:Keyed->Keyed->Bool) (a b:Array Keyed):Prop where
 sa:a.toList.Pairwise (leOf L)
 sb:b.toList.Pairwise (leOf L)
 Sa:∀x∈a.toList,S x
 Sb:∀x∈b.toList,S x
variable {a b:Array Keyed}{out:Array Keyed}{ia ib:Nat}
end
end TS
set_option maxHeartbeats 8000000
namespace TS
open PySem PyProof.Rows
section
variable {M:D4}{A:AF}{E:Value->Ac->Prop}{s:Ac}{kd:Cu}{S:Keyed->Prop}{L:Keyed->Keyed->Bool}{a b out:Array Keyed}{ia ib:Nat}
noncomputable abbrev LH:=Option (Array Keyed)×Array Keyed×Nat×Nat×Nat×Nat×Nat
variable {Q:ForInStep LH->Ca->Prop}{z:Ca}{N mg ac bc:Nat}{x y:Keyed}
end
section
variable {M:D4}{A:AF}{E:Value->Ac->Prop}{s:Ac}{kd:Cu}{S:Keyed->Prop}{L:Keyed->Keyed->Bool}{a b:Array Keyed}
end
end TS
set_option maxHeartbeats 8000000
namespace TS
open PySem PyProof.Rows
section
variable {α:Type}{le:α->α->Prop}
structure MJ (le:α->α->Prop) (a b r:List α) (na nb:Nat):Prop where
 ha:na<=a.length
 hb:nb<=b.length
 perm:(a.take na++b.take nb++r).Perm (a++b)
 sorted:r.Pairwise le
 lea:∀x∈a.take na,∀y∈r,le x y
 leb:∀x∈b.take nb,∀y∈r,le x y
end
end TS
set_option maxHeartbeats 8000000
namespace TS
open PySem PyProof.Rows
section
variable {M:D4}{A:AF}{E:Value->Ac->Prop}{s:Ac}{kd:Cu}{S:Keyed->Prop}{L:Keyed->Keyed->Bool}{a b out:Array Keyed}{na nb:Nat}
end
end TS
set_option maxHeartbeats 8000000
namespace TS
open PySem PyProof.Rows
section
variable {M:D4}{A:AF}{E:Value->Ac->Prop}{s:Ac}{kd:Cu}{S:Keyed->Prop}{L:Keyed->Keyed->Bool}{a b out:Array Keyed}{na nb:Nat}
end
end TS
set_option maxHeartbeats 8000000
namespace TS
open PySem PyProof.Rows
section
variable {M:D4}{A:AF}{E:Value->Ac->Prop}{s:Ac}{kd:Cu}{S:Keyed->Prop}{L:Keyed->Keyed->Bool}{a b out:Array Keyed}{na nb:Nat}
noncomputable abbrev RH:=Option (Array Keyed)×Nat×Nat×Array Keyed×Nat×Nat×Nat
variable {Q:ForInStep RH->Ca->Prop}{z:Ca}{N mg ac bc:Nat}{x y:Keyed}
end
section
variable {M:D4}{A:AF}{E:Value->Ac->Prop}{s:Ac}{kd:Cu}{S:Keyed->Prop}{L:Keyed->Keyed->Bool}{a b:Array Keyed}
end
end TS
namespace TS
open PySem PyProof.Rows
section
variable {M:D4}{A:AF}{E:Value->Ac->Prop}{s:Ac}{kd:Cu}{S:Keyed->Prop}{L:Keyed->Keyed->Bool}
noncomputable def Seg(L:Keyed->Keyed->Bool)(a:Array Keyed)(lo n:Nat):Prop:=∀(i j:Nat) x y,i<=j->j<n->a[lo+i]?=some x->a[lo+j]?=some y->L y x=false
noncomputable def Rev(L:Keyed->Keyed->Bool)(a:Array Keyed)(lo n:Nat):Prop:=∀(i j:Nat) x y,i<=j->j<n->a[lo+i]?=some x->a[lo+j]?=some y->L x y=false
structure SB (kd:Cu) (S:Keyed->Prop) (st0 st:Ca) (lo hi:Nat):Prop where
 kind:kindOf st=kd
 pend:Dr st=Dr st0
 fail:Dk st=Dk st0
 perm:(AQ st).Perm (AQ st0)
 out:∀k:Nat,k<lo∨hi<=k->(AQ st)[k]?=(AQ st0)[k]?
 all:∀(k:Nat) x,(AQ st)[k]?=some x->S x
theorem SB.size{st0 st:Ca}{lo hi:Nat}(h:SB kd S st0 st lo hi):(AQ st).size=(AQ st0).size:=h.perm.size_eq
theorem zes(O:LtOk M A E s kd S L){st:Ca}{i j:Nat}{x y:Keyed}{Q:Option Bool->Ca->Prop}(hk:kindOf st=kd)(hi:(AQ st)[i]?=some x)(hj:(AQ st)[j]?=some y)(sx:S x)(sy:S y)(q:Q (some (L x y)) st):wpS M A E s (ltAt' i j) Q st:=by rw[ltAt'_eq];refine Bo (wpS_get ?_);refine Bo (zg1 hi ?_);refine Bo (zg1 hj ?_);exact O.lt x y sx sy st Q hk q
theorem zco{st:Ca}{i:Nat}(h:i<(AQ st).size):∃x,(AQ st)[i]?=some x:=⟨(AQ st)[i],by simp[h]⟩
theorem Seg.more(O:LtOk M A E s kd S L){a:Array Keyed}{lo n:Nat}{x y:Keyed}(hS:∀(k:Nat) x,a[k]?=some x->S x)(h:Seg L a lo (n+1))(hx:a[lo+n]?=some x)(hy:a[lo+(n+1)]?=some y)(hl:L y x=false):Seg L a lo (n+2):=by
 intro i j u v hij hj hu hv;rcases AX j (n+1) with q |q
 .exact h i j u v hij q hu hv
 .have ej:j=n+1:=by lia
  subst ej;rw[hy]at hv
  cases hv
  rcases AX i (n+1) with q2 |q2
  .have h1:=h i n u x (by lia) (by lia) hu hx;exact O.tr u x y (hS _ _ hu) (hS _ _ hx) (hS _ _ hy) h1 hl
  .have ei:i=n+1:=by lia
   subst ei;rw[hy]at hu
   cases hu
   exact O.rf (hS _ _ hy)
noncomputable def Blk(L:Keyed->Keyed->Bool)(a:Array Keyed)(lo n q:Nat):Prop:=∀(i j:Nat) x y,n-(q+1)<=i->i<n->n-(q+1)<=j->j<n->a[lo+i]?=some x->a[lo+j]?=some y->L x y=false
theorem SB.refl{st:Ca}{lo hi:Nat}(hk:kindOf st=kd)(hS:∀(k:Nat) x,(AQ st)[k]?=some x->S x):SB kd S st st lo hi:=⟨hk,rfl,rfl,Array.Perm.refl _,λ_ _=>rfl,hS⟩
theorem SB.mir{st0 st:Ca}{lo hi i j:Nat}(h:SB kd S st0 st lo hi)(h1:lo<=i)(h2:j<=hi)(hz:j<=(AQ st).size):SB kd S st0 (setArr st (mirror (AQ st) i j ((j-i) / 2))) lo hi:=by
 refine⟨h.kind,h.pend,h.fail,(mirror_perm _ _ _ _).trans h.perm,λk hk=>?_,λk x hx=>?_⟩
 .show (mirror (AQ st) i j ((j-i) / 2))[k]?=_;rw[BM hz,if_neg (by lia)];exact h.out k hk
 .have hx':(mirror (AQ st) i j ((j-i) / 2))[k]?=some x:=hx;rw[BM hz]at hx';split at hx'
  .exact h.all _ x hx'
  .exact h.all _ x hx'
theorem Rev.blk{a:Array Keyed}{lo n q:Nat}(h:Rev L a lo n)(hb:Blk L a lo n q)(hq:q<n)(hz:lo+n<=a.size):Rev L (mirror a (lo+n-(q+1)) (lo+n) ((lo+n-(lo+n-(q+1))) / 2)) lo n:=by
 intro i j x y hij hj hx hy;rw[BM hz]at hx hy
 by_cases hi:lo+n-(q+1)<=lo+i/\lo+i<lo+n
 .rw[if_pos hi]at hx;rw[if_pos (by lia)]at hy;rw[show lo+n-(q+1)+(lo+n)-1-(lo+i)=lo+(n-(q+1)+n-1-i) by lia]at hx;rw[show lo+n-(q+1)+(lo+n)-1-(lo+j)=lo+(n-(q+1)+n-1-j) by lia]at hy;exact hb _ _ x y (by lia) (by lia) (by lia) (by lia) hx hy
 .rw[if_neg hi]at hx
  by_cases hj':lo+n-(q+1)<=lo+j/\lo+j<lo+n
  .rw[if_pos hj']at hy;rw[show lo+n-(q+1)+(lo+n)-1-(lo+j)=lo+(n-(q+1)+n-1-j) by lia]at hy;exact h i _ x y (by lia) (by lia) hx hy
  .rw[if_neg hj']at hy;exact h i j x y hij hj hx hy
theorem Rev.flip{a:Array Keyed}{lo n:Nat}(h:Rev L a lo n)(hz:lo+n<=a.size):Seg L (mirror a lo (lo+n) ((lo+n-lo) / 2)) lo n:=by intro i j x y hij hj hx hy;rw[BM hz,if_pos (by lia)]at hx hy;rw[show lo+(lo+n)-1-(lo+i)=lo+(n-1-i) by lia]at hx;rw[show lo+(lo+n)-1-(lo+j)=lo+(n-1-j) by lia]at hy;exact h _ _ y x (by lia) (by lia) hy hx
theorem Rev.more(O:LtOk M A E s kd S L){a:Array Keyed}{lo n:Nat}{x y:Keyed}(hS:∀(k:Nat) x,a[k]?=some x->S x)(h:Rev L a lo (n+1))(hx:a[lo+n]?=some x)(hy:a[lo+(n+1)]?=some y)(hl:L x y=false):Rev L a lo (n+2):=by
 intro i j u v hij hj hu hv;rcases AX j (n+1) with q |q
 .exact h i j u v hij q hu hv
 .have ej:j=n+1:=by lia
  subst ej;rw[hy]at hv
  cases hv
  rcases AX i (n+1) with q2 |q2
  .have h1:=h i n u x (by lia) (by lia) hu hx;exact O.tr y x u (hS _ _ hy) (hS _ _ hx) (hS _ _ hu) hl h1
  .have ei:i=n+1:=by lia
   subst ei;rw[hy]at hu
   cases hu
   exact O.rf (hS _ _ hy)
theorem Blk.more(O:LtOk M A E s kd S L){a:Array Keyed}{lo n q:Nat}{x y:Keyed}(hS:∀(k:Nat) x,a[k]?=some x->S x)(h:Blk L a lo (n+1) q)(hq:q<n+1)(hx:a[lo+n]?=some x)(hy:a[lo+(n+1)]?=some y)(h1:L x y=false)(h2:L y x=false):Blk L a lo (n+2) (q+1):=by
 have old:∀(i:Nat) u,n+1-(q+1)<=i->i<n+1->a[lo+i]?=some u->L u y=false/\L y u=false:=λi u a1 a2 hu=>by have e1:=h i n u x a1 a2 (by lia) (by lia) hu hx;have e2:=h n i x u (by lia) (by lia) a1 a2 hx hu;exact⟨O.tr y x u (hS _ _ hy) (hS _ _ hx) (hS _ _ hu) h1 e1,O.tr u x y (hS _ _ hu) (hS _ _ hx) (hS _ _ hy) e2 h2⟩
 intro i j u v a1 a2 b1 b2 hu hv;rcases AX i (n+1) with ci |ci
 .rcases AX j (n+1) with cj |cj
  .exact h i j u v (by lia) ci (by lia) cj hu hv
  .have ej:j=n+1:=by lia
   subst ej;rw[hy]at hv;cases hv;exact (old i u (by lia) ci hu).1
 .have ei:i=n+1:=by lia
  subst ei;rw[hy]at hu;cases hu;rcases AX j (n+1) with cj |cj
  .exact (old j v (by lia) cj hv).2
  .have ej:j=n+1:=by lia
   subst ej;rw[hy]at hv;cases hv;exact O.rf (hS _ _ hy)
theorem Blk.one(O:LtOk M A E s kd S L){a:Array Keyed}{lo n:Nat}(hS:∀(k:Nat) x,a[k]?=some x->S x):Blk L a lo (n+1) 0:=λi j x y a1 a2 b1 b2 hx hy=>by
 have ei:i=n:=by lia
 have ej:j=n:=by lia
 subst ei;subst ej;rw[hx]at hy;cases hy;exact O.rf (hS _ _ hx)
theorem zfC{B:Prop}{D:Ca->Prop}(C:Ca->Prop)(g:(∀st,D st->C st)->B)(h:∀st,D st->C st):B:=g h
theorem zfo (O : LtOk M A E s kd S L){st : Ca}{lo nrem : Nat}{Q : Option Nat → Ca → Prop}(h1 : 1 ≤ nrem) (hz : lo + nrem ≤ (AQ st).size) (hk : kindOf st = kd) (hS : ∀ (k : Nat) x, (AQ st)[k]? = some x → S x)
    (hQ:∀ m st',SB kd S st st' lo (lo+nrem)→1≤m→m≤nrem→Seg L (AQ st') lo m→Q (some m) st'):wpS M A E s (countRun' lo nrem) Q st:=by
  rw[countRun'_eq]
  refine Bo (wpS_mono (DF (I:=λx c st'=>c=(none,x)∧st'=st∧x≤nrem∧Seg L (AQ st) lo x)
    (Q:=λc st'=>∃ m,c=(none,m)∧st'=st∧1≤m∧m≤nrem∧Seg L (AQ st) lo m∧(m<nrem→∃ x y,(AQ st)[lo+m]?=some x∧(AQ st)[lo+m - 1]?=some y∧L x y=true)) ?step ?fin ?init) ?post)
  case init =>
    refine⟨rfl,rfl,h1,λi j x y hij hj hx hy=>?_⟩
    have ei:i=0:=by lia
    have ej:j=0:=by lia
    subst ei;subst ej
    rw[hx] at hy
    cases hy
    exact O.rf (hS _ _ hx)
  case fin =>
    rintro c st' ⟨rfl,rfl,hle,hsg⟩
    exact⟨_,rfl,rfl,by lia,hle,hsg,λh=>absurd h (by lia)⟩
  case step =>
    rintro n c st' hn1 hn2 ⟨rfl,rfl,hle,hsg⟩
    obtain⟨x,hx⟩:=zco (st:=st') (i:=lo+n) (by lia)
    obtain⟨y,hy⟩:=zco (st:=st') (i:=lo+n - 1) (by lia)
    refine Bo (zes O hk hx hy (hS _ _ hx) (hS _ _ hy) ?_)
    dsimp only
    by_cases hl:L x y=true
    . rw[if_pos hl]
      exact BR ⟨n,rfl,rfl,hn1,hle,hsg,λ_=>⟨x,y,hx,hy,hl⟩⟩
    . rw[if_neg hl]
      refine BR ⟨rfl,rfl,hn2,?_⟩
      obtain⟨p,rfl⟩:∃ p,n=p+1:=⟨n - 1,by lia⟩
      exact hsg.more O hS (by rw[show lo+(p+1) - 1=lo+p by lia] at hy;exact hy) hx (by simpa using hl)
  case post =>
    rintro c st' ⟨m,rfl,rfl,hm1,hm2,hsg,hnx⟩
    dsimp only
    by_cases hmn:(m == nrem)=true
    . rw[if_pos hmn]
      exact BR (hQ m st' (SB.refl hk hS) hm1 hm2 hsg)
    . rw[if_neg hmn]
      have hlt : m < nrem := by have : m ≠ nrem := by simpa using hmn
                                lia
      obtain⟨x0,y0,hx0,hy0,hl0⟩:=hnx hlt
      refine zfC (D:=λst1=>SB kd S st' st1 lo (lo+nrem)∧Rev L (AQ st1) lo m∧(∃ x y,(AQ st1)[lo+m]?=some x∧(AQ st1)[lo+m - 1]?=some y∧L y x=false)) ?C (λshare=>?g) ?h
      case g =>
        by_cases hm:m > 1
        . rw[if_pos hm]
          obtain⟨a,ha⟩:=zco (st:=st') (i:=lo) (by lia)
          obtain⟨b,hb⟩:=zco (st:=st') (i:=lo+m - 1) (by lia)
          refine Bo (zes O hk ha hb (hS _ _ ha) (hS _ _ hb) ?_)
          dsimp only
          by_cases hr:L a b=true
          . rw[if_pos hr]
            exact BR (hQ m st' (SB.refl hk hS) hm1 hm2 hsg)
          . rw[if_neg hr]
            have hr':L a b=false:=by simpa using hr
            rw[reverseSlice'_eq]
            refine Bo (wpS_modify ?_)
            have hz2:lo+m≤(AQ st').size:=by lia
            have hb':(AQ st')[lo+(m - 1)]?=some b:=by rw[show lo+(m - 1)=lo+m - 1 by lia];exact hb
            have eqv:Rev L (AQ st') lo m:=λi j x y hij hj hx hy=>by
              have e1:=hsg 0 j a y (by lia) hj (by simpa using ha) hy
              have e2:=hsg i (m - 1) x b (by lia) (by lia) hx hb'
              have e3:=O.tr x b a (hS _ _ hx) (hS _ _ hb) (hS _ _ ha) e2 hr'
              have e4:=hsg j (m - 1) y b (by lia) (by lia) hy hb'
              have e5:=hsg 0 i a x (by lia) (by lia) (by simpa using ha) hx
              exact O.tr y b x (hS _ _ hy) (hS _ _ hb) (hS _ _ hx) e4 (O.tr b a x (hS _ _ hb) (hS _ _ ha) (hS _ _ hx) hr' e5)
            have rv2:Rev L (mirror (AQ st') lo (lo+m) ((lo+m - lo) / 2)) lo m:=λi j x y hij hj hx hy=>by
              rw[BM hz2,if_pos (by lia)] at hx hy
              rw[show lo+(lo+m) - 1 - (lo+i)=lo+(m - 1 - i) by lia] at hx
              rw[show lo+(lo+m) - 1 - (lo+j)=lo+(m - 1 - j) by lia] at hy
              exact hsg _ _ y x (by lia) (by lia) hy hx
            refine share _ ⟨(SB.refl hk hS).mir (Aj _) (by lia) hz2,rv2,x0,a,?_,?_,?_⟩
            . show (mirror (AQ st') lo (lo+m) ((lo+m - lo) / 2))[lo+m]?=_
              rw[BM hz2,if_neg (by lia)];exact hx0
            . show (mirror (AQ st') lo (lo+m) ((lo+m - lo) / 2))[lo+m - 1]?=_
              rw[BM hz2,if_pos (by lia),show lo+(lo+m) - 1 - (lo+m - 1)=lo by lia];exact ha
            . have eb:b=y0:=by rw[hb] at hy0;exact A4 hy0
              subst eb
              exact O.tr x0 b a (hS _ _ hx0) (hS _ _ hb) (hS _ _ ha) (O.as x0 b (hS _ _ hx0) (hS _ _ hb) hl0) hr'
        . rw[if_neg hm]
          have em:m=1:=by lia
          subst em
          refine share _ ⟨SB.refl hk hS,λi j x y hij hj hx hy=>?_,x0,y0,hx0,hy0,O.as x0 y0 (hS _ _ hx0) (hS _ _ hy0) hl0⟩
          have ei:i=0:=by lia
          have ej:j=0:=by lia
          subst ei;subst ej
          rw[hx] at hy;cases hy
          exact O.rf (hS _ _ hx)
      case h =>
        rintro st1 ⟨sb1,rv1,x1,y1,hx1,hy1,hl1⟩
        have hz1:lo+nrem≤(AQ st1).size:=by rw[sb1.size];exact hz
        refine Bo (wpS_lift (wpAny_rule ⟨rfl,?_⟩))
        obtain⟨p,rfl⟩:∃ p,m=p+1:=⟨m - 1,by lia⟩
        rw[show lo+(p+1) - 1=lo+p by lia] at hy1
        have rv2:Rev L (AQ st1) lo (p+1+1):=rv1.more O sb1.all hy1 hx1 hl1
        refine Bo (wpS_mono (DF (I:=λx c st2=>∃ q,c=(none,x,q)∧SB kd S st' st2 lo (lo+nrem)∧1≤x∧x≤nrem∧q<x∧Rev L (AQ st2) lo x∧Blk L (AQ st2) lo x q)
          (Q:=λc st2=>∃ x q,c=(none,x,q)∧SB kd S st' st2 lo (lo+nrem)∧1≤x∧x≤nrem∧q<x∧Rev L (AQ st2) lo x∧Blk L (AQ st2) lo x q) ?step ?fin ⟨0,rfl,sb1,by lia,by lia,by lia,rv2,Blk.one O sb1.all⟩) ?post)
        case fin =>
          rintro c st2 ⟨q,rfl,hh⟩
          exact⟨_,q,rfl,hh⟩
        case step =>
          rintro x c st2 hx1' hx2 ⟨q,rfl,sb2,hn1,hn2,hq,rv,bk⟩
          have hz2:lo+nrem≤(AQ st2).size:=by rw[sb2.size];exact hz
          obtain⟨u,hu⟩:=zco (st:=st2) (i:=lo+x) (by lia)
          obtain⟨v,hv⟩:=zco (st:=st2) (i:=lo+x - 1) (by lia)
          obtain⟨r,rfl⟩:∃ r,x=r+1:=⟨x - 1,by lia⟩
          rw[show lo+(r+1) - 1=lo+r by lia] at hv
          refine Bo (zes O sb2.kind hu (by rw[show lo+(r+1) - 1=lo+r by lia];exact hv) (sb2.all _ _ hu) (sb2.all _ _ hv) ?_)
          dsimp only
          by_cases hl:L u v=true
          . rw[if_pos hl]
            have hvu:=O.as u v (sb2.all _ _ hu) (sb2.all _ _ hv) hl
            by_cases hq0:q > 0
            . rw[if_pos hq0,reverseSlice'_eq]
              refine Bo (wpS_modify ?_)
              have hzr:lo+(r+1)≤(AQ st2).size:=by lia
              have sb3:=sb2.mir (i:=lo+(r+1) - (q+1)) (j:=lo+(r+1)) (by lia) (by lia) hzr
              have rv3:=rv.blk bk hq hzr
              refine BR ⟨0,rfl,sb3,by lia,by lia,by lia,?_,Blk.one O sb3.all⟩
              have hz3:r<r+1:=by lia
              obtain⟨v2,hv2⟩:=zco (st:=setArr st2 (mirror (AQ st2) (lo+(r+1) - (q+1)) (lo+(r+1)) ((lo+(r+1) - (lo+(r+1) - (q+1))) / 2))) (i:=lo+r) (by show lo+r<(mirror (AQ st2) _ _ _).size;rw[mirror_size];lia)
              have hv2':(AQ st2)[lo+(r+1 - (q+1)+r - r)]?=some v2:=by
                have h0:(mirror (AQ st2) (lo+(r+1) - (q+1)) (lo+(r+1)) ((lo+(r+1) - (lo+(r+1) - (q+1))) / 2))[lo+r]?=some v2:=hv2
                rw[BM hzr,if_pos (by lia),show lo+(r+1) - (q+1)+(lo+(r+1)) - 1 - (lo+r)=lo+(r+1 - (q+1)+r - r) by lia] at h0
                exact h0
              refine rv3.more O sb3.all hv2 (y:=u) ?_ ?_
              . show (mirror (AQ st2) (lo+(r+1) - (q+1)) (lo+(r+1)) ((lo+(r+1) - (lo+(r+1) - (q+1))) / 2))[lo+(r+1)]?=some u
                rw[BM hzr,if_neg (by lia)];exact hu
              . exact O.tr u v v2 (sb2.all _ _ hu) (sb2.all _ _ hv) (sb2.all _ _ hv2') hvu (rv _ r v2 v (by lia) (by lia) hv2' hv)
            . rw[if_neg hq0]
              exact BR ⟨0,rfl,sb2,by lia,by lia,by lia,rv.more O sb2.all hv hu hvu,Blk.one O sb2.all⟩
          . rw[if_neg hl]
            have hl':L u v=false:=by simpa using hl
            refine Bo (zes O sb2.kind (by rw[show lo+(r+1) - 1=lo+r by lia];exact hv) hu (sb2.all _ _ hv) (sb2.all _ _ hu) ?_)
            dsimp only
            by_cases hg:L v u=true
            . rw[if_pos hg]
              exact BR ⟨r+1,q,rfl,sb2,hn1,hn2,hq,rv,bk⟩
            . rw[if_neg hg]
              have hg':L v u=false:=by simpa using hg
              exact BR ⟨q+1,rfl,sb2,by lia,by lia,by lia,rv.more O sb2.all hv hu hg',bk.more O sb2.all hq hv hu hg' hl'⟩
        case post =>
          rintro c st2 ⟨x,q,rfl,sb2,hx1',hx2,hq,rv,bk⟩
          dsimp only
          have hz2:lo+nrem≤(AQ st2).size:=by rw[sb2.size];exact hz
          refine zfC (D:=λst3=>SB kd S st' st3 lo (lo+nrem)∧Rev L (AQ st3) lo x) ?C2 (λshare=>?g2) ?h2
          case g2 =>
            by_cases hq0:q > 0
            . rw[if_pos hq0,reverseSlice'_eq]
              refine Bo (wpS_modify ?_)
              exact share _ ⟨sb2.mir (by lia) (by lia) (by lia),rv.blk bk hq (by lia)⟩
            . rw[if_neg hq0]
              exact share _ ⟨sb2,rv⟩
          case h2 =>
            rintro st3 ⟨sb3,rv3⟩
            have hz3:lo+nrem≤(AQ st3).size:=by rw[sb3.size];exact hz
            rw[reverseSlice'_eq]
            refine Bo (wpS_modify ?_)
            have sb4:=sb3.mir (i:=lo) (j:=lo+x) (Aj _) (by lia) (by lia)
            have sg4:=rv3.flip (show lo+x≤(AQ st3).size by lia)
            have sg5:Seg L (AQ (setArr st3 (mirror (AQ st3) lo (lo+x) ((lo+x - lo) / 2)))) lo x:=sg4
            generalize setArr st3 (mirror (AQ st3) lo (lo+x) ((lo+x - lo) / 2))=st4 at sb4 sg5
            have hz4:lo+nrem≤(AQ st4).size:=by rw[sb4.size];exact hz
            refine Bo (wpS_mono (DF (I:=λn c st5=>c=(none,n)∧st5=st4∧n≤nrem∧Seg L (AQ st4) lo n) (Q:=λc st5=>∃ m,c=(none,m)∧st5=st4∧1≤m∧m≤nrem∧Seg L (AQ st4) lo m) ?step ?fin ⟨rfl,rfl,hx2,sg5⟩) ?post)
            case fin =>
              rintro c st5 ⟨rfl,rfl,hle,hsg⟩
              exact⟨_,rfl,rfl,by lia,hle,hsg⟩
            case step =>
              rintro n c st5 hn1 hn2 ⟨rfl,rfl,hle,hsg⟩
              obtain⟨u,hu⟩:=zco (st:=st5) (i:=lo+n) (by lia)
              obtain⟨v,hv⟩:=zco (st:=st5) (i:=lo+n - 1) (by lia)
              refine Bo (zes O sb4.kind hu hv (sb4.all _ _ hu) (sb4.all _ _ hv) ?_)
              dsimp only
              by_cases hl:L u v=true
              . rw[if_pos hl]
                exact BR ⟨n,rfl,rfl,by lia,hle,hsg⟩
              . rw[if_neg hl]
                refine BR ⟨rfl,rfl,hn2,?_⟩
                obtain⟨p,rfl⟩:∃ p,n=p+1:=⟨n - 1,by lia⟩
                exact hsg.more O sb4.all (by rw[show lo+(p+1) - 1=lo+p by lia] at hv;exact hv) hu (by simpa using hl)
            case post =>
              rintro c st5 ⟨n,rfl,rfl,h1n,hn2,hsg⟩
              exact BR (hQ n st5 sb4 h1n hn2 hsg)
end
end TS
namespace TS
open PySem PyProof.Rows
section
variable {M:D4}{A:AF}{E:Value->Ac->Prop}{s:Ac}{kd:Cu}{S:Keyed->Prop}{L:Keyed->Keyed->Bool}
theorem SB.bub{st0 st:Ca}{lo hi i d:Nat}(h:SB kd S st0 st lo hi)(h1:lo<=i-d)(hd:d<=i)(h2:i<hi)(hz:i<(AQ st).size):SB kd S st0 (setArr st (bubble (AQ st) i d)) lo hi:=by
 refine⟨h.kind,h.pend,h.fail,(bubble_perm _ _ _).trans h.perm,λk hk=>?_,λk x hx=>?_⟩
 .show (bubble (AQ st) i d)[k]?=_;rw[getElem?_bubble hz _ hd,if_neg (by lia),if_neg (by lia)];exact h.out k hk
 .have hx':(bubble (AQ st) i d)[k]?=some x:=hx;rw[getElem?_bubble hz _ hd]at hx';split at hx'
  .exact h.all _ x hx'
  .split at hx'
   .exact h.all _ x hx'
   .exact h.all _ x hx'
theorem Seg.ins(O:LtOk M A E s kd S L){a:Array Keyed}{lo k l:Nat}{p:Keyed}(hS:∀(k:Nat) x, a[k]? = some x -> S x)(h:Seg L a lo k)(hlk:l <= k)(hz:lo + k < a.size)(hp:a[lo + k]? = some p)
  (h1:∀(i:Nat) x,i<l->a[lo+i]?=some x->L p x=false) (h2:∀(i:Nat) x,l<=i->i<k->a[lo+i]?=some x->L p x=true):Seg L (bubble a (lo+k) (lo+k-(lo+l))) lo (k+1):=by
 have at':∀(i:Nat) x,i<k+1->(bubble a (lo+k) (lo+k-(lo+l)))[lo+i]?=some x->(i<l/\a[lo+i]?=some x)∨(i=l/\x=p)∨(l<i/\a[lo+(i-1)]?=some x):=λi x hi hx=>by
  rw[getElem?_bubble hz _ (by lia)]at hx
  by_cases e:lo+i=lo+k-(lo+k-(lo+l))
  .rw[if_pos e,hp]at hx;exact .inr (.inl ⟨by lia,(A4 hx).symm⟩)
  .rw[if_neg e]at hx
   by_cases e2:lo+k-(lo+k-(lo+l))<lo+i/\lo+i<=lo+k
   .rw[if_pos e2,show lo+i-1=lo+(i-1) by lia]at hx;exact .inr (.inr ⟨by lia,hx⟩)
   .rw[if_neg e2]at hx;exact .inl ⟨by lia,hx⟩
 intro i j x y hij hj hx hy;have sp:=hS _ _ hp;rcases at' i x (by lia) hx with⟨a1,a2⟩ |⟨a1,a2⟩ |⟨a1,a2⟩
 .rcases at' j y hj hy with⟨b1,b2⟩ |⟨b1,b2⟩ |⟨b1,b2⟩
  .exact h i j x y hij (by lia) a2 b2
  .rw[b2];exact h1 i x a1 a2
  .exact h i (j-1) x y (by lia) (by lia) a2 b2
 .subst a2;rcases at' j y hj hy with⟨b1,b2⟩ |⟨b1,b2⟩ |⟨b1,b2⟩
  .lia
  .rw[b2];exact O.rf sp
  .exact O.as x y sp (hS _ _ b2) (h2 (j-1) y (by lia) (by lia) b2)
 .rcases at' j y hj hy with⟨b1,b2⟩ |⟨b1,b2⟩ |⟨b1,b2⟩
  .lia
  .lia
  .exact h (i-1) (j-1) x y (by lia) (by lia) a2 b2
theorem zee(O:LtOk M A E s kd S L){st:Ca}{lo n ok:Nat}{Q:Bool -> Ca -> Prop}(hok : 1 <= ok)(hn:ok <= n)(hz:lo + n <= (AQ st).size)(hk:kindOf st=kd)(hS:∀(k:Nat) x, (AQ st)[k]? = some x -> S x)(hs:Seg L (AQ st) lo ok)
  (hQ:∀st',SB kd S st st' lo (lo+n)->Seg L (AQ st') lo n->Q true st'):wpS M A E s (binarySort' lo n ok) Q st:=by
 rw[binarySort'_eq];have em:max ok 1=ok:=by lia
 rw[em]
 refine Bo (wpS_mono (DF (I:=λk c st'=>c=(none,())/\SB kd S st st' lo (lo+n)/\k<=n/\Seg L (AQ st') lo k)
  (Q:=λc st'=>c=(none,())/\SB kd S st st' lo (lo+n)/\Seg L (AQ st') lo n) ?step ?fin ⟨rfl,SB.refl hk hS,hn,hs⟩) ?post)
 case post =>
  rintro c st' ⟨rfl,sb,sg⟩;exact BR (hQ st' sb sg)
 case fin =>
  rintro c st' ⟨rfl,sb,hle,sg⟩;rw[show max ok n=n by lia]at sg;exact⟨rfl,sb,sg⟩
 case step =>
  rintro k c st' hk1 hk2 ⟨rfl,sb,hle,sg⟩;have hz':lo+n<=(AQ st').size:=by rw[sb.size];exact hz
  obtain⟨p,hp⟩:=zco (st:=st') (i:=lo+k) (by lia);dsimp only
  refine Bo (wpS_mono (DF (I:=λx c st2=>∃l r,c=(none,l,r)/\st2=st'/\l<=r/\r<=k/\r-l<=k-x/\(∀(i:Nat) z,i<l->(AQ st')[lo+i]?=some z->L p z=false)/\(∀(i:Nat) z,r<=i->i<k->(AQ st')[lo+i]?=some z->L p z=true))
   (Q:=λc st2=>∃l,c=(none,l,l)/\st2=st'/\l<=k/\(∀(i:Nat) z,i<l->(AQ st')[lo+i]?=some z->L p z=false)/\(∀(i:Nat) z,l<=i->i<k->(AQ st')[lo+i]?=some z->L p z=true)) ?step2 ?fin2 ⟨0,k,rfl,rfl,Be _,Aj _,Aj _,(λi z h=>absurd h (Nat.not_lt_zero _)),(λi z h1 h2=>absurd h2 (by lia))⟩) ?post2)
  case fin2 =>
   rintro c st2 ⟨l,r,rfl,rfl,h1,h2,h3,h4,h5⟩;have:l=r:=by lia
   subst this;exact⟨l,rfl,rfl,h2,h4,h5⟩
  case step2 =>
   rintro x c st2 _ hx ⟨l,r,rfl,rfl,h1,h2,h3,h4,h5⟩;dsimp only
   by_cases hlr:l ≥ r
   .rw[if_pos hlr];have:l=r:=by lia
    subst this;exact BR ⟨l,rfl,rfl,h2,h4,h5⟩
   .rw[if_neg hlr];obtain⟨u,hu⟩:=zco (st:=st2) (i:=lo+(l+r) / 2) (by lia);refine Bo (zes O sb.kind hp hu (sb.all _ _ hp) (sb.all _ _ hu) ?_);dsimp only
    by_cases hl:L p u=true
    .rw[if_pos hl];refine BR ⟨l,(l+r) / 2,rfl,rfl,by lia,by lia,by lia,h4,λi z a1 a2 hz2=>?_⟩
     cases q:L p z with
     |true=>rfl
     |false =>
      have e1:=sg ((l+r) / 2) i u z a1 a2 hu hz2;have e2:=O.tr u z p (sb.all _ _ hu) (sb.all _ _ hz2) (sb.all _ _ hp) e1 q;rw[hl]at e2;cases e2
    .rw[if_neg hl];have hl':L p u=false:=by simpa using hl
     refine BR ⟨(l+r) / 2+1,r,rfl,rfl,by lia,by lia,by lia,λi z a1 hz2=>?_,h5⟩;have e1:=sg i ((l+r) / 2) z u (by lia) (by lia) hz2 hu;exact O.tr z u p (sb.all _ _ hz2) (sb.all _ _ hu) (sb.all _ _ hp) e1 hl'
  case post2 =>
   rintro c st2 ⟨l,rfl,rfl,h2,h4,h5⟩;dsimp only;rw[moveDown'_eq];refine Bo (wpS_modify (BR ⟨rfl,sb.bub (by lia) (by lia) (by lia) (by lia),by lia,?_⟩));exact sg.ins O sb.all h2 (by lia) hp h4 h5
end
end TS
set_option maxHeartbeats 8000000
namespace TS
open PySem PyProof.Rows
noncomputable def wr(a:Array Keyed)(o:Nat)(l:List Keyed)(k:Nat):Array Keyed:=(l.zipIdx k).foldl (λa (p:Keyed×Nat)=>a.setIfInBounds (o+p.2) p.1) a
section
variable {M:D4}{A:AF}{E:Value->Ac->Prop}{s:Ac}{kd:Cu}{S:Keyed->Prop}{L:Keyed->Keyed->Bool}
structure SM (kd:Cu) (S:Keyed->Prop) (L:Keyed->Keyed->Bool) (st0 st:Ca) (pd:Array (Nat×Nat×Nat)) (lo n:Nat):Prop where
 kind:kindOf st=kd
 pend:Dr st=pd
 fail:Dk st=none
 perm:(AQ st).Perm (AQ st0)
 out:∀k:Nat,k<lo∨lo+n<=k->(AQ st)[k]?=(AQ st0)[k]?
 all:∀(k:Nat) x,(AQ st)[k]?=some x->S x
 seg:Seg L (AQ st) lo n
end
end TS
set_option maxHeartbeats 8000000
namespace TS
open PySem PyProof.Rows
noncomputable abbrev Run:=Nat×Nat×Nat
section
variable {M:D4}{A:AF}{E:Value->Ac->Prop}{s:Ac}{kd:Cu}{S:Keyed->Prop}{L:Keyed->Keyed->Bool}
noncomputable def Runs(L:Keyed->Keyed->Bool)(a:Array Keyed):List Run->Nat->Nat->Prop
 |[],x,y=>x=y
 |r::l,x,y=>r.1=x/\1<=r.2.1/\Seg L a r.1 r.2.1/\Runs L a l (x+r.2.1) y
structure PD (kd:Cu) (S:Keyed->Prop) (L:Keyed->Keyed->Bool) (a0:Array Keyed) (st:Ca) (lo:Nat):Prop where
 kind:kindOf st=kd
 fail:Dk st=none
 perm:(AQ st).Perm a0
 all:∀(k:Nat) x,(AQ st)[k]?=some x->S x
 runs:Runs L (AQ st) (Dr st).toList 0 lo
end
end TS
namespace L2
open PySem PySem.Spec PyProof.Rows
section
variable {X:Cx}{pins:List (Addr×Obj)}{σ:St}{H:Hp}{s:Ac}{D st:Addr}{e:Nat}{κV:Nat->List V}{ks:List Addr}{E:Value->Ac->Prop}
end
section
variable {X:Cx}{x:Str}{p pos kp kpos:Pos}{e:Expr}{te:TE}{k:Nat}{f:Addr}{fd:Bq}{ps:List Str}{sp:Sp}{fn:Str}
end
section
variable {prog:AB}{w:AV}{A:AF}{R:Result->Ac->Prop}{s:Ac}
end
section
variable {X:Cx}{osc:Scope}{N:List Str}{sc:Scope}{N':List Str}{sel:List (Option Nat)}{pos:Pos}{elt kx vx tg iter tg2 iter2:Expr}{ifs ifs2:List Expr}{wi wi2:TI}{g g2:TG}{tt tt2:TT}{te tk tv:TE}
end
end L2
namespace RP
noncomputable def mv(i:Nat):Int×Int:=([(1,0),(1,1),(0,1),(-1,1),(-1,0),(-1,-1),(0,-1),(1,-1)]:List (Int×Int)).getD i (0,0)
noncomputable abbrev Cell:=Int×Int
noncomputable def go(c:Cell)(i:Nat):Cell:=(c.1+(mv i).1,c.2+(mv i).2)
structure Edge where
 c:Cell
 w:Nat
 deriving DecidableEq
noncomputable def gap(e:Edge):Cell:=go e.c ((2*e.w+6) % 8)
noncomputable def stepB(C:Cell->Bool)(e:Edge):Option Nat :=
 if C (go e.c ((2*e.w+7) % 8))=true then some ((2*e.w+7) % 8) else if C (go e.c (2*e.w))=true then some (2*e.w) else none
noncomputable def slant:Option Nat->Bool
 |none=>false
 |some s=>s % 2 == 1
noncomputable def edgeB(e:Edge):Option Nat->Edge
 |none=>⟨e.c,(e.w+1) % 4⟩
 |some s=>if s % 2=1 then ⟨go e.c s,(e.w+3) % 4⟩ else ⟨go e.c s,e.w⟩
noncomputable def nxt(C:Cell->Bool)(e:Edge):Edge:=edgeB e (stepB C e)
noncomputable def IsE(C:Cell->Bool)(e:Edge):Prop:=e.w<4/\C e.c=true/\C (gap e)=false
noncomputable def prv(C:Cell->Bool)(f:Edge):Edge :=
 if C (go f.c ((2*f.w+5) % 8))=true then ⟨go f.c ((2*f.w+5) % 8),(f.w+1) % 4⟩
 else if C (go f.c ((2*f.w+4) % 8))=true then ⟨go f.c ((2*f.w+4) % 8),f.w⟩ else ⟨f.c,(f.w+3) % 4⟩
theorem way4{w:Nat}(h:w<4):w=0∨w=1∨w=2∨w=3:=by lia
noncomputable def mvAdd(a b d:Nat):Bool:=(mv a).1+(mv b).1 == (mv d).1 && (mv a).2+(mv b).2 == (mv d).2
noncomputable def mvNil(a b:Nat):Bool:=(mv a).1+(mv b).1 == 0 && (mv a).2+(mv b).2 == 0
theorem go_go{c:Cell}{a b d:Nat}(h:mvAdd a b d=true):go (go c a) b=go c d:=by unfold mvAdd at h;simp only[Bw,beq_iff_eq]at h;unfold go;exact Ch (by show c.1+(mv a).1+(mv b).1=c.1+(mv d).1;lia) (by show c.2+(mv a).2+(mv b).2=c.2+(mv d).2;lia)
theorem zgT{c:Cell}{a b:Nat}(h:mvNil a b=true):go (go c a) b=c:=by unfold mvNil at h;simp only[Bw,beq_iff_eq]at h;unfold go;exact Ch (by show c.1+(mv a).1+(mv b).1=c.1;lia) (by show c.2+(mv a).2+(mv b).2=c.2;lia)
theorem f1:∀w<4,mvAdd ((2*w+7) % 8) ((2*((w+3) % 4)+6) % 8) ((2*w+6) % 8)=true:=by decide
theorem f2:∀w<4,mvAdd (2*w) ((2*w+6) % 8) ((2*w+7) % 8)=true:=by decide
theorem f3:∀w<4,(2*((w+1) % 4)+6) % 8=2*w:=by decide
theorem f4:∀w<4,mvNil ((2*w+7) % 8) ((2*((w+3) % 4)+5) % 8)=true:=by decide
theorem f5:∀w<4,mvAdd (2*w) ((2*w+5) % 8) ((2*w+6) % 8)=true:=by decide
theorem f6:∀w<4,mvNil (2*w) ((2*w+4) % 8)=true:=by decide
theorem f7:∀w<4,(2*((w+1) % 4)+5) % 8=(2*w+7) % 8:=by decide
theorem f8:∀w<4,(2*((w+1) % 4)+4) % 8=(2*w+6) % 8:=by decide
theorem odd7(w:Nat):(2*w+7) % 8 % 2=1:=by lia
theorem zaJ{C:Cell -> Bool}{e:Edge}(h:IsE C e) :
  (C (go e.c ((2*e.w+7) % 8))=true/\stepB C e=some ((2*e.w+7) % 8)/\nxt C e=⟨go e.c ((2*e.w+7) % 8),(e.w+3) % 4⟩) ∨
  (C (go e.c ((2*e.w+7) % 8))=false/\C (go e.c (2*e.w))=true/\stepB C e=some (2*e.w)/\nxt C e=⟨go e.c (2*e.w),e.w⟩) ∨
  (C (go e.c ((2*e.w+7) % 8))=false/\C (go e.c (2*e.w))=false/\stepB C e=none/\nxt C e=⟨e.c,(e.w+1) % 4⟩):=by
 unfold nxt stepB
 by_cases h1:C (go e.c ((2*e.w+7) % 8))=true
 .left;rw[if_pos h1];exact⟨h1,rfl,by simp only[edgeB];rw[if_pos (odd7 _)]⟩
 .right;have h1':C (go e.c ((2*e.w+7) % 8))=false:=by simpa using h1
  rw[if_neg h1]
  by_cases h2:C (go e.c (2*e.w))=true
  .left;rw[if_pos h2];exact⟨h1',h2,rfl,by simp only[edgeB];rw[if_neg (by lia)]⟩
  .right;rw[if_neg h2];exact⟨h1',by simpa using h2,rfl,rfl⟩
theorem zdW{C:Cell->Bool}{e:Edge}(h:IsE C e):IsE C (nxt C e):=by
 obtain⟨hw,hc,hg⟩:=id h;rcases zaJ h with⟨h1,_,q⟩ |⟨h1,h2,_,q⟩ |⟨h1,h2,_,q⟩ <;> rw[q]
 .refine⟨A1 _ (by decide),h1,?_⟩;unfold gap;rw[go_go (f1 _ hw)];exact hg
 .refine⟨hw,h2,?_⟩;unfold gap;rw[go_go (f2 _ hw)];exact h1
 .refine⟨A1 _ (by decide),hc,?_⟩;unfold gap;simp only;rw[f3 _ hw];exact h2
theorem zi8{C:Cell->Bool}{e:Edge}(h:IsE C e):prv C (nxt C e)=e:=by
 obtain⟨hw,hc,hg⟩:=id h;unfold gap at hg;rcases zaJ h with⟨h1,_,q⟩ |⟨h1,h2,_,q⟩ |⟨h1,h2,_,q⟩ <;> rw[q] <;> unfold prv <;> simp only
 .rw[zgT (f4 _ hw),if_pos hc];rw[show ((e.w+3) % 4+1) % 4=e.w by lia]
 .rw[go_go (f5 _ hw),hg,if_neg (by decide),zgT (f6 _ hw),if_pos hc]
 .rw[f7 _ hw,h1,if_neg (by decide),f8 _ hw,hg,if_neg (by decide)];rw[show ((e.w+1) % 4+3) % 4=e.w by lia]
theorem zdb{C:Cell->Bool}{e f:Edge}(he:IsE C e)(hf:IsE C f)(h:nxt C e=nxt C f):e=f:=by rw[<- zi8 he,<- zi8 hf,h]
noncomputable def Chain(C:Cell->Bool)(b:Edge)(es:List Edge):Prop:=es[0]?=some b/\(∀i e f,es[i]?=some e->es[i+1]?=some f->f=nxt C e)/\(∀e∈es,IsE C e)/\es.Nodup
theorem Chain.start{C:Cell->Bool}{b:Edge}(h:IsE C b):Chain C b [b] :=
 ⟨rfl,λi e f _ h2=>by simp at h2,λe he=>by rw[An.mp he];exact h,by simp⟩
theorem Chain.more{C:Cell->Bool}{b l:Edge}{es:List Edge}(h:Chain C b (es++[l]))(hn:nxt C l≠b):Chain C b ((es++[l])++[nxt C l]):=by
 obtain⟨h0,hs,hE,hnd⟩:=h;have hl:(es++[l])[es.length]?=some l:=by simp
 have lE:=hE l (by simp);refine⟨?_,λi e f h1 h2=>?_,λe he=>?_,?_⟩
 .rw[AG (by simp)];exact h0
 .rcases AX (i+1) (es++[l]).length with hi |hi
  .rw[AG (by lia)]at h1;rw[AG hi]at h2;exact hs i e f h1 h2
  .have hi2:=(Ad.mp h2).1;simp at hi2 hi;have hi3:i=es.length:=by lia
   subst hi3;rw[AG (by simp)]at h1;rw[hl]at h1
   cases h1
   rw[A0 (by simp)]at h2;simp at h2;exact h2.symm
 .rcases AA.mp he with he |he
  .exact hE e he
  .rw[An.mp he];exact zdW lE
 .rw[CQ];refine⟨hnd,by simp,λx hx y hy=>?_⟩;rw[An.mp hy];intro e;subst e;obtain⟨i,hi,ei⟩:=Ay hx;rcases Nat.eq_zero_or_pos i with rfl |hp
  .rw[Aa hi,ei]at h0;exact hn (A4 h0)
  .have hi':i-1<(es++[l]).length:=by lia
   have e1:=hs (i-1) ((es++[l])[i-1]) (nxt C l) (Aa hi') (by rw[show i-1+1=i by lia,Aa hi,ei]);have e2:=zdb lE (hE _ (AZ hi')) e1;have e3:es.length=i-1:=(CS (by simp) hnd).mp (by rw[hl,Aa hi',<- e2]);simp at hi;lia
theorem zao{α:Type} [DecidableEq α]:∀{a b:List α},a.Nodup->(∀x∈a,x∈b)->a.length<=b.length
 |[],_,_,_=>Be _
 |x::a,b,hn,hs=>by
  have hx:x∈b:=hs x Az
  have h1:=zao (a:=a) (b:=b.erase x) (B8.mp hn).2 (λy hy=>by refine (List.mem_erase_of_ne ?_).mpr (hs y (Ar _ hy));intro e;subst e;exact (B8.mp hn).1 hy)
  rw[List.length_erase_of_mem hx]at h1;have:0<b.length:=Da hx;simp only[A7];lia
noncomputable def sides(cs:List Cell):List Edge:=cs.flatMap λc=>(AO 4).map λw=>⟨c,w⟩
theorem zcb(cs:List Cell):(sides cs).length=4*cs.length:=by
 unfold sides
 induction cs with
 |nil=>rfl
 |cons c r ih=>rw[List.flatMap_cons,Ak,ih];simp;lia
theorem zdZ{cs:List Cell}{e:Edge}:e∈sides cs ↔ e.c∈cs/\e.w<4:=by
 unfold sides;rw[List.mem_flatMap];constructor
 .rintro⟨c,hc,h⟩;obtain⟨w,hw,rfl⟩:=Aq.mp h;exact⟨hc,Bp.mp hw⟩
 .rintro⟨hc,hw⟩;exact⟨e.c,hc,Aq.mpr ⟨e.w,Bp.mpr hw,rfl⟩⟩
noncomputable def isIn(cs:List Cell)(c:Cell):Bool:=decide (c∈cs)
theorem Chain.short{cs:List Cell}{b:Edge}{es:List Edge}(h:Chain (isIn cs) b es):es.length<=4*cs.length:=by rw[<- zcb];exact zao h.2.2.2 λe he=>zdZ.mpr ⟨of_decide_eq_true (h.2.2.1 e he).2.1,(h.2.2.1 e he).1⟩
noncomputable def allE(cs:List Cell):List Edge:=(sides cs).filter λe=>!isIn cs (gap e)
theorem zhs{cs:List Cell}{e:Edge}:e∈allE cs ↔ IsE (isIn cs) e:=by
 unfold allE;rw[List.mem_filter,zdZ];unfold IsE isIn;constructor
 .rintro⟨⟨h1,h2⟩,h3⟩;exact⟨h2,decide_eq_true h1,by simpa using h3⟩
 .rintro⟨h1,h2,h3⟩;exact⟨⟨of_decide_eq_true h2,h1⟩,by simpa using h3⟩
noncomputable def dx(w:Nat):Int:=if w=0 then 1 else if w=2 then -1 else 0
noncomputable def dy(w:Nat):Int:=if w=1 then 1 else if w=3 then -1 else 0
noncomputable def px(e:Edge):Int:=e.c.1+(if e.w=1∨e.w=2 then 1 else 0)
noncomputable def py(e:Edge):Int:=e.c.2+(if e.w=2∨e.w=3 then 1 else 0)
theorem zfP{C:Cell->Bool}{e:Edge}(h:IsE C e):px (nxt C e)=px e+dx e.w/\py (nxt C e)=py e+dy e.w:=by
 have hw:=h.1
 rcases zaJ h with⟨_,_,q⟩ |⟨_,_,_,q⟩ |⟨_,_,_,q⟩ <;> rw[q] <;> obtain⟨c,w⟩:=e <;> simp only at hw <;>
  rcases way4 hw with rfl |rfl |rfl |rfl <;> simp[px,py,dx,dy,go,mv] <;> lia
theorem zkV{C:Cell->Bool}{e:Edge}(h:IsE C e):(nxt C e).w=(e.w+3) % 4∨(nxt C e).w=e.w∨(nxt C e).w=(e.w+1) % 4:=by
 rcases zaJ h with⟨_,_,q⟩ |⟨_,_,_,q⟩ |⟨_,_,_,q⟩ <;> rw[q]
 .exact .inl rfl
 .exact .inr (.inl rfl)
 .exact .inr (.inr rfl)
noncomputable def Closed(C:Cell->Bool)(b:Edge)(es:List Edge):Prop:=Chain C b es/\∃l,es[es.length-1]?=some l/\nxt C l=b
theorem psum{C:Cell->Bool}{b:Edge}{es:List Edge}(h:Chain C b es):∀i e,es[i]?=some e->px e=px b+((es.take i).map λe=>dx e.w).sum/\py e=py b+((es.take i).map λe=>dy e.w).sum
 | 0,e,he=>by
  have h0:=h.1;rw[he]at h0
  cases h0
  simp
 |i+1,e,he=>by
  have hi:i+1<es.length:=(Ad.mp he).1;have h1:es[i]?=some es[i]:=Aa (by lia)
  obtain⟨a,c⟩:=psum h i _ h1;have hn:=h.2.1 i _ e h1 he;obtain⟨p,q⟩:=zfP (h.2.2.1 _ (AZ (show i<es.length by lia)));rw[<- hn]at p q;rw[DC,h1];simp only[Option.toList_some,AJ,AR,List.map_nil,Dl,BQ,List.sum_nil];lia
theorem Closed.sums{C:Cell->Bool}{b:Edge}{es:List Edge}(h:Closed C b es):(es.map λe=>dx e.w).sum=0/\(es.map λe=>dy e.w).sum=0:=by
 obtain⟨hc,l,hl,hb⟩:=h;have hlt:=(Ad.mp hl).1;obtain⟨a,c⟩:=psum hc _ l hl;have hlm:=(Ad.mp hl).2;obtain⟨p,q⟩:=zfP (hc.2.2.1 l (by rw[<- hlm];exact AZ _));rw[hb]at p q
 have e:es=es.take (es.length-1)++[l]:=by have:=DC (l:=es) (i:=es.length-1);rw[hl,show es.length-1+1=es.length by lia,AS]at this;simpa using this
 have s1:(es.map λe=>dx e.w).sum=((es.take (es.length-1)).map λe=>dx e.w).sum+dx l.w:=by
  conv=>lhs;rw[e]
  simp
 have s2:(es.map λe=>dy e.w).sum=((es.take (es.length-1)).map λe=>dy e.w).sum+dy l.w:=by
  conv=>lhs;rw[e]
  simp
 lia
theorem zhY{l:List Int}(h:∀x∈l,0<=x):0<=l.sum:=by
 induction l with
 |nil=>simp
 |cons a r ih =>
  have:=h a Az;have:=ih λx hx=>h x (Ar _ hx)
  simp only[BQ];lia
theorem zeP{l:List Int}(h:∀x∈l,0<=x)(hs:l.sum=0):∀x∈l,x=0:=by
 induction l with
 |nil=>intro x hx;cases hx
 |cons a r ih =>
  have h1:=h a Az;have h2:=zhY λx hx=>h x (Ar _ hx)
  simp only[BQ]at hs;intro x hx;rcases At.mp hx with rfl |hx
  .lia
  .exact ih (λx hx=>h x (Ar _ hx)) (by lia) x hx
theorem zjp(l:List Int):(l.map λx=>-x).sum=-l.sum:=by
 induction l with
 |nil=>rfl
 |cons a r ih=>simp only[AR,BQ,ih];lia
theorem zgd(l:List Int)(d:Int)(h:∀x∈l,x=d):l.sum=d*l.length:=by
 induction l with
 |nil=>simp
 |cons a r ih =>
  have h1:=h a Az;have h2:=ih λx hx=>h x (Ar _ hx)
  simp only[BQ,A7,h1,h2];rw[Int.natCast_add,Int.mul_add];lia
theorem Closed.has{C:Cell->Bool}{b:Edge}{es:List Edge}(h:Closed C b es){k:Nat}(hk:k=0∨k=2):∃e∈es,e.w=k:=by
 apply BJ
 intro hno;have hno':∀e∈es,e.w≠k:=λe he z=>hno ⟨e,he,z⟩
 obtain⟨s1,s2⟩:=h.sums;obtain⟨hc,_⟩:=h
 have hpos:0<es.length:=by have:=hc.1;exact (Ad.mp this).1
 have z:∀e∈es,dx e.w=0:=by
  rcases hk with rfl |rfl
  .have := zeP (l := (es.map λe => dx e.w).map λx => -x) (λx hx => by obtain⟨y,hy,rfl⟩:=Aq.mp hx;obtain⟨e,he,rfl⟩:=Aq.mp hy;have:=hno' e he;unfold dx;rw[if_neg this];split <;> decide) (by rw[zjp,s1];rfl)
   intro e he;have:=this (-(dx e.w)) (Aq.mpr ⟨_,Aq.mpr ⟨e,he,rfl⟩,rfl⟩);lia
  .have := zeP (l := es.map λe => dx e.w) (λx hx => by obtain⟨e,he,rfl⟩:=Aq.mp hx;have:=hno' e he;unfold dx;rw[if_neg this];split <;> decide) s1
   intro e he;exact this _ (Aq.mpr ⟨e,he,rfl⟩)
 have odd:∀e∈es,e.w=1∨e.w=3:=λe he=>by
  have h4:=(hc.2.2.1 e he).1;have hz:=z e he;rcases way4 h4 with q |q |q |q
  .rw[q]at hz;exact absurd hz (by decide)
  .exact .inl q
  .rw[q]at hz;exact absurd hz (by decide)
  .exact .inr q
 have same:∀(i:Nat) (e:Edge),es[i]?=some e->e.w=b.w:=by
  intro i
  induction i with
  |zero=>intro e he;have:=hc.1;rw[he]at this;cases this;rfl
  |succ i ih =>
   intro e he;have hi:i+1<es.length:=(Ad.mp he).1;have h1:es[i]?=some es[i]:=Aa (by lia)
   have hn:=hc.2.1 i _ e h1 he;have m1:es[i]∈es:=AZ _;have m2:e∈es:=Ag he;have w1:=ih _ h1;have o1:=odd _ m1;have o2:=odd _ m2;have:=zkV (hc.2.2.1 _ m1);rw[<- hn]at this;lia
 have all:∀x∈es.map (λe=>dy e.w),x=dy b.w:=λx hx=>by obtain⟨e,he,rfl⟩:=Aq.mp hx;obtain⟨i,hi,ei⟩:=Ay he;rw[same i e (by rw[Aa hi,ei])]
 have t:=zgd _ _ all;rw[s2,Ai]at t
 have ob:b.w=1∨b.w=3:=by have:=hc.1;exact odd b (Ag this)
 have d1:dy b.w=1∨dy b.w=-1:=by rcases ob with q |q <;> rw[q] <;> decide
 rcases d1 with q |q <;> rw[q]at t <;> lia
end RP
namespace L2
open PySem PySem.Spec PyProof.Rows
structure Fn (P:AB) (w:AV) (K:W.Frag) (mg:Str->Option Value) (base:Heap) (k:Nat) (x:Str) (ps:List Str) (sp:Sp) where
 f:Addr
 fd:Bq
 ok:FnOk P w K mg base CX0 k f fd ps sp
 m:mg x=some (.ref f)
 kp:C3 K (.ref f)=true
 b:Binds K fd ps []
structure Df (K:W.Frag) (mg:Str->Option Value) (x:Str) (st:Stmt) (ps:List Str) where
 f:Addr
 fd:Bq
 F:Fun K x x st f fd
 m:mg x=some (.ref f)
 b:Binds K fd ps []
noncomputable def Df.fn{P:AB}{w:AV}{K:W.Frag}{mg:Str->Option Value}{base:Heap}{k:Nat}{x:Str}{st:Stmt}{ps:List Str}{sp:Sp}(d:Df K mg x st ps)(h:FnOk P w K mg base CX0 k d.f d.fd ps sp):Fn P w K mg base k x ps sp :=
 ⟨d.f,d.fd,h,d.m,d.F.kp,d.b⟩
structure Ways (P:AB) (w:AV) (K:W.Frag) (mg:Str->Option Value):Prop where
 ex:∃(B:Addr) (t1 t2 t3 t4:Tok) (n:Nat),mg "BEGIN_WAYS" = some (.ref B)/\K.lookup B=some ⟨.type "dict",none,.dict #[⟨BE w.params "rim",.str "rim" t1,.int 0 t2⟩,⟨BE w.params "hole",.str "hole" t3,.int 2 t4⟩] n,#[]⟩
noncomputable def tWays (ti:TE):TE:=λσ H Q=>ti σ H λy H1=>(y=.str "rim" /\ Q (.int 0) H1)∨(y=.str "hole" /\ Q (.int 2) H1)
theorem zjd {X:Cx}{i:Expr}{ti:TE}{p pos:Pos}(hg:Gl X "BEGIN_WAYS") (hw:Ways X.prog X.w X.K X.mg) (hi:PE X i ti) (hs:NoSl i:=by exact λ_ _=>rfl):PE X (.Subscript (.Name "BEGIN_WAYS" p) i pos) (tWays ti):=by
 intro pins s σ H Q I h;obtain⟨B,t1,t2,t3,t4,n,hm,hl⟩:=hw.ex;refine ziC PySem.F.slot_dict_getitem.lookup hs (thn ((zdS (v:=.ref B) hg hm rfl:PE X (.Name "BEGIN_WAYS" p) _) pins s σ H (λv H1=>v=V.ref B/\H1=H) I ⟨rfl,rfl⟩) λu s1 ⟨x,H1,I1,rx,q1⟩=>?_);obtain⟨rfl,rfl⟩:=q1;obtain rfl:u=Ao B:=rx;refine thn (hi pins s1 σ H1 _ I1 h) λiv s2 ⟨y,H2,I2,ry,q2⟩=>?_
 have ho:s2.heap.get? B=some _:=I2.kIn B _ hl
 have mo:s2.heap.MapOf (zaA X.prog X.w) B (PySem.findBy (zaA X.prog X.w).is #[⟨BE X.w.params "rim",.str "rim" t1,.int 0 t2⟩,⟨BE X.w.params "hole",.str "hole" t3,.int 2 t4⟩]) :=
  ⟨_,_,_,ho,⟨rfl,rfl,rfl⟩,rfl,λe he=>by
   simp only[List.mem_toArray,At,DG,or_false]at he;rcases he with rfl |rfl
   .exact⟨.inr "rim",zbe _ _ _ _,rfl⟩
   .exact⟨.inr "hole",zbe _ _ _ _,rfl⟩,λ_=>rfl⟩
 refine⟨⟨_,ho,rfl⟩,?_⟩;rcases q2 with⟨rfl,q⟩ |⟨rfl,q⟩
 .exact wpAny_getItem_of (kV_is (k:=.inr "rim") ry) mo (v:=.int 0 t2) rfl ⟨.int 0,H2,I2.tok _,⟨_,rfl⟩,q⟩
 .exact wpAny_getItem_of (kV_is (k:=.inr "hole") ry) mo (v:=.int 2 t4) rfl ⟨.int 2,H2,I2.tok _,⟨_,rfl⟩,q⟩
section
variable {X:Cx}{K:W.Frag}
theorem zfj(hK:X.K=K:=by rfl):IxR X (rIxT K):=by subst hK;exact zcn
theorem zkE(hK:X.K=K:=by rfl):IxR X (rIxL K):=by subst hK;exact zaP
theorem zcJ{es:List Expr}{k:Nat}{t:TGs}{n:Nat}{pos:Pos}(hc:X.calm=true)(h:PGs X es t)
  (hn:(Cq es X.env).length=n:=by rfl) (hst:(Cq es X.env).findIdx? (·.1)=none:=by rfl) (hK:X.K=K:=by rfl):PG X (.Tuple es k pos) (gTup K n t):=by
 subst hK;exact za0 hc h hn hst
end
section
variable {X:Cx}
noncomputable def rSlTW(K:W.Frag):V->Option Int->Option Int->Hp->VK->Prop:=λx lo hi H Q=>∃a xs,x=.ref a/\SqT K H a xs /\
 ((HT.sIx xs.length 0 lo=0/\HT.sIx xs.length xs.length hi=xs.length)->Q (.ref a) H) /\
 (¬ (HT.sIx xs.length 0 lo=0/\HT.sIx xs.length xs.length hi=xs.length)->∀p,H p=none->Q (.ref p) (upd H p (.tup (cutV xs lo hi))))
end
end L2
namespace HT
open PySem PyProof.Rows
variable {prog:AB}{w:AV}{A:AF}{E:Value->Ac->Prop}{s:Ac}
theorem getItem_tuple_all{t sl:Addr}{items:Array Value}{vl vu:Value}{lo hi:Option Int}{Q:Value -> Ac -> Prop}(ht:IsTup s.heap t items)(hs:s.heap.IsSliceOf sl vl vu .none)(pl:IsPart vl lo)(pu:IsPart vu hi)
  (hw:sIx items.size 0 lo=0/\sIx items.size items.size hi=items.size) (h:Q (.ref t) s):Am (Aw prog w) A (getItem (.ref t) (.ref sl)) Q E s:=by
 obtain⟨os,hos,hcs,hds⟩:=id hs;have hTs:s.TypeIs (.ref sl) "slice":=⟨os,hos,hcs⟩;unfold getItem
 try with_reducible refine A9 ?_
 first |refine Ab (Af ?_) |skip
 refine Ab (wpAny_sequenceKey ht.typeIs (by decide) ?_)
 refine Ab (Cn (name:=BW "__getitem__") ht.typeIs A3
  (C4 A3 ht.typeIs entry_tuple_getitem ?_ (args_tuple_getitem _ _)))
 show Am _ _ (Dy (.ref t) >>= _) _ _ s;refine Ab (tupleItemsOf_ ht ?_);refine Ab (wpAny_typeOf hTs ?_);rw[if_pos (by decide)];refine Ab (zb5 hs pl pu ?_)
 have hyes:(((sIx items.size 0 lo:Nat):Int) == 0 && (1:Int) == 1 && (sIx items.size items.size hi-sIx items.size 0 lo) == items.size)=true:=by rw[hw.1,hw.2];simp
 show Am _ _ (if (((sIx items.size 0 lo:Nat):Int) == 0 && (1:Int) == 1 && (sIx items.size items.size hi-sIx items.size 0 lo) == items.size)=true then _ else _) _ _ s;rw[if_pos hyes];refine Ab ?_
 unfold Builtin.Tuple.tupleIsExact;refine Ab (wpAny_typeOf ht.typeIs (Af ?_));rw[if_pos (by decide)];exact Ab (wpAny_rule (Af ⟨_,rfl,Af h⟩))
end HT
namespace L2
open PySem PySem.Spec PyProof.Rows
section
variable {X:Cx}{K:W.Frag}
theorem ziU:SlR X (rSlTW X.K):=by
 intro pins s σ H x v vl vu lo hi sl Q I rx hs pl pu h;obtain⟨a,xs,rfl,hx,q1,q2⟩:=h
 by_cases hw:HT.sIx xs.length 0 lo=0/\HT.sIx xs.length xs.length hi=xs.length
 .cases rx
  obtain⟨its,r,ht,hz⟩:=I.tuple hx;have hlen:its.toArray.size=xs.length:=by rw[As];exact r.length.symm
  refine⟨"tuple",_,A3.lookup,ht.typeIs,?_⟩;exact HT.getItem_tuple_all ht hs pl pu (by rw[hlen];exact hw) ⟨.ref a,H,I,rfl,q1 hw⟩
 .exact zmo pins s σ H _ v vl vu lo hi sl Q I rx hs pl pu ⟨a,xs,rfl,hx,hw,q2 hw⟩
end
section
variable {prog:AB}{w:AV}{K:Type} [DecidableEq K] {knd:HeapKind prog w K}{A:AF}{E:Value->Ac->Prop}{s:Ac}{d a:Addr}{xs:List (K×Addr×Value)}{k:K}{dflt:Value}
theorem zeI{p:Addr×Value}(h:atKey xs k=some p):∃j:Nat,xs[j]?=some (k,p):=by
 unfold atKey at h;obtain⟨x,hx,e⟩:=Bc.mp h;have hm:=List.mem_of_find?_eq_some hx;have hk:=List.find?_some hx;obtain⟨j,hj,ej⟩:=Ay hm;have:x.1=k:=by simpa using hk
 exact⟨j,by rw[Aa hj,ej,<- e,<- this]⟩
theorem zkS{p:Addr×Value}{j:Nat}(hn:(xs.map λx=>x.1).Nodup)(h:xs[j]?=some (k,p)):atKey xs k=some p:=by
 cases e:atKey xs k with
 |none =>
  exfalso;unfold atKey at e;have:=List.find?_eq_none.mp (Option.map_eq_none_iff.mp e) _ (Ag h);simp at this
 |some q =>
  obtain⟨i,hi⟩:=zeI e;have hl:=(Ad.mp hi).1;have:=(CS (i:=i) (j:=j) (by rw[Ai];exact hl) hn).mp (by rw[Ax,Ax,hi,h];rfl);subst this;rw[hi]at h
  cases h
  rfl
theorem zdK{Q:Value -> Ac -> Prop}(hr:knd.room A)(hk:knd.is s.heap k a)(hD:Heap.DictOfH knd s.heap d xs)(hsz:xs.length <= sizeLine)
  (h1:∀p,atKey xs k=some p->Q p.2 { s with toks:=s.toks+knd.draws k })
  (h2:atKey xs k=none->∀h',Heap.DictOfH knd h' d (storedH xs k a dflt)->Ce d s.heap h'->Q dflt { s with heap:=h',toks:=s.toks+knd.draws k }) :
  Am (Aw prog w) A (dictSetDefault d (.ref a) dflt) Q E s:=by
 obtain⟨o,es,ep,ho,hx,hd,he,hi,hn⟩:=id hD;unfold dictSetDefault;refine A9 (Ab (knd.pyHash hr hk ?_));refine Ab (wpAny_dictFind_heap (s:={ s with toks:=s.toks+knd.draws k }) hr hk ho hd he hi hn (λhno=>?_) λj p hj=>?_)
 .have hnone:atKey xs k=none := by
   cases e:atKey xs k with
   |none=>rfl
   |some p=>obtain⟨j,hj⟩:=zeI e;exact absurd hj (hno j p)
  refine Ab (wpAny_rule ?_);have hes:es.size=xs.length:=by rw[<- C0,he,Ai]
  refine Ab (wpAny_updateDictKeys ho hd (Af (h2 hnone _ ?_ ⟨?_,λb hb=>AW _ _ (Bx hb)⟩)) (by lia) (by simp))
  .have hs:Ce d s.heap (s.heap.update d (Obj.mapDictKeys λx=>x.push ⟨knd.hash k,.ref a,dflt⟩)):=⟨?_,λb hb=>AW _ _ (Bx hb)⟩
   .obtain⟨c,dd,dt,sl⟩:=o;simp only at hd;subst hd;refine⟨_,es.push ⟨knd.hash k,.ref a,dflt⟩,ep+1,BN _ ho rfl,hx,rfl,?_,λx hx'=>?_,?_⟩
    .rw[storedH_new hnone,AJ,<- he];simp[entryOfKey]
    .rw[storedH_new hnone]at hx';rcases AA.mp hx' with m |m
     .exact knd.keeps (hi x m) ho rfl hs
     .rw[An.mp m];exact knd.keeps hk ho rfl hs
    .rw[storedH_new hnone,AJ,CQ];refine⟨hn,by simp,λx hx' y hy e=>?_⟩;simp at hy;subst hy e;obtain⟨⟨k',p⟩,hm,ek⟩:=Aq.mp hx';obtain⟨j,hj,ej⟩:=Ay hm;simp only at ek;subst ek;exact hno j p (by rw[Aa hj,ej])
   .show (s.heap.update d _).objs.size=_;unfold Heap.update;simp
  .show (s.heap.update d _).objs.size=_;unfold Heap.update;simp
 .have hlt:=(Ad.mp hj).1;have hes:es.size=xs.length:=by rw[<- C0,he,Ai]
  have ee:es[j]?=some ⟨knd.hash k,.ref p.1,p.2⟩:=by rw[<- Dt,he,Ax,hj];rfl
  refine Ab (wpAny_dictEntries ho hd ?_);simp only[ee];refine Ab (wpAny_rule (Af ?_));exact h1 p (zkS hn hj)
theorem zdc(knd:HeapKind prog w K)(d a:Addr)(hd:(d == BS)=false)(dflt:Value) :
  MeetsIn prog w (Builtin.«dict.setdefault» ⟨[.ref d,.ref a,dflt],[]⟩) λA R s=>knd.room A.in1/\∃k xs,knd.is s.heap k a/\Heap.DictOfH knd s.heap d xs/\xs.length<=sizeLine /\
   (∀p,atKey xs k=some p->R (.ok (.ret p.2)) { s with toks:=s.toks+knd.draws k }) /\
   (atKey xs k=none->∀h',Heap.DictOfH knd h' d (storedH xs k a dflt)->Ce d s.heap h'->R (.ok (.ret dflt)) { s with heap:=h',toks:=s.toks+knd.draws k }):=by
 intro A R s h;obtain⟨hr,k,xs,hk,hD,hsz,h1,h2⟩:=h;unfold Builtin.«dict.setdefault» Builtin.Dict.keyAndDefault;have ht:s.TypeIs (.ref d) "dict":=hD.typeIs;refine Ab (Ab (wpAny_notOrdered_dict ht ?_));refine Ab ?_
 show Am (Aw prog w) A.in1 (pure ()) _ _ s;refine Af ?_
 refine Ab ?_
 show Am (Aw prog w) A.in1 (pure (Ao d,[Ao a,dflt])) _ _ s;refine Af ?_
 show Am (Aw prog w) A.in1 (pure d >>= λx=>pure (x,Ao a,some dflt)) _ _ s;refine Ab (Af (Af ?_));simp only;rw[hd];show Am (Aw prog w) A.in1 (dictSetDefault d (.ref a) dflt >>= λx=>ret x) _ _ s;refine Ab (zdK hr hk hD hsz (λp e=>Af (h1 p e)) λe h' hD' hs=>Af (h2 e h' hD' hs))
noncomputable def zmj(td ty tx:TE):TE:=λσ H Q=>td σ H λx H1=>∃a,x=.ref a/\IsD H1 a/\ty σ H1 λy H2=>tx σ H2 λz H3=>∃kvs k b,H3 a=some (.dT kvs)/\y=.ref b/\H3 b=some (.tup (k.map kV))/\kvs.length<sizeLine /\
 (∀v,valV kvs k=some v->Q v H3)/\(valV kvs k=none->Q z (upd H3 a (.dT (putK kvs k z))))
end
section
variable {X:Cx}{o e f:Expr}{apos cpos:Pos}{td ty tx:TE}
theorem zks (hu:X.A.units+1<cLine) (ho:PE X o td) (he:PE X e ty) (hf:PE X f tx) (m:M2 X o "setdefault" apos e f cpos):PE X (.Call (.Attribute o "setdefault" apos) [e,f] [] cpos) (zmj td ty tx):=by
 intro pins s σ H Q I h;refine wpAny_Call_method m.base m.few m.line PySem.F.plainAttrs_dict PySem.F.slot_dict_setdefault PySem.F.type_dict_setdefault (thn (ho pins s σ H _ I h) λu s1 ⟨x,H1,I1,rx,a,ex,d,q1⟩=>?_);subst ex;obtain rfl:u=Ao a:=rx;obtain⟨t1,t2,_⟩:=zmR I1 d;refine⟨t1,t2,?_⟩;rw[m.trees]
 refine Calls.callWith_builtin rfl (Calls.evalArgs_plain (Calls.spliced_cons (thn (he pins s1 σ H1 _ I1 q1) λiv s2 ⟨y,H2,I2,ry,q2⟩ =>
  Calls.spliced_cons (thn (hf pins s2 σ H2 _ I2 q2) λfv s3 ⟨z,H3,I3,rz,kvs,k,b,eD,ey,eb,hl,k1,k2⟩=>Calls.spliced_nil ?_))))
 subst ey
 cases (show iv=Ao b from ry)
 obtain⟨zz,hd,xs,rel,dd⟩:=dt_of I3.hok eD
 refine call_meetsIn PySem.F.slot_dict_setdefault dd.typeIs PySem.F.entry_dict_setdefault (PySem.F.args_dict_setdefault_3 _ _ _) (zdc (D3 (zaA X.prog X.w)) a b hd fv)
  ⟨DZ hu,k,xs,zeD I3.hok eb,dd,by rw[<- CV rel];exact zz,λp ep=>?_,λen h' dd' hs=>?_⟩
 .have rv:=rel.val k;rw[ep]at rv
  cases hv:valV kvs k with
  |none=>rw[hv]at rv;exact Bj rv
  |some v=>rw[hv]at rv;exact⟨v,H3,I3.tok _,rv,k1 v hv⟩
 .have hn:valV kvs k=none := by
   have rv:=(rel.val k).isSome_eq;rw[en]at rv
   cases hv:valV kvs k with
   |none=>rfl
   |some v=>rw[hv]at rv;exact absurd rv (by simp)
  have hz:(putK kvs k z).length<=sizeLine:=by have:=zbf kvs k z;lia
  obtain⟨q,es,ep,hq,h2,h3,h4,_,h5⟩:=dd';refine⟨z,_,?_,rz,k2 hn⟩;refine zec I3 (by rw[eD];exact BX) hs ⟨q,hq⟩ ⟨hz,hd,_,(rel.put k eb rz).keeps λc ys ec=>?_,q,es,ep,hq,h2,h3,h4,h5⟩;rw[zai (ne_of ec eD (λz=>nomatch z))];exact ec
end
structure Two (P:AB) (w:AV) (K:W.Frag) (mg:Str->Option Value) (nm:Str) (a b:Int):Prop where
 ex:∃(B:Addr) (t1 t2 t3 t4:Tok) (n:Nat),mg nm=some (.ref B)/\K.lookup B=some ⟨.type "dict",none,.dict #[⟨BE w.params "rim",.str "rim" t1,.int a t2⟩,⟨BE w.params "hole",.str "hole" t3,.int b t4⟩] n,#[]⟩
noncomputable def tTwo (a b:Int) (ti:TE):TE:=λσ H Q=>ti σ H λy H1=>(y=.str "rim" /\ Q (.int a) H1)∨(y=.str "hole" /\ Q (.int b) H1)
theorem zmB {X:Cx}{nm:Str}{a b:Int}{i:Expr}{ti:TE}{p pos:Pos}(hg:Gl X nm) (hw:Two X.prog X.w X.K X.mg nm a b) (hi:PE X i ti) (hs:NoSl i:=by exact λ_ _=>rfl) (hdb:(nm == ("__debug__" : Str))=false:=by rfl):PE X (.Subscript (.Name nm p) i pos) (tTwo a b ti):=by
 intro pins s σ H Q I h;obtain⟨B,t1,t2,t3,t4,n,hm,hl⟩:=hw.ex;refine ziC PySem.F.slot_dict_getitem.lookup hs (thn ((zdS (v:=.ref B) hg hm rfl (hd:=hdb):PE X (.Name nm p) _) pins s σ H (λv H1=>v=V.ref B/\H1=H) I ⟨rfl,rfl⟩) λu s1 ⟨x,H1,I1,rx,q1⟩=>?_);obtain⟨rfl,rfl⟩:=q1;obtain rfl:u=Ao B:=rx;refine thn (hi pins s1 σ H1 _ I1 h) λiv s2 ⟨y,H2,I2,ry,q2⟩=>?_
 have ho:s2.heap.get? B=some _:=I2.kIn B _ hl
 have mo:s2.heap.MapOf (zaA X.prog X.w) B (PySem.findBy (zaA X.prog X.w).is #[⟨BE X.w.params "rim",.str "rim" t1,.int a t2⟩,⟨BE X.w.params "hole",.str "hole" t3,.int b t4⟩]) :=
  ⟨_,_,_,ho,⟨rfl,rfl,rfl⟩,rfl,λe he=>by
   simp only[List.mem_toArray,At,DG,or_false]at he;rcases he with rfl |rfl
   .exact⟨.inr "rim",zbe _ _ _ _,rfl⟩
   .exact⟨.inr "hole",zbe _ _ _ _,rfl⟩,λ_=>rfl⟩
 refine⟨⟨_,ho,rfl⟩,?_⟩;rcases q2 with⟨rfl,q⟩ |⟨rfl,q⟩
 .exact wpAny_getItem_of (kV_is (k:=.inr "rim") ry) mo (v:=.int a t2) rfl ⟨.int a,H2,I2.tok _,⟨_,rfl⟩,q⟩
 .exact wpAny_getItem_of (kV_is (k:=.inr "hole") ry) mo (v:=.int b t4) rfl ⟨.int b,H2,I2.tok _,⟨_,rfl⟩,q⟩
section
variable {X:Cx}
theorem Inv.turned2{pins:List (Addr × Obj)}{σ : St}{H:Hp}{s:Ac}{h':Heap}{t':Nat}{e it:Addr}(I:Inv X pins σ H s)(k:∀b o, b ≠ e -> b ≠ it -> s.heap.get? b=some o -> h'.get? b=some o)(fe:FpOk X pins H e)(fi:FpOk X pins H it) :
  Inv X pins σ H { s with heap:=h',toks:=t' }:=by
 obtain⟨f0,f1,f2,f3,f4,f5⟩:=fe;obtain⟨g0,g1,g2,g3,g4,g5⟩:=fi;have nb:∀b u,H b=some u->b≠e/\b≠it:=λb u q=>⟨(λz=>by rw[z,f0]at q;cases q),(λz=>by rw[z,g0]at q;cases q)⟩
 have out:∀b,b ∉ [e,it]->b≠e/\b≠it:=λb hc=>⟨λz=>hc (by simp[z]),λz=>hc (by simp[z])⟩
 refine I.step (g':=s.gens) (d':=s.drawn) (ch:=[e,it]) (λb hb=>?_) (λb o _ _ hc q _=>k b o (out b hc).1 (out b hc).2 q) (λb o _ _ hc q _=>⟨o.slots,k b o (out b hc).1 (out b hc).2 q⟩) (λ_ _ _ _ n=>n)
  (λb o hc q=>⟨o,k b o (out b hc).1 (out b hc).2 q⟩) (λ_ _ q=>q) (λ_ _ _ q=>q) (λb ps q=>⟨#[],by rw[q];simp⟩) (λm hm=>?_) (λb u q=>?_) I.bare
 .rcases At.mp hb with z |z
  .subst z;exact⟨f3,f1,f4,f5⟩
  .have z':b=it:=by simpa using z
   subst z';exact⟨g3,g1,g4,g5⟩
 .obtain⟨o,es,ep,ho,r⟩:=hm;exact⟨o,es,ep,k _ o (Bx f1) (Bx g1) ho,r⟩
 .refine (I.hok b u q).stay (λc v hc q'=>?_) (λ_ q=>q) λ_ _ q=>q
  rcases hc with z |z
  .rw[z]at q' ⊢;exact k _ _ (nb b u q).1 (nb b u q).2 q'
  .exact k _ _ (nb c _ z).1 (nb c _ z).2 q'
noncomputable def Ite(K:W.Frag)(a:Addr):It :=
 ⟨λi H=>∃xs x,SqL K H a xs/\xs[i]?=some x,λi H y H'=>∃p x,y=.ref p/\H p=none/\H'=upd H p (.tup [.int i,x])/\∀xs,SqL K H a xs->xs[i]?=some x,λi H=>∃xs,SqL K H a xs/\xs.length<=i⟩
theorem ziv{P:AB}{w:AV}{K:W.Frag}{es:List Expr}{x1:Nat}{pos:Pos}(a e it:Addr)(hne:e≠it):Turn P w K (.Tuple es x1 pos) (Ite K a) [e,it] e (λi h=>∃old,IsEnum h e it ((i:Nat):Int) old/\h.IsListIter it a i) where
 mem:=by simp
 obj:=λi h st b hb=>by
  obtain⟨old,h1,o,h2,c,d⟩:=st;rcases At.mp hb with z |z
  .subst z;exact⟨_,h1,λv q=>nomatch q⟩
  .have z':b=it:=by simpa using z
   subst z';exact⟨o,h2,λv q=>by rw[d]at q;cases q⟩
 keep:=λi h h' ⟨old,h1,h2⟩ k=>⟨old,k e (by simp) _ h1,h2.at λo q=>k it (by simp) o q⟩
 item:=by
  intro X hP hw hK hc i pins s σ H E I hf st hg;subst hP hw hK;obtain⟨old,he,hit⟩:=st;obtain⟨xs,x,hq,hx⟩:=hg;obtain⟨its,rv,p,hz⟩:=I.list hq;obtain⟨u,hu,ru⟩:=rv.get hx;have fe:=hf e (by simp);have fi:=hf it (by simp);refine wpAny_pyNext_enum_item he hit p.isList (x:=u) (by simpa using hu) hne λh1 eo it1 tup sz kk=>⟨_,rfl,?_⟩
  refine wpAny_letOwnedTupleGo_enum (s:={ s with heap:=h1,toks:=s.toks+1 }) eo λh2 he2 sb=>?_
  have heS:e<s.heap.objs.size:=Au he;have hiS:it<s.heap.objs.size:=by obtain⟨o,q,_⟩:=hit;exact Au q
  have fr:H s.heap.objs.size=none:=I.hok.fresh (Aj _)
  have I1:Inv X pins σ (upd H s.heap.objs.size (.tup [.int i,x])) { s with heap:=s.heap.push { cls:=.type "tuple",data:=.seq #[.int i s.toks,u] },toks:=s.toks } :=
   I.laid (t':=s.toks) (o:=.tup [.int i,x]) (λb ob q=>Ae _ q) (Aj _) ⟨by show 2<=sizeLine;decide,_,.cons ⟨_,rfl⟩ (.cons ru .nil),IsTup.new _ _⟩
  have up:∀{b:Addr},b<s.heap.objs.size->∀o,upd H s.heap.objs.size o b=H b:=λhb o=>zai (AK hb)
  have fe1:FpOk X pins (upd H s.heap.objs.size (.tup [.int i,x])) e:=⟨by rw[up heS];exact fe.1,fe.2⟩;have fi1:FpOk X pins (upd H s.heap.objs.size (.tup [.int i,x])) it:=⟨by rw[up hiS];exact fi.1,fi.2⟩
  have I2:Inv X pins σ (upd H s.heap.objs.size (.tup [.int i,x])) { s with heap:=h2,toks:=s.toks+1 }:=I1.turned2 (λb o hbe hbi q=>by
   refine (sb.2 b hbe).trans ?_
   show h1.get? b=some o;rcases Heap.get?_push_cases q with⟨z,rfl⟩ |q
   .rw[z];exact tup
   .exact kk b o hbe hbi q) fe1 fi1
  refine⟨.ref s.heap.objs.size,_,I2,rfl,⟨_,x,rfl,fr,rfl,λys hy=>by rw[I.list_inj hy hq];exact hx⟩,⟨u,?_,?_⟩,λb hb=>?_⟩
  .exact he2
  .obtain⟨o,q,c,d⟩:=it1;exact⟨o,(sb.2 it (Bx hne)).trans q,c,d⟩
  .rcases At.mp hb with z |z
   .subst z;exact fe1.1
   .have z':b=it:=by simpa using z
    subst z';exact fi1.1
 done:=by intro X hP hw hK hc i pins s σ H E I hf st hg;subst hP hw hK;obtain⟨old,he,hit⟩:=st;obtain⟨xs,hq,hx⟩:=hg;obtain⟨its,rv,p,hz⟩:=I.list hq;obtain⟨f0,f1,f2,f3,f4,f5⟩:=hf it (by simp);have hl:=rv.length;exact wpAny_pyNext_enum_end (I.ok.hd hc) he hit p.isList (by simp;lia) λh' eb=>⟨rfl,I.turned (t':=s.toks) (λb o hb e=>eb b o hb e) f0 f1 f3 f4 f5⟩
 self:=λ_ _ _ _ _ ⟨_,he,_⟩ h=>wpAny_pyIter_enum he h
noncomputable def iEnum(K:W.Frag)(t:TA):TI:=λσ H R=>t σ H λvs H1=>∃a,vs=[.ref a]/\(∃xs,SqL K H1 a xs)/\R (Ite K a) H1
theorem zlL {l:Expr}{t:TA}{es:List Expr}{x1:Nat}{pos pos' p:Pos}(hg:Gl X "enumerate") (hm:X.mg "enumerate" = none) (ha:PA X [l] t)
  (he:A5 [l] X.env=(false,eval l X.env)::A5 [] X.env:=by rfl) (hpl:(DK pos' (A5 [] X.env)).any (·.1)=false:=by rfl) :
  PI X (.Tuple es x1 pos) (.Call (.Name "enumerate" p) [l] [] pos') (iEnum X.K t):=by
 intro pins s σ H R I h;refine Cc (zdm I hg hm (by rfl) ?_ (by decide) (by decide));refine Cv (thn (ha pos' pins s σ H _ I h) λus s1 ⟨vs,H1,I1,r1,q1⟩=>?_) he hpl;obtain⟨a,ex,⟨xs,hq⟩,q⟩:=q1;subst ex;obtain⟨u,rfl,rx⟩:=vals1 r1
 cases rx
 obtain⟨its,rv,pl,hz⟩:=I1.list hq;refine call_enumerate_list pl.isList λh' he hit hsz kp=>?_
 have I2:Inv X pins σ H1 { s1 with heap:=h' }:=I1.kept (t':=s1.toks) kp;refine wpAny_pyIter_enum he ?_
 refine⟨s1.heap.objs.size+1,[s1.heap.objs.size+1,s1.heap.objs.size],_,_,H1,rfl,I2,ziv a _ _ (Nat.succ_ne_self _),⟨_,he,hit⟩,λb hb=>?_,q⟩;rcases At.mp hb with z |z
 .subst z;exact I1.fpOk (Cj _) (I1.hok.fresh (Cj _))
 .have z':b=s1.heap.objs.size:=by simpa using z
  subst z';exact I1.fpOk (Aj _) (I1.hok.fresh (Aj _))
theorem zkH{K:W.Frag}{a:Addr}{xs:List V}{g:TG}{tb:TS}{D:Ends}{σ : St}{H:Hp}(Pv:Nat -> St -> Hp -> Prop)(h0:Pv 0 σ H)(hl:∀i σ H, i <= xs.length -> Pv i σ H -> SqL K H a xs)
  (hs:∀i x σ H p,xs[i]?=some x->Pv i σ H->H p=none->g (.ref p) σ (upd H p (.tup [.int i,x])) λσ2 H2=>tb { D with nx:=Pv (i+1),ct:=Pv (i+1),bk:=D.nx } σ2 H2) (hd:∀ σ H,Pv xs.length σ H->D.nx σ H) :
  ∃W:Nat->Nat->St->Hp->Prop,(∃m,W 0 m σ H)/\∀i m σ H,W i m σ H ->
   ((Ite K a).stop i H/\D.nx σ H)∨((Ite K a).go i H/\∃N:St->Hp->Prop,(∀ σ' H',N σ' H'->∃m',m'<m/\W (i+1) m' σ' H')/\∀x H',(Ite K a).yld i H x H'->g x σ H' λσ2 H2=>tb { D with nx:=N,ct:=N,bk:=D.nx } σ2 H2):=by
 refine⟨λi m σ H=>m=xs.length-i/\i<=xs.length/\Pv i σ H,⟨xs.length,by simp,Be _,h0⟩,?_⟩;rintro i m σ H ⟨rfl,hi,p⟩;have q:=hl i σ H hi p
 by_cases hlt:i<xs.length
 .refine .inr ⟨⟨xs,xs[i],q,by simp[hlt]⟩,Pv (i+1),λσ' H' p'=>⟨xs.length-(i+1),by lia,rfl,hlt,p'⟩,λx H' y=>?_⟩;obtain⟨b,z,rfl,hb,rfl,y⟩:=y;exact hs i z σ H b (y xs q) p hb
 .have e:i=xs.length:=by lia
  subst e;exact .inl ⟨⟨xs,q,Aj _⟩,hd σ H p⟩
end
end L2
namespace HT
open PySem PyProof.Rows PySem.Spec
variable {prog:AB}{w:AV}{A:AF}{E:Value->Ac->Prop}{s:Ac}
theorem cat_tup0{t b:Addr}{ws:List Value}{Q:Value->Ac->Prop}(ht:IsTup s.heap t ([]:List Value).toArray)(hb:IsTup s.heap b ws.toArray)(h1:Q (.ref b) s):Am (Aw prog w) A (Cb .Add (.ref t) (.ref b)) Q E s:=by
  obtain⟨⟨cls,dd,data,sl⟩,ho,hc,n,hd⟩:=id ht;obtain⟨⟨cls2,dd2,data2,sl2⟩,ho2,hc2,n2,hd2⟩:=id hb;simp only at hc hd hc2 hd2;subst hc hd hc2 hd2
  exact concat_meets ⟨_, ho, rfl⟩ ⟨_, ho2, rfl⟩ noFill_tuple_add seq_tuple_add PySem.F.slot_tuple_add D6 (DP _ _)
      (tuple_addW0 t b _ _ n n2 dd dd2 sl sl2 (by rfl)) ⟨ho,ho2,h1⟩
end HT
namespace L2
open PySem PySem.Spec PyProof.Rows
section
variable {X:Cx}{K:W.Frag}
noncomputable def rCatE(K:W.Frag):R2:=λx y H Q=>∃a b xs ys,x=.ref a/\y=.ref b/\SqT K H a xs/\SqT K H b ys/\xs.length+ys.length<=sizeLine /\
 (xs=[]->Q (.ref b) H)/\(xs≠[]->ys=[]->Q (.ref a) H)/\(xs≠[]->ys≠[]->∀p,H p=none->Q (.ref p) (upd H p (.tup (xs++ys))))
theorem zlQ:OpR X (Cb .Add) (rCatE X.K):=by
 intro pins s σ H x y v u Q I rx ry h;obtain⟨a,b,xs,ys,rfl,rfl,ha,hb,hz,q0,q1,q2⟩:=h
 by_cases hx:xs=[]
 .subst hx
  cases rx
  cases ry
  obtain⟨its,r1,p1,_⟩:=I.tuple ha;obtain⟨its2,r2,p2,_⟩:=I.tuple hb
  cases r1
  exact HT.cat_tup0 p1 p2 ⟨.ref b,H,I,rfl,q0 rfl⟩
 .exact zgF pins s σ H _ _ v u Q I rx ry ⟨a,b,xs,ys,rfl,rfl,ha,hb,hx,hz,q1 hx,q2 hx⟩
end
end L2
namespace HT
open PySem PyProof.Rows PySem.Spec
theorem zb7:fillsNumberSlot (.type "tuple") "mul" = pure false :=
 PySem.fillsNumberSlot_seq (id:="tuple.__mul__") (r:=some (.builtin "tuple.__rmul__")) F.slot_tuple_mul.lookup (by decide +kernel) F.slot_tuple_rmul.lookup (by decide +kernel)
theorem zdj:seqRepeat? (.type "tuple")=pure (some (.builtin "tuple.__mul__")):=by unfold seqRepeat?;rw[PySem.seqSlot_of (T:="tuple") (name:="__mul__") (id:="tuple.__mul__") F.slot_tuple_mul.lookup (by decide +kernel),PySem.seqSlot_of (T:="tuple") (name:="__rmul__") (id:="tuple.__rmul__") F.slot_tuple_rmul.lookup (by decide +kernel)];rfl
theorem zcA(a:Int)(t:Tok)(l:Addr)(items:Array Value)(n:Nat)(dd:Option Addr)(sl:Array (Option Value)) :
  Meets (Builtin.«int.__rmul__» ⟨[.int a t,.ref l],[]⟩) (λ_ R s=>s.heap.get? l=some { cls:=.type "tuple",dict:=dd,data:=.seq items n,slots:=sl }/\R (.ok (.ret Value.notImplemented)) s) :=
 .of_wp λprog w A R s h=>by obtain⟨hp,g,d,tk,os⟩:=s;obtain⟨hl,h⟩:=h;wp_walk;exact⟨_,rfl,h⟩
theorem zhW(t:Tok)(l:Addr)(x:Value)(n:Nat)(dd:Option Addr)(sl:Array (Option Value)) :
  Meets (Builtin.«tuple.__mul__» ⟨[.ref l,.int 1 t],[]⟩) (λ_ R s=>s.heap.get? l=some { cls:=.type "tuple",dict:=dd,data:=.seq #[x] n,slots:=sl }/\R (.ok (.ret (.ref l))) s) :=
 .of_wp λprog w A R s h=>by obtain⟨hp,g,d,tk,os⟩:=s;obtain⟨hl,h⟩:=h;have f1:=AutoSeq1.idx_int;have f2:=CW;wp_walk using BP hl;exact⟨_,rfl,h⟩
theorem zhV(k:Nat)(t:Tok)(l:Addr)(x:Value)(n:Nat)(dd:Option Addr)(sl:Array (Option Value))(h2 : 2 <= k)(hk:k <= 1000)(hsz:((Ah (Int.toNat (k:Int)) #[x]).foldl (· ++ ·) #[]).size <= sizeLine) :
  Meets (Builtin.«tuple.__mul__» ⟨[.ref l,.int (k:Int) t],[]⟩) (λ_ R s=>s.heap.get? l=some { cls:=.type "tuple",dict:=dd,data:=.seq #[x] n,slots:=sl }/\R (.ok (.ret (.ref s.heap.objs.size))) { s with heap:=s.heap.push { cls:=.type "tuple",data:=.seq ((Ah (Int.toNat (k:Int)) #[x]).foldl (·++·) #[]) } }) :=
 .of_wp λprog w A R s h=>by
  obtain⟨hp,g,d,tk,os⟩:=s;obtain⟨hl,h⟩:=h;have f1:=AutoSeq1.idx_int;have f2:=CW;have hc0:¬ (decide ((k:Int) < -2 ^ 63) ||decide ((k:Int) ≥ 2 ^ 63))=true:=by simp;lia
  have hc1:¬ ((#[x]:Array Value).isEmpty || (k:Int) == 1)=true:=by simp;lia
  have hc2:¬ (decide ((k:Int)<=0) || (#[x]:Array Value).isEmpty)=true:=by simp;lia
  have hc3:¬ (((#[x]:Array Value).size:Int)*(k:Int) > (2 ^ 63-1) / 8):=by simp;lia
  have hc4:¬ Builtin.Tuple.tupleTooMany (((#[x]:Array Value).size:Int)*(k:Int))=true:=by
   unfold Builtin.Tuple.tupleTooMany;have:(1000:Int)<=(sizeLine:Int):=by decide
   simp;lia
  wp_walk using BP hl
  rw[if_neg hc0]
  wp_walk using BP hl
  rw[if_neg hc1]
  (try dsimp only)
  rw[if_neg hc2]
  (try dsimp only)
  rw[if_neg hc3]
  (try dsimp only)
  rw[if_neg hc4];refine Ab (m:=Bl _) (Bh (Af ?_) hsz);exact⟨_,rfl,h⟩
theorem zf7(x:Value):∀(k:Nat) (acc:List Value),((Ah k #[x]).foldl (·++·) acc.toArray)=(acc++Ah k x).toArray
 | 0,acc=>by simp
 |k+1,acc=>by
  rw[BL,List.foldl_cons];have:acc.toArray++#[x]=(acc++[x]).toArray:=by simp
  rw[this,zf7 x k (acc++[x]),BL,Co];rfl
theorem rep_tup{prog:AB}{w:AV}{A:AF}{E:Value -> Ac -> Prop}{s:Ac}{l:Addr}{x:Value}{k:Nat}{t:Tok}{Q:Value -> Ac -> Prop}(hl:IsTup s.heap l #[x])(h1 : 1 <= k)(hk:k <= 1000)
  (q1:k=1->Q (.ref l) s) (q2:2<=k->Q (.ref s.heap.objs.size) { s with heap:=s.heap.push { cls:=.type "tuple",data:=.seq (Ah k x).toArray } }):Am (Aw prog w) A (Cb .Mult (.ref l) (.int (k:Int) t)) Q E s:=by
 obtain⟨⟨cls,dd,data,sl⟩,ho,hc,n,hd⟩:=id hl;simp only at hc hd;subst hc hd
 refine DJ (T:="tuple") (U:="int") (by decide) ⟨_,ho,rfl⟩ (λs'=>typeIs_int s' k t) zb7 F.fills_int_mul Dh zdj D9.lookup
  (CZ Dh (typeIs_int s k t) F.entry_int_rmul (F.args_int_rmul_2 _ _) (zcA k t l #[x] n dd sl) ⟨ho,rfl,⟨_,ho,rfl⟩,?_⟩)
 by_cases hk1:k=1
 .subst hk1;exact CZ F.slot_tuple_mul ⟨_,ho,rfl⟩ F.entry_tuple_mul (F.args_tuple_mul_2 _ _) (zhW t l x n dd sl) ⟨ho,q1 rfl⟩
 .have e:(Ah (Int.toNat (k:Int)) #[x]).foldl (· ++ ·) #[]=(Ah k x).toArray := by rw[Cm];have:=zf7 x k [];rw[List.nil_append]at this;exact this
  refine CZ F.slot_tuple_mul ⟨_,ho,rfl⟩ F.entry_tuple_mul (F.args_tuple_mul_2 _ _) (zhV k t l x n dd sl (by lia) hk ?_) ⟨ho,?_⟩
  .rw[e,As,BB];exact Bg (L2.small1000 hk)
  .rw[e];exact q2 (by lia)
end HT
namespace L2
open PySem PySem.Spec PyProof.Rows
section
variable {X:Cx}{K:W.Frag}
noncomputable def rRepT(K:W.Frag):R2:=λx y H Q=>∃a k v,x=.ref a/\y=.int ((k:Nat):Int)/\SqT K H a [v]/\1<=k/\k<=1000/\(k=1->Q (.ref a) H)/\(2<=k->∀p,H p=none->Q (.ref p) (upd H p (.tup (Ah k v))))
theorem Vals.repl{v:V}{u:Value}(r:RelV v u):∀k:Nat,Vals (Ah k v) (Ah k u)
 | 0=>.nil
 |k+1=>.cons r (Vals.repl r k)
theorem zlO:OpR X (Cb .Mult) (rRepT X.K):=by
 intro pins s σ H x y v u Q I rx ry h;obtain⟨a,k,w,rfl,rfl,ha,h1,hk,q1,q2⟩:=h
 cases rx
 obtain⟨t,rfl⟩:=ry;obtain⟨its,r,p1,_⟩:=I.tuple ha
 cases r with
 |cons rw r =>
 cases r with
 |nil =>
 refine HT.rep_tup p1 h1 hk (λz=>⟨.ref a,H,I,rfl,q1 z⟩) λz=>?_
 refine⟨.ref s.heap.objs.size,_,I.laid (t':=s.toks) (o:=.tup (Ah k w)) (λb ob q=>Ae _ q) (Aj _) ?_,rfl,q2 z _ (I.hok.fresh (Aj _))⟩;exact⟨by rw[BB];exact Bg (small1000 hk),_,Vals.repl rw k,IsTup.new _ _⟩
end
section
variable {X:Cx}
end
section
variable {X:Cx}{e es:Expr}{te ts:TE}{pos p2:Pos}
end
section
variable {X:Cx}
noncomputable def zlE(K:W.Frag):R2:=λx y H Q=>∃p xs d ds,y=.ref p/\SqL K H p xs/\RD K H x d/\RDs K H xs ds/\Bt d=true/\(∀e∈ds,Bt e=true)/\Q (.bl (!ds.any λe=>C9 e d)) H
theorem zjj(hu:X.A.units+65<cLine):OpR X (BD .NotIn) (zlE X.K):=by intro pins s σ H x y v u Q I rx ry h;obtain⟨p,xs,d,ds,rfl,hq,hd,hds,sd,sds,q⟩:=h;obtain⟨as,ra⟩:=I.reads hd rx;obtain⟨bs,rb⟩:=I.reads (.lst hq hds) ry;exact SeqAt.notIn_list_reads rb ra (zdo sds) (SeqAt.canLay_of_shaped sd) (PyProof.Rows.room_in_shaped sd hu) ⟨.bl _,H,I,rfl,q⟩
end
section
variable {prog:AB}{w:AV}{A:AF}{R:Result->Ac->Prop}{I:Addr}{fp wr:List Addr}{n:Nat}{P:Nat->Value->Prop}{St:Nat->Heap->Prop}{dv:Value}
end
section
variable {X:Cx}{pins:List (Addr×Obj)}{σ:St}{H0:Hp}{s:Ac}{l:Addr}{Q:VK}
end
section
variable {X:Cx}{p pos kpos kp:Pos}{e:Expr}{te:TE}{d:Int}{kj:Nat}
end
end L2
namespace HT
open PySem PyProof.Rows
variable {prog:AB}{w:AV}{A:AF}{E:Value->Ac->Prop}{s:Ac}
theorem zc2{sl:Addr}{t:Tok}{n:Nat}{Q:Int × Int × Nat -> Ac -> Prop}(hs:s.heap.IsSliceOf sl .none .none (.int (-1) t))
  (h:Q ((n:Int)-1,-1,n) s):Am (Aw prog w) A (CG (.ref sl) (pure ((n:Nat):Int))) Q E s:=by
 obtain⟨os,hos,hcs,hds⟩:=id hs;unfold CG Builtin.Slice.sliceFields;refine Ab (Ab (CO hos hds (x:=.none) rfl (Ab (CO hos hds (x:=.none) rfl (Ab (CO hos hds (x:=.int (-1) t) rfl (Af ?_)))))));refine Ab (slicePart_int ?_);show Am _ _ (if ((-1:Int) == 0)=true then _ else _) _ _ s;rw[if_neg (by decide)];refine Ab (slicePart_none (Ab (slicePart_none (Ab (Af ?_)))));refine Af ?_
 have e:BI ((n:Int)-1) (-1) (-1)=n:=by
  unfold BI;rw[if_neg (by decide)]
  by_cases h0:(n:Int)-1 > -1
  .rw[if_pos h0,show ((n:Int)-1 - -1-1) / (- -1)+1=(n:Int) by rw[Int.neg_neg,Int.ediv_one];lia];rfl
  .rw[if_neg h0];show 0=n;lia
 show Q ((n:Int)-1,-1,BI ((n:Int)-1) (-1) (-1)) s;rw[e];exact h
theorem zkl(l:List Value):((AO l.length).filterMap λ(k:Nat)=>l.toArray[((l.length:Int)-1+(k:Int)*(-1)).toNat]?)=l.reverse:=by
 have e:∀ks:List Nat,(∀k∈ks,k<l.length)->(ks.filterMap λ(k:Nat)=>l.toArray[((l.length:Int)-1+(k:Int)*(-1)).toNat]?)=ks.map λk=>l.reverse.getD k Value.none:=by
  intro ks
  induction ks with
  |nil=>intro _;rfl
  |cons k r ih =>
   intro hk;have hk':=hk k Az;have a:((l.length:Int)-1+(k:Int)*(-1)).toNat=l.length-1-k:=by lia
   have b:l.toArray[((l.length:Int)-1+(k:Int)*(-1)).toNat]?=some (l.reverse.getD k Value.none):=by rw[a,AC,List.getElem?_reverse hk',List.getElem?_toArray,Aa (by lia)];rfl
   rw[BU,b,AR,ih λq hq=>hk q (Ar _ hq)]
 rw[e _ λk hk=>Bp.mp hk]
 apply List.ext_getElem
 .simp
 .intro i h1 h2;simp[show i<l.length by simpa using h1]
theorem getItem_tuple_revN{t sl:Addr}{l:List Value}{tk:Tok}{Q:Value -> Ac -> Prop}(ht:IsTup s.heap t l.toArray)(hs:s.heap.IsSliceOf sl .none .none (.int (-1) tk))(hz:l.length <= sizeLine)
  (h:Q (.ref s.heap.objs.size) { s with heap:=s.heap.push { cls:=.type "tuple",data:=.seq l.reverse.toArray } }):Am (Aw prog w) A (getItem (.ref t) (.ref sl)) Q E s:=by
 obtain⟨os,hos,hcs,hds⟩:=id hs;have hTs:s.TypeIs (.ref sl) "slice":=⟨os,hos,hcs⟩;unfold getItem
 try with_reducible refine A9 ?_
 first |refine Ab (Af ?_) |skip
 refine Ab (wpAny_sequenceKey ht.typeIs (by decide) ?_)
 refine Ab (Cn (name:=BW "__getitem__") ht.typeIs A3
  (C4 A3 ht.typeIs entry_tuple_getitem ?_ (args_tuple_getitem _ _)))
 show Am _ _ (Dy (.ref t) >>= _) _ _ s;refine Ab (tupleItemsOf_ ht ?_);refine Ab (wpAny_typeOf hTs ?_);rw[if_pos (by decide)];refine Ab (zc2 (n:=l.toArray.size) hs ?_);show Am _ _ (if ((l.toArray.size:Int)-1 == 0 && (-1:Int) == 1 && l.toArray.size == l.toArray.size)=true then _ else _) _ _ s;rw[if_neg (by simp)]
 have ep:((AO l.toArray.size).filterMap λ(k:Nat)=>l.toArray[((l.toArray.size:Int)-1+(k:Int)*(-1)).toNat]?).toArray=l.reverse.toArray:=by rw[As,zkl]
 have htake:sizeOk (.seq l.reverse.toArray):=by show l.reverse.toArray.size<=sizeLine;rw[As,List.length_reverse];exact hz
 show Am _ _ (Bl ((AO l.toArray.size).filterMap λ(k:Nat)=>l.toArray[((l.toArray.size:Int)-1+(k:Int)*(-1)).toNat]?).toArray >>= _) _ _ s;rw[ep]
 first
  |exact Ab (m:=Bl _) (Bh (Af ⟨_,rfl,Af h⟩) htake)
  |exact Ab (m:=Bl _) (Bh (Ab (Af (Af ⟨_,rfl,Af h⟩))) htake)
  |exact Ab (Ab (m:=Bl _) (Bh (Af (Af ⟨_,rfl,Af h⟩)) htake))
end HT
namespace L2
open PySem PySem.Spec PyProof.Rows
section
variable {X:Cx}{e es:Expr}{te ts:TE}{pos p2:Pos}
noncomputable def tRevT(K:W.Frag)(te ts:TE):TE:=λσ H Q=>te σ H λx H1=>ts σ H1 λy H2=>y=.int (-1)/\∃a xs,x=.ref a/\SqT K H2 a xs/\∀p,H2 p=none->Q (.ref p) (upd H2 p (.tup xs.reverse))
theorem zjf(he:PE X e te)(hs:PE X es ts):PE X (.Subscript e (.Slice none none (some es) p2) pos) (tRevT X.K te ts):=by
 intro pins s σ H Q I h;refine Subscript_ (thn (he pins s σ H _ I h) λv s1 ⟨x,H1,I1,r1,q1⟩=>?_);refine wpAny_Slice ?_
 rw[evalPart_none,evalPart_some];refine Af (Af ?_);refine thn (hs pins s1 σ H1 _ I1 q1) λvs s3 ⟨y,H3,I3,r3,q3⟩=>?_
 obtain⟨rfl,a,xs,rfl,hx,q⟩:=q3;obtain⟨tk,rfl⟩:=r3
 cases r1
 have I4:Inv X pins σ H3 { s3 with heap:=s3.heap.push { cls:=.type "slice",data:=.fields #[.none,.none,.int (-1) tk] } }:=I3.kept (t':=s3.toks) λb ob q=>Ae _ q
 obtain⟨its,r,ht,hz⟩:=I4.tuple hx;have hlen:=r.length;show Am (Aw X.prog X.w) X.A (subscriptTail e (.Slice none none (some es) p2) (.ref a) (.ref s3.heap.objs.size)) (EP X pins σ Q) X.xe { s3 with heap:=s3.heap.push { cls:=.type "slice",data:=.fields #[.none,.none,.int (-1) tk] } };refine tail_any (ops:=[.ref a,.ref s3.heap.objs.size]) ht.typeIs A3.lookup (HT.getItem_tuple_revN ht (Heap.IsSliceOf.new ..) (by lia) ?_) (by with_unfolding_all rfl);generalize s3.heap.push { cls:=.type "slice",data:=.fields #[.none,.none,.int (-1) tk] }=h4 at *;refine⟨.ref _,_,I4.laid (t':=s3.toks) (o:=.tup xs.reverse) (λb ob q=>Ae _ q) (Aj _) ?_,rfl,q _ (I4.hok.fresh (Aj _))⟩;exact⟨by rw[List.length_reverse];exact hz,_,r.reverse,IsTup.new _ _⟩
end
end L2
namespace HT
open PySem PyProof.Rows
section
open PySem.SeqAt
open PySem.AutoSeq1 (wpAny_loadPart')
open PySem.MeetsSeq PySem.MeetsSeq2 PySem.MeetsSeq3
end
section
variable {prog:AB}{w:AV}{A:AF}{E:Value->Ac->Prop}{s:Ac}
end
end HT
namespace L2
open PySem PySem.Spec PyProof.Rows
section
variable {X:Cx}{pos:Pos}
noncomputable def zlG:V->List V->Hp->VK->Prop:=λx vs H Q=>∃l,∃os:List (Option Int),x=.ref l/\vs=[.non]/\H l=some (.lst (os.map λo=>o.elim V.non V.int))/\Q (.int (os.countP (·.isNone):Nat)) H
theorem zjs:MtM X "list.count" zlG:=by
 intro pins s σ H x vs v us Q I rx rv h;obtain⟨l,os,rfl,rfl,hH,q⟩:=h
 cases rx
 obtain⟨u,rfl,ru⟩:=rv.one
 cases (show u=Value.none from ru)
 obtain⟨z,its,n,r,hl,e⟩:=I.lstM hH
 have hall:∀(os:List (Option Int)) (its:List Value),Vals (os.map λo=>o.elim V.non V.int) its->its.countP (λy=>y == Value.none)=os.countP (·.isNone)/\∀y∈its,y=.none∨∃a t,y=.int a t:=by
  intro os
  induction os with
  |nil=>intro its r;cases r;exact⟨rfl,by simp⟩
  |cons o os ih =>
   intro its r
   cases r with
   |cons h t =>
    obtain⟨i1,i2⟩:=ih _ t
    cases o with
    |none =>
     cases (show _=Value.none from h)
     refine⟨by rw[List.countP_cons,List.countP_cons,i1];rfl,λy hy=>?_⟩;rcases At.mp hy with rfl |hy
     .exact .inl rfl
     .exact i2 y hy
    |some a =>
     obtain⟨tk,rfl⟩:=(show ∃t,_=Dm a t from h);refine⟨by rw[List.countP_cons,List.countP_cons,i1];rfl,λy hy=>?_⟩;rcases At.mp hy with rfl |hy
     .exact .inr ⟨a,tk,rfl⟩
     .exact i2 y hy
 obtain⟨c1,c2⟩:=hall os its r;refine CZ F.slot_list_count ⟨_,e,rfl⟩ F.entry_list_count (F.args_list_count_2 _ _) (SeqAt.list_countAt l its.toArray n _ _ .none (λy=>y == Value.none)) ⟨e,λy hy=>?_,?_⟩
 .have hy':y∈its:=by simpa using hy
  rcases c2 y hy' with rfl |⟨a,t,rfl⟩
  .exact SeqAt.EqAt.same _
  .exact SeqAt.EqAt.int_none a t
 .refine⟨.int _,H,I.tok _,⟨_,rfl⟩,?_⟩;show Q (.int (its.toArray.toList.countP (λy=>y == Value.none):Nat)) H;rw[List.toList_toArray,c1];exact q
end
section
variable {prog:AB}{w:AV}{A:AF}{E:Value->Ac->Prop}{s:Ac}{it d:Addr}{i ep:Nat}{es:Array DictEntry}{od:Obj}
theorem zf2{Q:Value -> Ac -> Prop}(lo:(d == BS)=false)(g:s.heap.get? d=some od)(x:od.ExactDict)(dat:od.data = .dict es ep)
  (k:Q (.ref s.heap.objs.size) { s with heap:=s.heap.push { cls:=.type "dict_keyiterator",data:=.fields #[.ref d,.int 0 0,.int es.size 0,.int ep 0] } }):Am (Aw prog w) A (pyIter (.ref d)) Q E s:=by
 have ty:s.TypeIs (.ref d) "dict":=⟨od,g,x.1⟩;refine wpAny_pyIter_slot ty PySem.F.slot_dict_iter (C4 PySem.F.slot_dict_iter ty PySem.F.entry_dict_iter ?_ (PySem.F.args_dict_iter_1 _));unfold Builtin.«dict.__iter__» Builtin.Dict.dictSlotNone;refine Ab (Ab (wpAny_notOrdered_dict ty ?_));show Am (Aw prog w) A.in1 (pure (Ao d)) _ _ s;refine Af ?_
 show Am (Aw prog w) A.in1 (Builtin.Dict.showsAll d >>= _) _ _ s;unfold Builtin.Dict.showsAll;rw[if_neg (show ¬ (d == BS)=true by rw[lo];decide)];refine Ab (Af (Ab (wpAny_dictEntries g dat (Ab (wpAny_dictEpoch g dat (Ab (Bh (Af ⟨_,rfl,"dict_keyiterator",_,⟨_,Av _ rfl,rfl⟩,PySem.F.slot_dict_keyiterator_next.lookup,?_⟩))))))));simpa[Cr]using k
theorem zf1{e:DictEntry}{Q:Option Value -> Ac -> Prop}(st:s.heap.IsKeyIter it d i es.size ep)(g:s.heap.get? d=some od)(dat:od.data = .dict es ep)(he:es[i]? = some e)
  (k:∀h',h'.IsKeyIter it d (i+1) es.size ep->Ce it s.heap h'->Q (some e.key) { s with heap:=h' }):Am (Aw prog w) A (pyNext (.ref it)) Q E s:=by
 obtain⟨o,go,oc,odt⟩:=id st;unfold pyNext;refine Ab (wpAny_attempt (Cn (name:=BW "__next__") st.typeIs BY (C4 BY st.typeIs DQ ?_ (DL _))));refine Ab (Af (Ab (Ab ?_)));refine Ab (Ck st.typeIs (Af (Ab (wpAny_fieldsOf go odt ?_))));simp only[show Builtin.Dict_items.ownsTuple "dict_keyiterator" = false by decide,BA,if_false];show Am (Aw prog w) _ (if (Ao d == Value.none)=true then _ else _) _ _ s;rw[if_neg (show ¬ (Ao d == Value.none)=true by simp)];refine Ab (Af (Ab (wpAny_dictEntries g dat ?_)));rw[if_neg (show ¬ ((es.size:Int) != (es.size:Int))=true by simp)];refine Ab (Af (Ab (wpAny_dictEpoch g dat ?_)));rw[if_neg (show ¬ ((ep:Int) != (ep:Int))=true by simp)];refine Af ?_
 simp only[show ¬ ((i:Int)<0) by lia,if_false,Cm,he];refine Ab (Ab (Ck st.typeIs (Af ?_)));refine Ab (wpAny_isOneOf_keyiter st.typeIs ?_);show Am (Aw prog w) _ (setField (.ref it) 1 (Cr ((i:Int)+1)) >>= _) _ _ s;refine Ab (wpAny_setField go odt (by simp) ?_)
 have st':(s.heap.update it (Ds (·.setIfInBounds 1 (Cr ((i:Int)+1))))).IsKeyIter it d (i+1) es.size ep:=by refine⟨_,BN _ go (Obj.isFreed_of_fields (D1 odt _)),(Obj.cls_mapFields ..).trans oc,?_⟩;rw[D1 odt];simp[Cr]
 refine Ab (A9 (Ab (wpAny_isOneOf_keyiter (s:={ s with heap:=s.heap.update it (Ds (·.setIfInBounds 1 (Cr ((i:Int)+1)))) }) st'.typeIs ?_)));show Am (Aw prog w) _ (pure e.key) _ _ _;exact Af (Af ⟨_,rfl,Af (k _ st' (BC ..))⟩)
theorem zhv{Q:Option Value -> Ac -> Prop}(hh:A.handled=none)(st:s.heap.IsKeyIter it d i es.size ep)(g:s.heap.get? d=some od)(dat:od.data = .dict es ep)(he:es.size <= i)
  (k:∀h',Heap.ExtBut it s.heap h'->Q none { s with heap:=h' }):Am (Aw prog w) A (pyNext (.ref it)) Q E s:=by
 obtain⟨o,go,oc,odt⟩:=id st;unfold pyNext;refine Ab (wpAny_attempt (Cn (name:=BW "__next__") st.typeIs BY (C4 BY st.typeIs DQ ?_ (DL _))));refine Ab (Af (Ab (Ab ?_)));refine Ab (Ck st.typeIs (Af (Ab (wpAny_fieldsOf go odt ?_))));simp only[show Builtin.Dict_items.ownsTuple "dict_keyiterator" = false by decide,BA,if_false];show Am (Aw prog w) _ (if (Ao d == Value.none)=true then _ else _) _ _ s;rw[if_neg (show ¬ (Ao d == Value.none)=true by simp)];refine Ab (Af (Ab (wpAny_dictEntries g dat ?_)));rw[if_neg (show ¬ ((es.size:Int) != (es.size:Int))=true by simp)];refine Ab (Af (Ab (wpAny_dictEpoch g dat ?_)));rw[if_neg (show ¬ ((ep:Int) != (ep:Int))=true by simp)];refine Af ?_
 simp only[show ¬ ((i:Int)<0) by lia,if_false,Cm,Array.getElem?_eq_none he];refine Ab (Ab (Ck st.typeIs (Af ?_)));show Am (Aw prog w) _ (setField (.ref it) 0 .none >>= _) _ _ s;refine Ab (wpAny_setField go odt (by simp) ?_);show Am (Aw prog w) _ (newExc (.type "StopIteration") [] >>= _) _ _ _;refine Ab ?_
 simp only[newExc,newTuple];refine Ab (Bh ?_ (by size_fits));refine Ab (m:=firstArgMember _ _) (wpAny_of_eq (a:=Value.none) (by first |rfl | (simp only[firstArgMember];rfl)) (Bh ?_ (by size_fits)));simp only[raiseNew];refine Ab (wpAny_handled ?_);rw[show A.in1.handled=none from hh];refine Ab (Af (wpAny_throw (?_:Am _ _ _ _ _ _)));exact Ab (wpAny_isInstance (b:=true) (T:="StopIteration") ⟨_,Av _ rfl,rfl⟩ isSubtype_stop (Af (k _ (((BC ..).extBut.push _).push _))))
end
noncomputable def Itd(a:Addr)(od:Obj):It :=
 ⟨λi H=>∃kvs,H a=some (.frz od (.dT kvs))/\i<kvs.length,λi H x H'=>H'=H/\∀kvs,H a=some (.frz od (.dT kvs))->∃b k v,x=.ref b/\kvs[i]?=some (k,v)/\H b=some (.tup (k.map kV)),λi H=>∃kvs,H a=some (.frz od (.dT kvs))/\kvs.length<=i⟩
theorem Paired.at'{α β:Type}{F:α->β->Prop}:∀{l:List α}{m:List β},Paired F l m->∀{i:Nat}{x:α},l[i]?=some x->∃y,m[i]?=some y/\F x y
 |_,_,.cons r t,0,x,h=>by cases h;exact⟨_,rfl,r⟩
 |_,_,.cons r t,i+1,x,h=>Paired.at' t h
theorem ziw{P:AB}{w:AV}{K:W.Frag}{tg:Expr}(a it:Addr)(od:Obj){es:Array DictEntry}{ep:Nat}(dat:od.data=.dict es ep):Turn P w K tg (Itd a od) [it] it (λi h=>h.IsKeyIter it a i es.size ep) where
 mem:=by simp
 obj:=λi h st b hb=>by
  have e:b=it:=by simpa using hb
  subst e;obtain⟨o,e,c,d⟩:=st;exact⟨o,e,λv z=>by rw[d]at z;cases z⟩
 keep:=λi h h' st k=>st.at λo e=>k it (by simp) o e
 item:=by
  intro X hP hw hK hc i pins s σ H E I hf st hg;subst hP hw hK;obtain⟨kvs,e,hi⟩:=hg;obtain⟨g,z,y,xs,r,o,es',ep',h1,h2,h3,h4,h5⟩:=(show ObjOk X.prog X.w H s.heap a (.frz od (.dT kvs)) from I.hok a _ e);rw[g]at h1
  cases h1
  rw[dat]at h3
  cases h3
  obtain⟨q,hq,q1,q2,q3⟩:=Paired.at' r (Aa hi);have he:es[i]?=some (entryOfKey (D3 (zaA X.prog X.w)) q):=by rw[entry_at h4,hq];rfl
  obtain⟨f0,f1,f2,f3,f4,f5⟩:=hf it (by simp);refine zf1 st g dat he λh' st' sb=>?_
  have I1:Inv X pins σ H { s with heap:=h' }:=I.turned (t':=s.toks) (λb o hb e=>(sb.2 b hb).trans e) f0 f1 f3 f4 f5;obtain⟨o,e',c,dd⟩:=id st';refine⟨_,rfl,go_of (s:={ s with heap:=h' }) e' c dd (by decide) ⟨.ref q.2.1,H,I1,rfl,⟨rfl,λks hk=>?_⟩,st',λb hb=>(hf b hb).1⟩⟩;rw[e]at hk
  cases hk
  exact⟨q.2.1,kvs[i].1,kvs[i].2,rfl,Aa hi,q2⟩
 done:=by
  intro X hP hw hK hc i pins s σ H E I hf st hg;subst hP hw hK;obtain⟨kvs,e,hi⟩:=hg;obtain⟨g,z,y,xs,r,o,es',ep',h1,h2,h3,h4,h5⟩:=(show ObjOk X.prog X.w H s.heap a (.frz od (.dT kvs)) from I.hok a _ e);rw[g]at h1
  cases h1
  rw[dat]at h3
  cases h3
  obtain⟨f0,f1,f2,f3,f4,f5⟩:=hf it (by simp);exact zhv (I.ok.hd hc) st g dat (by rw[size_of_entries h4,<- CV r];exact hi) λh' eb=>⟨rfl,I.turned (t':=s.toks) (λb o hb e=>eb b o hb e) f0 f1 f3 f4 f5⟩
 self:=λ_ _ _ _ _ st h=>wpAny_pyIter_keyiter st h
section
variable {X:Cx}{tg:Expr}
noncomputable def zmT(tl:TE):TI:=λσ H R=>tl σ H λx H1=>∃a kvs,x=.ref a/\H1 a=some (.dT kvs)/\∀od,R (Itd a od) (upd H1 a (.frz od (.dT kvs)))
theorem zkq{l:Expr}{tl:TE}(hl:PE X l tl):PI X tg l (zmT tl):=by
 intro pins s σ H R I h;refine thn (hl pins s σ H _ I h) λv s1 ⟨x,H1,I1,r1,q1⟩=>?_
 obtain⟨a,kvs,e,hd,q⟩:=q1;subst e
 cases r1
 obtain⟨z,y,xs,r,od,es,ep,h1,h2,h3,h4,h5⟩:=(show ObjOk X.prog X.w H1 s1.heap a (.dT kvs) from I1.hok a _ hd)
 have I2:Inv X pins σ (upd H1 a (.frz od (.dT kvs))) s1:=I1.write (h':=s1.heap) (t':=s1.toks) (x:=a) (e:=a) (by rw[hd];exact BX) (.inl rfl) (λb u _ g=>g) ⟨od,h1⟩
  ⟨h1,z,y,xs,KT.keeps r (λc ys ec=>by rw[zai (ne_of ec hd (λz=>nomatch z))];exact ec),od,es,ep,h1,h2,h3,h4,h5⟩
 refine zf2 y h1 h2 h3 ?_
 refine⟨s1.heap.objs.size,[s1.heap.objs.size],_,_,_,rfl,I2.kept (t':=s1.toks) λb o e=>Ae _ e,ziw a _ od h3,⟨_,Av _ rfl,rfl,rfl⟩,λb hb=>?_,q od⟩;have e:b=s1.heap.objs.size:=by simpa using hb
 subst e;exact I2.fpOk (Aj _) (I2.hok.fresh (Aj _))
end
theorem zkI{a:Addr}{od:Obj}{kvs:List (List Key × V)}{g:TG}{tb:TS}{D:Ends}{σ : St}{H:Hp}(Pv:Nat -> St -> Hp -> Prop)(h0:Pv 0 σ H)(hl:∀i σ H, i <= kvs.length -> Pv i σ H -> H a=some (.frz od (.dT kvs)))
  (hs:∀i b k v σ H,kvs[i]?=some (k,v)->H b=some (.tup (k.map kV))->Pv i σ H->g (.ref b) σ H λσ2 H2=>tb { D with nx:=Pv (i+1),ct:=Pv (i+1),bk:=D.nx } σ2 H2) (hd:∀ σ H,Pv kvs.length σ H->D.nx σ H) :
  ∃W:Nat->Nat->St->Hp->Prop,(∃m,W 0 m σ H)/\∀i m σ H,W i m σ H ->
   ((Itd a od).stop i H/\D.nx σ H)∨((Itd a od).go i H/\∃N:St->Hp->Prop,(∀ σ' H',N σ' H'->∃m',m'<m/\W (i+1) m' σ' H')/\∀x H',(Itd a od).yld i H x H'->g x σ H' λσ2 H2=>tb { D with nx:=N,ct:=N,bk:=D.nx } σ2 H2):=by
 refine⟨λi m σ H=>m=kvs.length-i/\i<=kvs.length/\Pv i σ H,⟨kvs.length,by simp,Be _,h0⟩,?_⟩;rintro i m σ H ⟨rfl,hi,p⟩;have q:=hl i σ H hi p
 by_cases hlt:i<kvs.length
 .refine .inr ⟨⟨kvs,q,hlt⟩,Pv (i+1),λσ' H' p'=>⟨kvs.length-(i+1),by lia,rfl,hlt,p'⟩,λx H' y=>?_⟩;obtain⟨e,y⟩:=y;subst e;obtain⟨b,k,v,rfl,h1,h2⟩:=y kvs q;exact hs i b k v σ _ h1 h2 p
 .have e:i=kvs.length:=by lia
  subst e;exact .inl ⟨⟨kvs,q,Aj _⟩,hd σ H p⟩
section
variable {prog:AB}{w:AV}{K:Type} [DecidableEq K] {knd:HeapKind prog w K}{A:AF}{E:Value->Ac->Prop}{s:Ac}{d a:Addr}{xs:List (K×Addr×Value)}{k:K}
end
section
variable {X:Cx}{o e f:Expr}{apos cpos:Pos}{td ty tx:TE}
end
end L2
namespace RP
theorem Closed.has1{C:Cell->Bool}{b:Edge}{es:List Edge}(h:Closed C b es):∃e∈es,e.w=1:=by
 apply BJ
 intro hno;have hno':∀e∈es,e.w≠1:=λe he z=>hno ⟨e,he,z⟩
 obtain⟨s1,s2⟩:=h.sums;obtain⟨hc,_⟩:=h;have hpos:0<es.length:=(Ad.mp hc.1).1
 have z:∀e∈es,dy e.w=0:=by
  have:=zeP (l:=(es.map λe=>dy e.w).map λx=>-x) (λx hx=>by
   obtain⟨y,hy,rfl⟩:=Aq.mp hx;obtain⟨e,he,rfl⟩:=Aq.mp hy;have:=hno' e he;rcases way4 (hc.2.2.1 e he).1 with q |q |q |q
   .rw[q];decide
   .exact absurd q this
   .rw[q];decide
   .rw[q];decide) (by rw[zjp,s2];rfl)
  intro e he;have:=this (-(dy e.w)) (Aq.mpr ⟨_,Aq.mpr ⟨e,he,rfl⟩,rfl⟩);lia
 have even:∀e∈es,e.w=0∨e.w=2:=λe he=>by
  have hz:=z e he;rcases way4 (hc.2.2.1 e he).1 with q |q |q |q
  .exact .inl q
  .rw[q]at hz;exact absurd hz (by decide)
  .exact .inr q
  .rw[q]at hz;exact absurd hz (by decide)
 have same:∀(i:Nat) (e:Edge),es[i]?=some e->e.w=b.w:=by
  intro i
  induction i with
  |zero=>intro e he;have:=hc.1;rw[he]at this;cases this;rfl
  |succ i ih =>
   intro e he;have hi:i+1<es.length:=(Ad.mp he).1;have h1:es[i]?=some es[i]:=Aa (by lia)
   have hn:=hc.2.1 i _ e h1 he;have m1:es[i]∈es:=AZ _;have w1:=ih _ h1;have o1:=even _ m1;have o2:=even _ (Ag he);have:=zkV (hc.2.2.1 _ m1);rw[<- hn]at this;lia
 have all:∀x∈es.map (λe=>dx e.w),x=dx b.w:=λx hx=>by obtain⟨e,he,rfl⟩:=Aq.mp hx;obtain⟨i,hi,ei⟩:=Ay he;rw[same i e (by rw[Aa hi,ei])]
 have t:=zgd _ _ all;rw[s1,Ai]at t;have ob:b.w=0∨b.w=2:=even b (Ag hc.1)
 have d1:dx b.w=1∨dx b.w=-1:=by rcases ob with q |q <;> rw[q] <;> decide
 rcases d1 with q |q <;> rw[q]at t <;> lia
theorem box63{w h:Nat}(hb:w*h<=120):w*((h+1) / 2)<=63∨h*((w+1) / 2)<=63:=by
 have:h<=10∨w<=10:=by
  by_cases h1:h<=10
  .exact .inl h1
  .by_cases h2:w<=10
   .exact .inr h2
   .have:=Nat.mul_le_mul (show 11<=w by lia) (show 11<=h by lia);lia
 rcases this with h1 |h1
 .have:h=0∨h=1∨h=2∨h=3∨h=4∨h=5∨h=6∨h=7∨h=8∨h=9∨h=10:=by lia
  rcases this with rfl |rfl |rfl |rfl |rfl |rfl |rfl |rfl |rfl |rfl |rfl <;> lia
 .have:w=0∨w=1∨w=2∨w=3∨w=4∨w=5∨w=6∨w=7∨w=8∨w=9∨w=10:=by lia
  rcases this with rfl |rfl |rfl |rfl |rfl |rfl |rfl |rfl |rfl |rfl |rfl <;> lia
noncomputable def grid(w h:Nat):List (Nat×Nat):=(AO w).flatMap λi=>(AO h).map λj=>(i,j)
theorem zhr{w h:Nat}{p:Nat×Nat}:p∈grid w h ↔ p.1<w/\p.2<h:=by
 unfold grid;simp only[List.mem_flatMap,List.mem_map,List.mem_range];constructor
 .rintro⟨i,hi,j,hj,rfl⟩;exact⟨hi,hj⟩
 .rintro⟨h1,h2⟩;exact⟨p.1,h1,p.2,h2,rfl⟩
theorem ziB(l:List Nat)(h:Nat):(l.map λ_=>h).sum=l.length*h:=by
 induction l with
 |nil=>simp
 |cons a r ih=>rw[AR,BQ,ih,A7,Nat.succ_mul,Nat.add_comm]
theorem zd2(w h:Nat):(grid w h).length=w*h:=by unfold grid;rw[List.length_flatMap];simp only[Ai,BH];rw[ziB,BH]
theorem zd0{α β:Type}{f:α->β}:∀{l:List α},l.Nodup->(∀a∈l,∀b∈l,f a=f b->a=b)->(l.map f).Nodup:=λ{l} hn hf=>by unfold List.Nodup at *;rw[List.pairwise_map];exact hn.imp_of_mem λha hb hne e=>hne (hf _ ha _ hb e)
end RP
namespace L2
open PySem PySem.Spec PyProof.Rows
theorem zdf{bt:Nat->Nat->Bool}:∀n,argBest bt n<=n
 | 0=>Aj _
 |n+1=>by
  show (if bt (n+1) (argBest bt n)=true then n+1 else argBest bt n)<=n+1;split
  .exact Aj _
  .exact Nat.le_succ_of_le (zdf n)
theorem zde{v:Nat->Int}:∀(n j:Nat),j<=n->v (argBest (λi j=>decide (v i<v j)) n)<=v j
 | 0,j,h=>by
  obtain rfl:j=0:=by lia
  exact D8 _
 |n+1,j,h=>by
  show v (if decide (v (n+1)<v (argBest (λi j=>decide (v i<v j)) n))=true then n+1 else argBest (λi j=>decide (v i<v j)) n)<=v j
  by_cases hb:v (n+1)<v (argBest (λi j=>decide (v i<v j)) n)
  .rw[if_pos (decide_eq_true hb)];rcases AX n j with q |q
   .obtain rfl:j=n+1:=by lia
    exact D8 _
   .have:=zde (v:=v) n j q;lia
  .rw[if_neg (by simpa using hb)];rcases AX n j with q |q
   .obtain rfl:j=n+1:=by lia
    lia
   .exact zde n j q
theorem zdg{v:Nat->Int}:∀(n j:Nat),j<=n->v j<=v (argBest (λi j=>decide (v i > v j)) n)
 | 0,j,h=>by
  obtain rfl:j=0:=by lia
  exact D8 _
 |n+1,j,h=>by
  show v j<=v (if decide (v (n+1) > v (argBest (λi j=>decide (v i > v j)) n))=true then n+1 else argBest (λi j=>decide (v i > v j)) n)
  by_cases hb:v (n+1) > v (argBest (λi j=>decide (v i > v j)) n)
  .rw[if_pos (decide_eq_true hb)];rcases AX n j with q |q
   .obtain rfl:j=n+1:=by lia
    exact D8 _
   .have:=zdg (v:=v) n j q;lia
  .rw[if_neg (by simpa using hb)];rcases AX n j with q |q
   .obtain rfl:j=n+1:=by lia
    lia
   .exact zdg n j q
theorem zjI:∀(ns:List Int) (its:List Value),Vals (ns.map V.int) its->∃ts:Array (Int×Tok),its.toArray=intItems ts/\ts.toList.map (·.1)=ns:=by
 intro ns its r
 have:∀(ns:List Int) (its:List Value),Vals (ns.map V.int) its->∃ts:List (Int×Tok),its=ts.map (λp=>Dm p.1 p.2)/\ts.map (·.1)=ns:=by
  intro ns
  induction ns with
  |nil=>intro its r;cases r;exact⟨[],rfl,rfl⟩
  |cons n ns ih =>
   intro its r
   cases r with
   |cons h t =>
    obtain⟨ts,h1,h2⟩:=ih _ t;obtain⟨tk,rfl⟩:=(show ∃t,_=Dm n t from h);exact⟨(n,tk)::ts,by rw[h1];rfl,by rw[AR,h2]⟩
 obtain⟨ts,h1,h2⟩:=this ns its r;exact⟨ts.toArray,by rw[h1];simp[intItems],by simpa using h2⟩
section
variable {X:Cx}
noncomputable def IsMin(ns:List Int)(m:Int):Prop:=m∈ns/\∀n∈ns,m<=n
noncomputable def IsMax(ns:List Int)(m:Int):Prop:=m∈ns/\∀n∈ns,n<=m
theorem zgg (hh:X.calm=true):CallR X (.builtin "min") (λxs H Q=>∃(p:Addr) (ns:List Int),xs=[.ref p]/\SqL X.K H p (ns.map V.int)/\ns≠[]/\∀m,IsMin ns m->Q (.int m) H):=by
 intro pins s σ H xs us Q I r h;obtain⟨p,ns,rfl,hq,hne,q⟩:=h;obtain⟨u,rfl,ru⟩:=vals1 r
 cases (show u=Ao p from ru)
 obtain⟨its,rv,pl,hz⟩:=I.list hq;obtain⟨ts,h1,h2⟩:=zjI ns its rv;have hl1:=pl.isList;rw[h1]at hl1;have hgl:ns.length=ts.size:=by rw[<- h2];simp
 have hpos:0<ns.length:=List.length_pos_iff.mpr hne;have gd:∀j,numAt ts j=ns.getD j 0:=λj=>by rw[numAt_eq,h2]
 refine min_intList (I.ok.hd hh) hl1 (by lia) λv h' tk hv hk=>?_
 obtain⟨t,rfl⟩:=intItems_at hv;have hle:=zdf (bt:=λi j=>decide (numAt ts i<numAt ts j)) (ts.size-1);refine⟨.int _,H,I.kept hk,⟨_,rfl⟩,q _ ⟨?_,λn hn=>?_⟩⟩
 .rw[gd,AC,Aa (by lia)];exact AZ _
 .obtain⟨j,hj,rfl⟩:=Ay hn;have:=zde (v:=numAt ts) (ts.size-1) j (by lia);rw[gd j,AC,Aa hj]at this;exact this
theorem zgh (hh:X.calm=true):CallR X (.builtin "max") (λxs H Q=>∃(p:Addr) (ns:List Int),xs=[.ref p]/\SqL X.K H p (ns.map V.int)/\ns≠[]/\∀m,IsMax ns m->Q (.int m) H):=by
 intro pins s σ H xs us Q I r h;obtain⟨p,ns,rfl,hq,hne,q⟩:=h;obtain⟨u,rfl,ru⟩:=vals1 r
 cases (show u=Ao p from ru)
 obtain⟨its,rv,pl,hz⟩:=I.list hq;obtain⟨ts,h1,h2⟩:=zjI ns its rv;have hl1:=pl.isList;rw[h1]at hl1;have hgl:ns.length=ts.size:=by rw[<- h2];simp
 have hpos:0<ns.length:=List.length_pos_iff.mpr hne;have gd:∀j,numAt ts j=ns.getD j 0:=λj=>by rw[numAt_eq,h2]
 refine max_intList (I.ok.hd hh) hl1 (by lia) λv h' tk hv hk=>?_
 obtain⟨t,rfl⟩:=intItems_at hv;have hle:=zdf (bt:=λi j=>decide (numAt ts i > numAt ts j)) (ts.size-1);refine⟨.int _,H,I.kept hk,⟨_,rfl⟩,q _ ⟨?_,λn hn=>?_⟩⟩
 .rw[gd,AC,Aa (by lia)];exact AZ _
 .obtain⟨j,hj,rfl⟩:=Ay hn;have:=zdg (v:=numAt ts) (ts.size-1) j (by lia);rw[gd j,AC,Aa hj]at this;exact this
end
end L2
namespace HT
open PySem PyProof.Rows
variable {prog:AB}{w:AV}{A:AF}{E:Value->Ac->Prop}{s:Ac}
end HT
namespace L2
open PySem PySem.Spec PyProof.Rows
section
variable {X:Cx}{e es:Expr}{te ts:TE}{pos p2:Pos}
end
section
variable {prog:AB}{w:AV}{A:AF}{E:Value->Ac->Prop}{s:Ac}
end
section
variable {X:Cx}
end
section
variable {X:Cx}
end
section
variable {prog:AB}{w:AV}{A:AF}{E:Value->Ac->Prop}{s:Ac}
end
section
variable {X:Cx}{pins:List (Addr×Obj)}{σ:St}
end
section
variable {X:Cx}{l m:Expr}{t:TA}{p p2 pos pos2:Pos}
end
theorem zj8:∀{xs:List V}{us:List Value},xs.length=us.length->(∀(i:Nat) x u,xs[i]?=some x->us[i]?=some u->RelV x u)->Vals xs us
 |[],[],_,_=>.nil
 |x::xs,u::us,h,k=>.cons (k 0 x u rfl rfl) (zj8 (by simpa using h) λi y v h1 h2=>k (i+1) y v (by simpa using h1) (by simpa using h2))
 |[],_::_,h,_=>by cases h
 |_::_,[],h,_=>by cases h
section
variable {X:Cx}{a:Expr}{t:TA}{p p2 pos pos2:Pos}
end
section
variable {X:Cx}
end
theorem zit{P:AB}{w:AV}{K:W.Frag}{tg:Expr}(it:Addr)(lo:Int)(n:Nat):Turn P w K tg (Itr lo n) [it] it (λi h=>IsLongIter h it (lo+(i:Nat)*1) ((n:Int)-(i:Nat)) 1) where
 mem:=by simp
 obj:=λi h st b hb=>by
  have e:b=it:=by simpa using hb
  subst e
  exact⟨_,st,λv z=>by
   have z':Data.fields _=Data.cell v:=z
   cases z'⟩
 keep:=λi h h' st k=>k it (by simp) _ st
 item:=by
  intro X hP hw hK hc i pins s σ H E I hf st hg;subst hP hw hK;obtain⟨f0,f1,f2,f3,f4,f5⟩:=hf it (by simp);have W:=Walks.longrange (prog:=X.prog) (w:=X.w) (I.ok.hd hc) it lo 1 n;refine W.item i s _ _ hg st λv h' tk hv st' kk=>?_
  obtain⟨t,rfl⟩:=hv;have I1:Inv X pins σ H { s with heap:=h',toks:=tk }:=I.turned (λb o hb e=>kk b o (by simpa using hb) e) f0 f1 f3 f4 f5;refine⟨_,rfl,go_of (s:={ s with heap:=h',toks:=tk }) (n:="longrange_iterator") st' rfl rfl (by decide) ⟨.int (lo+i),H,I1,⟨t,?_⟩,⟨rfl,rfl⟩,st',λb hb=>(hf b hb).1⟩⟩;rw[Int.mul_one]
 done:=by intro X hP hw hK hc i pins s σ H E I hf st hg;subst hP hw hK;obtain⟨f0,f1,f2,f3,f4,f5⟩:=hf it (by simp);exact wpAny_pyNext_long_end (I.ok.hd hc) st (by have:n<=i:=hg;lia) λh' eb=>⟨rfl,I.turned (t':=s.toks) (λb o hb e=>eb b o hb e) f0 f1 f3 f4 f5⟩
 self:=λ_ _ _ _ _ st h=>wpAny_pyIter_longiter st h
section
variable {X:Cx}{tg:Expr}
theorem zi5{pins:List (Addr × Obj)}{σ : St}{H:Hp}{s:Ac}{R:It -> Hp -> Prop}{E:Value -> Ac -> Prop}{lo hi:Int}{t u v:Tok}{tk:Nat}(I:Inv X pins σ H s)
  (q:R (Itr lo (hi-lo).toNat) H):Am (Aw X.prog X.w) X.A (pyIter (.ref s.heap.objs.size)) (PIE X pins σ tg R) E { s with heap:=s.heap.push { cls:=.type "range",data:=.fields #[.int lo t,.int hi u,.int 1 v] },toks:=tk }:=by
 have I1:Inv X pins σ H { s with heap:=s.heap.push { cls:=.type "range",data:=.fields #[.int lo t,.int hi u,.int 1 v] },toks:=tk }:=I.kept λb o e=>Ae _ e
 have e1:lo+((0:Nat):Int)*1=lo:=by simp
 have e2:(((hi-lo).toNat:Nat):Int)-((0:Nat):Int)=Builtin.Range.rangeSize lo hi 1:=by rw[rangeSize_one];split <;> lia
 cases hs:Builtin.Range.small lo hi 1 with
 |true =>
  refine wpAny_pyIter_range (IsRange.new ..) hs ?_
  refine⟨(s.heap.push { cls:=.type "range",data:=.fields #[.int lo t,.int hi u,.int 1 v] }).objs.size,[(s.heap.push { cls:=.type "range",data:=.fields #[.int lo t,.int hi u,.int 1 v] }).objs.size],_,_,H,rfl,
   I1.kept (t':=tk) λb o e=>Ae _ e,zet _ lo (hi-lo).toNat,?_,λb hb=>?_,q⟩
  .show IsRangeIter _ _ (lo+((0:Nat):Int)*1) ((((hi-lo).toNat:Nat):Int)-((0:Nat):Int)) 1;rw[e1,e2];exact Av _ rfl
  .have e:b=(s.heap.push { cls:=.type "range",data:=.fields #[.int lo t,.int hi u,.int 1 v] }).objs.size:=by simpa using hb
   subst e;exact I1.fpOk (Aj _) (I1.hok.fresh (Aj _))
 |false =>
  refine wpAny_pyIter_longrange (IsRange.new ..) hs ?_
  refine⟨(s.heap.push { cls:=.type "range",data:=.fields #[.int lo t,.int hi u,.int 1 v] }).objs.size,[(s.heap.push { cls:=.type "range",data:=.fields #[.int lo t,.int hi u,.int 1 v] }).objs.size],_,_,H,rfl,
   I1.kept (t':=tk) λb o e=>Ae _ e,zit _ lo (hi-lo).toNat,?_,λb hb=>?_,q⟩
  .show IsLongIter _ _ (lo+((0:Nat):Int)*1) ((((hi-lo).toNat:Nat):Int)-((0:Nat):Int)) 1;rw[e1,e2];exact Av _ rfl
  .have e:b=(s.heap.push { cls:=.type "range",data:=.fields #[.int lo t,.int hi u,.int 1 v] }).objs.size:=by simpa using hb
   subst e;exact I1.fpOk (Aj _) (I1.hok.fresh (Aj _))
noncomputable def iRngB(ta:TA):TI:=λσ H R=>ta σ H λvs H1=>∃i j:Int,vs=[.int i,.int j]/\R (Itr i (j-i).toNat) H1
theorem zfO {a b:Expr}{ta:TA}{p pos:Pos}(hg:Gl X "range") (hm:X.mg "range" = none) (ha:PA X [a, b] ta) (hs:A5 [a, b] X.env = [(false, eval a X.env), (false, eval b X.env)] := by rfl) (hs2:A5 [b] X.env = [(false, eval b X.env)] := by rfl) :
  PI X tg (.Call (.Name "range" p) [a,b] [] pos) (iRngB ta):=by
 intro pins s σ H R I h;refine Call_ (zdm I hg hm boot_range (Cv (thn (ha pos pins s σ H _ I h) λus s1 ⟨vs,H1,I1,r1,q1⟩=>?_) (by rw[hs,hs2]) (by rw[hs2];rfl)));obtain⟨i,j,e,q⟩:=q1;subst e
 cases r1 with
 |cons r rr =>
  cases rr with
  |cons r' rr =>
   cases rr
   obtain⟨t,rfl⟩:=r;obtain⟨t',rfl⟩:=r';exact call_range_2 (zi5 I1 q)
end
section
variable {X:Cx}{pos:Pos}{kx vx:Expr}{tk tv:TE}
noncomputable def zmi(tk tv:TE):TE:=λσ H Q=>∀p,H p=none->tk σ (upd H p (.dT [])) λy H1=>tv σ H1 λv H2=>∃H3,DPut H2 p y v H3/\Q (.ref p) H3
theorem zkt(hu:X.A.units+1<cLine)(hk:PE X kx tk)(hv:PE X vx tv):PE X (.Dict [some kx] [vx] pos) (zmi tk tv):=by
 intro pins s σ H Q I q;have hn:=I.hok.fresh (Aj s.heap.objs.size);have I1:=I.laid (a:=s.heap.objs.size) (o:=.dT []) (h':=s.heap.push { cls:=.type "dict",data:=.dict #[] }) (t':=s.toks) (λ_ _ q=>Ae _ q) (Aj _) (zhE s.heap I.big);rw[arm_eval_Dict,zip_pairTrees [some kx] [vx] X.env pos rfl rfl,dictDisplay_pairs _ (by intro z;cases z) (by show 1<17;decide)];refine Ab (Dp (Ab ?_));unfold subDict;refine Ab (wpAny_alloc ?_);refine Ab (A9 ?_);rw[if_pos (by show 1<=15;decide)];refine Ab (pairTrees_cons_walk (thn (hk pins _ σ _ _ I1 (q _ hn)) λu s1 ⟨y,H1,I1',r1,q1⟩=>thn (hv pins s1 σ H1 _ I1' q1) λw2 s2 ⟨v,H2,I2,r2,H3,g,q2⟩=>pairTrees_nil_walk ?_));refine A9 ?_
 rw[List.forIn_cons];refine Ab (Ab ?_);show Am _ _ (dictSet s.heap.objs.size u w2 >>= λ_=>pure (DX PUnit.unit)) _ _ s2;refine Ab (d_set hu I2 g r1 r2 λs3 I3=>Af ?_);show Am _ _ (forIn [] _ _) _ _ s3;rw[List.forIn_nil];exact Af (Af (Af (Af ⟨.ref s.heap.objs.size,H3,I3,rfl,q2⟩)))
end
open AutoSeq1 (wpAny_loadPart')
section
variable {prog:AB}{w:AV}{A:AF}{E:Value->Ac->Prop}{s:Ac}{d:Addr}{ep:Nat}{es:Array DictEntry}{od:Obj}
theorem zhT(hh:A.handled=none)(I d:Addr)(hne:d ≠ I)(dat:od.data = .dict es ep) :
  Walks prog w A I [I,d] [I] es.size (λi v=>∃e,es[i]?=some e/\v=e.key) (λi h=>h.IsKeyIter I d i es.size ep/\h.get? d=some od) where
 sub:=λb hb=>by simp at hb;simp[hb]
 frame:=λi h h' st k=>⟨st.1.at λo e=>k I (by simp) o e,k d (by simp) _ st.2⟩
 item:=λi s Q E hi st hQ=>by
  refine zf1 st.1 st.2 dat (Array.getElem?_eq_getElem hi) λh' st' sb=>?_
  refine hQ _ h' s.toks ⟨_,Array.getElem?_eq_getElem hi,rfl⟩ ⟨st',(sb.2 d hne).trans st.2⟩ λb o hb e=>(sb.2 b (λz=>hb (by simp[z]))).trans e
 done:=λs Q E st hQ=>zhv hh st.1 st.2 dat (Aj _) λh' eb=>hQ h' s.toks λb o hb e=>eb b o (λz=>hb (by simp[z])) e
 self:=λi s Q E st hQ=>wpAny_pyIter_keyiter st.1 hQ
theorem zjL{Q:Bool->Ac->Prop}(g:s.heap.get? d=some od)(x:od.ExactDict)(h:Q false s):Am (Aw prog w) A (Builtin.List.listLengthHint (.ref d)) Q E s:=by
 have ty:s.TypeIs (.ref d) "dict":=⟨od,g,x.1⟩;unfold Builtin.List.listLengthHint;refine Ab (wpAny_specialOf ty PySem.F.slot_dict_len.lookup ?_);generalize hid:("dict.__len__" : String)=id0
 wp_delta
 rw[show splitId id0=some ("dict","__len__") from by subst hid;decide +kernel];subst hid;refine Ab (wpAny_isInstance (T:="dict") (b:=true) ty (by rw[isSubtype_type];kernel_rfl) ?_);refine wpAny_ite_split (λhab=>absurd hab (by decide)) (λ_=>?_);refine wpAny_ite_split (λ_=>?_) (λhab=>absurd (by decide +kernel) hab);refine Ab (wpAny_typeOf (T:="dict") ty ?_);exact Af h
theorem zgV{R:Result -> Ac -> Prop}(hh:A.handled=none)(lo:(d == BS)=false)(g:s.heap.get? d=some od)(x:od.ExactDict)(dat:od.data = .dict es ep)(hz:es.size <= 2 ^ 24)
    (S:Addr) (res:Value) (c₀:Nat) (hS:s.heap.get? S=some { cls:=.type "list",data:=.seq #[] c₀ })
    (hR:∀h' tk acc' c',(∀b o,b≠S->s.heap.get? b=some o->h'.get? b=some o)->h'.get? S=some { cls:=.type "list",dict:=none,data:=.seq acc' c',slots:=#[] } ->
      ItemsOf (λi v=>∃e,es[i]?=some e/\v=e.key) acc' es.size->R (.ok (.ret res)) { s with heap:=h',toks:=tk }) :
    Am (Aw prog w) A.in1 (Cy (.ref S) (.ref d) res)
      (λfin s'=>match fin with |.done f=>R (.ok f) s' |.again c'=>c'.quiet=true/\CK (Aw prog w) A c' R s') (λe s'=>R (.error e) s') s:=by
  have hSr:S≠d:=λe=>by rw[e,g]at hS;have:=x.1;cases hS;exact absurd (show CU "list" = CU "dict" from this) (by decide)
  have hSlt:S<s.heap.objs.size:=Au hS;have hdlt:d<s.heap.objs.size:=Au g;have hSI:S≠s.heap.objs.size:=AK hSlt
  have hSf:S ∉ [s.heap.objs.size,d]:=λhm=>by
    rcases At.mp hm with z |z
    . exact hSI z
    . exact hSr (An.mp z)
  have W:=(zhT (prog:=prog) (w:=w) (A:=A.in1) hh s.heap.objs.size d (AK hdlt) dat).toS
  have key:∀(h:Heap) (c₁ tk:Nat), h.IsKeyIter s.heap.objs.size d 0 es.size ep /\ h.get? d=some od -> (∀b o, b ≠ S -> s.heap.get? b=some o -> h.get? b=some o) ->
      h.get? S=some { cls:=.type "list",data:=.seq #[] c₁ }->CK (Aw prog w) A (.builtin "list.extend.loop" ⟨[.ref S,.ref s.heap.objs.size,res],[]⟩) R { s with heap:=h,toks:=tk }:=by
    intro h c₁ tk hit hk hS₁;refine codeAny_extend_loopS W (by rw[D5];lia) S hSf res es.size 0 _ #[] c₁ rfl (Be _) hit hS₁ (ItemsOf.nil _) λs' acc' c' hm hS' hacc=>?_
    rw[Moved.eq_with hm];refine hR s'.heap s'.toks acc' c' (λb o hb e=>hm.heap b o (λhmem=>?_) (hk b o hb e)) hS' hacc;rcases At.mp hmem with e' |hmem
    . exact hb e'
    . exact absurd (Au e) (by rw[An.mp hmem];exact BV _)
  unfold Cy;refine Ab (wpAny_typeOf (T:="dict") ⟨od,g,x.1⟩ ?_);have h1:Builtin.List.listSameRef (.ref S) (.ref d)=false:=by simp[Builtin.List.listSameRef,hSr]
  have h2:(CU "dict" == CU "list")=false:=by decide
  have h3:(CU "dict" == CU "tuple")=false:=by decide
  simp only[h1,h2,h3,Bool.or_false,BA,if_false];refine Ab (zf2 lo g x dat ?_);refine Ab (A9 (zjL (Ae _ g) x ?_));have hit₁:(s.heap.push { cls:=.type "dict_keyiterator",data:=.fields #[.ref d,.int 0 0,.int es.size 0,.int ep 0] }).IsKeyIter s.heap.objs.size d 0 es.size ep:=⟨_,Av _ rfl,rfl,rfl⟩;have hg₁:=Ae { cls:=.type "dict_keyiterator",data:=.fields #[.ref d,.int 0 0,.int es.size 0,.int ep 0] } g;have hS₁:=Ae { cls:=.type "dict_keyiterator",data:=.fields #[.ref d,.int 0 0,.int es.size 0,.int ep 0] } hS;refine wpAny_ite_split (λ_=>?_) (λhab=>absurd (by decide) hab);refine Ab (wpAny_rule ?_);refine Ab ?_
  show Am _ _ (updateSeq S (·.push .none) >>= λ_=>updateSeq S (·.pop)) _ _ _;refine Ab (B9 hS₁ rfl ?_);have hS₂:=BN (AU (·.push Value.none)) hS₁ rfl;refine B9 (hz:=by seq_fits) hS₂ rfl ?_
  have hS₃:=BN (AU (·.pop)) hS₂ rfl;refine Af ⟨CB PySem.F.plain_extend_loop _,key _ _ _ ⟨hit₁.at λo e=>?_,?_⟩ (λb o hb e=>?_) hS₃⟩
  . exact (AW _ _ hSI).trans ((AW _ _ hSI).trans e)
  . exact (AW _ _ hSr).trans ((AW _ _ hSr).trans hg₁)
  . exact (AW _ _ (Bx hb)).trans ((AW _ _ (Bx hb)).trans (Ae _ e))
theorem zjJ{R:Result -> Ac -> Prop}(hh:A.handled=none)(lo:(d == BS)=false)(g:s.heap.get? d=some od)(x:od.ExactDict)(dat:od.data = .dict es ep)(hz:es.size <= 2 ^ 24)
  (S:Addr) (hS:s.heap.get? S=some { cls:=.type "list",data:=.seq #[] })
  (hR:∀h' tk acc' c',(∀b o,b≠S->s.heap.get? b=some o->h'.get? b=some o)->h'.get? S=some { cls:=.type "list",dict:=none,data:=.seq acc' c',slots:=#[] } ->
   ItemsOf (λi v=>∃e,es[i]?=some e/\v=e.key) acc' es.size->R (.ok (.ret .none)) { s with heap:=h',toks:=tk }) :
  Am (Aw prog w) A.in1 (Builtin.«list.__init__» ⟨[.ref S,.ref d],[]⟩)
   (λfin s'=>match fin with |.done f=>R (.ok f) s' |.again c'=>c'.quiet=true/\CK (Aw prog w) A c' R s') (λe s'=>R (.error e) s') s:=by
 have hSr:S≠d:=λe=>by rw[e,g]at hS;have:=x.1;cases hS;exact absurd (show CU "list" = CU "dict" from this) (by decide)
 show Am _ _ (do let old <- Builtin.List.listItems (.ref S);Builtin.List.listUpdate (.ref S) (λ_=>#[]);letGo old.toList.reverse;Cy (.ref S) (.ref d) .none) _ _ s;refine Ab ?_
 unfold Builtin.List.listItems;refine Ab (C6 hS rfl (Af ?_));show Am _ _ (updateSeq S (λ_=>#[]) >>= λ_=>letGo (#[]:Array Value).toList.reverse >>= λ_=>Cy (.ref S) (.ref d) .none) _ _ s;refine Ab (B9 hS rfl ?_);have hS₂:=BN (AU (λ_=>(#[]:Array Value))) hS rfl
 have oth:∀b o,b≠S->s.heap.get? b=some o->(s.heap.update S (AU (λ_=>(#[]:Array Value)))).get? b=some o :=
  λb o hb e=>(AW _ _ (Bx hb)).trans e
 refine Ab (CP ?_);refine zgV hh lo (oth d _ (Bx hSr) g) x dat hz S .none _ hS₂ λh' tk acc' c' hk hS' hacc=>?_
 exact hR h' tk acc' c' (λb o hb e=>hk b o hb (oth b o hb e)) hS' hacc
theorem zep{Q:Value -> Ac -> Prop}(hh:A.handled=none)(lo:(d == BS)=false)(g:s.heap.get? d=some od)(x:od.ExactDict)(dat:od.data = .dict es ep)(hz:es.size <= 2 ^ 24)
  (hQ:∀h' tk acc' c',(∀b o,s.heap.get? b=some o->h'.get? b=some o) ->
   h'.get? s.heap.objs.size=some { cls:=.type "list",dict:=none,data:=.seq acc' c',slots:=#[] }->ItemsOf (λi v=>∃e,es[i]?=some e/\v=e.key) acc' es.size->Q (.ref s.heap.objs.size) { s with heap:=h',toks:=tk }) :
  Am (Aw prog w) A (call (.type "list") [.ref d]) Q E s:=by
 refine callType_codes (Q₁:=λobj s₁=>obj=.ref s.heap.objs.size/\s₁={ s with heap:=s.heap.push { cls:=.type "list",data:=.seq #[] } }) PySem.F.called_list (PySem.F.typeCall_list_1 _) PySem.F.entry_list_init
  (code_list_new _ ⟨rfl,rfl⟩) λobj s₁ h₁=>?_
 obtain⟨rfl,rfl⟩:=h₁;have hS:(s.heap.push { cls:=.type "list",data:=.seq #[] }).get? s.heap.objs.size=some { cls:=.type "list",data:=.seq #[] }:=Av _ rfl;refine⟨⟨_,hS,rfl⟩,PySem.F.args_list_init_2 _ _,zjJ (A:=A.in1) hh lo (Ae _ g) x dat hz _ hS λh' tk acc' c' hk hS' hacc=>?_⟩;exact⟨rfl,hQ h' tk acc' c' (λb o e=>hk b o (AK (Au e)) (Ae _ e)) hS' hacc⟩
end
noncomputable def KeyL(H:Hp)(ts:List V)(kvs:List (List Key×V)):Prop:=ts.length=kvs.length/\∀(i:Nat) t k v,ts[i]?=some t->kvs[i]?=some (k,v)->∃b,t=.ref b/\H b=some (.tup (k.map kV))
section
variable {X:Cx}
theorem zbq (hh:X.calm=true):CallR X (.type "list") (λxs H Q=>∃a kvs,xs=[.ref a]/\Rd H a (.dT kvs)/\∀l ts,H l=none->KeyL H ts kvs->Q (.ref l) (upd H l (.lst ts))):=by
 intro pins s σ H xs us Q I r h;obtain⟨a,kvs,rfl,e,q⟩:=h;obtain⟨u,rfl,rx⟩:=vals1 r
 cases rx
 obtain⟨z,y,ys,rr,od,es,ep,h1,h2,h3,h4,h5⟩:=(show ObjOk X.prog X.w H s.heap a (.dT kvs) from rd_of I.hok e);have hsz:es.size=kvs.length:=by rw[size_of_entries h4,<- CV rr]
 have z':=z;rw[D5]at z';refine zep (show X.A.handled=none from I.ok.hd hh) y h1 h2 h3 (by lia) λh' tk acc c kp g hacc=>?_
 have at_i:∀(i:Nat) (u:Value),acc[i]?=some u->∃b k v,kvs[i]?=some (k,v)/\u=.ref b/\H b=some (.tup (k.map kV)):=λi u hu=>by
  obtain⟨en,he,rfl⟩:=hacc.2 i u hu
  have hi:i<kvs.length:=by have:=(B6.mp he).1;lia
  obtain⟨q',hq,q1,q2,q3⟩:=Paired.at' rr (Aa hi);have he':es[i]?=some (entryOfKey (D3 (zaA X.prog X.w)) q'):=by rw[entry_at h4,hq];rfl
  rw[he]at he'
  cases he'
  exact⟨q'.2.1,kvs[i].1,kvs[i].2,Aa hi,rfl,q2⟩
 have hal:acc.size=kvs.length:=by rw[<- hsz];exact hacc.1
 let ts:List V:=acc.toList.map λu=>match u with |.ref b=>V.ref b |_=>V.non
 have hts:ts.length=kvs.length:=by simp[ts,hal]
 have hrel:Vals ts acc.toList:=zj8 (by simp[ts]) λi x u hx hu=>by
  rw[Ax,hu]at hx
  cases hx
  obtain⟨b,k,v,_,rfl,_⟩:=at_i i u (by simpa using hu);rfl
 have hn:H s.heap.objs.size=none:=I.hok.fresh (Aj _);refine⟨.ref s.heap.objs.size,_,I.laid (t':=tk) (o:=.lst ts) kp (Aj _) ⟨by rw[hts];exact z,acc.toList,c,hrel,by rw[Array.toArray_toList];exact g⟩,rfl,q _ ts hn ⟨hts,λi t k v ht hk=>?_⟩⟩;have hi:i<acc.toList.length:=by have:=(Ad.mp ht).1;simpa[ts]using this
 have hu:acc.toList[i]?=some acc.toList[i]:=Aa hi;obtain⟨b,k',v',hk',hu',hb⟩:=at_i i acc.toList[i] (by simpa using hu);rw[hk]at hk'
 cases hk'
 rw[Ax,hu]at ht
 cases ht
 rw[hu'];exact⟨b,rfl,hb⟩
end
section
variable {X:Cx}{es:List Expr}{te:TE}{t:TA}{pos:Pos}
theorem pa_T{l:List Expr}{k:Nat}(ha:PE X (.Tuple l k pos) te)(hr:PA X es t):PA X (.Tuple l k pos::es) (tCons te t):=zah ha hr (by rfl)
theorem pa_C{c:Const}{k:Nat}(ha:PE X (.Constant c k pos) te)(hr:PA X es t):PA X (.Constant c k pos::es) (tCons te t):=zah ha hr (by rfl)
theorem pa_B{a b:Expr}{o:Operator}(ha:PE X (.BinOp a o b pos) te)(hr:PA X es t):PA X (.BinOp a o b pos::es) (tCons te t):=zah ha hr (by rfl)
theorem pa_N{x:Str}(ha:PE X (.Name x pos) te)(hr:PA X es t):PA X (.Name x pos::es) (tCons te t):=zah ha hr (by rfl)
end
theorem zau{i:Nat}{v:V}{σ:St}{H:Hp}{Q:St->Hp->Prop}:gName i v σ H Q=Q (σ.set i (some v)) H:=rfl
theorem zm6{i:Nat}{v:V}{u:TS}{D:Ends}{σ:St}{H:Hp}:tSeq (tAsg (tC v) (gName i)) u D σ H=u D (σ.set i (some v)) H:=rfl
section
variable {X:Cx}{tg:Expr}
end
inductive IsC:Expr->V->Prop where
 |int {n:Int} {k:Nat} {p:Pos}:IsC (.Constant (.int n) k p) (.int n)
 |bl {b:Bool} {k:Nat} {p:Pos}:IsC (.Constant (.bool b) k p) (.bl b)
 |neg {n:Int} {k:Nat} {p q:Pos}:IsC (.UnaryOp .USub (.Constant (.int n) k p) q) (.int (-n))
inductive IsPs:List Expr->List (V×V)->Prop where
 |nil:IsPs [] []
 |cons {a b:Expr} {x y:V} {k:Nat} {p:Pos} {es:List Expr} {l:List (V×V)}:IsC a x->IsC b y->IsPs es l->IsPs (.Tuple [a,b] k p::es) ((x,y)::l)
inductive RetPs:List Stmt->List (V×V)->Prop where
 |mk {es:List Expr} {l:List (V×V)} {p q:Pos}:IsPs es l->RetPs [.Return (some (.List es p)) q] l
section
variable {X:Cx}
end
section
variable {X:Cx}
end
section
variable {prog:AB}{w:AV}{A:AF}{E:Value->Ac->Prop}{s:Ac}{T:String}{r d:Addr}{n:Nat}{P:Nat->Value->Prop}{OK:Heap->Prop}
end
section
variable {X:Cx}
end
section
variable {X:Cx}{o e f:Expr}{apos cpos:Pos}{td ty tx:TE}
end
section
variable {X:Cx}{tg:Expr}
end
section
variable {prog:AB}{w:AV}{A:AF}{E:Value->Ac->Prop}{s:Ac}{d it v:Addr}{i ep:Nat}{es:Array DictEntry}{od:Obj}{ok ov:Value}
end
section
variable {X:Cx}
end
end L2
namespace RP
noncomputable def av(w:Nat):Int:=if w=0∨w=1 then 1 else 0
noncomputable def bv(w:Nat):Int:=if w=1∨w=2 then 1 else 0
noncomputable def eU(e:Edge):Int:=px e+py e+av e.w
noncomputable def eV(e:Edge):Int:=py e-px e+bv e.w
noncomputable def tt(C:Cell->Bool)(e:Edge):Int:=match stepB C e with
 |none=>1
 |some s=>if s % 2=1 then -1 else 0
noncomputable def eK(w:Nat):Int:=(if w=1∨w=2 then 1 else 0)+(if w=2∨w=3 then 1 else 0)+av w
noncomputable def eL(w:Nat):Int:=(if w=2∨w=3 then 1 else 0)-(if w=1∨w=2 then 1 else 0)+bv w
theorem e_tab:∀w<4,∀v<4,(eK w-eK v+(eL w-eL v)) % 2≠0∨w=v∨(eK w-eK v-(eL w-eL v)=2*(mv ((2*w+6) % 8)).1/\eK w-eK v+(eL w-eL v)=2*(mv ((2*w+6) % 8)).2):=by decide
theorem eU_of(e:Edge):eU e=e.c.1+e.c.2+eK e.w:=by unfold eU px py eK;lia
theorem eV_of(e:Edge):eV e=e.c.2-e.c.1+eL e.w:=by unfold eV px py eL;lia
theorem e_inj{C:Cell->Bool}{e f:Edge}(he:IsE C e)(hf:IsE C f)(h1:eU e=eU f)(h2:eV e=eV f):e=f:=by
 rw[eU_of,eU_of]at h1;rw[eV_of,eV_of]at h2;have t:=e_tab e.w he.1 f.w hf.1;obtain⟨⟨x,y⟩,w⟩:=e;obtain⟨⟨x',y'⟩,w'⟩:=f;simp only at h1 h2 t;rcases t with z |z |⟨z1,z2⟩
 .exfalso;lia
 .subst z;have a:x=x':=by lia
  have b:y=y':=by lia
  rw[a,b]
 .have g:=he.2.2;have a:x'=x+(mv ((2*w+6) % 8)).1:=by lia
  have b:y'=y+(mv ((2*w+6) % 8)).2:=by lia
  have c:=hf.2.1;rw[a,b]at c;exact absurd (c.symm.trans g) (by decide)
theorem zcq{C:Cell->Bool}{e:Edge}(h:IsE C e):eU (nxt C e)=eU e+(av e.w+av (nxt C e).w-1)/\eV (nxt C e)=eV e+(bv e.w+bv (nxt C e).w-1):=by obtain⟨p,q⟩:=zfP h;unfold eU eV;rw[p,q];have hw:=h.1;generalize (nxt C e).w=w';rcases way4 hw with r |r |r |r <;> rw[r] <;> simp[av,bv,dx,dy] <;> lia
theorem zeN{C:Cell -> Bool}{e:Edge}(h:IsE C e) :
  (tt C e=-1/\(nxt C e).w=(e.w+3) % 4)∨(tt C e=0/\(nxt C e).w=e.w)∨(tt C e=1/\(nxt C e).w=(e.w+1) % 4):=by
 unfold tt;rcases zaJ h with⟨_,s,q⟩ |⟨_,_,s,q⟩ |⟨_,_,s,q⟩ <;> rw[q,s] <;> simp only
 .left;rw[if_pos (odd7 _)];exact⟨by decide,trivial⟩
 .right;left;rw[if_neg (by lia)];exact⟨by decide,trivial⟩
 .right;right;exact⟨by decide,trivial⟩
theorem c_at{C:Cell->Bool}{a b c d:Int}{v:Bool}(h:C (a,b)=v)(h1:c=a)(h2:d=b):C (c,d)=v:=by subst h1 h2;exact h
theorem zev{C:Cell -> Bool}{e:Edge}(h:IsE C e)(ht:tt C e=0) :
  C (px e+dx e.w-1,py e+dy e.w-1)=decide (e.w=1∨e.w=2)/\C (px e+dx e.w,py e+dy e.w-1)=decide (e.w=2∨e.w=3):=by
 obtain⟨⟨x,y⟩,w⟩:=e;obtain⟨hw,hc,hg⟩:=id h;rcases zaJ h with⟨_,s,q⟩ |⟨k1,k2,s,q⟩ |⟨_,_,s,q⟩
 .exfalso;unfold tt at ht;rw[s]at ht;simp only at ht;rw[if_pos (odd7 _)]at ht;exact absurd ht (by decide)
 .simp only at hw hc k1 k2
  rcases way4 hw with rfl |rfl |rfl |rfl <;> simp only[gap,go,mv,px,py,dx,dy]at hg k1 k2 ⊢ <;> simp at hg k1 k2 hc ⊢ <;>
   refine⟨?_,?_⟩ <;> first |exact c_at hg (by lia) (by lia) |exact c_at hc (by lia) (by lia) |exact c_at k1 (by lia) (by lia) |exact c_at k2 (by lia) (by lia)
 .exfalso;unfold tt at ht;rw[s]at ht;exact absurd ht (by decide)
theorem zdE(w:Nat):av w=0∨av w=1:=by unfold av;split <;> simp
theorem zhN(w:Nat):bv w=0∨bv w=1:=by unfold bv;split <;> simp
theorem zfq:∀w<4,∀n,n=(w+3) % 4∨n=(w+1) % 4->(av w=av n/\bv w+bv n=1)∨(av w+av n=1/\bv w=bv n):=by intro w hw n hn;rcases hn with rfl |rfl <;> revert w <;> decide
theorem dx_av:∀w<4,dx w=av w-bv w/\dy w=av w+bv w-1:=by decide
theorem zlW{C:Cell->Bool}{e f:Edge}(he:IsE C e)(hf:IsE C f)(h1:eU e+eU (nxt C e)=eU f+eU (nxt C f))(h2:eV e+eV (nxt C e)=eV f+eV (nxt C f)):e=f:=by
 obtain⟨a1,a2⟩:=zcq he;obtain⟨b1,b2⟩:=zcq hf
 have key:e=f∨(tt C e=0/\tt C f=0/\px e+dx e.w=px f+dx f.w/\py e+dy e.w=py f+dy f.w)∨(eU e=eU (nxt C f)/\eV e=eV (nxt C f)/\e.w≠(nxt C f).w):=by
  rw[a1,b1]at h1;rw[a2,b2]at h2
  have ta:(tt C e=0/\(nxt C e).w=e.w)∨(av e.w=av (nxt C e).w/\bv e.w+bv (nxt C e).w=1)∨(av e.w+av (nxt C e).w=1/\bv e.w=bv (nxt C e).w):=by
   rcases zeN he with⟨_,n⟩ |q |⟨_,n⟩
   .exact .inr (zfq _ he.1 _ (.inl n))
   .exact .inl q
   .exact .inr (zfq _ he.1 _ (.inr n))
  have tb:(tt C f=0/\(nxt C f).w=f.w)∨(av f.w=av (nxt C f).w/\bv f.w+bv (nxt C f).w=1)∨(av f.w+av (nxt C f).w=1/\bv f.w=bv (nxt C f).w):=by
   rcases zeN hf with⟨_,n⟩ |q |⟨_,n⟩
   .exact .inr (zfq _ hf.1 _ (.inl n))
   .exact .inl q
   .exact .inr (zfq _ hf.1 _ (.inr n))
  have fin:eU e=eU f->eV e=eV f->e=f:=λq1 q2=>e_inj he hf q1 q2
  have dif:∀{g:Nat->Int},g e.w≠g (nxt C f).w->e.w≠(nxt C f).w:=λ{g} q z=>q (by rw[z])
  rw[b1,b2];rcases ta with⟨t1,n1⟩ |⟨p1,p2⟩ |⟨p1,p2⟩ <;> rcases tb with⟨t2,n2⟩ |⟨q1,q2⟩ |⟨q1,q2⟩
  .rw[n1,n2]at h1 h2;have u1:eU e=px e+py e+av e.w:=rfl;have u2:eV e=py e-px e+bv e.w:=rfl;have v1:eU f=px f+py f+av f.w:=rfl;have v2:eV f=py f-px f+bv f.w:=rfl;obtain⟨d1,d2⟩:=dx_av _ he.1;obtain⟨d3,d4⟩:=dx_av _ hf.1;exact .inr (.inl ⟨t1,t2,by lia,by lia⟩)
  .rw[n1]at h1 h2;exfalso;lia
  .rw[n1]at h1 h2;exfalso;lia
  .rw[n2]at h1 h2;exfalso;lia
  .rcases Classical.em (av e.w=av f.w) with z |z
   .exact .inl (fin (by lia) (by lia))
   .have c1:=zdE e.w;have c2:=zdE f.w;exact .inr (.inr ⟨by lia,by lia,dif (g:=av) (by lia)⟩)
  .exfalso;lia
  .rw[n2]at h1 h2;exfalso;lia
  .exfalso;lia
  .rcases Classical.em (bv e.w=bv f.w) with z |z
   .exact .inl (fin (by lia) (by lia))
   .have c1:=zhN e.w;have c2:=zhN f.w;exact .inr (.inr ⟨by lia,by lia,dif (g:=bv) (by lia)⟩)
 rcases key with h |⟨t1,t2,q1,q2⟩ |⟨q1,q2,q3⟩
 .exact h
 .obtain⟨c1,c2⟩:=zev he t1;obtain⟨d1,d2⟩:=zev hf t2;rw[q1,q2]at c1 c2;rw[c1]at d1;rw[c2]at d2;have d1':=decide_eq_decide.mp d1;have d2':=decide_eq_decide.mp d2;have hw:=he.1;have hw':=hf.1;have ww:e.w=f.w:=by lia
  rw[ww]at q1 q2;refine e_inj he hf ?_ ?_ <;> simp only[eU,eV] <;> rw[ww] <;> lia
 .exact absurd (congrArg Edge.w (e_inj he (zdW hf) q1 q2)) q3
noncomputable def cr(x1 y1 x2 y2:Int):Int:=if y1=-1/\y2=0/\0<x2 then 1 else if y1=0/\y2=-1/\0<x1 then -1 else 0
noncomputable def crT(t y1 y2:Int):Int:=if y1=-1/\y2=0 then t else if y1=0/\y2=-1 then -t else 0
theorem zdD(t y:Int):crT t y y=0:=by unfold crT;rw[if_neg (by lia),if_neg (by lia)]
theorem zhL(t y z:Int):crT t y z+crT t z y=0:=by
 unfold crT
 by_cases h:y=-1/\z=0
 .rw[if_pos h,if_neg (by lia),if_pos ⟨h.2,h.1⟩];lia
 .by_cases k:y=0/\z=-1
  .rw[if_neg h,if_pos k,if_pos ⟨k.2,k.1⟩];lia
  .rw[if_neg h,if_neg k,if_neg (by lia),if_neg (by lia)];rfl
theorem cr_T{t x1 y1 x2 y2:Int}(h1:y1=0->(0<x1/\t=1)∨(¬ 0<x1/\t=0))(h2:y2=0->(0<x2/\t=1)∨(¬ 0<x2/\t=0)):cr x1 y1 x2 y2=crT t y1 y2:=by
 unfold cr crT
 by_cases h:y1=-1/\y2=0
 .rcases h2 h.2 with⟨q,r⟩ |⟨q,r⟩
  .rw[if_pos ⟨h.1,h.2,q⟩,if_pos h,r]
  .rw[if_neg (by lia),if_neg (by lia),if_pos h,r]
 .rw[if_neg (λz=>h ⟨z.1,z.2.1⟩),if_neg h]
  by_cases k:y1=0/\y2=-1
  .rcases h1 k.1 with⟨q,r⟩ |⟨q,r⟩
   .rw[if_pos ⟨k.1,k.2,q⟩,if_pos k,r]
   .rw[if_neg (by lia),if_pos k,r];rfl
  .rw[if_neg (λz=>k ⟨z.1,z.2.1⟩),if_neg k]
theorem cr_sq(u v a1 a2 b1 b2:Int)(ha1 : -1 <= a1 /\ a1 <= 1)(ha2 : -1 <= a2 /\ a2 <= 1)(hb1 : -1 <= b1 /\ b1 <= 1)(hb2 : -1 <= b2 /\ b2 <= 1)
  (h00:¬(u=0/\v=0)) (h10:¬(u+a1=0/\v+a2=0)) (h01:¬(u+b1=0/\v+b2=0)) (h11:¬(u+a1+b1=0/\v+a2+b2=0))
  (hc:¬(2*u+a1+b1=0/\2*v+a2+b2=0)) :
  cr u v (u+a1) (v+a2)+cr (u+a1) (v+a2) (u+a1+b1) (v+a2+b2)=cr u v (u+b1) (v+b2)+cr (u+b1) (v+b2) (u+a1+b1) (v+a2+b2):=by
 obtain⟨t,k00,k10,k01,k11⟩:∃t:Int,(v=0->(0<u/\t=1)∨(¬ 0<u/\t=0))/\(v+a2=0->(0<u+a1/\t=1)∨(¬ 0<u+a1/\t=0))/\(v+b2=0->(0<u+b1/\t=1)∨(¬ 0<u+b1/\t=0))/\(v+a2+b2=0->(0<u+a1+b1/\t=1)∨(¬ 0<u+a1+b1/\t=0)):=by
  rcases Classical.em ((v=0/\0<u)∨(v+a2=0/\0<u+a1)∨(v+b2=0/\0<u+b1)∨(v+a2+b2=0/\0<u+a1+b1)) with z |z
  .exact⟨1,λh=>.inl ⟨by lia,rfl⟩,λh=>.inl ⟨by lia,rfl⟩,λh=>.inl ⟨by lia,rfl⟩,λh=>.inl ⟨by lia,rfl⟩⟩
  .exact⟨0,λh=>.inr ⟨by lia,rfl⟩,λh=>.inr ⟨by lia,rfl⟩,λh=>.inr ⟨by lia,rfl⟩,λh=>.inr ⟨by lia,rfl⟩⟩
 rw[cr_T k00 k10,cr_T k10 k11,cr_T k00 k01,cr_T k01 k11];have c:a2=b2∨a2=0∨b2=0∨a2=-b2:=by lia
 rcases c with rfl |rfl |rfl |rfl
 .rfl
 .rw[Int.add_zero,zdD,zdD];lia
 .rw[Int.add_zero,Int.add_zero,zdD,zdD];lia
 .rw[show v+-b2+b2=v by lia,zhL,zhL]
section
variable (U V:Nat->Int)
noncomputable def hH(i j:Nat):Int:=cr (U j-U i) (V j-V i) (U (j+1)-U i) (V (j+1)-V i)
noncomputable def gG(i j:Nat):Int:=cr (U j-U i) (V j-V i) (U j-U (i+1)) (V j-V (i+1))
noncomputable def sE:Nat->Int
 | 0=>0
 |i+1=>sE i+hH U V i (i+1)+gG U V i (i+2)
noncomputable def sF(i:Nat):Nat->Int
 | 0=>sE U V i
 |d+1=>sF i d+hH U V i (i+1+d)
variable {U V}
variable {n:Nat}
theorem zgB(su:∀k, -1 <= U (k + 1)-U k /\ U (k + 1)-U k <= 1)(sv:∀k, -1 <= V (k + 1)-V k /\ V (k + 1)-V k <= 1)
  (hd:∀i j,i<j->j<=n->¬(i=0/\j=n)->¬(U j-U i=0/\V j-V i=0))
  (hm:∀i j,i<j->j<n->¬(U i+U (i+1)=U j+U (j+1)/\V i+V (i+1)=V j+V (j+1))) :
  ∀d i,i+2+d<=n->¬(i=0/\i+2+d=n)->sF U V (i+1) d-sF U V i (d+1)=gG U V i (i+2+d)
 | 0,i,h,hx=>by
  show sE U V (i+1)-(sE U V i+hH U V i (i+1+0))=_;show sE U V i+hH U V i (i+1)+gG U V i (i+2)-(sE U V i+hH U V i (i+1))=gG U V i (i+2);lia
 |d+1,i,h,hx=>by
  have ih:=zgB su sv hd hm d i (by lia) (by lia);show sF U V (i+1) d+hH U V (i+1) (i+1+1+d)-(sF U V i (d+1)+hH U V i (i+1+(d+1)))=gG U V i (i+2+(d+1));have j1:i+1+1+d=i+2+d:=by lia
  have j2:i+1+(d+1)=i+2+d:=by lia
  have j3:i+2+(d+1)=(i+2+d)+1:=by lia
  rw[j1,j2,j3];generalize hj:i+2+d=j at *
  have q:=cr_sq (U j-U i) (V j-V i) (-(U (i+1)-U i)) (-(V (i+1)-V i)) (U (j+1)-U j) (V (j+1)-V j)
   (by have:=su i;lia) (by have:=sv i;lia) (su j) (sv j)
   (hd i j (by lia) (by lia) (by lia))
   (by have:=hd (i+1) j (by lia) (by lia) (by lia);lia)
   (by have:=hd i (j+1) (by lia) (by lia) (by lia);lia)
   (by have:=hd (i+1) (j+1) (by lia) (by lia) (by lia);lia)
   (by have:=hm i j (by lia) (by lia);lia)
  have e1:U j-U i+-(U (i+1)-U i)=U j-U (i+1):=by lia
  have e2:V j-V i+-(V (i+1)-V i)=V j-V (i+1):=by lia
  have e3:U j-U i+(U (j+1)-U j)=U (j+1)-U i:=by lia
  have e4:V j-V i+(V (j+1)-V j)=V (j+1)-V i:=by lia
  have e5:U j-U (i+1)+(U (j+1)-U j)=U (j+1)-U (i+1):=by lia
  have e6:V j-V (i+1)+(V (j+1)-V j)=V (j+1)-V (i+1):=by lia
  rw[e1,e2,e3,e4,e5,e6]at q;have q':gG U V i j+hH U V (i+1) j=hH U V i j+gG U V i (j+1):=q;lia
theorem cr_up{a b c d:Int}(h1:0<=b)(h2:0<=d):cr a b c d=0:=by unfold cr;rw[if_neg (by lia),if_neg (by lia)]
theorem cr_dn{a b c d:Int}(h1:b=0->a<=0)(h2:d=0->c<=0):cr a b c d=0:=by unfold cr;rw[if_neg (by lia),if_neg (by lia)]
theorem zmr(hn : 3 <= n)(su:∀k, -1 <= U (k + 1)-U k /\ U (k + 1)-U k <= 1)(sv:∀k, -1 <= V (k + 1)-V k /\ V (k + 1)-V k <= 1)
  (hd:∀i j,i<j->j<=n->¬(i=0/\j=n)->¬(U j-U i=0/\V j-V i=0))
  (hm:∀i j,i<j->j<n->¬(U i+U (i+1)=U j+U (j+1)/\V i+V (i+1)=V j+V (j+1)))
  (hU:U n=U 0) (hV:V n=V 0) (mV:∀k,k<n->V 0<=V k) (mU:∀k,k<n->V k=V 0->U 0<=U k) :
  sE U V (n-1)=gG U V 0 (n-1)+hH U V 1 (n-1):=by
 have r0:∀d,d+2<=n->sF U V 0 d=0:=by
  intro d
  induction d with
  |zero=>intro _;rfl
  |succ d ih =>
   intro h;show sF U V 0 d+hH U V 0 (0+1+d)=0;rw[ih (by lia)];have:=mV (0+1+d) (by lia);have:=mV (0+1+d+1) (by lia);unfold hH;rw[cr_up (by lia) (by lia)];rfl
 have s1:=zgB su sv hd hm (n-3) 0 (by lia) (by lia);rw[show n-3+1=n-2 by lia,r0 (n-2) (by lia),show 0+2+(n-3)=n-1 by lia]at s1
 have s2:sF U V 1 (n-2)=sF U V 1 (n-3)+hH U V 1 (n-1):=by have:sF U V 1 (n-3+1)=sF U V 1 (n-3)+hH U V 1 (1+1+(n-3)):=rfl;rw[show n-3+1=n-2 by lia,show 1+1+(n-3)=n-1 by lia]at this;exact this
 have r1:∀k,1+k<=n-1->sF U V (1+k) (n-2-k)=sF U V 1 (n-2):=by
  intro k
  induction k with
  |zero=>intro _;rfl
  |succ k ih =>
   intro h;have s:=zgB su sv hd hm (n-3-k) (1+k) (by lia) (by lia);rw[show n-3-k+1=n-2-k by lia,show 1+k+2+(n-3-k)=n by lia,ih (by lia)]at s
   have z:gG U V (1+k) n=0:=by unfold gG;have a1:=mV (1+k) (by lia);have a2:=mU (1+k) (by lia);have b1:=mV (1+k+1) (by lia);have b2:=mU (1+k+1) (by lia);exact cr_dn (by lia) (by lia)
   rw[z]at s;rw[show 1+(k+1)=1+k+1 by lia,show n-2-(k+1)=n-3-k by lia];lia
 have e:=r1 (n-2) (by lia);rw[show 1+(n-2)=n-1 by lia,show n-2-(n-2)=0 by lia]at e;show sF U V (n-1) 0=_;rw[e];have:(0:Nat)+1=1:=rfl;rw[this]at s1;lia
end
noncomputable def crs(x1 y1 x2 y2:Int):Int:=cr x1 y1 (x1+x2) (y1+y2)+cr (x1+x2) (y1+y2) x2 y2
noncomputable def ok8(w i j:Nat):Bool :=
 let w1:=(w+i+3) % 4
 let w2:=(w1+j+3) % 4
 let t:Int:=(i:Int)-1
 let t':Int:=(j:Int)-1
 crs (av w+av w1-1) (bv w+bv w1-1) (av w1+av w2-1) (bv w1+bv w2-1) == (2*((w:Int)+t)-1+t') / 8-(2*(w:Int)-1+t) / 8 &&
 crs (-(av w+av w1-1)) (-(bv w+bv w1-1)) (-(av w1+av w2-1)) (-(bv w1+bv w2-1)) == (2*((w:Int)+t)-1+t'+4) / 8-(2*(w:Int)-1+t+4) / 8
theorem all8:∀w<4,∀i<3,∀j<3,ok8 w i j=true:=by decide
noncomputable def it(C:Cell->Bool)(b:Edge):Nat->Edge
 | 0=>b
 |k+1=>nxt C (it C b k)
theorem Chain.get{C:Cell->Bool}{b:Edge}{es:List Edge}(h:Chain C b es):∀i,i<es.length->es[i]?=some (it C b i)
 | 0,_=>h.1
 |i+1,hi=>by
  have h1:=Chain.get h i (by lia);have:=h.2.1 i _ _ h1 (Aa hi);rw[Aa hi,this];rfl
theorem Closed.pos{C:Cell->Bool}{b:Edge}{es:List Edge}(h:Closed C b es):0<es.length:=(Ad.mp h.1.1).1
theorem Closed.it_len{C:Cell->Bool}{b:Edge}{es:List Edge}(h:Closed C b es):it C b es.length=b:=by
 obtain⟨hc,l,hl,hb⟩:=id h;have hp:=h.pos;have:=hc.get (es.length-1) (by lia);rw[hl]at this
 cases this
 have e:it C b (es.length-1+1)=nxt C (it C b (es.length-1)):=rfl;rw[show es.length-1+1=es.length by lia]at e;rw[e,hb]
theorem it_ok{C:Cell->Bool}{b:Edge}(h:IsE C b):∀k,IsE C (it C b k)
 | 0=>h
 |k+1=>zdW (it_ok h k)
noncomputable def wW(C:Cell->Bool)(b:Edge):Nat->Int
 | 0=>b.w
 |k+1=>wW C b k+tt C (it C b k)
theorem tt_ix{C:Cell->Bool}{e:Edge}(h:IsE C e):∃i:Nat,i<3/\tt C e=(i:Int)-1/\(nxt C e).w=(e.w+i+3) % 4:=by
 have hw:=h.1;rcases zeN h with⟨a,b⟩ |⟨a,b⟩ |⟨a,b⟩
 .exact⟨0,by decide,by rw[a];rfl,by rw[b]⟩
 .exact⟨1,by decide,by rw[a];rfl,by rw[b];lia⟩
 .exact⟨2,by decide,by rw[a];rfl,by rw[b];lia⟩
theorem zfz{C:Cell->Bool}{b:Edge}(h:IsE C b):∀k,wW C b k % 4=((it C b k).w:Int)
 | 0=>by have:=h.1;show (b.w:Int) % 4=b.w;lia
 |k+1=>by
  have ih:=zfz h k;obtain⟨i,hi,e1,e2⟩:=tt_ix (it_ok h k);show (wW C b k+tt C (it C b k)) % 4=((nxt C (it C b k)).w:Int);rw[e1,e2];lia
noncomputable def th(C:Cell->Bool)(b:Edge)(k:Nat):Int:=2*wW C b k-1+tt C (it C b k)
noncomputable def up8(w i:Nat):Bool :=
 let w1:=(w+i+3) % 4
 decide (0<bv w+bv w1-1∨(bv w+bv w1-1=0/\0<=av w+av w1-1)) == decide ((2*(w:Int)-1+((i:Int)-1)) % 8<4) &&
 decide (bv w+bv w1-1<0∨(bv w+bv w1-1=0/\av w+av w1-1<=0)) == decide (4<=(2*(w:Int)-1+((i:Int)-1)) % 8) &&
 !(decide (av w+av w1-1=0/\bv w+bv w1-1=0))
theorem zm4:∀w<4,∀i<3,up8 w i=true:=by decide
theorem half{C:Cell -> Bool}{b:Edge}(h:IsE C b)(k:Nat) :
  ((0<eV (it C b (k+1))-eV (it C b k)∨(eV (it C b (k+1))-eV (it C b k)=0/\0<=eU (it C b (k+1))-eU (it C b k))) ↔ th C b k % 8<4) /\
  ((eV (it C b (k+1))-eV (it C b k)<0∨(eV (it C b (k+1))-eV (it C b k)=0/\eU (it C b (k+1))-eU (it C b k)<=0)) ↔ 4<=th C b k % 8) /\
  ¬ (eU (it C b (k+1))-eU (it C b k)=0/\eV (it C b (k+1))-eV (it C b k)=0):=by
 obtain⟨i,hi,e1,e2⟩:=tt_ix (it_ok h k);obtain⟨s1,s2⟩:=zcq (it_ok h k);have q:=zm4 _ (it_ok h k).1 i hi;have m:=zfz h k;simp only[up8,Bw,beq_iff_eq,decide_eq_decide,Dw,decide_eq_false_iff_not]at q;rw[<- e2]at q;obtain⟨⟨q1,q2⟩,q3⟩:=q;have t:th C b k % 8=(2*((it C b k).w:Int)-1+((i:Int)-1)) % 8:=by unfold th;rw[e1];lia
 rw[t];have d1:eU (it C b (k+1))-eU (it C b k)=av (it C b k).w+av (nxt C (it C b k)).w-1:=by show eU (nxt C (it C b k))-_=_;lia
 have d2:eV (it C b (k+1))-eV (it C b k)=bv (it C b k).w+bv (nxt C (it C b k)).w-1:=by show eV (nxt C (it C b k))-_=_;lia
 rw[d1,d2];exact⟨q1,q2,q3⟩
theorem sub0{a b:Int}(h:b-a=0):a=b:=by lia
theorem zg9{a b c:Int}(h:a=b+c):a-b=c:=by lia
theorem turn8{C:Cell -> Bool}{b:Edge}(h:IsE C b)(k:Nat) :
  crs (eU (it C b (k+1))-eU (it C b k)) (eV (it C b (k+1))-eV (it C b k)) (eU (it C b (k+2))-eU (it C b (k+1))) (eV (it C b (k+2))-eV (it C b (k+1)))=th C b (k+1) / 8-th C b k / 8 /\
  crs (-(eU (it C b (k+1))-eU (it C b k))) (-(eV (it C b (k+1))-eV (it C b k))) (-(eU (it C b (k+2))-eU (it C b (k+1)))) (-(eV (it C b (k+2))-eV (it C b (k+1))))=(th C b (k+1)+4) / 8-(th C b k+4) / 8:=by
 obtain⟨i,hi,e1,e2⟩:=tt_ix (it_ok h k);obtain⟨j,hj,f1,f2⟩:=tt_ix (it_ok h (k+1));obtain⟨s1,s2⟩:=zcq (it_ok h k);obtain⟨s3,s4⟩:=zcq (it_ok h (k+1));have m:=zfz h k;have q:=all8 _ (it_ok h k).1 i hi j hj;simp only[ok8,Bw,beq_iff_eq]at q;have w1:(it C b (k+1)).w=((it C b k).w+i+3) % 4:=e2;rw[<- w1,<- f2]at q;have wn:wW C b (k+1)=wW C b k+((i:Int)-1):=by show wW C b k+tt C (it C b k)=_;rw[e1]
 have t0:th C b k=2*wW C b k-1+((i:Int)-1):=by unfold th;rw[e1]
 have t1:th C b (k+1)=2*(wW C b k+((i:Int)-1))-1+((j:Int)-1):=by unfold th;rw[f1,wn]
 have d1:eU (it C b (k+1))-eU (it C b k)=av (it C b k).w+av (it C b (k+1)).w-1:=zg9 s1;have d2:eV (it C b (k+1))-eV (it C b k)=bv (it C b k).w+bv (it C b (k+1)).w-1:=zg9 s2;have d3:eU (it C b (k+2))-eU (it C b (k+1))=av (it C b (k+1)).w+av (nxt C (it C b (k+1))).w-1:=zg9 s3;have d4:eV (it C b (k+2))-eV (it C b (k+1))=bv (it C b (k+1)).w+bv (nxt C (it C b (k+1))).w-1:=zg9 s4;rw[d1,d2,d3,d4,t0,t1,q.1,q.2];clear q d1 d2 d3 d4 s1 s2 s3 s4 t0 t1 wn w1 f1 f2 e1 e2;generalize wW C b k=W at *;generalize (it C b k).w=w at *;constructor <;> lia
theorem zmJ:∀w<4,∀i<3,¬ (av w+av ((w+i+3) % 4)=1/\bv w+bv ((w+i+3) % 4)=1):=by decide
theorem zkg{T0 Tm Tn D s:Int}(key:Tm / 8-T0 / 8=(Tn+4) / 8-(Tm+4) / 8)(u0:T0 % 8<4)(um:4<=Tm % 8)(hD:D % 4=0)(hn:Tn=T0+2*D)(hm:Tm=Tn-s)(s1:-2<=s)(s2:s<=2):(D=4/\0<s)∨(D=-4/\s<0):=by
 obtain⟨d,rfl⟩:∃d,D=4*d:=⟨D / 4,by lia⟩;have h1:(Tn+4) / 8=T0 / 8+d:=by lia
 have h2:(Tm+4) / 8=Tm / 8+1:=by lia
 rw[h1,h2]at key;have a1:T0=8*(T0 / 8)+T0 % 8:=by lia
 have a2:Tm=8*(Tm / 8)+Tm % 8:=by lia
 have a3:0<=T0 % 8:=by lia
 have a4:Tm % 8<8:=by lia
 generalize T0 / 8=a at *;generalize Tm / 8=c at *;generalize T0 % 8=r at *;generalize Tm % 8=p at *;clear h1 h2 hD;have:c-a-d=-1∨c-a-d=0:=by lia
 rcases this with z |z
 .exact .inl ⟨by lia,by lia⟩
 .exact .inr ⟨by lia,by lia⟩
theorem Closed.least_sign{C:Cell -> Bool}{b:Edge}{es:List Edge}(h:Closed C b es)
  (hmin:∀f∈es,eV b<=eV f/\(eV f=eV b->eU b<=eU f)):(wW C b es.length-wW C b 0=4/\0<tt C (it C b (es.length-1))+tt C b)∨(wW C b es.length-wW C b 0=-4/\tt C (it C b (es.length-1))+tt C b<0):=by
 have hp:=h.pos;have hE:IsE C b:=h.1.2.2.1 b (Ag h.1.1);have hl:=h.it_len;have get:=h.1.get;have nd:=h.1.2.2.2;generalize hn:es.length=n at *;have mem:∀k,k<n->it C b k∈es:=λk hk=>Ag (get k hk)
 have inj:∀i j,i<j->j<n->it C b i≠it C b j:=λi j hij hj e=>by have:=(CS (i:=i) (j:=j) (by lia) nd).mp (by rw[get i (by lia),get j hj,e]);lia
 have n3:3<=n:=by
  have h0:=half hE 0;have h1:=half hE 1;have l1:=zfz hE 1;rcases AX n 3 with hlt |hge
  .exfalso;have:n=1∨n=2:=by lia
   rcases this with e |e
   .rw[e]at hl;have z:=h0.2.2;rw[show 0+1=1 from rfl,hl]at z;exact z ⟨by show eU b-eU b=0;lia,by show eV b-eV b=0;lia⟩
   .rw[e]at hl;have a:=(tt_ix (it_ok hE 0));have c:=(tt_ix (it_ok hE 1));obtain⟨s1,s2⟩:=zcq (it_ok hE 0);obtain⟨s3,s4⟩:=zcq (it_ok hE 1);change it C b (1+1)=b at hl;have hl':nxt C (it C b 1)=b:=hl;rw[hl']at s3 s4;have i0:it C b 0=b:=rfl;have i1:nxt C (it C b 0)=it C b 1:=rfl;obtain⟨i,hi,_,e2⟩:=a;rw[i1,i0]at s1 s2 e2;have hw:=hE.1;have hw1:=(it_ok hE 1).1;have x1:av b.w+av (it C b 1).w=1:=by lia
    have x2:bv b.w+bv (it C b 1).w=1:=by lia
    rw[e2]at x1 x2;exact zmJ _ hw _ hi ⟨x1,x2⟩
  .exact hge
 have key:=zmr (U:=λk=>eU (it C b k)) (V:=λk=>eV (it C b k)) n3
  (λk=>by obtain⟨s1,_⟩:=zcq (it_ok hE k);show -1<=eU (nxt C (it C b k))-eU (it C b k)/\eU (nxt C (it C b k))-eU (it C b k)<=1;have a:=zdE (it C b k).w;have c:=zdE (nxt C (it C b k)).w;lia)
  (λk=>by
   obtain⟨_,s1⟩:=zcq (it_ok hE k);show -1<=eV (nxt C (it C b k))-eV (it C b k)/\eV (nxt C (it C b k))-eV (it C b k)<=1;have a:bv (it C b k).w=0∨bv (it C b k).w=1:=by unfold bv;split <;> simp
   have c:bv (nxt C (it C b k)).w=0∨bv (nxt C (it C b k)).w=1:=by unfold bv;split <;> simp
   lia)
  (λi j hij hj hx z=>by
   have e:=e_inj (it_ok hE i) (it_ok hE j) (sub0 z.1) (sub0 z.2);rcases AX j n with hlt |hge
   .exact inj i j hij hlt e
   .have:j=n:=by lia
    rw[this,hl]at e;exact inj 0 i (by lia) (by lia) e.symm)
  (λi j hij hj z=>inj i j hij hj (zlW (it_ok hE i) (it_ok hE j) z.1 z.2))
  (by show eU (it C b n)=eU b;rw[hl]) (by show eV (it C b n)=eV b;rw[hl])
  (λk hk=>(hmin _ (mem k hk)).1) (λk hk=>(hmin _ (mem k hk)).2)
 have sE_th:∀k,sE (λk=>eU (it C b k)) (λk=>eV (it C b k)) k=th C b k / 8-th C b 0 / 8:=by
  intro k
  induction k with
  |zero=>show (0:Int)=_;lia
  |succ k ih =>
   have q:=(turn8 hE k).1;unfold crs at q;have e1:eU (it C b (k+1))-eU (it C b k)+(eU (it C b (k+2))-eU (it C b (k+1)))=eU (it C b (k+2))-eU (it C b k):=by lia
   have e2:eV (it C b (k+1))-eV (it C b k)+(eV (it C b (k+2))-eV (it C b (k+1)))=eV (it C b (k+2))-eV (it C b k):=by lia
   rw[e1,e2]at q;show sE (λk=>eU (it C b k)) (λk=>eV (it C b k)) k+hH (λk=>eU (it C b k)) (λk=>eV (it C b k)) k (k+1)+gG (λk=>eU (it C b k)) (λk=>eV (it C b k)) k (k+2)=_;rw[ih];unfold hH gG;show th C b k / 8-th C b 0 / 8+cr (eU (it C b (k+1))-eU (it C b k)) (eV (it C b (k+1))-eV (it C b k)) (eU (it C b (k+2))-eU (it C b k)) (eV (it C b (k+2))-eV (it C b k))+cr (eU (it C b (k+2))-eU (it C b k)) (eV (it C b (k+2))-eV (it C b k)) (eU (it C b (k+2))-eU (it C b (k+1))) (eV (it C b (k+2))-eV (it C b (k+1)))=_;lia
 obtain⟨m,rfl⟩:∃m,n=m+1:=⟨n-1,by lia⟩;rw[show m+1-1=m by lia,sE_th]at key;have i2:it C b (m+2)=it C b 1:=by show nxt C (it C b (m+1))=nxt C b;rw[hl]
 have q:=(turn8 hE m).2;rw[i2,hl]at q;unfold crs at q;unfold gG hH at key;simp only at key;rw[hl]at key;have z0:it C b 0=b:=rfl;rw[show 0+1=1 from rfl,z0]at key;have e1:-(eU b-eU (it C b m))+-(eU (it C b 1)-eU b)=eU (it C b m)-eU (it C b 1):=by lia
 have e2:-(eV b-eV (it C b m))+-(eV (it C b 1)-eV b)=eV (it C b m)-eV (it C b 1):=by lia
 have e3:-(eU b-eU (it C b m))=eU (it C b m)-eU b:=by lia
 have e4:-(eV b-eV (it C b m))=eV (it C b m)-eV b:=by lia
 have e5:-(eU (it C b 1)-eU b)=eU b-eU (it C b 1):=by lia
 have e6:-(eV (it C b 1)-eV b)=eV b-eV (it C b 1):=by lia
 rw[e1,e2,e3,e4,e5,e6]at q;rw[q]at key
 have u0:th C b 0 % 8<4:=by
  refine (half hE 0).1.mp ?_
  obtain⟨a,c⟩:=hmin _ (mem 1 (by lia));rw[z0];show 0<eV (it C b 1)-eV b∨(eV (it C b 1)-eV b=0/\0<=eU (it C b 1)-eU b);lia
 have um:4<=th C b m % 8:=by
  refine (half hE m).2.1.mp ?_
  obtain⟨a,c⟩:=hmin _ (mem m (by lia));rw[hl];lia
 have md:=zfz hE (m+1);rw[hl]at md;have w0:wW C b 0=(b.w:Int):=rfl;have wn:wW C b (m+1)=wW C b m+tt C (it C b m):=rfl;have t0:th C b 0=2*wW C b 0-1+tt C b:=rfl;have tm:th C b m=2*wW C b m-1+tt C (it C b m):=rfl;have tn:th C b (m+1)=2*wW C b (m+1)-1+tt C b:=by unfold th;rw[hl]
 obtain⟨i,hi,r1,_⟩:=tt_ix hE;obtain⟨j,hj,r2,_⟩:=tt_ix (it_ok hE m);rw[show m+1-1=m from rfl];exact zkg key u0 um (by lia) (by lia) (by lia) (by lia) (by lia)
theorem Closed.least_turn{C:Cell -> Bool}{b:Edge}{es:List Edge}(h:Closed C b es)
  (hmin:∀f∈es,eV b<=eV f/\(eV f=eV b->eU b<=eU f)):wW C b es.length-wW C b 0=4∨wW C b es.length-wW C b 0=-4 :=
 (h.least_sign hmin).imp And.left And.left
theorem Closed.head{C:Cell->Bool}{b a:Edge}{r:List Edge}(h:Closed C b (a::r)):a=b:=by have:=h.1.1;simpa using this
theorem Closed.rot1{C:Cell->Bool}{b c:Edge}{r:List Edge}(h:Closed C b (b::r))(hc:(r++[b])[0]?=some c):Closed C c (r++[b]):=by
 obtain⟨⟨h0,hs,hE,hn⟩,l,hl,hb⟩:=id h;refine⟨⟨hc,λi e f h1 h2=>?_,λe he=>hE e (by rcases AA.mp he with m |m;exact Ar _ m;rw[An.mp m];exact Az),?_⟩,?_⟩
 .have hi:=(Ad.mp h2).1;simp only[Ak,A7,DW]at hi;rw[AG (by lia)]at h1;rcases AX (i+1) r.length with q |q
  .rw[AG q]at h2;exact hs (i+1) e f (by simpa using h1) (by simpa using h2)
  .have e1:i+1=r.length:=by lia
   rw[A0 (by lia),e1]at h2;simp at h2;have e2:(b::r).length-1=i+1:=by simp;lia
   rw[e2]at hl;simp only[Cp]at hl;rw[hl]at h1
   cases h1
   rw[hb,h2]
 .rw[CQ];have:=B8.mp hn;exact⟨this.2,by simp,λx hx y hy e=>by rw[An.mp hy]at e;rw[e]at hx;exact this.1 hx⟩
 .refine⟨b,by simp,?_⟩
  cases r with
  |nil =>
   simp at hl hc;subst hc;subst hl;exact hb
  |cons a r =>
   simp at hc;have:=hs 0 b a rfl rfl;rw[<- this,hc]
theorem Closed.rot{C:Cell->Bool}:∀(j:Nat){b e:Edge}{es:List Edge},Closed C b es->es[j]?=some e->Closed C e (es.drop j++es.take j)
 | 0,b,e,es,h,he=>by
  have:=h.1.1;rw[he]at this
  cases this
  simpa using h
 |j+1,b,e,[],h,he=>by simp at he
 |j+1,b,e,a::r,h,he=>by
  have:=h.head;subst this;simp only[Cp]at he;have hj:=(Ad.mp he).1;obtain⟨c,hc⟩:∃c,(r++[a])[0]?=some c:=⟨_,Aa (by simp)⟩;have h1:=h.rot1 hc;have h2:=Closed.rot j h1 (by rw[AG hj];exact he);rw[List.drop_append_of_le_length (by lia),List.take_append_of_le_length (by lia)]at h2;simpa using h2
theorem zix{C:Cell->Bool}{b:Edge}{es:List Edge}(h:Chain C b es):∀i,i<=es.length->((es.take i).map (tt C)).sum=wW C b i-wW C b 0
 | 0,_=>by simp
 |i+1,hi=>by
  have ih:=zix h i (by lia);rw[DC,h.get i (by lia)];simp only[Option.toList_some,AJ,AR,List.map_nil,Dl,BQ,List.sum_nil];rw[ih];show _=wW C b i+tt C (it C b i)-wW C b 0;lia
theorem zcO:∀(es:List Edge),es≠[]->∃b∈es,∀f∈es,eV b<=eV f/\(eV f=eV b->eU b<=eU f)
 |[],h=>absurd rfl h
 |[a],_=>⟨a,by simp,λf hf=>by rw[An.mp hf];exact⟨D8 _,λ_=>D8 _⟩⟩
 |a::c::r,_=>by
  obtain⟨b,hb,q⟩:=zcO (c::r) (by simp)
  by_cases hl:eV b<eV a∨(eV b=eV a/\eU b<=eU a)
  .refine⟨b,Ar _ hb,λf hf=>?_⟩;rcases At.mp hf with rfl |hf
   .lia
   .exact q f hf
  .refine⟨a,Az,λf hf=>?_⟩;rcases At.mp hf with rfl |hf
   .lia
   .have:=q f hf;lia
theorem zgu(l:List Int)(j:Nat):(l.drop j++l.take j).sum=l.sum:=by
 have:=List.take_append_drop j l;rw[Dl]
 conv=>rhs;rw[<- this,Dl]
 lia
theorem Closed.turning{C:Cell->Bool}{b:Edge}{es:List Edge}(h:Closed C b es):(es.map (tt C)).sum=4∨(es.map (tt C)).sum=-4:=by
 have hp:=h.pos;obtain⟨e,he,q⟩:=zcO es (by intro z;rw[z]at hp;simp at hp);obtain⟨j,hj,ej⟩:=Ay he;have h1:=h.rot j (by rw[Aa hj,ej])
 have h2:=h1.least_turn (λf hf=>q f (by
  rcases AA.mp hf with m |m
  .exact List.mem_of_mem_drop m
  .exact CT m))
 rw[<- zix h1.1 _ (Aj _),AS,AJ,CC,CF,zgu]at h2;exact h2
theorem zdy(C:Cell->Bool):∀es:List Edge,(es.map (tt C)).sum=((es.filter λe=>(stepB C e).isNone).length:Int)-((es.filter λe=>slant (stepB C e)).length:Int)
 |[]=>rfl
 |e::r=>by
  have ih:=zdy C r
  have q:tt C e=(if (stepB C e).isNone=true then 1 else 0)-(if slant (stepB C e)=true then 1 else 0):=by
   unfold tt
   cases hs:stepB C e with
   |none=>rfl
   |some s =>
    by_cases h:s % 2=1
    .simp[slant,h]
    .have h0:s % 2=0:=by lia
     simp[slant,h0]
  simp only[AR,BQ,List.filter_cons];rw[q,ih];split <;> split <;> (try simp only[A7]) <;> lia
set_option synthInstance.maxSize 4000 in
set_option synthInstance.maxHeartbeats 400000 in
theorem zjA:∀y < 4, ∀i < 3, ∀j < 3, 0 <= bv ((y + j + 3) % 4) + bv (((y + j + 3) % 4 + i + 3) % 4)-1 -> (bv ((y + j + 3) % 4) + bv (((y + j + 3) % 4 + i + 3) % 4)-1=0 -> 0 <= av ((y + j + 3) % 4) + av (((y + j + 3) % 4 + i + 3) % 4)-1) ->
  bv y+bv ((y+j+3) % 4)-1<=0->(bv y+bv ((y+j+3) % 4)-1=0->av y+av ((y+j+3) % 4)-1<=0)->(2<i+j->(y+j+3) % 4=0)/\(i+j<2->(y+j+3) % 4=2):=by decide
theorem Closed.least_way{C:Cell -> Bool}{b:Edge}{es:List Edge}(h:Closed C b es)
  (hmin:∀f∈es,eV b<=eV f/\(eV f=eV b->eU b<=eU f)):(b.w=0/\(es.map (tt C)).sum=4)∨(b.w=2/\(es.map (tt C)).sum=-4):=by
 have hp:=h.pos;have hE:IsE C b:=h.1.2.2.1 b (Ag h.1.1);have hl:=h.it_len;have get:=h.1.get;have sg:=h.least_sign hmin;have ts:=zix h.1 es.length (Aj _);rw[AS]at ts;rw[<- ts]at sg;obtain⟨m,hm⟩:∃m,es.length=m+1:=⟨es.length-1,by lia⟩;rw[hm,show m+1-1=m from rfl]at sg;rw[hm]at hl;have hE':IsE C (it C b m):=it_ok hE m;have mm:it C b m∈es:=Ag (get m (by lia));have nb:nxt C (it C b m)=b:=hl
 have hn:nxt C b∈es:=by
  rcases AX 1 es.length with z |z
  .exact Ag (get 1 z)
  .have:m=0:=by lia
   subst this;have:nxt C b=b:=nb;rw[this];exact Ag h.1.1
 obtain⟨s1,s2⟩:=zcq hE;obtain⟨s3,s4⟩:=zcq hE';rw[nb]at s3 s4;obtain⟨i,hi,r1,r1'⟩:=tt_ix hE;obtain⟨j,hj,r2,r2'⟩:=tt_ix hE';rw[nb]at r2';have m1:=hmin _ hn;have m2:=hmin _ mm;have w0:=hE.1;have w1:=hE'.1;have w2:=(zdW hE).1;generalize (nxt C b).w=x at *;generalize (it C b m).w=y at *;generalize tt C (it C b m)=ta at *;generalize tt C b=tb at *;generalize b.w=z at *;subst r1';subst r2';obtain⟨t1,t2⟩:=zjA y w1 i hi j hj (by lia) (λq=>by have:=m1.2 (by lia);lia) (by lia) (λq=>by have:=m2.2 (by lia);lia);rcases sg with⟨g1,g2⟩ |⟨g1,g2⟩
 .exact .inl ⟨t1 (by lia),g1⟩
 .exact .inr ⟨t2 (by lia),g1⟩
theorem Closed.tele{C:Cell->Bool}{b:Edge}{es:List Edge}(h:Closed C b es){G g:Edge->Int}(hg:∀f∈es,G (nxt C f)=G f+g f):(es.map g).sum=0:=by
 have k:∀i,i<=es.length->((es.take i).map g).sum=G (it C b i)-G b:=by
  intro i
  induction i with
  |zero=>intro _;simp[it]
  |succ i ih =>
   intro hi;have h1:=h.1.get i (by lia);rw[DC,h1];simp only[Option.toList_some,AJ,AR,List.map_nil,Dl,BQ,List.sum_nil];rw[ih (by lia)];have:=hg _ (Ag h1);have e:it C b (i+1)=nxt C (it C b i):=rfl;rw[e,this];lia
 have:=k es.length (Aj _);rw[AS,h.it_len]at this;lia
theorem sums4{l:List Edge}{f g u v:Edge->Int}(h:∀e∈l,f e-g e=u e-v e):(l.map f).sum-(l.map g).sum=(l.map u).sum-(l.map v).sum:=by
 induction l with
 |nil=>simp
 |cons a r ih =>
  have h1:=h a Az;have h2:=ih λe he=>h e (Ar _ he)
  simp only[AR,BQ];lia
noncomputable def ind(es:List Edge)(a:Edge):Int:=if a∈es then 1 else 0
noncomputable def at1(a e:Edge):Int:=if e=a then 1 else 0
theorem zdH(a:Edge):∀{es:List Edge},es.Nodup->(es.map (at1 a)).sum=ind es a
 |[],_=>by simp[ind]
 |e::r,h=>by
  obtain⟨h1,h2⟩:=B8.mp h;have ih:=zdH a h2;simp only[AR,BQ,ih,ind,at1]
  by_cases z:e=a
  .subst z;rw[if_pos rfl,if_neg h1,if_pos Az];rfl
  .rw[if_neg z]
   by_cases y:a∈r
   .rw[if_pos y,if_pos (Ar _ y)];rfl
   .rw[if_neg y,if_neg]
    .rfl
    .intro m;rcases At.mp m with q |q
     .exact z q.symm
     .exact y q
noncomputable def wc(c:Cell)(e:Edge):Int:=if e.c.2=c.2/\c.1<px e then dy e.w else 0
noncomputable def wd(es:List Edge)(c:Cell):Int:=(es.map (wc c)).sum
theorem zjR{e:Edge}{x y:Int}{w:Nat}:e=⟨(x,y),w⟩ ↔ e.c.1=x/\e.c.2=y/\e.w=w:=by
 obtain⟨⟨a,b⟩,v⟩:=e;constructor
 .intro h;cases h;exact⟨rfl,rfl,rfl⟩
 .rintro⟨h1,h2,h3⟩;simp only at h1 h2 h3;rw[h1,h2,h3]
theorem zeK{es:List Edge}(h4:∀e∈es,e.w<4)(nd:es.Nodup)(x y:Int):wd es (x,y)-wd es (x+1,y)=ind es ⟨(x,y),1⟩ - ind es ⟨(x+1,y),3⟩:=by
 rw[<- zdH _ nd,<- zdH _ nd];refine sums4 λe he=>?_
 have hw:=h4 e he;unfold wc at1;simp only[zjR];obtain⟨⟨a,b⟩,v⟩:=e;simp only at hw;rcases way4 hw with rfl |rfl |rfl |rfl <;> simp[px,dy] <;> (repeat' split) <;> lia
theorem wd_up{C:Cell->Bool}{b:Edge}{es:List Edge}(h:Closed C b es)(x y:Int):wd es (x,y+1)-wd es (x,y)=ind es ⟨(x,y+1),0⟩ - ind es ⟨(x,y),2⟩:=by
 have hE:=h.1.2.2.1;have nd:=h.1.2.2.2
 have t:=h.tele (G:=λe=>if x<px e/\py e=y+1 then (1:Int) else 0)
  (g:=λe=>(wc (x,y) e-wc (x,y+1) e)+(at1 ⟨(x,y+1),0⟩ e-at1 ⟨(x,y),2⟩ e)) (λe he=>by obtain⟨p,q⟩:=zfP (hE e he);have hw:=(hE e he).1;rw[p,q];clear p q;unfold wc at1;simp only[zjR];obtain⟨⟨a,b⟩,v⟩:=e;simp only at hw;rcases way4 hw with rfl |rfl |rfl |rfl <;> simp[px,py,dx,dy] <;> (repeat' split) <;> lia)
 rw[<- zdH _ nd,<- zdH _ nd]
 have k:∀l:List Edge,(l.map λe=>(wc (x,y) e-wc (x,y+1) e)+(at1 ⟨(x,y+1),0⟩ e-at1 ⟨(x,y),2⟩ e)).sum=((l.map (wc (x,y))).sum-(l.map (wc (x,y+1))).sum)+((l.map (at1 ⟨(x,y+1),0⟩)).sum-(l.map (at1 ⟨(x,y),2⟩)).sum):=by
  intro l
  induction l with
  |nil=>simp
  |cons a r ih=>simp only[AR,BQ,ih];lia
 rw[k]at t;unfold wd;lia
noncomputable def fac(e:Edge):Edge:=⟨gap e,(e.w+2) % 4⟩
theorem zgs{C:Cell->Bool}{b:Edge}{es:List Edge}(h:Closed C b es)(e:Edge)(hw:e.w<4):wd es e.c-wd es (gap e)=ind es e-ind es (fac e):=by
 have hE:=h.1.2.2.1;have nd:=h.1.2.2.2;have r:=zeK (λe he=>(hE e he).1) nd;have u:=wd_up h;obtain⟨⟨a,c⟩,v⟩:=e;simp only at hw;unfold fac;rcases way4 hw with rfl |rfl |rfl |rfl <;> simp only[gap,go,mv]
 .have:=u a (c-1);rw[show c-1+1=c by lia]at this;simp;rw[show c+-1=c-1 by lia];exact this
 .have:=r a c;simpa using this
 .have:=u a c;simp;lia
 .have:=r (a-1) c;rw[show a-1+1=a by lia]at this;simp;rw[show a+-1=a-1 by lia];lia
theorem zjK{C:Cell->Bool}{b:Edge}{es:List Edge}(h:Closed C b es){e:Edge}(hn:¬ IsE C e):ind es e=0:=by unfold ind;rw[if_neg λm=>hn (h.1.2.2.1 e m)]
theorem zl2{e:Edge}(hw:e.w<4):gap (fac e)=e.c:=by obtain⟨⟨a,c⟩,v⟩:=e;simp only at hw;unfold fac;rcases way4 hw with rfl |rfl |rfl |rfl <;> simp[gap,go,mv] <;> lia
theorem zdF{C:Cell->Bool}{b:Edge}{es:List Edge}(h:Closed C b es)(e:Edge)(hw:e.w<4)(hC:C e.c=C (gap e)):wd es e.c=wd es (gap e):=by
 have k:=zgs h e hw
 rw[zjK h (e:=e) (λz=>by have:=z.2.1;have:=z.2.2;simp_all),zjK h (e:=fac e) (λz=>by
  have h1:=z.2.1;have h2:=z.2.2;rw[zl2 hw]at h2;have h1':C (gap e)=true:=h1
  simp_all)]at k
 lia
theorem zbN{C:Cell->Bool}{b:Edge}{es:List Edge}(h:Closed C b es){e:Edge}(he:IsE C e):wd es e.c=wd es (gap e)+ind es e:=by have k:=zgs h e he.1;rw[zjK h (e:=fac e) (λz=>by have h1:C (gap e)=true:=z.2.1;rw[he.2.2]at h1;cases h1)]at k;lia
inductive Rch (D:Cell->Bool) (S:List Nat) (a:Cell):Cell->Prop where
 |refl:Rch D S a a
 |step {c:Cell} {s:Nat}:Rch D S a c->s∈S->D (go c s)=true->Rch D S a (go c s)
theorem Rch.trans{D:Cell->Bool}{S:List Nat}{a b c:Cell}(h:Rch D S a b)(k:Rch D S b c):Rch D S a c:=by
 induction k with
 |refl=>exact h
 |step _ hs hd ih=>exact .step ih hs hd
theorem Rch.dom{D:Cell->Bool}{S:List Nat}{a b:Cell}(h:Rch D S a b)(ha:D a=true):D b=true:=by
 cases h with
 |refl=>exact ha
 |step _ _ hd=>exact hd
noncomputable def S8:List Nat:=[0,1,2,3,4,5,6,7]
noncomputable def S4:List Nat:=[0,2,4,6]
theorem zht{s:Nat}:s∈S8 ↔ s<8:=by unfold S8;simp;lia
theorem zfY{s:Nat}:s∈S4 ↔ ∃w,w<4/\s=(2*w+6) % 8:=by
 unfold S4;simp;constructor
 .rintro (rfl |rfl |rfl |rfl)
  .exact⟨1,by decide,by decide⟩
  .exact⟨2,by decide,by decide⟩
  .exact⟨3,by decide,by decide⟩
  .exact⟨0,by decide,by decide⟩
 .rintro⟨w,hw,rfl⟩;rcases way4 hw with rfl |rfl |rfl |rfl <;> decide
theorem Closed.mem_nxt{C:Cell->Bool}{b e:Edge}{es:List Edge}(h:Closed C b es)(he:e∈es):nxt C e∈es:=by
 obtain⟨⟨h0,hs,_,_⟩,l,hl,hb⟩:=h;obtain⟨i,hi,ei⟩:=Ay he;rcases AX (i+1) es.length with z |z
 .have:=hs i e es[i+1] (by rw[Aa hi,ei]) (Aa z);rw[<- this];exact AZ _
 .have hi':i=es.length-1:=by lia
  have:some e=some l:=by rw[<- hl,<- hi',Aa hi,ei]
  cases this
  rw[hb];exact Ag h0
theorem Closed.nxt_mem{C:Cell->Bool}{b e:Edge}{es:List Edge}(h:Closed C b es)(hE:IsE C e)(he:nxt C e∈es):e∈es:=by
 obtain⟨⟨h0,hs,hE',_⟩,l,hl,hb⟩:=h;obtain⟨i,hi,ei⟩:=Ay he
 cases i with
 |zero =>
  have:some (nxt C e)=some b:=by rw[<- h0,Aa hi,ei]
  cases this
  have lm:=Ag hl;rw[zdb hE (hE' l lm) hb.symm];exact lm
 |succ i =>
  have m:es[i]∈es:=AZ (by lia);have:=hs i es[i] _ (Aa (by lia)) (by rw[Aa hi,ei]);rw[zdb hE (hE' _ m) this];exact m
theorem Closed.ind_nxt{C:Cell->Bool}{b e:Edge}{es:List Edge}(h:Closed C b es)(hE:IsE C e):ind es (nxt C e)=ind es e:=by
 unfold ind
 by_cases z:e∈es
 .rw[if_pos z,if_pos (h.mem_nxt z)]
 .rw[if_neg z,if_neg λm=>z (h.nxt_mem hE m)]
theorem zkd{C:Cell->Bool}{b:Edge}{es:List Edge}(h:Closed C b es){c:Cell}{w:Nat}(hw:w<4)(hc:C c=true)(hd:C (go c ((2*w+7) % 8))=true):wd es c=wd es (go c ((2*w+7) % 8)):=by
 have g1:gap ⟨go c ((2*w+7) % 8),(w+3) % 4⟩=gap ⟨c,w⟩:=by unfold gap;simp only;rw[go_go (f1 w hw)]
 have hw3:(w+3) % 4<4:=A1 _ (by decide)
 by_cases hg:C (gap ⟨c,w⟩)=true
 .have a:=zdF h ⟨c,w⟩ hw (by rw[hg];exact hc);have d:=zdF h ⟨go c ((2*w+7) % 8),(w+3) % 4⟩ hw3 (by rw[g1,hg];exact hd);rw[g1]at d;exact a.trans d.symm
 .have hg':C (gap ⟨c,w⟩)=false:=by simpa using hg
  have hE:IsE C ⟨c,w⟩:=⟨hw,hc,hg'⟩;rcases zaJ hE with⟨_,_,q⟩ |⟨z,_⟩ |⟨z,_⟩
  .have a:=zbN h hE;have hn:=zdW hE;have i:=h.ind_nxt hE;have d:=zbN h hn;rw[i]at d;rw[q]at d;simp only at a d;rw[g1]at d;exact a.trans d.symm
  .simp only at z;rw[hd]at z;cases z
  .simp only at z;rw[hd]at z;cases z
theorem zlT{s:Nat}(h:s<8)(ho:s % 2=1):∃w,w<4/\s=(2*w+7) % 8:=⟨(s+1) / 2 % 4,A1 _ (by decide),by lia⟩
theorem zkK{s:Nat}(h:s<8)(ho:s % 2=0):∃w,w<4/\s=(2*w+6) % 8:=⟨(s / 2+1) % 4,A1 _ (by decide),by lia⟩
theorem zdx{C:Cell->Bool}{b:Edge}{es:List Edge}(h:Closed C b es){a c:Cell}(hc:Rch C S8 a c)(ha:C a=true):wd es c=wd es a:=by
 induction hc with
 |refl=>rfl
 |@step c s k hs hd ih =>
  have hc:=k.dom ha;have h8:=zht.mp hs;rw[<- ih];rcases Nat.mod_two_eq_zero_or_one s with z |z
  .obtain⟨w,hw,rfl⟩:=zkK h8 z;exact (zdF h ⟨c,w⟩ hw (hc.trans hd.symm)).symm
  .obtain⟨w,hw,rfl⟩:=zlT h8 z;exact (zkd h hw hc hd).symm
noncomputable abbrev no(C:Cell->Bool):Cell->Bool:=λc=>!C c
theorem zim{C:Cell->Bool}{b:Edge}{es:List Edge}(h:Closed C b es){a c:Cell}(hc:Rch (no C) S4 a c)(ha:C a=false):wd es c=wd es a:=by
 induction hc with
 |refl=>rfl
 |@step c s k hs hd ih =>
  have hc:=k.dom (by simp[no,ha]);simp only[no,Dw]at hc hd;obtain⟨w,hw,rfl⟩:=zfY.mp hs;rw[<- ih];exact (zdF h ⟨c,w⟩ hw (hc.trans hd.symm)).symm
theorem zkz{C:Cell->Bool}{e:Edge}(h:IsE C e):Rch C S8 e.c (nxt C e).c:=by
 have hw:=h.1;rcases zaJ h with⟨h1,_,q⟩ |⟨h1,h2,_,q⟩ |⟨h1,h2,_,q⟩ <;> rw[q]
 .exact .step .refl (zht.mpr (A1 _ (by decide))) h1
 .exact .step .refl (zht.mpr (by lia)) h2
 .exact .refl
theorem f9:∀w<4,mvAdd ((2*w+6) % 8) (2*w) ((2*w+7) % 8)=true:=by decide
theorem f10:∀w<4,mvAdd ((2*w+7) % 8) ((2*w+2) % 8) (2*w)=true:=by decide
theorem zlU{C:Cell->Bool}{e:Edge}(h:IsE C e):Rch (no C) S4 (gap e) (gap (nxt C e)):=by
 have hw:=h.1;have s0:2*e.w∈S4:=zfY.mpr ⟨(e.w+1) % 4,A1 _ (by decide),by lia⟩;have s2:(2*e.w+2) % 8∈S4:=zfY.mpr ⟨(e.w+2) % 4,A1 _ (by decide),by lia⟩;rcases zaJ h with⟨h1,_,q⟩ |⟨h1,h2,_,q⟩ |⟨h1,h2,_,q⟩ <;> rw[q]
 .have:gap ⟨go e.c ((2*e.w+7) % 8),(e.w+3) % 4⟩=gap e:=by unfold gap;simp only;rw[go_go (f1 _ hw)]
  rw[this];exact .refl
 .have e1:gap ⟨go e.c (2*e.w),e.w⟩=go (gap e) (2*e.w):=by unfold gap;simp only;rw[go_go (f2 _ hw),go_go (f9 _ hw)]
  rw[e1];refine .step .refl s0 ?_
  unfold gap;rw[go_go (f9 _ hw)];simp[no,h1]
 .have e1:gap ⟨e.c, (e.w + 1) % 4⟩ = go (go (gap e) (2 * e.w)) ((2 * e.w + 2) % 8) := by unfold gap;simp only;rw[f3 _ hw,go_go (f9 _ hw),go_go (f10 _ hw)]
  rw[e1];refine .step (.step .refl s0 ?_) s2 ?_
  .unfold gap;rw[go_go (f9 _ hw)];simp[no,h1]
  .unfold gap;rw[go_go (f9 _ hw),go_go (f10 _ hw)];simp[no,h2]
theorem Closed.reach{C:Cell->Bool}{b:Edge}{es:List Edge}(h:Closed C b es):∀e∈es,Rch C S8 b.c e.c/\Rch (no C) S4 (gap b) (gap e):=by
 have hE:IsE C b:=h.1.2.2.1 b (Ag h.1.1)
 have k:∀i,Rch C S8 b.c (it C b i).c/\Rch (no C) S4 (gap b) (gap (it C b i)):=by
  intro i
  induction i with
  |zero=>exact⟨.refl,.refl⟩
  |succ i ih=>exact⟨ih.1.trans (zkz (it_ok hE i)),ih.2.trans (zlU (it_ok hE i))⟩
 intro e he;obtain⟨i,hi,ei⟩:=Ay he;have:=h.1.get i hi;rw[Aa hi,ei]at this
 cases this
 exact k i
theorem Closed.from{C:Cell->Bool}{b e:Edge}{es:List Edge}(h:Closed C b es)(he:e∈es):∃fs,Closed C e fs/\(∀f,f∈fs ↔ f∈es)/\(fs.map (tt C)).sum=(es.map (tt C)).sum/\∀c,wd fs c=wd es c:=by
 obtain⟨j,hj,ej⟩:=Ay he;have h1:=h.rot j (by rw[Aa hj,ej]);refine⟨_,h1,λf=>?_,?_,λc=>?_⟩
 .constructor
  .intro hf;rcases AA.mp hf with m |m
   .exact List.mem_of_mem_drop m
   .exact CT m
  .intro hf;rw[<- List.take_append_drop j es]at hf;rcases AA.mp hf with m |m
   .exact Ap _ m
   .exact Bf _ m
 .rw[AJ,CC,CF,zgu]
 .unfold wd;rw[AJ,CC,CF,zgu]
theorem zc1{es:List Edge}{c:Cell}(h:∀e∈es,e.w=1∨e.w=3->¬ (e.c.2=c.2/\c.1<px e)):wd es c=0:=by
 unfold wd
 induction es with
 |nil=>rfl
 |cons a r ih =>
  have ih':=ih λe he=>h e (Ar _ he)
  have h1:=h a Az;simp only[AR,BQ,ih'];unfold wc dy;split
  .rename_i q
   split
   .rename_i w1;exact absurd q (h1 (.inl w1))
   .split
    .rename_i w3;exact absurd q (h1 (.inr w3))
    .rfl
  .rfl
theorem Closed.inside{C:Cell -> Bool}{b:Edge}{es:List Edge}(h:Closed C b es) :
  ((es.map (tt C)).sum=4/\∀e∈es,wd es e.c=1/\wd es (gap e)=0)∨((es.map (tt C)).sum=-4/\∀e∈es,wd es e.c=0/\wd es (gap e)=-1):=by
 have hp:=h.pos;obtain⟨a,ha,q⟩:=zcO es (by intro z;rw[z]at hp;simp at hp);obtain⟨fs,h1,hm,hs,hv⟩:=h.from ha;have lw:=h1.least_way λf hf=>q f ((hm f).mp hf)
 rw[hs]at lw;have hE:IsE C a:=h.1.2.2.1 a ha
 have all:∀{u v:Int},wd es a.c=u->wd es (gap a)=v->∀e∈es,wd es e.c=u/\wd es (gap e)=v:=λhu hv e he=>by obtain⟨r1,r2⟩:=h1.reach e ((hm e).mpr he);exact⟨(zdx h r1 hE.2.1).trans hu,(zim h r2 hE.2.2).trans hv⟩
 have cr:=zbN h hE;have i1:ind es a=1:=by unfold ind;rw[if_pos ha]
 rw[i1]at cr;rcases lw with⟨w,s⟩ |⟨w,s⟩
 .left
  have z:wd es (gap a)=0:=zc1 λe he hw ⟨k1,k2⟩=>by have:=(q e he).1;obtain⟨⟨x,y⟩,v⟩:=a;simp only at w;subst w;obtain⟨⟨x',y'⟩,v'⟩:=e;simp only at hw;rcases hw with rfl |rfl <;> simp[gap,go,mv,px,py,eV,bv]at this k1 k2 <;> lia
  exact⟨s,all (by lia) z⟩
 .right
  have z:wd es a.c=0:=zc1 λe he hw ⟨k1,k2⟩=>by have:=(q e he).1;obtain⟨⟨x,y⟩,v⟩:=a;simp only at w;subst w;obtain⟨⟨x',y'⟩,v'⟩:=e;simp only at hw;rcases hw with rfl |rfl <;> simp[px,py,eV,bv]at this k1 k2 <;> lia
  exact⟨s,all z (by lia)⟩
noncomputable def cLe(c d:Cell):Prop:=c.2<d.2∨(c.2=d.2/\c.1<=d.1)
theorem cLe.refl(c:Cell):cLe c c:=.inr ⟨rfl,D8 _⟩
theorem cLe.trans{a b c:Cell}(h:cLe a b)(k:cLe b c):cLe a c:=by unfold cLe at *;lia
theorem cLe.total(a b:Cell):cLe a b∨cLe b a:=by unfold cLe;lia
theorem zdn(P:Cell->Prop):∀(cs:List Cell),(∃c∈cs,P c)->∃c∈cs,P c/\∀d∈cs,P d->cLe c d
 |[],h=>by obtain⟨c,hc,_⟩:=h;cases hc
 |a::r,h=>by
  by_cases hr:∃c∈r,P c
  .obtain⟨c,hc,pc,k⟩:=zdn P r hr
   by_cases pa:P a
   .rcases cLe.total a c with z |z
    .refine⟨a,Az,pa,λd hd pd=>?_⟩;rcases At.mp hd with rfl |hd
     .exact .refl _
     .exact z.trans (k d hd pd)
    .refine⟨c,Ar _ hc,pc,λd hd pd=>?_⟩;rcases At.mp hd with rfl |hd
     .exact z
     .exact k d hd pd
   .refine⟨c,Ar _ hc,pc,λd hd pd=>?_⟩;rcases At.mp hd with rfl |hd
    .exact absurd pd pa
    .exact k d hd pd
  .obtain⟨c,hc,pc⟩:=h;rcases At.mp hc with rfl |hc
   .refine⟨c,Az,pc,λd hd pd=>?_⟩;rcases At.mp hd with rfl |hd
    .exact .refl _
    .exact absurd ⟨d,hd,pd⟩ hr
   .exact absurd ⟨c,hc,pc⟩ hr
theorem gap2(c:Cell):gap ⟨c,2⟩=(c.1,c.2+1):=by simp[gap,go,mv]
theorem zlr{C:Cell->Bool}{b:Edge}{es:List Edge}(h:Closed C b es){c:Cell}(hl:∀e∈es,e.w=1∨e.w=3->e.c.2=c.2->c.1<px e):wd es c=0:=by
 have t:=h.tele (G:=λe=>if c.2<py e then (1:Int) else 0) (g:=wc c) (λe he=>by obtain⟨_,q⟩:=zfP (h.1.2.2.1 e he);have hw:=(h.1.2.2.1 e he).1;have hl':=hl e he;rw[q];unfold wc;obtain⟨⟨x,y⟩,v⟩:=e;simp only at hw;rcases way4 hw with rfl |rfl |rfl |rfl <;> simp[px,py,dy]at hl' ⊢ <;> (repeat' split) <;> lia)
 exact t
theorem zkU{C:Cell->Bool}{b:Edge}{es:List Edge}(h:Closed C b es){c:Cell}(hz:wd es c≠0):∃e∈es,∃f∈es,e.c.2=c.2/\f.c.2=c.2/\px e<=c.1/\c.1<px f/\(e.w=1∨e.w=3)/\(f.w=1∨f.w=3):=by
 apply BJ
 intro hn
 by_cases k:∃f∈es,f.c.2=c.2/\c.1<px f/\(f.w=1∨f.w=3)
 .obtain⟨f,hf,k1,k2,k3⟩:=k
  apply hz
  refine zlr h λe he hw hr=>?_
  rcases Int.lt_or_le c.1 (px e) with z |z
  .exact z
  .exact absurd ⟨e,he,f,hf,hr,k1,z,k2,hw,k3⟩ hn
 .apply hz
  exact zc1 λe he hw ⟨k1,k2⟩=>k ⟨e,he,k1,k2,hw⟩
noncomputable def boxE(es:List Edge):List Cell:=es.flatMap λe=>es.flatMap λf=>(AO (px f-px e).toNat).map λi:Nat=>(px e+(i:Int),e.c.2)
theorem zkB{C:Cell->Bool}{b:Edge}{es:List Edge}(h:Closed C b es){c:Cell}(hz:wd es c≠0):c∈boxE es:=by obtain⟨e,he,f,hf,r1,r2,l1,l2,_⟩:=zkU h hz;refine BF.mpr ⟨e,he,BF.mpr ⟨f,hf,Aq.mpr ⟨(c.1-px e).toNat,Bp.mpr (by lia),?_⟩⟩⟩;exact Ch (by show px e+((c.1-px e).toNat:Int)=c.1;lia) r1
theorem zmU(c:Cell){s:Nat}(h:s<8):go (go c s) ((s+4) % 8)=c:=by
 have:∀s<8,mvNil s ((s+4) % 8)=true:=by decide
 exact zgT (this s h)
theorem Rch.symm{D:Cell->Bool}{S:List Nat}(hS:∀s∈S,s<8/\(s+4) % 8∈S){a c:Cell}(h:Rch D S a c)(ha:D a=true):Rch D S c a:=by
 induction h with
 |refl=>exact .refl
 |@step c s k hs hd ih =>
  obtain⟨h1,h2⟩:=hS s hs;have e:=zmU c h1
  have:Rch D S (go c s) c:=by have:=Rch.step (D:=D) (S:=S) (a:=go c s) .refl h2 (by rw[e];exact k.dom ha);rw[e]at this;exact this
  exact this.trans ih
theorem zfr:∀s∈S4,s<8/\(s+4) % 8∈S4:=by decide
theorem Rch.mono{D D':Cell->Bool}{S:List Nat}{a c:Cell}(h:Rch D S a c)(hD:∀x,D x=true->D' x=true):Rch D' S a c:=by
 induction h with
 |refl=>exact .refl
 |step _ hs hd ih=>exact .step ih hs (hD _ hd)
theorem zky{C D:Cell->Bool}{e:Edge}(h:IsE C e)(hD:∀s,s<8->C (go e.c s)=false->D (go e.c s)=true):Rch D S4 (gap e) (gap (nxt C e)):=by
 have hw:=h.1;have s0:2*e.w∈S4:=zfY.mpr ⟨(e.w+1) % 4,A1 _ (by decide),by lia⟩;have s2:(2*e.w+2) % 8∈S4:=zfY.mpr ⟨(e.w+2) % 4,A1 _ (by decide),by lia⟩;rcases zaJ h with⟨h1,_,q⟩ |⟨h1,h2,_,q⟩ |⟨h1,h2,_,q⟩ <;> rw[q]
 .have:gap ⟨go e.c ((2*e.w+7) % 8),(e.w+3) % 4⟩=gap e:=by unfold gap;simp only;rw[go_go (f1 _ hw)]
  rw[this];exact .refl
 .have e1:gap ⟨go e.c (2*e.w),e.w⟩=go (gap e) (2*e.w):=by unfold gap;simp only;rw[go_go (f2 _ hw),go_go (f9 _ hw)]
  rw[e1];refine .step .refl s0 ?_
  unfold gap;rw[go_go (f9 _ hw)];exact hD _ (A1 _ (by decide)) h1
 .have e1:gap ⟨e.c, (e.w + 1) % 4⟩ = go (go (gap e) (2 * e.w)) ((2 * e.w + 2) % 8) := by unfold gap;simp only;rw[f3 _ hw,go_go (f9 _ hw),go_go (f10 _ hw)]
  rw[e1];refine .step (.step .refl s0 ?_) s2 ?_
  .unfold gap;rw[go_go (f9 _ hw)];exact hD _ (A1 _ (by decide)) h1
  .unfold gap;rw[go_go (f9 _ hw),go_go (f10 _ hw)];exact hD _ (by lia) h2
theorem Closed.reachD{C D:Cell->Bool}{b:Edge}{es:List Edge}(h:Closed C b es)(hD:∀e∈es,∀s,s<8->C (go e.c s)=false->D (go e.c s)=true):∀e∈es,Rch D S4 (gap b) (gap e):=by
 have get:=h.1.get
 have k:∀i,i<es.length->Rch D S4 (gap b) (gap (it C b i)):=by
  intro i
  induction i with
  |zero=>intro _;exact .refl
  |succ i ih =>
   intro hi;have m:=Ag (get i (by lia));exact (ih (by lia)).trans (zky (h.1.2.2.1 _ m) (hD _ m))
 intro e he;obtain⟨i,hi,ei⟩:=Ay he;have:=get i hi;rw[Aa hi,ei]at this
 cases this
 exact k i hi
theorem Closed.piece{C:Cell->Bool}{b:Edge}{es:List Edge}(h:Closed C b es){P:List Cell}(hP:∀c,c∈P ↔ Rch C S8 b.c c):Closed (isIn P) b es/\(es.map (tt (isIn P))).sum=(es.map (tt C)).sum:=by
 have hE:=h.1.2.2.1;have hb:C b.c=true:=(hE b (Ag h.1.1)).2.1;have inP:∀e∈es,e.c∈P:=λe he=>(hP _).mpr (h.reach e he).1
 have near:∀e∈es,∀s,s<8->isIn P (go e.c s)=C (go e.c s):=λe he s hs=>by
  have r:=(hP _).mp (inP e he)
  cases z:C (go e.c s) with
  |true=>exact decide_eq_true ((hP _).mpr (.step r (zht.mpr hs) z))
  |false =>
   refine decide_eq_false λm=>?_
   have:=((hP _).mp m).dom hb;rw[z]at this;cases this
 have st:∀e∈es,stepB (isIn P) e=stepB C e:=λe he=>by unfold stepB;rw[near e he _ (A1 _ (by decide)),near e he _ (by have:=(hE e he).1;lia)]
 have nx:∀e∈es,nxt (isIn P) e=nxt C e:=λe he=>by unfold nxt;rw[st e he]
 obtain⟨⟨h0,hs,_,nd⟩,l,hl,hlb⟩:=h;refine⟨⟨⟨h0,λi e f h1 h2=>by rw[nx e (Ag h1)];exact hs i e f h1 h2,λe he=>⟨(hE e he).1,decide_eq_true (inP e he),?_⟩,nd⟩,l,hl,by rw[nx l (Ag hl)];exact hlb⟩,?_⟩
 .unfold gap;rw[near e he _ (A1 _ (by decide))];exact (hE e he).2.2
 .congr 1
  apply B7
  intro e he;unfold tt;rw[st e he]
structure BoxOf (P:List Cell) (l lo r hi:Int):Prop where
 all:∀c∈P,l<c.1/\c.1<r/\lo<c.2/\c.2<hi
 bot:∃c∈P,c.2=lo+1
noncomputable def inBox(l lo r hi:Int)(c:Cell):Prop:=l<=c.1/\c.1<=r/\lo<=c.2/\c.2<=hi
theorem BoxOf.near{P:List Cell}{l lo r hi:Int}(h:BoxOf P l lo r hi){c:Cell}(hc:c∈P)(s:Nat):inBox l lo r hi (go c s):=by
 have:=h.all c hc
 have h1:-1<=(mv s).1/\(mv s).1<=1/\-1<=(mv s).2/\(mv s).2<=1:=by
  rcases AX s 8 with z |z
  .have:∀s<8,-1<=(mv s).1/\(mv s).1<=1/\-1<=(mv s).2/\(mv s).2<=1:=by decide
   exact this s z
  .unfold mv;rw[AC,BO (by simpa using z)];decide
 unfold inBox go;simp only;lia
theorem wd_in{C:Cell->Bool}{b:Edge}{es:List Edge}(h:Closed C b es){P:List Cell}(hP:∀e∈es,e.c∈P){l lo r hi:Int}(hb:BoxOf P l lo r hi){c:Cell}(hz:wd es c≠0):l<=c.1/\c.1<=r/\lo<c.2/\c.2<hi:=by obtain⟨e,he,f,hf,r1,r2,l1,l2,w1,w2⟩:=zkU h hz;have a1:=hb.all _ (hP e he);have a2:=hb.all _ (hP f hf);unfold px at l1 l2;split at l1 <;> split at l2 <;> lia
structure FreeOf (D:Cell->Bool) (P:List Cell) (l lo r hi:Int):Prop where
 iff:∀c,D c=true ↔ (inBox l lo r hi c/\c ∉ P)
theorem go6(g:Cell):go g 6=(g.1,g.2-1):=by simp[go,mv];lia
section
variable {C D:Cell->Bool}{b:Edge}{es:List Edge}{P:List Cell}{l lo r hi:Int}
theorem zd6{L:List Cell}(hF:FreeOf D P l lo r hi){a:Cell}(ha:D a=true)(hl:∀d, Rch D S4 a d -> d ∈ L)(hlo:∀d, Rch D S4 a d -> lo < d.2) :
  ∃h,Rch D S4 a h/\(h.1,h.2-1)∈P:=by
 obtain⟨h,_,rh,kh⟩:=zdn (λd=>Rch D S4 a d) L ⟨a,hl a .refl,.refl⟩;refine⟨h,rh,?_⟩
 apply BJ
 intro hn;have hD:=rh.dom ha;obtain⟨⟨i1,i2,i3,i4⟩,_⟩:=(hF.iff h).mp hD;have hl':=hlo h rh;have e6:=go6 h;have rr:Rch D S4 a (go h 6):=.step rh (by decide) (by rw[e6];exact (hF.iff _).mpr ⟨⟨by simpa using i1,by simpa using i2,by simp only;lia,by simp only;lia⟩,hn⟩);have:=kh _ (hl _ rr) rr;rw[e6]at this;simp[cLe]at this;lia
theorem zeL(h:Closed C b es)(hP:∀c,c∈P ↔ Rch C S8 b.c c)(hF:FreeOf D P l lo r hi){a c:Cell}(hc:Rch D S4 a c)(ha:D a=true):wd es c=wd es a:=by
 obtain⟨h1,_⟩:=h.piece hP;refine zim h1 (hc.mono λx hx=>?_) ?_
 .have:=((hF.iff x).mp hx).2;simp[no,isIn,this]
 .exact decide_eq_false ((hF.iff a).mp ha).2
theorem zf5(h:Closed C b es)(hP:∀c,c∈P ↔ Rch C S8 b.c c)(hB:BoxOf P l lo r hi)(hF:FreeOf D P l lo r hi):∀e∈es,Rch D S4 (gap b) (gap e)/\D (gap e)=true:=by
 obtain⟨h1,_⟩:=h.piece hP;have inP:∀e∈es,e.c∈P:=λe he=>(hP _).mpr (h.reach e he).1
 intro e he;refine⟨h1.reachD (λe he s hs hn=>(hF.iff _).mpr ⟨hB.near (inP e he) s,of_decide_eq_false hn⟩) e he,(hF.iff _).mpr ⟨hB.near (inP e he) _,of_decide_eq_false (h1.1.2.2.1 e he).2.2⟩⟩
theorem zkF(h:Closed C b es)(hs:(es.map (tt C)).sum=-4)(hP:∀c,c∈P ↔ Rch C S8 b.c c)(hB:BoxOf P l lo r hi)(hF:FreeOf D P l lo r hi)(c:Cell):Rch D S4 (gap b) c ↔ wd es c=-1:=by
 have bm:b∈es:=Ag h.1.1;have inP:∀e∈es,e.c∈P:=λe he=>(hP _).mpr (h.reach e he).1
 have hbC:C b.c=true:=(h.1.2.2.1 b bm).2.1
 have ins:∀e∈es,wd es e.c=0/\wd es (gap e)=-1:=by
  rcases h.inside with⟨s,_⟩ |⟨_,k⟩
  .lia
  .exact k
 have fg:=zf5 h hP hB hF;constructor
 .intro hc;rw[zeL h hP hF hc (fg b bm).2];exact (ins b bm).2
 .intro hc;have hz:wd es c≠0:=by rw[hc];decide
  have pz:∀x∈P,wd es x=0:=λx hx=>(zdx h ((hP x).mp hx) hbC).trans (ins b bm).1
  have cD:D c=true:=by have:=wd_in h inP hB hz;exact (hF.iff c).mpr ⟨⟨by lia,by lia,by lia,by lia⟩,λm=>hz (pz c m)⟩
  have lots:∀d,Rch D S4 c d->wd es d=-1:=λd hd=>(zeL h hP hF hd cD).trans hc
  obtain⟨g,rg,hg⟩:=zd6 (L:=boxE es) hF cD (λd hd=>zkB h (by rw[lots d hd];decide)) (λd hd=>(wd_in h inP hB (by rw[lots d hd];decide)).2.2.1);obtain⟨h1,_⟩:=h.piece hP;have gD:=rg.dom cD;have gp:gap ⟨(g.1,g.2-1),2⟩=g:=by rw[gap2];exact Ch rfl (by simp)
  have eE:IsE (isIn P) ⟨(g.1,g.2-1),2⟩:=⟨(by show (2:Nat)<4;decide),decide_eq_true hg,by rw[gp];exact decide_eq_false ((hF.iff g).mp gD).2⟩;have cr:=zbN h1 eE;rw[gp,lots g rg,pz _ hg]at cr
  have me:⟨(g.1,g.2-1),2⟩∈es:=by
   unfold ind at cr
   by_cases z:⟨(g.1,g.2-1),2⟩∈es
   .exact z
   .rw[if_neg z]at cr;lia
  have:=(fg _ me).1;rw[gp]at this;exact this.trans (rg.symm zfr cD)
theorem zlD(h:Closed C b es)(hs:(es.map (tt C)).sum=4)(hP:∀c,c∈P ↔ Rch C S8 b.c c)(hB:BoxOf P l lo r hi)(hF:FreeOf D P l lo r hi){c:Cell}(hc:D c=true):Rch D S4 (l,lo) c ↔ wd es c=0:=by
 have bm:b∈es:=Ag h.1.1;have inP:∀e∈es,e.c∈P:=λe he=>(hP _).mpr (h.reach e he).1
 have hbC:C b.c=true:=(h.1.2.2.1 b bm).2.1
 have ins:∀e∈es,wd es e.c=1/\wd es (gap e)=0:=by
  rcases h.inside with⟨_,k⟩ |⟨s,_⟩
  .exact k
  .lia
 have fg:=zf5 h hP hB hF;have bx:=hB.all _ (inP b bm);have cornerP:∀x,(x,lo) ∉ P:=λx m=>by have:=hB.all _ m;simp only at this;lia
 have cD:D (l,lo)=true:=(hF.iff _).mpr ⟨⟨by simp,by simp only;lia,by simp,by simp only;lia⟩,cornerP l⟩;have wlow:∀x,wd es (x,lo)=0:=λx=>zc1 λe he _ ⟨k1,_⟩=>by have:=hB.all _ (inP e he);simp only at k1;lia
 have pz:∀x∈P,wd es x=1:=λx hx=>(zdx h ((hP x).mp hx) hbC).trans (ins b bm).1
 have row:∀n:Nat,l+n<=r->Rch D S4 (l,lo) (l+n,lo):=by
  intro n
  induction n with
  |zero=>intro _;simp;exact .refl
  |succ n ih =>
   intro hn;have e0:go (l+(n:Int),lo) 0=(l+((n+1:Nat):Int),lo):=by simp[go,mv];lia
   rw[<- e0];refine .step (ih (by lia)) (by decide) ?_
   rw[e0];exact (hF.iff _).mpr ⟨⟨by simp only;lia,by simp only;lia,by simp,by simp only;lia⟩,cornerP _⟩
 constructor
 .intro k;rw[zeL h hP hF k cD];exact wlow l
 .intro hz
  apply BJ
  intro hn;have lots:∀d,Rch D S4 c d->wd es d=0:=λd hd=>(zeL h hP hF hd hc).trans hz
  have up:∀d,Rch D S4 c d->lo<d.2:=λd hd=>by
   have dD:=hd.dom hc;obtain⟨⟨i1,i2,i3,i4⟩,_⟩:=(hF.iff d).mp dD;rcases Int.lt_or_le lo d.2 with z |z
   .exact z
   .exfalso;have e2:d.2=lo:=by lia
    have:=row (d.1-l).toNat (by lia);rw[show l+(((d.1-l).toNat:Nat):Int)=d.1 by lia]at this;have ed:d=(d.1,lo):=Ch rfl e2;rw[<- ed]at this;exact hn (this.trans (hd.symm zfr hc))
  obtain⟨L,hL⟩:∃L:List Cell,∀d,inBox l lo r hi d->d∈L:=⟨(AO (r-l+1).toNat).flatMap λi:Nat=>(AO (hi-lo+1).toNat).map λj:Nat=>((l+(i:Int),lo+(j:Int)):Cell),λd ⟨a1,a2,a3,a4⟩ =>
   BF.mpr ⟨(d.1-l).toNat,Bp.mpr (by lia),Aq.mpr ⟨(d.2-lo).toNat,Bp.mpr (by lia),Ch (by show l+(((d.1-l).toNat:Nat):Int)=d.1;lia) (by show lo+(((d.2-lo).toNat:Nat):Int)=d.2;lia)⟩⟩⟩
  obtain⟨g,rg,hg⟩:=zd6 (L:=L) hF hc (λd hd=>hL d ((hF.iff d).mp (hd.dom hc)).1) up;obtain⟨h1,_⟩:=h.piece hP;have gD:=rg.dom hc;have gp:gap ⟨(g.1,g.2-1),2⟩=g:=by rw[gap2];exact Ch rfl (by simp)
  have eE:IsE (isIn P) ⟨(g.1,g.2-1),2⟩:=⟨(by show (2:Nat)<4;decide),decide_eq_true hg,by rw[gp];exact decide_eq_false ((hF.iff g).mp gD).2⟩;have cr:=zbN h1 eE;rw[gp,lots g rg,pz _ hg]at cr
  have me:⟨(g.1,g.2-1),2⟩∈es:=by
   unfold ind at cr
   by_cases z:⟨(g.1,g.2-1),2⟩∈es
   .exact z
   .rw[if_neg z]at cr;lia
  obtain⟨c0,m0,q0⟩:=hB.bot;have g0:gap ⟨c0,0⟩=(c0.1,lo):=by simp[gap,go,mv];lia
  have E0:IsE (isIn P) ⟨c0,0⟩:=⟨(by show (0:Nat)<4;decide),decide_eq_true m0,by rw[g0];exact decide_eq_false (cornerP _)⟩;have cr0:=zbN h1 E0;rw[g0,wlow,show (⟨c0,0⟩:Edge).c=c0 from rfl,pz _ m0]at cr0
  have m00:⟨c0,0⟩∈es:=by
   unfold ind at cr0
   by_cases z:⟨c0,0⟩∈es
   .exact z
   .rw[if_neg z]at cr0;lia
  have r1:=(fg _ me).1;have r0:=(fg _ m00).1;rw[gp]at r1;rw[g0]at r0;have b0:=hB.all c0 m0;have rr:=row (c0.1-l).toNat (by lia);rw[show l+(((c0.1-l).toNat:Nat):Int)=c0.1 by lia]at rr;exact hn (rr.trans ((r0.symm zfr (fg b bm).2).trans (r1.trans (rg.symm zfr hc))))
theorem wd_01(h:Closed C b es)(hs:(es.map (tt C)).sum=4)(c:Cell):wd es c=0∨wd es c=1:=by
 have ins:∀e∈es,wd es e.c=1/\wd es (gap e)=0:=by
  rcases h.inside with⟨_,k⟩ |⟨s,_⟩
  .exact k
  .lia
 have r:=zeK (λe he=>(h.1.2.2.1 e he).1) h.1.2.2.2
 have far:∃M:Int,∀e∈es,px e<=M:=by
  generalize es=l
  induction l with
  |nil=>exact⟨0,λe he=>by cases he⟩
  |cons a l ih =>
   obtain⟨M,hM⟩:=ih
   exact⟨max M (px a),λe he=>by
    rcases At.mp he with rfl |he
    .lia
    .have:=hM e he;lia⟩
 obtain⟨M,hM⟩:=far
 have k:∀(n:Nat) (x y:Int),M-x<=n->wd es (x,y)=0∨wd es (x,y)=1:=by
  intro n
  induction n with
  |zero =>
   intro x y hx;exact .inl (zc1 λe he _ ⟨_,k2⟩=>by have:=hM e he;simp only at k2;lia)
  |succ n ih =>
   intro x y hx;have i:=ih (x+1) y (by lia);have rr:=r x y
   by_cases m1:⟨(x,y),1⟩∈es
   .exact .inr (ins _ m1).1
   by_cases m3:⟨(x+1,y),3⟩∈es
   .have:=(ins _ m3).2;rw[show gap ⟨(x+1,y),3⟩=(x,y) by simp[gap,go,mv];lia]at this;exact .inl this
   .unfold ind at rr;rw[if_neg m1,if_neg m3]at rr;rcases i with i |i
    .left;lia
    .right;lia
 exact k (M-c.1).toNat c.1 c.2 (by lia)
theorem wd_0m(h:Closed C b es)(hs:(es.map (tt C)).sum=-4)(c:Cell):wd es c=0∨wd es c=-1:=by
 have ins:∀e∈es,wd es e.c=0/\wd es (gap e)=-1:=by
  rcases h.inside with⟨s,_⟩ |⟨_,k⟩
  .lia
  .exact k
 have r:=zeK (λe he=>(h.1.2.2.1 e he).1) h.1.2.2.2
 have far:∃M:Int,∀e∈es,px e<=M:=by
  generalize es=l
  induction l with
  |nil=>exact⟨0,λe he=>by cases he⟩
  |cons a l ih =>
   obtain⟨M,hM⟩:=ih
   exact⟨max M (px a),λe he=>by
    rcases At.mp he with rfl |he
    .lia
    .have:=hM e he;lia⟩
 obtain⟨M,hM⟩:=far
 have k:∀(n:Nat) (x y:Int),M-x<=n->wd es (x,y)=0∨wd es (x,y)=-1:=by
  intro n
  induction n with
  |zero =>
   intro x y hx;exact .inl (zc1 λe he _ ⟨_,k2⟩=>by have:=hM e he;simp only at k2;lia)
  |succ n ih =>
   intro x y hx;have i:=ih (x+1) y (by lia);have rr:=r x y
   by_cases m1:⟨(x,y),1⟩∈es
   .exact .inl (ins _ m1).1
   by_cases m3:⟨(x+1,y),3⟩∈es
   .have:=(ins _ m3).2;rw[show gap ⟨(x+1,y),3⟩=(x,y) by simp[gap,go,mv];lia]at this;exact .inr this
   .unfold ind at rr;rw[if_neg m1,if_neg m3]at rr;rcases i with i |i
    .left;lia
    .right;lia
 exact k (M-c.1).toNat c.1 c.2 (by lia)
end
section
variable {D:Cell->Bool}{P:List Cell}{l lo r hi:Int}
theorem zmY(hB:BoxOf P l lo r hi)(hF:FreeOf D P l lo r hi):D (l,lo)=true:=by obtain⟨c,hc,_⟩:=hB.bot;have:=hB.all c hc;refine (hF.iff _).mpr ⟨⟨by simp,by simp only;lia,by simp,by simp only;lia⟩,λm=>?_⟩;have:=hB.all _ m;simp only at this;lia
end
section
variable {C D:Cell->Bool}{b:Edge}{es:List Edge}{P:List Cell}{l lo r hi:Int}
end
noncomputable def zax(s:Nat):Nat:=(s+1) / 2 % 4
noncomputable def wayB(s:Nat):Nat:=(zax s+4-s % 2) % 4
noncomputable def dgo:Nat->List Nat->List (Option Nat)×Nat
 |w,[]=>([],w)
 |w,s::r=>(Ah ((zax s+4-w) % 4) none++some s::(dgo (wayB s) r).1,(dgo (wayB s) r).2)
noncomputable def zaE(w:Nat)(row:List Nat):Nat:=if row.isEmpty then 4 else (w+4-(dgo w row).2) % 4
noncomputable def deeds(w:Nat)(row:List Nat):List (Option Nat):=(dgo w row).1++Ah (zaE w row) none
theorem zha{C:Cell->Bool}{e:Edge}(h:IsE C e){s:Nat}(hs:stepB C e=some s):zax s=e.w/\wayB s=(nxt C e).w/\s<8:=by have hw:=h.1;rcases zaJ h with⟨_,q,n⟩ |⟨_,_,q,n⟩ |⟨_,_,q,n⟩ <;> rw[n] <;> rw[q]at hs <;> cases hs <;> unfold wayB zax <;> simp only <;> rcases way4 hw with r |r |r |r <;> rw[r] <;> decide
theorem zhp{C:Cell->Bool}{e:Edge}(h:IsE C e)(hs:stepB C e=none):nxt C e=⟨e.c,(e.w+1) % 4⟩:=by
 rcases zaJ h with⟨_,q,n⟩ |⟨_,_,q,n⟩ |⟨_,_,q,n⟩
 .rw[q]at hs;cases hs
 .rw[q]at hs;cases hs
 .exact n
noncomputable def zlq(C:Cell->Bool)(es:List Edge):Prop:=∀i,¬ ∀m,m<4->∃e,es[i+m]?=some e/\stepB C e=none
theorem zfn{C:Cell -> Bool}{b:Edge}{es:List Edge}(h:Chain C b es)(hE:IsE C b)(nf:zlq C es):∀(n p j w:Nat), es.length-p=n -> p <= es.length -> j <= 3 -> j <= p -> w < 4 -> (∀m, m < j -> ∃e, es[p-1-m]? = some e /\ stepB C e=none) ->
    (it C b p).w=(w+j) % 4->∃t,t<=3/\Ah j none++(es.drop p).map (stepB C)=(dgo w (((es.drop p).map (stepB C)).filterMap id)).1++Ah t none /\
      ((dgo w (((es.drop p).map (stepB C)).filterMap id)).2+t) % 4=(it C b es.length).w/\(dgo w (((es.drop p).map (stepB C)).filterMap id)).2<4
  | 0,p,j,w,hn,hp,hj,hjp,hw,hl,hway=>by
    have e:es.drop p=[]:=List.drop_eq_nil_iff.mpr (by lia);have hpe:p=es.length:=by lia
    rw[e,<- hpe];exact⟨j,hj,by simp[dgo],hway.symm,hw⟩
  |n+1,p,j,w,hn,hp,hj,hjp,hw,hl,hway=>by
    have hlt:p<es.length:=by lia
    have hd:es.drop p=es[p]::es.drop (p+1):=List.drop_eq_getElem_cons hlt;have hg:=h.get p hlt;rw[Aa hlt]at hg;have hg':es[p]=it C b p:=A4 hg;have hEp:IsE C (it C b p):=it_ok hE p;rw[hd,hg']
    cases hs:stepB C (it C b p) with
    |none =>
      have hj3:j+1<=3:=by
        rcases AX j 3 with q |q
        . lia
        . exfalso;have j3:j=3:=by lia
          subst j3;refine nf (p-3) λm hm=>?_
          rcases AX m 3 with a |a
          . obtain⟨e,h1,h2⟩:=hl (2-m) (by lia);exact⟨e,by rw[<- h1];congr 1;lia,h2⟩
          . have:m=3:=by lia
            subst this;exact⟨_,by rw[show p-3+3=p by lia,Aa hlt,hg'],hs⟩
      have hnx:=zhp hEp hs
      obtain⟨t, t3, q1, q2, q3⟩ := zfn h hE nf n (p + 1) (j + 1) w (by lia) (by lia) hj3 (by lia) hw (λm hm => by
          cases m with
          |zero=>exact⟨_,by rw[show p+1-1-0=p by lia,Aa hlt,hg'],hs⟩
          |succ m =>
            obtain⟨e,h1,h2⟩:=hl m (by lia);exact⟨e,by rw[<- h1];congr 1;lia,h2⟩) (by
          show (nxt C (it C b p)).w=_;rw[hnx];simp only;rw[hway];lia)
      refine⟨t,t3,?_,?_,?_⟩
      . simp only[AR,hs];rw[show (none::(es.drop (p+1)).map (stepB C)).filterMap id=((es.drop (p+1)).map (stepB C)).filterMap id from rfl,<- q1,List.replicate_succ'];simp
      . simp only[AR,hs];exact q2
      . simp only[AR,hs];exact q3
    |some s =>
      obtain⟨w1,w2,_⟩:=zha hEp hs;have hwB:wayB s<4:=A1 _ (by decide)
      obtain⟨t, t3, q1, q2, q3⟩ := zfn h hE nf n (p + 1) 0 (wayB s) (by lia) (by lia) (by lia) (by lia) hwB (λm hm => by lia) (by
          show (nxt C (it C b p)).w=_;rw[w2,Nat.add_zero];have:=(zdW hEp).1;lia)
      refine⟨t,t3,?_,?_,?_⟩
      . simp only[AR,hs];rw[show (some s::(es.drop (p+1)).map (stepB C)).filterMap id=s::((es.drop (p+1)).map (stepB C)).filterMap id from rfl];show _=(Ah ((zax s+4-w) % 4) none++some s::(dgo (wayB s) _).1)++Ah t none;have hk:(zax s+4-w) % 4=j:=by rw[w1,hway];lia
        rw[hk];have q1':(es.drop (p+1)).map (stepB C)=(dgo (wayB s) (((es.drop (p+1)).map (stepB C)).filterMap id)).1++Ah t none:=by simpa using q1
        rw[Co,List.cons_append,<- q1']
      . simp only[AR,hs];exact q2
      . simp only[AR,hs];exact q3
theorem zfk{C:Cell->Bool}{b:Edge}(hE:IsE C b){i:Nat}:∀m,(∀q,q<m->stepB C (it C b (i+q))=none)->it C b (i+m)=⟨(it C b i).c,((it C b i).w+m) % 4⟩
 | 0,_=>by
  have:=(it_ok hE i).1;show it C b i=_;rw[Nat.add_zero,Nat.mod_eq_of_lt this]
 |m+1,h=>by
  have ih:=zfk hE m λq hq=>h q (by lia)
  show nxt C (it C b (i+m))=_;rw[zhp (it_ok hE (i+m)) (h m (by lia)),ih];simp only[Edge.mk.injEq,true_and];lia
theorem Closed.deeds{C:Cell->Bool}{b:Edge}{es:List Edge}(h:Closed C b es):es.map (stepB C)=RP.deeds b.w ((es.map (stepB C)).filterMap id):=by
 have hE:IsE C b:=h.1.2.2.1 b (Ag h.1.1);have hp:=h.pos;have hl:=h.it_len
 have four:∀i,(∀m,m<4->∃e,es[i+m]?=some e/\stepB C e=none)->i=0/\es.length=4:=λi hi=>by
  have hi3:i+3<es.length:=by obtain⟨e,h1,_⟩:=hi 3 (by decide);exact (Ad.mp h1).1
  have st:∀q,q<4->stepB C (it C b (i+q))=none:=λq hq=>by
   obtain⟨e,h1,h2⟩:=hi q hq;rw[h.1.get (i+q) (by lia)]at h1
   cases h1;exact h2
  have e4:=zfk hE 4 st
  have e4':it C b (i+4)=it C b i:=by rw[e4];have:=(it_ok hE i).1;rw[show ((it C b i).w+4) % 4=(it C b i).w by lia]
  rcases AX (i+4) es.length with q |q
  .exfalso;have:=(CS (i:=i) (j:=i+4) (by lia) h.1.2.2.2).mp (by rw[h.1.get i (by lia),h.1.get (i+4) q,e4']);lia
  .have hn:es.length=i+4:=by lia
   rw[<- hn,hl]at e4';have:=(CS (i:=0) (j:=i) (by lia) h.1.2.2.2).mp (by rw[h.1.get 0 hp,h.1.get i (by lia),<- e4'];rfl);lia
 by_cases hr:(es.map (stepB C)).filterMap id=[]
 .have all:∀i, i < es.length -> stepB C (it C b i)=none := λi hi => by
   have hg:=h.1.get i hi
   cases hs:stepB C (it C b i) with
   |none=>rfl
   |some s =>
    exfalso;have:s∈(es.map (stepB C)).filterMap id:=List.mem_filterMap.mpr ⟨some s,Aq.mpr ⟨_,Ag hg,hs⟩,rfl⟩;rw[hr]at this;cases this
  have hn4:es.length=4:=by
   have el:=zfk hE (i:=0) es.length (λq hq=>by rw[Db];exact all q hq);rw[Db,hl]at el;have ew:=congrArg Edge.w el;have hw:=hE.1;change b.w=(b.w+es.length) % 4 at ew;have h4:4<=es.length:=by lia
   refine (four 0 λm hm=>⟨it C b m,?_,all m (by lia)⟩).2;rw[Db];exact h.1.get m (by lia)
  rw[hr];show _=(dgo b.w []).1++Ah 4 none
  apply List.ext_getElem?
  intro i;rcases AX i 4 with q |q
  .rw[Ax,h.1.get i (by lia),Dg,all i (by lia)];show _=(Ah 4 (none:Option Nat))[i]?;rw[List.getElem?_replicate,if_pos q]
  .rw[BO (by rw[Ai];lia),BO (by simp[dgo];lia)]
 .have nf:zlq C es := λi hi => by
   obtain⟨_,h4⟩:=four i hi;have hi0:=(four i hi).1;subst hi0
   apply hr
   apply List.filterMap_eq_nil_iff.mpr
   intro o ho;obtain⟨e,he,rfl⟩:=Aq.mp ho;obtain⟨j,hj,ej⟩:=Ay he;obtain⟨f,h1,h2⟩:=hi j (by lia);rw[Db,Aa hj,ej]at h1
   cases h1
   exact h2
  obtain⟨t,t3,q1,q2,q3⟩:=zfn h.1 hE nf es.length 0 0 b.w (by lia) (by lia) (by lia) (by lia) hE.1 (λm hm=>by lia) (by
   show b.w=_;have:=hE.1;lia)
  rw[List.drop_zero]at q1 q2 q3;rw[hl]at q2
  have ht:zaE b.w ((es.map (stepB C)).filterMap id)=t:=by unfold zaE;rw[if_neg (by simpa using hr)];have:=hE.1;lia
  unfold RP.deeds;rw[ht];simpa using q1
end RP
namespace L2
open PySem PySem.Spec PyProof.Rows
noncomputable def But1(P:Addr)(H H':Hp):Prop:=∀b o,b≠P->H b=some o->H' b=some o
theorem But1.refl(P:Addr)(H:Hp):But1 P H H:=λ_ _ _ h=>h
theorem But1.trans{P:Addr}{H H1 H2:Hp}(a:But1 P H H1)(b:But1 P H1 H2):But1 P H H2:=λc o n h=>b c o n (a c o n h)
theorem Same.but1{P:Addr}{H H':Hp}(h:Same H H'):But1 P H H':=λb o _ e=>h b o e
noncomputable abbrev anyO:HO:=.ext λ_=>True
noncomputable def LamAt(pos:Pos)(qual:Str)(P:Addr)(H:Hp):Prop :=
 ∃ps,H P=some (.tbl ps)/\(ps=#[]∨∃c' oc vs t,ps=#[Cr pos.line,Cr pos.col,.ref c']/\H c'=some (.frz oc anyO)/\oc.data=.fields vs/\vs[1]?=some (.str qual t))
theorem LamAt.same{pos:Pos}{qual:Str}{P:Addr}{H H':Hp}(h:LamAt pos qual P H)(s:Same H H'):LamAt pos qual P H':=by
 obtain⟨ps,e,h⟩:=h;refine⟨ps,s _ _ e,?_⟩;rcases h with h |⟨c',oc,vs,t,e1,e2,e3⟩
 .exact .inl h
 .exact .inr ⟨c',oc,vs,t,e1,s _ _ e2,e3⟩
theorem LamAt.ne{pos:Pos}{qual:Str}{P a:Addr}{H:Hp}{o:HO}(h:LamAt pos qual P H)(e:H a=some o)(n:∀ps,o≠.tbl ps):a≠P:=by rintro rfl;obtain⟨ps,e',_⟩:=h;rw[e]at e';exact n ps (A4 e')
theorem But1.seq{K:W.Frag}{pos:Pos}{qual:Str}{P a:Addr}{H H':Hp}{xs:List V}(e:But1 P H H')(l:LamAt pos qual P H)(h:SqL K H a xs):SqL K H' a xs:=by
 rcases h with (h |⟨o,h⟩) |h
 .exact .inl (.inl (e _ _ (l.ne h nofun) h))
 .exact .inl (.inr ⟨o,e _ _ (l.ne h nofun) h⟩)
 .exact .inr h
noncomputable def Bm(mg:Str->Option Value)(base:Heap):Prop :=
 ∃bm o,mg "__builtins__" = some (.ref bm)/\bm≠builtinsNs/\bm≠AE/\base.get? bm=some o/\o.cls=.type "module" /\ o.dict=some builtinsNs/\o.data=.plain
section
variable {X:Cx}{pins:List (Addr×Obj)}{σ:St}{H:Hp}{s:Ac}
theorem Inv.lamNew{P c':Addr}{ps more:Array Value}{h1:Heap}{oc fo:Obj}{tk:Nat}(I:Inv X pins σ H s)(hP:H P=some (.tbl ps))(hx:Heap.ExtBut P s.heap h1)(hge:s.heap.objs.size <= c')(hlt:c' < h1.objs.size)
  (hc:h1.get? c'=some oc) (htb:h1.get? P=some (W.tabObj (ps++more))) (hfo:fo.isFreed=false) :
  Inv X pins σ (upd (upd (upd H P (.tbl (ps++more))) c' (.frz oc anyO)) h1.objs.size (.frz fo anyO)) { s with heap:=h1.push fo,toks:=tk }:=by
 have hPs:s.heap.get? P=some (W.tabObj ps):=I.hok P _ hP;have lP:P<s.heap.objs.size:=Au hPs;have cP:c'≠P:=Cf (AD lP hge);have fP:h1.objs.size≠P:=Cf (Nat.lt_trans (AD lP hge) hlt);have fc:h1.objs.size≠c':=Cf hlt;have k1:∀b o,b≠P->s.heap.get? b=some o->(h1.push fo).get? b=some o:=λb o n e=>Ae _ (hx b o n e)
 have old:∀b o,s.heap.get? b=some o->b≠c'/\b≠h1.objs.size:=λb o e =>
  ⟨AK (AD (Au e) hge),AK (AD (Au e) (AM hge (Bg hlt)))⟩
 have val:∀b u,b≠P->H b=some u->upd (upd (upd H P (.tbl (ps++more))) c' (.frz oc anyO)) h1.objs.size (.frz fo anyO) b=some u:=λb u n e=>by have lb:=I.hok.lt e;rw[zai (AK (AD lb (AM hge (Bg hlt)))),zai (AK (AD lb hge)),zai n];exact e
 have vP:upd (upd (upd H P (.tbl (ps++more))) c' (.frz oc anyO)) h1.objs.size (.frz fo anyO) P=some (.tbl (ps++more)):=by rw[zai fP.symm,zai cP.symm,zaa]
 have nP:∀b u,H b=some u->(∀qs,u≠.tbl qs)->b≠P:=λb u e n z=>by rw[z,hP]at e;exact n ps (A4 e).symm
 refine I.un ⟨λb o e n _ _=>?_,λb o e n _ _=>?_,λb o e n _=>?_,λb o e _=>?_,λb xs e=>?_,λb o u e=>?_,λb qs e=>?_⟩ λb u e=>?_
 .exact k1 b o (λz=>by rw[z,hP]at n;cases n) e
 .exact⟨o.slots,k1 b o (λz=>by rw[z,hP]at n;cases n) e⟩
 .obtain⟨n1,n2⟩:=old b o e;rw[zai n2,zai n1,zai (λz=>by rw[z,hP]at n;cases n)];exact n
 .by_cases z:b=P
  .rw[z];exact⟨_,Ae _ htb⟩
  .exact⟨o,k1 b o z e⟩
 .exact val b _ (nP b _ e nofun) e
 .exact val b _ (nP b _ e nofun) e
 .by_cases z:b=P
  .rw[z,hP]at e
   cases e
   exact⟨more,by rw[z];exact vP⟩
  .exact⟨#[],by rw[val b _ z e];simp⟩
 .by_cases hf:b=h1.objs.size
  .rw[hf,zaa]at e
   cases e
   rw[hf];exact⟨Av _ hfo,trivial,⟨fo,Av _ hfo⟩,λ_ _ _ _=>trivial⟩
  .rw[zai hf]at e
   by_cases hb:b=c'
   .rw[hb,zaa]at e
    cases e
    rw[hb];exact⟨Ae _ hc,trivial,⟨oc,Ae _ hc⟩,λ_ _ _ _=>trivial⟩
   .rw[zai hb]at e
    by_cases hz:b=P
    .rw[hz,zaa]at e
     cases e
     rw[hz];exact Ae _ htb
    .rw[zai hz]at e;refine (I.hok b u e).stay (λd v hd q=>k1 d v ?_ q) (λd q=>val d _ (nP d _ q nofun) q) λd xs q=>val d _ (nP d _ q nofun) q
     rcases hd with rfl |hd
     .exact hz
     .exact nP d _ hd nofun
noncomputable def IsLam(qual:Str)(params:Arguments)(body:Expr)(scope:Scope)(f:Addr)(H:Hp):Prop :=
 ∃c' ctv pm oc vs t,H f=some (.frz (W.kla_obj "<lambda>" qual params body scope [] pm c' ctv) anyO)/\H c'=some (.frz oc anyO)/\oc.data=.fields vs/\vs[1]?=some (.str qual t)
theorem IsLam.same{qual:Str}{params:Arguments}{body:Expr}{scope:Scope}{f:Addr}{H H':Hp}(h:IsLam qual params body scope f H)(s:Same H H'):IsLam qual params body scope f H' :=
 let ⟨c',ctv,pm,oc,vs,t,e1,e2,r⟩:=h
 ⟨c',ctv,pm,oc,vs,t,s _ _ e1,s _ _ e2,r⟩
noncomputable def tLam(P:Addr)(pos:Pos)(qual:Str)(params:Arguments)(body:Expr)(scope:Scope):TE:=λ_ H Q =>
 LamAt pos qual P H/\∀f H',But1 P H H'->LamAt pos qual P H'->H f=none->IsLam qual params body scope f H'->Q (.ref f) H'
theorem zmh{pos:Pos}{c:Value}:TriplesOk (#[Cr pos.line,Cr pos.col,c]:Array Value).toList:=by simp[TriplesOk,Cr]
theorem ziz{pos:Pos}{c:Value}:codeAmong pos (#[Cr pos.line,Cr pos.col,c]:Array Value).toList=some c:=by simp[codeAmong,Cr]
theorem zmC {c P:Addr}{params:Arguments}{body:Expr}{scope:Scope}{pos:Pos}{qual:Str}(hcd:X.env.code = .ref c) (hh:Dc X.K c P=true) (hB:Bm X.mg X.base) (hq:X.env.qual ++ "<lambda>" = qual)
  (hfree:∀x∈scope.names,x.2≠.free:=by decide) (hdef:defaultsOf params X.env=([],[]):=by rfl):PE X (.Lambda params body scope pos) (tLam P pos qual params body scope):=by
 intro pins s σ H Q I h;obtain⟨⟨ps,hP,hps⟩,h⟩:=h;have hPs:s.heap.get? P=some (W.tabObj ps):=I.hok P _ hP
 have nb:∀b o,X.base.get? b=some o->b≠P:=λb o e z=>by
  have:=(I.bs b o e).2;rw[z,hP]at this
  cases this
 have hg:s.heap.Ns AE X.mg:=I.mod.glob.keeps I.bk
 have hgP:AE≠P:=by obtain⟨o,es,ep,e,_⟩:=I.mod.glob;exact nb _ o e
 have C:W.CodeHd s.heap c P:=W.codeHd_of_K I.kIn hh
 have hb:s.heap.BuiltinsAt X.mg P:=by obtain⟨bm,o,b1,b2,b3,b4,b5⟩:=hB;exact⟨bm,o,b1,b2,b3,nb _ o b4,I.bk _ _ b4,b5⟩
 have fr:∀b,s.heap.objs.size<=b->H b=none:=λb e=>I.hok.fresh e
 refine W.kla_eval hdef ?_
 rw[hq];rcases hps with rfl |⟨c',oc,vs,t,rfl,hc',hd,hv⟩
 .refine W.kla_makeFunction (mg:=X.mg) (clos:=[]) (closureFor_none hfree) I.ok.glob hg hcd C hPs trivial rfl hgP hb λc' ctv h' tk hx hge hlt hrec htb=>?_
  obtain⟨c2,oc,vs,t,e2,hoc,hd,hv⟩:=hrec
  cases e2
  have lP:P<s.heap.objs.size:=Au hPs;have cP:c'≠P:=Cf (AD lP hge);have fP:h'.objs.size≠P:=Cf (Nat.lt_trans (AD lP hge) hlt);refine⟨.ref h'.objs.size,_,I.lamNew (more:=#[Cr pos.line,Cr pos.col,.ref c']) hP hx hge hlt hoc htb rfl,rfl,h _ _ ?_ ?_ (fr _ (AM hge (Bg hlt))) ⟨c',ctv,_,oc,vs,t,zaa,?_,hd,hv⟩⟩
  .intro b o n e;rw[zai (λz=>by rw[z,fr _ (AM hge (Bg hlt))]at e;cases e),zai (λz=>by rw[z,fr _ hge]at e;cases e),zai n];exact e
  .refine⟨#[]++#[Cr pos.line,Cr pos.col,.ref c'],?_,.inr ⟨c',oc,vs,t,by simp,?_,hd,hv⟩⟩
   .rw[zai fP.symm,zai cP.symm,zaa]
   .rw[zai (AK hlt),zaa]
  .rw[zai (AK hlt),zaa]
 .refine W.kla_makeFunctionHit (mg:=X.mg) (clos:=[]) (cv:=.ref c') (closureFor_none hfree) I.ok.glob hg hcd C hPs zmh ziz hb λctv h' tk hk hsz=>?_
  have hf:H h'.objs.size=none:=fr _ hsz;refine⟨.ref h'.objs.size,upd H h'.objs.size (.frz (W.kla_obj "<lambda>" qual params body scope [] ((X.mg "__name__").getD .none) c' ctv) anyO),?_,rfl,h _ _ ?_ ?_ hf ⟨c',ctv,(X.mg "__name__").getD .none,oc,vs,t,zaa,?_,hd,hv⟩⟩
  .have I1:Inv X pins σ H { s with heap:=h',toks:=tk }:=I.kept (t':=tk) hk;have I2:=I1.un (h':=h'.push (W.kla_obj "<lambda>" qual params body scope [] ((X.mg "__name__").getD .none) c' ctv)) (t':=tk) (Un.laid (a:=h'.objs.size) (o:=.frz (W.kla_obj "<lambda>" qual params body scope [] ((X.mg "__name__").getD .none) c' ctv) anyO) (λb u e=>Ae _ e) (Aj _) hf) (I1.hok.laid (λb u e=>Ae _ e) (Aj _) ⟨Av _ rfl,trivial,⟨_,Av _ rfl⟩,λ_ _ _ _=>trivial⟩);exact I2
  .intro b o n e;rw[zai (λz=>by rw[z,hf]at e;cases e)];exact e
  .refine⟨_,by rw[zai (zaj hP hf)];exact hP,.inr ⟨c',oc,vs,t,rfl,?_,hd,hv⟩⟩;rw[zai (zaj hc' hf)];exact hc'
  .rw[zai (zaj hc' hf)];exact hc'
end
theorem zmu{P:AB}{w:AV}{K:W.Frag}{mg:Str -> Option Value}{base:Heap}{k:Nat}{f c':Addr}{qual:Str}{params:Arguments}{body:Expr}{scope:Scope}{pm ctv:Value}{oc:Obj}{ws:Array Value}{t:Tok}
  {N ps:List Str} {A:AF} {outer:List Env} {s:Ac} {H:Hp} {us:List Value} {vs:List V} {Q:VK} {te:TE} (hr:Room (k+1) A) (e0:Env0 P w K mg base A outer s H)
  (hf:H f=some (.frz (W.kla_obj "<lambda>" qual params body scope [] pm c' ctv) anyO)) (hc:H c'=some (.frz oc anyO)) (hd:oc.data=.fields ws) (hv:ws[1]?=some (.str qual t)) (S:FnScope N ps scope)
  (hb:De (W.kla_fn "<lambda>" qual params body scope [] pm (.ref c') ctv) ⟨us,[]⟩=pure (ps.zip us)) (hl:vs.length=ps.length) (r:Vals vs us)
  (hbody:PE (cxOf CX0 P w K mg base N qual scope f (.ref c') A outer s H E0).nox body te) (hq:te (start N vs) H Q) :
  CK (Aw P w) A (.call (.ref f) ⟨us,[]⟩) (CR CX0 outer P w H s Q E0) s:=by
 have lim:s.heap.NoLimit:=e0.mod.nolimit.keeps λb o e=>(e0.bs b o e).1
 have hfo:=(e0.hok f _ hf).1;have hco:=(e0.hok c' _ hc).1
 have hkind:∀y∈ps.zip us,scope.names.lookup y.1=some .local∨(scope.names.lookup y.1=some .cell/\((cellsFrom (s.heap.objs.size+1) scope.names []).lookup y.1).isSome=true):=λ⟨n,v⟩ hy=>by
  rcases S.par n (List.of_mem_zip hy).1 with q |q
  .exact .inl q
  .exact .inr ⟨q,W.cellsFrom_some _ _ _ (.inl q)⟩
 refine W.kla_callFunE hr.depth hfo rfl S.co S.gen rfl ⟨c',oc,ws,t,rfl,hco,hd,hv⟩ ?_
 rw[hb];refine Af ?_
 refine wpAny_newFunctionEnv_cells S.kind hkind λenv he s1 x=>?_
 subst he;refine⟨lim.keeps x.toInCall.keep,W.kla_codeExpr ?_⟩;have I:Inv (cxOf CX0 P w K mg base N qual scope f (.ref c') A outer s H E0) [] (start N vs) H s1:=zf4 S hr.hd e0 hl r x;refine Bk (hbody.nox [] s1 (start N vs) H _ I hq) (λu s' hs=>?_) λe s' hs=>hs
 obtain⟨v,H',J,rv,q⟩:=hs;exact⟨v,H',J.os,J.bare,J.base,J.hok,rv,q⟩
section
variable {X:Cx}{f:Addr}{qual:Str}{params:Arguments}{body:Expr}{scope:Scope}{N ps:List Str}{σ:St}{H0:Hp}{k:Nat}{te:TE}{xs:List V}{κV:Nat->List V}
theorem zmQ {x:Str}(L:IsLam qual params body scope f H0) (hr:Room (k + 1 + 1 + 1) X.A) (S:FnScope N [x] scope) (hb:∀(pm ctv:Value) (c':Addr) (u:Value), De (W.kla_fn "<lambda>" qual params body scope [] pm (.ref c') ctv) ⟨[u], []⟩ = pure [(x, u)])
  (hbody:∀(c':Addr) (A:AF) (outer:List Env) (s:Ac) (H:Hp),PE (cxOf CX0 X.prog X.w X.K X.mg X.base N qual scope f (.ref c') A outer s H E0).nox body te)
  (turn:∀i x H,xs[i]?=some x->Same H0 H->te (start N [x]) H (λv H'=>Same H H'/\∃a,v=.ref a/\SqT X.K H' a (κV i))):zhR X σ H0 f xs κV:=by
 intro pins i x u H s hx hS I ru;obtain⟨c',ctv,pm,oc,ws,t,e1,e2,e3,e4⟩:=L.same hS;refine wpAny_call (C7 (zmu (k:=k) (vs:=[x]) (us:=[u]) hr.in1.in1 I.env0.in1.in1 e1 e2 e3 e4 S (hb pm ctv c' u) rfl (.cons ru .nil) (hbody c' _ _ _ _) (turn i x H hx hS)) λr s' hq=>?_)
 cases r with
 |error e=>exact Bj hq
 |ok fl =>
  cases fl with
  |ret u=>exact I.after hq
  |next=>exact Bj hq
  |brk=>exact Bj hq
  |cont=>exact Bj hq
end
section
variable {X:Cx}{p pos lpos kpos:Pos}{e body:Expr}{te tb:TE}{k:Nat}{c P:Addr}{params:Arguments}{scope:Scope}{qual x:Str}{N:List Str}
end
theorem zjB{P:AB}{w:AV}{K:W.Frag}{mg mb:Str -> Option Value}{CX:CXT}{k:Nat}{fa a:Addr}{fd:Bq}{x:Str}{sp:Sp}{s₁ : Ac}{vs:List Value}{ns:List Int}{ts:List Addr}
    (KX:K.In s₁.heap) (hns:s₁.heap.Ns AE mg) (hb:s₁.heap.Ns builtinsNs mb) (hbb:∀x:Str,x ≠ "__name__" -> mb x=bootBuiltins x) (hlim:s₁.heap.NoLimit) (hg:s₁.gens=#[])
    (ha:s₁.heap.get? a=some { cls:=.type "list",data:=.seq vs.toArray }) (hi:IntsAre vs ns) (hl:ns.length<=sizeLine) (hr:Room k callerA)
    (hts:∀P∈ts,s₁.heap.get? P=some (W.tabObj #[])) (hno:∀P∈ts,K.lookup P=none) (hcd:∀P∈ts,∃c,Dc K c P=true) (hBm:Bm mg s₁.heap)
    (F:∀base:Heap,K.In base->base.Ns AE mg->Bm mg base->FnOk P w K mg base CX k fa fd [x] sp) (hbind:∀(s:Ac) (u:Value),BindsTo s fd ⟨[u],[]⟩ [(x,u)])
    (hsp:∀H:Hp,(∀P∈ts,H P=some (.tbl #[]))->SqL K H a (ns.map V.int)->sp [.ref a] H (λv _=>v=.bl true) λ_ _ _=>False)
    (hCX:∀H e s',CX [] H s₁ (λ_ _ _=>False) e s'->False) :
    CK (Aw P w) callerA (.call (.ref fa) ⟨[.ref a],[]⟩) (λr s'=>r=.ok (.ret (.bool true))/\OldK s₁.heap s'.heap/\s'.os=s₁.os/\AllBare s'.gens) s₁:=by
  have rv:=zfA hi;have lenV:=hi.length
  have aT:a ∉ ts:=λz=>by
    have:=hts a z;rw[ha]at this
    cases this
  have core:∀H:Hp, (∀b, H b=none ∨ (b ∈ ts /\ H b=some (.tbl #[])) ∨ (b=a /\ K.lookup a=none /\ ∃o xs, H b=some (.frz o (.lst xs)))) -> (∀P ∈ ts, H P=some (.tbl #[])) -> SqL K H a (ns.map V.int) -> HOk P w H s₁.heap ->
      CK (Aw P w) callerA (.call (.ref fa) ⟨[.ref a],[]⟩) (λr s'=>r=.ok (.ret (.bool true))/\OldK s₁.heap s'.heap/\s'.os=s₁.os/\AllBare s'.gens) s₁:=by
    intro H hO hT hS hok;have base_of:∀{b:Addr} {o:Obj},s₁.heap.get? b=some o->H b=none->(hidT s₁.heap H).get? b=some o:=λe n=>zkG e n
    have noA:∀{b:Addr} {o:Obj},s₁.heap.get? b=some o->(∀x n,o.data≠.seq x n)->(∀x,o.data≠.fields x)->H b=none:=λ{b o} e d1 d2=>by
      rcases hO b with z |⟨z,_⟩ |⟨rfl,_⟩
      . exact z
      . rw[hts b z]at e
        cases e
        exact absurd rfl (d2 _)
      . rw[ha]at e
        cases e
        exact absurd rfl (d1 _ _)
    have nsK:∀{b:Addr} {m:Str->Option Value},s₁.heap.Ns b m->(hidT s₁.heap H).Ns b m:=λ{b m} ⟨o,es,ep,e,d,r⟩=>⟨o,es,ep,base_of e (noA e (λx n z=>by rw[d]at z;cases z) λx z=>by rw[d]at z;cases z),d,r⟩
    have hKb:K.In (hidT s₁.heap H):=λb o e=>base_of (KX b o e) (by
      rcases hO b with z |⟨z,_⟩ |⟨rfl,z,_⟩
      . exact z
      . rw[hno b z]at e;cases e
      . rw[z]at e;cases e)
    have hM:Mod K mg (hidT s₁.heap H):=⟨hKb,nsK hns,⟨mb,nsK hb,hbb⟩,let ⟨mc,h1,h2⟩:=hlim;⟨mc,nsK h1,h2⟩⟩
    have hBb:Bm mg (hidT s₁.heap H):=by obtain⟨bm,o,b1,b2,b3,b4,b5,b6,b7⟩:=hBm;exact⟨bm,o,b1,b2,b3,base_of b4 (noA b4 (λx n z=>by rw[b7]at z;cases z) λx z=>by rw[b7]at z;cases z),b5,b6,b7⟩
    have e0:Env0 P w K mg (hidT s₁.heap H) callerA [] s₁ H:=⟨rfl,hM,λb o e=>zlS e,Nat.le_of_eq (zjM _ _),trivial,λb hb=>absurd (show b∈([]:List Addr) from hb) (by simp),hok,.of_eq hg⟩;refine C7 ((F _ hKb (nsK hns) hBb).run callerA [] s₁ H ⟨[.ref a],[]⟩ [.ref a] [.ref a] _ _ hr e0 (hbind s₁ (.ref a)) (.cons rfl .nil) (hsp H hT hS)) λr s' h=>?_
    cases r with
    |error e=>exact (hCX H e s' h).elim
    |ok fl =>
      cases fl with
      |next=>exact Bj h
      |brk=>exact Bj h
      |cont=>exact Bj h
      |ret u =>
        obtain⟨v,H',os,bare,un,hok',r',q⟩:=h;have q':v=.bl true:=q;subst q';obtain rfl:u=Value.bool true:=r';refine⟨rfl,⟨λb o e=>?_,λb o e=>un.there b o e (by simp)⟩,os,bare⟩;rcases hO b with z |⟨z,z1⟩ |⟨rfl,_,ob,xs,z⟩
        . exact .inl (un.keep b o e z (by intro z;exact absurd (show b∈([]:List Addr) from z) (by simp)) (by simp))
        . have e':=hts b z;rw[e]at e'
          cases e'
          obtain⟨more,z2⟩:=un.tbls b _ z1;obtain⟨c,hc⟩:=hcd b z;obtain⟨oc,ws,_,_,_,_,_,_,_,c1,c2,c3,c4,_⟩:=W.codeHd_of_K KX hc;exact .inr (.inl ⟨⟨c,oc,ws,c1,c2,c3,c4⟩,rfl,#[],more,rfl,hok' b _ z2⟩)
        . have z2:=un.frzs b ob _ z;obtain⟨e1,_⟩:=hok b _ z;obtain⟨e2,_⟩:=hok' b _ z2;rw[e]at e1;cases e1;exact .inl e2
  cases hk:K.lookup a with
  |some o =>
    have e:=KX a o hk;rw[ha]at e
    cases e
    refine core (λb=>if b∈ts then some (.tbl #[]) else none) (λb=>?_) (λP hP=>if_pos hP) (.inr ⟨_,vs.toArray,_,hk,rfl,rfl,rfl,by rw[As,lenV];exact hl,by simpa using rv⟩) λb u z=>?_
    . by_cases hb:b∈ts
      . exact .inr (.inl ⟨hb,if_pos hb⟩)
      . exact .inl (if_neg hb)
    . by_cases hb:b∈ts
      . have z':=(if_pos hb).symm.trans z
        cases z'
        exact hts b hb
      . have z':=(if_neg hb).symm.trans z
        cases z'
  |none =>
    refine core (λb=>if b∈ts then some (.tbl #[]) else if b=a then some (.frz { cls:=.type "list",data:=.seq vs.toArray } (.lst (ns.map V.int))) else none) (λb=>?_) (λP hP=>if_pos hP) (.inl (.inr ⟨{ cls:=.type "list",data:=.seq vs.toArray },(if_neg aT).trans (if_pos rfl)⟩)) λb u z=>?_
    . by_cases hb:b∈ts
      . exact .inr (.inl ⟨hb,if_pos hb⟩)
      . by_cases hb2:b=a
        . exact .inr (.inr ⟨hb2,hk,_,_,(if_neg hb).trans (if_pos hb2)⟩)
        . exact .inl ((if_neg hb).trans (if_neg hb2))
    . by_cases hb:b∈ts
      . have z':=(if_pos hb).symm.trans z
        cases z'
        exact hts b hb
      . have z0:=(if_neg hb).symm.trans z
        by_cases hb2:b=a
        . have z':=(if_pos hb2).symm.trans z0
          cases z'
          subst hb2;exact⟨ha,by rw[Ai];exact hl,vs,_,rv,ha⟩
        . have z':=(if_neg hb2).symm.trans z0
          cases z'
theorem zmI{K:W.Frag}{as:List Addr}(e:as=K.map (·.1)){b:Addr}(h:b ∉ as):K.lookup b=none:=by
 cases q:K.lookup b with
 |none=>rfl
 |some o =>
  subst e;exact absurd (Aq.mpr ⟨(b,o),W.mem_of_lookupK q,rfl⟩:b∈List.map (λx=>x.fst) K) h
theorem km_all{K:Params -> W.Frag}{as:List Addr}{e:∀P, as=(K P).map (·.1)}{ts:List Addr}(d:(ts.all λt => !as.contains t)=true)(w:AV)(h:Heap)(Y:(W.kmHook K as e ts).says w h) :
  (K w.params).In h/\(∀P∈ts,h.get? P=some (W.tabObj #[]))/\∀P∈ts,(K w.params).lookup P=none :=
 ⟨W.km_in_of Y,W.km_tabs_of Y,λP hP=>zmI (e w.params) λz=>by have:=List.all_eq_true.mp d P hP;simp[z]at this⟩
theorem walk_ofL{l:W.OpenLaw}{n k:Nat}{q:AB}{loose:List Str}{XP:(Str -> Option Value) -> Heap -> Prop}{YP:AV -> Heap -> Prop}{d:DefRec}{K:Params -> W.Frag}{CX:AV -> CXT}{sp:AV -> Sp}{x:Str}{ts:List Addr}
  (hn:l.most=some n) (hn2:n<=sizeLine) (hdf:d.params.defaults=[]) (hr:Room k callerA)
  (hY:∀(w:AV) (h:Heap),YP w h->(K w.params).In h/\(∀P∈ts,h.get? P=some (W.tabObj #[]))/\∀P∈ts,(K w.params).lookup P=none)
  (F:∀(w:AV) (mg:Str->Option Value) (fa:Addr) (h:Heap),(K w.params).In h->h.Ns AE mg->mg d.name=some (.ref fa) ->
   ∃fd:Bq,(∀(s:Ac) (u:Value),BindsTo s fd ⟨[u],[]⟩ [(x,u)])/\(∀P∈ts,∃c,Dc (K w.params) c P=true) /\
    ∀base:Heap,(K w.params).In base->base.Ns AE mg->Bm mg base->FnOk l.prog w (K w.params) mg base (CX w) k fa fd [x] (sp w))
  (hsp:∀(w:AV) (H:Hp) (a:Addr) (ns:List Int),ns.length<=n->(∀P∈ts,H P=some (.tbl #[]))->SqL (K w.params) H a (ns.map V.int)->sp w [.ref a] H (λv _=>v=.bl true) λ_ _ _=>False)
  (hCX:∀(w:AV) (H:Hp) (s:Ac) (e:Value) (s':Ac),CX w [] H s (λ_ _ _=>False) e s'->False) :
  W.WalkO q loose XP YP l.row.toRowW d [] (λf vs=>PySem.call f vs):=by
 refine Att.attach_call hn hdf λw s₀ s₁ mg mb fa o pm cd doc a vs ns G Y ho hd hcd hmg hobj hints hlen hg=>?_
 obtain⟨KX,hts,hno⟩:=hY w _ Y;obtain⟨fd,hb,hc,hF⟩:=F w mg fa _ KX G.T.g hmg
 have hB:Bm mg s₁.heap:=by obtain⟨bm,ob,b1,b2,b3,b4,b5,b6⟩:=G.T.bmain;refine⟨bm,ob,b1,b2,λq=>?_,b3,b4,b5,b6⟩;obtain⟨o,es,ep,e,hd,_⟩:=G.T.g;rw[q,e]at b3;cases b3;rw[hd]at b6;cases b6
 exact zjB KX G.T.g G.T.b G.T.builtins G.T.nolimit hg hobj hints (AM hlen hn2) hr hts hno hc hB hF hb (λH hT hS=>hsp w H a ns hlen hT hS) λH e s'=>hCX w H s₁ e s'
theorem Fun.okL{P:AB}{w:AV}{K:W.Frag}{mg:Str -> Option Value}{base:Heap}{x qual:Str}{st:Stmt}{f c:Addr}{fd:Bq}{N ps:List Str}{k:Nat}{sp:Sp}(F:Fun K x qual st f fd)(hc:fd.code = .ref c)(S:FnScope N ps (zaf st))(len:∀vs H Q E, sp vs H Q E -> vs.length=ps.length)
  (hbody:∀(A:AF) (outer:List Env) (s:Ac) (H:Hp) (vs:List V) (Q:VK) (E:XK),Room k (A.deeper (envOfC qual (zaf st) s.heap.objs.size f (.ref c)))->sp vs H Q E ->
   ∃t,PSs (cxOf CX0 P w K mg base N qual (zaf st) f (.ref c) A outer s H E).nox (zaN st) t/\t { nx:=λ_ H'=>Q .non H',rt:=Q } (start N vs) H):FnOk P w K mg base CX0 (k+1) f fd ps sp:=by
 obtain⟨oc,od,kV,doc,pm,an,cdv,ct,osl,rfl,lk,hcd⟩:=F.ex
 cases (show cdv=.ref c from hc)
 refine fn_of lk hcd S len λA outer s H vs Q E hr hsp=>?_
 obtain⟨t,h,q⟩:=hbody A outer s H vs Q E hr hsp;exact⟨t,h.nox,q⟩
noncomputable def hdOk(vs:Array Value)(c P:Addr):Bool := (match (vs[11]? : Option Value) with |some (.ref P') => P' == P |_ => false) &&
   (match vs.getD 18 .none with |.str _ _=>true |_=>false) && (match vs.getD 7 .none with |.int _ _=>true |_=>false) &&
   (match vs.getD 9 .none with |.bool _=>true |_=>false) && (match vs.getD 10 .none with |.int _ _=>true |_=>false) && c != P
theorem hd_of {K:W.Frag}{c P:Addr}{od:Option Addr}{vs:Array Value}{sl:Array (Option Value)}(l:K.lookup c=some ⟨.type "code",od,.fields vs,sl⟩) (h:hdOk vs c P=true):Dc K c P=true:=by unfold Dc;rw[l];exact h
open PySem
theorem sC{N P:List Str}{sc:Scope}(a:sc.kind = .function := by rfl)(b:sc.isCoroutine=false := by rfl)(c:sc.isGenerator=false := by rfl)(d:N.Nodup := by decide +kernel)(e:N.take P.length=P := by rfl)
  (f:∀x∈P,sc.names.lookup x=some .local∨sc.names.lookup x=some .cell:=by decide +kernel) (g:∀y∈sc.names,y.2≠.free:=by decide +kernel):FnScope N P sc:=⟨a,b,c,d,e,f,g⟩
section
variable {X:Cx}{k j:Nat}{x:Str}{ps:List Str}{sp:Sp}{e:Expr}{es:List Expr}{t:TA}{te:TE}{p pos pos':Pos}
theorem pC (g:Fn X.prog X.w X.K X.mg X.base k x ps sp) (hr:Room j X.A) (ha:PA X (e :: es) t) (hj:k <= j := by decide) (hg:Gl X x := by rfl) (hdb:(x == ("__debug__" : Str))=false := by decide)
  (he:A5 (e::es) X.env=(false,eval e X.env)::A5 es X.env:=by rfl) (hpl:(DK pos (A5 es X.env)).any (·.1)=false:=by rfl):PE X (.Call (.Name x p) (e::es) [] pos) (tCall sp [] E0 t) :=
 zjg g.ok (hr.mono hj) hg g.m g.kp g.b .nil pass0 ha hdb he hpl
theorem nG(i:Nat)(hN:X.N.Nodup)(hi:X.N[i]?=some x:=by rfl)(hx:Loc X.env.scope x:=by exact Or.inl rfl)(hf:X.fn x=true∨X.env.scope.names.lookup x=some .local:=by first |exact .inl rfl |exact .inr rfl |assumption):PG X (.Name x pos) (gName i) :=
 zcK hN hi hx hf
theorem sE(i:Nat)(hN:X.N.Nodup)(he:PE X e te)(hi:X.N[i]? = some x := by rfl)(hx:Loc X.env.scope x := by exact Or.inl rfl)(hs:swapsWith e (some (.Name x pos')) pos.line X.env=pure false := by rfl)
  (hf:X.fn x=true∨X.env.scope.names.lookup x=some .local:=by first |exact .inl rfl |exact .inr rfl |assumption):PS X (.Assign [.Name x pos'] e pos) (tAsg te (gName i)) :=
 zdR hN hi hx he hs hf
end
theorem bO{osc:Scope}{N:List Str}{sc:Scope}{N':List Str}{sel:List (Option Nat)}(a:sc.kind = .function := by rfl)(b:∀y ∈ sc.names, y.2 ≠ .cell := by decide +kernel)(c:∀y ∈ sc.names, y.2 = .local -> sc.names.lookup y.1=some .local := by decide +kernel)
  (d:∀y∈sc.names,y.2=.free->osc.names.lookup y.1=some .cell∨osc.names.lookup y.1=some .free:=by decide +kernel) (e:sel.length=N'.length:=by rfl) (f:∀p∈sel.zip N',∀i∈p.1,N[i]?=some p.2/\sc.names.lookup p.2=some .free:=by decide +kernel):BlkOk osc N sc N' sel:=⟨a,b,c,d,e,f⟩
section
variable {K:W.Frag}{x qual:Str}{st:Stmt}{f:Addr}{fd:Bq}
theorem Fun.b1{p0:Str}(F:Fun K x qual st f fd)(h:∀(kV doc pm:Value) (an:Option Addr) (cdv ct a0:Value),De (C8 x qual (zaZ st) (zaN st) (zaf st) .none kV doc pm an cdv ct) ⟨[a0],[]⟩=pure [(p0,a0)]:=by intros;rfl):Binds K fd [p0] [] :=
 F.binds λkV doc pm an cdv ct us hl=>match us,hl with |[a0],_=>h kV doc pm an cdv ct a0
theorem Fun.b2{p0 p1:Str}(F:Fun K x qual st f fd)(h:∀(kV doc pm:Value) (an:Option Addr) (cdv ct a0 a1:Value),De (C8 x qual (zaZ st) (zaN st) (zaf st) .none kV doc pm an cdv ct) ⟨[a0,a1],[]⟩=pure [(p0,a0),(p1,a1)]:=by intros;rfl):Binds K fd [p0,p1] [] :=
 F.binds λkV doc pm an cdv ct us hl=>match us,hl with |[a0,a1],_=>h kV doc pm an cdv ct a0 a1
theorem Fun.b3{p0 p1 p2:Str}(F:Fun K x qual st f fd)(h:∀(kV doc pm:Value) (an:Option Addr) (cdv ct a0 a1 a2:Value),De (C8 x qual (zaZ st) (zaN st) (zaf st) .none kV doc pm an cdv ct) ⟨[a0,a1,a2],[]⟩=pure [(p0,a0),(p1,a1),(p2,a2)]:=by intros;rfl):Binds K fd [p0,p1,p2] [] :=
 F.binds λkV doc pm an cdv ct us hl=>match us,hl with |[a0,a1,a2],_=>h kV doc pm an cdv ct a0 a1 a2
theorem Fun.b4{p0 p1 p2 p3:Str}(F:Fun K x qual st f fd)(h:∀(kV doc pm:Value) (an:Option Addr) (cdv ct a0 a1 a2 a3:Value),De (C8 x qual (zaZ st) (zaN st) (zaf st) .none kV doc pm an cdv ct) ⟨[a0,a1,a2,a3],[]⟩=pure [(p0,a0),(p1,a1),(p2,a2),(p3,a3)]:=by intros;rfl):Binds K fd [p0,p1,p2,p3] [] :=
 F.binds λkV doc pm an cdv ct us hl=>match us,hl with |[a0,a1,a2,a3],_=>h kV doc pm an cdv ct a0 a1 a2 a3
end
noncomputable def DA(K:W.Frag)(x:Str)(st:Stmt):Prop:=∃(f:Addr) (od an:Option Addr) (sl:Array (Option Value)) (oc kV dc pm cd ct:Value),Cd K AE x=some (some (.ref f)) /\
 K.lookup f=some ⟨oc,od,.func (C8 x x (zaZ st) (zaN st) (zaf st) .none kV dc pm an cd ct),sl⟩/\W.codeIn K cd x=true/\C3 K (.ref f)=true
section
variable {K:W.Frag}{mg:Str->Option Value}{h:Heap}{x:Str}{st:Stmt}
theorem DA.mk{f:Addr}{od an:Option Addr}{sl:Array (Option Value)}{oc kV dc pm cd ct:Value}(a:Cd K AE x=some (some (.ref f)))
  (l:K.lookup f=some ⟨oc,od,.func (C8 x x (zaZ st) (zaN st) (zaf st) .none kV dc pm an cd ct),sl⟩) (c:W.codeIn K cd x=true) (k:C3 K (.ref f)=true):DA K x st :=
 ⟨f,od,an,sl,oc,kV,dc,pm,cd,ct,a,l,c,k⟩
theorem DA.d1{p0:Str}(D:DA K x st)(X:K.In h)(G:h.Ns AE mg)(hb:∀(kV doc pm:Value) (an:Option Addr) (cdv ct a0:Value),De (C8 x x (zaZ st) (zaN st) (zaf st) .none kV doc pm an cdv ct) ⟨[a0],[]⟩=pure [(p0,a0)]:=by intros;rfl):Nonempty (Df K mg x st [p0]):=by obtain⟨f,od,an,sl,oc,kV,dc,pm,cd,ct,a,l,c,k⟩:=D;exact⟨⟨f,_,zcp l c k,DE X G a,(zcp l c k).b1 hb⟩⟩
theorem DA.d2{p0 p1:Str}(D:DA K x st)(X:K.In h)(G:h.Ns AE mg)(hb:∀(kV doc pm:Value) (an:Option Addr) (cdv ct a0 a1:Value),De (C8 x x (zaZ st) (zaN st) (zaf st) .none kV doc pm an cdv ct) ⟨[a0,a1],[]⟩=pure [(p0,a0),(p1,a1)]:=by intros;rfl):Nonempty (Df K mg x st [p0,p1]):=by obtain⟨f,od,an,sl,oc,kV,dc,pm,cd,ct,a,l,c,k⟩:=D;exact⟨⟨f,_,zcp l c k,DE X G a,(zcp l c k).b2 hb⟩⟩
theorem DA.d3{p0 p1 p2:Str}(D:DA K x st)(X:K.In h)(G:h.Ns AE mg)(hb:∀(kV doc pm:Value) (an:Option Addr) (cdv ct a0 a1 a2:Value),De (C8 x x (zaZ st) (zaN st) (zaf st) .none kV doc pm an cdv ct) ⟨[a0,a1,a2],[]⟩=pure [(p0,a0),(p1,a1),(p2,a2)]:=by intros;rfl):Nonempty (Df K mg x st [p0,p1,p2]):=by obtain⟨f,od,an,sl,oc,kV,dc,pm,cd,ct,a,l,c,k⟩:=D;exact⟨⟨f,_,zcp l c k,DE X G a,(zcp l c k).b3 hb⟩⟩
theorem DA.d4{p0 p1 p2 p3:Str}(D:DA K x st)(X:K.In h)(G:h.Ns AE mg)(hb:∀(kV doc pm:Value) (an:Option Addr) (cdv ct a0 a1 a2 a3:Value),De (C8 x x (zaZ st) (zaN st) (zaf st) .none kV doc pm an cdv ct) ⟨[a0,a1,a2,a3],[]⟩=pure [(p0,a0),(p1,a1),(p2,a2),(p3,a3)]:=by intros;rfl):Nonempty (Df K mg x st [p0,p1,p2,p3]):=by obtain⟨f,od,an,sl,oc,kV,dc,pm,cd,ct,a,l,c,k⟩:=D;exact⟨⟨f,_,zcp l c k,DE X G a,(zcp l c k).b4 hb⟩⟩
end
open PySem PyProof.Rows
section
variable {X:Cx}{pos:Pos}
noncomputable def zlv (ti:TE):TE:=λσ H Q=>ti σ H λy H1=>(y=.str "rim" ∨ y=.str "hole")/\Q (.bl true) H1
theorem zjh {i:Expr}{ti:TE}{p:Pos}(hg:Gl X "BEGIN_WAYS") (hw:Ways X.prog X.w X.K X.mg) (hsy:∀B,X.mg "BEGIN_WAYS" = some (.ref B)->(B == PySem.sysModules)=false) (hi:PE X i ti):PC X .In i (.Name "BEGIN_WAYS" p) (zlv ti):=by
 intro pins s σ H Q I h;obtain⟨B,t1,t2,t3,t4,n,hm,hl⟩:=hw.ex;refine thn (hi pins s σ H _ I h) λiv s1 ⟨y,H1,I1,ry,hy,q1⟩=>thn ((zdS (v:=.ref B) hg hm rfl:PE X (.Name "BEGIN_WAYS" p) _) pins s1 σ H1 (λv H2=>v=V.ref B/\H2=H1) I1 ⟨rfl,rfl⟩) λu s2 ⟨x,H2,I2,rx,q2⟩=>?_
 obtain⟨rfl,rfl⟩:=q2;obtain rfl:u=Ao B:=rx;have ho:s2.heap.get? B=some _:=I2.kIn B _ hl
 have mo:s2.heap.MapOf (zaA X.prog X.w) B (PySem.findBy (zaA X.prog X.w).is #[⟨BE X.w.params "rim",.str "rim" t1,.int 0 t2⟩,⟨BE X.w.params "hole",.str "hole" t3,.int 2 t4⟩]) :=
  ⟨_,_,_,ho,⟨rfl,rfl,rfl⟩,rfl,λe he=>by
   simp only[List.mem_toArray,At,DG,or_false]at he;rcases he with rfl |rfl
   .exact⟨.inr "rim",zbe _ _ _ _,rfl⟩
   .exact⟨.inr "hole",zbe _ _ _ _,rfl⟩,λ_=>rfl⟩
 rcases hy with rfl |rfl
 .exact wpAny_in_of (kV_is (k:=.inr "rim") ry) (hsy B hm) mo ⟨.bl true,_,I2.tok _,rfl,q1⟩
 .exact wpAny_in_of (kV_is (k:=.inr "hole") ry) (hsy B hm) mo ⟨.bl true,_,I2.tok _,rfl,q1⟩
theorem zlP:OpR X (BD .IsNot) (λx y H Q=>∃a b,x=.bl a/\y=.bl b/\Q (.bl (!(a == b))) H):=by
 intro pins s σ H x y v u Q I rx ry h;obtain⟨a,b,rfl,rfl,q⟩:=h
 cases rx
 cases ry
 have e:BD .IsNot (.bool a) (.bool b)=pure (.bool (!(a == b))):=by cases a <;> cases b <;> rfl
 rw[e];exact Af ⟨.bl _,H,I,rfl,q⟩
end
structure Fly (B:Heap) (l:List Env) (e:Addr) (o:Obj) (vs:Array Value) (fl:Value) (h:Heap):Prop where
 stay:B.StaysIn h
 new:B.get? e=none
 fr:h.FunFrames B l
 tb:∃T oT ts,h.get? e=some { o with data:=.fields (vs.setIfInBounds 1 (.ref T)) }/\1<vs.size/\B.get? T=none/\T≠e/\h.get? T=some oT/\oT.data=.fields ts/\ts[3]?=some fl
section
variable {M:D4}{A:AF}{E:Value->Ac->Prop}{s:Ac}{B:Heap}{env:Env}{outer l:List Env}{L e:Addr}{o:Obj}{vs us:Array Value}{fl:Value}{Q:Unit->Ac->Prop}
theorem zeC{h:Heap}{c b:Addr}{u v:Obj}{ts:Array Value}(hc:h.get? c=some u)(hd:u.data=.fields ts)(hb:h.get? b=some v)(hn:∀ws,v.data≠.fields ws):b≠c:=by
 rintro rfl;rw[hc]at hb
 cases hb
 exact hn _ hd
theorem zgQ{b c:Addr}{u:Obj}(hb:B.get? b=some u)(hc:B.get? c=none):b≠c:=by
 rintro rfl;rw[hc]at hb
 cases hb
theorem zeB{head:Value}{had:Bool}(hfr:A.frames=some (env :: outer))(hl:s.heap.FunFrames B (env :: outer))(hf:env.frame=some L)(he:s.heap.get? e=some { o with data := .fields us })(hkb:B.StaysIn s.heap)(hen:B.get? e=none)
  (hsz:1<us.size) (huv:∀x,us.setIfInBounds 1 x=vs.setIfInBounds 1 x) (h:∀h',Fly B (env::outer) e o vs (Cr L) h'->s.heap.UpToSlots h'->Q () { s with heap:=h' }) :
  Am M A (do let a <- frameOf env;let pl <- entryPlaceOf L had;let b <- EntryCells.newEntry head a .none (Cr L) .none pl;setField (.ref e) 1 b) Q E s:=by
 have hes:e ∉ (env::outer).filterMap (·.frame):=λz=>by obtain⟨_,v,hv,hn⟩:=hl.mem z;exact zeC he rfl hv hn rfl
 refine Ab (wpAny_frameOf_fun hfr hl hf λh1 k1=>?_);refine Ab (wpAny_entryPlaceOf λpl hpl=>?_);unfold EntryCells.newEntry newFields;refine Ab (Bh ?_ (hpl.sizeOk5 _ _ _ _ _));have e1:h1.get? e=some { o with data:=.fields us }:=(k1.2.1 e hes).trans he;have b1:B.StaysIn h1:=λb u q=>(k1.2.1 b λz=>by rw[(hl.mem z).1]at q;cases q).trans (hkb b u q)
 generalize hT:({ cls:=.type "traceback",data:=.fields ([head,.ref L,.none,Cr L,.none]++(if pl.isEmpty then Ah 6 Value.none else pl)).toArray }:Obj)=oT;have hTd:oT.data=.fields ([head,.ref L,.none,Cr L,.none]++(if pl.isEmpty then Ah 6 Value.none else pl)).toArray:=by rw[<- hT]
 have hTf:oT.isFreed=false:=by rw[<- hT];rfl
 have ne:h1.objs.size≠e:=Cf (Au e1);refine wpAny_setField (Ae _ e1) rfl hsz ?_
 have up:∀b u,b≠e->h1.get? b=some u->((h1.push oT).update e (Ds (·.setIfInBounds 1 (Ao h1.objs.size)))).get? b=some u:=λb u z q=>by rw[AW _ _ (Bx z)];exact Ae _ q
 have sl:∀b u,s.heap.get? b=some u->(∀ws,u.data≠.fields ws)->∃x,((h1.push oT).update e (Ds (·.setIfInBounds 1 (Ao h1.objs.size)))).get? b=some { u with slots:=x }:=λb u q n=>by obtain⟨x,hx⟩:=k1.2.2 b u q;exact⟨x,up b _ (zeC he rfl q n) hx⟩
 refine h _ ⟨λb u q=>up b u (zgQ q hen) (b1 b u q),hen,hl.of_keeps λb u q n=>?_,⟨h1.objs.size,oT,_,?_,?_,b1.fresh,ne,?_,hTd,?_⟩⟩ sl
 .obtain⟨x,hx⟩:=sl b u q n;exact⟨_,hx,rfl⟩
 .rw[<- huv];exact BN _ (Ae _ e1) rfl
 .have:=congrArg Array.size (huv Value.none);simp only[Array.size_setIfInBounds]at this;lia
 .exact (AW _ _ (Bx ne)).trans (Av h1 hTf)
 .first | (simp;done) | (rcases hpl with rfl |⟨_,_,_,_,_,_,_,rfl⟩ <;> simp)
theorem zh7(hfr:A.frames=some (env :: outer))(hl:s.heap.FunFrames B (env :: outer))(hf:env.frame=some L)(he:s.heap.get? e=some { o with data := .fields vs })(hkb:B.StaysIn s.heap)(hen:B.get? e=none)(h1:vs[1]? = some .none)
  (h:∀h',Fly B (env::outer) e o vs (Cr L) h'->s.heap.UpToSlots h'->Q () { s with heap:=h' }):Am M A (noteFrame (.ref e) env) Q E s:=by
 unfold noteFrame;simp only[hf];refine Ab (CO he rfl h1 ?_);rw[if_neg (by decide)];exact zeB hfr hl hf he hkb hen (B6.mp h1).1 (λ_=>rfl) h
theorem zfU(hfr:A.frames=some (env :: outer))(hf:env.frame=some L)(F:Fly B (env :: outer) e o vs .none s.heap)
  (h:∀h',Fly B (env::outer) e o vs (Cr L) h'->s.heap.UpToSlots h'->Q () { s with heap:=h' }):Am M A (noteFrame (.ref e) env) Q E s:=by
 obtain⟨T,oT,ts,he,hz,nT,Te,hT,hd,h3⟩:=F.tb;unfold noteFrame;simp only[hf];refine Ab (CO he rfl (x:=.ref T) (by simp[hz]) ?_);rw[if_pos (show (Ao T != Value.none)=true from by simp)];refine Ab (CO hT hd h3 ?_);rw[if_neg (by simp[Cr])];refine Ab (wpAny_setField hT hd (B6.mp h3).1 ?_);have ot:∀b,b≠T->(s.heap.update T (Ds (·.setIfInBounds 3 Value.none))).get? b=s.heap.get? b:=λb z=>AW _ _ (Bx z)
 refine zeB (s:={ s with heap:=s.heap.update T (Ds (·.setIfInBounds 3 Value.none)) }) hfr (F.fr.of_keeps λb u q n=>⟨u,(ot b (zeC hT hd q n)).trans q,rfl⟩) hf ((ot e (Bx Te)).trans he)
  (λb u q=>(ot b (zgQ q nT)).trans (F.stay b u q)) F.new (by simpa using hz) (λx=>by simp) λh' x1 x2=>h h' x1 λb u q n=>x2 b u ((ot b (zeC hT hd q n)).trans q) n
theorem zcv(F:Fly B l e o vs fl s.heap)(h:∀h',Fly B l e o vs .none h'->s.heap.UpToSlots h'->Q () { s with heap:=h' }):Am M A (setFlight (.ref e) none) Q E s:=by
 obtain⟨T,oT,ts,he,hz,nT,Te,hT,hd,h3⟩:=F.tb;have z3:3<ts.size:=(B6.mp h3).1;have ot:∀b,b≠T->(s.heap.update T (Ds (·.setIfInBounds 3 ((none:Option Addr).elim Value.none λf=>Cr f)))).get? b=s.heap.get? b:=λb z=>AW _ _ (Bx z)
 unfold setFlight;refine Ab (CO he rfl (x:=.ref T) (by simp[hz]) ?_);rw[if_pos (show (Ao T != Value.none)=true from by simp)]
 refine wpAny_setField hT hd z3 (h _ ⟨λb u q=>(ot b (zgQ q nT)).trans (F.stay b u q),F.new,F.fr.of_keeps λb u q n=>⟨u,(ot b (zeC hT hd q n)).trans q,rfl⟩,T,_,_,(ot e (Bx Te)).trans he,hz,nT,Te,
  BN _ hT (Obj.isFreed_of_fields (D1 hd _)),D1 hd _,by simp[z3]⟩ λb u q n=>⟨u.slots,(ot b (zeC hT hd q n)).trans q⟩)
theorem Fly.out(F:Fly B (env::outer) e o vs fl s.heap):Fly B outer e o vs fl s.heap:=⟨F.stay,F.new,F.fr.2.2,F.tb⟩
theorem zgS(hfr:A.frames=some (env :: outer))(hl:s.heap.FunFrames B (env :: outer))(hf:env.frame=some L)(he:s.heap.get? e=some { o with data := .fields vs })(hkb:B.StaysIn s.heap)(hen:B.get? e=none)(h1:vs[1]? = some .none)
  (h:∀h',Fly B outer e o vs .none h'->s.heap.UpToSlots h'->Q () { s with heap:=h' }):Am M A (leaving env (.ref e)) Q E s:=by
 unfold leaving;refine Ab (zh7 hfr hl hf he hkb hen h1 λh' x1 x2=>?_);exact zcv (s:={ s with heap:=h' }) x1 λh2 y1 y2=>h h2 (Fly.out (s:={ s with heap:=h2 }) y1) (x2.trans y2)
theorem zia(hfr:A.frames=some (env :: outer))(hf:env.frame=some L)(F:Fly B (env :: outer) e o vs .none s.heap)
  (h:∀h',Fly B outer e o vs .none h'->s.heap.UpToSlots h'->Q () { s with heap:=h' }):Am M A (leaving env (.ref e)) Q E s:=by
 unfold leaving;refine Ab (zfU hfr hf F λh' x1 x2=>?_);exact zcv (s:={ s with heap:=h' }) x1 λh2 y1 y2=>h h2 (Fly.out (s:={ s with heap:=h2 }) y1) (x2.trans y2)
end
noncomputable def CX1(P:AB)(w:AV):CXT:=λouter H s E e s'=>∃(a:Addr) (H':Hp) (B:Heap) (o:Obj) (vs:Array Value),e=.ref a/\s'.os=s.os/\AllBare s'.gens/\Fly B outer a o vs .none s'.heap/\s.heap.get? a=none/\H' a=none /\
 (∀h2,B.StaysIn h2->s'.heap.UpToSlots h2->Un (frs outer) [] H H' s.heap h2/\HOk P w H' h2)/\E o.cls o.dict H'
section
variable {P:AB}{w:AV}{K:W.Frag}{mg:Str->Option Value}{base:Heap}{N:List Str}{qual:Str}{scope:Scope}{f:Addr}{cd:Value}{A:AF}{outer:List Env}{s0:Ac}{H0:Hp}{E:XK}
 {pins:List (Addr×Obj)} {σ:St} {H:Hp} {s:Ac} {e:Addr} {o:Obj} {vs:Array Value}
theorem xe_of(I:Inv (cxOf (CX1 P w) P w K mg base N qual scope f cd A outer s0 H0 E) pins σ H s)(he:s.heap.get? e=some { o with data := .fields vs })(h1:vs[1]? = some .none)(hn:H e=none)(hnew:s0.heap.get? e=none)(h:E o.cls o.dict H) :
  (cxOf (CX1 P w) P w K mg base N qual scope f cd A outer s0 H0 E).xe (.ref e) s:=by
 let X:=cxOf (CX1 P w) P w K mg base N qual scope f cd A outer s0 H0 E
 have hfs:∀b∈frs X.stack,H b=none:=I.stkFree
 have nin:∀b,b<s0.heap.objs.size->b ∉ frs outer->b≠e->b ∉ e::frs X.stack:=λb hb h2 h3 z=>by
  rcases At.mp z with z |z
  .exact h3 z
  .rcases At.mp (show b∈s0.heap.objs.size::frs outer from z) with z |z
   .exact absurd hb (by rw[z];exact BV _)
   .exact h2 z
 have ne0:∀b u,s0.heap.get? b=some u->b≠e:=λb u q z=>by rw[z,hnew]at q;cases q
 refine zgS (B:=W.hideAll s.heap (e::frs X.stack)) (show _=some (X.env::outer) from I.ok.frames) (W.funFrames_hide I.stack λen hen a ha=>Ar _ (List.mem_filterMap.mpr ⟨en,hen,ha⟩)) rfl he (λb u q=>W.of_hideAll _ q) (W.hideAll_none _ (.head _)) h1 λh' x1 x2=>?_
 refine⟨e,H,_,o,vs,rfl,I.os,I.bare,x1,hnew,hn,λh2 k1 k2=>?_,h⟩;have st:∀b u,s.heap.get? b=some u->b ∉ e::frs X.stack->h2.get? b=some u:=λb u q z=>k1 b u (W.hideAll_get _ q z)
 have sl:∀b u,b∈frs outer->s0.heap.get? b=some u->∃x,h2.get? b=some { u with slots:=x }:=λb u hb q=>by obtain⟨_,v,hv,hd⟩:=I.ok.funs.mem hb;obtain rfl:v=u:=A4 (hv.symm.trans q);obtain⟨x,hx⟩:=I.base.slot b v q (I.ok.frf b hb) hb (by simp[cxOf]);obtain⟨y,hy⟩:=(x2.trans k2) b _ hx hd;exact⟨y,hy⟩
 refine⟨⟨λb u q n hb _=>st b u (I.base.keep b u q n hb (by simp[cxOf])) (nin b (Au q) hb (ne0 b u q)),λb u q n hb _=>sl b u hb q,λb u q n _=>I.base.free b u q n (by simp[cxOf]),λb u q _=>?_,I.base.tups,I.base.frzs,I.base.tbls⟩,λb u q=>?_⟩
 .by_cases hb:b∈frs outer
  .obtain⟨x,hx⟩:=sl b u hb q;exact⟨_,hx⟩
  .obtain⟨v,hv⟩:=I.base.there b u q (by simp[cxOf]);exact⟨v,st b v hv (nin b (Au q) hb (ne0 b u q))⟩
 .refine (I.hok b u q).stay (λc v hc r=>st c v r λz=>?_) (λ_ r=>r) λ_ _ r=>r
  have hH:H c≠none:=by
   rcases hc with rfl |hc
   .rw[q];simp
   .rw[hc];simp
  rcases At.mp z with z |z
  .rw[z]at hH;exact hH hn
  .exact hH (hfs c z)
theorem pass1{E1:XK}(hi:∀c d H',E1 c d H'->E c d H'):zef (CX1 P w) (cxOf (CX1 P w) P w K mg base N qual scope f cd A outer s0 H0 E) E1:=by
 rintro pins σ H s e s' I ⟨a,H',B,o,vs,rfl,os,bare,F,hnew,hn,st,h⟩;refine zia (show _=some (_::outer) from I.ok.frames) rfl F λh' x1 x2=>?_
 have hz:s0.heap.get? a=none:=by
  cases q:s0.heap.get? a with
  |none=>rfl
  |some u =>
   obtain⟨v,hv⟩:=I.base.there a u q (by simp[cxOf]);rw[hnew]at hv
   cases hv
 refine⟨a,H',B,o,vs,rfl,os.trans I.os,bare,x1,hz,hn,λh2 k1 k2=>?_,hi _ _ _ h⟩;obtain⟨un,hok⟩:=st h2 k1 (x2.trans k2);have J:=I.call' (s':={ s' with heap:=h2 }) (ch:=[]) os un hok bare (λb z=>absurd z (by simp));exact⟨J.base,J.hok⟩
end
theorem ObjOk.ex{P:AB}{w:AV}{H:Hp}{h:Heap}{a:Addr}{o:HO}(x:ObjOk P w H h a o):∃u,h.get? a=some u:=by
 cases o with
 |lst xs=>obtain⟨_,_,_,_,e⟩:=x;exact⟨_,e⟩
 |tup xs=>obtain⟨_,_,_,u,e,_⟩:=x;exact⟨_,e⟩
 |dK kvs=>obtain⟨_,_,_,_,o,_,_,e,_⟩:=x;exact⟨_,e⟩
 |dT kvs=>obtain⟨_,_,_,_,o,_,_,e,_⟩:=x;exact⟨_,e⟩
 |set S n=>obtain⟨o,_,_,_,e,_⟩:=x;exact⟨_,e⟩
 |ins C dx fs=>obtain⟨_,_,_,e,_⟩:=x;exact⟨_,e⟩
 |own y=>exact x
 |xd fs=>obtain⟨_,⟨_,_,_,e,_⟩,_⟩:=x;exact⟨_,e⟩
 |rng lo hi=>obtain⟨_,_,_,e⟩:=x;exact⟨_,e⟩
 |frz ob u=>exact⟨_,x.1⟩
 |tbl ps=>exact⟨_,x⟩
 |met f y=>exact⟨_,x⟩
 |ext φ=>exact x.2.1
theorem HOk.gone{P:AB}{w:AV}{H:Hp}{h:Heap}{a:Addr}(x:HOk P w H h)(e:h.get? a=none):H a=none:=by
 cases q:H a with
 |none=>rfl
 |some o =>
  obtain⟨u,hu⟩:=(x a o q).ex;rw[e]at hu
  cases hu
section
variable {P:AB}{w:AV}{K:W.Frag}{mg:Str->Option Value}{base:Heap}{N:List Str}{qual:Str}{scope:Scope}{f:Addr}{cd:Value}{A:AF}{outer:List Env}{s0:Ac}{H0:Hp}{E:XK}
end
noncomputable abbrev Cx.pinned(X:Cx)(pins:List (Addr×Obj)):Cx:={ X with pn:=X.pn++pins }
noncomputable abbrev Cx.tried(X:Cx)(pins:List (Addr×Obj))(E:XK):Cx:={ X with pn:=X.pn++pins,xe:=λe s'=>∃ps σ H s,Inv (X.pinned pins) ps σ H s/\CX1 X.prog X.w X.stack H s E e s' }
noncomputable abbrev Cx.held(X:Cx)(a:Addr):Cx:={ X with A:=X.A.mark (some (.ref a)),calm:=false,xe:=λ_ _=>False }
noncomputable def excO(a:Addr)(c:Value)(d:Option Addr):HO:=.ext λh=>∃u,h.get? a=some u/\u.cls=c/\u.dict=d/\∃vs,u.data=.fields vs
noncomputable def Ends.drop(D:Ends)(i:Nat):Ends:={ nx:=λσ H=>D.nx (σ.set i none) H,rt:=D.rt,bk:=λσ H=>D.bk (σ.set i none) H,ct:=λσ H=>D.ct (σ.set i none) H }
section
variable {X:Cx}{pins:List (Addr×Obj)}{σ:St}{H:Hp}{s:Ac}{E:XK}
theorem Cx.Ok.pinned(ok:X.Ok):(X.pinned pins).Ok:=⟨ok.mod,ok.kind,ok.glob,ok.blt,ok.above,ok.inj,ok.has,ok.cab,ok.hd,ok.frames,ok.stk,ok.exf,ok.bs,ok.bsz,ok.noex,ok.exfs,ok.funs,ok.frf⟩
theorem Cx.Ok.unpinned(ok:(X.pinned pins).Ok):X.Ok:=⟨ok.mod,ok.kind,ok.glob,ok.blt,ok.above,ok.inj,ok.has,ok.cab,ok.hd,ok.frames,ok.stk,ok.exf,ok.bs,ok.bsz,ok.noex,ok.exfs,ok.funs,ok.frf⟩
theorem Inv.unpnd{ps:List (Addr×Obj)}(I:Inv (X.pinned pins) ps σ H s):Inv X pins σ H s:=⟨I.ok.unpinned,I.os,I.bare,I.base,I.loc,I.cell,I.free,I.freeC,λp hp=>I.pin p (Bf _ hp),I.hok,I.len⟩
theorem Inv.tried(I:Inv X pins σ H s):Inv (X.tried pins E) [] σ H s:=⟨I.ok.pinned.wish _,I.os,I.bare,I.base,I.loc,I.cell,I.free,I.freeC,λp hp=>I.pin p (by simpa using hp),I.hok,I.len⟩
theorem Inv.untried{ps:List (Addr×Obj)}(I:Inv (X.tried pins E) ps σ H s):Inv (X.pinned pins) ps σ H s:=Inv.unwish (X:=X.pinned pins) I
theorem SP.untried{D:Ends}{f:Flow}{ps:List (Addr×Obj)}(h:SP (X.tried pins E) ps D f s):SP X pins D f s:=by
 cases f with
 |next=>obtain⟨σ',H',I,q⟩:=h;exact⟨σ',H',I.untried.unpnd,q⟩
 |brk=>obtain⟨σ',H',I,q⟩:=h;exact⟨σ',H',I.untried.unpnd,q⟩
 |cont=>obtain⟨σ',H',I,q⟩:=h;exact⟨σ',H',I.untried.unpnd,q⟩
 |ret u=>obtain⟨v,σ',H',I,r,q⟩:=h;exact⟨v,σ',H',I.untried.unpnd,r,q⟩
theorem passT{E1:XK}(hi:∀c d H',E1 c d H'->E c d H'):zef (CX1 X.prog X.w) (X.tried pins E) E1:=by rintro ps σ H s e s' I ⟨a,H',B,o,vs,q1,q2,q3,q4,q5,q6,q7,h⟩;exact⟨ps,σ,H,s,I.untried,a,H',B,o,vs,q1,q2,q3,q4,q5,q6,q7,hi _ _ _ h⟩
theorem Inv.held{a:Addr}(I:Inv X pins σ H s):Inv (X.held a) pins σ H s :=
 ⟨⟨I.ok.mod,I.ok.kind,I.ok.glob,I.ok.blt,I.ok.above,I.ok.inj,I.ok.has,I.ok.cab,(λz=>nomatch z),I.ok.frames,I.ok.stk,I.ok.exf,I.ok.bs,I.ok.bsz,I.ok.noex,I.ok.exfs,I.ok.funs,I.ok.frf⟩,I.os,I.bare,I.base,I.loc,I.cell,I.free,I.freeC,I.pin,I.hok,I.len⟩
theorem Inv.unheld{a:Addr}(ok:X.Ok)(I:Inv (X.held a) pins σ H s):Inv X pins σ H s:=⟨ok,I.os,I.bare,I.base,I.loc,I.cell,I.free,I.freeC,I.pin,I.hok,I.len⟩
theorem Inv.track{a:Addr}{u:HO}{σ2:St}{H2:Hp}{s2:Ac}(I:Inv X pins σ H s)(I2:Inv X pins σ2 H2 s2)(hex:X.ex=[])(hn:H a=none)(h2:s2.heap.get? a=none)(new:ObjOk X.prog X.w (upd H a u) s.heap a u):Inv X pins σ (upd H a u) s:=by
 have na:∀b v,s2.heap.get? b=some v->b≠a:=λb v q z=>by rw[z,h2]at q;cases q
 have n0:∀b v,X.s₀.heap.get? b=some v->b≠a:=λb v q=>by obtain⟨x,hx⟩:=I2.base.there b v q (by rw[hex];simp);exact na b x hx
 have nH:∀b v,H b=some v->b≠a:=λb v q z=>by rw[z,hn]at q;cases q
 have nL:X.env.locals≠a:=by obtain⟨m,⟨v,_,_,q,_⟩,_⟩:=I2.loc;exact na _ v q
 have B:=I.base;refine⟨I.ok,I.os,I.bare,⟨B.keep,B.slot,λb v q z hx=>?_,B.there,λb xs q=>?_,λb v w q=>?_,λb ps q=>?_⟩,I.loc,I.cell,?_,λx c q=>?_,λp hp=>?_,λb v q=>?_,I.len⟩
 .rw[zai (n0 b v q)];exact B.free b v q z hx
 .have:=B.tups b xs q;rw[zai (nH _ _ this)];exact this
 .have:=B.frzs b v w q;rw[zai (nH _ _ this)];exact this
 .obtain⟨more,this⟩:=B.tbls b ps q;exact⟨more,by rw[zai (nH _ _ this)];exact this⟩
 .rw[zai nL];exact I.free
 .obtain⟨_,v,hv,_⟩:=I2.cell x c q;rw[zai (na c v hv)];exact I.freeC x c q
 .obtain⟨q1,q2,q3⟩:=I.pin p hp;refine⟨q1,?_,q3⟩;rw[zai (na _ _ (I2.pin p hp).1)];exact q2
 .by_cases hb:b=a
  .subst hb;rw[zaa]at q;cases q;exact new
  .rw[zai hb]at q;exact (I.hok b v q).stay (λ_ _ _ r=>r) (λc r=>by rw[zai (nH _ _ r)];exact r) λc xs r=>by rw[zai (nH _ _ r)];exact r
end
section
variable {X:Cx}
end
section
variable {prog:AB}{w:AV}{A:AF}{E:Value->Ac->Prop}{s:Ac}{K:W.Frag}{a D:Addr}{u:Obj}{od:Option Obj}
end
structure ExcC (K:W.Frag) (D:Addr):Prop where
 hga:Cs K (.ref D) "__getattribute__" = some (some (.builtin "BaseException.__getattribute__"))
 hgb:Cs K (.ref D) "__getattr__" = some none
 hb:W.subIn K (.ref D) (.type "BaseException")=some true
 hd:W.hasDictIn K D=true
 ha:Cs K (.ref D) "__class__" = some (some (.builtin "object.__class__"))
 hn:W.specialIn K (.builtin "object.__class__") "__get__" = some (some (.builtin "getset_descriptor.__get__"))
 ht:W.takesIn K (.builtin "object.__class__")=some true
 hm:W.mroIn K D (.type "object")=some true
theorem PS.nox{X:Cx}{st:Stmt}{t:TS}(h:PS X.nox st t):PS X st t:=λpins s σ H D I hw=>Bk (h pins s σ H D (I.wish _) hw) (λ_ _ q=>q.unwish) λ_ _ z=>Bj z
section
variable {P:AB}{w:AV}{K:W.Frag}{mg:Str->Option Value}{base:Heap}
structure FnX (P:AB) (w:AV) (K:W.Frag) (mg:Str->Option Value) (base:Heap) (k:Nat) (x:Str) (ps:List Str) (sp:Sp) where
 f:Addr
 fd:Bq
 ok:FnOk P w K mg base (CX1 P w) k f fd ps sp
 m:mg x=some (.ref f)
 kp:C3 K (.ref f)=true
 b:Binds K fd ps []
noncomputable def Df.fnX{k:Nat}{x:Str}{st:Stmt}{ps:List Str}{sp:Sp}(d:Df K mg x st ps)(h:FnOk P w K mg base (CX1 P w) k d.f d.fd ps sp):FnX P w K mg base k x ps sp:=⟨d.f,d.fd,h,d.m,d.F.kp,d.b⟩
theorem Fun.okX{x qual:Str}{st:Stmt}{f:Addr}{fd:Bq}{N ps:List Str}{k:Nat}{sp:Sp}(F:Fun K x qual st f fd)(S:FnScope N ps (zaf st))(len:∀vs H Q E, sp vs H Q E -> vs.length=ps.length)
  (hb:∀(cdv:Value) (A:AF) (outer:List Env) (s:Ac) (H:Hp) (vs:List V) (Q:VK) (E:XK),Room k (A.deeper (envOfC qual (zaf st) s.heap.objs.size f cdv))->sp vs H Q E ->
   ∃t,PSs (cxOf (CX1 P w) P w K mg base N qual (zaf st) f cdv A outer s H E) (zaN st) t/\t { nx:=λ_ H'=>Q .non H',rt:=Q } (start N vs) H):FnOk P w K mg base (CX1 P w) (k+1) f fd ps sp:=by
 obtain⟨oc,od,kV,doc,pm,an,cdv,ct,osl,rfl,lk,hcd⟩:=F.ex;exact fn_of lk hcd S len λA outer s H vs Q E hr hsp=>hb cdv A outer s H vs Q E hr hsp
end
section
variable {X:Cx}{k j:Nat}{x:Str}{ps:List Str}{sp:Sp}{E:XK}{p pos:Pos}{e:Expr}{es:List Expr}{t:TA}
theorem pCX (g:FnX X.prog X.w X.K X.mg X.base k x ps sp) (hr:Room j X.A) (hx:zef (CX1 X.prog X.w) X E) (ha:PA X (e :: es) t) (hj:k <= j := by decide) (hg:Gl X x := by rfl) (hdb:(x == ("__debug__" : Str))=false := by decide)
  (he:A5 (e::es) X.env=(false,eval e X.env)::A5 es X.env:=by rfl) (hpl:(DK pos (A5 es X.env)).any (·.1)=false:=by rfl):PE X (.Call (.Name x p) (e::es) [] pos) (tCall sp [] E t) :=
 zjg g.ok (hr.mono hj) hg g.m g.kp g.b .nil hx ha hdb he hpl
end
noncomputable abbrev zjP(C t:Addr):Obj:={ cls:=.ref C,data:=.fields #[.ref t,.none,.none,.none,.bool false,.none] }
noncomputable abbrev heapX (h:Heap) (C:Addr) (us:List Value):Heap:=(h.push { cls:=.type "tuple",data:=.seq us.toArray }).push (zjP C h.objs.size)
theorem zbz{h:Heap}{C:Addr}{us:List Value}(b:Addr)(o:Obj)(e:h.get? b=some o):(heapX h C us).get? b=some o:=Ae _ (Ae _ e)
section
variable {prog:AB}{w:AV}{A:AF}{E:Value->Ac->Prop}{h:Heap}{g:Array GenState}{d:Drawn}{t:Nat}{os:OsState}
variable {nm q:Str}{C N f:Addr}{bs bm bmB:List Value}{hdct:Bool}{sn:List Str}{sub:List Value}{ab:Bool}{col:Option Bool}{dd:Option Addr}{k0 k1 k2 k3 k5:Option Value}{B newId initId:String}
theorem ziA(F:ExcBaseFacts B newId initId bmB)(T:OwnTail h bmB bm){mN:Str -> Option Value}{us:List Value}{Q:Fin -> Ac -> Prop}(hC:h.get? C=some (excClassObj nm q C N bs bm hdct sn sub ab col dd k0 k1 k2 k3 k5 newId))(hn:h.Ns N mN)
  (hni:mN "__init__" = some (.ref f)) (hbd:∀self,W.Looks (Aw prog w) h (bindSpecial (.ref f) self) (.ref f,[self])) (hus:us.length<=sizeLine)
  (hcall:Am (Aw prog w) A (call (.ref f) (.ref (h.objs.size+1)::us)) (λv s'=>v=.none/\Q (.done (.ret (.ref (h.objs.size+1)))) s') E ⟨heapX h C us,g,d,t,os⟩) :
  Am (Aw prog w) A (Builtin.«type.__call__» ⟨.ref C::us,[]⟩) Q E ⟨h,g,d,t,os⟩:=by
 repeat (first |with_reducible refine Dx hC ?_ |with_reducible refine wpAny_madeBy_exc hC ?_ |wp_step)
 refine codeAny_call_builtin_code (Code.quiet_builtin _ F.quiet) (wpAny_check_new_subT F T hC (codeAny_exc_new_subT F T hC ?_ hus));show Am _ _ _ _ _ _;have c1:(heapX h C us).get? C=_:=zbz _ _ hC;have n1:(heapX h C us).Ns N mN:=hn.keeps zbz;have g1:(heapX h C us).get? (h.objs.size+1)=some (zjP C h.objs.size):=by heap_get
 have hcC:(Ao C::bm).contains (.ref C)=true:=by simp
 have T1:=T.keeps (h':=heapX h C us) zbz;unfold isInstance
 repeat (first |with_reducible refine Dx g1 ?_ | (with_reducible refine wpAny_isSubtype_exc c1 ?_;rw[hcC]) |wp_step)
 show Am _ _ (typeLookup (.ref C) _) _ _ _;refine wpAny_typeLookup_tail c1 n1 T1 F.mroIs F.init.lookup ?_
 rw[hni];refine A9 (Ab (((hbd _).keeps zbz).at ?_));refine Ab (Bk hcall (λv s' ⟨hv,hq⟩=>?_) λ_ _ z=>z);subst hv;exact Af (Af hq)
theorem zkQ(F:ExcBaseFacts B newId initId bmB)(T:OwnTail h bmB bm){mN:Str -> Option Value}{us:List Value}{Q:Value -> Ac -> Prop}(hC:h.get? C=some (excClassObj nm q C N bs bm hdct sn sub ab col dd k0 k1 k2 k3 k5 newId))(hn:h.Ns N mN)
  (hni:mN "__init__" = some (.ref f)) (hbd:∀self,W.Looks (Aw prog w) h (bindSpecial (.ref f) self) (.ref f,[self])) (hus:us.length<=sizeLine)
  (hcall:Am (Aw prog w) (A.under (.builtin "type.__call__" ⟨.ref C::us,[]⟩)) (call (.ref f) (.ref (h.objs.size+1)::us)) (λv s'=>v=.none/\Q (.ref (h.objs.size+1)) s') E ⟨heapX h C us,g,d,t,os⟩) :
  Am (Aw prog w) A (call (.ref C) us) Q E ⟨h,g,d,t,os⟩:=by
 have f1:=tc_lookup;have f2:=tc_bind (.ref C);have hT:(⟨h,g,d,t,os⟩:Ac).TypeIs (.ref C) "type":=⟨_,hC,rfl⟩;refine wpAny_call (codeAny_of_tree ?_);show Am _ _ (callAny (.ref C) _) _ _ _
 repeat (any_goals (first |assumption |with_reducible refine Dx hC ?_ |wp_step))
 refine⟨rfl,codeAny_call_builtin_at (Code.quiet_builtin _ (by decide +kernel)) entry_typeCall (wpAny_check_type_call_sub hC (ziA F T hC hn hni hbd hus ?_))⟩;exact hcall
end
noncomputable def overX(bm:List Value):List Value->Bool
 |.ref _::r=>overX bm r
 |l=>l == bm
noncomputable abbrev bmV:List Value:=[.type "ValueError",.type "Exception",.type "BaseException",.type "object"]
theorem zhm (self:Value):∀{l:List Value},overX bmV l=true->PySem.refuseLoop self "__setattr__" l=pure ()
 |.ref c::r,e=>by rw[PySem.refuseLoop_ref];exact zhm self (by unfold overX at e;exact e)
 |[],e=>by cases e
 |.none::r,e=>by cases e
 |.type n::r,e=>by
  have:(CU n::r)=bmV:=eq_of_beq (by unfold overX at e;exact e);rw[this];exact PySem.F.store_ValueError.passes self
section
variable {prog:AB}{w:AV}{A:AF}{R:Result->Ac->Prop}{E:Value->Ac->Prop}{s:Ac}{K:W.Frag}{x C:Addr}{ox:Obj}{od:Option Obj}
theorem osaX {name:Str}{tk:Tok}{v:Value}{cd:ClassData}(X:K.In s.heap) (I:W.InstAt s.heap x ox C od) (hc:W.clsIn K C=some cd) (hp:overX bmV cd.mro=true) (hm:W.mroIn K C (.type "object")=some true) (hn:Cs K (.ref C) name=some none)
  (h:Am (Aw prog w) A.in1 (PySem.Builtin.ObjectAttr.storeInOwnDict (.ref x) (.ref C) (.str name tk) name v false)
   (λfin s'=>match fin with |.done f=>R (.ok f) s' |.again c'=>c'.quiet=true/\CK (Aw prog w) A c' R s') (λe s'=>R (.error e) s') s) :
  CK (Aw prog w) A (.call (.builtin "object.__setattr__") ⟨[.ref x,.str name tk,v],[]⟩) R s:=by
 have SF:=PySem.F.store_object;have sub:W.Looks (Aw prog w) s.heap (isInstance (.ref x) (.type "object")) true:=I.type.andThen (W.looks_mroIn X hm);refine codeAny_call_builtin SF.slot.plain SF.entry (W.check_slot (M:=Aw prog w) (s:=s) (i:="object.__setattr__") (owner:="object") (n:="__setattr__") (self:=.ref x) (rest:=[.str name tk,v]) (kw:=[]) SF.kind SF.split sub (SF.args (.ref x) (.str name tk) v) ?_);have hmr:W.Looks (Aw prog w) s.heap (mroOf (.ref C)) cd.mro:=(W.looks_clsIn X hc).andThen .now;rw[W.osa_eq,refuse_eq];refine Ab (Ab (I.type.here (Ab (hmr.here ?_))));rw[zhm _ hp];refine Af (Ab (I.type.here (Ab ((W.looks_findIn X hn).here (Ab (Af h))))))
theorem zl3{name:Str}{v:Value}{cd:ClassData}{vs:Array Value}{sl:Array (Option Value)}{Q:Unit -> Ac -> Prop}(X:K.In s.heap)(hx:s.heap.get? x=some ⟨.ref C, none, .fields vs, sl⟩)(hc:W.clsIn K C=some cd)(hd:cd.hasDict=true)(hp:overX bmV cd.mro=true)
  (hm:W.mroIn K C (.type "object")=some true) (hn:Cs K (.ref C) name=some none) (hs:Cs K (.ref C) "__setattr__" = some (some (.builtin "object.__setattr__")))
  (h:∀h' dx,s.heap.get? dx=none->dx≠x->h'.get? x=some ⟨.ref C,some dx,.fields vs,sl⟩->h'.Ns1 dx (λy=>if y=name then some v else none)->(∀b o,b≠x->s.heap.get? b=some o->h'.get? b=some o)->Q () { s with heap:=h',toks:=s.toks+2 }) :
  Am (Aw prog w) A (setAttr (.ref x) name v) Q E s:=by
 have I:W.InstAt s.heap x ⟨.ref C,none,.fields vs,sl⟩ C none:=⟨hx,rfl,rfl,trivial⟩;refine W.set_plain X I hs (osaX (s:={ s with toks:=s.toks+1 }) X I hc hp hm hn ?_);refine Ab (Af (Ab (Ab (wpAny_loadPart hx (Ab (W.Looks.here (s:={ s with toks:=s.toks+1 }) (W.looks_clsIn X hc) ?_))))));rw[hd];have e0:(s.heap.push W.emptyDict).get? s.heap.objs.size=some W.emptyDict:=Av s.heap rfl;have ne:s.heap.objs.size≠x:=Cf (Au hx);have hx1:=Ae W.emptyDict hx;refine Ab (wpAny_alloc (o:=W.emptyDict) (s:={ s with toks:=s.toks+1 }) ?_);refine Ab (wpAny_update hx1 ?_);refine Af (Ab (Af (Ab ?_)));have up:∀b,b≠x->((s.heap.push W.emptyDict).update x λo=>{ o with dict:=some s.heap.objs.size }).get? b=(s.heap.push W.emptyDict).get? b:=λb z=>AW _ _ (Bx z)
 have n1:((s.heap.push W.emptyDict).update x λo=>{ o with dict:=some s.heap.objs.size }).Ns1 s.heap.objs.size (λ_=>none) :=
  (Heap.Ns1.of_empty (h:=s.heap.push W.emptyDict) ⟨W.emptyDict,#[],_,e0,rfl,(λe he=>absurd he (by simp)),λ_=>rfl⟩).at λo q=>(up _ ne).trans q
 refine wpAny_nsSet1 (s:={ s with heap:=_,toks:=s.toks+1 }) n1 λh' hn2 hs2=>?_
 obtain⟨oD,esD,epD,hoD,hdD,hcD⟩:=hn2.count (PySem.Within.cons name v (ns:=[]) λ_ z=>absurd rfl z);refine Ab (wpAny_lookBehind hoD (by rw[hdD];exact pastItsLine_dict (AM hcD (by rw[Bs,D5];decide))) ?_);refine Af (h _ s.heap.objs.size (by cases q:s.heap.get? s.heap.objs.size with |none=>rfl |some u=>exact absurd (Au q) (BV _)) ne ?_ hn2 λb o z q=>?_)
 .exact (hs2.2 _ (Bx ne)).trans (BN _ hx1 rfl)
 .exact (hs2.2 _ (AK (Au q))).trans ((up b z).trans (Ae _ q))
end
section
variable {prog:AB}{w:AV}{A:AF}{E:Value->Ac->Prop}{s:Ac}{K:W.Frag}{x C dx:Addr}
theorem zkJ{name:Str}{v:Value}{cd:ClassData}{vs:Array Value}{sl:Array (Option Value)}{mA:Str -> Option Value}{ns:List Str}{Q:Unit -> Ac -> Prop}(X:K.In s.heap)(hx:s.heap.get? x=some ⟨.ref C, some dx, .fields vs, sl⟩)(hn1:s.heap.Ns1 dx mA)(hc:W.clsIn K C=some cd)(hd:cd.hasDict=true)(hp:overX bmV cd.mro=true)
  (hm:W.mroIn K C (.type "object")=some true) (hn:Cs K (.ref C) name=some none) (hs:Cs K (.ref C) "__setattr__" = some (some (.builtin "object.__setattr__")))
  (hw:PySem.Within mA ns) (hsz:ns.length<=sizeLine)
  (h:∀h',h'.Ns1 dx (λy=>if y=name then some v else mA y)->Ce dx s.heap h'->Q () { s with heap:=h',toks:=s.toks+2 }) :
  Am (Aw prog w) A (setAttr (.ref x) name v) Q E s:=by
 obtain⟨od,ho,hl⟩:=zfZ hn1;have I:W.InstAt s.heap x ⟨.ref C,some dx,.fields vs,sl⟩ C (some od):=⟨hx,rfl,rfl,ho⟩;refine W.set_plain X I hs (osaX (s:={ s with toks:=s.toks+1 }) X I hc hp hm hn ?_);refine Ab (Af (Ab (Ab (wpAny_loadPart hx (Ab (W.Looks.here (s:={ s with toks:=s.toks+1 }) (W.looks_clsIn X hc) ?_))))));rw[hd];refine Af (a:=some dx) (Ab (Af (Ab ?_)));refine wpAny_nsSet1 (s:={ s with toks:=s.toks+1 }) hn1 λh' hn2 hs2=>?_
 obtain⟨oD,esD,epD,hoD,hdD,hcD⟩:=hn2.count (PySem.Within.cons name v hw);refine Ab (wpAny_lookBehind hoD (by rw[hdD];exact pastItsLine_dict (AM hcD (by rw[A7];lia))) ?_);exact Af (h _ hn2 hs2)
end
noncomputable def xdO(d:Addr)(fs:List (Str×V)):HO:=.ext λh=>∃mA,h.Ns1 d mA/\(∀f,RelO (fs.lookup f) (mA f))/\PySem.Within mA (fs.map (·.1))
noncomputable def exN(e C t:Addr)(d:Option Addr):HO:=.ext λh=>h.get? e=some { cls:=.ref C,dict:=d,data:=.fields #[.ref t,.none,.none,.none,.bool false,.none] }
theorem zkT{P:AB}{w:AV}{H:Hp}{h:Heap}{d:Addr}{fs:List (Str×V)}{mA:Str->Option Value}(a:h.Ns1 d mA)(b:∀f,RelO (fs.lookup f) (mA f))(c:PySem.Within mA (fs.map (·.1))):ObjOk P w H h d (xdO d fs) :=
 ⟨⟨mA,a,b,c⟩,let ⟨o,_,_,e,_⟩:=a;⟨o,e⟩,λh1 h2 ⟨mA,a,b,c⟩ k=>⟨mA,a.at k,b,c⟩⟩
theorem zlj{P:AB}{w:AV}{H:Hp}{h:Heap}{e C t:Addr}{d:Option Addr}(a:h.get? e=some { cls:=.ref C,dict:=d,data:=.fields #[.ref t,.none,.none,.none,.bool false,.none] }):ObjOk P w H h e (exN e C t d) :=
 ⟨a,⟨_,a⟩,λh1 h2 q k=>k _ q⟩
structure ExS (K:W.Frag) (C:Addr):Prop where
 cl:(W.clsIn K C).any (λcd=>cd.hasDict && overX bmV cd.mro)=true
 m:W.mroIn K C (.type "object")=some true
 s:Cs K (.ref C) "__setattr__" = some (some (.builtin "object.__setattr__"))
noncomputable def sFldX(K:W.Frag)(ta tv:TE)(f:Str):TS:=λD σ H=>tv σ H λy H1=>ta σ H1 λx H2=>∃a C t,x=.ref a/\ExS K C/\zhP K C f /\
 ((H2 a=some (exN a C t none)/\∀d,H2 d=none->d≠a->D.nx σ (upd (upd H2 a (exN a C t (some d))) d (xdO d [(f,y)]))) ∨
  (∃d fs,H2 a=some (exN a C t (some d))/\H2 d=some (xdO d fs)/\fs.length<1000/\D.nx σ (upd H2 d (xdO d (putF f y fs)))))
section
variable {X:Cx}{pins:List (Addr×Obj)}{σ:St}{H:Hp}{s:Ac}{a C t:Addr}{f:Str}{A:AF}{E:Value->Ac->Prop}
theorem zlA{y:V}{u:Value}{Q:Unit -> Ac -> Prop}(hex:X.ex = [])(I:Inv X pins σ H s)(c:ExS X.K C)(n:zhP X.K C f)(e:H a=some (exN a C t none))(ry:RelV y u)
  (h:∀s' d,H d=none->d≠a->Inv X pins σ (upd (upd H a (exN a C t (some d))) d (xdO d [(f,y)])) s'->Q () s'):Am (Aw X.prog X.w) A (setAttr (.ref a) f u) Q E s:=by
 obtain⟨e1,_⟩:=I.hok a _ e;obtain⟨cd,hc,q⟩:=W.any_some c.cl;rw[Bw]at q;refine zl3 I.kIn e1 hc q.1 q.2 c.m n c.s λh' d hd ne g1 g2 k=>?_
 have hn:=I.hok.gone hd;have I1:=I.write (x:=a) (e:=a) (o:=exN a C t (some d)) (h':=h') (t':=s.toks+2) (by rw[e];exact BX) (.inl rfl) k ⟨_,g1⟩ (zlj g1);refine h _ d hn ne (I1.track I hex (by rw[zai ne];exact hn) hd (zkT g2 (λg=>?_) λg hg=>?_))
 .rw[Bi]
  by_cases q:g=f
  .subst q;simp;exact ry
  .rw[if_neg q,show (g == f)=false from beq_eq_false_iff_ne.mpr q];exact BX
 .by_cases q:g=f
  .simp[q]
  .exact absurd (show (if g=f then some u else none)=none by rw[if_neg q]) hg
theorem zkh{y:V}{u:Value}{d:Addr}{fs:List (Str × V)}{Q:Unit -> Ac -> Prop}(I:Inv X pins σ H s)(c:ExS X.K C)(n:zhP X.K C f)(e:H a=some (exN a C t (some d)))(ed:H d=some (xdO d fs))(hl:fs.length < 1000)(ry:RelV y u)
  (h:∀s',Inv X pins σ (upd H d (xdO d (putF f y fs))) s'->Q () s'):Am (Aw X.prog X.w) A (setAttr (.ref a) f u) Q E s:=by
 obtain⟨e1,_⟩:=I.hok a _ e;obtain⟨⟨mA,m1,r,wi⟩,_⟩:=I.hok d _ ed;obtain⟨cd,hc,q⟩:=W.any_some c.cl;rw[Bw]at q;have hz:(fs.map (·.1)).length<=sizeLine:=by rw[Ai,D5];lia
 refine zkJ I.kIn e1 m1 hc q.1 q.2 c.m n c.s wi hz λh' g2 k=>h _ ?_
 refine I.write (x:=d) (e:=d) (by rw[ed];exact BX) (.inl rfl) (λb q hb z=>(k.2 b hb).trans z) (let ⟨o,_,_,e',_⟩:=g2;⟨o,e'⟩) (zkT g2 (λg=>?_) λg hg=>?_)
 .rw[zd1]
  by_cases q:g=f
  .rw[if_pos q,if_pos q];exact ry
  .rw[if_neg q,if_neg q];exact r g
 .by_cases q:g=f
  .rw[q];exact (zd3 f y fs).1
  .refine (zd3 f y fs).2 g (wi g λz=>hg ?_);show (if g=f then some u else mA g)=none;rw[if_neg q];exact z
end
section
variable {X:Cx}{o value:Expr}{f:Str}{pos pos':Pos}{ta tv:TE}
theorem zlK(hex:X.ex=[])(ha:PE X o ta)(hv:PE X value tv)(hs:swapsWith value (some (.Attribute o f pos')) pos.line X.env=pure false):PS X (.Assign [.Attribute o f pos'] value pos) (sFldX X.K ta tv f):=by
 intro pins s σ H D I h;refine plainObj_wpAny_Assign_Attribute (thn (hv pins s σ H _ I h) λu s1 ⟨y,H1,I1,ry,q⟩=>thn (ha pins s1 σ H1 _ I1 q) λov s2 ⟨x,H2,I2,rx,a,C,t,ex,c,n,q2⟩=>?_) hs;subst ex;obtain rfl:ov=Ao a:=rx;rcases q2 with⟨e,q2⟩ |⟨d,fs,e,ed,l,q2⟩
 .exact zlA hex I2 c n e ry λs3 d hd ne I3=>⟨σ,_,I3,q2 d hd ne⟩
 .exact zkh I2 c n e ed l ry λs3 I3=>⟨σ,_,I3,q2⟩
end
noncomputable def zhA(K:W.Frag)(C:Addr)(bB:List Value)(nw:String)(f:Addr):Bool:=match K.lookup C with
 |some ⟨.type "type",_,.cls c,⟨[_,_,_,_,k4,_]⟩⟩=>k4 == some (.builtin nw) && !c.hasDel && c.mro.head? == some (.ref C) && W.tailIn K bB c.mro.tail && W.nsOkIn K c.ns && Cd K c.ns "__init__" == some (some (.ref f))
 |_=>false
theorem zlV{K:W.Frag}{h:Heap}{N:Addr}{mg:Str->Option Value}{n:Str}{v:Value}(X:K.In h)(G:h.Ns N mg)(e:Cd K N n=some (some v)):mg n=some v:=by
 obtain⟨o,es,ep,ho,hd,_,hf⟩:=G;unfold Cd at e;split at e
 .rename_i c d es' n' sl q
  have:=X _ _ q;rw[ho]at this
  cases this
  cases hd
  split at e
  .rename_i en he
   cases e
   rw[<- hf];unfold nsFind findBy;rw[<- Array.find?_toList,he];rfl
  .split at e <;> cases e
 .cases e
theorem zjO{K:W.Frag}{h:Heap}{C f:Addr}{bB:List Value}{nw:String}(X:K.In h)(q:zhA K C bB nw f=true) :
  ∃bm N nm qn bs hd sn sub ab col dd k0 k1 k2 k3 k5 mN,h.get? C=some (excClassObj nm qn C N bs bm hd sn sub ab col dd k0 k1 k2 k3 k5 nw)/\h.Ns N mN/\mN "__init__" = some (.ref f)/\OwnTail h bB bm:=by
 unfold zhA at q;split at q
 .rename_i dd c k0 k1 k2 k3 k4 k5 ho
  simp only[Bw,beq_iff_eq,Dw]at q;obtain⟨⟨⟨⟨⟨q1,q2⟩,q3⟩,q4⟩,q5⟩,q6⟩:=q;have h0:=X _ _ ho
  cases c with
  |mk nm bs mro ns qn hd sn sub ab col del =>
   cases q2
   subst q1
   cases mro with
   |nil=>cases q3
   |cons b bm =>
    cases q3
    exact⟨bm,ns,nm,qn,bs,hd,sn,sub,ab,col,dd,k0,k1,k2,k3,k5,_,h0,.of_isNs (W.isNs_of_in X q5),zlV X (.of_isNs (W.isNs_of_in X q5)) q6,W.tail_of_in X q4⟩
 .cases q
structure MkX (K:W.Frag) (C f:Addr) (bB:List Value) (nw:String):Prop where
 ex:zhA K C bB nw f=true
 fn:W.isFn K (.ref f)=true
 kp:C3 K (.ref C)=true
section
variable {X:Cx}{C f:Addr}{k:Nat}{fd:Bq}{ps:List Str}{sp:Sp}{E:XK}{Bn nw it:String}{bB:List Value}{CX:CXT}{x:Str}{p pos:Pos}{e:Expr}{es:List Expr}{t:TA}
theorem Inv.madeX{pins:List (Addr×Obj)}{σ:St}{H:Hp}{s:Ac}{us:List Value}(I:Inv X pins σ H s):Inv X pins σ (upd H (s.heap.objs.size+1) (exN (s.heap.objs.size+1) C s.heap.objs.size none)) { s with heap:=heapX s.heap C us } :=
 I.laid (t':=s.toks) zbz (Cj _) (zlj (by
  have:=Av (s.heap.push { cls:=.type "tuple",data:=.seq us.toArray }) (o:=zjP C s.heap.objs.size) rfl
  rwa [Heap.size_push]at this))
theorem zi1{pins:List (Addr × Obj)}{σ : St}{H:Hp}{s:Ac}{Q:VK}{us:List Value}{vs:List V}(FB:ExcBaseFacts Bn nw it bB)(M:MkX X.K C f bB nw)(F:FnOk X.prog X.w X.K X.mg X.base CX k f fd ps sp)(hr:Room (k + 1) X.A)(hb:Binds X.K fd ps [])
  (hx:zef CX X E) (I:Inv X pins σ H s) (r:Vals vs us) (hl:vs.length<=1000)
  (h:∀x tp,H x=none->X.s₀.heap.get? x=none->sp (.ref x::vs) (upd H x (exN x C tp none)) (λv H2=>v=.non/\Q (.ref x) H2) E) :
  Am (Aw X.prog X.w) X.A (call (.ref C) us) (EP X pins σ Q) X.xe s:=by
 have hq:=h (s.heap.objs.size+1) s.heap.objs.size (I.hok.fresh (Cj _)) (by
  cases q:X.s₀.heap.get? (s.heap.objs.size+1) with
  |none=>rfl
  |some u=>exact absurd (AD (Au q) I.sz) (by lia))
 have I2:=Inv.madeX (C:=C) (us:=us) I;have r2:Vals (V.ref (s.heap.objs.size+1)::vs) (Ao (s.heap.objs.size+1)::us):=.cons rfl r
 have hl2:(Ao (s.heap.objs.size+1)::us++[]).length=ps.length:=by have e:=r2.length;rw[F.len _ _ _ _ hq]at e;rw[AN];exact e.symm
 obtain⟨bm,ns,nm,qn,bs,hdd,sn,sub,ab,col,dd,k0,k1,k2,k3,k5,mN,hC,hN,hni,T⟩:=zjO I.kIn M.ex
 have fin:=F.run _ X.stack _ _ ⟨Ao (s.heap.objs.size+1)::us,[]⟩ (Ao (s.heap.objs.size+1)::us) _ _ E (hr.make C us []) (I2.env0.make C us []) (by
  have:=hb _ (Ao (s.heap.objs.size+1)::us) I2.kIn hl2
  rwa [AN]at this) r2 hq
 obtain⟨hh,g,d,tk,os⟩:=s;refine zkQ FB T hC hN hni (λself=>W.bind_fn I.kIn self (beq_iff_eq.mp M.fn)) (by have e:=r.length;rw[D5];lia) (wpAny_call (C7 fin λr s' hq'=>?_))
 cases r with
 |error e=>exact hx pins σ _ _ e s' I2 hq'
 |ok fl =>
  cases fl with
  |ret u =>
   obtain⟨v,H',I3,rv,ev,q3⟩:=I2.after hq';subst ev;exact⟨rv,⟨V.ref (hh.objs.size+1),H',I3,rfl,q3⟩⟩
  |next=>exact Bj hq'
  |brk=>exact Bj hq'
  |cont=>exact Bj hq'
end
noncomputable def drop(H:Hp)(a:Addr):Hp:=λb=>if b=a then none else H b
theorem zfm{H:Hp}{a b:Addr}(h:b≠a):drop H a b=H b:=by unfold drop;rw[if_neg h]
theorem zcY{H:Hp}{a:Addr}:drop H a a=none:=by unfold drop;rw[if_pos rfl]
theorem zkN{H:Hp}{a d:Addr}{o u:HO}(hn:H a=none)(ne:d≠a):drop (upd (upd H a o) d u) a=upd H d u:=by
 funext b
 by_cases q:b=a
 .subst q;rw[zcY,zai (Bx ne)];exact hn.symm
 .rw[zfm q]
  by_cases z:b=d
  .subst z;rw[zaa,zaa]
  .rw[zai z,zai z,zai q]
section
variable {M:D4}{A:AF}{E:Value->Ac->Prop}{s:Ac}{env:Env}
variable {nm q:Str}{C N:Addr}{bs bm:List Value}{hdct:Bool}{sn:List Str}{sub:List Value}{ab:Bool}{col:Option Bool}{dd:Option Addr}{k0 k1 k2 k3 k5:Option Value}{newId:String}
theorem zh1{x:Sem Value}{Q:Flow -> Ac -> Prop}(hh:A.handled=none)
  (h:Am M A x (λv s₁=>∃e t dx C N nm q bs bm hdct sn sub ab col dd k0 k1 k2 k3 k5 newId,v=.ref e/\bm.contains (.type "BaseException")=true/\s₁.heap.get? C=some (excClassObj nm q C N bs bm hdct sn sub ab col dd k0 k1 k2 k3 k5 newId) /\
   s₁.heap.get? e=some { cls:=.ref C,dict:=dx,data:=.fields #[.ref t,.none,.none,.none,.bool false,.none] }/\E (.ref e) s₁) E s) :
  Am M A (raiseStmt env (some x) none) Q E s:=by
 unfold raiseStmt;refine Ab (Bk h (λv s₁ h₁=>?_) λ_ _ x=>x);obtain⟨e,t,dx,C,N,nm,q,bs,bm,hdct,sn,sub,ab,col,dd,k0,k1,k2,k3,k5,newId,rfl,hbase,hC,he,hE⟩:=h₁;have hcB:(Ao C::bm).contains (.type "BaseException")=true:=by rw[List.contains_cons,hbase,Bool.or_true]
 obtain⟨hp,g,d,tk,os⟩:=s₁
 repeat (first |with_reducible refine Dx he ?_ |with_reducible refine Dx hC ?_ | (with_reducible refine wpAny_isSubtype_exc hC ?_;rw[hcB]) |wp_step)
 exact wpAny_raiseNew_none hh hE
end
section
variable {X:Cx}{pins:List (Addr×Obj)}{σ:St}{H:Hp}{s:Ac}
theorem Inv.forget{a:Addr}{φ:Heap->Prop}(I:Inv X pins σ H s)(e:H a=some (.ext φ)):Inv X pins σ (drop H a) s:=by
 have sub:∀b u,drop H a b=some u->H b=some u:=λb u q=>by
  by_cases z:b=a
  .subst z;rw[zcY]at q;cases q
  .rwa [zfm z]at q
 have non:∀b,H b=none->drop H a b=none:=λb q=>by
  by_cases z:b=a
  .subst z;exact zcY
  .rw[zfm z];exact q
 have oth:∀b u,H b=some u->(∀ φ,u≠.ext φ)->drop H a b=some u:=λb u q n=>by
  by_cases z:b=a
  .subst z;rw[e]at q;cases q;exact absurd rfl (n φ)
  .rw[zfm z];exact q
 have B:=I.base;refine⟨I.ok,I.os,I.bare,⟨B.keep,B.slot,λb v q z hx=>non _ (B.free b v q z hx),B.there,λb xs q=>oth _ _ (B.tups b xs q) (λ_ z=>nomatch z),λb v w q=>oth _ _ (B.frzs b v w q) (λ_ z=>nomatch z),λb ps q=>?_⟩,I.loc,I.cell,non _ I.free,λx c q=>non _ (I.freeC x c q),λp hp=>?_,λb v q=>?_,I.len⟩
 .obtain⟨more,this⟩:=B.tbls b ps q;exact⟨more,oth _ _ this (λ_ z=>nomatch z)⟩
 .obtain⟨q1,q2,q3⟩:=I.pin p hp;exact⟨q1,non _ q2,q3⟩
 .exact (I.hok b v (sub b v q)).stay (λ_ _ _ r=>r) (λc r=>oth _ _ r (λ_ z=>nomatch z)) λc xs r=>oth _ _ r (λ_ z=>nomatch z)
end
section
variable {P:AB}{w:AV}{K:W.Frag}{mg:Str->Option Value}{base:Heap}{N:List Str}{qual:Str}{scope:Scope}{f:Addr}{cd:Value}{A:AF}{outer:List Env}{s0:Ac}{H0:Hp}{E:XK}
theorem zmy{C fI:Addr}{bB:List Value}{nw Bn it:String}{ex:Expr}{pos:Pos}{pins:List (Addr × Obj)}{σ : St}{H:Hp}{s:Ac}{Q:Flow -> Ac -> Prop}(FB:ExcBaseFacts Bn nw it bB)(M:MkX K C fI bB nw)(I:Inv (cxOf (CX1 P w) P w K mg base N qual scope f cd A outer s0 H0 E) pins σ H s)
  (he:Am (Aw P w) (cxOf (CX1 P w) P w K mg base N qual scope f cd A outer s0 H0 E).A (eval ex (cxOf (CX1 P w) P w K mg base N qual scope f cd A outer s0 H0 E).env) (EP (cxOf (CX1 P w) P w K mg base N qual scope f cd A outer s0 H0 E) pins σ λv H2=>∃a t d,v=.ref a/\s0.heap.get? a=none/\H2 a=some (exN a C t d)/\E (.ref C) d (drop H2 a)) (cxOf (CX1 P w) P w K mg base N qual scope f cd A outer s0 H0 E).xe s) :
  Am (Aw P w) (cxOf (CX1 P w) P w K mg base N qual scope f cd A outer s0 H0 E).A (exec (.Raise (some ex) none pos) (cxOf (CX1 P w) P w K mg base N qual scope f cd A outer s0 H0 E).env) Q (cxOf (CX1 P w) P w K mg base N qual scope f cd A outer s0 H0 E).xe s:=by
 rw[arm_exec_Raise];refine Ab (Dp (zh1 (I.ok.hd rfl) (Ab (Bk he (λv s1 ⟨x,H2,I1,rx,a,t,d,ex,hnew,ea,q⟩=>Ab (Dp (Af ?_))) λ_ _ z=>z))));subst ex;obtain rfl:v=Ao a:=rx;obtain⟨bm,ns,nm,qn,bs,hdd,sn,sub,ab,col,dd,k0,k1,k2,k3,k5,mN,hC,hN,hni,T⟩:=zjO I1.kIn M.ex;obtain⟨e1,_⟩:=I1.hok a _ ea;exact⟨a,t,d,C,_,_,_,_,_,_,_,_,_,_,_,_,_,_,_,_,_,rfl,T.hasType FB.hasBase,hC,e1,xe_of (o:={ cls:=.ref C,dict:=d,data:=.fields #[.ref t,.none,.none,.none,.bool false,.none] }) (I1.forget ea) e1 rfl zcY hnew q⟩
theorem zi7{C fI:Addr}{bB:List Value}{nw Bn it:String}{k:Nat}{fd:Bq}{ps:List Str}{sp:Sp}{x:Str}{np cpos pos:Pos}{e:Expr}{es:List Expr}{t:TA}{R:List V -> Hp -> Prop}(FB:ExcBaseFacts Bn nw it bB)(M:MkX K C fI bB nw)(F:FnOk P w K mg base (CX1 P w) k fI fd ps sp)
  (hR:∀vs H1,R vs H1->vs.length<=1000/\∀x tp,H1 x=none->sp (.ref x::vs) (upd H1 x (exN x C tp none)) (λv H2=>v=.non/\∃t d,H2 x=some (exN x C t d)/\E (.ref C) d (drop H2 x)) (λ_ _ _=>False))
  (hm':∀vs H Q Q' E,(∀v H',Q v H'->Q' v H')->sp vs H Q E->sp vs H Q' E) (hr:Room (k+1) (cxOf (CX1 P w) P w K mg base N qual scope f cd A outer s0 H0 E).A) (hb:Binds K fd ps []) (hg:Gl (cxOf (CX1 P w) P w K mg base N qual scope f cd A outer s0 H0 E) x) (hm:mg x=some (.ref C))
  (ha:PA (cxOf (CX1 P w) P w K mg base N qual scope f cd A outer s0 H0 E) (e::es) t) (hdb:(x == ("__debug__" : Str))=false:=by decide)
  (he:A5 (e::es) (cxOf (CX1 P w) P w K mg base N qual scope f cd A outer s0 H0 E).env=(false,eval e (cxOf (CX1 P w) P w K mg base N qual scope f cd A outer s0 H0 E).env)::A5 es (cxOf (CX1 P w) P w K mg base N qual scope f cd A outer s0 H0 E).env:=by rfl)
  (hpl:(DK cpos (A5 es (cxOf (CX1 P w) P w K mg base N qual scope f cd A outer s0 H0 E).env)).any (·.1)=false:=by rfl) :
  PS (cxOf (CX1 P w) P w K mg base N qual scope f cd A outer s0 H0 E) (.Raise (some (.Call (.Name x np) (e::es) [] cpos)) none pos) (λ_ σ H=>t σ H R):=by
 intro pins s σ H D I h;refine zmy FB M I (Cc (zfi I hg hm ?_ hdb));refine W.callWith_K (h₀:=base) I.ok.mod.kin M.kp (thn (ha cpos pins s σ H _ I h) λus s1 ⟨vs,H1,I1,r,q⟩=>⟨I1.kIn,?_⟩) he hpl;have q:=hR _ _ q;refine zi1 FB M F hr hb (pass1 λ_ _ _ z=>z.elim) I1 r q.1 λy tp hy hn=>hm' _ _ _ _ _ (λv H2 z=>⟨z.1,y,?_⟩) (q.2 y tp hy)
 obtain⟨_,t,d,q1,q2⟩:=z;exact⟨t,d,rfl,hn,q1,q2⟩
end
noncomputable def spI(C:Addr)(fs:List Str):Sp:=λvs H Q _=>∃x t ws,vs=.ref x::ws/\ws.length=fs.length/\H x=some (exN x C t none)/\∀d,H d=none->d≠x->Q .non (upd (upd H x (exN x C t (some d))) d (xdO d (fs.zip ws)))
structure ExA (P:AB) (w:AV) (K:W.Frag) (mg:Str->Option Value) (base:Heap) (x:Str) (C:Addr) (fs:List Str) where
 f:Addr
 fd:Bq
 ps:List Str
 B:String
 nw:String
 it:String
 bB:List Value
 FB:ExcBaseFacts B nw it bB
 M:MkX K C f bB nw
 ok:FnOk P w K mg base (CX1 P w) 1 f fd ps (spI C fs)
 b:Binds K fd ps []
 m:mg x=some (.ref C)
 z:fs.length<=1000
noncomputable def zlu(C:Addr)(fs:List Str)(t:TA)(E:XK):TS:=λ_ σ H=>t σ H λvs H1=>vs.length=fs.length/\∀d,H1 d=none->E (.ref C) (some d) (upd H1 d (xdO d (fs.zip vs)))
section
variable {P:AB}{w:AV}{K:W.Frag}{mg:Str->Option Value}{base:Heap}{N:List Str}{qual:Str}{scope:Scope}{f:Addr}{cd:Value}{A:AF}{outer:List Env}{s0:Ac}{H0:Hp}{E:XK}
theorem zfN{C:Addr}{fs:List Str}{k:Nat}{x:Str}{np cpos pos:Pos}{e:Expr}{es:List Expr}{t:TA}(g:ExA P w K mg base x C fs)(hr:Room k (cxOf (CX1 P w) P w K mg base N qual scope f cd A outer s0 H0 E).A)
  (ha:PA (cxOf (CX1 P w) P w K mg base N qual scope f cd A outer s0 H0 E) (e::es) t) (hk:2<=k:=by decide) (hg:Gl (cxOf (CX1 P w) P w K mg base N qual scope f cd A outer s0 H0 E) x:=by rfl) (hdb:(x == ("__debug__" : Str))=false:=by decide)
  (he:A5 (e::es) (cxOf (CX1 P w) P w K mg base N qual scope f cd A outer s0 H0 E).env=(false,eval e (cxOf (CX1 P w) P w K mg base N qual scope f cd A outer s0 H0 E).env)::A5 es (cxOf (CX1 P w) P w K mg base N qual scope f cd A outer s0 H0 E).env:=by rfl)
  (hpl:(DK cpos (A5 es (cxOf (CX1 P w) P w K mg base N qual scope f cd A outer s0 H0 E).env)).any (·.1)=false:=by rfl) :
  PS (cxOf (CX1 P w) P w K mg base N qual scope f cd A outer s0 H0 E) (.Raise (some (.Call (.Name x np) (e::es) [] cpos)) none pos) (zlu C fs t E):=by
 refine zi7 g.FB g.M g.ok (λvs H1 ⟨q1,q2⟩=>⟨q1 ▸ g.z,λx tp hx=>⟨x,tp,vs,rfl,q1,zaa,λd hd ne=>⟨rfl,tp,some d,?_,?_⟩⟩⟩) (λvs H Q Q' E' hi ⟨x,t,ws,q1,q2,q3,q4⟩=>⟨x,t,ws,q1,q2,q3,λd hd ne=>hi _ _ (q4 d hd ne)⟩) (hr.mono hk) g.b hg g.m ha hdb he hpl
 .rw[zai (Bx ne),zaa]
 .rw[zai ne]at hd;rw[zir,zkN hx ne];exact q2 d hd
end
section
variable {prog:AB}{w:AV}{A:AF}{E:Value->Ac->Prop}{s:Ac}{K:W.Frag}{a D d:Addr}{u:Obj}{od:Option Obj}
end
section
variable {X:Cx}{pins:List (Addr×Obj)}{σ:St}{H:Hp}{s:Ac}{a D d:Addr}{fs:List (Str×V)}
end
section
variable {X:Cx}{pins:List (Addr×Obj)}{B:Heap}{a:Addr}{o:Obj}{vs:Array Value}{s5 s2:Ac}{σ' σ2:St}{H' H2:Hp}{body suite:List Stmt}{b0:Stmt}{n tn:Str}{i:Nat}{T:Addr}{E:XK}{tb ts:TS}{np hpos pos:Pos}{D:Ends}{rest:List ExceptHandler}{b:Bool}
theorem zjN(ok:X.Ok)(hex:X.ex = [])(F5:Fly B (X.env :: X.outer) a o vs .none s5.heap)(at5:∀h', B.StaysIn h' -> s5.heap.UpToSlots h' -> Inv X pins σ' H' { s5 with heap := h' })(J:Inv X pins σ2 H2 s2)(hnew:s2.heap.get? a=none)(hn:H' a=none)
  (hs:∀a,PSs (X.held a) (b0::suite) ts) (hg:Gl X tn) (hm:X.mg tn=some (.ref T)) (hE:W.exmOne X.K o.cls (.ref T)=some b)
  (yes:b=true->ts D σ' (upd H' a (excO a o.cls o.dict))) (no:b=false->Am (Aw X.prog X.w) X.A (handleBy (.ref a) X.env rest) (SP X pins D) X.xe s5) (hdb:(tn == ("__debug__" : Str))=false:=by decide) :
  Am (Aw X.prog X.w) X.A (handleBy (.ref a) X.env (.ExceptHandler (some (.Name tn np)) none (b0::suite) hpos::rest)) (SP X pins D) X.xe s5:=by
 have J5:=at5 s5.heap F5.stay λb u q _=>⟨u.slots,q⟩
 obtain⟨T5,_,_,e5,_⟩:=id F5.tb;refine wpAny_handleBy_cons (codeAny_handlers_test (zfi (X:=X.held a) J5.held hg hm ?_ hdb)) (by intro q;cases q);refine (W.exm_one J5.kIn ((W.Looks.ld e5).andThen .now) hE).here ?_
 cases b with
 |false=>exact no rfl
 |true =>
 refine codeAny_handlers_suite ?_
 refine zcv (s:=s5) F5 λh6 F6 k6=>?_
 have J6:=at5 h6 F6.stay k6;obtain⟨T6,_,_,e6,_⟩:=id F6.tb
 have J6':Inv (X.held a) pins σ' (upd H' a (excO a o.cls o.dict)) { s5 with heap:=h6 } :=
  (J6.track (u:=excO a o.cls o.dict) J hex hn hnew ⟨⟨_,e6,rfl,rfl,_,rfl⟩,⟨_,e6⟩,λh1 h2 ⟨u,hu,q⟩ k=>⟨u,k u hu,q⟩⟩).held
 refine Bk (hs a pins _ _ _ D J6' (yes rfl)) (λfl s8 q=>?_) (λ_ _ z=>Bj z)
 cases fl with
 |next=>obtain⟨σ2,H2,I8,q⟩:=q;exact⟨_,_,Inv.unheld ok I8,q⟩
 |brk=>obtain⟨σ2,H2,I8,q⟩:=q;exact⟨_,_,Inv.unheld ok I8,q⟩
 |cont=>obtain⟨σ2,H2,I8,q⟩:=q;exact⟨_,_,Inv.unheld ok I8,q⟩
 |ret u=>obtain⟨v,σ2,H2,I8,r,q⟩:=q;exact⟨v,_,_,Inv.unheld ok I8,r,q⟩
theorem zmf{h0:ExceptHandler}{hs:List ExceptHandler}{H:Hp}{s:Ac}{σ : St}(hst:X.stack=X.env :: X.outer)(hfm:X.env.frame=some X.env.locals)(hb:∀pins, PSs (X.tried pins E) body tb)(I:Inv X pins σ H s)(hb0:tb D σ H)
  (k:∀(B:Heap) (a:Addr) (o:Obj) (vs:Array Value) (s5 s2:Ac) (σ':St) (H1 H':Hp),Fly B (X.env::X.outer) a o vs .none s5.heap->(∀h',B.StaysIn h'->s5.heap.UpToSlots h'->Inv X pins σ' H' { s5 with heap:=h' })->Inv X pins σ' H1 s2->s2.heap.get? a=none->H' a=none->E o.cls o.dict H' ->
   Am (Aw X.prog X.w) X.A (handleBy (.ref a) X.env (h0::hs)) (SP X pins D) X.xe s5) :
  Am (Aw X.prog X.w) X.A (exec (.Try body (h0::hs) [] [] pos) X.env) (SP X pins D) X.xe s:=by
 refine wpAny_Try_except (Bk (hb pins [] s σ H D I.tried hb0) (λf s1 q=>?_) ?_)
 .cases f with
  |next=>exact DU q.untried
  |_=>exact q.untried
 rintro e s1 ⟨ps,σ',H1,s2,I1,a,H',B,o,vs,rfl,os,bare,F,hnew,hn,st,hE0⟩;rw[hst]at F;have J:=I1.unpnd;refine zfU (by rw[<- hst];exact I.ok.frames) hfm F λh4 F4 k4=>?_
 refine zcv (s:={ s1 with heap:=h4 }) F4 λh5 F5 k5=>?_
 refine k B a o vs _ s2 σ' H1 H' F5 (λh6 z1 z2=>?_) J hnew hn hE0;obtain⟨un,hok⟩:=st h6 z1 ((k4.trans k5).trans z2);exact J.call' (s':={ s1 with heap:=h6 }) (ch:=[]) os un hok bare (λb z=>absurd z (by simp))
end
noncomputable def tTryU(k:Nat)(E:XK)(tb ts:TS):TS:=λD σ H=>tb D σ H/\∀(c:Value) (d:Option Addr) (H':Hp) (a:Addr) (σ':St),E c d H'->H' a=none->σ'.length=k->ts D σ' (upd H' a (excO a c d))
section
variable {X:Cx}{body suite suite2:List Stmt}{b0 b1:Stmt}{n tn tn2:Str}{i:Nat}{T T2:Addr}{E:XK}{tb ts t2:TS}{np np2 hpos hpos2 pos:Pos}
theorem zlJ(hex:X.ex = [])(hst:X.stack=X.env :: X.outer)(hfm:X.env.frame=some X.env.locals)(hb:∀pins, PSs (X.tried pins E) body tb)(hs:∀a, PSs (X.held a) (b0 :: suite) ts)
  (hg:Gl X tn) (hm:X.mg tn=some (.ref T)) (hE:∀c d H,E c d H->W.exmOne X.K c (.ref T)=some true) (hdb:(tn == ("__debug__" : Str))=false:=by decide) :
  PS X (.Try body [.ExceptHandler (some (.Name tn np)) none (b0::suite) hpos] [] [] pos) (tTryU X.N.length E tb ts):=by
 rintro pins s σ H D I ⟨hb0,hs0⟩;refine zmf hst hfm hb I hb0 λB a o vs s5 s2 σ' H1 H' F5 at5 J hnew hn hE0=>?_
 exact zjN I.ok hex F5 at5 J hnew hn hs hg hm (hE _ _ _ hE0) (λ_=>hs0 _ _ _ a σ' hE0 hn J.len) (λz=>nomatch z) hdb
end
end L2
set_option maxHeartbeats 8000000
namespace TS
open PySem PyProof.Rows
section
variable {M:D4}{A:AF}{E:Value->Ac->Prop}{s:Ac}{kd:Cu}{S:Keyed->Prop}{L:Keyed->Keyed->Bool}
theorem zfV:∀n:Fin 64,minRun' n.1 n.1 0=n.1:=by decide
structure P1 (L:Keyed->Keyed->Bool) (a0:Array Keyed) (st:Ca):Prop where
 fail:Dk st=none
 perm:(AQ st).Perm a0
 seg:Seg L (AQ st) 0 a0.size
 one:(Dr st).size=1
theorem sortRuns_small(O:LtOk M A E s kd S L){st:Ca}{Q:Unit -> Ca -> Prop}(h2 : 2 <= (AQ st).size)(h64:(AQ st).size < 64)(hk:kindOf st=kd)(hp:Dr st = #[])(hf:Dk st=none)(hS:∀(k:Nat) x, (AQ st)[k]? = some x -> S x)
  (hQ:∀st',(AQ st').Perm (AQ st)->Dk st'=none->Seg L (AQ st') 0 (AQ st).size->Q () st'):wpS M A E s sortRuns' Q st:=by
 rw[sortRuns'_eq];refine Bo (wpS_get ?_);dsimp only;have hmr:minRun' (AQ st).size (AQ st).size 0=(AQ st).size:=zfV ⟨_,h64⟩;generalize ha0:AQ st=a0 at h2 hmr hQ
 refine Bo (wpS_mono (DF (I:=λx c st'=>∃lo,c=(none,lo)/\((x=0/\lo=0/\st'=st)∨(lo=a0.size/\P1 L a0 st')))
  (Q:=λc st'=>c=(none,a0.size)/\P1 L a0 st') ?step ?fin ⟨0,rfl,.inl ⟨rfl,rfl,rfl⟩⟩) ?post)
 case fin =>
  rintro c st' ⟨lo,rfl,h⟩;rcases h with⟨h,_⟩ |⟨rfl,h⟩
  .lia
  .exact⟨rfl,h⟩
 case step =>
  rintro x c st' _ hx ⟨lo,rfl,h⟩;dsimp only;rcases h with⟨rfl,rfl,rfl⟩ |⟨rfl,h⟩
  .rw[if_neg (by lia)];refine Bo (zfo O (by lia) (by rw[ha0];lia) hk hS λm st1 sb1 hm1 hm2 sg1=>?_);dsimp only;rw[hmr]
   by_cases hlt:m<a0.size
   .rw[if_pos hlt];refine Bo (wpS_lift (wpAny_rule ⟨rfl,?_⟩));refine Bo (zee O hm1 (by lia) (by rw[sb1.size,ha0];lia) sb1.kind sb1.all sg1 λst2 sb2 sg2=>?_)
    try dsimp only
    rw[if_neg (by decide)];refine Bo (wpS_get ?_);have hp2:Dr st2=#[]:=by rw[sb2.pend,sb1.pend,hp]
    rw[hp2]
    try dsimp only
    refine Bo (wpS_modify (BR ⟨_,rfl,.inr ⟨by lia,?_⟩⟩));refine⟨?_,?_,?_,by show ((Dr st2).push _).size=1;rw[hp2];rfl⟩
    .show Dk st2=none;rw[sb2.fail,sb1.fail,hf]
    .show (AQ st2).Perm a0;rw[<- ha0];exact sb2.perm.trans sb1.perm
    .show Seg L (AQ st2) 0 a0.size;have:min (a0.size-0) a0.size=a0.size:=by lia
     rw[this]at sg2;exact sg2
   .rw[if_neg hlt];have em:m=a0.size:=by lia
    subst em;refine Bo (wpS_get ?_);have hp1:Dr st1=#[]:=by rw[sb1.pend,hp]
    rw[hp1]
    try dsimp only
    refine Bo (wpS_modify (BR ⟨_,rfl,.inr ⟨by lia,?_⟩⟩));refine⟨?_,?_,sg1,by show ((Dr st1).push _).size=1;rw[hp1];rfl⟩
    .show Dk st1=none;rw[sb1.fail,hf]
    .show (AQ st1).Perm a0;rw[<- ha0];exact sb1.perm
  .rw[if_pos (Aj _)];exact BR ⟨rfl,h⟩
 case post =>
  rintro c st1 ⟨rfl,p1⟩
  try dsimp only
  refine Bo (wpS_mono (DF (I:=λx c st2=>c=(none,())/\P1 L a0 st2) (Q:=λc st2=>c=(none,())/\P1 L a0 st2) ?step ?fin ⟨rfl,p1⟩) ?post)
  case fin =>
   rintro c st2 h;exact h
  case step =>
   rintro x c st2 _ hx ⟨rfl,p2⟩;refine Bo (wpS_get ?_)
   try dsimp only
   rw[if_pos (show (Dr st2).size<=1 by rw[p2.one];exact Aj _)];exact BR ⟨rfl,p2⟩
  case post =>
   rintro c st2 ⟨rfl,p2⟩;exact BR (hQ st2 p2.perm p2.fail p2.seg)
end
end TS
namespace L2
open PySem PySem.Spec PyProof.Rows
theorem ze3{α β:Type}{f:α->β}{xs ys:List β}(p:ys.Perm xs):∀{l:List α},xs=l.map f->∃l':List α,l'.Perm l/\ys=l'.map f:=by
 induction p with
 |nil=>intro l h;exact⟨l,List.Perm.refl _,h⟩
 |cons v _ ih =>
  intro l h
  match l,h with
  |x::l,h =>
   injection h with h1 h2;obtain⟨l',p',e⟩:=ih h2;exact⟨x::l',p'.cons x,by rw[e,h1];rfl⟩
 |swap a b r =>
  intro l h
  match l,h with
  |x::y::l,h =>
   injection h with h1 h2;injection h2 with h2 h3;exact⟨y::x::l,List.Perm.swap _ _ _,by rw[h1,h2,h3];rfl⟩
 |trans _ _ ih1 ih2 =>
  intro l h;obtain⟨l1,p1,h1⟩:=ih2 h;obtain⟨l2,p2,h2⟩:=ih1 h1;exact⟨l2,p2.trans p1,h2⟩
section
variable {X:Cx}{pins:List (Addr×Obj)}{σ:St}{H:Hp}{s:Ac}{D st:Addr}{e:Nat}{κV:Nat->List V}{ks:List Addr}{E:Value->Ac->Prop}
noncomputable def OrddS(κ:Nat->List Int)(n:Nat)(p:Array Nat):Prop:=RK.Pm n p/\p.toList.Pairwise λi j=>HT.lexLt (κ j) (κ i)=false
noncomputable def zd4(κ:Nat->List Int)(ks:List Addr):Value->List Int
 |.ref a=>κ (ks.idxOf a)
 |_=>[]
theorem zmZ{vs:List Value}{κ : Nat -> List Int}(K:SK X pins σ H s D st e κV ks)(hl:ks.length=vs.length)(h2 : 2 <= vs.length)(h64:vs.length < 64)
  (hcol:∀i j,i<ks.length->j<ks.length->∃n m r q rn rm,κV i=.int n::r/\κV j=.int m::q/\VCols r q rn rm/\κ i=n::rn/\κ j=m::rm) :
  zhS X (OrddS κ vs.length) (ks.map Ao) vs E s:=by
 unfold zhS
 obtain⟨fs,kt,hfl,hfi⟩:=zjE (as:=[]) (vs:=[]) K.inv (ks:=ks) (ns:=(AO ks.length).map λi=>((κ i).headD 0)) (λi a ha=>by
  have hi:i<ks.length:=(Ad.mp ha).1;obtain⟨n,m,r,q,rn,rm,e1,_,_,e2,_⟩:=hcol i i hi hi;refine⟨n,r,?_,?_⟩
  .rw[Ax,C1 hi,Dg,e2];rfl
  .rw[<- e1];exact K.hk i a ha) (by simp)
 refine W.kat_kind (T:=.type "int") kt (by lia) (λv hv=>?_) rfl ⟨rfl,?_⟩
 .obtain⟨n,t,rfl⟩:=hfi v hv;exact .now
 have hl':(ks.map Ao).length=vs.length:=by simp[hl]
 have hsz0:((ks.map Ao).toArray.zip vs.toArray).size=vs.length:=by simp[hl]
 generalize hZ:(ks.map Ao).toArray.zip vs.toArray=Z at hsz0;have hsz:Z.size=vs.length:=hsz0
 have kap:∀i (hi:i<ks.length),zd4 κ ks (Ao ks[i])=κ i:=λi hi=>by
  have hj:ks.idxOf ks[i]<ks.length:=List.idxOf_lt_length_iff.mpr (AZ hi);have ej:ks[ks.idxOf ks[i]]=ks[i]:=List.getElem_idxOf hj;obtain⟨n,m,r,q,rn,rm,e1,e2,vc,e3,e4⟩:=hcol (ks.idxOf ks[i]) i hj hi;have k1:=K.hk (ks.idxOf ks[i]) ks[i] (by rw[Aa hj,ej]);have k2:=K.hk i ks[i] (Aa hi);have eq:=K.inv.tuple_inj k1 k2;show κ (ks.idxOf ks[i])=κ i;rw[e1,e2]at eq;injection eq with q1 q2;injection q1 with q1;subst q1;subst q2;rw[e3,e4]
  congr 1
  have same:∀{xs:List V} {as bs:List Int},VCols xs xs as bs->as=bs:=λ{xs}=>by
   induction xs with
   |nil=>intro as bs h;cases h;rfl
   |cons x xs ih =>
    intro as bs h
    cases h with
    |cons c h=>cases c <;> rw[ih h]
  exact same vc
 have itm:∀i,i<vs.length->DB Z i=(Ao (ks.getD i 0),vs.getD i Value.none):=λi hi=>by
  rw[<- hZ,W.kat_item hl'];have:(ks.map Ao).getD i Value.none=Ao (ks.getD i 0):=by simp[show i<ks.length by lia]
  rw[this]
 have O:TS.LtOk (Aw X.prog X.w) X.A.in1.in1 E s (tuples' true) (λx=>∃i,i<ks.length/\x.1=Ao (ks.getD i 0)) (λx y=>HT.lexLt (zd4 κ ks x.1) (zd4 κ ks y.1)):=by
  refine⟨λx y hx hy st' Q hk q=>?_,λx y z _ _ _ h1 h2=>?_,λx y _ _ h=>HT.lexLt_asym h⟩
  .obtain⟨i,hi,ex⟩:=hx;obtain⟨j,hj,ey⟩:=hy;have gi:ks.getD i 0=ks[i]:=by simp[hi]
   have gj:ks.getD j 0=ks[j]:=by simp[hj]
   rw[gi]at ex;rw[gj]at ey;rw[ex,ey,kap i hi,kap j hj]at q;rw[lt'_eq];refine Bo (wpS_get ?_);rw[hk,ex,ey];obtain⟨n,m,r,q',rn,rm,e1,e2,vc,e3,e4⟩:=hcol i j hi hj;have k1:=K.hk i ks[i] (Aa hi);have k2:=K.hk j ks[j] (Aa hj);rw[e1]at k1;rw[e2]at k2;obtain⟨its,rv,⟨o,ho,hcl,c,hd⟩,_⟩:=K.inv.tuple k1;obtain⟨its2,rv2,⟨o2,ho2,hcl2,c2,hd2⟩,_⟩:=K.inv.tuple k2;refine Bo (wpS_lift (wpAny_attempt (W.kat_lt ho hd ho2 hd2 ?_)))
   cases rv with
   |cons rx rr =>
    cases rv2 with
    |cons rx2 rr2 =>
     obtain⟨t1,rfl⟩:=rx;obtain⟨t2,rfl⟩:=rx2;have cs:=vc.vals rr rr2
     have hlen:∀{us vs:List Value} {as bs:List Int},RK.Cols us vs as bs->us.length=vs.length:=λc=>by induction c with
      |nil=>rfl
      |cons _ _ ih=>simp[ih]
     simp only[As,A7,hlen cs,BV,decide_false];refine RK.kat_cols0 cs ?_
     rw[e3,e4]at q;exact⟨rfl,BR q⟩
  .cases q:HT.lexLt (zd4 κ ks z.1) (zd4 κ ks x.1) with
   |false=>rfl
   |true =>
    have:=HT.lexLt_of_not_lt_lt h2 q;rw[h1]at this;cases this
 have run:=TS.sortRuns_small O (st:=SortSt.mk' (tuples' true) Z #[] 7 none) (Q:=λ_ st'=>Dk st'=none/\∃p:Array Nat,OrddS κ vs.length p/\p.size=vs.length/\AQ st'=p.map (DB Z))
  (by show 2<=Z.size;lia) (by show Z.size<64;lia) rfl rfl rfl (λk x hx=>?_) (λst' hp hf hs=>?_)
 .exact Bk run (λr s' h=>⟨h.1,h.2⟩) λ_ _ z=>z
 .have hk':k<vs.length:=by rw[<- hsz];exact (B6.mp hx).1
  have hx':Z[k]?=some x:=hx
  have e1:DB Z k=x:=by unfold DB;rw[Array.getD_eq_getD_getElem?,hx'];rfl
  rw[itm k hk']at e1;exact⟨k,by lia,by rw[<- e1]⟩
 .refine⟨hf,?_⟩;have hp':(AQ st').Perm Z:=hp;have hrng:=W.kas_range Z;rw[hsz]at hrng;obtain⟨l,pl,el⟩:=ze3 (Array.perm_iff_toList_perm.mp hp') (l:=AO vs.length) (f:=DB Z) (by have:=congrArg Array.toList hrng;simpa using this.symm);have hll:l.length=vs.length:=by rw[pl.length_eq,BH]
  refine⟨l.toArray,⟨?_,?_⟩,by simpa using hll,?_⟩
  .exact Array.perm_iff_toList_perm.mpr (by simpa using pl)
  .rw[List.pairwise_iff_getElem];intro i j hi hj hij;have hi':i<l.length:=by simpa using hi
   have hj':j<l.length:=by simpa using hj
   have ai:(AQ st')[i]?=some (DB Z l[i]):=by rw[<- Dt,el,Ax,Aa hi'];rfl
   have aj:(AQ st')[j]?=some (DB Z l[j]):=by rw[<- Dt,el,Ax,Aa hj'];rfl
   have li:l[i]<vs.length:=Bp.mp (pl.mem_iff.mp (AZ hi'));have lj:l[j]<vs.length:=Bp.mp (pl.mem_iff.mp (AZ hj'));have:=hs i j _ _ (by lia) (by show j<Z.size;lia) (by rw[Db];exact ai) (by rw[Db];exact aj);rw[itm _ li,itm _ lj]at this;have g1:ks.getD l[i] 0=ks[l[i]]'(by lia):=by simp[show l[i]<ks.length by lia]
   have g2:ks.getD l[j] 0=ks[l[j]]'(by lia):=by simp[show l[j]<ks.length by lia]
   simp only[g1,g2]at this;rw[kap _ (by lia),kap _ (by lia)]at this;simpa using this
  .apply Array.toList_inj.mp
   rw[el];simp
end
section
variable {X:Cx}{x:Str}{p pos kp kpos:Pos}{e:Expr}{te:TE}{k:Nat}{f:Addr}{fd:Bq}{ps:List Str}{sp:Sp}{fn:Str}
end
section
variable {X:Cx}{p pos lpos kpos:Pos}{e body:Expr}{te tb:TE}{k:Nat}{c P:Addr}{params:Arguments}{scope:Scope}{qual x:Str}{N:List Str}
noncomputable def zlt(K:W.Frag)(lpos:Pos)(qual:Str)(P:Addr)(N:List Str)(te tb:TE):TE:=λσ H Q=>te σ H λv H1=>∃l xs,∃ κV:Nat->List V,∃ κ:Nat->List Int,[v]=[V.ref l]/\LamAt lpos qual P H1/\SqL K H1 l xs/\xs.length<=63 /\
 (∀i x H2,xs[i]?=some x->But1 P H1 H2->tb (start N [x]) H2 (λv H'=>Same H2 H'/\∃a,v=.ref a/\SqT K H' a (κV i))) /\
 (∀i j,i<xs.length->j<xs.length->∃n m r q rn rm,κV i=.int n::r/\κV j=.int m::q/\VCols r q rn rm/\κ i=n::rn/\κ j=m::rm)/\∀(p:List Nat) D H',p.Perm (AO xs.length)->p.Pairwise (λi j=>HT.lexLt (κ j) (κ i)=false)->H1 D=none->But1 P H1 H'->LamAt lpos qual P H'->H' D=some (.lst (p.map λi=>xs.getD i .non))->Q (.ref D) H'
theorem zje (hr:Room (k + 1 + 1 + 1) X.A) (hg:Gl X "sorted") (hm:X.mg "sorted" = none) (hcd:X.env.code = .ref c) (hh:Dc X.K c P=true) (hB:Bm X.mg X.base) (hq:X.env.qual ++ "<lambda>" = qual)
  (S:FnScope N [x] scope) (hb:∀(pm ctv:Value) (c':Addr) (u:Value),De (W.kla_fn "<lambda>" qual params body scope [] pm (.ref c') ctv) ⟨[u],[]⟩=pure [(x,u)]) (he:PE X e te)
  (hbody:∀(f c':Addr) (A:AF) (outer:List Env) (s:Ac) (H:Hp),PE (cxOf CX0 X.prog X.w X.K X.mg X.base N qual scope f (.ref c') A outer s H E0).nox body tb)
  (hfree:∀x∈scope.names,x.2≠.free:=by decide) (hdef:defaultsOf params X.env=([],[]):=by rfl)
  (hse:A5 [e] X.env=[(false,eval e X.env)]:=by rfl) (hh':X.calm=true:=by rfl)
  (hall:(DO pos (CA [⟨some "key",.Lambda params body scope lpos,kpos⟩] X.env)).all (·.1.isSome)=true:=by rfl) (hkw:(DO pos (CA [⟨some "key",.Lambda params body scope lpos,kpos⟩] X.env)).any (·.1.isNone)=false:=by rfl)
  (hks:(DO pos (CA [⟨some "key",.Lambda params body scope lpos,kpos⟩] X.env)).filterMap (·.1)=[BW "key"]:=by rfl) :
  PE X (.Call (.Name "sorted" p) [e] [⟨some "key",.Lambda params body scope lpos,kpos⟩] pos) (zlt X.K lpos qual P N te tb):=by
 intro pins s σ H Q I h;refine Cc (zdm I hg hm boot_sorted ?_ (by decide) (by decide));refine callWith_kw (thn (zah he zab (hs:=hse) pos pins s σ H (λvs H1=>∃l xs,∃ κV:Nat->List V,∃ κ:Nat->List Int,vs=[V.ref l]/\LamAt lpos qual P H1/\SqL X.K H1 l xs/\xs.length<=63 /\
 (∀i x H2,xs[i]?=some x->But1 P H1 H2->tb (start N [x]) H2 (λv H'=>Same H2 H'/\∃a,v=.ref a/\SqT X.K H' a (κV i))) /\
 (∀i j,i<xs.length->j<xs.length->∃n m r q rn rm,κV i=.int n::r/\κV j=.int m::q/\VCols r q rn rm/\κ i=n::rn/\κ j=m::rm)/\∀(p:List Nat) D H',p.Perm (AO xs.length)->p.Pairwise (λi j=>HT.lexLt (κ j) (κ i)=false)->H1 D=none->But1 P H1 H'->LamAt lpos qual P H'->H' D=some (.lst (p.map λi=>xs.getD i .non))->Q (.ref D) H') I ?_) λus s1 ⟨vs,H1,I1,r,q⟩=>?_) (by rw[hse];rfl) (by rw[hse];rfl) hall hkw
 .show te σ H _;exact h
 .obtain⟨l,xs,κV,κ,rfl,hL,hsq,h64,turn,hcol,hQ⟩:=q;obtain⟨u,rfl,ru⟩:=Vals.one r
  cases (show u=Ao l from ru)
  refine thn (zja (nm:=some "key") (kpos:=kpos) (zmC (pos:=lpos) (body:=body) hcd hh hB hq hfree hdef) zlc pos pins s1 σ H1 (λzs H2=>∃f,zs=[.ref f]/\But1 P H1 H2/\LamAt lpos qual P H2/\IsLam qual params body scope f H2) I1 ⟨hL,λf H' h1 h2 h3 h4=>⟨f,rfl,h1,h2,h4⟩⟩) λws s2 ⟨zs,H2,I2,rz,q2⟩=>?_
  obtain⟨f,rfl,hbut,hL2,hIL⟩:=q2;obtain⟨u2,rfl,ru2⟩:=Vals.one rz
  cases (show u2=Ao f from ru2)
  rw[hks];refine zie (G:=OrddS κ xs.length) (zmQ hIL hr S hb (λc' A outer s H=>hbody f c' A outer s H) λi x H hx hS=>turn i x H hx (hbut.trans hS.but1)) (hbut.seq hL hsq) (λp hp i hi=>?_) (λh2=>⟨Array.Perm.refl _,?_⟩) (λ{vs ks H' s' D st e} r' K' hks h2=>?_) (λp D H' g hp hD hS hH=>hQ p.toList D H' ?_ g.2 ?_ (hbut.trans hS.but1) (hL2.same hS) hH) I2
  .have:=hp.1.mem_iff.mp (show i∈p by simpa using hi);simpa using this
  .rw[List.pairwise_iff_getElem];intro i j hi hj hij;simp at hi hj;lia
  .have hlx:xs.length=vs.length:=r'.length;rw[hlx];exact zmZ K' hks h2 (by rw[<- hlx];lia) λi j hi hj=>hcol i j (by lia) (by lia)
  .have:=Array.perm_iff_toList_perm.mp g.1;simpa using this
  .cases q:H1 D with
   |none=>rfl
   |some o =>
    by_cases hz:D=P
    .obtain⟨ps,e,_⟩:=hL2;rw[hz,e]at hD
     cases hD
    .rw[hbut D o hz q]at hD
     cases hD
end
end L2
namespace RP
noncomputable def CD(es:List Edge)(m:Int)(c:Cell):Bool:=decide (wd es c=m)
section
variable {C:Cell->Bool}{b:Edge}{es:List Edge}{m:Int}
theorem CD.mem(h:Closed C b es)(hm:∀c,wd es c=m-1∨wd es c=m){e:Edge}(he:e∈es):wd es e.c=m/\wd es (gap e)=m-1:=by
 have k:=zbN h (h.1.2.2.1 e he);have i:ind es e=1:=by unfold ind;rw[if_pos he]
 rw[i]at k;have h1:=hm e.c;have h2:=hm (gap e);lia
theorem CD.isE(h:Closed C b es)(hm:∀c,wd es c=m-1∨wd es c=m)(e:Edge):IsE (CD es m) e ↔ e∈es:=by
 constructor
 .rintro⟨hw,h1,h2⟩;have h1:wd es e.c=m:=of_decide_eq_true h1;have h2:¬ wd es (gap e)=m:=of_decide_eq_false h2;have k:=zgs h e hw;have h3:=hm (gap e);have i0:ind es (fac e)=0∨ind es (fac e)=1:=by unfold ind;split <;> simp
  rcases Classical.em (e∈es) with q |q
  .exact q
  .have:ind es e=0:=by unfold ind;rw[if_neg q]
   lia
 .intro he;have k:=CD.mem h hm he;refine⟨(h.1.2.2.1 e he).1,decide_eq_true k.1,decide_eq_false ?_⟩;rw[k.2];lia
theorem tabA:∀w<4,mvAdd (2*w) ((2*w+6) % 8) ((2*w+7) % 8)=true/\(2*((w+1) % 4)+6) % 8=2*w:=by decide
theorem CD.step(h:Closed C b es)(hm:∀c,wd es c=m-1∨wd es c=m){e:Edge}(he:e∈es):stepB (CD es m) e=stepB C e:=by
 have hn:=h.mem_nxt he;have hE:=h.1.2.2.1 e he;have hw:=hE.1;obtain⟨t1,t2⟩:=tabA e.w hw;have gA:gap ⟨go e.c (2*e.w),e.w⟩=go e.c ((2*e.w+7) % 8):=go_go t1;unfold nxt at hn
 by_cases c1:C (go e.c ((2*e.w+7) % 8))=true
 .have s1:stepB C e=some ((2*e.w+7) % 8):=by unfold stepB;rw[if_pos c1]
  rw[s1]at hn
  have hn:(⟨go e.c ((2*e.w+7) % 8),(e.w+3) % 4⟩:Edge)∈es:=by
   have z:edgeB e (some ((2*e.w+7) % 8))=⟨go e.c ((2*e.w+7) % 8),(e.w+3) % 4⟩:=by unfold edgeB;simp only;rw[if_pos (by lia)]
   rwa [z]at hn
  rw[s1];unfold stepB;have z:CD es m (go e.c ((2*e.w+7) % 8))=true:=decide_eq_true (CD.mem h hm hn).1;rw[if_pos z]
 .by_cases c2:C (go e.c (2*e.w))=true
  .have s1:stepB C e=some (2*e.w):=by unfold stepB;rw[if_neg c1,if_pos c2]
   rw[s1]at hn
   have hn:(⟨go e.c (2*e.w),e.w⟩:Edge)∈es:=by
    have z:edgeB e (some (2*e.w))=⟨go e.c (2*e.w),e.w⟩:=by unfold edgeB;simp only;rw[if_neg (by lia)]
    rwa [z]at hn
   have k:=CD.mem h hm hn;rw[gA]at k;rw[s1];unfold stepB;have z:CD es m (go e.c (2*e.w))=true:=decide_eq_true k.1;rw[if_neg,if_pos z];unfold CD;rw[decide_eq_true_iff,k.2];lia
  .have s1:stepB C e=none:=by unfold stepB;rw[if_neg c1,if_neg c2]
   rw[s1]at hn;have hn:(⟨e.c,(e.w+1) % 4⟩:Edge)∈es:=hn;have k:=CD.mem h hm hn;have g2:gap ⟨e.c,(e.w+1) % 4⟩=go e.c (2*e.w):=by unfold gap;simp only;rw[t2]
   rw[g2]at k
   have q:=zdF h ⟨go e.c (2*e.w),e.w⟩ hw (by
    rw[gA];simp only;simp only[Bool.not_eq_true]at c1 c2;rw[c1,c2])
   rw[gA]at q;have q:wd es (go e.c (2*e.w))=wd es (go e.c ((2*e.w+7) % 8)):=q;rw[s1];unfold stepB;rw[if_neg,if_neg]
   .unfold CD;rw[decide_eq_true_iff,k.2];lia
   .unfold CD;rw[decide_eq_true_iff,<- q,k.2];lia
end
end RP
namespace HT
open PySem PyProof.Rows PySem.Spec
theorem zhX(k:Int)(t:Tok)(l:Addr)(n:Nat)(dd:Option Addr)(sl:Array (Option Value))(hc0:¬ (decide (k < -2 ^ 63) ||decide (k ≥ 2 ^ 63))=true) :
  Meets (Builtin.«tuple.__mul__» ⟨[.ref l,.int k t],[]⟩) (λ_ R s=>s.heap.get? l=some { cls:=.type "tuple",dict:=dd,data:=.seq #[] n,slots:=sl }/\R (.ok (.ret (.ref l))) s) :=
 .of_wp λprog w A R s h=>by
  obtain⟨hp,g,d,tk,os⟩:=s;obtain⟨hl,h⟩:=h;have f1:=AutoSeq1.idx_int;have f2:=CW
  wp_walk using BP hl
  rw[if_neg hc0]
  wp_walk using BP hl
  exact⟨_,rfl,h⟩
theorem rep_tup0{prog:AB}{w:AV}{A:AF}{E:Value -> Ac -> Prop}{s:Ac}{l:Addr}{k:Nat}{t:Tok}{Q:Value -> Ac -> Prop}(hl:IsTup s.heap l #[])(hk:k <= 1000)
  (q1:Q (.ref l) s):Am (Aw prog w) A (Cb .Mult (.ref l) (.int (k:Int) t)) Q E s:=by
 obtain⟨⟨cls,dd,data,sl⟩,ho,hc,n,hd⟩:=id hl;simp only at hc hd;subst hc hd
 refine DJ (T:="tuple") (U:="int") (by decide) ⟨_,ho,rfl⟩ (λs'=>typeIs_int s' k t) zb7 F.fills_int_mul Dh zdj D9.lookup
  (CZ Dh (typeIs_int s k t) F.entry_int_rmul (F.args_int_rmul_2 _ _) (zcA k t l #[] n dd sl) ⟨ho,rfl,⟨_,ho,rfl⟩,?_⟩)
 exact CZ F.slot_tuple_mul ⟨_,ho,rfl⟩ F.entry_tuple_mul (F.args_tuple_mul_2 _ _) (zhX k t l n dd sl (by simp;lia)) ⟨ho,q1⟩
end HT
namespace L2
open PySem PySem.Spec PyProof.Rows
section
variable {X:Cx}{K:W.Frag}
theorem samU{H:Hp}{p:Addr}{o:HO}(h:H p=none):Same H (upd H p o):=λb u e=>by rw[zai (λz=>by rw[z,h]at e;cases e)];exact e
noncomputable def rCatS(K:W.Frag):R2:=λx y H Q=>∃a b xs ys,x=.ref a/\y=.ref b/\H a=some (.tup xs)/\H b=some (.tup ys)/\xs.length+ys.length<=sizeLine /\
 ∀p H',Same H H'->H' p=some (.tup (xs++ys))->Q (.ref p) H'
theorem zdU:OpR X (Cb .Add) (rCatS X.K):=by
 intro pins s σ H x y v u Q I rx ry h;obtain⟨a,b,xs,ys,rfl,rfl,ha,hb,hz,q⟩:=h;refine zlQ pins s σ H _ _ v u Q I rx ry ⟨a,b,xs,ys,rfl,rfl,SqT.of ha,SqT.of hb,hz,λz=>?_,λ_ z=>?_,λ_ _ p hp=>q p _ (samU hp) zaa⟩
 .subst z;exact q b H (Same.refl _) hb
 .subst z;exact q a H (Same.refl _) (by rw[AN];exact ha)
noncomputable def rSlS(K:W.Frag):V->Option Int->Option Int->Hp->VK->Prop:=λx lo hi H Q=>∃a xs,x=.ref a/\H a=some (.tup xs)/\∀p H',Same H H'->H' p=some (.tup (cutV xs lo hi))->Q (.ref p) H'
theorem zkP{xs:List V}{lo hi:Option Int}(h:HT.sIx xs.length 0 lo=0/\HT.sIx xs.length xs.length hi=xs.length):cutV xs lo hi=xs:=by unfold cutV;rw[h.1,h.2,List.drop_zero,Nat.sub_zero,AS]
theorem zbO:SlR X (rSlS X.K):=by intro pins s σ H x v vl vu lo hi sl Q I rx hs pl pu h;obtain⟨a,xs,rfl,ha,q⟩:=h;exact ziU pins s σ H _ v vl vu lo hi sl Q I rx hs pl pu ⟨a,xs,rfl,SqT.of ha,λz=>q a H (Same.refl _) (by rw[zkP z];exact ha),λ_ p hp=>q p _ (samU hp) zaa⟩
noncomputable def zlb(K:W.Frag):R2:=λx y H Q=>∃a xs,x=.ref a/\y=.int 2/\H a=some (.tup xs)/\xs.length<=1/\∀p H',Same H H'->H' p=some (.tup (xs++xs))->Q (.ref p) H'
theorem zkv:OpR X (Cb .Mult) (zlb X.K):=by
 intro pins s σ H x y v u Q I rx ry h;obtain⟨a,xs,rfl,rfl,ha,hl,q⟩:=h
 match xs,hl,ha,q with
 |[],_,ha,q =>
  cases rx
  obtain⟨t,rfl⟩:=ry;obtain⟨its,r,p1,_⟩:=I.tuple (SqT.of (K:=X.K) ha)
  cases r
  exact HT.rep_tup0 (k:=2) p1 (by decide) ⟨.ref a,H,I,rfl,q a H (Same.refl _) ha⟩
 |[v0],_,ha,q =>
  exact zlO pins s σ H _ _ v u Q I rx ry ⟨a,2,v0,rfl,rfl,SqT.of ha,by decide,by decide,λz=>absurd z (by decide),λ_ p hp=>q p _ (samU hp) zaa⟩
end
end L2
namespace RP
theorem zgW{cs:List Cell}{e:Edge}(h:IsE (isIn cs) e):e.w<4/\e.c∈cs/\(e.w=0->(e.c.1,e.c.2-1) ∉ cs)/\(e.w=1->(e.c.1+1,e.c.2) ∉ cs)/\(e.w=2->(e.c.1,e.c.2+1) ∉ cs)/\(e.w=3->(e.c.1-1,e.c.2) ∉ cs):=by
 obtain⟨h1,h2,h3⟩:=h
 have no:∀c:Cell,gap e=c->c ∉ cs:=λc q z=>by rw[q]at h3;exact absurd (decide_eq_true z) (by rw[show decide (c∈cs)=false from h3];simp)
 refine⟨h1,of_decide_eq_true h2,λw=>no _ ?_,λw=>no _ ?_,λw=>no _ ?_,λw=>no _ ?_⟩
 .unfold gap;rw[w];exact Ch (show e.c.1+0=e.c.1 by lia) (show e.c.2+-1=e.c.2-1 by lia)
 .unfold gap;rw[w];exact Ch (show e.c.1+1=e.c.1+1 by lia) (show e.c.2+0=e.c.2 by lia)
 .unfold gap;rw[w];exact Ch (show e.c.1+0=e.c.1 by lia) (show e.c.2+1=e.c.2+1 by lia)
 .unfold gap;rw[w];exact Ch (show e.c.1+-1=e.c.1-1 by lia) (show e.c.2+0=e.c.2 by lia)
noncomputable def tri(w m n:Nat):List (Nat×Nat×Nat):=(AO m).flatMap λa=>(AO n).map λb=>(w,a,b)
noncomputable def tris:List (Nat×Nat×Nat):=tri 0 12 5++tri 2 12 5++(tri 1 10 6++tri 3 10 6)
theorem zff{w m n a b:Nat}(h1:a<m)(h2:b<n):(w,a,b)∈tri w m n:=BF.mpr ⟨a,Bp.mpr h1,Aq.mpr ⟨b,Bp.mpr h2,rfl⟩⟩
noncomputable def code(x0 y0:Int)(e:Edge):Nat×Nat×Nat:=if e.w=0∨e.w=2 then (e.w,(e.c.1-x0).toNat,(e.c.2-y0).toNat / 2) else (e.w,(e.c.2-y0).toNat,(e.c.1-x0).toNat / 2)
theorem zlo(x0 y0:Int)(e:Edge):(code x0 y0 e).1=e.w:=by unfold code;split <;> rfl
theorem ziY{a b x:Int}(h1:x<=a)(h2:x<=b)(h:(a-x).toNat=(b-x).toNat):a=b:=by lia
theorem zjq{a b x:Int}(h1:x<=a)(h2:x<=b)(h:(a-x).toNat / 2=(b-x).toNat / 2):a=b∨a=b-1∨b=a-1:=by lia
theorem zm2{cs:List Cell}{x0 y0:Int}(hb:∀c∈cs,x0<=c.1/\c.1<x0+12/\y0<=c.2/\c.2<y0+10){es:List Edge}(hn:es.Nodup)(he:∀e∈es,IsE (isIn cs) e):es.length<=240:=by
 have key:∀a∈es,∀c∈es,code x0 y0 a=code x0 y0 c->a=c:=λa ha c hc q=>by
  obtain⟨wa,ma,a0,a1,a2,a3⟩:=zgW (he a ha);obtain⟨wc,mc,c0,c1,c2,c3⟩:=zgW (he c hc);obtain⟨ba,_,ba',_⟩:=hb _ ma;obtain⟨bc,_,bc',_⟩:=hb _ mc;have hw:a.w=c.w:=by rw[<- zlo x0 y0 a,q,zlo]
  obtain⟨⟨ax,ay⟩,aw⟩:=a;obtain⟨⟨cx,cy⟩,cw⟩:=c;simp only at hw wa ba bc ba' bc' ma mc a0 a1 a2 a3 c0 c1 c2 c3;subst hw;have fin:ax=cx->ay=cy->(⟨(ax,ay),aw⟩:Edge)=⟨(cx,cy),aw⟩:=λh1 h2=>by rw[h1,h2]
  unfold code at q
  by_cases h0:aw=0∨aw=2
  .rw[if_pos h0,if_pos h0]at q;injection q with _ q;injection q with q1 q2;obtain rfl:=ziY ba bc q1;rcases zjq ba' bc' q2 with z |z |z
   .exact fin rfl z
   .rcases h0 with h0 |h0
    .rw[z]at ma;exact absurd ma (c0 h0)
    .rw[show cy=ay+1 from (D2 cy 1).symm.trans (by rw[z])]at mc;exact absurd mc (a2 h0)
   .rcases h0 with h0 |h0
    .rw[z]at mc;exact absurd mc (a0 h0)
    .rw[show ay=cy+1 from (D2 ay 1).symm.trans (by rw[z])]at ma;exact absurd ma (c2 h0)
  .rw[if_neg h0,if_neg h0]at q;injection q with _ q;injection q with q1 q2;obtain rfl:=ziY ba' bc' q1;have h13:aw=1∨aw=3:=by lia
   rcases zjq ba bc q2 with z |z |z
   .exact fin z rfl
   .rcases h13 with h0 |h0
    .rw[show cx=ax+1 from (D2 cx 1).symm.trans (by rw[z])]at mc;exact absurd mc (a1 h0)
    .rw[z]at ma;exact absurd ma (c3 h0)
   .rcases h13 with h0 |h0
    .rw[show ax=cx+1 from (D2 ax 1).symm.trans (by rw[z])]at ma;exact absurd ma (c1 h0)
    .rw[z]at mc;exact absurd mc (a3 h0)
 have hlen:tris.length=240:=by decide +kernel
 rw[<- hlen,<- Ai (f:=code x0 y0)];refine zao (zd0 hn key) λn hn=>?_
 obtain⟨e,h,rfl⟩:=Aq.mp hn;obtain⟨w4,me,_⟩:=zgW (he e h);have b:=hb _ me;have t12:(e.c.1-x0).toNat<12:=by lia
 have t10:(e.c.2-y0).toNat<10:=by lia
 unfold code tris;split
 .rename_i h0
  refine Bf _ ?_
  rcases h0 with h0 |h0
  .rw[h0];exact Bf _ (zff t12 (by lia))
  .rw[h0];exact Ap _ (zff t12 (by lia))
 .refine Ap _ ?_
  have h13:e.w=1∨e.w=3:=by lia
  rcases h13 with h0 |h0
  .rw[h0];exact Bf _ (zff t10 (by lia))
  .rw[h0];exact Ap _ (zff t10 (by lia))
end RP
namespace RR
open PySem L2
noncomputable def top(i:Nat):Stmt:=PySem.Challenge.pw_rimsteps_k11_whole_read_just_where_a_pic.main.body.getD i (.Pass ⟨0,0,0,0⟩)
noncomputable abbrev zch:Stmt:=top 5
noncomputable abbrev zgq:List Str:=["cell"]
theorem zeY:FnScope zgq ["cell"] (zaf zch):=sC
noncomputable abbrev ziZ:Stmt:=top 6
noncomputable abbrev zm5:List Str:=["x","y","step","right","up"]
theorem zgz:FnScope zm5 ["x","y","step"] (zaf ziZ):=sC
noncomputable abbrev zcf:Stmt:=top 8
noncomputable abbrev zgo:List Str:=["edge","x","y","way"]
theorem zbs:FnScope zgo ["edge"] (zaf zcf):=sC
noncomputable abbrev zbv:Stmt:=top 9
noncomputable abbrev zeg:List Str:=["way"]
theorem zdu:FnScope zeg ["way"] (zaf zbv):=sC
noncomputable abbrev zce:Stmt:=top 10
noncomputable abbrev zgn:List Str:=["way"]
theorem zeX:FnScope zgn ["way"] (zaf zce):=sC
noncomputable abbrev zc4:Stmt:=top 11
noncomputable abbrev zih:List Str:=["step"]
theorem zgx:FnScope zih ["step"] (zaf zc4):=sC
noncomputable abbrev zbR:Stmt:=top 12
noncomputable abbrev zft:List Str:=["edge","step","x","y","way","new_x","new_y"]
theorem zaV:FnScope zft ["edge","step"] (zaf zbR):=sC
noncomputable abbrev zaH:Stmt:=top 15
noncomputable abbrev zbj:List Str:=["walk","lefts","slants"]
theorem za9:FnScope zbj ["walk"] (zaf zaH):=sC
noncomputable abbrev zbb:Stmt:=top 16
noncomputable abbrev zcR:List Str:=["walk","lefts","slants"]
theorem za7:FnScope zcR ["walk"] (zaf zbb):=sC
noncomputable abbrev zcs:Stmt:=top 17
noncomputable abbrev zeJ:List Str:=["walk","sort"]
theorem zgA:FnScope zeJ ["walk","sort"] (zaf zcs):=sC
noncomputable abbrev zci:Stmt:=top 20
noncomputable abbrev zgr:List Str:=["one","sort","x","y","row"]
theorem zbh:FnScope zgr ["one"] (zaf zci):=sC
noncomputable abbrev zdM:Stmt:=top 21
noncomputable abbrev zj9:List Str:=["step"]
theorem zh0:FnScope zj9 ["step"] (zaf zdM):=sC
noncomputable abbrev zbS:Stmt:=top 22
noncomputable abbrev zfu:List Str:=["begin_way","row","way","deeds","step","lefts"]
theorem zaW:FnScope zfu ["begin_way","row"] (zaf zbS):=sC
noncomputable abbrev zdO:Stmt:=top 23
noncomputable abbrev zkb:List Str:=["begin","deeds","walk","edge","deed"]
theorem zbJ:FnScope zkb ["begin","deeds"] (zaf zdO):=sC
noncomputable abbrev zcd:Stmt:=top 24
noncomputable abbrev zgm:List Str:=["begin","row"]
theorem zeW:FnScope zgm ["begin","row"] (zaf zcd):=sC
noncomputable abbrev zbF:Stmt:=top 25
noncomputable abbrev zeq:List Str:=["edge","step","x","y","way","behind","seen"]
theorem zaO:FnScope zeq ["edge","step"] (zaf zbF):=sC
noncomputable abbrev zbQ:Stmt:=top 26
noncomputable abbrev zfs:List Str:=["walk","known","steps_gone","edge","step","cell","inside"]
theorem zaB:FnScope zfs ["walk"] (zaf zbQ):=sC
noncomputable abbrev zcg:Stmt:=top 27
noncomputable abbrev zgp:List Str:=["walk","edge","step"]
theorem zbP:FnScope zgp ["walk"] (zaf zcg):=sC
noncomputable abbrev zcF:Stmt:=top 28
noncomputable abbrev zgY:List Str:=["walk","sort"]
theorem zfI:FnScope zgY ["walk","sort"] (zaf zcF):=sC
noncomputable abbrev zdN:Stmt:=top 29
noncomputable abbrev zka:List Str:=["one","sort","x","y","row","begin","walk","at"]
theorem zbg:FnScope zka ["one"] (zaf zdN):=sC
noncomputable abbrev zcG:Stmt:=top 30
noncomputable abbrev zgZ:List Str:=["one"]
theorem zfJ:FnScope zgZ ["one"] (zaf zcG):=sC
noncomputable abbrev zc3:Stmt:=top 31
noncomputable abbrev zig:List Str:=["thing"]
theorem zgw:FnScope zig ["thing"] (zaf zc3):=sC
noncomputable abbrev zdz:Stmt:=top 32
noncomputable abbrev zhQ:List Str:=["thing"]
theorem ziX:FnScope zhQ ["thing"] (zaf zdz):=sC
noncomputable abbrev zc7:Stmt:=top 33
noncomputable abbrev zij:List Str:=["thing","sort","x","y","row"]
theorem zbu:FnScope zij ["thing"] (zaf zc7):=sC
noncomputable abbrev zc5:Stmt:=top 34
noncomputable abbrev zii:List Str:=["thing"]
theorem zgy:FnScope zii ["thing"] (zaf zc5):=sC
noncomputable abbrev zbG:Stmt:=top 36
noncomputable abbrev zer:List Str:=["_law_script","_law_k"]
theorem zdL:FnScope zer ["_law_script","_law_k"] (zaf zbG):=sC
noncomputable abbrev zc8:Stmt:=top 37
noncomputable abbrev zik:List Str:=["_law_cell","_law_many","_law_base","_law_found","_law_left","_law_number","_law_k"]
theorem zba:FnScope zik ["_law_cell","_law_many","_law_base"] (zaf zc8):=sC
noncomputable abbrev zbn:Stmt:=top 38
noncomputable abbrev zcC:List Str:=["_law_script","_law_start","_law_wide","_law_high","_law_share","_law_left","_law_low","_law_way","_law_far","_law_found","_law_y","_law_row_here"]
theorem zap:FnScope zcC ["_law_script","_law_start"] (zaf zbn):=sC
noncomputable abbrev zcI:Stmt:=top 39
noncomputable abbrev zg0:List Str:=["_law_x","_law_y","_law_step","_law_dx","_law_dy"]
theorem zcc:FnScope zg0 ["_law_x","_law_y","_law_step"] (zaf zcI):=sC
noncomputable abbrev zc9:Stmt:=top 40
noncomputable abbrev zil:List Str:=["_law_cells","_law_there","_law_cell"]
theorem zcD:FnScope zil ["_law_cells"] (zaf zc9):=sC
noncomputable abbrev zbV:Stmt:=top 41
noncomputable abbrev zfx:List Str:=["_law_there","_law_edge","_law_x","_law_y","_law_way","_law_right","_law_ahead"]
theorem zaX:FnScope zfx ["_law_there","_law_edge"] (zaf zbV):=sC
noncomputable abbrev zbC:Stmt:=top 42
noncomputable abbrev zds:List Str:=["_law_there","_law_found","_law_x","_law_y"]
theorem zbt:FnScope zds ["_law_there"] (zaf zbC):=sC
noncomputable abbrev zbT:Stmt:=top 43
noncomputable abbrev zfv:List Str:=["_law_there","_law_first","_law_edges_here","_law_steps","_law_step","_law_edge"]
theorem zaM:FnScope zfv ["_law_there","_law_first"] (zaf zbT):=sC
noncomputable abbrev zbl:Stmt:=top 44
noncomputable abbrev zb1:List Str:=["_law_edges_here","_law_steps","_law_swung","_law_way","_law_at","_law_row_here"]
theorem zbp:FnScope zb1 ["_law_edges_here","_law_steps"] (zaf zbl):=sC
noncomputable abbrev zaR:Stmt:=top 45
noncomputable abbrev zfw:List Str:=["_law_cells","_law_there","_law_seen_here","_law_found","_law_edge","_law_edges_here","_law_steps","_law_one"]
theorem zaC:FnScope zfw ["_law_cells"] (zaf zaR):=sC
noncomputable abbrev zbU:Stmt:=top 46
noncomputable abbrev zc0:List Str:=["_law_cell","_law_drawn","_law_spoil","_law_cells","_law_way","_law_at","_law_step","_law_more","_law_some","_law_size","_law_sort","_law_x","_law_y","_law_row_here","_law_changed"]
theorem zak:FnScope zc0 ["_law_cell","_law_drawn","_law_spoil","_law_cells"] (zaf zbU):=sC
noncomputable abbrev zcj:Stmt:=top 47
noncomputable abbrev zdr:List Str:=["_law_there","_law_first","_law_steps","_law_found","_law_left","_law_x","_law_y","_law_step","_law_cell"]
theorem zaQ:FnScope zdr ["_law_there","_law_first","_law_steps"] (zaf zcj):=sC
noncomputable abbrev zbK:Stmt:=top 48
noncomputable abbrev zdi:List Str:=["_law_cells","_law_wide","_law_high"]
theorem zcE:FnScope zdi ["_law_cells"] (zaf zbK):=sC
noncomputable abbrev zcH:Stmt:=top 49
noncomputable abbrev zeh:List Str:=["_law_one","_law_sort","_law_x","_law_y","_law_row_here","_law_cells","_law_step"]
theorem za1:FnScope zeh ["_law_one"] (zaf zcH):=sC
noncomputable abbrev zbw:Stmt:=top 50
noncomputable abbrev zb2:List Str:=["_law_one","_law_sort","_law_x","_law_y","_law_row_here","_law_seen_here","_law_left","_law_low","_law_right","_law_high","_law_rest","_law_b","_law_a","_law_away","_law_beyond"]
theorem zam:FnScope zb2 ["_law_one"] (zaf zbw):=sC
noncomputable abbrev s_law:Stmt:=top 51
noncomputable abbrev N_law:List Str:=["_law_script","_law_cells","_law_one","_law_k","_law_spoil","_law_found","_law_drawn"]
theorem zcx:FnScope N_law ["_law_script"] (zaf s_law):=sC
open PySem L2 RP
noncomputable def cellT(c:Cell):List V:=[.int c.1,.int c.2]
noncomputable def edgeT(e:Edge):List V:=[.int e.c.1,.int e.c.2,.int e.w]
noncomputable def sv:Option Nat->V
 |none=>.non
 |some s=>.int s
theorem Same.up{H:Hp}{p:Addr}{o:HO}(h:H p=none):Same H (upd H p o):=λb u e=>by rw[zai (zaj e h)];exact e
structure Txt (P:AB) (w:AV) (K:W.Frag) (mg:Str->Option Value):Prop where
 moves:∃M,mg "MOVES" = some (.ref M)/\∀H,∃ms:List Addr,SqT K H M (ms.map V.ref)/\ms.length=8/\∀(i:Nat) a,ms[i]?=some a->SqT K H a [.int (mv i).1,.int (mv i).2]
 ways:Ways P w K mg
 more:Two P w K mg "MORE_LEFTS" 4 (-4)
 nsys:∀B,mg "BEGIN_WAYS" = some (.ref B)->(B == PySem.sysModules)=false
 nValueError:mg "ValueError" = none
 nrange:mg "range" = none
 nlen:mg "len" = none
 nmin:mg "min" = none
 nsorted:mg "sorted" = none
 ntuple:mg "tuple" = none
 nint:mg "int" = none
 nbool:mg "bool" = none
 nstr:mg "str" = none
 nall:mg "all" = none
 nisinstance:mg "isinstance" = none
 nlist:mg "list" = none
 nsum:mg "sum" = none
 nenumerate:mg "enumerate" = none
 nzip:mg "zip" = none
 nmax:mg "max" = none
theorem two:2<=sizeLine:=by decide
theorem three:3<=sizeLine:=by decide
section
variable {P:AB}{w:AV}{K:W.Frag}{mg:Str->Option Value}{base:Heap}
noncomputable def ziK(K:W.Frag):Sp:=λvs H Q _=>∃(a:Addr) (x y:Int) (r:List V),vs=[.ref a]/\SqT K H a (.int x::.int y::r)/\∀(p:Addr) (H':Hp),H p=none->Same H H'->H' p=some (.tup [.int y,.int x])->Q (.ref p) H'
theorem zfc (d:Df K mg "cell_order" zch ["cell"]):FnOk P w K mg base CX0 1 d.f d.fd ["cell"] (ziK K):=by
 refine d.F.ok zeY (λvs H Q E h=>?_) (λcdv A outer s H vs Q E hr h=>?_)
 .obtain⟨a,x,y,r,rfl,_⟩:=h;rfl
 .obtain⟨a,x,y,r,rfl,hq,k⟩:=h;refine⟨_,(zag (zal (zan (zah (pe_ix zcn (pv 0) zad (λ_ _=>rfl)) (zah (pe_ix zcn (pv 0) zad (λ_ _=>rfl)) zab))))),?_⟩;refine⟨_,rfl,a,_,_,_,rfl,rfl,hq,zaT (j:=1) rfl,_,rfl,a,_,_,_,rfl,rfl,hq,zaT (j:=0) rfl,two,λp hp=>?_⟩;exact k p _ hp (Same.up hp) zaa
noncomputable def zcU:Sp:=λvs H Q _=>∃(c:Cell) (i:Nat),vs=[.int c.1,.int c.2,.int i]/\i<8/\∀(p:Addr) (H':Hp),H p=none->Same H H'->H' p=some (.tup (cellT (go c i)))->Q (.ref p) H'
theorem zlR (T:Txt P w K mg) (d:Df K mg "gone" ziZ ["x","y","step"]):FnOk P w K mg base CX0 1 d.f d.fd ["x","y","step"] zcU:=by
 refine d.F.ok zgz (λvs H Q E h=>?_) (λcdv A outer s H vs Q E hr h=>?_)
 .obtain⟨c,i,rfl,_⟩:=h;rfl
 .obtain⟨c,i,rfl,hi,k⟩:=h;obtain⟨M,hM,hms⟩:=T.moves;obtain⟨ms,hq,hl,hm⟩:=hms H
  refine⟨_,(zac (za2 (pe_ix zcn (zdS (v:=.ref M) rfl hM rfl) (pv 2) (λ_ _=>rfl)) (za0 (by rfl) (zae (nG 3 zgz.nd) (zae (nG 4 zgz.nd) zaq))))
   (zag (zal (zan (pa_B (pe_op zaw (pv 0) (pv 3)) (pa_B (pe_op zaw (pv 1) (pv 4)) zab)))))),?_⟩
  have hi':i<ms.length:=by lia
  have e1:ms[i]?=some ms[i]:=by simp[hi']
  refine⟨_,rfl,M,_,(i:Int),.ref ms[i],rfl,rfl,hq,zaT (by simp[hi']),ms[i],_,rfl,hm i _ e1,rfl,_,_,rfl,_,_,rfl,rfl,?_⟩;refine⟨_,rfl,_,rfl,_,_,rfl,rfl,_,rfl,_,rfl,_,_,rfl,rfl,two,λp hp=>?_⟩;exact k p _ hp (Same.up hp) zaa
noncomputable def zey:Sp:=λvs H Q _=>∃w:Nat,vs=[.int w]/\w<4/\Q (.int (2*w:Nat)) H
theorem zdv (d:Df K mg "straight_step" zbv ["way"]):FnOk P w K mg base CX0 1 d.f d.fd ["way"] zey:=by
 refine d.F.ok zdu (λvs H Q E h=>?_) (λcdv A outer s H vs Q E hr h=>?_)
 .obtain⟨w,rfl,_⟩:=h;rfl
 .obtain⟨w,rfl,hw,k⟩:=h;refine⟨_,(zag (zal (pe_op zbD zad (pv 0)))),?_⟩;refine⟨_,rfl,_,_,rfl,rfl,.inl ⟨by decide,by decide⟩,?_⟩;have e:(2*(w:Int))=((2*w:Nat):Int):=by lia
  show Q (.int (2*(w:Int))) H;rw[e];exact k
noncomputable def ziG:Sp:=λvs H Q _=>∃w:Nat,vs=[.int w]/\w<4/\Q (.int ((2*w+7) % 8:Nat)) H
theorem ze5 (d:Df K mg "slant_step" zce ["way"]):FnOk P w K mg base CX0 1 d.f d.fd ["way"] ziG:=by
 refine d.F.ok zeX (λvs H Q E h=>?_) (λcdv A outer s H vs Q E hr h=>?_)
 .obtain⟨w,rfl,_⟩:=h;rfl
 .obtain⟨w,rfl,hw,k⟩:=h;refine⟨_,(zag (zal (pe_op zat (pe_op zaw (pe_op zbD zad (pv 0)) zad) zad))),?_⟩;refine⟨_,rfl,_,_,rfl,rfl,.inl ⟨by decide,by decide⟩,_,_,rfl,rfl,_,_,rfl,rfl,(by show (0:Int)<8;decide),?_⟩;have e:(2*(w:Int)+7) % 8=(((2*w+7) % 8:Nat):Int):=by lia
  show Q (.int ((2*(w:Int)+7) % 8)) H;rw[e];exact k
noncomputable def zcT:Sp:=λvs H Q _=>∃o:Option Nat,vs=[sv o]/\Q (.bl (slant o)) H
theorem zgN (d:Df K mg "is_slant" zc4 ["step"]):FnOk P w K mg base CX0 1 d.f d.fd ["step"] zcT:=by
 refine d.F.ok zgx (λvs H Q E h=>?_) (λcdv A outer s H vs Q E hr h=>?_)
 .obtain⟨o,rfl,_⟩:=h;rfl
 .obtain⟨o,rfl,k⟩:=h;refine⟨_,(zag (zal (zcz (zbW zdT (pv 0) zbL (zaz _)) (zdl (zbW op_eq (pe_op zat (pv 0) zad) zad (zaz _)))))),?_⟩
  cases o with
  |none=>exact⟨_,rfl,rfl,false,rfl,iteF k⟩
  |some n =>
   refine⟨_,rfl,rfl,true,rfl,iteT ⟨_,rfl,_,_,rfl,rfl,(by show (0:Int)<2;decide),rfl,?_⟩⟩
   have e:decide (V.int ((n:Int) % 2)=V.int 1)=slant (some n):=by
    show _=(n % 2 == 1)
    by_cases q:n % 2=1
    .rw[decide_eq_true (by rw[show (n:Int) % 2=1 by lia]),q];rfl
    .rw[decide_eq_false (λz=>by injection z with z;lia)];simp[q]
   rw[<- e]at k;exact k
noncomputable def spGap(K:W.Frag):Sp:=λvs H Q _=>∃(a:Addr) (e:Edge),vs=[.ref a]/\SqT K H a (edgeT e)/\e.w<4/\∀(p:Addr) (H':Hp),H p=none->Same H H'->H' p=some (.tup (cellT (gap e)))->Q (.ref p) H'
theorem zfb (g_gone:Fn P w K mg base 1 "gone" ["x","y","step"] zcU) (d:Df K mg "gap_beside" zcf ["edge"]):FnOk P w K mg base CX0 2 d.f d.fd ["edge"] (spGap K):=by
 refine d.F.ok zbs (λvs H Q E h=>?_) (λcdv A outer s H vs Q E hr h=>?_)
 .obtain⟨a,e,rfl,_⟩:=h;rfl
 .obtain⟨a,e,rfl,hq,hw,k⟩:=h
  refine⟨_,(zac (za2 (pv 0) (za0 (by rfl) (zae (nG 1 zbs.nd) (zae (nG 2 zbs.nd) (zae (nG 3 zbs.nd) zaq)))))
   (zag (zal (pC g_gone hr (pa_N (pv 1) (pa_N (pv 2) (pa_B (pe_op zat (pe_op zaw (pe_op zbD zad (pv 3)) zad) zad) zab))))))),?_⟩
  refine⟨_,rfl,a,_,rfl,hq,rfl,_,_,rfl,_,_,rfl,_,_,rfl,rfl,?_⟩;have e6:(2*(e.w:Int)+6) % 8=(((2*e.w+6) % 8:Nat):Int):=by lia
  refine⟨_,rfl,_,rfl,_,rfl,_,_,rfl,rfl,.inl ⟨by decide,by decide⟩,_,_,rfl,rfl,_,_,rfl,rfl,(by show (0:Int)<8;decide),e.c,(2*e.w+6) % 8,(by rw[<- e6];rfl),by lia,λp H' hp hS hH=>k p H' hp hS hH⟩
theorem iteN{b:Bool}{A B:Prop}(h:b=false)(q:B):if b=true then A else B:=by subst h;exact iteF q
theorem iteY{b:Bool}{A B:Prop}(h:b=true)(q:A):if b=true then A else B:=by subst h;exact iteT q
theorem zeO{tb:TS}{D:Ends}{σ:St}{H:Hp}(h:tb D σ H):tIfs (λ_ H Q=>Q true H) tb D σ H:=by
 show if true=true then tb D σ H else D.nx σ H
 exact iteT h
theorem gN{j:Nat}{v:V}{σ:St}{H:Hp}{tb:TS}{D:Ends}(h:tb D (σ.set j (some v)) H):gName j v σ H λσ2 H2=>tIfs (λ_ H Q=>Q true H) tb D σ2 H2:=zeO h
noncomputable def LR{α:Type}(K:W.Frag)(H:Hp)(a:Addr)(l:List α)(R:α->V->Hp->Prop):Prop:=∃vs:List V,SqL K H a vs/\vs.length=l.length/\∀(i:Nat) x v,l[i]?=some x->vs[i]?=some v->R x v H
noncomputable def cR(c:Cell)(v:V)(H:Hp):Prop:=∃b,v=.ref b/\H b=some (.tup (cellT c))
noncomputable def eR(e:Edge)(v:V)(H:Hp):Prop:=∃b,v=.ref b/\H b=some (.tup (edgeT e))
noncomputable def wR(q:Edge×Option Nat)(v:V)(H:Hp):Prop:=∃A b,v=.ref A/\H A=some (.tup [.ref b,sv q.2])/\H b=some (.tup (edgeT q.1))
theorem wR.same{c:Edge×Option Nat}{v:V}{H H':Hp}(h:wR c v H)(s:Same H H'):wR c v H':=let ⟨A,b,e,q,r⟩:=h;⟨A,b,e,s _ _ q,s _ _ r⟩
theorem LR.same{α:Type}{K:W.Frag}{H H':Hp}{a:Addr}{l:List α}{R:α->V->Hp->Prop}(h:LR K H a l R)(s:Same H H')(m:∀x v,R x v H->R x v H'):LR K H' a l R :=
 let ⟨vs,q,n,r⟩:=h;⟨vs,s.seq q,n,λi x v h1 h2=>m x v (r i x v h1 h2)⟩
theorem zcm{α:Type}{l:List α}{i:Nat}{x c:α}(h:l[i]?=some x):c∈l.take (i+1) ↔ c∈l.take i∨c=x:=by rw[DC,h,AA];exact⟨λz=>z.elim .inl λz=>.inr (An.mp z),λz=>z.elim .inl λz=>.inr (List.mem_singleton.mpr z)⟩
noncomputable def InOrd(cs:List Cell):Prop:=∀(i:Nat) c d,cs[i]?=some c->cs[i+1]?=some d->HT.lexLt [c.2,c.1] [d.2,d.1]=true
noncomputable def kC(c:Cell):List Key:=[DD c.1,DD c.2]
theorem zhx{c d:Cell}:kC c=kC d ↔ c=d:=by
 constructor
 .intro h;unfold kC at h;injection h with h1 h2;injection h2 with h2 _;exact Ch (Sum.inl.inj h1) (Sum.inl.inj h2)
 .rintro rfl;rfl
noncomputable def zeS(K:W.Frag):Sp:=λvs H Q _=>∃(a:Addr) (e:Edge) (o:Option Nat),vs=[.ref a,sv o]/\SqT K H a (edgeT e)/\e.w<4/\(∀s,o=some s->s<8)/\∀(p:Addr) (H':Hp),H p=none->Same H H'->H' p=some (.tup (edgeT (edgeB e o)))->Q (.ref p) H'
theorem zek (g_gone:Fn P w K mg base 1 "gone" ["x", "y", "step"] zcU) (g_is_slant:Fn P w K mg base 1 "is_slant" ["step"] zcT)
  (d:Df K mg "edge_behind" zbR ["edge","step"]):FnOk P w K mg base CX0 2 d.f d.fd ["edge","step"] (zeS K):=by
 refine d.F.ok zaV (λvs H Q E h=>?_) (λcdv A outer s H vs Q E hr h=>?_)
 .obtain⟨a,e,o,rfl,_⟩:=h;rfl
 .obtain⟨a,e,o,rfl,hq,hw,ho,k⟩:=h
  refine⟨_,(zac (za2 (pv 0) (za0 (by rfl) (zae (nG 2 zaV.nd) (zae (nG 3 zaV.nd) (zae (nG 4 zaV.nd) zaq)))))
   (zac (ps_if (zay zjl (pv 1) zbL (zaz _))
   (zag (zal (zan (pa_N (pv 2) (pa_N (pv 3) (pa_B (pe_op zat (pe_op zaw (pv 4) zad) zad) zab))))))
   zaF)
   (zac (za2 (pC g_gone hr (pa_N (pv 2) (pa_N (pv 3) (pa_N (pv 1) zab)))) (za0 (by rfl) (zae (nG 5 zaV.nd) (zae (nG 6 zaV.nd) zaq))))
   (zac (ps_if (zdQ (pC g_is_slant hr (pa_N (pv 1) zab)))
   (zag (zal (zan (pa_N (pv 5) (pa_N (pv 6) (pa_B (pe_op zat (pe_op zaw (pv 4) zad) zad) zab))))))
   zaF)
   (zag (zal (zan (pa_N (pv 5) (pa_N (pv 6) (pa_N (pv 4) zab)))))))))),?_⟩
  refine⟨_,rfl,a,_,rfl,hq,rfl,_,_,rfl,_,_,rfl,_,_,rfl,rfl,?_⟩
  cases o with
  |none =>
   refine⟨_,rfl,rfl,true,rfl,iteT ?_⟩;refine⟨_,rfl,_,rfl,_,rfl,_,_,rfl,rfl,_,_,rfl,rfl,(by show (0:Int)<4;decide),three,λp hp=>k p _ hp (Same.up hp) ?_⟩;rw[zaa];have e1:((e.w:Int)+1) % 4=(((e.w+1) % 4:Nat):Int):=by lia
   show some (HO.tup [.int e.c.1,.int e.c.2,.int (((e.w:Int)+1) % 4)])=_;rw[e1];rfl
  |some n =>
   refine⟨_,rfl,rfl,false,rfl,iteF ?_⟩;refine⟨_,rfl,_,rfl,_,rfl,e.c,n,rfl,ho n rfl,λp1 H1 hp1 s1 f1=>?_⟩;refine⟨p1,_,rfl,SqT.of f1,rfl,_,_,rfl,_,_,rfl,rfl,?_⟩;refine⟨_,rfl,some n,rfl,_,rfl,?_⟩;refine ite2 (λhs=>?_) (λhs=>?_)
   .refine⟨_,rfl,_,rfl,_,rfl,_,_,rfl,rfl,_,_,rfl,rfl,(by show (0:Int)<4;decide),three,λp hp=>k p _ (s1.free hp) (s1.trans (Same.up hp)) ?_⟩;rw[zaa];have e1:((e.w:Int)+3) % 4=(((e.w+3) % 4:Nat):Int):=by lia
    have hn:n % 2=1:=by simpa[slant]using hs
    show some (HO.tup [.int (go e.c n).1,.int (go e.c n).2,.int (((e.w:Int)+3) % 4)])=_;rw[e1];unfold edgeB;simp only[if_pos hn];rfl
   .refine⟨_,rfl,_,rfl,_,rfl,three,λp hp=>k p _ (s1.free hp) (s1.trans (Same.up hp)) ?_⟩;rw[zaa];have hn:¬ n % 2=1:=by simpa[slant]using hs
    unfold edgeB;simp only[if_neg hn];rfl
noncomputable def KT(H H':Hp):Prop:=∀b xs,H b=some (.tup xs)->H' b=some (.tup xs)
theorem KT.refl(H:Hp):KT H H:=λ_ _ h=>h
theorem KT.trans{H H1 H2:Hp}(a:KT H H1)(b:KT H1 H2):KT H H2:=λc o h=>b c o (a c o h)
theorem KT.of{H H':Hp}(s:Same H H'):KT H H':=λb xs e=>s b _ e
theorem KT.up{H:Hp}{p:Addr}{o:HO}(h:H p=none):KT H (upd H p o):=KT.of (Same.up h)
theorem KT.lst{H:Hp}{p:Addr}{xs:List V}{o:HO}(h:H p=some (.lst xs)):KT H (upd H p o):=λb ys e=>by rw[zai (ne_of e h (λz=>nomatch z))];exact e
theorem KT.dct{H:Hp}{p:Addr}{xs:List (List Key×V)}{o:HO}(h:H p=some (.dT xs)):KT H (upd H p o):=λb ys e=>by rw[zai (ne_of e h (λz=>nomatch z))];exact e
theorem cR.kt{c:Cell}{v:V}{H H':Hp}(h:cR c v H)(s:KT H H'):cR c v H':=let ⟨b,e,q⟩:=h;⟨b,e,s _ _ q⟩
theorem eR.kt{c:Edge}{v:V}{H H':Hp}(h:eR c v H)(s:KT H H'):eR c v H':=let ⟨b,e,q⟩:=h;⟨b,e,s _ _ q⟩
theorem wR.kt{c:Edge×Option Nat}{v:V}{H H':Hp}(h:wR c v H)(s:KT H H'):wR c v H':=let ⟨A,b,e,q,r⟩:=h;⟨A,b,e,s _ _ q,s _ _ r⟩
noncomputable def VR{α:Type}(vs:List V)(l:List α)(R:α->V->Hp->Prop)(H:Hp):Prop:=vs.length=l.length/\∀(i:Nat) x v,l[i]?=some x->vs[i]?=some v->R x v H
theorem VR.nil{α:Type}{R:α->V->Hp->Prop}{H:Hp}:VR [] ([]:List α) R H:=⟨rfl,λi x v h=>by simp at h⟩
theorem VR.snoc{α:Type}{vs:List V}{l:List α}{R:α->V->Hp->Prop}{H H':Hp}{x:α}{v:V}(h:VR vs l R H)(m:∀x v,R x v H->R x v H')(hx:R x v H'):VR (vs++[v]) (l++[x]) R H':=by
 refine⟨by simp[h.1],λi y u h1 h2=>?_⟩;rcases AX i l.length with hi |hi
 .rw[AG hi]at h1;rw[AG (by rw[h.1];exact hi)]at h2;exact m _ _ (h.2 i y u h1 h2)
 .rw[A0 hi]at h1;rw[A0 (by rw[h.1];exact hi)]at h2
  have hz:i-l.length=0:=by have:=(Ad.mp h1).1;simp at this;lia
  rw[hz]at h1;rw[h.1,hz]at h2
  cases h1;cases h2
  exact hx
theorem VR.mono{α:Type}{vs:List V}{l:List α}{R:α->V->Hp->Prop}{H H':Hp}(h:VR vs l R H)(m:∀x v,R x v H->R x v H'):VR vs l R H':=⟨h.1,λi x v h1 h2=>m _ _ (h.2 i x v h1 h2)⟩
theorem VR.at{α:Type}{vs:List V}{l:List α}{R:α->V->Hp->Prop}{H:Hp}(h:VR vs l R H){i:Nat}{v:V}(hv:vs[i]?=some v):∃x,l[i]?=some x/\R x v H:=by
 have hi:i<l.length:=by rw[<- h.1];exact (Ad.mp hv).1
 exact⟨l[i],Aa hi,h.2 i _ v (Aa hi) hv⟩
theorem zar{H H2:Hp}{p:Addr}{o:HO}(hp:H p=none)(s:Same H H2):Same H (upd H2 p o):=λz u e=>by rw[zai (zaj e hp)];exact s z u e
theorem zhZ(cs:List Cell)(c:Cell):sides (cs++[c])=sides cs++(AO 4).map λw=>⟨c,w⟩:=by unfold sides;simp[List.flatMap_append]
theorem zaG{α:Type}{l:List α}{i:Nat}{x:α}(h:l[i]?=some x):l.take (i+1)=l.take i++[x]:=by rw[DC,h];rfl
theorem zcP{α:Type}(p:α->Bool)(l:List α)(x:α):(l++[x]).filter p=l.filter p++(if p x=true then [x] else []):=by rw[CI];congr 1;simp[List.filter_cons]
noncomputable def eI(e:Edge):List Int:=[e.c.1,e.c.2,(e.w:Int)]
theorem zga{e f:Edge}:eI e=eI f ↔ e=f:=by
 constructor
 .intro h;obtain⟨⟨x,y⟩,w⟩:=e;obtain⟨⟨x',y'⟩,w'⟩:=f;unfold eI at h;injection h with h1 h2;injection h2 with h2 h3;injection h3 with h3 _;simp only at h1 h2 h3;have:w=w':=by lia
  subst h1 h2 this;rfl
 .rintro rfl;rfl
theorem zda{K:W.Frag}{H:Hp}{b:Addr}{e:Edge}(h:H b=some (.tup (edgeT e))):RD K H (.ref b) (tI (eI e)):=.tup (SqT.of h) (RDs.ints (eI e))
theorem zkf{C:Cell->Bool}{e:Edge}(hw:e.w<4):∀s,stepB C e=some s->s<8:=by
 intro s h;unfold stepB at h;split at h
 .cases h;lia
 .split at h
  .cases h;lia
  .cases h
noncomputable def wk(C:Cell->Bool)(es:List Edge):List (Edge×Option Nat):=es.map λe=>(e,stepB C e)
noncomputable def zjy:Option HO->Nat
 |some (.lst ws)=>ws.length
 |_=>0
noncomputable abbrev Wk:=List (Edge×Option Nat)
noncomputable def nL(W:Wk):Nat:=(W.filter λq=>q.2.isNone).length
noncomputable def nS(W:Wk):Nat:=(W.filter λq=>slant q.2).length
theorem zkZ(o:Option Nat):decide (sv o=V.non)=o.isNone:=by cases o <;> simp[sv]
theorem zbX{α:Type}{p:α->Bool}{l:List α}{i:Nat}{x:α}(h:l[i]?=some x):((l.take (i+1)).filter p)=(l.take i).filter p++(if p x=true then [x] else []):=by rw[zaG h,zcP]
theorem LR.vr{α:Type}{K:W.Frag}{H:Hp}{a:Addr}{l:List α}{R:α->V->Hp->Prop}(h:LR K H a l R):∃vs,SqL K H a vs/\VR vs l R H:=let ⟨vs,q,n,r⟩:=h;⟨vs,q,n,r⟩
theorem LR.of{α:Type}{K:W.Frag}{H:Hp}{a:Addr}{vs:List V}{l:List α}{R:α->V->Hp->Prop}(e:H a=some (.lst vs))(h:VR vs l R H):LR K H a l R:=⟨vs,SqL.of e,h.1,h.2⟩
noncomputable def ziM(K:W.Frag):Sp:=λvs H Q _=>∃(a:Addr) (W:Wk),vs=[.ref a]/\LR K H a W wR/\W.length<=1000/\∀p H',H p=none->Same H H'->H' p=some (.tup [.int (nL W),.int (nS W)])->Q (.ref p) H'
theorem zcN (T:Txt P w K mg) (g_is_slant:Fn P w K mg base 1 "is_slant" ["step"] zcT) (d:Df K mg "lefts_and_slants" zaH ["walk"]):FnOk P w K mg base CX0 2 d.f d.fd ["walk"] (ziM K):=by
 refine d.F.ok za9 (λvs H Q E h=>?_) (λcdv A outer s H vs Q E hr h=>?_)
 .obtain⟨a,W,rfl,_⟩:=h;rfl
 .obtain⟨a,W,rfl,hLR,hlen,k⟩:=h;obtain⟨ws,hq,hv⟩:=hLR.vr;have nb0:(["edge","step"]:List Str).Nodup:=by decide +kernel
  have nb1:(["edge","step"]:List Str).Nodup:=by decide +kernel
  refine⟨_,(zac (sE 1 za9.nd (zav zaL (by rfl) T.nlen (by rfl) (zah (zbi (osc:=zaf zaH) (N:=zbj) (N':=["edge","step"]) (sel:=[none,none]) bO (za3 (pv 0)) (λ_ _ _ _ _=>(zcJ (K:=K) (n:=2) (by rfl) (zae (nG 0 nb0) (zae (nG 1 nb0) zaq)))) (λ_ _ _ _ _=>zbH (zay zjl (pv 1) zbL (zaz _))) (λ_ _ _ _ _=>(pv 1))) zab)))
   (zac (sE 2 za9.nd (zav zaL (by rfl) T.nlen (by rfl) (zah (zbi (osc:=zaf zaH) (N:=zbj) (N':=["edge","step"]) (sel:=[none,none]) bO (za3 (pv 0)) (λ_ _ _ _ _=>(zcJ (K:=K) (n:=2) (by rfl) (zae (nG 0 nb1) (zae (nG 1 nb1) zaq)))) (λ_ _ _ _ _=>zbH (zdQ (pC g_is_slant hr (pa_N (pv 1) zab)))) (λ_ _ _ _ _=>(pv 1))) zab)))
   (zag (zal (zan (pa_N (pv 1) (pa_N (pv 2) zab))))))),?_⟩
  refine⟨_,rfl,a,rfl,⟨_,hq⟩,λp hp=>?_⟩
  refine zaK (K:=K) (a:=a) (xs:=ws) (λi σ H2=>∃o1 o2,σ=[o1,o2]/\Same H H2/\∃ss:List V,H2 p=some (.lst ss)/\ss.length=((W.take i).filter λq=>q.2.isNone).length)
   ⟨_,_,rfl,Same.up hp,[],zaa,rfl⟩ (λi σ H2 _ ⟨_,_,_,s2,_⟩=>s2.seq hq) ?_ ?_
  .rintro i v σ H2 hi ⟨o1,o2,rfl,s2,ss,e2,hl⟩;obtain⟨⟨e,st⟩,he,B,b,rfl,q1,q2⟩:=hv.at hi
   have hl2:ss.length<=1000:=by have:=A8 (λq:Edge×Option Nat=>q.2.isNone) (W.take i);rw[A6]at this;lia
   refine⟨B,_,rfl,SqT.of (s2 _ _ q1),rfl,_,_,rfl,_,_,rfl,rfl,?_⟩;refine⟨_,rfl,rfl,_,rfl,?_⟩;rw[zkZ];rw[zbX he]at *;refine ite2 (λhy=>?_) (λhn=>?_)
   .refine⟨_,rfl,ss,e2,small1000 hl2,_,_,rfl,zar hp s2,_,zaa,?_⟩;rw[if_pos hy,Ak,Ak,hl];rfl
   .exact⟨_,_,rfl,s2,ss,e2,by rw[if_neg hn,AN];exact hl⟩
  .rintro σ H2 ⟨o1,o2,rfl,s2,ss,e2,hl⟩;refine⟨p,_,rfl,.inl (SqL.of e2),?_⟩;refine⟨_,rfl,a,rfl,⟨_,s2.seq hq⟩,λp2 hp2=>?_⟩
   refine zaK (K:=K) (a:=a) (xs:=ws) (λi σ H3=>∃o1 o2,σ=[o1,o2]/\Same H2 H3/\∃s3:List V,H3 p2=some (.lst s3)/\s3.length=((W.take i).filter λq=>slant q.2).length)
    ⟨_,_,rfl,Same.up hp2,[],zaa,rfl⟩ (λi σ H3 _ ⟨_,_,_,s3,_⟩=>(s2.trans s3).seq hq) ?_ ?_
   .rintro i v σ H3 hi ⟨o1,o2,rfl,s3,ss3,e3,hl3⟩;obtain⟨⟨e,st⟩,he,B,b,rfl,q1,q2⟩:=hv.at hi
    have hl2:ss3.length<=1000:=by have:=A8 (λq:Edge×Option Nat=>slant q.2) (W.take i);rw[A6]at this;lia
    refine⟨B,_,rfl,SqT.of ((s2.trans s3) _ _ q1),rfl,_,_,rfl,_,_,rfl,rfl,?_⟩;refine⟨_,rfl,st,rfl,_,rfl,?_⟩;rw[zbX he]at *;refine ite2 (λhy=>?_) (λhn=>?_)
    .refine⟨_,rfl,ss3,e3,small1000 hl2,_,_,rfl,zar hp2 s3,_,zaa,?_⟩;rw[if_pos hy,Ak,Ak,hl3];rfl
    .exact⟨_,_,rfl,s3,ss3,e3,by rw[if_neg hn,AN];exact hl3⟩
   .rintro σ H3 ⟨o1,o2,rfl,s3,ss3,e3,hl3⟩;refine⟨p2,_,rfl,.inl (SqL.of e3),?_⟩;refine⟨_,rfl,_,rfl,two,λp4 hp4=>k p4 _ (s2.free (s3.free hp4)) ((s2.trans s3).trans (Same.up hp4)) ?_⟩;rw[hv.1,AS]at hl hl3;rw[zaa,hl,hl3];rfl
noncomputable def zk2(K:W.Frag):Sp:=λvs H Q _=>∃(a:Addr) (W:Wk),vs=[.ref a]/\LR K H a W wR/\W.length<=1000/\∀H',Same H H'->Q (.int ((nL W:Int)-nS W)) H'
theorem zcw (g_lefts_and_slants:Fn P w K mg base 2 "lefts_and_slants" ["walk"] (ziM K)) (d:Df K mg "lefts_less_slants" zbb ["walk"]):FnOk P w K mg base CX0 3 d.f d.fd ["walk"] (zk2 K):=by
 refine d.F.ok za7 (λvs H Q E h=>?_) (λcdv A outer s H vs Q E hr h=>?_)
 .obtain⟨a,W,rfl,_⟩:=h;rfl
 .obtain⟨a,W,rfl,hLR,hlen,k⟩:=h
  refine⟨_,(zac (za2 (pC g_lefts_and_slants hr (pa_N (pv 0) zab)) (za0 (by rfl) (zae (nG 1 za7.nd) (zae (nG 2 za7.nd) zaq))))
   (zag (zal (pe_op zb6 (pv 1) (pv 2))))),?_⟩
  refine⟨_,rfl,a,W,rfl,hLR,hlen,λp H1 hp s1 f1=>?_⟩;refine⟨p,_,rfl,SqT.of f1,rfl,_,_,rfl,_,_,rfl,rfl,?_⟩;exact⟨_,rfl,_,rfl,_,_,rfl,rfl,k H1 s1⟩
noncomputable def sortS (W:Wk):Str:=if nS W<nL W then "rim" else "hole"
noncomputable def kOf (s:Str):Nat:=if s = "rim" then 0 else 2
noncomputable def zb3(W:Wk)(s:Str)(e:Edge):Prop:=e∈W.map (·.1)/\e.w=kOf s/\∀f∈W.map (·.1),f.w=kOf s->HT.lexLt [f.c.2,f.c.1] [e.c.2,e.c.1]=false
noncomputable def ziS (K:W.Frag):Sp:=λvs H Q _=>∃(a:Addr) (W:Wk) (s:Str),vs=[.ref a,.str s]/\(s = "rim" ∨ s = "hole")/\LR K H a W wR/\W.length<=1000/\(∃e∈W.map (·.1),e.w=kOf s) /\
 ∀b e H',Same H H'->H' b=some (.tup (edgeT e))->zb3 W s e->Q (.ref b) H'
theorem zgP (T:Txt P w K mg) (g_cell_order:Fn P w K mg base 1 "cell_order" ["cell"] (ziK K)) (d:Df K mg "begin_of" zcs ["walk","sort"]):FnOk P w K mg base CX0 3 d.f d.fd ["walk","sort"] (ziS K):=by
  refine d.F.ok zgA (λvs H Q E h=>?_) (λcdv A outer s H vs Q E hr h=>?_)
  . obtain⟨a,W,s,rfl,_⟩:=h;rfl
  . obtain⟨a,W,so,rfl,hso,hLR,hlen,hex,k⟩:=h;obtain⟨ws,hq,hv⟩:=hLR.vr;have nb0:(["edge","step","sort"]:List Str).Nodup:=by decide +kernel
    refine⟨_,(zag (zal (zlM g_cell_order.ok (hr.mono (by decide)) g_cell_order.b (by rfl) T.nmin (by rfl) g_cell_order.m (zbi (osc:=zaf zcs) (N:=zeJ) (N':=["edge","step","sort"]) (sel:=[none,none,some 1]) bO (za3 (pv 0)) (λ_ _ _ _ _=>(zcJ (K:=K) (n:=2) (by rfl) (zae (nG 0 nb0) (zae (nG 1 nb0) zaq)))) (λ_ _ _ _ _=>zbH (zay op_eq (pe_ix (zfj (K:=K)) (pv 0) zad (λ_ _=>rfl)) (zjd (by rfl) T.ways (pv 2)) (zaz _))) (λ_ _ _ _ _=>(pv 0)))))),?_⟩;refine⟨_,rfl,a,rfl,⟨_,hq⟩,λp hp=>?_⟩
    refine zaK (K:=K) (a:=a) (xs:=ws) (λi σ H2=>∃o1 o2,σ=[o1,o2,some (.str so)]/\Same H H2/\∃es:List V,H2 p=some (.lst es)/\VR es (((W.take i).filter λq=>q.1.w == kOf so).map (·.1)) eR H2)
      ⟨_,_,rfl,Same.up hp,[],zaa,VR.nil⟩ (λi σ H2 _ ⟨_,_,_,s2,_⟩=>s2.seq hq) ?_ ?_
    . rintro i v σ H2 hi ⟨o1,o2,rfl,s2,es,e2,hl⟩;obtain⟨⟨e,st⟩,he,B,b,rfl,q1,q2⟩:=hv.at hi
      have hl2:es.length<=1000:=by have:=A8 (λq:Edge×Option Nat=>q.1.w == kOf so) (W.take i);rw[hl.1,Ai];rw[A6]at this;lia
      have fin:∀kk:Int, kk=(kOf so:Int) -> (if decide (V.int (e.w:Int)=V.int kk)=true then zdG p (tVar 0) { nx := λσ H2 => ∃o1 o2, σ = [o1, o2, some (V.str so)] /\ Same H H2 /\ ∃es, H2 p=some (.lst es) /\ VR es (List.map (λx => x.fst) (List.filter (λq => q.1.w == kOf so) (List.take (i + 1) W))) eR H2, rt := λ_ _ => False } [some (.ref b), some (sv st), some (.str so)] H2
          else (∃o1 o2,[some (.ref b),some (sv st),some (V.str so)]=[o1,o2,some (V.str so)]/\Same H H2/\∃es,H2 p=some (.lst es)/\VR es (List.map (λx=>x.fst) (List.filter (λq=>q.1.w == kOf so) (List.take (i+1) W))) eR H2)):=λkk hk=>by
        have hd:decide (V.int (e.w:Int)=V.int kk)=(e.w == kOf so):=by
          subst hk
          by_cases q:e.w=kOf so
          . rw[q];simp
          . rw[decide_eq_false (λz=>q (by injection z with z;lia))];simp[q]
        rw[hd,zbX he];refine ite2 (λhy=>?_) (λhn=>?_)
        . refine⟨_,rfl,es,e2,small1000 hl2,_,_,rfl,zar hp s2,_,zaa,?_⟩;rw[if_pos hy,AJ];have k2:KT H2 (upd H2 p (.lst (es++[.ref b]))):=KT.lst e2;exact hl.snoc (λx v hx=>hx.kt k2) ⟨b,rfl,k2 _ _ (s2 _ _ q2)⟩
        . exact⟨_,_,rfl,s2,es,e2,by rw[if_neg hn,AN];exact hl⟩
      refine⟨B,_,rfl,SqT.of (s2 _ _ q1),rfl,_,_,rfl,_,_,rfl,rfl,?_⟩;rcases hso with z |z
      . have f0:=fin 0 (by rw[z];rfl);exact⟨_,rfl,b,_,_,_,rfl,rfl,SqT.of (s2 _ _ q2),zaT (j:=2) rfl,_,rfl,.inl ⟨by rw[z],rfl,_,rfl,f0⟩⟩
      . have f2:=fin 2 (by rw[z];rfl);exact⟨_,rfl,b,_,_,_,rfl,rfl,SqT.of (s2 _ _ q2),zaT (j:=2) rfl,_,rfl,.inr ⟨by rw[z],rfl,_,rfl,f2⟩⟩
    . rintro σ H2 ⟨o1,o2,rfl,s2,es,e2,hl⟩;rw[hv.1,AS]at hl;obtain⟨L,hL⟩:∃L,L=((W.filter λq=>q.1.w == kOf so).map (·.1)):=⟨_,rfl⟩;rw[<- hL]at hl
      have memL:∀f,f∈L ↔ f∈W.map (·.1)/\f.w=kOf so:=λf=>by
        rw[hL];constructor
        . intro h;obtain⟨q,hq1,rfl⟩:=Aq.mp h;obtain⟨h1,h2⟩:=Dd.mp hq1;exact⟨Aq.mpr ⟨q,h1,rfl⟩,by simpa using h2⟩
        . rintro⟨h1,h2⟩;obtain⟨q,hq1,rfl⟩:=Aq.mp h1;exact Aq.mpr ⟨q,List.mem_filter.mpr ⟨hq1,by simpa using h2⟩,rfl⟩
      have hpos:0<es.length:=by obtain⟨f,h1,h2⟩:=hex;rw[hl.1];exact Da ((memL f).mpr ⟨h1,h2⟩)
      have kap:∀(i:Nat) e,L[i]?=some e->(λi=>(L[i]?.map λe:Edge=>[e.c.2,e.c.1]).getD []) i=[e.c.2,e.c.1]:=λi e h=>by simp only[h];rfl
      refine⟨p,es,λi=>(L[i]?.map λe:Edge=>[e.c.2,e.c.1]).getD [],rfl,SqL.of e2,hpos,λi x H3 hx s3=>?_,λi x H3 hx hle s3=>?_⟩
      . obtain⟨e,he,b,rfl,q⟩:=hl.at hx;refine⟨b,e.c.1,e.c.2,_,rfl,SqT.of (s3 _ _ q),λp4 H4 hp4 s4 f4=>⟨s4,p4,rfl,SqT.of ?_⟩⟩;rw[kap i e he];exact f4
      . obtain⟨e,he,b,rfl,q⟩:=hl.at hx;have hm:=(memL e).mp (Ag he);refine k b e H3 (s2.trans s3) (s3 _ _ q) ⟨hm.1,hm.2,λf h1 h2=>?_⟩;obtain⟨j,hj,ej⟩:=Ay ((memL f).mpr ⟨h1,h2⟩);have hj':L[j]?=some f:=by rw[Aa hj,ej]
        have:=(hle j (by rw[hl.1];exact hj)).1;rw[kap j f hj',kap i e he]at this;exact this
theorem sIx_nat(n d j:Nat):HT.sIx n d (some (j:Int))=min j n:=by show (if (j:Int)<0 then ((j:Int)+(n:Int)).toNat else min (j:Int).toNat n)=min j n;rw[if_neg (by lia),Cm]
theorem zkO(xs:List V){j:Nat}(h:j<=xs.length):cutV xs (some (j:Int)) none=xs.drop j:=by unfold cutV;rw[sIx_nat,Nat.min_eq_left h];exact List.take_of_length_le (by rw[List.length_drop];exact Aj _)
theorem zmX(xs:List V){j:Nat}(h:j<=xs.length):cutV xs none (some (j:Int))=xs.take j:=by unfold cutV;rw[sIx_nat,Nat.min_eq_left h];rfl
structure Rnd where
 so:Str
 x:Int
 y:Int
 row:List Nat
 deriving DecidableEq
noncomputable def rowV(row:List Nat):List V:=row.map λn:Nat=>V.int (n:Int)
noncomputable def rR(r:Rnd)(v:V)(H:Hp):Prop:=∃a b,v=.ref a/\H a=some (.tup [.str r.so,.int r.x,.int r.y,.ref b])/\H b=some (.tup (rowV r.row))
theorem rR.kt{r:Rnd}{v:V}{H H':Hp}(h:rR r v H)(s:KT H H'):rR r v H':=let ⟨a,b,e,q1,q2⟩:=h;⟨a,b,e,s _ _ q1,s _ _ q2⟩
noncomputable def IsRnd(W:Wk)(r:Rnd):Prop:=r.so=sortS W/\∃(j:Nat) (e:Edge),(W.map (·.1))[j]?=some e/\zb3 W (sortS W) e/\r.x=e.c.1/\r.y=e.c.2/\r.row=(W.drop j++W.take j).filterMap (·.2)
theorem zeU (W:Wk):sortS W = "rim" ∨ sortS W = "hole":=by unfold sortS;split <;> simp
noncomputable def keyV (r:Rnd):List V:=[.int r.y,.int r.x,.bl (decide (V.str r.so=V.str "hole"))]
theorem VR.cons{α:Type}{v:V}{vs:List V}{x:α}{l:List α}{R:α->V->Hp->Prop}{H:Hp}:VR (v::vs) (x::l) R H ↔ R x v H/\VR vs l R H:=by
 constructor
 .intro h;exact⟨h.2 0 x v rfl rfl,by simpa using h.1,λi y u h1 h2=>h.2 (i+1) y u (by simpa using h1) (by simpa using h2)⟩
 .rintro⟨h1,h2⟩;refine⟨by simp[h2.1],λi y u e1 e2=>?_⟩
  match i,e1,e2 with
  | 0,e1,e2=>cases e1;cases e2;exact h1
  |i+1,e1,e2=>exact h2.2 i y u (by simpa using e1) (by simpa using e2)
noncomputable def kE(e:Edge):List Key:=[DD e.c.1,DD e.c.2,DD (e.w:Int)]
theorem zlg{e f:Edge}:kE e=kE f ↔ e=f:=by
 constructor
 .intro h;refine zga.mp ?_
  unfold kE at h;injection h with h1 h2;injection h2 with h2 h3;injection h3 with h3 _;unfold eI;rw[Sum.inl.inj h1,Sum.inl.inj h2,Sum.inl.inj h3]
 .rintro rfl;rfl
theorem _root_.RP.Closed.back{C:Cell->Bool}{b x:Edge}{es:List Edge}(h:Closed C b es)(hx:IsE C x)(hm:nxt C x∈es):x∈es:=by
 obtain⟨⟨h0,hs,hE,hnd⟩,l,hl,hb⟩:=h;obtain⟨i,hi,ei⟩:=Ay hm;have hlm:l∈es:=Ag hl;rcases Nat.eq_zero_or_pos i with rfl |hp
 .rw[Aa hi,ei]at h0;have e:=A4 h0;rw[<- hb]at e;rw[zdb hx (hE l hlm) e];exact hlm
 .have hi':i-1<es.length:=by lia
  have e1:=hs (i-1) es[i-1] (nxt C x) (Aa hi') (by rw[show i-1+1=i by lia,Aa hi,ei]);rw[zdb hx (hE _ (AZ hi')) e1];exact AZ hi'
theorem _root_.RP.Closed.apart{C:Cell->Bool}{b:Edge}{es done:List Edge}(h:Closed C b es)(hd:∀x,IsE C x->nxt C x∈done->x∈done)(hb:b ∉ done):∀e∈es,e ∉ done:=by
 obtain⟨⟨h0,hs,hE,hnd⟩,_⟩:=h
 have key:∀(i:Nat) e,es[i]?=some e->e ∉ done:=by
  intro i
  induction i with
  |zero=>intro e he;rw[he]at h0;cases h0;exact hb
  |succ i ih =>
   intro e he hm;have hi:i+1<es.length:=(Ad.mp he).1;have h1:es[i]?=some es[i]:=Aa (by lia)
   have hn:=hs i _ e h1 he;rw[hn]at hm;exact ih _ h1 (hd _ (hE _ (AZ _)) hm)
 intro e he;obtain⟨i,hi,ei⟩:=Ay he;exact key i e (by rw[Aa hi,ei])
structure Part (C:Cell->Bool) (ESS:List (List Edge)) (R:List Rnd):Prop where
 len:R.length=ESS.length
 each:∀(i:Nat) es r,ESS[i]?=some es->R[i]?=some r->(∃b,Closed C b es)/\IsRnd (wk C es) r
 nd:ESS.flatten.Nodup
theorem Part.closed{C:Cell->Bool}{ESS:List (List Edge)}{R:List Rnd}(h:Part C ESS R):∀es∈ESS,∃b,Closed C b es:=λes he=>by
 obtain⟨i,hi,ei⟩:=Ay he;have hr:i<R.length:=by rw[h.len];exact hi
 exact (h.each i es R[i] (by rw[Aa hi,ei]) (Aa hr)).1
theorem Part.isE{C:Cell->Bool}{ESS:List (List Edge)}{R:List Rnd}(h:Part C ESS R):∀e∈ESS.flatten,IsE C e:=λe he=>by obtain⟨es,h1,h2⟩:=List.mem_flatten.mp he;obtain⟨b,hc⟩:=h.closed es h1;exact hc.1.2.2.1 e h2
theorem Part.back{C:Cell->Bool}{ESS:List (List Edge)}{R:List Rnd}(h:Part C ESS R):∀x,IsE C x->nxt C x∈ESS.flatten->x∈ESS.flatten:=λx hx hm=>by obtain⟨es,h1,h2⟩:=List.mem_flatten.mp hm;obtain⟨b,hc⟩:=h.closed es h1;exact List.mem_flatten.mpr ⟨es,h1,hc.back hx h2⟩
theorem Part.nil{C:Cell->Bool}:Part C [] []:=⟨rfl,λi es r h=>by simp at h,by simp⟩
theorem Part.snoc{C:Cell->Bool}{ESS:List (List Edge)}{R:List Rnd}{b:Edge}{es:List Edge}{r:Rnd}(h:Part C ESS R)(hc:Closed C b es)(hr:IsRnd (wk C es) r)(hb:b ∉ ESS.flatten):Part C (ESS++[es]) (R++[r]):=by
 refine⟨by simp[h.len],λi fs q h1 h2=>?_,?_⟩
 .rcases AX i ESS.length with hi |hi
  .rw[AG hi]at h1;rw[AG (by rw[h.len];exact hi)]at h2;exact h.each i fs q h1 h2
  .rw[A0 hi]at h1;rw[A0 (by rw[h.len];exact hi)]at h2
   have hz:i-ESS.length=0:=by have:=(Ad.mp h1).1;simp at this;lia
   rw[hz]at h1;rw[h.len,hz]at h2
   cases h1;cases h2
   exact⟨⟨b,hc⟩,hr⟩
 .have ap:=hc.apart h.back hb;rw[DM,CQ];refine⟨h.nd,by simpa using hc.1.2.2.2,λx hx y hy e=>?_⟩;subst e;exact ap x (by simpa using hy) hx
theorem zdC{p:Edge->Bool}:∀(ESS:List (List Edge)),(∀es∈ESS,∃e∈es,p e=true)->ESS.length<=(ESS.flatten.filter p).length
 |[],_=>Be _
 |es::r,h=>by
  have ih:=zdC r λes he=>h es (Ar _ he)
  obtain⟨e,he,hp⟩:=h es Az;rw[By,CI,Ak,A7];have:0<(es.filter p).length:=Da (List.mem_filter.mpr ⟨he,hp⟩);lia
theorem Part.few{cs:List Cell}{ESS:List (List Edge)}{R:List Rnd}(h:Part (isIn cs) ESS R):R.length<=cs.length:=by
 rw[h.len];refine AM (zdC (p:=λe=>e.w == 0) ESS λes he=>?_) ?_
 .obtain⟨b,hc⟩:=h.closed es he;obtain⟨e,h1,h2⟩:=hc.has (k:=0) (.inl rfl);exact⟨e,h1,by simpa using h2⟩
 .rw[<- Ai (f:=λc:Cell=>(⟨c,0⟩:Edge)) (as:=cs)];refine zao (List.Pairwise.filter _ h.nd) λe he=>?_
  obtain⟨h1,h2⟩:=Dd.mp he;have hE:=h.isE e h1;refine Aq.mpr ⟨e.c,of_decide_eq_true hE.2.1,?_⟩;obtain⟨c,w⟩:=e;simp only at h2 ⊢;have:w=0:=by simpa using h2
  rw[this]
theorem Part.small{cs:List Cell}{ESS:List (List Edge)}{R:List Rnd}(h:Part (isIn cs) ESS R):ESS.flatten.length<=4*cs.length:=by rw[<- zcb];exact zao h.nd λe he=>zdZ.mpr ⟨of_decide_eq_true (h.isE e he).2.1,(h.isE e he).1⟩
noncomputable def keyI (r:Rnd):List Int:=[r.y,r.x,PyProof.Rows.b2i (decide (V.str r.so=V.str "hole"))]
noncomputable def Slim(cs:List Cell):Prop:=∀ESS R,Part (isIn cs) ESS R->R.length<=63
noncomputable def Whole(cs:List Cell)(R:List Rnd):Prop:=∃ESS,Part (isIn cs) ESS R/\∀e,e∈ESS.flatten ↔ IsE (isIn cs) e
noncomputable def Boxed(m:Nat)(cs:List Cell):Prop:=∃(x y:Int) (w h:Nat),w*h<=m/\∀c∈cs,x<=c.1/\c.1<x+w/\y<=c.2/\c.2<y+h
theorem Boxed.slim{m:Nat}{cs:List Cell}(hb:Boxed m cs)(hm:m<=120):Slim cs:=by
 intro ESS R hP;obtain⟨x,y,w,h,hwh,hbx⟩:=hb;have isE:=hP.isE;rw[hP.len];rcases box63 (AM hwh hm) with b |b
 .refine AM (zdC (p:=λe=>e.w == 0) ESS λes he=>?_) (AM ?_ b)
  .obtain⟨b,hc⟩:=hP.closed es he;obtain⟨e,h1,h2⟩:=hc.has (k:=0) (.inl rfl);exact⟨e,h1,by simpa using h2⟩
  .rw[<- zd2,<- Ai (f:=λe:Edge=>((e.c.1-x).toNat,(e.c.2-y).toNat / 2))]
   have key:∀e∈ESS.flatten.filter (λe=>e.w == 0),e.w=0/\e.c∈cs/\(e.c.1,e.c.2-1) ∉ cs:=λe he=>by
    obtain⟨h1,h2⟩:=Dd.mp he;have hw:e.w=0:=by simpa using h2
    obtain⟨_,h3,h4⟩:=isE e h1;refine⟨hw,of_decide_eq_true h3,λz=>?_⟩
    have eg:gap e=(e.c.1,e.c.2-1):=by unfold gap;rw[hw];show (e.c.1+0,e.c.2+-1)=_;rw[Int.add_zero];rfl
    rw[eg]at h4;exact absurd (decide_eq_true z) (by rw[show decide ((e.c.1,e.c.2-1)∈cs)=false from h4];simp)
   refine zao (zd0 (List.Pairwise.filter _ hP.nd) λa ha c hc e=>?_) λp hp=>?_
   .obtain⟨wa,ma,ga⟩:=key a ha;obtain⟨wc,mc,gc⟩:=key c hc;have ba:=hbx _ ma;have bc:=hbx _ mc;injection e with e1 e2;have ex:a.c.1=c.c.1:=by lia
    have ey:a.c.2=c.c.2∨a.c.2=c.c.2-1∨c.c.2=a.c.2-1:=by lia
    obtain⟨⟨ax,ay⟩,aw⟩:=a;obtain⟨⟨cx,cy⟩,cw⟩:=c;simp only at ex ey wa wc ga gc ma mc;subst ex wa wc;rcases ey with z |z |z
    .rw[z]
    .rw[z]at ma;exact absurd ma gc
    .rw[z]at mc;exact absurd mc ga
   .obtain⟨e,he,rfl⟩:=Aq.mp hp;obtain⟨_,me,_⟩:=key e he;have:=hbx _ me;exact zhr.mpr ⟨by show (e.c.1-x).toNat<w;lia,by show (e.c.2-y).toNat / 2<(h+1) / 2;lia⟩
 .refine AM (zdC (p:=λe=>e.w == 1) ESS λes he=>?_) (AM ?_ b)
  .obtain⟨b,hc⟩:=hP.closed es he;obtain⟨e,h1,h2⟩:=hc.has1;exact⟨e,h1,by simpa using h2⟩
  .rw[<- zd2,<- Ai (f:=λe:Edge=>((e.c.2-y).toNat,(e.c.1-x).toNat / 2))]
   have key:∀e∈ESS.flatten.filter (λe=>e.w == 1),e.w=1/\e.c∈cs/\(e.c.1+1,e.c.2) ∉ cs:=λe he=>by
    obtain⟨h1,h2⟩:=Dd.mp he;have hw:e.w=1:=by simpa using h2
    obtain⟨_,h3,h4⟩:=isE e h1;refine⟨hw,of_decide_eq_true h3,λz=>?_⟩
    have eg:gap e=(e.c.1+1,e.c.2):=by unfold gap;rw[hw];show (e.c.1+1,e.c.2+0)=_;rw[Int.add_zero]
    rw[eg]at h4;exact absurd (decide_eq_true z) (by rw[show decide ((e.c.1+1,e.c.2)∈cs)=false from h4];simp)
   refine zao (zd0 (List.Pairwise.filter _ hP.nd) λa ha c hc e=>?_) λp hp=>?_
   .obtain⟨wa,ma,ga⟩:=key a ha;obtain⟨wc,mc,gc⟩:=key c hc;have ba:=hbx _ ma;have bc:=hbx _ mc;injection e with e1 e2;have ex:a.c.2=c.c.2:=by lia
    have ey:a.c.1=c.c.1∨a.c.1=c.c.1+1∨c.c.1=a.c.1+1:=by lia
    obtain⟨⟨ax,ay⟩,aw⟩:=a;obtain⟨⟨cx,cy⟩,cw⟩:=c;simp only at ex ey wa wc ga gc ma mc;subst ex wa wc;rcases ey with z |z |z
    .rw[z]
    .rw[z]at ma;exact absurd ma gc
    .rw[z]at mc;exact absurd mc ga
   .obtain⟨e,he,rfl⟩:=Aq.mp hp;obtain⟨_,me,_⟩:=key e he;have:=hbx _ me;exact zhr.mpr ⟨by show (e.c.2-y).toNat<h;lia,by show (e.c.1-x).toNat / 2<(w+1) / 2;lia⟩
theorem _root_.RP.Closed.uniq{C:Cell->Bool}{b:Edge}{es fs:List Edge}(h:Closed C b es)(k:Closed C b fs):es=fs:=by
 have lt:∀{es fs:List Edge},Closed C b es->Closed C b fs->¬ es.length<fs.length:=λ{es fs} h k hl=>by have e:=h.it_len;have hp:=h.pos;have g1:=k.1.get es.length hl;have g2:=k.1.get 0 (by lia);rw[e]at g1;have:=(CS (i:=es.length) (j:=0) hl k.1.2.2.2).mp (by rw[g1,g2];rfl);lia
 have hl:es.length=fs.length:=by have:=lt h k;have:=lt k h;lia
 apply List.ext_getElem?
 intro i;rcases AX i es.length with hi |hi
 .rw[h.1.get i hi,k.1.get i (by lia)]
 .rw[BO hi,BO (by lia)]
theorem zeZ{α:Type}(l:List α)(j:Nat):(l.drop j++l.take j).Perm l:=by have:=List.perm_append_comm (l₁:=l.drop j) (l₂:=l.take j);rw[List.take_append_drop]at this;exact this
theorem _root_.RP.Closed.share{C:Cell -> Bool}{b c e:Edge}{es fs:List Edge}(h:Closed C b es)(k:Closed C c fs)(h1:e ∈ es)(h2:e ∈ fs) :
  ∃i j,es[i]?=some e/\fs[j]?=some e/\es.drop i++es.take i=fs.drop j++fs.take j:=by
 obtain⟨i,hi,ei⟩:=Ay h1;obtain⟨j,hj,ej⟩:=Ay h2;have a1:es[i]?=some e:=by rw[Aa hi,ei]
 have a2:fs[j]?=some e:=by rw[Aa hj,ej]
 exact⟨i,j,a1,a2,(h.rot i a1).uniq (k.rot j a2)⟩
theorem _root_.RP.Closed.perm{C:Cell->Bool}{b c e:Edge}{es fs:List Edge}(h:Closed C b es)(k:Closed C c fs)(h1:e∈es)(h2:e∈fs):es.Perm fs:=by obtain⟨i,j,_,_,q⟩:=h.share k h1 h2;exact (zeZ es i).symm.trans (q ▸ zeZ fs j)
theorem zb4{C:Cell->Bool}(es:List Edge):(wk C es).map (·.1)=es:=by unfold wk;rw[DH];exact List.map_id' _
theorem zez{C:Cell->Bool}{es fs:List Edge}(p:es.Perm fs):sortS (wk C es)=sortS (wk C fs):=by have q:(wk C es).Perm (wk C fs):=p.map _;unfold sortS nL nS;have a:=(q.filter λq=>q.2.isNone).length_eq;have b:=(q.filter λq=>slant q.2).length_eq;rw[a,b]
theorem lex2{a b c d:Int}(h1:HT.lexLt [a,b] [c,d]=false)(h2:HT.lexLt [c,d] [a,b]=false):a=c/\b=d:=by have:=HT.lexLt_total h1 h2;simpa using this
theorem zb3.one{W W':Wk}{s:Str}{e f:Edge}(p:(W.map (·.1)).Perm (W'.map (·.1)))(h:zb3 W s e)(k:zb3 W' s f):e=f:=by obtain⟨h1,h2,h3⟩:=h;obtain⟨k1,k2,k3⟩:=k;have a:=h3 f (p.mem_iff.mpr k1) k2;have b:=k3 e (p.mem_iff.mp h1) h2;obtain⟨q1,q2⟩:=lex2 a b;obtain⟨⟨x,y⟩,w⟩:=e;obtain⟨⟨x',y'⟩,w'⟩:=f;simp only at q1 q2 h2 k2;rw[h2,k2,q1,q2]
theorem IsRnd.one{C:Cell->Bool}{b c e:Edge}{es fs:List Edge}{r q:Rnd}(h:Closed C b es)(k:Closed C c fs)(h1:e∈es)(h2:e∈fs)(hr:IsRnd (wk C es) r)(hq:IsRnd (wk C fs) q):r=q:=by
 have p:=h.perm k h1 h2;obtain⟨r0,i,f,rf,rb,rx,ry,rr⟩:=hr;obtain⟨q0,j,g,qg,qb,qx,qy,qr⟩:=hq;have ss:=zez (C:=C) p;rw[<- ss]at qb;have fg:f=g:=rb.one (by rw[zb4,zb4];exact p) qb;subst fg;rw[zb4]at rf qg;have e1:=(h.rot i rf).uniq (k.rot j qg)
 have e2:(wk C es).drop i++(wk C es).take i=(wk C fs).drop j++(wk C fs).take j:=by unfold wk;rw[<- CC,<- CF,<- AJ,e1,AJ,CC,CF]
 obtain⟨a1,a2,a3,a4⟩:=r;obtain⟨b1,b2,b3,b4⟩:=q;simp only at r0 rx ry rr q0 qx qy qr;rw[r0,q0,rx,ry,rr,qx,qy,qr,ss,e2]
noncomputable def begE(r:Rnd):Edge:=⟨(r.x,r.y),kOf r.so⟩
theorem IsRnd.beg {C:Cell->Bool}{es:List Edge}{r:Rnd}(h:IsRnd (wk C es) r):begE r∈es/\(r.so = "rim" ∨ r.so = "hole"):=by
 obtain⟨r0,i,f,rf,⟨rb,rw',_⟩,rx,ry,rr⟩:=h;rw[zb4]at rb;refine⟨?_,by rw[r0];exact zeU _⟩
 have:begE r=f:=by obtain⟨⟨x,y⟩,w⟩:=f;unfold begE;rw[rx,ry,r0];simp only at rw' ⊢;rw[rw']
 rw[this];exact rb
theorem Part.got{C:Cell->Bool}{ESS:List (List Edge)}{R:List Rnd}(h:Part C ESS R){i:Nat}{r:Rnd}(hr:R[i]?=some r):∃es b,ESS[i]?=some es/\Closed C b es/\IsRnd (wk C es) r:=by have hi:=(Ad.mp hr).1;rw[h.len]at hi;obtain⟨⟨b,hb⟩,q⟩:=h.each i _ r (Aa hi) hr;exact⟨_,b,Aa hi,hb,q⟩
theorem zfl{α:Type}{L:List (List α)}(h:L.flatten.Nodup):∀{i j:Nat}{a b:List α}{x:α},L[i]?=some a->L[j]?=some b->x∈a->x∈b->i=j:=by
 induction L with
 |nil=>intro i j a b x h1;simp at h1
 |cons l r ih =>
  rw[By,CQ]at h;obtain⟨_,h2,h3⟩:=h;intro i j a b x h1 h4 xa xb
  cases i with
  |zero =>
   cases j with
   |zero=>rfl
   |succ j =>
    simp only[List.getElem?_cons_zero,Option.some.injEq,Cp]at h1 h4;subst h1;exact absurd rfl (h3 x xa x (List.mem_flatten.mpr ⟨b,Ag h4,xb⟩))
  |succ i =>
   cases j with
   |zero =>
    simp only[List.getElem?_cons_zero,Option.some.injEq,Cp]at h1 h4;subst h4;exact absurd rfl (h3 x xb x (List.mem_flatten.mpr ⟨a,Ag h1,xa⟩))
   |succ j =>
    have:=ih h2 (i:=i) (j:=j) (by simpa using h1) (by simpa using h4) xa xb;rw[this]
theorem Part.so {C:Cell->Bool}{ESS:List (List Edge)}{R:List Rnd}(h:Part C ESS R){r:Rnd}(hr:r∈R):r.so = "rim" ∨ r.so = "hole":=by obtain⟨i,hi,ei⟩:=Ay hr;obtain⟨es,b,h1,h2,h3⟩:=h.got (by rw[Aa hi,ei]);exact h3.beg.2
theorem zhH(s:Nat):∀(l:List Nat) (w:Nat),dgo w (l++[s])=((dgo w l).1++(Ah ((zax s+4-(dgo w l).2) % 4) none++[some s]),wayB s)
 |[],w=>by simp[dgo]
 |a::l,w=>by
  have ih:=zhH s l (wayB a);show (Ah ((zax a+4-w) % 4) none++some a::(dgo (wayB a) (l++[s])).1,(dgo (wayB a) (l++[s])).2)=_;rw[ih];show _=((Ah ((zax a+4-w) % 4) none++some a::(dgo (wayB a) l).1)++_,_);simp;rfl
theorem zd9:∀(l:List Nat) (w:Nat),(dgo w l).1.length<=4*l.length
 |[],w=>by simp[dgo]
 |a::l,w=>by
  have ih:=zd9 l (wayB a);show (Ah ((zax a+4-w) % 4) none++some a::(dgo (wayB a) l).1).length<=_;have:(zax a+4-w) % 4<4:=A1 _ (by decide);simp only[Ak,BB,A7];lia
theorem zgX:∀(l:List Nat) (w:Nat),w<4->(dgo w l).2<4
 |[],w,h=>h
 |a::l,w,h=>zgX l (wayB a) (A1 _ (by decide))
theorem zio(s:Nat):zax s<4:=A1 _ (by decide)
theorem zhz(n:Nat):(Ah n [V.non]).flatten=(Ah n (none:Option Nat)).map sv:=by
 induction n with
 |zero=>rfl
 |succ n ih=>rw[BL,By,ih];rfl
theorem zbk{n:Nat}(h:n<=5000):n<sizeLine:=CH h (by decide)
theorem zjm:1<=sizeLine:=by decide
noncomputable def zfE:Sp:=λvs H Q _=>∃(v:V) (r:Rnd),vs=[v]/\rR r v H/\(r.so = "rim" ∨ r.so = "hole")/\∀p H',H p=none->Same H H'->H' p=some (.tup (edgeT (begE r)))->Q (.ref p) H'
theorem zfd (T:Txt P w K mg) (d:Df K mg "begin_edge" zci ["one"]):FnOk P w K mg base CX0 1 d.f d.fd ["one"] zfE:=by
 refine d.F.ok zbh (λvs H Q E h=>?_) (λcdv A outer s H vs Q E hr h=>?_)
 .obtain⟨v,r,rfl,_⟩:=h;rfl
 .obtain⟨v,r,rfl,⟨a,b,rfl,q1,q2⟩,hso,k⟩:=h
  refine⟨_,(zac (za2 (pv 0) (za0 (by rfl) (zae (nG 1 zbh.nd) (zae (nG 2 zbh.nd) (zae (nG 3 zbh.nd) (zae (nG 4 zbh.nd) zaq))))))
   (zag (zal (zan (pa_N (pv 2) (pa_N (pv 3) (zah (zjd (by rfl) T.ways (pv 1)) zab))))))),?_⟩
  refine⟨_,rfl,a,_,rfl,SqT.of q1,rfl,_,_,rfl,_,_,rfl,_,_,rfl,_,_,rfl,rfl,?_⟩;refine⟨_,rfl,_,rfl,_,rfl,?_⟩;rcases hso with e |e
  .refine .inl ⟨by rw[e],three,λp hp=>k p _ hp (Same.up hp) ?_⟩;rw[zaa];unfold begE edgeT kOf;simp only[e];rfl
  .refine .inr ⟨by rw[e],three,λp hp=>k p _ hp (Same.up hp) ?_⟩;rw[zaa];unfold begE edgeT kOf;simp only[e];rfl
noncomputable def zhb:Sp:=λvs H Q _=>∃s:Nat,vs=[.int s]/\Q (.int (zax s:Nat)) H
theorem zh3 (d:Df K mg "way_for" zdM ["step"]):FnOk P w K mg base CX0 1 d.f d.fd ["step"] zhb:=by
 refine d.F.ok zh0 (λvs H Q E h=>?_) (λcdv A outer s H vs Q E hr h=>?_)
 .obtain⟨s,rfl,_⟩:=h;rfl
 .obtain⟨t,rfl,k⟩:=h;refine⟨_,(zag (zal (pe_op zat (pe_op zcM (pe_op zaw (pv 0) zad) zad) zad))),?_⟩;refine⟨_,rfl,_,_,rfl,rfl,_,_,rfl,rfl,⟨by decide,by decide⟩,_,_,rfl,rfl,(by show (0:Int)<4;decide),?_⟩;have e:((t:Int)+1) / 2 % 4=(zax t:Nat):=by unfold zax;lia
  show Q (V.int (((t:Int)+1) / 2 % 4)) H;rw[e];exact k
noncomputable def ziR(K:W.Frag):Sp:=λvs H Q _=>∃(wn:Nat) (b:Addr) (row:List Nat),vs=[.int (wn:Int),.ref b]/\wn<4/\SqT K H b (rowV row)/\row.length<=500 /\
 ∀p H',H p=none->Same H H'->H' p=some (.lst ((deeds wn row).map sv))->Q (.ref p) H'
theorem zel (g_way_for:Fn P w K mg base 1 "way_for" ["step"] zhb) (d:Df K mg "deeds_along" zbS ["begin_way","row"]):FnOk P w K mg base CX0 2 d.f d.fd ["begin_way","row"] (ziR K):=by
 refine d.F.ok zaW (λvs H Q E h=>?_) (λcdv A outer s H vs Q E hr h=>?_)
 .obtain⟨wn,b,row,rfl,_⟩:=h;rfl
 .obtain⟨wn,b,row,rfl,hw,hq,hlen,k⟩:=h
  refine⟨_,(zac (sE 2 zaW.nd (pv 0))
   (zac (sE 3 zaW.nd (zaI zab))
   (zac (zbr Bd rfl (zjb (pv 1)) (nG 4 zaW.nd)
   (zac (zbc (pe_bm AL DR DS zdY (pv 3) (pa_B (pe_op zle (zaI (pa_C zbL zab)) (pe_op zat (pe_op zb6 (pC g_way_for hr (pa_N (pv 4) zab)) (pv 2)) zad)) zab)))
   (zac (zbc (pe_bm AL Ba Bb zaU (pv 3) (pa_N (pv 4) zab)))
   (zag (sE 2 zaW.nd (pe_op zat (pe_op zb6 (pC g_way_for hr (pa_N (pv 4) zab)) (pe_op zat (pv 4) zad)) zad))))))
   (zac (sE 5 zaW.nd (zkr (zhi (pv 1) (λ_=>rfl)) (pe_op zat (pe_op zb6 (pv 0) (pv 2)) zad) zad))
   (zag (zal (pe_op zfQ (pv 3) (pe_op zle (zaI (pa_C zbL zab)) (pv 5))))))))),?_⟩
  refine⟨_,rfl,(by show 0<=sizeLine;decide),λp hp=>?_⟩;have s0:Same H (upd H p (.lst [])):=Same.up hp;have e0:upd H p (.lst []) p=some (.lst []):=zaa;generalize upd H p (.lst [])=H0 at s0 e0;refine⟨_,rfl,b,rfl,⟨_,s0.seqT hq⟩,?_⟩;have hrl:(rowV row).length=row.length:=by unfold rowV;exact Ai _
  refine zgU (K:=K) (a:=b) (xs:=rowV row) (λi σ H1=>∃o4 o5,σ=[some (.int (wn:Int)),some (.ref b),some (.int ((dgo wn (row.take i)).2:Nat)),some (.ref p),o4,o5]/\Same H H1/\H1 p=some (.lst ((dgo wn (row.take i)).1.map sv)))
   ⟨_,_,rfl,s0,e0⟩ (λi σ H1 _ ⟨_,_,_,s1,_⟩=>s1.seqT hq) ?_ ?_
  .rintro i v σ H1 hi ⟨o4,o5,rfl,s1,e1⟩;have hi':i<row.length:=by rw[<- hrl];exact (Ad.mp hi).1
   unfold rowV at hi;rw[Ax,Aa hi']at hi
   cases hi
   have hdl:=zd9 (row.take i) wn;rw[A6]at hdl;have hdw:=zgX (row.take i) wn hw;have hwf:=zio row[i];have hn:=zhH row[i] (row.take i) wn;rw[<- zaG (Aa hi')]at hn;refine⟨_,rfl,.inl ⟨rfl,_,SqL.of e1⟩,zjm,λl hl=>?_⟩;have s2:Same H1 (upd H1 l (.lst [.non])):=Same.up hl;have e2:upd H1 l (.lst [.non]) l=some (.lst [.non]):=zaa;generalize upd H1 l (.lst [.non])=H2 at s2 e2;refine⟨_,rfl,row[i],rfl,?_⟩;refine⟨_,rfl,_,_,rfl,rfl,_,_,rfl,rfl,(by show (0:Int)<4;decide),?_⟩;have ek:(((zax row[i]:Nat):Int)-((dgo wn (row.take i)).2:Nat)) % 4=(((zax row[i]+4-(dgo wn (row.take i)).2) % 4:Nat):Int):=by lia
   have k4:(zax row[i]+4-(dgo wn (row.take i)).2) % 4<4:=A1 _ (by decide);generalize hk:(zax row[i]+4-(dgo wn (row.take i)).2) % 4=kk at *;refine⟨l,(kk:Int),_,rfl,congrArg V.int ek,e2,by lia,by lia,(Bg (small1000 (by simp;lia))),λq hq'=>?_⟩;rw[Cm,zhz];have s3:Same H2 (upd H2 q (.lst ((Ah kk (none:Option Nat)).map sv))):=Same.up hq';have e3:upd H2 q (.lst ((Ah kk (none:Option Nat)).map sv)) q=some (.lst ((Ah kk (none:Option Nat)).map sv)):=zaa;have hpq:p≠q:=λz=>by subst z;rw[s2 _ _ e1]at hq';cases hq'
   generalize upd H2 q (.lst ((Ah kk (none:Option Nat)).map sv))=H3 at s3 e3;have e13:=s3 _ _ (s2 _ _ e1);refine⟨p,q,_,_,rfl,rfl,e13,e3,?_,?_⟩
   .simp only[Ai,BB];exact Bg (zbk (by lia))
   have hp2:H p=none:=hp;have s4:Same H (upd H3 p (.lst ((dgo wn (row.take i)).1.map sv++(Ah kk (none:Option Nat)).map sv))):=zar hp2 (s1.trans (s2.trans s3));have e4:upd H3 p (.lst ((dgo wn (row.take i)).1.map sv++(Ah kk (none:Option Nat)).map sv)) p=some (.lst ((dgo wn (row.take i)).1.map sv++(Ah kk (none:Option Nat)).map sv)):=zaa;generalize upd H3 p (.lst ((dgo wn (row.take i)).1.map sv++(Ah kk (none:Option Nat)).map sv))=H4 at s4 e4;refine⟨_,rfl,.inl ⟨rfl,_,SqL.of e4⟩,_,rfl,p,_,_,rfl,rfl,e4,?_,?_⟩
   .simp only[Ak,Ai,BB];exact zbk (by lia)
   have s5:Same H (upd H4 p (.lst (((dgo wn (row.take i)).1.map sv++(Ah kk (none:Option Nat)).map sv)++[V.int (row[i]:Nat)]))):=zar hp2 s4
   have e5:upd H4 p (.lst (((dgo wn (row.take i)).1.map sv++(Ah kk (none:Option Nat)).map sv)++[V.int (row[i]:Nat)])) p=some (.lst ((dgo wn (row.take (i+1))).1.map sv)):=by rw[zaa,hn];simp[sv]
   generalize upd H4 p (.lst (((dgo wn (row.take i)).1.map sv++(Ah kk (none:Option Nat)).map sv)++[V.int (row[i]:Nat)]))=H5 at s5 e5;refine⟨_,rfl,row[i],rfl,?_⟩;refine⟨_,rfl,_,_,rfl,rfl,(by show (0:Int)<2;decide),_,_,rfl,rfl,_,_,rfl,rfl,(by show (0:Int)<4;decide),?_⟩
   have ew:(((zax row[i]:Nat):Int)-(row[i]:Int) % 2) % 4=((dgo wn (row.take (i+1))).2:Nat):=by rw[hn];show _=((wayB row[i]:Nat):Int);unfold wayB;lia
   refine⟨some (V.int (row[i]:Nat)),o5,?_,s5,e5⟩;exact congrArg (λz:Int=>[some (V.int (wn:Int)),some (V.ref b),some (V.int z),some (V.ref p),some (V.int (row[i]:Nat)),o5]) ew
  .rintro σ H1 ⟨o4,o5,rfl,s1,e1⟩;rw[hrl,AS]at e1;rw[hrl,AS];have hdl:=zd9 row wn;have hdw:=zgX row wn hw
   have fin:∀z:Int,z=(zaE wn row:Nat)->tRet (tOp rCat (tVar 3) (tOp rRep (tLst (tCons (tC .non) tNil)) (tVar 5))) { nx:=λ_ H'=>Q .non H',rt:=Q } [some (.int (wn:Int)),some (.ref b),some (.int ((dgo wn row).2:Nat)),some (.ref p),o4,some (.int z)] H1:=λz hz=>by
    have hll:zaE wn row<=4:=by
     unfold zaE;split
     .decide
     .exact Bg (A1 _ (by decide))
    refine⟨_,rfl,zjm,λl hl=>?_⟩;have s2:Same H1 (upd H1 l (.lst [.non])):=Same.up hl;have e2:upd H1 l (.lst [.non]) l=some (.lst [.non]):=zaa;generalize upd H1 l (.lst [.non])=H2 at s2 e2;subst hz;refine⟨_,rfl,l,_,_,rfl,rfl,e2,by lia,by lia,(Bg (small1000 (by simp;lia))),λq hq'=>?_⟩;rw[Cm,zhz];have s3:Same H2 (upd H2 q (.lst ((Ah (zaE wn row) (none:Option Nat)).map sv))):=Same.up hq';have e3:upd H2 q (.lst ((Ah (zaE wn row) (none:Option Nat)).map sv)) q=some (.lst ((Ah (zaE wn row) (none:Option Nat)).map sv)):=zaa;generalize upd H2 q (.lst ((Ah (zaE wn row) (none:Option Nat)).map sv))=H3 at s3 e3;refine⟨p,q,_,_,rfl,rfl,s3 _ _ (s2 _ _ e1),e3,?_,λx hx=>?_⟩
    .simp only[Ai,BB];exact Bg (zbk (by lia))
    .have s13:=s1.trans (s2.trans s3);refine k x _ (s13.free hx) (s13.trans (Same.up hx)) ?_
     rw[zaa];unfold deeds;rw[AJ]
   refine⟨_,rfl,_,.inr (.inl ⟨_,s1.seqT hq,rfl⟩),?_⟩
   by_cases he:row=[]
   .exact iteN (by rw[he];rfl) (fin 4 (by rw[he];rfl))
   .refine iteY (by cases row with |nil=>exact absurd rfl he |cons x r=>rfl) ⟨_,rfl,_,rfl,_,_,rfl,rfl,_,_,rfl,rfl,(by show (0:Int)<4;decide),fin _ ?_⟩
    have hl:zaE wn row=(wn+4-(dgo wn row).2) % 4:=by unfold zaE;rw[if_neg (by simpa using he)]
    rw[hl];lia
noncomputable def wby:Edge->List (Option Nat)->List (Edge×Option Nat)
 |_,[]=>[]
 |e,d::r=>(e,d)::wby (edgeB e d) r
noncomputable def eAt:Edge->List (Option Nat)->Edge
 |e,[]=>e
 |e,d::r=>eAt (edgeB e d) r
theorem zhD(d:Option Nat):∀(l:List (Option Nat)) (e:Edge),eAt e (l++[d])=edgeB (eAt e l) d
 |[],_=>rfl
 |_::l,e=>zhD d l _
theorem zg2(d:Option Nat):∀(l:List (Option Nat)) (e:Edge),wby e (l++[d])=wby e l++[(eAt e l,d)]
 |[],_=>rfl
 |a::l,e=>by
  show (e,a)::wby (edgeB e a) (l++[d])=_;rw[zg2 d l];rfl
theorem zcr:∀(l:List (Option Nat)) (e:Edge),(wby e l).length=l.length
 |[],_=>rfl
 |a::l,e=>by show (wby (edgeB e a) l).length+1=_;rw[zcr l];rfl
theorem zhC{e:Edge}{o:Option Nat}(h:e.w<4):(edgeB e o).w<4:=by
 unfold edgeB
 cases o with
 |none=>exact A1 _ (by decide)
 |some s=>simp only;split <;> simp only <;> lia
theorem zlk:∀(l:List (Option Nat)){e:Edge},e.w<4->(eAt e l).w<4
 |[],_,h=>h
 |_::l,_,h=>zlk l (zhC h)
theorem zfy{C:Cell->Bool}:∀(es:List Edge){b:Edge},es[0]?=some b∨es=[]->(∀i e f,es[i]?=some e->es[i+1]?=some f->f=nxt C e)->wby b (es.map (stepB C))=wk C es
 |[],_,_,_=>rfl
 |e::r,b,h0,hs=>by
  have hb:e=b:=by rcases h0 with h |h;simpa using h;cases h
  subst hb;show (e,stepB C e)::wby (nxt C e) (r.map (stepB C))=(e,stepB C e)::wk C r;rw[zfy r (b:=nxt C e) ?_ λi x y h1 h2=>hs (i+1) x y (by simpa using h1) (by simpa using h2)]
  cases r with
  |nil=>exact .inr rfl
  |cons f r=>exact .inl (by have:=hs 0 e f rfl rfl;rw[<- this];rfl)
noncomputable def zhd(K:W.Frag):Sp:=λvs H Q _=>∃(a l:Addr) (b:Edge) (ds:List (Option Nat)),vs=[.ref a,.ref l]/\H a=some (.tup (edgeT b))/\b.w<4/\H l=some (.lst (ds.map sv))/\(∀s,some s∈ds->s<8)/\ds.length<=3000 /\
 ∀p H' ws,H p=none->Same H H'->H' p=some (.lst ws)->VR ws (wby b ds) wR H'->Q (.ref p) H'
theorem zh4 (g_edge_behind:Fn P w K mg base 2 "edge_behind" ["edge","step"] (zeS K)) (d:Df K mg "walk_by" zdO ["begin","deeds"]):FnOk P w K mg base CX0 3 d.f d.fd ["begin","deeds"] (zhd K):=by
 refine d.F.ok zbJ (λvs H Q E h=>?_) (λcdv A outer s H vs Q E hr h=>?_)
 .obtain⟨a,l,b,ds,rfl,_⟩:=h;rfl
 .obtain⟨a,l,b,ds,rfl,ha,hb,hl,h8,hlen,k⟩:=h
  refine⟨_,(zac (sE 2 zbJ.nd (zaI zab))
   (zac (sE 3 zbJ.nd (pv 0))
   (zac (zbr Bd rfl (za3 (pv 1)) (nG 4 zbJ.nd)
   (zac (zbc (pe_bm AL Ba Bb zaU (pv 2) (pa_T (zan (pa_N (pv 3) (pa_N (pv 4) zab))) zab)))
   (zag (sE 3 zbJ.nd (pC g_edge_behind hr (pa_N (pv 3) (pa_N (pv 4) zab)))))))
   (zag (zal (pv 2)))))),?_⟩
  refine⟨(by show 0<=sizeLine;decide),λp hp=>?_⟩;have s0:Same H (upd H p (.lst [])):=Same.up hp;have e0:upd H p (.lst []) p=some (.lst []):=zaa;generalize upd H p (.lst [])=H0 at s0 e0;refine⟨_,rfl,_,rfl,l,rfl,⟨_,SqL.of (s0 _ _ hl)⟩,?_⟩
  refine zaK (K:=K) (a:=l) (xs:=ds.map sv) (λi σ H1=>∃(c:Addr) (o4:Option V) (ws:List V),σ=[some (.ref a),some (.ref l),some (.ref p),some (.ref c),o4]/\Same H H1/\H1 c=some (.tup (edgeT (eAt b (ds.take i))))/\H1 p=some (.lst ws)/\VR ws (wby b (ds.take i)) wR H1)
   ⟨a,_,[],rfl,s0,s0 _ _ ha,e0,VR.nil⟩ (λi σ H1 _ ⟨_,_,_,_,s1,_⟩=>SqL.of (s1 _ _ hl)) ?_ ?_
  .rintro i v σ H1 hi ⟨c,o4,ws,rfl,s1,hc,e1,hv⟩;have hi':i<ds.length:=by have:=(Ad.mp hi).1;rwa [Ai]at this
   rw[Ax,Aa hi']at hi
   cases hi
   have tk:=zaG (Aa hi');have wl:ws.length<=3000:=by rw[hv.1,zcr,A6];lia
   refine⟨_,rfl,.inl ⟨rfl,_,SqL.of e1⟩,_,rfl,_,rfl,two,λt ht=>?_⟩;have s2:Same H1 (upd H1 t (.tup [.ref c,sv ds[i]])):=Same.up ht;have e2:upd H1 t (.tup [.ref c,sv ds[i]]) t=some (.tup [.ref c,sv ds[i]]):=zaa;generalize upd H1 t (.tup [.ref c,sv ds[i]])=H2 at s2 e2;have e12:=s2 _ _ e1;refine⟨p,ws,_,rfl,rfl,e12,zbk (by lia),?_⟩;have kt3:KT H2 (upd H2 p (.lst (ws++[.ref t]))):=KT.lst e12;have s3:Same H (upd H2 p (.lst (ws++[.ref t]))):=zar hp (s1.trans s2);have e3:upd H2 p (.lst (ws++[.ref t])) p=some (.lst (ws++[.ref t])):=zaa;generalize upd H2 p (.lst (ws++[.ref t]))=H3 at kt3 s3 e3;have hc3:=kt3 _ _ (s2 _ _ hc);refine⟨_,rfl,_,rfl,c,eAt b (ds.take i),ds[i],rfl,SqT.of hc3,zlk _ hb,λz hz=>h8 z (hz ▸ AZ _),λq H4 hq s4 e4=>?_⟩;refine⟨q,_,ws++[.ref t],rfl,s3.trans s4,?_,s4 _ _ e3,?_⟩
   .rw[tk,zhD];exact e4
   .rw[tk,zg2];exact hv.snoc (λx v h=>((h.kt (KT.of s2)).kt kt3).kt (KT.of s4)) ⟨t,c,rfl,s4 _ _ (kt3 _ _ e2),s4 _ _ hc3⟩
  .rintro σ H1 ⟨c,o4,ws,rfl,s1,hc,e1,hv⟩;rw[Ai,AS]at hv;exact⟨_,rfl,k p H1 ws hp s1 e1 hv⟩
noncomputable def zdI(K:W.Frag):Sp:=λvs H Q _=>∃(a b:Addr) (e:Edge) (row:List Nat),vs=[.ref a,.ref b]/\H a=some (.tup (edgeT e))/\e.w<4/\SqT K H b (rowV row)/\row.length<=500/\(∀s,some s∈deeds e.w row->s<8) /\
 ∀p H' ws,H p=none->Same H H'->H' p=some (.lst ws)->VR ws (wby e (deeds e.w row)) wR H'->Q (.ref p) H'
theorem ze4 (g_walk_by:Fn P w K mg base 3 "walk_by" ["begin","deeds"] (zhd K)) (g_deeds_along:Fn P w K mg base 2 "deeds_along" ["begin_way","row"] (ziR K)) (d:Df K mg "walk_along" zcd ["begin","row"]):FnOk P w K mg base CX0 4 d.f d.fd ["begin","row"] (zdI K):=by
 refine d.F.ok zeW (λvs H Q E h=>?_) (λcdv A outer s H vs Q E hr h=>?_)
 .obtain⟨a,b,e,row,rfl,_⟩:=h;rfl
 .obtain⟨a,b,e,row,rfl,ha,hw,hq,hlen,h8,k⟩:=h;refine⟨_,(zag (zal (pC g_walk_by hr (pa_N (pv 0) (zah (pC g_deeds_along hr (zah (pe_ix zcn (pv 0) zad (λ_ _=>rfl)) (pa_N (pv 1) zab))) zab))))),?_⟩;refine⟨_,rfl,_,rfl,a,_,_,_,rfl,rfl,SqT.of ha,zaT (j:=2) rfl,_,rfl,e.w,b,row,rfl,hw,hq,hlen,λp H1 hp s1 e1=>?_⟩
  have hd:(deeds e.w row).length<=3000:=by
   unfold deeds;have:=zd9 row e.w
   have:zaE e.w row<=4:=by
    unfold zaE;split
    .decide
    .exact Bg (A1 _ (by decide))
   simp only[Ak,BB];lia
  exact⟨a,p,e,_,rfl,s1 _ _ ha,hw,e1,h8,hd,λq H2 ws hq2 s2 e2 hv=>k q H2 ws (s1.free hq2) (s1.trans s2) e2 hv⟩
noncomputable def sR(q:Cell×Bool)(v:V)(H:Hp):Prop:=∃A b,v=.ref A/\H A=some (.tup [.ref b,.bl q.2])/\H b=some (.tup (cellT q.1))
theorem sR.kt{q:Cell×Bool}{v:V}{H H':Hp}(h:sR q v H)(s:KT H H'):sR q v H':=let ⟨A,b,e,q1,q2⟩:=h;⟨A,b,e,s _ _ q1,s _ _ q2⟩
theorem zl4{e:Edge}{o:Option Nat}(h:e.w<4):(edgeB e o).w<4:=by
 cases o with
 |none=>exact A1 _ (by decide)
 |some s =>
  show (if s % 2=1 then (⟨go e.c s,(e.w+3) % 4⟩:Edge) else ⟨go e.c s,e.w⟩).w<4
  by_cases q:s % 2=1
  .rw[if_pos q];exact A1 _ (by decide)
  .rw[if_neg q];exact h
noncomputable def seen0(e:Edge)(o:Option Nat):List (Cell×Bool):=[(e.c,true),(gap e,false),((edgeB e o).c,true),(gap (edgeB e o),false)]
noncomputable def seenL(e:Edge)(o:Option Nat):List (Cell×Bool):=(seen0 e o++if slant o=true then [] else [(go e.c ((2*e.w+7) % 8),false)])++if o=none then [(go e.c (2*e.w),false)] else []
theorem ziV(e:Edge)(o:Option Nat):(seenL e o).length<=6:=by unfold seenL seen0;split <;> split <;> simp
noncomputable def ziI(K:W.Frag):Sp:=λvs H Q _=>∃(a:Addr) (e:Edge) (o:Option Nat),vs=[.ref a,sv o]/\H a=some (.tup (edgeT e))/\e.w<4/\(∀s,o=some s->s<8) /\
 ∀p H' ss,H p=none->Same H H'->H' p=some (.lst ss)->VR ss (seenL e o) sR H'->Q (.ref p) H'
theorem zdw (g_edge_behind:Fn P w K mg base 2 "edge_behind" ["edge", "step"] (zeS K)) (g_gap_beside:Fn P w K mg base 2 "gap_beside" ["edge"] (spGap K)) (g_is_slant:Fn P w K mg base 1 "is_slant" ["step"] zcT)
  (g_gone:Fn P w K mg base 1 "gone" ["x","y","step"] zcU) (g_slant_step:Fn P w K mg base 1 "slant_step" ["way"] ziG) (g_straight_step:Fn P w K mg base 1 "straight_step" ["way"] zey)
  (d:Df K mg "seen_between" zbF ["edge","step"]):FnOk P w K mg base CX0 3 d.f d.fd ["edge","step"] (ziI K):=by
 refine d.F.ok zaO (λvs H Q E h=>?_) (λcdv A outer s H vs Q E hr h=>?_)
 .obtain⟨a,e,o,rfl,_⟩:=h;rfl
 .obtain⟨a,e,o,rfl,ha,hw,ho,k⟩:=h
  refine⟨_,(zac (za2 (pv 0) (za0 (by rfl) (zae (nG 2 zaO.nd) (zae (nG 3 zaO.nd) (zae (nG 4 zaO.nd) zaq)))))
   (zac (sE 5 zaO.nd (pC g_edge_behind hr (pa_N (pv 0) (pa_N (pv 1) zab))))
   (zac (sE 6 zaO.nd (zaI (pa_T (zan (pa_T (zan (pa_N (pv 2) (pa_N (pv 3) zab))) (pa_C pe_bl zab))) (pa_T (zan (zah (pC g_gap_beside hr (pa_N (pv 0) zab)) (pa_C pe_bl zab))) (pa_T (zan (zah (za6 ziU (pv 5) zbx (zbd zad)) (pa_C pe_bl zab))) (pa_T (zan (zah (pC g_gap_beside hr (pa_N (pv 5) zab)) (pa_C pe_bl zab))) zab))))))
   (zac (ps_if (zfM (zdQ (pC g_is_slant hr (pa_N (pv 1) zab))))
   (zag (zbc (pe_bm AL Ba Bb zaU (pv 6) (pa_T (zan (zah (pC g_gone hr (pa_N (pv 2) (pa_N (pv 3) (zah (pC g_slant_step hr (pa_N (pv 4) zab)) zab)))) (pa_C pe_bl zab))) zab))))
   zaF)
   (zac (ps_if (zay zjl (pv 1) zbL (zaz _))
   (zag (zbc (pe_bm AL Ba Bb zaU (pv 6) (pa_T (zan (zah (pC g_gone hr (pa_N (pv 2) (pa_N (pv 3) (zah (pC g_straight_step hr (pa_N (pv 4) zab)) zab)))) (pa_C pe_bl zab))) zab))))
   zaF)
   (zag (zal (pv 6)))))))),?_⟩
  have hN:(edgeB e o).w<4:=zl4 hw;refine⟨_,rfl,a,_,rfl,SqT.of ha,rfl,_,_,rfl,_,_,rfl,_,_,rfl,rfl,?_⟩;refine⟨_,rfl,_,rfl,a,e,o,rfl,SqT.of ha,hw,ho,λp1 H1 hp1 s1 e1=>?_⟩;change H1 p1=some (.tup (edgeT (edgeB e o))) at e1;refine⟨_,rfl,_,rfl,two,λt1 ht1=>⟨two,λt2 ht2=>?_⟩⟩;have s2:Same H1 (upd (upd H1 t1 (.tup [.int e.c.1,.int e.c.2])) t2 (.tup [.ref t1,.bl true])):=(Same.up ht1).trans (Same.up ht2);have r1:sR (e.c,true) (.ref t2) (upd (upd H1 t1 (.tup [.int e.c.1,.int e.c.2])) t2 (.tup [.ref t1,.bl true])):=⟨t2,t1,rfl,zaa,by rw[zai (λz=>by subst z;rw[zaa]at ht2;cases ht2),zaa];rfl⟩;generalize upd (upd H1 t1 (.tup [.int e.c.1,.int e.c.2])) t2 (.tup [.ref t1,.bl true])=H2 at s2 r1;refine⟨_,rfl,a,e,rfl,SqT.of ((s1.trans s2) _ _ ha),hw,λp3 H3 hp3 s3 e3=>⟨two,λt3 ht3=>?_⟩⟩;have s4:Same H3 (upd H3 t3 (.tup [.ref p3,.bl false])):=Same.up ht3;have r2:sR (gap e,false) (.ref t3) (upd H3 t3 (.tup [.ref p3,.bl false])):=⟨t3,p3,rfl,zaa,s4 _ _ e3⟩;generalize upd H3 t3 (.tup [.ref p3,.bl false])=H4 at s4 r2;have s14:=s2.trans (s3.trans s4);have e14:=s14 _ _ e1;have hs1:HT.sIx 3 3 (some 2)=2:=by decide
  refine⟨_,rfl,_,rfl,p1,_,rfl,SqT.of e14,λhx=>absurd (show (3:Nat)=2 from hx.2.symm.trans hs1) (by decide),λ_ t5 ht5=>⟨two,λt6 ht6=>?_⟩⟩;have ec:cutV (edgeT (edgeB e o)) none (some 2)=cellT (edgeB e o).c:=rfl;have s6:Same H4 (upd (upd H4 t5 (.tup (cutV (edgeT (edgeB e o)) none (some 2)))) t6 (.tup [.ref t5,.bl true])):=(Same.up ht5).trans (Same.up ht6);have r3:sR ((edgeB e o).c,true) (.ref t6) (upd (upd H4 t5 (.tup (cutV (edgeT (edgeB e o)) none (some 2)))) t6 (.tup [.ref t5,.bl true])):=⟨t6,t5,rfl,zaa,by rw[zai (λz=>by subst z;rw[zaa]at ht6;cases ht6),zaa,ec]⟩;generalize upd (upd H4 t5 (.tup (cutV (edgeT (edgeB e o)) none (some 2)))) t6 (.tup [.ref t5,.bl true])=H6 at s6 r3;refine⟨_,rfl,p1,edgeB e o,rfl,SqT.of (s6 _ _ e14),hN,λp7 H7 hp7 s7 e7=>⟨two,λt7 ht7=>?_⟩⟩;have s8:Same H7 (upd H7 t7 (.tup [.ref p7,.bl false])):=Same.up ht7;have r4:sR (gap (edgeB e o),false) (.ref t7) (upd H7 t7 (.tup [.ref p7,.bl false])):=⟨t7,p7,rfl,zaa,s8 _ _ e7⟩;generalize upd H7 t7 (.tup [.ref p7,.bl false])=H8 at s8 r4;refine⟨(by show 4<=sizeLine;decide),λl hl=>?_⟩;have s48:=s6.trans (s7.trans s8);have s28:=s3.trans (s4.trans s48);have s08:=s1.trans (s2.trans s28);have kl:KT H8 (upd H8 l (.lst [.ref t2,.ref t3,.ref t6,.ref t7])):=KT.up hl;have sl:Same H (upd H8 l (.lst [.ref t2,.ref t3,.ref t6,.ref t7])):=s08.trans (Same.up hl);have el:upd H8 l (.lst [.ref t2,.ref t3,.ref t6,.ref t7]) l=some (.lst [.ref t2,.ref t3,.ref t6,.ref t7]):=zaa;have hl0:H l=none:=s08.free hl
  have hv:VR [.ref t2,.ref t3,.ref t6,.ref t7] [(e.c,true),(gap e,false),((edgeB e o).c,true),(gap (edgeB e o),false)] sR (upd H8 l (.lst [.ref t2,.ref t3,.ref t6,.ref t7])) :=
   VR.cons.mpr ⟨(r1.kt (KT.of s28)).kt kl,VR.cons.mpr ⟨(r2.kt (KT.of s48)).kt kl,VR.cons.mpr ⟨(r3.kt (KT.of (s7.trans s8))).kt kl,VR.cons.mpr ⟨r4.kt kl,VR.nil⟩⟩⟩⟩
  generalize upd H8 l (.lst [.ref t2,.ref t3,.ref t6,.ref t7])=H9 at kl sl el hv;rcases o with _ |z
  rotate_left
  by_cases hz:slant (some z)=true
  .refine⟨_,rfl,some z,rfl,_,rfl,?_⟩;rw[hz];refine iteF ?_
   refine⟨_,rfl,rfl,_,rfl,iteF ?_⟩;refine⟨_,rfl,k l H9 _ hl0 sl el ?_⟩;unfold seenL;rw[if_pos hz,if_neg (λq=>nomatch q),AN,AN];exact hv
  .have hz:=Bool.eq_false_iff.mpr hz;refine⟨_,rfl,some z,rfl,_,rfl,?_⟩;rw[hz];refine iteT ?_
   refine⟨_,rfl,.inl ⟨rfl,_,SqL.of el⟩,_,rfl,_,rfl,_,rfl,e.w,rfl,hw,e.c,(2*e.w+7) % 8,rfl,A1 _ (by decide),λp10 H10 hp10 s10 e10=>⟨two,λt11 ht11=>?_⟩⟩;have s11:Same H10 (upd H10 t11 (.tup [.ref p10,.bl false])):=Same.up ht11;have r5:sR (go e.c ((2*e.w+7) % 8),false) (.ref t11) (upd H10 t11 (.tup [.ref p10,.bl false])):=⟨t11,p10,rfl,zaa,s11 _ _ e10⟩;generalize upd H10 t11 (.tup [.ref p10,.bl false])=H11 at s11 r5;have el11:=(s10.trans s11) _ _ el;refine⟨l,_,_,rfl,rfl,el11,zbk (by show 4<=5000;decide),?_⟩;have kt12:KT H11 (upd H11 l (.lst ([.ref t2,.ref t3,.ref t6,.ref t7]++[.ref t11]))):=KT.lst el11;have s12:Same H (upd H11 l (.lst ([.ref t2,.ref t3,.ref t6,.ref t7]++[.ref t11]))):=zar hl0 (sl.trans (s10.trans s11));have e12:upd H11 l (.lst ([.ref t2,.ref t3,.ref t6,.ref t7]++[.ref t11])) l=some (.lst ([.ref t2,.ref t3,.ref t6,.ref t7]++[.ref t11])):=zaa;have hv12:=hv.snoc (λx v h=>(h.kt (KT.of (s10.trans s11))).kt kt12) (r5.kt kt12);generalize upd H11 l (.lst ([.ref t2,.ref t3,.ref t6,.ref t7]++[.ref t11]))=H12 at kt12 s12 e12 hv12;refine⟨_,rfl,rfl,_,rfl,iteF ?_⟩;refine⟨_,rfl,k l H12 _ hl0 s12 e12 ?_⟩;unfold seenL;rw[if_neg (by rw[hz];decide),if_neg (λq=>nomatch q),AN];exact hv12
  .refine⟨_,rfl,none,rfl,_,rfl,iteT ?_⟩;refine⟨_,rfl,.inl ⟨rfl,_,SqL.of el⟩,_,rfl,_,rfl,_,rfl,e.w,rfl,hw,e.c,(2*e.w+7) % 8,rfl,A1 _ (by decide),λp10 H10 hp10 s10 e10=>⟨two,λt11 ht11=>?_⟩⟩;have s11:Same H10 (upd H10 t11 (.tup [.ref p10,.bl false])):=Same.up ht11;have r5:sR (go e.c ((2*e.w+7) % 8),false) (.ref t11) (upd H10 t11 (.tup [.ref p10,.bl false])):=⟨t11,p10,rfl,zaa,s11 _ _ e10⟩;generalize upd H10 t11 (.tup [.ref p10,.bl false])=H11 at s11 r5;have el11:=(s10.trans s11) _ _ el;refine⟨l,_,_,rfl,rfl,el11,zbk (by show 4<=5000;decide),?_⟩;have kt12:KT H11 (upd H11 l (.lst ([.ref t2,.ref t3,.ref t6,.ref t7]++[.ref t11]))):=KT.lst el11;have s12:Same H (upd H11 l (.lst ([.ref t2,.ref t3,.ref t6,.ref t7]++[.ref t11]))):=zar hl0 (sl.trans (s10.trans s11));have e12:upd H11 l (.lst ([.ref t2,.ref t3,.ref t6,.ref t7]++[.ref t11])) l=some (.lst ([.ref t2,.ref t3,.ref t6,.ref t7]++[.ref t11])):=zaa;have hv12:=hv.snoc (λx v h=>(h.kt (KT.of (s10.trans s11))).kt kt12) (r5.kt kt12);generalize upd H11 l (.lst ([.ref t2,.ref t3,.ref t6,.ref t7]++[.ref t11]))=H12 at kt12 s12 e12 hv12;refine⟨_,rfl,rfl,_,rfl,iteT ?_⟩;refine⟨_,rfl,.inl ⟨rfl,_,SqL.of e12⟩,_,rfl,_,rfl,_,rfl,e.w,rfl,hw,e.c,2*e.w,rfl,by lia,λp13 H13 hp13 s13 e13=>⟨two,λt14 ht14=>?_⟩⟩;have s14':Same H13 (upd H13 t14 (.tup [.ref p13,.bl false])):=Same.up ht14;have r6:sR (go e.c (2*e.w),false) (.ref t14) (upd H13 t14 (.tup [.ref p13,.bl false])):=⟨t14,p13,rfl,zaa,s14' _ _ e13⟩;generalize upd H13 t14 (.tup [.ref p13,.bl false])=H14 at s14' r6;have e14':=(s13.trans s14') _ _ e12;refine⟨l,_,_,rfl,rfl,e14',zbk (by show 5<=5000;decide),?_⟩;have kt15:KT H14 (upd H14 l (.lst (([.ref t2,.ref t3,.ref t6,.ref t7]++[.ref t11])++[.ref t14]))):=KT.lst e14';have s15:Same H (upd H14 l (.lst (([.ref t2,.ref t3,.ref t6,.ref t7]++[.ref t11])++[.ref t14]))):=zar hl0 (s12.trans (s13.trans s14'));have e15:upd H14 l (.lst (([.ref t2,.ref t3,.ref t6,.ref t7]++[.ref t11])++[.ref t14])) l=some (.lst (([.ref t2,.ref t3,.ref t6,.ref t7]++[.ref t11])++[.ref t14])):=zaa;have hv15:=hv12.snoc (λx v h=>(h.kt (KT.of (s13.trans s14'))).kt kt15) (r6.kt kt15);refine⟨_,rfl,k l _ _ hl0 s15 e15 ?_⟩;unfold seenL;rw[if_neg (by decide),if_pos rfl];exact hv15
noncomputable def obs(W:Wk):List (Cell×Bool):=W.flatMap λq=>seenL q.1 q.2
noncomputable def Con(L:List (Cell×Bool)):Prop:=∃c,(c,true)∈L/\(c,false)∈L
noncomputable def nSt(W:Wk):Nat:=(W.filterMap (·.2)).length
theorem zhn{W:Wk}{i:Nat}{q:Edge×Option Nat}(h:W[i]?=some q):obs (W.take (i+1))=obs (W.take i)++seenL q.1 q.2:=by rw[zaG h];unfold obs;rw[List.flatMap_append];simp
theorem zkA{W:Wk}{i:Nat}{q:Edge×Option Nat}(h:W[i]?=some q):nSt (W.take (i+1))=nSt (W.take i)+if q.2.isSome then 1 else 0:=by
 rw[zaG h];unfold nSt;rw[Du,Ak]
 cases hq:q.2 <;> simp[hq]
theorem Con.mono{L M:List (Cell×Bool)}(h:Con L)(s:∀q∈L,q∈M):Con M:=let ⟨c,a,b⟩:=h;⟨c,s _ a,s _ b⟩
noncomputable def Kn(kvs:List (List Key×V))(L:List (Cell×Bool)):Prop:=∀c v,valV kvs (kC c)=some v ↔ ∃b,v=.bl b/\(c,b)∈L
noncomputable def zdh(W:Wk):Prop:=∀q∈W,q.1.w<4/\∀s,q.2=some s->s<8
noncomputable def ziO(K:W.Frag):Sp:=λvs H Q _=>∃(a:Addr) (W:Wk),vs=[.ref a]/\LR K H a W wR/\zdh W/\W.length<=1000 /\
 (∀(i:Nat) H',i<W.length->Con (obs (W.take (i+1)))->¬ Con (obs (W.take i))->Same H H'->Q (.int ((nSt (W.take i):Nat):Int)) H')/\(∀H',¬ Con (obs W)->Same H H'->Q .non H')
theorem zdV (g_seen_between:Fn P w K mg base 3 "seen_between" ["edge","step"] (ziI K)) (d:Df K mg "gainsaid_at" zbQ ["walk"]):FnOk P w K mg base CX0 4 d.f d.fd ["walk"] (ziO K):=by
 refine d.F.ok zaB (λvs H Q E h=>?_) (λcdv A outer s H vs Q E hr h=>?_)
 .obtain⟨a,W,rfl,_⟩:=h;rfl
 .obtain⟨a,W,rfl,hLR,hok,hlen,kc,kn⟩:=h;have hu1:=hu_of hr
  refine⟨_,(zac (sE 1 zaB.nd zcW)
   (zac (sE 2 zaB.nd zad)
   (zac (zbr Bd rfl (za3 (pv 0)) (za0 (by rfl) (zae (nG 3 zaB.nd) (zae (nG 4 zaB.nd) zaq)))
   (zac (zbr Bd rfl (za3 (pC g_seen_between hr (pa_N (pv 3) (pa_N (pv 4) zab)))) (za0 (by rfl) (zae (nG 5 zaB.nd) (zae (nG 6 zaB.nd) zaq)))
   (zag (ps_if (zay op_ne (zks hu1 (pv 1) (pv 5) (pv 6) ⟨rfl,rfl,rfl,rfl⟩) (pv 6) (zaz _))
   (zag (zal (pv 2)))
   zaF)))
   (zag (ps_if (zay zdT (pv 4) zbL (zaz _))
   (zag (zmz (i:=2) zaB.nd (by rfl) (Or.inl rfl) zad zmS))
   zaF))))
   (zag (zal zbL))))),?_⟩
  obtain⟨ws,hq,hv⟩:=hLR.vr;have hwl:ws.length=W.length:=hv.1;refine λdd hdd=>?_
  have s0:Same H (upd H dd (.dT [])):=Same.up hdd;have d0:upd H dd (.dT []) dd=some (.dT []):=zaa;generalize upd H dd (.dT [])=H0 at s0 d0;refine⟨_,rfl,a,rfl,⟨_,s0.seq hq⟩,?_⟩
  refine zaK (K:=K) (a:=a) (xs:=ws) (λi σ H1=>∃(o3 o4 o5 o6:Option V) (kvs:List (List Key×V)),σ=[some (.ref a),some (.ref dd),some (.int ((nSt (W.take i):Nat):Int)),o3,o4,o5,o6]/\Same H H1/\H1 dd=some (.dT kvs)/\Kn kvs (obs (W.take i))/\¬ Con (obs (W.take i))/\kvs.length<=6*i)
   ⟨_,_,_,_,[],rfl,s0,d0,(λc v=>⟨(λh=>by cases h),(λ⟨_,_,h⟩=>by cases h)⟩),(λ⟨_,h,_⟩=>by cases h),Be _⟩ (λi σ H1 _ ⟨_,_,_,_,_,_,s1,_⟩=>s1.seq hq) ?_ ?_
  .rintro i v σ H1 hi ⟨o3,o4,o5,o6,kvs,rfl,s1,d1,hk,hnc,hkl⟩;obtain⟨⟨e,st⟩,he,B,b,rfl,q1,q2⟩:=hv.at hi;have hi':i<W.length:=by rw[<- hwl];exact (Ad.mp hi).1
   have hEe:=hok _ (Ag he);refine⟨B,_,rfl,SqT.of (s1 _ _ q1),rfl,_,_,rfl,_,_,rfl,rfl,?_⟩;refine⟨_,rfl,_,rfl,b,e,st,rfl,s1 _ _ q2,hEe.1,hEe.2,λp H2 ss hp s2 e2 hs2=>?_⟩;have hpd:p≠dd:=λz=>by subst z;rw[d1]at hp;cases hp
   have d2:=s2 _ _ d1;have hL6:=ziV e st;refine⟨p,rfl,⟨_,SqL.of e2⟩,?_⟩
   refine zaK (K:=K) (a:=p) (xs:=ss) (λj σ H3=>∃(o5 o6:Option V) (kv3:List (List Key×V)),σ=[some (.ref a),some (.ref dd),some (.int ((nSt (W.take i):Nat):Int)),some (.ref b),some (sv st),o5,o6]/\(∀z o,z≠dd->H2 z=some o->H3 z=some o)/\H3 dd=some (.dT kv3)/\Kn kv3 (obs (W.take i)++(seenL e st).take j)/\¬ Con (obs (W.take i)++(seenL e st).take j)/\kv3.length<=6*i+j)
    ⟨_,_,kvs,rfl,(λz o _ h=>h),d2,by rw[List.take_zero,AN];exact hk,by rw[List.take_zero,AN];exact hnc,by lia⟩ (λj σ H3 _ ⟨_,_,_,_,k3,_⟩=>SqL.of (k3 _ _ hpd e2)) ?_ ?_
   .rintro j u σ H3 hj ⟨o5,o6,kv3,rfl,k3,d3,hk3,hn3,hl3⟩;obtain⟨⟨c,t⟩,hq',A2,b2,rfl,r1,r2⟩:=hs2.at hj;have hjl:j<(seenL e st).length:=by rw[<- hs2.1];exact (Ad.mp hj).1
    have nA:A2≠dd:=ne_of r1 d2 (λz=>nomatch z);have nb:b2≠dd:=ne_of r2 d2 (λz=>nomatch z);have hsn:(seenL e st).take (j+1)=(seenL e st).take j++[(c,t)]:=zaG hq';have hob:obs (W.take (i+1))=obs (W.take i)++seenL e st:=zhn he;rw[hsn,<- Co];refine⟨A2,_,rfl,SqT.of (k3 _ _ nA r1),rfl,_,_,rfl,_,_,rfl,rfl,?_⟩;refine⟨_,rfl,dd,rfl,.inr ⟨_,Rd.of d3⟩,_,rfl,_,rfl,kv3,kC c,b2,d3,rfl,k3 _ _ nb r2,CH (show kv3.length<=7000 by lia) (by decide),λv hv'=>?_,λhn=>?_⟩
    .obtain⟨bb,rfl,hm⟩:=(hk3 c v).mp hv'
     by_cases hbt:bb=t
     .subst hbt;refine⟨_,rfl,rfl,_,rfl,iteN (by simp) ?_⟩
      have hm':∀q,q∈(obs (W.take i)++(seenL e st).take j)++[(c,bb)] ↔ q∈obs (W.take i)++(seenL e st).take j:=λq=>by rw[AA,An];exact⟨λh=>h.elim id λh=>h ▸ hm,.inl⟩
      exact⟨_,_,kv3,rfl,k3,d3,λc' v'=>by rw[hk3 c' v'];simp only[hm'],λhc=>hn3 (hc.mono λq=>(hm' q).mp),by lia⟩
     .refine⟨_,rfl,rfl,_,rfl,iteY (by simp[hbt]) ?_⟩;have s3:Same H H3:=λz o h=>k3 z o (zaj h hdd) (s2 _ _ (s1 _ _ h))
      refine⟨_,rfl,kc i H3 hi' ?_ hnc s3⟩;rw[hob]
      have m1:(c,bb)∈obs (W.take i)++seenL e st:=by
       rcases AA.mp hm with m |m
       .exact Bf _ m
       .exact Ap _ (CT m)
      have m2:(c,t)∈obs (W.take i)++seenL e st:=Ap _ (Ag hq')
      cases bb <;> cases t
      .exact absurd rfl hbt
      .exact⟨c,m2,m1⟩
      .exact⟨c,m1,m2⟩
      .exact absurd rfl hbt
    .refine⟨_,rfl,rfl,_,rfl,iteN (by simp) ?_⟩
     have hno:∀bb,(c,bb) ∉ obs (W.take i)++(seenL e st).take j:=λbb hm=>by
      rw[(hk3 c (.bl bb)).mpr ⟨bb,rfl,hm⟩]at hn
      cases hn
     refine⟨_,_,putK kv3 (kC c) (.bl t),rfl,(λz o hz h=>by rw[zai hz];exact k3 z o hz h),zaa,(λc' v'=>?_),(λ⟨c',h1,h2⟩=>?_),AM (zbf _ _ _) (by lia)⟩
     .rw[zg6]
      by_cases ec:c'=c
      .subst ec;rw[if_pos rfl];constructor
       .intro h;cases h;exact⟨t,rfl,Ap _ (by simp)⟩
       .rintro⟨bb,rfl,hm⟩;rcases AA.mp hm with m |m
        .exact absurd m (hno bb)
        .rw[An]at m;cases m;rfl
      .rw[if_neg (λz=>ec (zhx.mp z)),hk3 c' v'];constructor
       .rintro⟨bb,rfl,hm⟩;exact⟨bb,rfl,Bf _ hm⟩
       .rintro⟨bb,rfl,hm⟩;rcases AA.mp hm with m |m
        .exact⟨bb,rfl,m⟩
        .rw[An]at m;cases m;exact absurd rfl ec
     .rcases AA.mp h1 with m |m <;> rcases AA.mp h2 with m' |m'
      .exact hn3 ⟨c',m,m'⟩
      .rw[An]at m';cases m';exact hno _ m
      .rw[An]at m;cases m;exact hno _ m'
      .rw[An]at m m';cases m;cases m'
   .rintro σ H3 ⟨o5,o6,kv3,rfl,k3,d3,hk3,hn3,hl3⟩;have s3:Same H H3:=λz o h=>k3 z o (zaj h hdd) (s2 _ _ (s1 _ _ h))
    have hsl:=hs2.1;have hl4:kv3.length<=6*(i+1):=by lia
    have hob:obs (W.take (i+1))=obs (W.take i)++(seenL e st).take ss.length:=by rw[hsl,AS];exact zhn he
    rw[<- hob]at hk3 hn3;have hns:=zkA he
    cases st with
    |none =>
     refine⟨_,rfl,rfl,_,rfl,iteF ?_⟩;have hns':nSt (W.take (i+1))=nSt (W.take i):=hns;exact⟨_,_,_,_,kv3,by rw[hns'],s3,d3,hk3,hn3,hl4⟩
    |some z =>
     refine⟨_,rfl,rfl,_,rfl,iteT ?_⟩;refine⟨_,rfl,_,_,rfl,rfl,?_⟩;have hns':nSt (W.take (i+1))=nSt (W.take i)+1:=hns;exact⟨_,_,_,_,kv3,by rw[hns'];rfl,s3,d3,hk3,hn3,hl4⟩
  .rintro σ H1 ⟨o3,o4,o5,o6,kvs,rfl,s1,d1,hk,hnc,hkl⟩;rw[hwl,AS]at hnc;exact kn H1 hnc s1
theorem zhO{α:Type}{xs:List α}(h:0<xs.length):atI xs (-1)=xs[xs.length-1]?:=by unfold atI ixN;rw[if_neg (by decide),if_pos (by lia)];show xs[((-1:Int)+xs.length).toNat]?=_;rw[show ((-1:Int)+xs.length).toNat=xs.length-1 by lia]
theorem zls(s:Nat):wayB s<4:=A1 _ (by decide)
theorem zjU(w:Nat)(row:List Nat):(deeds w row).length<=4*row.length+4:=by
 unfold deeds zaE;rw[Ak,BB];have:=zd9 row w;split
 .lia
 .have:(w+4-(dgo w row).2) % 4<4:=A1 _ (by decide);lia
theorem zhG:∀(row:List Nat) (w s:Nat),some s∈(dgo w row).1->s∈row
 |[],_,_,h=>by cases h
 |t::r,w,s,h=>by
  have h:some s∈Ah ((zax t+4-w) % 4) none++some t::(dgo (wayB t) r).1:=h;rcases AA.mp h with m |m
  .have:=(List.mem_replicate.mp m).2;cases this
  .rcases At.mp m with m |m
   .cases m;exact .head _
   .exact .tail _ (zhG r _ s m)
theorem zeH{w s:Nat}{row:List Nat}(h:some s∈deeds w row):s∈row:=by
 unfold deeds at h;rcases AA.mp h with m |m
 .exact zhG row w s m
 .have:=(List.mem_replicate.mp m).2;cases this
theorem zcZ(w:Nat)(row:List Nat):0<(deeds w row).length:=by
 cases row with
 |nil=>show 0<(Ah 4 (none:Option Nat)).length;decide
 |cons s r =>
  unfold deeds;show 0<((Ah ((zax s+4-w) % 4) none++some s::(dgo (wayB s) r).1)++_).length;simp only[Ak,A7];lia
noncomputable def rw_(r:Rnd):Wk:=wby (begE r) (deeds (begE r).w r.row)
theorem zin:∀(l:List (Option Nat)){e:Edge},e.w<4->(∀s,some s∈l->s<8)->zdh (wby e l)
 |[],_,_,_=>λ_ h=>by cases h
 |d::l,e,he,hl=>λq h=>by
  rcases At.mp h with rfl |h
  .exact⟨he,λs hs=>hl s (by rw[<- hs];exact .head _)⟩
  .exact zin l (zhC he) (λs hs=>hl s (.tail _ hs)) q h
theorem zfp(r:Rnd):(begE r).w<4:=by show kOf r.so<4;unfold kOf;split <;> decide
theorem zg4:∀(l:List (Option Nat)) (e:Edge),0<l.length->∃d,(wby e l)[0]?=some (e,d)
 |[],_,h=>absurd h (by simp)
 |d::l,e,_=>⟨d,rfl⟩
theorem vint(a b:Int):decide (V.int a=V.int b)=decide (a=b):=decide_eq_decide.mpr ⟨V.int.inj,congrArg V.int⟩
noncomputable def moreL (s:Str):Int:=if s = "rim" then 4 else -4
noncomputable def Fine(r:Rnd):Prop:=(∀f l,(rw_ r)[0]?=some f->(rw_ r)[(rw_ r).length-1]?=some l->edgeB l.1 l.2=f.1)/\(nL (rw_ r):Int)-nS (rw_ r)=moreL r.so/\zb3 (rw_ r) r.so (begE r)
noncomputable def Due(r:Rnd)(n:Nat):Prop:=(∃i,i<(rw_ r).length/\Con (obs ((rw_ r).take (i+1)))/\¬ Con (obs ((rw_ r).take i))/\n=nSt ((rw_ r).take i))∨(¬ Con (obs (rw_ r))/\¬ Fine r/\n=r.row.length)
noncomputable def Good(r:Rnd):Prop:=¬ Con (obs (rw_ r))/\Fine r
noncomputable def zhe(K:W.Frag):Sp:=λvs H Q _=>∃(a:Addr) (W:Wk) (f l:Edge×Option Nat),vs=[.ref a]/\LR K H a W wR/\zdh W/\W[0]?=some f/\W[W.length-1]?=some l/\∀H',Same H H'->Q (.bl (decide (eI (edgeB l.1 l.2)=eI f.1))) H'
theorem zem (g_edge_behind:Fn P w K mg base 2 "edge_behind" ["edge","step"] (zeS K)) (d:Df K mg "comes_back" zcg ["walk"]):FnOk P w K mg base CX0 3 d.f d.fd ["walk"] (zhe K):=by
 refine d.F.ok zbP (λvs H Q E h=>?_) (λcdv A outer s H vs Q E hr h=>?_)
 .obtain⟨a,W,f,l,rfl,_⟩:=h;rfl
 .obtain⟨a,W,f,l,rfl,hLR,hok,hf,hl,k⟩:=h;have hu64:=hr.units
  refine⟨_,(zac (za2 (pe_ix zaP (pv 0) (pe_un zb9 zad) (λ_ _=>rfl)) (za0 (by rfl) (zae (nG 1 zbP.nd) (zae (nG 2 zbP.nd) zaq))))
   (zag (zal (zbW (zlf hu64) (pC g_edge_behind hr (pa_N (pv 1) (pa_N (pv 2) zab))) (pe_ix zcn (pe_ix zaP (pv 0) zad (λ_ _=>rfl)) zad (λ_ _=>rfl)) (zaz _))))),?_⟩
  obtain⟨ws,hq,hv⟩:=hLR.vr;have hwl:ws.length=W.length:=hv.1;have hp:0<W.length:=(Ad.mp hf).1;obtain⟨v1,hv1⟩:∃v,ws[ws.length-1]?=some v:=⟨_,Aa (by lia)⟩;obtain⟨⟨e1,st1⟩,he1,B1,b1,rfl,q1,q2⟩:=hv.at hv1;obtain⟨v0,hv0⟩:∃v,ws[0]?=some v:=⟨_,Aa (by lia)⟩;obtain⟨⟨e0,st0⟩,he0,B0,b0,rfl,r1,r2⟩:=hv.at hv0;rw[hwl,hl]at he1
  cases he1
  rw[hf]at he0
  cases he0
  have hEl:=hok _ (Ag hl);refine⟨_,rfl,_,rfl,a,ws,_,_,rfl,rfl,hq,(zhO (by lia)).trans hv1,?_⟩;refine⟨B1,_,rfl,SqT.of q1,rfl,_,_,rfl,_,_,rfl,rfl,?_⟩;refine⟨_,rfl,_,rfl,b1,e1,st1,rfl,SqT.of q2,hEl.1,hEl.2,λp H1 hp1 s1 f1=>?_⟩;refine⟨_,rfl,a,ws,_,_,rfl,rfl,s1.seq hq,(zaT (j:=0) hv0),B0,_,_,_,rfl,rfl,SqT.of (s1 _ _ r1),zaT (j:=0) rfl,?_⟩;refine⟨_,_,zda f1,zda (s1 _ _ r2),zbo _,zbo _,?_⟩;rw[zhB];exact k H1 s1
noncomputable def zdJ (K:W.Frag):Sp:=λvs H Q _=>∃(a:Addr) (W:Wk) (f l:Edge×Option Nat) (so:Str),vs=[.ref a,.str so]/\(so = "rim" ∨ so = "hole")/\LR K H a W wR/\zdh W/\W.length<=1000/\W[0]?=some f/\W[W.length-1]?=some l /\
 ∀H',Same H H'->Q (.bl (decide (eI (edgeB l.1 l.2)=eI f.1) && decide ((nL W:Int)-nS W=moreL so))) H'
theorem zfa (T:Txt P w K mg) (g_comes_back:Fn P w K mg base 3 "comes_back" ["walk"] (zhe K)) (g_lefts_less_slants:Fn P w K mg base 3 "lefts_less_slants" ["walk"] (zk2 K)) (d:Df K mg "is_closed" zcF ["walk","sort"]):FnOk P w K mg base CX0 4 d.f d.fd ["walk","sort"] (zdJ K):=by
 refine d.F.ok zfI (λvs H Q E h=>?_) (λcdv A outer s H vs Q E hr h=>?_)
 .obtain⟨a,W,f,l,so,rfl,_⟩:=h;rfl
 .obtain⟨a,W,f,l,so,rfl,hso,hLR,hok,hlen,hf,hl,k⟩:=h;refine⟨_,(zag (zal (zcz (pC g_comes_back hr (pa_N (pv 0) zab)) (zdl (zbW op_eq (pC g_lefts_less_slants hr (pa_N (pv 0) zab)) (zmB (by rfl) T.more (pv 1)) (zaz _)))))),?_⟩;refine⟨_,rfl,a,W,f,l,rfl,hLR,hok,hf,hl,λH1 s1=>⟨_,rfl,?_⟩⟩
  by_cases hc:eI (edgeB l.1 l.2)=eI f.1
  .rw[decide_eq_true hc]at k ⊢;refine iteT ?_
   refine⟨_,rfl,a,W,rfl,hLR.same s1 (λx v h=>h.same s1),hlen,λH2 s2=>⟨_,rfl,?_⟩⟩;have kk:=k H2 (s1.trans s2);rw[Bool.true_and]at kk;rcases hso with rfl |rfl
   .exact .inl ⟨rfl,rfl,by show Q _ H2;rw[vint];exact kk⟩
   .exact .inr ⟨rfl,rfl,by show Q _ H2;rw[vint];exact kk⟩
  .rw[decide_eq_false hc]at k ⊢;exact iteF (k H1 s1)
noncomputable def atO (n:Nat) (d:Addr):HO:=xdO d [("at",.int (n:Int))]
noncomputable def ziE (K:W.Frag) (cN:Addr):Sp:=λvs H Q E=>∃(v:V) (r:Rnd),vs=[v]/\rR r v H/\(r.so = "rim" ∨ r.so = "hole")/\r.row.length<=240/\(∀s∈r.row,s<8) /\
 (∀n d H',Due r n->Same H H'->H' d=none->E (.ref cN) (some d) (upd H' d (atO n d)))/\(∀p H' ws,Good r->H p=none->Same H H'->H' p=some (.lst ws)->VR ws (rw_ r) wR H'->Q (.ref p) H')
theorem zgG (T:Txt P w K mg){cN:Addr}(g_NoRound:ExA P w K mg base "NoRound" cN ["at"]) (g_begin_edge:Fn P w K mg base 1 "begin_edge" ["one"] zfE) (g_walk_along:Fn P w K mg base 4 "walk_along" ["begin", "row"] (zdI K)) (g_gainsaid_at:Fn P w K mg base 4 "gainsaid_at" ["walk"] (ziO K))
  (g_is_closed:Fn P w K mg base 4 "is_closed" ["walk","sort"] (zdJ K)) (g_begin_of:Fn P w K mg base 3 "begin_of" ["walk","sort"] (ziS K)) (d:Df K mg "walk_of" zdN ["one"]):FnOk P w K mg base (CX1 P w) 5 d.f d.fd ["one"] (ziE K cN):=by
 refine d.F.okX zbg (λvs H Q E h=>?_) (λcdv A outer s H vs Q E hr h=>?_)
 .obtain⟨v,r,rfl,_⟩:=h;rfl
 .obtain⟨v,r,rfl,hv,so2,hrl,hr8,kd,kg⟩:=h;have hu64:=hr.units
  refine⟨_,(zac (PS.nox (za2 (pv 0) (za0 (by rfl) (zae (nG 1 zbg.nd) (zae (nG 2 zbg.nd) (zae (nG 3 zbg.nd) (zae (nG 4 zbg.nd) zaq)))))))
   (zac (PS.nox (sE 5 zbg.nd (pC g_begin_edge hr (pa_N (pv 0) zab))))
   (zac (PS.nox (sE 6 zbg.nd (pC g_walk_along hr (pa_N (pv 5) (pa_N (pv 4) zab)))))
   (zac (PS.nox (sE 7 zbg.nd (pC g_gainsaid_at hr (pa_N (pv 6) zab))))
   (zac (ps_if (PT.nox (zay zdT (pv 7) zbL (zaz _))) (zag (zfN g_NoRound hr (pa_N (pv 7) zab))) zaF)
   (zac (ps_if (PT.nox (pw_or (zfM (zdQ (pC g_is_closed hr (pa_N (pv 6) (pa_N (pv 1) zab))))) (zhg (zay (zjk hu64) (pC g_begin_of hr (pa_N (pv 6) (pa_N (pv 1) zab))) (pv 5) (zaz _)))).pt) (zag (zfN g_NoRound hr (zah (zav zaL (by rfl) T.nlen (by rfl) (pa_N (pv 4) zab)) zab))) zaF)
   (zag (PS.nox (zal (pv 6)))))))))),?_⟩
  obtain⟨a,b,rfl,q1,q2⟩:=id hv;have hd8:∀z,some z∈deeds (begE r).w r.row->z<8:=λz hz=>hr8 z (zeH hz)
  have hlen:(rw_ r).length<=1000:=by have:=zjU (begE r).w r.row;unfold rw_;rw[zcr];lia
  have hpos:0<(rw_ r).length:=by unfold rw_;rw[zcr];exact zcZ _ _
  have hok:zdh (rw_ r):=zin _ (zfp r) hd8;obtain⟨f2,hf⟩:∃f2,(rw_ r)[0]?=some (begE r,f2):=zg4 _ _ (zcZ _ _);obtain⟨l,hl⟩:∃l,(rw_ r)[(rw_ r).length-1]?=some l:=⟨_,Aa (by lia)⟩;refine⟨_,rfl,a,_,rfl,SqT.of q1,rfl,_,_,rfl,_,_,rfl,_,_,rfl,_,_,rfl,rfl,?_⟩;refine⟨_,rfl,.ref a,r,rfl,hv,so2,λp1 H1 hp1 s1 e1=>?_⟩;refine⟨_,rfl,_,rfl,p1,b,begE r,r.row,rfl,e1,zfp r,SqT.of (s1 _ _ q2),by lia,hd8,λp H2 ws hp s2 e2 hw=>?_⟩;have lr:LR K H2 p (rw_ r) wR:=LR.of e2 hw;refine⟨_,rfl,p,rw_ r,rfl,lr,hok,hlen,λi H3 hi hc hn s3=>?_,λH3 hn s3=>?_⟩
  .refine⟨_,rfl,rfl,_,rfl,iteT ?_⟩;refine⟨_,rfl,rfl,λdx hdx=>kd _ dx H3 (.inl ⟨i,hi,hc,hn,rfl⟩) (s1.trans (s2.trans s3)) hdx⟩
  .refine⟨_,rfl,rfl,_,rfl,iteF ?_⟩;have lr3:=lr.same s3 (λx v h=>h.same s3);have rowT:∀H',Same H3 H'->SqT K H' b (rowV r.row):=λH' s=>SqT.of ((s1.trans (s2.trans (s3.trans s))) _ _ q2)
   refine⟨_,rfl,_,rfl,p,rw_ r,(begE r,f2),l,r.so,rfl,so2,lr3,hok,hlen,hf,hl,λH4 s4=>⟨_,rfl,?_⟩⟩;have lr4:=lr3.same s4 (λx v h=>h.same s4);have hrv:(rowV r.row).length=r.row.length:=Ai ..
   have kr:∀H',¬ Fine r->Same H3 H'->∀dx,H' dx=none->E (.ref cN) (some dx) (upd H' dx (atO (rowV r.row).length dx)):=λH' hnf s dx hdx=>by rw[hrv];exact kd _ dx H' (.inr ⟨hn,hnf,rfl⟩) (s1.trans (s2.trans (s3.trans s))) hdx
   cases hb:(decide (eI (edgeB l.1 l.2)=eI (begE r)) && decide ((nL (rw_ r):Int)-nS (rw_ r)=moreL r.so)) with
   |false =>
    refine iteT (iteT ?_);refine⟨_,rfl,b,_,rfl,.inr (rowT _ s4),rfl,λdx hdx=>kr H4 (λ⟨h1,h2,_⟩=>?_) s4 dx hdx⟩;have h1:=h1 _ _ hf hl;simp only at h1;rw[h1,decide_eq_true rfl,decide_eq_true h2]at hb
    cases hb
   |true =>
    refine iteF ?_
    refine⟨_,rfl,_,rfl,p,rw_ r,r.so,rfl,so2,lr4,hlen,⟨begE r,Aq.mpr ⟨_,Ag hf,rfl⟩,rfl⟩,λb5 e5 H5 s5 f5 ib=>?_⟩;have s25:=s3.trans (s4.trans s5);refine⟨_,rfl,_,_,zda f5,zda ((s2.trans s25) _ _ e1),zbo _,zbo _,_,rfl,?_⟩;rw[zhB]
    by_cases hee:e5=begE r
    .subst hee;refine iteN (by rw[decide_eq_true rfl];rfl) ?_
     refine⟨_,rfl,kg p H5 ws ⟨hn,?_⟩ (s1.free hp) (s1.trans (s2.trans s25)) (s25 _ _ e2) (hw.mono λx v h=>h.same s25)⟩;rw[Bw]at hb;refine⟨λf l' h1 h2=>?_,of_decide_eq_true hb.2,ib⟩;rw[hf]at h1;rw[hl]at h2
     cases h1
     cases h2
     exact zga.mp (of_decide_eq_true hb.1)
    .refine iteY (by rw[decide_eq_false (λz=>hee (zga.mp z))];rfl) ?_
     exact⟨_,rfl,b,_,rfl,.inr (rowT _ (s4.trans s5)),rfl,λdx hdx=>kr H5 (λ⟨_,_,h3⟩=>hee (ib.one (List.Perm.refl _) h3)) (s4.trans s5) dx hdx⟩
noncomputable def Form (r:Rnd):Prop:=(r.so = "rim" ∨ r.so = "hole")/\r.row.length<=240/\∀s∈r.row,s<8
noncomputable def zk6(cN:Addr):Sp:=λvs H Q E=>∃(v:V) (r:Rnd),vs=[v]/\rR r v H/\Form r /\
 (∀n d H',Due r n->Same H H'->H' d=none->E (.ref cN) (some d) (upd H' d (atO n d)))/\(∀H',Good r->Same H H'->Q (.bl true) H')
theorem zfe {cN:Addr}(g_walk_of:FnX P w K mg base 5 "walk_of" ["one"] (ziE K cN)) (d:Df K mg "ask_round" zcG ["one"]):FnOk P w K mg base (CX1 P w) 6 d.f d.fd ["one"] (zk6 cN):=by
 refine d.F.okX zfJ (λvs H Q E h=>?_) (λcdv A outer s H vs Q E hr h=>?_)
 .obtain⟨v,r,rfl,_⟩:=h;rfl
 .obtain⟨v,r,rfl,hx,⟨f1,f2,f3⟩,kd,kg⟩:=h
  refine⟨_,(zac (zbc (pCX g_walk_of hr (pass1 (λ_ _ _ h=>h)) (pa_N (pv 0) zab)))
   (zag (PS.nox (zal pe_bl)))),?_⟩
  exact⟨_,rfl,v,r,rfl,hx,f1,f2,f3,kd,λp H' ws hg _ s' _ _=>kg H' hg s'⟩
noncomputable def SoOkG (r:Rnd):Prop:=r.so = "rim" ∨ r.so = "hole"
noncomputable def spWh:Sp:=λvs H Q _=>∃n:Int,vs=[.int n]/\Q (.bl true) H
theorem zgM (T:Txt P w K mg) (d:Df K mg "is_whole" zc3 ["thing"]):FnOk P w K mg base CX0 1 d.f d.fd ["thing"] spWh:=by
 refine d.F.ok zgw (λvs H Q E h=>?_) (λcdv A outer s H vs Q E hr h=>?_)
 .obtain⟨n,rfl,_⟩:=h;rfl
 .obtain⟨n,rfl,k⟩:=h;refine⟨_,(zag (zal (zcz (zav zb0 (by rfl) T.nisinstance (by rfl) (pa_N (pv 0) (pa_N (zcL (v:=.ty "int") (by rfl) T.nint (by rfl) rfl) zab))) (zdl (zld (zav zb0 (by rfl) T.nisinstance (by rfl) (pa_N (pv 0) (pa_N (zcL (v:=.ty "bool") (by rfl) T.nbool (by rfl) rfl) zab)))))))),?_⟩;refine⟨_,rfl,.int n,"int",_,true,rfl,.int n,zbE _ _,_,rfl,iteT ?_⟩;exact⟨_,rfl,.int n,"bool",_,false,rfl,.int n,zf0 _,_,rfl,k⟩
noncomputable def ziN:Sp:=λvs H Q _=>∃(b:Addr) (row:List Nat),vs=[.ref b]/\H b=some (.tup (rowV row))/\row.length<=500/\(∀n∈row,n<8)/\∀H',Same H H'->Q (.bl true) H'
theorem zjn (T:Txt P w K mg) (g_is_whole:Fn P w K mg base 1 "is_whole" ["thing"] spWh) (d:Df K mg "is_row" zdz ["thing"]):FnOk P w K mg base CX0 2 d.f d.fd ["thing"] ziN:=by
 refine d.F.ok ziX (λvs H Q E h=>?_) (λcdv A outer s H vs Q E hr h=>?_)
 .obtain⟨b,row,rfl,_⟩:=h;rfl
 .obtain⟨b,row,rfl,q2,hlen,h8,k⟩:=h;have nb0:(["step"]:List Str).Nodup:=by decide +kernel
  refine⟨_,(zag (zal (zcz (zav zb0 (by rfl) T.nisinstance (by rfl) (pa_N (pv 0) (pa_N (zcL (v:=.ty "tuple") (by rfl) T.ntuple (by rfl) rfl) zab))) (zdl (zav (zj5 rfl) (by rfl) T.nall (by rfl) (zah (zbi (osc:=zaf zdz) (N:=zhQ) (N':=["step"]) (sel:=[none]) bO (zjb (pv 0)) (λ_ _ _ _ _=>(nG 0 nb0)) (λ_ _ _ _ _=>zgD) (λ_ _ _ _ _=>(zcz (pC g_is_whole hr (pa_N (pv 0) zab)) (zdl (zku op_le op_le zad (pv 0) zad))))) zab)))))),?_⟩;refine⟨_,rfl,.ref b,"tuple",_,true,rfl,.tup q2,zbE _ _,_,rfl,iteT ?_⟩;refine⟨_,rfl,b,rfl,⟨_,SqT.of q2⟩,λq hq=>?_⟩
  refine zgU (K:=K) (a:=b) (xs:=rowV row) (λj σ H9=>∃o,σ=[o]/\Same H H9/\H9 q=some (.lst ((Ah j true).map V.bl)))
   ⟨_,rfl,Same.up hq,zaa⟩ (λj σ H9 _ ⟨_,_,s9,_⟩=>SqT.of (s9 _ _ q2)) ?_ ?_
  .rintro j v σ H9 hj ⟨o,rfl,s9,e9⟩;unfold rowV at hj;have hjl:j<row.length:=by have:=(Ad.mp hj).1;rw[Ai]at this;exact this
   rw[Ax]at hj;obtain⟨n,hn,rfl⟩:=Bc.mp hj;have hn8:=h8 n (Ag hn);refine gN ?_
   refine⟨_,rfl,(n:Int),rfl,_,rfl,iteT ?_⟩;refine⟨_,rfl,_,_,rfl,rfl,_,rfl,iteY (decide_eq_true (by lia)) ?_⟩;refine⟨_,_,rfl,rfl,?_⟩;have h7:decide ((n:Int)<=7)=true:=decide_eq_true (by lia);refine⟨_,e9,small1000 (by simp;lia),_,rfl,zar hq s9,?_⟩;rw[zaa,List.replicate_succ',AJ];show some (HO.lst (_++[V.bl (decide ((n:Int)<=7))]))=_;rw[h7];rfl
  .rintro σ H9 ⟨o,rfl,s9,e9⟩;refine⟨q,Ah (rowV row).length true,rfl,SqL.of e9,?_⟩;rw[show (Ah (rowV row).length true).all id=true by simp];exact k H9 s9
noncomputable def zk4:Sp:=λvs H Q _=>∃(v:V) (r:Rnd),vs=[v]/\rR r v H/\SoOkG r/\r.row.length<=500/\(∀n∈r.row,n<8)/\∀H',Same H H'->Q (.bl true) H'
theorem zgO (T:Txt P w K mg) (g_is_whole:Fn P w K mg base 1 "is_whole" ["thing"] spWh) (g_is_row:Fn P w K mg base 2 "is_row" ["thing"] ziN) (d:Df K mg "has_form" zc7 ["thing"]):FnOk P w K mg base CX0 3 d.f d.fd ["thing"] zk4:=by
 refine d.F.ok zbu (λvs H Q E h=>?_) (λcdv A outer s H vs Q E hr h=>?_)
 .obtain⟨v,r,rfl,_⟩:=h;rfl
 .obtain⟨v,r,rfl,⟨a,b,rfl,q1,q2⟩,hso,hlen,h8,k⟩:=h
  refine⟨_,(zac (ps_if (pw_or (zfM (zdQ (zav zb0 (by rfl) T.nisinstance (by rfl) (pa_N (pv 0) (pa_N (zcL (v:=.ty "tuple") (by rfl) T.ntuple (by rfl) rfl) zab))))) (zhg (zay op_ne (zav zaL (by rfl) T.nlen (by rfl) (pa_N (pv 0) zab)) zad (zaz _)))).pt
   (zag (zal pe_bl))
   zaF)
   (zac (za2 (pv 0) (za0 (by rfl) (zae (nG 1 zbu.nd) (zae (nG 2 zbu.nd) (zae (nG 3 zbu.nd) (zae (nG 4 zbu.nd) zaq))))))
   (zag (zal (zcz (zav zb0 (by rfl) T.nisinstance (by rfl) (pa_N (pv 1) (pa_N (zcL (v:=.ty "str") (by rfl) T.nstr (by rfl) rfl) zab))) (zcz (zmD (zjh (by rfl) T.ways T.nsys (pv 1))) (zcz (pC g_is_whole hr (pa_N (pv 2) zab)) (zcz (pC g_is_whole hr (pa_N (pv 3) zab)) (zdl (pC g_is_row hr (pa_N (pv 4) zab))))))))))),?_⟩
  refine⟨_,rfl,.ref a,"tuple",_,true,rfl,.tup q1,zbE _ _,_,rfl,iteF ?_⟩;refine⟨_,rfl,a,_,rfl,.inr (SqT.of q1),?_⟩;refine⟨rfl,_,rfl,iteN rfl ?_⟩;refine⟨_,rfl,a,_,rfl,SqT.of q1,rfl,_,_,rfl,_,_,rfl,_,_,rfl,_,_,rfl,rfl,?_⟩;refine⟨_,rfl,_,_,_,_,rfl,.str _,zbE _ _,_,rfl,iteT ?_⟩;refine⟨_,rfl,(by rcases hso with z |z <;> rw[z] <;> simp),_,rfl,iteT ?_⟩;refine⟨_,rfl,r.x,rfl,_,rfl,iteT ?_⟩;refine⟨_,rfl,r.y,rfl,_,rfl,iteT ?_⟩;exact⟨_,rfl,b,r.row,rfl,q2,hlen,h8,k⟩
noncomputable def zk3:Sp:=λvs H Q _=>∃(v:V) (r:Rnd),vs=[v]/\rR r v H/\Form r/\(∀n H',Due r n->Same H H'->Q (.bl false) H')/\(∀H',Good r->Same H H'->Q (.bl true) H')
theorem zfT {cN:Addr}(m_NoRound:mg "NoRound" = some (.ref cN)) (hxx:W.exmOne K (.ref cN) (.ref cN)=some true) (g_has_form:Fn P w K mg base 3 "has_form" ["thing"] zk4) (g_ask_round:FnX P w K mg base 6 "ask_round" ["one"] (zk6 cN)) (d:Df K mg "is_round" zc5 ["thing"]):FnOk P w K mg base CX0 7 d.f d.fd ["thing"] zk3:=by
 refine d.F.ok zgy (λvs H Q E h=>?_) (λcdv A outer s H vs Q E hr h=>?_)
 .obtain⟨v,r,rfl,_⟩:=h;rfl
 .obtain⟨v,r,rfl,hx,hF,kd,kg⟩:=h
  let ex:XK:=λc o H'=>c=.ref cN/\∃n d H1,o=some d/\Due r n/\Same H H1/\H1 d=none/\H'=upd H1 d (atO n d)
  have hex:∀c d H,ex c d H->W.exmOne K c (.ref cN)=some true:=λc d H h=>by rw[h.1];exact hxx
  refine⟨_,(zac (ps_if (zfM (zdQ (pC g_has_form hr (pa_N (pv 0) zab))))
   (zag (zal pe_bl))
   zaF)
   (zag (zlJ (E:=ex) rfl rfl rfl (λpins=>(zag (zal (pCX g_ask_round hr (passT (λ_ _ _ h=>h)) (pa_N (pv 0) zab)))))
   (λa=>(zag (zal pe_bl))) (by rfl) m_NoRound hex))),?_⟩
  refine⟨_,rfl,v,r,rfl,hx,hF.1,by have:=hF.2.1;lia,hF.2.2,λH1 s1=>⟨_,rfl,iteF ?_⟩⟩;refine⟨⟨_,rfl,v,r,rfl,rR.kt hx (KT.of s1),hF,λn d H2 hd s2 hdx=>⟨rfl,n,d,H2,rfl,hd,s1.trans s2,hdx,rfl⟩,λH2 hg s2=>kg H2 hg (s1.trans s2)⟩,?_⟩;rintro c o H2 a σ' ⟨rfl,n,d,H3,rfl,hd,s3,hdx,rfl⟩ hn hσ;exact kd n _ hd ((s3.trans (Same.up hdx)).trans (Same.up hn))
end
theorem nL_wk(C:Cell->Bool)(es:List Edge):nL (wk C es)=(es.filter λe=>(stepB C e).isNone).length:=by unfold nL wk;rw[List.filter_map,Ai];rfl
theorem nS_wk(C:Cell->Bool)(es:List Edge):nS (wk C es)=(es.filter λe=>slant (stepB C e)).length:=by unfold nS wk;rw[List.filter_map,Ai];rfl
theorem zis{C:Cell->Bool}{b:Edge}{es:List Edge}(h:Closed C b es):(nL (wk C es):Int)-nS (wk C es)=4∨(nL (wk C es):Int)-nS (wk C es)=-4:=by rw[nL_wk,nS_wk,<- zdy];exact h.turning
theorem IsRnd.walk{C:Cell -> Bool}{b:Edge}{es:List Edge}{r:Rnd}(h:Closed C b es)(k:IsRnd (wk C es) r) :
  ∃es',Closed C (begE r) es'/\es'.Perm es/\r.row=(es'.map (stepB C)).filterMap id/\zb3 (wk C es') r.so (begE r)/\r.so=sortS (wk C es')/\IsRnd (wk C es') r:=by
 obtain⟨r0,j,f,rf,⟨rb,rw',rl⟩,rx,ry,rr⟩:=id k;rw[zb4]at rf rb rl
 have ef:begE r=f:=by obtain⟨⟨x,y⟩,w⟩:=f;unfold begE;rw[rx,ry,r0];simp only at rw' ⊢;rw[rw']
 have h1:=h.rot j rf;have pm:=zeZ es j;have ss:=zez (C:=C) pm
 have hrow:r.row=((es.drop j++es.take j).map (stepB C)).filterMap id:=by rw[rr];unfold wk;rw[<- CC,<- CF,<- AJ,Br,Br];rfl
 have hb:zb3 (wk C (es.drop j++es.take j)) r.so f:=⟨by rw[zb4];exact pm.mem_iff.mpr rb,by rw[rw',r0],λg hg hw=>by rw[zb4]at hg;exact rl g (pm.mem_iff.mp hg) (by rw[hw,r0])⟩
 rw[ef];refine⟨_,h1,pm,hrow,hb,by rw[r0,ss],by rw[r0,ss],0,f,by rw[zb4];exact h1.1.1,by rw[ss,<- r0];exact hb,rx,ry,?_⟩;rw[hrow,List.drop_zero,List.take_zero,AN];unfold wk;rw[Br,Br];rfl
noncomputable def rowI(row:List Nat):List Int:=row.map λn:Nat=>(n:Int)
noncomputable def dR(r:Rnd):PyData:=.tuple [.str r.so,.int r.x,.int r.y,tI (rowI r.row)]
theorem zmw(row:List Nat):rowV row=(rowI row).map V.int:=by unfold rowV rowI;rw[DH];rfl
theorem zkk{a b:List Nat}(h:rowI a=rowI b):a=b:=by unfold rowI at h;exact List.map_inj_right (f:=λn:Nat=>(n:Int)) (λx y e=>by lia) |>.mp h
theorem ze1{K:W.Frag}{H:Hp}{r:Rnd}{v:V}(h:rR r v H):RD K H v (dR r):=by obtain⟨a,b,rfl,q1,q2⟩:=h;refine .tup (SqT.of q1) (.cons (.str _) (.cons (.int _) (.cons (.int _) (.cons (.tup (SqT.of q2) ?_) .nil))));rw[zmw];exact RDs.ints _
theorem zjQ(r q:Rnd):C9 (dR r) (dR q)=decide (r=q):=by
 show ((r.so == q.so) && ((r.x == q.x) && ((r.y == q.y) && (C9 (tI (rowI r.row)) (tI (rowI q.row)) && true))))=_;rw[zhB,Bool.and_true];obtain⟨a,b,c,d⟩:=r;obtain⟨a',b',c',d'⟩:=q;simp only
 by_cases h1:a=a'
 .by_cases h2:b=b'
  .by_cases h3:c=c'
   .by_cases h4:d=d'
    .subst h1 h2 h3 h4;simp
    .have:¬ rowI d=rowI d':=λz=>h4 (zkk z)
     simp[h4,this]
   .simp[h3]
  .simp[h2]
 .have:(a == a')=false:=by rw[beq_eq_false_iff_ne];exact h1
  rw[this];simp[h1]
noncomputable abbrev SoOk (r:Rnd):Prop:=r.so = "rim" ∨ r.so = "hole"
theorem zgf{r:Rnd}(h:SoOk r):C5 (dR r)=true:=by have:=zbo (rowI r.row);unfold Bt at this;rw[Bw]at this;show (PyData.strOk r.so && (true && (true && (C5 (tI (rowI r.row)) && true))))=true;rw[this.1];rcases h with h |h <;> rw[h] <;> decide +kernel
theorem zhI(ns:List Int):Cg (tI ns)=1:=by unfold tI;rw[Cg,zbY]
theorem zhJ(r:Rnd):Cg (dR r)=2:=by show Cg (.tuple [.str r.so,.int r.x,.int r.y,tI (rowI r.row)])=2;rw[Cg];show max 0 (max 0 (max 0 (max (Cg (tI (rowI r.row))) 0)))+1=2;rw[zhI];rfl
theorem zcV{r:Rnd}(h:SoOk r):Bt (dR r)=true:=by unfold Bt;rw[zgf h,zhJ];rfl
noncomputable def lR(R:List Rnd):PyData:=.list (R.map dR)
theorem zf9:∀R S:List Rnd,PyData.eqvAll (R.map dR) (S.map dR)=decide (R=S)
 |[],[]=>rfl
 |[],_::_=>rfl
 |_::_,[]=>rfl
 |r::R,q::S=>by
  show (C9 (dR r) (dR q) && PyData.eqvAll (R.map dR) (S.map dR))=_;rw[zf9 R S,zjQ]
  by_cases e:r=q
  .subst e;by_cases e2:R=S <;> simp[e2]
  .simp[e]
theorem zmV(R S:List Rnd):C9 (lR R) (lR S)=decide (R=S):=zf9 R S
theorem zdq:∀R:List Rnd,(∀r∈R,SoOk r)->B3 (R.map dR)=true
 |[],_=>rfl
 |r::R,h=>by show (C5 (dR r) && B3 (R.map dR))=true;rw[zgf (h r Az),zdq R λq hq=>h q (Ar _ hq)];rfl
theorem zeb:∀R:List Rnd,Di (R.map dR)<=2
 |[]=>Be _
 |r::R=>by show max (Cg (dR r)) (Di (R.map dR))<=2;rw[zhJ];have:=zeb R;lia
theorem zfH{R:List Rnd}(h:∀r∈R,SoOk r):Bt (lR R)=true:=by unfold Bt lR;rw[C5,zdq R h,Cg];have:=zeb R;simp only[Bool.true_and,decide_eq_true_eq];lia
theorem zct{K:W.Frag}{H:Hp}:∀{vs:List V}{R:List Rnd},VR vs R rR H->RDs K H vs (R.map dR)
 |[],[],_=>.nil
 |[],_::_,h=>by have:=h.1;cases this
 |_::_,[],h=>by have:=h.1;cases this
 |v::vs,r::R,h=>by
  obtain⟨h1,h2⟩:=VR.cons.mp h;exact .cons (ze1 h1) (zct h2)
theorem zfL{K:W.Frag}{H:Hp}{a:Addr}{vs:List V}{R:List Rnd}(e:SqL K H a vs)(h:VR vs R rR H):RD K H (.ref a) (lR R):=.lst e (zct h)
theorem Whole.so{cs:List Cell}{R:List Rnd}(h:Whole cs R):∀r∈R,SoOk r:=λr hr=>let ⟨_,hP,_⟩:=h;hP.so hr
structure Can (C:Cell->Bool) (es:List Edge) (r:Rnd):Prop where
 cl:Closed C (begE r) es
 row:r.row=(es.map (stepB C)).filterMap id
 bg:zb3 (wk C es) r.so (begE r)
 so:r.so=sortS (wk C es)
inductive Al {α β:Type} (P:α->β->Prop):List α->List β->Prop where
 |nil:Al P [] []
 |cons {a:α} {b:β} {l:List α} {m:List β}:P a b->Al P l m->Al P (a::l) (b::m)
theorem Al.of{α β:Type}{P:α->β->Prop}:∀{l:List α}{m:List β},l.length=m.length->(∀(i:Nat) a b,m[i]?=some b->l[i]?=some a->P a b)->Al P l m
 |[],[],_,_=>.nil
 |[],_::_,h,_=>by cases h
 |_::_,[],h,_=>by cases h
 |a::l,b::m,h,q=>.cons (q 0 a b rfl rfl) (Al.of (by simpa using h) λi x y h1 h2=>q (i+1) x y (by simpa using h1) (by simpa using h2))
theorem Al.length{α β:Type}{P:α->β->Prop}{l:List α}{m:List β}(h:Al P l m):l.length=m.length:=by
 induction h with
 |nil=>rfl
 |cons _ _ ih=>simp[ih]
theorem Al.at{α β:Type}{P:α->β->Prop}{l:List α}{m:List β}(h:Al P l m):∀{i:Nat}{a:α}{b:β},m[i]?=some b->l[i]?=some a->P a b:=by
 induction h with
 |nil=>intro i a b h1;simp at h1
 |cons p _ ih =>
  intro i a b h1 h2
  cases i with
  |zero=>simp at h1 h2;subst h1 h2;exact p
  |succ i=>exact ih (by simpa using h1) (by simpa using h2)
theorem Al.perm{α β:Type}{P:α->β->Prop}{l' l:List α}(p:l'.Perm l):∀{m:List β},Al P l m->∃m',m'.Perm m/\Al P l' m':=by
 induction p with
 |nil=>intro m h;exact⟨m,.refl _,h⟩
 |cons a _ ih =>
  intro m h
  cases h with
  |cons p t =>
   obtain⟨m',q,r⟩:=ih t;exact⟨_::m',q.cons _,.cons p r⟩
 |swap a b l =>
  intro m h
  cases h with
  |cons p t =>
   cases t with
   |cons p2 t2=>exact⟨_::_::_,.swap _ _ _,.cons p2 (.cons p t2)⟩
 |trans _ _ ih1 ih2 =>
  intro m h;obtain⟨m1,q1,r1⟩:=ih2 h;obtain⟨m2,q2,r2⟩:=ih1 r1;exact⟨m2,q2.trans q1,r2⟩
theorem Al.bind{α γ:Type}{P Q:α->List γ->Prop}(f:∀a b,P a b->∃c,Q a c/\c.Perm b){l:List α}{m:List (List γ)}(h:Al P l m):∃m',Al Q l m'/\m'.flatten.Perm m.flatten:=by
 induction h with
 |nil=>exact⟨[],.nil,.refl _⟩
 |cons p _ ih =>
  obtain⟨c,q1,q2⟩:=f _ _ p;obtain⟨m',r1,r2⟩:=ih;exact⟨c::m',.cons q1 r1,by rw[By,By];exact q2.append r2⟩
theorem zf8{γ:Type}{a b:List (List γ)}(p:a.Perm b):a.flatten.Perm b.flatten:=by
 induction p with
 |nil=>exact .refl _
 |cons x _ ih=>rw[By,By];exact ih.append_left _
 |swap x y l =>
  simp only[By];rw[<- Co,<- Co];exact List.perm_append_comm.append_right _
 |trans _ _ i1 i2=>exact i1.trans i2
structure Cans (C:Cell->Bool) (ESS:List (List Edge)) (R:List Rnd):Prop where
 al:Al (λr es=>Can C es r) R ESS
 nd:ESS.flatten.Nodup
 all:∀e,e∈ESS.flatten ↔ IsE C e
theorem Whole.cans{cs:List Cell}{R R0:List Rnd}(p:R.Perm R0)(h:Whole cs R0):∃ESS,Cans (isIn cs) ESS R:=by
 obtain⟨E,h1,h2⟩:=h;have a1:Al (λr es=>(∃b,Closed (isIn cs) b es)/\IsRnd (wk (isIn cs) es) r) R0 E:=Al.of h1.len λi r es e1 e2=>h1.each i es r e1 e2
 obtain⟨F,q1,a2⟩:=a1.perm p
 obtain⟨G,a3,q2⟩:=Al.bind (Q:=λr es=>Can (isIn cs) es r) (λr es ⟨⟨b,hb⟩,hr⟩=>by obtain⟨es',k1,k2,k3,k4,k5,_⟩:=IsRnd.walk hb hr;exact⟨es',⟨k1,k3,k4,k5⟩,k2⟩) a2
 have pm:=q2.trans (zf8 q1);exact⟨G,a3,pm.nodup_iff.mpr h1.nd,λe=>by rw[pm.mem_iff];exact h2 e⟩
theorem Cans.so{C:Cell->Bool}{ESS:List (List Edge)}{R:List Rnd}(h:Cans C ESS R){i:Nat}{r:Rnd}(hr:R[i]?=some r):∃es,ESS[i]?=some es/\Can C es r:=by have hi:=(Ad.mp hr).1;rw[h.al.length]at hi;exact⟨_,Aa hi,h.al.at (Aa hi) hr⟩
noncomputable def zas(c:Cell):List Nat->List Cell
 |[]=>[c]
 |s::ss=>c::zas (go c s) ss
noncomputable def endC(c:Cell)(l:List Nat):Cell:=l.foldl go c
theorem zew:∀(l:List Nat) (c:Cell) (s:Nat),zas c (l++[s])=zas c l++[go (endC c l) s]
 |[],c,s=>rfl
 |x::l,c,s=>by
  show c::zas (go c x) (l++[s])=(c::zas (go c x) l)++[go (endC (go c x) l) s];rw[zew l (go c x) s];rfl
theorem zbB:∀(l:List Nat) (c:Cell),(zas c l).length=l.length+1
 |[],_=>rfl
 |x::l,c=>by show (zas (go c x) l).length+1=_;rw[zbB l];rfl
theorem zdB{C:Cell->Bool}{e:Edge}(h:stepB C e=none):(nxt C e).c=e.c:=by unfold nxt;rw[h];rfl
theorem zdA{C:Cell->Bool}{e:Edge}{s:Nat}(h:stepB C e=some s):(nxt C e).c=go e.c s:=by unfold nxt;rw[h];show (if s % 2=1 then (⟨go e.c s,(e.w+3) % 4⟩:Edge) else ⟨go e.c s,e.w⟩).c=go e.c s;split <;> rfl
inductive Lnk (C:Cell->Bool):Edge->List Edge->Prop where
 |one (e:Edge):Lnk C e []
 |more {e:Edge} {es:List Edge}:Lnk C (nxt C e) es->Lnk C e (nxt C e::es)
theorem ziD{C:Cell->Bool}{e:Edge}{es:List Edge}(h:Lnk C e es)(c:Cell):c∈zas e.c ((e::es).filterMap (stepB C)) ↔ (∃f∈e::es,f.c=c)∨c=(nxt C ((e::es).getLast (by simp))).c:=by
 induction h with
 |one e =>
  cases hs:stepB C e with
  |none =>
   rw[List.filterMap_cons_none hs];simp only[List.filterMap_nil,zas,An,List.getLast_singleton,zdB hs];constructor
   .rintro rfl;exact .inl ⟨e,by simp,rfl⟩
   .rintro (⟨f,hf,rfl⟩ |rfl)
    .rw[hf]
    .rfl
  |some s =>
   rw[List.filterMap_cons_some hs];simp only[List.filterMap_nil,zas,At,DG,or_false,List.getLast_singleton,zdA hs];constructor
   .rintro (rfl |rfl)
    .exact .inl ⟨e,rfl,rfl⟩
    .exact .inr rfl
   .rintro (⟨f,rfl,rfl⟩ |rfl)
    .exact .inl rfl
    .exact .inr rfl
 |@more e es h ih =>
  rw[List.getLast_cons (by simp)]
  cases hs:stepB C e with
  |none =>
   rw[List.filterMap_cons_none hs];have e1:=zdB hs;rw[e1]at ih;rw[ih];constructor
   .rintro (⟨f,hf,rfl⟩ |z)
    .exact .inl ⟨f,Ar _ hf,rfl⟩
    .exact .inr z
   .rintro (⟨f,hf,rfl⟩ |z)
    .rcases At.mp hf with rfl |hf
     .exact .inl ⟨nxt C f,Az,e1⟩
     .exact .inl ⟨f,hf,rfl⟩
    .exact .inr z
  |some s =>
   rw[List.filterMap_cons_some hs];have e1:=zdA hs;rw[e1]at ih;show c∈e.c::zas (go e.c s) _ ↔ _;rw[At,ih];constructor
   .rintro (rfl |⟨f,hf,rfl⟩ |z)
    .exact .inl ⟨e,Az,rfl⟩
    .exact .inl ⟨f,Ar _ hf,rfl⟩
    .exact .inr z
   .rintro (⟨f,hf,rfl⟩ |z)
    .rcases At.mp hf with rfl |hf
     .exact .inl rfl
     .exact .inr (.inl ⟨f,hf,rfl⟩)
    .exact .inr (.inr z)
theorem zjz{C:Cell->Bool}:∀(es:List Edge) (e:Edge),(∀(i:Nat) f g,(e::es)[i]?=some f->(e::es)[i+1]?=some g->g=nxt C f)->Lnk C e es
 |[],e,_=>.one e
 |f::es,e,h=>by
  obtain rfl:f=nxt C e:=h 0 e f rfl rfl;exact .more (zjz es _ λi a b h1 h2=>h (i+1) a b (by simpa using h1) (by simpa using h2))
theorem Can.spots{C:Cell->Bool}{es:List Edge}{r:Rnd}(h:Can C es r)(c:Cell):c∈zas (r.x,r.y) r.row ↔ c∈es.map (·.c):=by
 obtain⟨⟨h0,h1,_,_⟩,l,hl,hn⟩:=h.cl
 cases es with
 |nil=>simp at h0
 |cons e es =>
  have eb:e=begE r:=by simpa using h0
  have er:r.row=(e::es).filterMap (stepB C):=by rw[h.row,Br];rfl
  have ec:(r.x,r.y)=e.c:=by rw[eb];rfl
  have lst:(e::es).getLast (by simp)=l:=by rw[List.getLast_eq_getElem];have:=(Ad.mp hl);exact this.2
  rw[er,ec,ziD (zjz es e h1),lst,hn,List.mem_map];constructor
  .rintro (⟨f,hf,rfl⟩ |z)
   .exact⟨f,hf,rfl⟩
   .exact⟨e,Az,by rw[z,eb]⟩
  .rintro⟨f,hf,rfl⟩;exact .inl ⟨f,hf,rfl⟩
structure Box where
 (a b c d:Int)
theorem VR.app{α:Type}{vs ws:List V}{l m:List α}{R:α->V->Hp->Prop}{H:Hp}(h:VR vs l R H)(k:VR ws m R H):VR (vs++ws) (l++m) R H:=by
 refine⟨by rw[Ak,Ak,h.1,k.1],λi x v h1 h2=>?_⟩
 by_cases hi:i<l.length
 .rw[AG hi]at h1;rw[AG (by rw[h.1];exact hi)]at h2;exact h.2 i x v h1 h2
 .rw[A0 (by lia)]at h1;rw[A0 (by rw[h.1];lia),h.1]at h2;exact k.2 _ x v h1 h2
noncomputable abbrev Bfr(a b:Cell):Prop:=HT.lexLt [a.2,a.1] [b.2,b.1]=true
noncomputable def lT(l:List (List Int)):PyData:=.list (l.map tI)
theorem zdp:∀l:List (List Int),B3 (l.map tI)=true
 |[]=>rfl
 |x::l=>by
  have:=zbo x;unfold Bt at this;rw[Bw]at this;show (C5 (tI x) && B3 (l.map tI))=true;rw[this.1,zdp l];rfl
theorem zea:∀l:List (List Int),Di (l.map tI)<=1
 |[]=>Be _
 |x::l=>by show max (Cg (tI x)) (Di (l.map tI))<=1;rw[zhI];have:=zea l;lia
theorem zfG(l:List (List Int)):Bt (lT l)=true:=by unfold Bt lT;rw[C5,zdp l,Cg];have:=zea l;simp only[Bool.true_and,decide_eq_true_eq];lia
noncomputable def cI(c:Cell):List Int:=[c.1,c.2]
theorem zfK{K:W.Frag}{H:Hp}:∀{vs:List V}{cs:List Cell},VR vs cs cR H->RDs K H vs ((cs.map cI).map tI)
 |[],[],_=>.nil
 |[],_::_,h=>by have:=h.1;cases this
 |_::_,[],h=>by have:=h.1;cases this
 |v::vs,r::R,h=>by
  obtain⟨⟨b,rfl,q⟩,h2⟩:=VR.cons.mp h;exact .cons (.tup (SqT.of q) (RDs.ints (cI r))) (zfK h2)
theorem zkm{K:W.Frag}{H:Hp}{a:Addr}{vs:List V}{cs:List Cell}(e:SqL K H a vs)(h:VR vs cs cR H):RD K H (.ref a) (lT (cs.map cI)):=.lst e (zfK h)
end RR
namespace RP
variable {C:Cell->Bool}{b:Edge}
theorem zjG(i:Nat):∀j,it C b (i+j)=it C (it C b i) j
 | 0=>rfl
 |j+1=>by show nxt C (it C b (i+j))=nxt C (it C (it C b i) j);rw[zjG i j]
theorem zli(hE:IsE C b){i j:Nat}:∀k,it C b (i+k)=it C b (j+k)->it C b i=it C b j
 | 0,h=>h
 |k+1,h=>zli hE k (zdb (it_ok hE _) (it_ok hE _) h)
theorem zkD{P:Nat->Prop}:∀n,P n->∃m,P m/\m<=n/\∀k,k<m->¬ P k:=λn=>by
 induction n using Nat.strongRecOn with
 |_ n ih =>
  intro h
  by_cases z:∃k,k<n/\P k
  .obtain⟨k,hk,pk⟩:=z;obtain⟨m,h1,h2,h3⟩:=ih k hk pk;exact⟨m,h1,by lia,h3⟩
  .exact⟨n,h,Aj _,λk hk pk=>z ⟨k,hk,pk⟩⟩
noncomputable def sI(C:Cell->Bool)(b:Edge):Nat->Int
 | 0=>0
 |k+1=>sI C b k+tt C (it C b k)
theorem zi0:∀n,(((AO n).map (it C b)).map (tt C)).sum=sI C b n
 | 0=>rfl
 |n+1=>by
  rw[List.range_succ,AJ,AJ,Dl,zi0 n];show sI C b n+(tt C (it C b n)+0)=sI C b n+tt C (it C b n);lia
theorem zk9{p:Nat}(hp:it C b p=b):∀x,sI C b (p+x)=sI C b p+sI C b x
 | 0=>by show sI C b p=sI C b p+0;lia
 |x+1=>by
  have:=zk9 hp x;show sI C b (p+x)+tt C (it C b (p+x))=sI C b p+(sI C b x+tt C (it C b x));rw[zjG,hp];lia
theorem zlh{p:Nat}(hp:it C b p=b)(r:Nat):∀q,it C b (q*p+r)=it C b r
 | 0=>by rw[Nat.zero_mul,Db]
 |q+1=>by rw[show (q+1)*p+r=p+(q*p+r) by rw[Nat.succ_mul];lia,zjG,hp];exact zlh hp r q
theorem zk8{p:Nat}(hp:it C b p=b):∀q:Nat,sI C b (q*p)=q*sI C b p
 | 0=>by rw[Nat.zero_mul];show (0:Int)=((0:Nat):Int)*_;simp
 |q+1=>by
  rw[show (q+1)*p=p+q*p by rw[Nat.succ_mul];lia,zk9 hp,zk8 hp q,Int.natCast_add,Int.add_mul];show sI C b p+(q:Int)*sI C b p=(q:Int)*sI C b p+1*sI C b p;lia
theorem zj0(hE:IsE C b){n:Nat}(hn:0<n)(hb:it C b n=b)(hs:sI C b n=4∨sI C b n=-4):Closed C b ((AO n).map (it C b)):=by
 have key:∀p,0<p->it C b p=b->(∀k,k<p->¬ (0<k/\it C b k=b))->Closed C b ((AO p).map (it C b)):=λp hp hpb hl=>by
  refine⟨⟨?_,λi e f h1 h2=>?_,λe he=>?_,?_⟩,?_⟩
  .rw[Ax,C1 hp];rfl
  .rw[Ax]at h1 h2;obtain⟨x,h3,rfl⟩:=Bc.mp h1;obtain⟨y,h4,rfl⟩:=Bc.mp h2;have l2:=(Ad.mp h4).1;rw[BH]at l2;rw[C1 (by lia)]at h3 h4
   cases h3;cases h4
   rfl
  .obtain⟨k,_,rfl⟩:=Aq.mp he;exact it_ok hE k
  .unfold List.Nodup;rw[List.pairwise_map];refine List.pairwise_lt_range.imp_of_mem λ{i j} hi hj hij h=>?_
   have hj:=Bp.mp hj;have:it C b 0=it C b (j-i):=zli hE i (by rw[Db,Nat.sub_add_cancel (by lia)];exact h);exact hl (j-i) (by lia) ⟨by lia,this.symm⟩
  .refine⟨it C b (p-1),?_,?_⟩
   .rw[Ai,BH,Ax,C1 (by lia)];rfl
   .have:it C b (p-1+1)=nxt C (it C b (p-1)):=rfl;rw[<- this,Nat.sub_add_cancel hp,hpb]
 obtain⟨p,⟨hp,hpb⟩,hpn,hl⟩:=zkD (P:=λk=>0<k/\it C b k=b) n ⟨hn,hb⟩;have cl:=key p hp hpb hl;have hdm:=Nat.div_add_mod n p
 have hr:n % p=0:=by
  have h1:it C b (n / p*p+n % p)=b:=by rw[Nat.mul_comm,hdm];exact hb
  rw[zlh hpb]at h1;rcases Nat.eq_zero_or_pos (n % p) with z |z
  .exact z
  .exact absurd ⟨z,h1⟩ (hl _ (A1 _ hp))
 have e:n=n / p*p:=by rw[Nat.mul_comm];lia
 have t:=cl.turning;rw[zi0]at t;have m:=zk8 hpb (n / p);rw[<- e]at m
 have hq:n / p=1:=by clear hdm hr e;generalize n / p=q at m;rcases t with t |t <;> rcases hs with s |s <;> rw[t,s]at m <;> lia
 rw[hq,Nat.one_mul]at e;rw[e];exact cl
end RP
namespace RR
open PySem L2 RP
theorem zg3:∀(l:List (Option Nat)) (e:Edge) (i:Nat) (p q:Edge×Option Nat),(wby e l)[i]?=some p->(wby e l)[i+1]?=some q->q.1=edgeB p.1 p.2
 |[],_,i,p,q,h,_=>by cases i <;> cases h
 |[d],e,0,p,q,_,h=>by cases h
 |d::d2::l,e,0,p,q,h1,h2=>by cases h1;cases h2;rfl
 |d::l,e,i+1,p,q,h1,h2=>zg3 l (edgeB e d) i p q h1 h2
theorem zgt:∀(l:List (Option Nat)) (e:Edge),(wby e l).map (·.2)=l
 |[],_=>rfl
 |d::l,e=>by show d::(wby (edgeB e d) l).map (·.2)=d::l;rw[zgt l]
theorem ze0:∀n:Nat,(Ah n (none:Option Nat)).filterMap id=[]
 | 0=>rfl
 |n+1=>by rw[BL,BU];exact ze0 n
theorem zjS:∀(row:List Nat) (w:Nat),(dgo w row).1.filterMap id=row
 |[],_=>rfl
 |s::r,w=>by
  show (Ah ((zax s+4-w) % 4) none++some s::(dgo (wayB s) r).1).filterMap id=s::r;rw[Du,BU];simp only[id];rw[zjS r,ze0];rfl
theorem zjT(row:List Nat)(w:Nat):(deeds w row).filterMap id=row:=by unfold deeds;rw[Du,zjS,ze0,AN]
theorem zfh(l:List (Option Nat)):∀(k:Nat) (e:Edge),e.w<4->∀q∈wby e (Ah k none++l),q.2=none∨q∈wby ⟨e.c,(e.w+k) % 4⟩ l
 | 0,e,he,q,h=>.inr (by rw[Nat.add_zero,Nat.mod_eq_of_lt he];exact h)
 |k+1,e,he,q,h=>by
  have h:q∈(e,none)::wby (edgeB e none) (Ah k none++l):=h;rcases At.mp h with rfl |h
  .exact .inl rfl
  .rcases zfh l k (edgeB e none) (A1 _ (by decide)) q h with z |z
   .exact .inl z
   .refine .inr ?_
    have:((edgeB e none).w+k) % 4=(e.w+(k+1)) % 4:=by show ((e.w+1) % 4+k) % 4=_;lia
    rw[this]at z;exact z
theorem zhF(t:Nat):∀(row:List Nat) (e:Edge),e.w<4->∀q∈wby e ((dgo e.w row).1++Ah t none),∀s,q.2=some s->zax s=q.1.w
 |[],e,he,q,h,s,hs=>by
  have h:q∈wby e (Ah t none++[]):=by rw[AN];exact h
  rcases zfh [] t e he q h with z |z
  .rw[z]at hs;cases hs
  .cases z
 |s0::r,e,he,q,h,s,hs=>by
  have h:q∈wby e ((Ah ((zax s0+4-e.w) % 4) none++some s0::(dgo (wayB s0) r).1)++Ah t none):=h;rw[Co]at h;have w4:zax s0<4:=A1 _ (by decide);rcases zfh _ _ e he q h with z |z
  .rw[z]at hs;cases hs
  .have ew:(e.w+(zax s0+4-e.w) % 4) % 4=zax s0:=by lia
   rw[ew]at z;have z:q∈(⟨e.c,zax s0⟩,some s0)::wby (edgeB ⟨e.c,zax s0⟩ (some s0)) ((dgo (wayB s0) r).1++Ah t none):=z;rcases At.mp z with rfl |z
   .cases hs;rfl
   .have eb:(edgeB ⟨e.c, zax s0⟩ (some s0)).w=wayB s0 := by
     unfold wayB
     by_cases o:s0 % 2=1
     .simp only[edgeB,if_pos o];lia
     .simp only[edgeB,if_neg o];lia
    rw[<- eb]at z;exact zhF t r _ (by rw[eb];exact zls _) q z s hs
theorem zke{s w:Nat}(hs:s<8)(h:zax s=w):(s % 2=0->s=2*w)/\(s % 2=1->s=(2*w+7) % 8):=by
 have:∀s<8,(s % 2=0->s=2*zax s)/\(s % 2=1->s=(2*zax s+7) % 8):=by decide
 rw[<- h];exact this s hs
noncomputable def seenC(W:Wk):List Cell:=(obs W).filterMap λq=>if q.2 then some q.1 else none
theorem zcX{W:Wk}{c:Cell}:c∈seenC W ↔ (c,true)∈obs W:=by
 unfold seenC;rw[List.mem_filterMap];constructor
 .rintro⟨⟨d,x⟩,h,e⟩
  cases x
  .cases e
  .cases e;exact h
 .intro h;exact⟨_,h,rfl⟩
theorem Good.can{r:Rnd}(hF:Form r)(h:Good r):Can (isIn (seenC (rw_ r))) ((rw_ r).map (·.1)) r:=by
 obtain⟨hn,hfirst,hturn,hbg⟩:=h;have yes:∀q∈rw_ r,∀c,(c,true)∈seenL q.1 q.2->isIn (seenC (rw_ r)) c=true:=λq hq c hc=>decide_eq_true (zcX.mpr (BF.mpr ⟨q,hq,hc⟩))
 have not:∀q∈rw_ r,∀c,(c,false)∈seenL q.1 q.2->isIn (seenC (rw_ r)) c=false:=λq hq c hc=>decide_eq_false λm=>hn ⟨c,zcX.mp m,BF.mpr ⟨q,hq,hc⟩⟩
 have ok:zdh (rw_ r):=zin _ (zfp r) λs hs=>hF.2.2 s (zeH hs)
 have hstep:∀q∈rw_ r,IsE (isIn (seenC (rw_ r))) q.1/\stepB (isIn (seenC (rw_ r))) q.1=q.2:=λq hq=>by
  obtain⟨e,o⟩:=q;have y:=yes _ hq;have n:=not _ hq;obtain⟨hw,h8⟩:=ok _ hq;simp only at y n hw h8;refine⟨⟨hw,y _ (by unfold seenL seen0;simp),n _ (by unfold seenL seen0;simp)⟩,?_⟩;show stepB _ e=o;unfold stepB
  cases o with
  |none =>
   rw[n (go e.c ((2*e.w+7) % 8)) (by unfold seenL seen0;simp[slant]),n (go e.c (2*e.w)) (by unfold seenL seen0;simp[slant])];rfl
  |some s =>
   have hway:zax s=e.w:=zhF _ _ _ (zfp r) _ hq s rfl;obtain⟨h0,h1⟩:=zke (h8 s rfl) hway
   have hc:isIn (seenC (rw_ r)) (go e.c s)=true:=by
    have:=y (edgeB e (some s)).c (by unfold seenL seen0;simp);have ec:(edgeB e (some s)).c=go e.c s:=by by_cases o:s % 2=1 <;> simp only[edgeB,if_pos,if_neg,o] <;> rfl
    rwa [ec]at this
   by_cases hod:s % 2=1
   .rw[<- h1 hod,if_pos hc]
   .have hev:s % 2=0:=by lia
    rw[n (go e.c ((2*e.w+7) % 8)) (by unfold seenL seen0;simp[slant,hev]),<- h0 hev,hc];rfl
 have hlen:0<(rw_ r).length:=by have:=congrArg List.length (zgt (deeds (begE r).w r.row) (begE r));rw[Ai]at this;unfold rw_;rw[this];exact zcZ _ _
 have hget:∀i,i<(rw_ r).length->∃o,(rw_ r)[i]?=some (it (isIn (seenC (rw_ r))) (begE r) i,o):=λi=>by
  induction i with
  |zero =>
   intro _;exact zg4 _ _ (zcZ _ _)
  |succ i ih =>
   intro hi;obtain⟨o,ho⟩:=ih (by lia);have h2:=Aa hi;have e:=zg3 _ _ _ _ _ ho h2;have st:=(hstep _ (Ag ho)).2;refine⟨(rw_ r)[i+1].2,?_⟩;rw[h2];refine congrArg some (Ch ?_ rfl);rw[e];show edgeB _ o=nxt _ (it _ _ i);unfold nxt;rw[show stepB (isIn (seenC (rw_ r))) (it (isIn (seenC (rw_ r))) (begE r) i)=o from st]
 have hes:(rw_ r).map (·.1)=(AO (rw_ r).length).map (it (isIn (seenC (rw_ r))) (begE r)):=List.ext_getElem? λi=>by
  by_cases hi:i<(rw_ r).length
  .obtain⟨o,ho⟩:=hget i hi;rw[Ax,ho,Ax,C1 hi];rfl
  .rw[BO (by rw[Ai];lia),BO (by rw[Ai,BH];lia)]
 have hwk:wk (isIn (seenC (rw_ r))) ((rw_ r).map (·.1))=rw_ r:=by
  unfold wk;rw[DH]
  conv=>rhs;rw[<- List.map_id (rw_ r)]
  exact B7 λq hq=>Ch rfl (hstep q hq).2
 obtain⟨o0,h0⟩:=hget 0 hlen;obtain⟨o1,h1⟩:=hget ((rw_ r).length-1) (by lia);have hE:IsE (isIn (seenC (rw_ r))) (begE r):=(hstep _ (Ag h0)).1
 have hback:it (isIn (seenC (rw_ r))) (begE r) (rw_ r).length=begE r:=by have:=hfirst _ _ h0 h1;have st:=(hstep _ (Ag h1)).2;have e:it (isIn (seenC (rw_ r))) (begE r) ((rw_ r).length-1+1)=nxt _ (it _ (begE r) ((rw_ r).length-1)):=rfl;rw[Nat.sub_add_cancel hlen]at e;rw[e];unfold nxt;rw[show stepB (isIn (seenC (rw_ r))) (it (isIn (seenC (rw_ r))) (begE r) ((rw_ r).length-1))=o1 from st];exact this
 have hsum:sI (isIn (seenC (rw_ r))) (begE r) (rw_ r).length=moreL r.so:=by rw[<- zi0,<- hes,zdy,<- nL_wk,<- nS_wk,hwk];exact hturn
 have hcl:Closed (isIn (seenC (rw_ r))) (begE r) ((rw_ r).map (·.1)):=by
  rw[hes];refine zj0 hE hlen hback ?_
  rw[hsum];unfold moreL;split
  .exact .inl rfl
  .exact .inr rfl
 refine⟨hcl,?_,by rw[hwk];exact hbg,?_⟩
 .have e:((rw_ r).map (·.1)).map (stepB (isIn (seenC (rw_ r))))=(rw_ r).map (·.2) := by rw[DH];exact B7 λq hq=>(hstep q hq).2
  rw[e];unfold rw_;rw[zgt,zjT]
 .rw[hwk];unfold sortS;unfold moreL at hturn;rcases hF.1 with z |z
  .rw[if_pos z]at hturn;rw[if_pos (by lia)];exact z
  .rw[z,if_neg (by decide)]at hturn;rw[if_neg (by lia)];exact z
theorem Can.wby{C:Cell->Bool}{es:List Edge}{r:Rnd}(h:Can C es r):wk C es=wby (begE r) (RP.deeds (begE r).w r.row):=by have h1:=h.cl.deeds;rw[<- h.row]at h1;obtain⟨⟨h0,hs,_,_⟩,_⟩:=h.cl;rw[<- zfy es (.inl h0) hs,h1]
theorem zfX{c:Cell}{e:Edge}{o:Option Nat}:(c,true)∈seenL e o ↔ c=e.c∨c=(edgeB e o).c:=by
 unfold seenL seen0
 by_cases h1:slant o=true <;> by_cases h2:o=none <;> simp[h1,h2]
theorem Good.piece{r:Rnd}(hF:Form r)(h:Good r)(c:Cell):c∈seenC (rw_ r) ↔ Rch (isIn (seenC (rw_ r))) S8 (begE r).c c:=by
 have hcan:=h.can hF;have hb:=hcan.cl.1.2.2.1 _ (Ag hcan.cl.1.1);constructor
 .intro hc;obtain⟨q,hq,hm⟩:=BF.mp (zcX.mp hc);have he:q.1∈(rw_ r).map (·.1):=Aq.mpr ⟨q,hq,rfl⟩;rcases zfX.mp hm with rfl |rfl
  .exact (hcan.cl.reach _ he).1
  .have hn:=hcan.cl.mem_nxt he
   have st:stepB (isIn (seenC (rw_ r))) q.1=q.2:=by
    have e:wk (isIn (seenC (rw_ r))) ((rw_ r).map (·.1))=rw_ r:=hcan.wby;obtain⟨i,hi,ei⟩:=Ay hq;have h1:(wk (isIn (seenC (rw_ r))) ((rw_ r).map (·.1)))[i]?=some q:=by rw[e,Aa hi,ei]
    unfold wk at h1;rw[Ax,Ax,Aa hi,ei]at h1;exact congrArg Prod.snd (A4 h1)
   have:=(hcan.cl.reach _ hn).1;unfold nxt at this
   rwa [st]at this
 .intro hr;exact of_decide_eq_true (hr.dom hb.2.1)
structure Made (es:List Edge) (m:Int) (M:List Cell) (l lo r hi:Int):Prop where
 iff:∀c,c∈M ↔ inBox l lo r hi c/\wd es c=m
section
variable {C:Cell->Bool}{es:List Edge}{rd:Rnd}{m:Int}{M P:List Cell}{l lo r hi:Int}
theorem Made.step(hM:Made es m M l lo r hi)(h:Can C es rd)(hm:∀c,wd es c=m-1∨wd es c=m)(hB:BoxOf P l lo r hi)(hP:∀e∈es,e.c∈P){e:Edge}(he:e∈es):stepB (isIn M) e=stepB C e:=by
 rw[<- CD.step h.cl hm he];have k:∀s,isIn M (go e.c s)=CD es m (go e.c s):=λs=>decide_eq_decide.mpr ((hM.iff _).trans ⟨λz=>z.2,λz=>⟨hB.near (hP e he) s,z⟩⟩)
 unfold stepB;rw[k,k]
theorem Made.can(hM:Made es m M l lo r hi)(h:Can C es rd)(hm:∀c,wd es c=m-1∨wd es c=m)(hB:BoxOf P l lo r hi)(hP:∀e∈es,e.c∈P):Can (isIn M) es rd:=by
 have st:∀e∈es,stepB (isIn M) e=stepB C e:=λe he=>hM.step h hm hB hP he
 have nx:∀e∈es,nxt (isIn M) e=nxt C e:=λe he=>by unfold nxt;rw[st e he]
 have wke:wk (isIn M) es=wk C es:=B7 λe he=>by rw[st e he]
 obtain⟨⟨h0,h1,h2,h3⟩,lst,hl,hlb⟩:=id h.cl;refine⟨⟨⟨h0,λi e f a b=>?_,λe he=>?_,h3⟩,lst,hl,by rw[nx _ (Ag hl)];exact hlb⟩,?_,by rw[wke];exact h.bg,by rw[wke];exact h.so⟩
 .rw[nx _ (Ag a)];exact h1 i e f a b
 .obtain⟨k1,k2⟩:=CD.mem h.cl hm he;have:=hB.all _ (hP e he);refine⟨(h2 e he).1,decide_eq_true ((hM.iff _).mpr ⟨by unfold inBox;lia,k1⟩),decide_eq_false λz=>?_⟩;have:=((hM.iff _).mp z).2;lia
 .rw[h.row,B7 st]
theorem Can.isRnd(h:Can C es rd):IsRnd (wk C es) rd:=by
 refine⟨h.so,0,begE rd,?_,?_,rfl,rfl,?_⟩
 .rw[zb4];exact h.cl.1.1
 .rw[<- h.so];exact h.bg
 .rw[List.drop_zero,List.take_zero,AN,h.row];unfold wk;rw[Br,Br];rfl
theorem Made.among(hM:Made es m M l lo r hi)(h:Can C es rd)(hm:∀c,wd es c=m-1∨wd es c=m)(hB:BoxOf P l lo r hi)(hP:∀e∈es,e.c∈P){R R0:List Rnd}(p:R.Perm R0)(hW:Whole M R0):rd∈R:=by
 have hc:=hM.can h hm hB hP;have hb:=Ag hc.cl.1.1;obtain⟨E,h1,h2⟩:=hW;obtain⟨fs,f1,f2⟩:=List.mem_flatten.mp ((h2 _).mpr (hc.cl.1.2.2.1 _ hb));obtain⟨i,hi',ei⟩:=Ay f1;have hiR:i<R0.length:=by rw[h1.len];exact hi'
 obtain⟨fs',b,e1,k1,k2⟩:=h1.got (Aa hiR);rw[Aa hi',ei]at e1
 cases e1
 have:=IsRnd.one hc.cl k1 hb f2 hc.isRnd k2;rw[this];exact p.mem_iff.mpr (AZ hiR)
theorem zme{a b:Edge}{L:List (List Edge)}(hn:L.flatten.Nodup)(h:∀x∈L,a∈x∨b∈x):L.length<=2:=by
 apply BJ
 intro n;have g:∀i,i<3->∃x,L[i]?=some x/\(a∈x∨b∈x):=λi hi=>⟨L[i]'(by lia),Aa (by lia),h _ (AZ _)⟩
 obtain⟨_,e0,o0⟩:=g 0 (by decide);obtain⟨_,e1,o1⟩:=g 1 (by decide);obtain⟨_,e2,o2⟩:=g 2 (by decide);rcases o0 with x |x <;> rcases o1 with y |y <;> rcases o2 with z |z
 all_goals first
  |exact absurd (zfl hn e0 e1 x y) (by decide)
  |exact absurd (zfl hn e0 e2 x z) (by decide)
  |exact absurd (zfl hn e1 e2 y z) (by decide)
theorem Made.few(hM:Made es m M l lo r hi)(h:Can C es rd)(hm:∀c,wd es c=m-1∨wd es c=m)(hB:BoxOf P l lo r hi)(hP:∀e∈es,e.c∈P):Slim M:=by
 intro ESS R hPt;have hc:=hM.can h hm hB hP;have hb:=Ag hc.cl.1.1;rw[hPt.len];refine AM (zme (a:=begE rd) (b:=⟨(r,lo),0⟩) hPt.nd λfs hfs=>?_) (by decide);obtain⟨b,hcl⟩:=hPt.closed fs hfs;obtain⟨e,he,hw⟩:=hcl.has (.inl rfl);have hE:=hcl.1.2.2.1 e he;have hIn:=(hM.iff _).mp (of_decide_eq_true hE.2.1)
 by_cases hg:inBox l lo r hi (gap e)
 .left
  have hes:e∈es:=(CD.isE h.cl hm e).mp ⟨hE.1,decide_eq_true hIn.2,decide_eq_false λz=>by
   have:=hE.2.2;rw[show isIn M (gap e)=true from decide_eq_true ((hM.iff _).mpr ⟨hg,z⟩)]at this
   cases this⟩
  exact (hc.cl.perm hcl hes he).mem_iff.mp hb
 .right;obtain⟨⟨x,y⟩,w⟩:=e;simp only at hw;subst hw;have eg:gap ⟨(x,y),0⟩=(x,y-1):=by simp[gap,go,mv];lia
  rw[eg]at hg;obtain⟨⟨i1,i2,i3,i4⟩,iw⟩:=hIn;simp only at i1 i2 i3 i4
  have hy:y=lo:=by unfold inBox at hg;simp only at hg;lia
  subst hy
  have low:∀x',wd es (x',y)=0:=λx'=>by
   apply BJ
   intro z;have:=wd_in h.cl hP hB z;simp only at this;lia
  have m0:m=0:=by rw[<- iw];exact low x
  have go_on:∀n:Nat,x+n<=r->(⟨(x+n,y),0⟩:Edge)∈fs:=λn=>by
   induction n with
   |zero=>intro _;rw[show x+((0:Nat):Int)=x by lia];exact he
   |succ n ih =>
    intro hn;have k:=ih (by lia);have g7:go (x+(n:Int),y) 7=(x+n+1,y-1):=by simp[go,mv];lia
    have g0:go (x+(n:Int),y) 0=(x+n+1,y):=by simp[go,mv]
    have s7:isIn M (x+n+1,y-1)=false:=decide_eq_false λz=>by have:=((hM.iff _).mp z).1;unfold inBox at this;simp only at this;lia
    have s0:isIn M (x+n+1,y)=true:=decide_eq_true ((hM.iff _).mpr ⟨⟨by simp only;lia,by simp only;lia,by simp only;lia,i4⟩,by rw[m0];exact low _⟩);have hn':=hcl.mem_nxt k
    have:nxt (isIn M) ⟨(x+n,y),0⟩=⟨(x+((n+1:Nat):Int),y),0⟩:=by unfold nxt stepB;simp only;rw[show (2*0+7) % 8=7 from rfl,show 2*0=0 from rfl,g7,g0,s7,s0];have e1:(if false=true then some 7 else if true=true then some 0 else none:Option Nat)=some 0:=rfl;rw[e1];show (⟨go (x+(n:Int),y) 0,0⟩:Edge)=_;rw[g0,show x+(n:Int)+1=x+((n+1:Nat):Int) by lia]
    rwa [this]at hn'
  have:=go_on (r-x).toNat (by lia)
  rwa [show x+(((r-x).toNat:Nat):Int)=r by lia]at this
end
theorem Can.sum {C:Cell->Bool}{es:List Edge}{r:Rnd}(h:Can C es r):(r.so = "rim" /\ (es.map (tt C)).sum=4)∨(r.so = "hole" /\ (es.map (tt C)).sum=-4):=by
 have e:(es.map (tt C)).sum=(nL (wk C es):Int)-nS (wk C es):=by rw[nL_wk,nS_wk,<- zdy]
 rw[h.so,e];unfold sortS;rcases zis h.cl with z |z
 .left;rw[if_pos (by lia)];exact⟨rfl,z⟩
 .right;rw[if_neg (by lia)];exact⟨rfl,z⟩
noncomputable def mR (s:Str):Int:=if s = "rim" then 1 else 0
section
variable {P:List Cell}{es:List Edge}{rd:Rnd}{l lo r hi:Int}{D:Cell->Bool}{F M:List Cell}
theorem Can.two(h:Can (isIn P) es rd):∀c,wd es c=mR rd.so-1∨wd es c=mR rd.so:=by
 intro c;rcases h.sum with⟨z,s⟩ |⟨z,s⟩
 .rw[z];show _=(1:Int)-1∨_=(1:Int);rcases wd_01 h.cl s c with q |q <;> lia
 .rw[z];show _=(0:Int)-1∨_=(0:Int);rcases wd_0m h.cl s c with q |q <;> lia
noncomputable def outC (rd:Rnd) (l lo:Int):Cell:=if rd.so = "hole" then (rd.x,rd.y+1) else (l,lo)
theorem gap2'(c:Cell):gap ⟨c,2⟩=(c.1,c.2+1):=by simp[gap,go,mv]
theorem Can.outD(h:Can (isIn P) es rd)(hP:∀c,c∈P ↔ Rch (isIn P) S8 (begE rd).c c)(hB:BoxOf P l lo r hi)(hF:FreeOf D P l lo r hi):D (outC rd l lo)=true:=by
 have hb:=h.cl.1.2.2.1 _ (Ag h.cl.1.1);unfold outC;rcases h.sum with⟨z,_⟩ |⟨z,_⟩
 .rw[if_neg (by rw[z];decide)];exact zmY hB hF
 .rw[if_pos z];have eb:begE rd=⟨(rd.x,rd.y),2⟩:=by unfold begE;rw[z];rfl
  rw[eb]at hb;have hg:=hb.2.2;rw[gap2']at hg;refine (hF.iff _).mpr ⟨?_,of_decide_eq_false hg⟩;have:=hB.near (of_decide_eq_true hb.2.1) ((2*2+6) % 8);have e:go (rd.x,rd.y) ((2*2+6) % 8)=(rd.x,rd.y+1):=gap2' _
  rwa [e]at this
theorem Can.made(h:Can (isIn P) es rd)(hP:∀c, c ∈ P ↔ Rch (isIn P) S8 (begE rd).c c)(hB:BoxOf P l lo r hi)(hF:FreeOf D P l lo r hi)(hA:∀c, c ∈ F ↔ Rch D S4 (outC rd l lo) c)
  (hM:∀c,c∈M ↔ (c∈P∨D c=true)/\c ∉ F):Made es (mR rd.so) M l lo r hi:=by
 have hb:=Ag h.cl.1.1;have hbE:=h.cl.1.2.2.1 _ hb;have oD:=h.outD hP hB hF;have dP:∀c,D c=true->c ∉ P:=λc hc=>((hF.iff c).mp hc).2
 have fD:∀c,c∈F->D c=true:=λc hc=>((hA c).mp hc).dom oD
 have pw:∀c∈P,wd es c=mR rd.so:=λc hc=>by
  rw[zdx h.cl ((hP c).mp hc) hbE.2.1];rcases h.sum with⟨z,s⟩ |⟨z,s⟩
  .rcases h.cl.inside with⟨_,k⟩ |⟨s',_⟩
   .rw[z];exact (k _ hb).1
   .lia
  .rcases h.cl.inside with⟨s',_⟩ |⟨_,k⟩
   .lia
   .rw[z];exact (k _ hb).1
 have fw:∀c,D c=true->(c∈F ↔ wd es c=mR rd.so-1):=λc hc=>by
  rw[hA];unfold outC;rcases h.sum with⟨z,s⟩ |⟨z,s⟩
  .rw[if_neg (by rw[z];decide),z];exact zlD h.cl s hP hB hF hc
  .rw[if_pos z,z];have eb:begE rd=⟨(rd.x,rd.y),2⟩:=by unfold begE;rw[z];rfl
   have:=zkF h.cl s hP hB hF c;rw[eb,gap2']at this;exact this
 refine⟨λc=>?_⟩;rw[hM];constructor
 .rintro⟨hc |hc,hn⟩
  .have:=hB.all c hc;exact⟨by unfold inBox;lia,pw c hc⟩
  .refine⟨((hF.iff c).mp hc).1,?_⟩;have:=mt (fw c hc).mpr hn;rcases h.two c with q |q
   .exact absurd q this
   .exact q
 .rintro⟨hin,hw⟩
  by_cases hc:c∈P
  .exact⟨.inl hc,λhf=>dP c (fD c hf) hc⟩
  .have hD:D c=true:=(hF.iff c).mpr ⟨hin,hc⟩;refine⟨.inr hD,λhf=>?_⟩;have:=(fw c hD).mp hf;lia
end
theorem cpow{i j:Int}(h:0<=j/\j<=1000000/\i.natAbs<2 ^ 64):CPow i j:=h
theorem ziT{b:Int}(h0:0<b)(h:b<=6000):b.natAbs.log2<9000:=by refine (Nat.log2_lt (by lia)).mpr (AD (show b.natAbs<2 ^ 13 by lia) (Nat.pow_le_pow_right (by decide) (by decide)))
theorem zmF{cs:List Cell}(h:cs.Pairwise Bfr):InOrd cs:=by intro i c d h1 h2;have hi:=(Ad.mp h1).1;have hj:=(Ad.mp h2).1;have e1:=(Ad.mp h1).2;have e2:=(Ad.mp h2).2;have a:=List.pairwise_iff_getElem.mp h i (i+1) hi hj (by lia);rw[e1,e2]at a;exact a
theorem zl9{a b y:Int}(h:a<b):Bfr (a,y) (b,y):=by show HT.lexLt [y,a] [y,b]=true;rw[HT.lexLt_cons,if_pos rfl,HT.lexLt_cons,if_neg (by lia)];exact decide_eq_true h
theorem zm3{a b:Cell}(h:a.2<b.2):Bfr a b:=by show HT.lexLt [a.2,a.1] [b.2,b.1]=true;rw[HT.lexLt_cons,if_neg (by lia)];exact decide_eq_true h
section
variable {P:AB}{w:AV}{K:W.Frag}{mg:Str->Option Value}{base:Heap}
noncomputable def zeT(K:W.Frag):Sp:=λvs H Q _=>∃(a:Addr) (ns:List Int) (k:Nat),vs=[.ref a,.int k]/\SqL K H a (ns.map V.int)/\∀n,Q (.int n) H
theorem zej (T:Txt P w K mg) (d:Df K mg "_law_cell_at" zbG ["_law_script","_law_k"]):FnOk P w K mg base CX0 1 d.f d.fd ["_law_script","_law_k"] (zeT K):=by
 refine d.F.ok zdL (λvs H Q E h=>?_) (λcdv A outer s H vs Q E hr h=>?_)
 .obtain⟨a,ns,k,rfl,_⟩:=h;rfl
 .obtain⟨a,ns,i,rfl,hq,k⟩:=h
  refine⟨_,(zac (ps_if (zay op_lt (pv 1) (zav zaL (by rfl) T.nlen (by rfl) (pa_N (pv 0) zab)) (zaz _))
   (zag (zal (pe_ix zaP (pv 0) (pv 1) (λ_ _=>rfl))))
   zaF)
   (zag (zal zad))),?_⟩
  refine⟨_,rfl,_,rfl,a,_,rfl,.inl hq,_,_,rfl,rfl,_,rfl,?_⟩;refine ite2 (λhy=>?_) (λhn=>k 0)
  have hlt:i<ns.length:=by have:=of_decide_eq_true hy;rw[Ai]at this;lia
  exact⟨_,rfl,_,rfl,a,_,_,_,rfl,rfl,hq,zaT (v:=.int ns[i]) (by simp[hlt]),k _⟩
noncomputable def spRow:Sp:=λvs H Q _=>∃(c b:Int) (m:Nat),vs=[.int c,.int m,.int b]/\m<=60/\0<b/\b<=6000/\∀p H' (ns:List Int),H p=none->Same H H'->H' p=some (.lst (ns.map V.int))->ns.length=m->(∀n∈ns,0<=n/\n<b)->Q (.ref p) H'
theorem zh5 (T:Txt P w K mg) (d:Df K mg "_law_row" zc8 ["_law_cell","_law_many","_law_base"]):FnOk P w K mg base CX0 1 d.f d.fd ["_law_cell","_law_many","_law_base"] spRow:=by
 refine d.F.ok zba (λvs H Q E h=>?_) (λcdv A outer s H vs Q E hr h=>?_)
 .obtain⟨c,b,m,rfl,_⟩:=h;rfl
 .obtain⟨c,b,m,rfl,hm,hb,hb2,k⟩:=h
  refine⟨_,(zac (sE 3 zba.nd (zaI zab))
   (zac (sE 4 zba.nd (pe_op zb6 (pv 0) (pe_op zji zad zad)))
   (zac (sE 5 zba.nd (pe_op zat (pv 0) zad))
   (zac (zbr Bd rfl (zck (by rfl) T.nrange (pa_N (pv 1) zab)) (nG 6 zba.nd)
   (zag (ps_if (zay op_ge (pv 0) (pe_op zji zad zad) (zaz _))
   (zac (zbc (pe_bm AL Ba Bb zaU (pv 3) (pa_B (pe_op zat (pv 4) (pv 2)) zab)))
   (zag (sE 4 zba.nd (pe_op zkw (pv 4) (pv 2)))))
   (zac (sE 5 zba.nd (pe_op zat (pe_op zaw (pe_op zaw (pe_op zbD (pv 5) zad) (pe_op zbD (pe_op zbD (pv 6) (pv 6)) zad)) zad) zad))
   (zag (zbc (pe_bm AL Ba Bb zaU (pv 3) (pa_B (pe_op zat (pe_op zcM (pe_op zat (pe_op zbD (pv 5) (pv 5)) zad) zad) (pv 2)) zab))))))))
   (zag (zal (pv 3))))))),?_⟩
  have hmod:∀z:Int,0<=z % b/\z % b<b:=λz=>⟨CN _ (by lia),CJ _ hb⟩
  have hnum:∀z:Int,0<=z % 2147483629/\z % 2147483629<2147483629:=λz=>⟨CN _ (by decide),CJ _ (by decide)⟩
  refine⟨(by show 0<=sizeLine;decide),λp hp=>?_⟩;have s1:Same H (upd H p (.lst [])):=Same.up hp;have e1:upd H p (.lst []) p=some (.lst []):=zaa;generalize upd H p (.lst [])=H1 at s1 e1;refine⟨_,rfl,_,_,rfl,rfl,(by refine cpow ?_;decide),_,_,rfl,rfl,?_⟩;refine⟨_,rfl,_,_,rfl,rfl,(by show (0:Int)<2147483629;decide),?_⟩;refine⟨_,rfl,_,rfl,(by lia),(by lia),?_⟩
  refine zbA (lo:=0) (n:=m) (λi σ H2=>∃(l q:Int) (o:Option V) (ns:List Int),σ=[some (.int c),some (.int m),some (.int b),some (.ref p),some (.int l),some (.int q),o]/\0<=q/\q<2147483629/\Same H H2/\H2 p=some (.lst (ns.map V.int))/\ns.length=i/\∀n∈ns,0<=n/\n<b)
   ⟨_,_,_,[],rfl,(hnum c).1,(hnum c).2,s1,e1,rfl,by simp⟩ ?_ ?_
  .rintro i σ H2 hi ⟨l,q,o,ns,rfl,q0,q1,s2,e2,hl,hall⟩
   have snoc:∀z:Int,0<=z->z<b->(ns++[z]).length=i+1/\∀n∈ns++[z],0<=n/\n<b:=λz z0 z1=>⟨by rw[Ak,hl];rfl,λn hn=>by
    rcases AA.mp hn with h |h
    .exact hall n h
    .rw[An.mp h];exact⟨z0,z1⟩⟩
   refine⟨_,rfl,_,_,rfl,rfl,(by refine cpow ?_;decide),_,_,rfl,rfl,_,rfl,?_⟩;refine ite2 (λ_=>?_) (λ_=>?_)
   .refine⟨_,rfl,.inl ⟨rfl,_,SqL.of e2⟩,_,rfl,_,rfl,_,_,rfl,rfl,hb,p,_,_,rfl,rfl,e2,small1000 (by rw[Ai];lia),?_⟩;refine⟨_,rfl,_,rfl,_,_,rfl,rfl,⟨hb,ziT hb hb2⟩,?_⟩;obtain⟨z1,z2⟩:=snoc (l % b) (hmod l).1 (hmod l).2;exact⟨_,q,_,ns++[l % b],rfl,q0,q1,zar hp s2,by rw[zaa,AJ];rfl,z1,z2⟩
   .refine⟨_,rfl,_,_,rfl,rfl,.inr ⟨by decide,by decide⟩,_,rfl,_,rfl,_,_,rfl,rfl,.inl ⟨by lia,by lia⟩,_,_,rfl,rfl,.inr ⟨by decide,by decide⟩,_,_,rfl,rfl,_,_,rfl,rfl,_,_,rfl,rfl,(by show (0:Int)<2147483629;decide),?_⟩;obtain⟨n0,n1⟩:=hnum (q*48271+(0+(i:Int))*(0+(i:Int))*69621+11);refine⟨_,rfl,.inl ⟨rfl,_,SqL.of e2⟩,_,rfl,_,rfl,_,_,rfl,rfl,.inl ⟨by lia,by lia⟩,_,_,rfl,rfl,(by show (0:Int)<2147483647;decide),_,_,rfl,rfl,⟨by decide,by decide⟩,_,rfl,_,_,rfl,rfl,hb,p,_,_,rfl,rfl,e2,small1000 (by rw[Ai];lia),?_⟩;obtain⟨z1,z2⟩:=snoc (((q*48271+(0+(i:Int))*(0+(i:Int))*69621+11) % 2147483629)*((q*48271+(0+(i:Int))*(0+(i:Int))*69621+11) % 2147483629) % 2147483647 / 64 % b) (hmod _).1 (hmod _).2;exact⟨l,((q*48271+(0+(i:Int))*(0+(i:Int))*69621+11) % 2147483629),_,ns++[((q*48271+(0+(i:Int))*(0+(i:Int))*69621+11) % 2147483629)*((q*48271+(0+(i:Int))*(0+(i:Int))*69621+11) % 2147483629) % 2147483647 / 64 % b],rfl,n0,n1,zar hp s2,by rw[zaa,AJ];rfl,z1,z2⟩
  .rintro σ H2 ⟨l,q,o,ns,rfl,q0,q1,s2,e2,hl,hall⟩;exact⟨_,rfl,k p H2 ns hp s2 e2 hl hall⟩
noncomputable def rowX(ns:List Int)(sh dx y:Int)(n:Nat):List Cell:=((AO n).filter λx=>decide (ns.getD x 0<=sh)).map λx:Nat=>((x:Int)+dx,y)
theorem zi4(ns:List Int)(sh dx y:Int)(n:Nat):rowX ns sh dx y (n+1)=rowX ns sh dx y n++(if ns.getD n 0<=sh then [((n:Int)+dx,y)] else []):=by
 unfold rowX;rw[List.range_succ,CI,AJ]
 congr 1
 by_cases h:ns.getD n 0<=sh
 .rw[if_pos h]
  have e:(List.filter (λx=>decide (ns.getD x 0<=sh)) [n])=[n]:=by show (match decide (ns.getD n 0<=sh) with |true=>[n] |false=>[])=[n];rw[decide_eq_true h]
  rw[e];rfl
 .rw[if_neg h]
  have e:(List.filter (λx=>decide (ns.getD x 0<=sh)) [n])=[]:=by show (match decide (ns.getD n 0<=sh) with |true=>[n] |false=>[])=[];rw[decide_eq_false h]
  rw[e];rfl
theorem zdP(ns:List Int)(sh dx y:Int)(n:Nat):(rowX ns sh dx y n).length<=n:=by
 unfold rowX;rw[Ai];refine AM (A8 _ _) ?_
 rw[BH];exact Aj _
theorem zlB(ns:List Int)(sh dx y:Int)(n:Nat):(rowX ns sh dx y n).Pairwise Bfr:=by unfold rowX;rw[List.pairwise_map];refine (List.pairwise_lt_range.filter _).imp λ{a b} h=>zl9 (by lia)
theorem zla{ns:List Int}{sh dx y:Int}{n:Nat}{c:Cell}(h:c∈rowX ns sh dx y n):c.2=y:=by obtain⟨x,_,rfl⟩:=Aq.mp h;rfl
theorem zmv{ns:List Int}{sh dx y:Int}{n:Nat}{c:Cell}(h:c∈rowX ns sh dx y n):dx<=c.1/\c.1<dx+n:=by obtain⟨x,hx,rfl⟩:=Aq.mp h;have:=Bp.mp (Dd.mp hx).1;show dx<=(x:Int)+dx/\(x:Int)+dx<dx+n;lia
noncomputable def zk0(K:W.Frag):Sp:=λvs H Q _=>∃(a:Addr) (ns:List Int) (st:Nat),vs=[.ref a,.int st]/\SqL K H a (ns.map V.int)/\∀p H' vs cs,H p=none->Same H H'->H' p=some (.lst vs)->VR vs cs cR H'->cs.Pairwise Bfr->cs.length<=120->(∃l lo:Int,∀c∈cs,l<=c.1/\c.1<l+12/\lo<=c.2/\c.2<lo+10)->Q (.ref p) H'
theorem six{α:Type}{l:List α}(h:l.length=6):∃a b c d e f,l=[a,b,c,d,e,f]:=by
 match l,h with
 |[a,b,c,d,e,f],_=>exact⟨a,b,c,d,e,f,rfl⟩
theorem zei (T:Txt P w K mg) (g__law_cell_at:Fn P w K mg base 1 "_law_cell_at" ["_law_script", "_law_k"] (zeT K)) (g__law_row:Fn P w K mg base 1 "_law_row" ["_law_cell", "_law_many", "_law_base"] spRow)
    (d:Df K mg "_law_picture" zbn ["_law_script","_law_start"]):FnOk P w K mg base CX0 2 d.f d.fd ["_law_script","_law_start"] (zk0 K):=by
  refine d.F.ok zap (λvs H Q E h=>?_) (λcdv A outer s H vs Q E hr h=>?_)
  . obtain⟨a,ns,st,rfl,_⟩:=h;rfl
  . obtain⟨a,ns,st,rfl,hS,k⟩:=h;have nb0:(["_law_x","_law_y","_law_far","_law_row_here","_law_share","_law_left","_law_low"]:List Str).Nodup:=by decide +kernel
    refine⟨_,(zac (za2 (pC g__law_row hr (zah (pC g__law_cell_at hr (pa_N (pv 0) (pa_N (pv 1) zab))) (pa_C zad (pa_C zad zab)))) (zjc (by rfl) (zae (nG 2 zap.nd) (zae (nG 3 zap.nd) (zae (zcK (i:=4) zap.nd (by rfl) (D0 rfl)) (zae (zcK (i:=5) zap.nd (by rfl) (D0 rfl)) (zae (zcK (i:=6) zap.nd (by rfl) (D0 rfl)) (zae (nG 7 zap.nd) zaq))))))))
      (zac (zdR (i:=8) zap.nd (by rfl) (D0 rfl) (pe_ix zaP (zaI (pa_C zad (pa_B (pe_op zji zad zad) zab))) (pe_op zcM (pv 7) zad) (λ_ _=>rfl)))
      (zac (sE 9 zap.nd (zaI zab))
      (zac (zbr Bd rfl (zck (by rfl) T.nrange (pa_B (pe_op zaw zad (pe_op zat (pv 3) zad)) zab)) (zcK (i:=10) zap.nd (by rfl) (D0 rfl))
      (zac (zdR (i:=11) zap.nd (by rfl) (D0 rfl) (pC g__law_row hr (pa_B (pe_op zaw (pC g__law_cell_at hr (pa_N (pv 0) (pa_B (pe_op zaw (pe_op zaw (pv 1) zad) (pv 10)) zab))) (pv 10)) (pa_B (pe_op zaw zad (pe_op zat (pv 2) zad)) (pa_C zad zab)))))
      (zag (zbc (pe_bm AL DR DS zdY (pv 9) (zah (zbi (osc:=zaf zbn) (N:=zcC) (N':=["_law_x","_law_y","_law_far","_law_row_here","_law_share","_law_left","_law_low"]) (sel:=[none,some 10,some 8,some 11,some 4,some 5,some 6]) bO (zck (by rfl) T.nrange (zah (zav zaL (by rfl) T.nlen (by rfl) (pa_N (pv 11) zab)) zab)) (λ_ _ _ _ _=>(nG 0 nb0)) (λ_ _ _ _ _=>zbH (zay op_le (pe_ix (zkE (K:=K)) (pv 3) (pv 0) (λ_ _=>rfl)) (pe_op zat (pv 4) zad) (zaz _))) (λ_ _ _ _ _=>(zan (pa_B (pe_op zaw (pv 0) (pe_op zbD (pe_op zb6 (pv 5) zad) (pv 2))) (pa_B (pe_op zaw (pv 1) (pe_op zbD (pe_op zb6 (pv 6) zad) (pv 2))) zab))))) zab))))))
      (zag (zal (pv 9))))))),?_⟩
    refine⟨_,rfl,_,rfl,a,ns,st,rfl,hS,λc0=>⟨c0,60,6,rfl,by decide,by decide,by decide,λp1 H1 ms hp1 s1 e1 hl1 hb1=>?_⟩⟩;obtain⟨wd,hg,sh,lf,lw,wy,rfl⟩:=six hl1;have bw:=hb1 wd (by simp);have bh:=hb1 hg (by simp);have bl:=hb1 lf (by simp);have bo:=hb1 lw (by simp);have by':=hb1 wy (by simp);refine⟨p1,_,rfl,SqL.of e1,rfl,_,_,rfl,_,_,rfl,_,_,rfl,_,_,rfl,_,_,rfl,_,_,rfl,rfl,?_⟩;refine⟨_,_,rfl,rfl,(by refine cpow ?_;decide),two,λl2 hl2=>?_⟩;have s2:Same H1 (upd H1 l2 (.lst [.int 1,.int (10 ^ (28:Int).toNat)])):=Same.up hl2;have e2:upd H1 l2 (.lst [.int 1,.int (10 ^ (28:Int).toNat)]) l2=some (.lst [.int 1,.int (10 ^ (28:Int).toNat)]):=zaa;generalize upd H1 l2 (.lst [.int 1,.int (10 ^ (28:Int).toNat)])=H2 at s2 e2
    obtain⟨far,hfar⟩:∃far:Int,atI [V.int 1,V.int (10 ^ (28:Int).toNat)] (wy / 50)=some (.int far):=by
      have:wy / 50=0∨wy / 50=1:=by lia
      rcases this with z |z <;> rw[z]
      . exact⟨_,rfl⟩
      . exact⟨_,rfl⟩
    refine⟨_,rfl,_,_,rfl,rfl,⟨by decide,by decide⟩,l2,_,_,_,rfl,rfl,SqL.of e2,hfar,?_⟩;refine⟨(by show 0<=sizeLine;decide),λf hf=>?_⟩;have s3:Same H2 (upd H2 f (.lst [])):=Same.up hf;have e3:upd H2 f (.lst []) f=some (.lst []):=zaa;generalize upd H2 f (.lst [])=H3 at s3 e3;have s02:=s1.trans s2;have hf0:H f=none:=s02.free hf;have s03:=s02.trans s3;have hh0:=CN hg (show (10:Int)≠0 by decide);have hh1:=CJ hg (show (0:Int)<10 by decide);have hw0:=CN wd (show (12:Int)≠0 by decide);have hw1:=CJ wd (show (0:Int)<12 by decide);refine⟨_,rfl,_,_,rfl,rfl,(by show (0:Int)<10;decide),_,_,rfl,rfl,_,rfl,(by show -(2 ^ 62)<=1+hg % 10;lia),(by show 1+hg % 10<2 ^ 62;lia),?_⟩
    refine zbA (lo := 0) (n := (1 + hg % 10).toNat) (λi σ H4 => ∃o10 o11, σ = [some (.ref a), some (.int st), some (.int wd), some (.int hg), some (.int sh), some (.int lf), some (.int lw), some (.int wy), some (.int far), some (.ref f), o10, o11] /\ Same H H4 /\
        ∃vs cs,H4 f=some (.lst vs)/\VR vs cs cR H4/\cs.Pairwise Bfr/\(∀c∈cs,c.2<(i:Int)+(lw-30)*far/\(lw-30)*far<=c.2/\(lf-30)*far<=c.1/\c.1<(lf-30)*far+12)/\cs.length<=12*i)
      ⟨_,_,rfl,s03,[],[],e3,VR.nil,.nil,by simp,Be _⟩ ?_ ?_
    . rintro i σ H4 hi ⟨o10,o11,rfl,s4,vs,cs,e4,hv4,hpw,hup,hcl⟩;have hi10:i<10:=by lia
      refine⟨_,rfl,_,rfl,_,_,rfl,rfl,_,rfl,_,_,rfl,rfl,a,ns,st+1+i,(by rw[Int.zero_add];rfl),s4.seq hS,λc1=>⟨_,rfl,_,_,rfl,rfl,?_⟩⟩;refine⟨_,rfl,_,_,rfl,rfl,(by show (0:Int)<12;decide),_,_,rfl,rfl,_,4,(1+wd % 12).toNat,(by rw[Int.toNat_of_nonneg (by lia)];rfl),by lia,by decide,by decide,λp5 H5 rs hp5 s5 e5 hl5 _=>?_⟩;have e45:=s5 _ _ e4;refine⟨_,rfl,.inl ⟨rfl,_,SqL.of e45⟩,_,rfl,p5,_,rfl,.inl (SqL.of e5),_,rfl,(by rw[Ai];lia),(by rw[Ai];lia),λg hg5=>?_⟩;rw[show ((((rs.map V.int).length:Nat):Int)).toNat=rs.length by rw[Ai];rfl];have hrl:rs.length<=12:=by lia
      refine zbA (lo:=0) (n:=rs.length) (λj σ H6=>∃o0,σ=[o0,some (.int (0+(i:Int))),some (.int far),some (.ref p5),some (.int sh),some (.int lf),some (.int lw)]/\Same H5 H6/\∃zs,H6 g=some (.lst zs)/\VR zs (rowX rs (sh % 3) ((lf-30)*far) ((i:Int)+(lw-30)*far) j) cR H6)
        ⟨_,rfl,Same.up hg5,[],zaa,VR.nil⟩ ?_ ?_
      . rintro j σ H6 hj ⟨o0,rfl,s6,zs,e6,hz6⟩;have hzl:zs.length<=12:=by rw[hz6.1];have:=zdP rs (sh % 3) ((lf-30)*far) ((i:Int)+(lw-30)*far) j;lia
        have hget:(rs.map V.int)[j]?=some (.int (rs.getD j 0)):=by rw[Ax,AC,Aa hj];rfl
        refine⟨_,rfl,_,rfl,p5,_,_,_,rfl,rfl,SqL.of (s6 _ _ e5),(by rw[Int.zero_add];exact zaT hget),_,rfl,_,_,rfl,rfl,(by show (0:Int)<3;decide),_,_,rfl,rfl,_,rfl,?_⟩;rw[zi4];refine ite2 (λhy=>?_) (λhn=>?_)
        . rw[if_pos (of_decide_eq_true hy)];refine⟨_,rfl,_,rfl,_,_,rfl,rfl,_,rfl,_,_,rfl,rfl,.inl ⟨by lia,by lia⟩,_,_,rfl,rfl,?_⟩;refine⟨_,rfl,_,rfl,_,_,rfl,rfl,_,rfl,_,_,rfl,rfl,.inl ⟨by lia,by lia⟩,_,_,rfl,rfl,two,λt ht=>?_⟩;have s7:Same H6 (upd H6 t (.tup [.int (0+(j:Int)+(lf-30)*far),.int (0+(i:Int)+(lw-30)*far)])):=Same.up ht;have r7:cR ((j:Int)+(lf-30)*far,(i:Int)+(lw-30)*far) (.ref t) (upd H6 t (.tup [.int (0+(j:Int)+(lf-30)*far),.int (0+(i:Int)+(lw-30)*far)])):=⟨t,rfl,by rw[zaa,Int.zero_add,Int.zero_add];rfl⟩;generalize upd H6 t (.tup [.int (0+(j:Int)+(lf-30)*far),.int (0+(i:Int)+(lw-30)*far)])=H7 at s7 r7;have e7:=s7 _ _ e6;refine⟨zs,e7,small1000 (by lia),_,rfl,zar hg5 (s6.trans s7),_,zaa,?_⟩;exact hz6.snoc (λx v h=>(h.kt (KT.of s7)).kt (KT.lst e7)) (r7.kt (KT.lst e7))
        . rw[if_neg (by simpa using hn)];exact⟨_,rfl,s6,zs,e6,by rw[AN];exact hz6⟩
      . rintro σ H6 ⟨o0,rfl,s6,zs,e6,hz6⟩;have hrx:=zdP rs (sh % 3) ((lf-30)*far) ((i:Int)+(lw-30)*far) rs.length;have hzl:zs.length<=12:=by rw[hz6.1];lia
        have hvl:vs.length<=120:=by rw[hv4.1];lia
        have e46:=s6 _ _ e45;refine⟨f,g,_,_,rfl,rfl,e46,e6,Bg (small1000 (by lia)),?_⟩;have k7:KT H6 (upd H6 f (.lst (vs++zs))):=KT.lst e46;refine⟨_,_,rfl,zar hf0 (s4.trans (s5.trans s6)),_,_,zaa,(hv4.mono λx v h=>(h.kt (KT.of (s5.trans s6))).kt k7).app (hz6.mono λx v h=>h.kt k7),?_,?_,?_⟩
        . refine List.pairwise_append.mpr ⟨hpw,zlB _ _ _ _ _,λx hx y hy=>zm3 ?_⟩;have:=(hup x hx).1;rw[zla hy];exact this
        . intro c hc;rcases AA.mp hc with h |h
          . have:=hup c h;lia
          . have e1:=zla h;have e2:=zmv h;lia
        . rw[Ak];lia
    . rintro σ H4 ⟨o10,o11,rfl,s4,vs,cs,e4,hv4,hpw,hup,hcl⟩;exact⟨_,rfl,k f H4 vs cs hf0 s4 e4 hv4 hpw (by lia) ⟨(lf-30)*far,(lw-30)*far,λc hc=>by have:=hup c hc;lia⟩⟩
noncomputable def tru(ks:List (List Key)):List (List Key×V):=ks.map λk=>(k,V.bl true)
theorem ziy:∀{ks:List (List Key)}{k:List Key},k ∉ ks->valV (tru ks) k=none
 |[],_,_=>rfl
 |x::xs,k,h=>by
  show valV ((x,V.bl true)::tru xs) k=none;rw[za5 (λe=>h (by rw[<- e];exact Az))];exact ziy λm=>h (Ar _ m)
theorem zkX:∀{ks:List (List Key)}{k:List Key},k∈ks->valV (tru ks) k=some (.bl true)
 |x::xs,k,h=>by
  show valV ((x,V.bl true)::tru xs) k=some (V.bl true)
  by_cases e:x=k
  .rw[za8 e]
  .rw[za5 e];exact zkX ((At.mp h).resolve_left λz=>e z.symm)
noncomputable def TabR(H:Hp)(t:Addr)(C:Cell->Bool):Prop:=∃kvs:List (List Key×V),Rd H t (.dT kvs)/\∀c:Cell,(valV kvs [DD c.1,DD c.2]).isSome=C c
theorem Same.rd{H H':Hp}{a:Addr}{o:HO}(s:Same H H')(h:Rd H a o):Rd H' a o:=h.elim (λe=>.inl (s _ _ e)) λ⟨x,e⟩=>.inr ⟨x,s _ _ e⟩
theorem TabR.same{H H':Hp}{t:Addr}{C:Cell->Bool}(h:TabR H t C)(s:Same H H'):TabR H' t C:=let ⟨kvs,e,q⟩:=h;⟨kvs,Same.rd s e,q⟩
theorem zg8(cs:List Cell)(c:Cell):(valV (tru (cs.map kC)) (kC c)).isSome=isIn cs c:=by
 show _=decide (c∈cs)
 by_cases m:c∈cs
 .rw[zkX (Aq.mpr ⟨c,m,rfl⟩),decide_eq_true m];rfl
 .rw[ziy (λz=>by obtain⟨x,hx,e⟩:=Aq.mp z;exact m ((zhx.mp e) ▸ hx)),decide_eq_false m];rfl
theorem TabR.of{H:Hp}{t:Addr}{cs:List Cell}(h:Rd H t (.dT (tru (cs.map kC)))):TabR H t (isIn cs):=⟨_,h,zg8 cs⟩
noncomputable def zhf(K:W.Frag):Sp:=λvs H Q _=>∃(t a:Addr) (C:Cell->Bool) (e:Edge),vs=[.ref t,.ref a]/\TabR H t C/\SqT K H a (edgeT e)/\e.w<4/\∀p q H',Same H H'->H' p=some (.tup [sv (stepB C e),.ref q])->H' q=some (.tup (edgeT (nxt C e)))->Q (.ref p) H'
theorem ze9 (g__law_gone:Fn P w K mg base 1 "_law_gone" ["_law_x","_law_y","_law_step"] zcU) (d:Df K mg "_law_behind" zbV ["_law_there","_law_edge"]):FnOk P w K mg base CX0 2 d.f d.fd ["_law_there","_law_edge"] (zhf K):=by
 refine d.F.ok zaX (λvs H Q E h=>?_) (λcdv A outer s H vs Q E hr h=>?_)
 .obtain⟨t,a,C,e,rfl,_⟩:=h;rfl
 .obtain⟨t,a,C,e,rfl,tab,hq,hw,k⟩:=h;have hu1:=hu_of hr
  refine⟨_,(zac (za2 (pv 1) (za0 (by rfl) (zae (nG 2 zaX.nd) (zae (nG 3 zaX.nd) (zae (nG 4 zaX.nd) zaq)))))
   (zac (sE 5 zaX.nd (pC g__law_gone hr (pa_N (pv 2) (pa_N (pv 3) (pa_B (pe_op zat (pe_op zaw (pe_op zbD zad (pv 4)) zad) zad) zab)))))
   (zac (sE 6 zaX.nd (pC g__law_gone hr (pa_N (pv 2) (pa_N (pv 3) (pa_B (pe_op zbD zad (pv 4)) zab)))))
   (zac (ps_if (zcy (zhl hu1 (pv 5) (pv 0)))
   (zag (zal (zan (pa_B (pe_op zat (pe_op zaw (pe_op zbD zad (pv 4)) zad) zad) (pa_B (pe_op zgF (pv 5) (zan (pa_B (pe_op zat (pe_op zaw (pv 4) zad) zad) zab))) zab)))))
   zaF)
   (zac (ps_if (zcy (zhl hu1 (pv 6) (pv 0)))
   (zag (zal (zan (pa_B (pe_op zbD zad (pv 4)) (pa_B (pe_op zgF (pv 6) (zan (pa_N (pv 4) zab))) zab)))))
   zaF)
   (zag (zal (zan (pa_C zbL (pa_T (zan (pa_N (pv 2) (pa_N (pv 3) (pa_B (pe_op zat (pe_op zaw (pv 4) zad) zad) zab)))) zab)))))))))),?_⟩
  refine⟨_,rfl,a,_,rfl,hq,rfl,_,_,rfl,_,_,rfl,_,_,rfl,rfl,?_⟩;have m7:(2*(e.w:Int)+7) % 8=(((2*e.w+7) % 8:Nat):Int):=by lia
  have m2:2*(e.w:Int)=((2*e.w:Nat):Int):=by lia
  refine⟨_,rfl,_,rfl,_,rfl,_,_,rfl,rfl,.inl ⟨by decide,by decide⟩,_,_,rfl,rfl,_,_,rfl,rfl,(by show (0:Int)<8;decide),e.c,(2*e.w+7) % 8,(by rw[<- m7];rfl),A1 _ (by decide),λp1 H1 hp1 s1 e1=>?_⟩;refine⟨_,rfl,_,rfl,_,rfl,_,_,rfl,rfl,.inl ⟨by decide,by decide⟩,e.c,2*e.w,(by rw[<- m2];rfl),by lia,λp2 H2 hp2 s2 e2=>?_⟩;have s12:=s1.trans s2;obtain⟨kvs,et,hC⟩:=tab;have e12:=s2 _ _ e1;refine⟨_,rfl,_,rfl,t,_,rfl,.inr ⟨kvs,kC (go e.c ((2*e.w+7) % 8)),p1,(Same.rd s12 et),rfl,e12,rfl⟩,_,rfl,?_⟩;have hc1:=hC (go e.c ((2*e.w+7) % 8));change (valV kvs (kC (go e.c ((2*e.w+7) % 8)))).isSome=_ at hc1;rw[hc1]
  cases c1:C (go e.c ((2*e.w+7) % 8)) with
  |true =>
   refine iteT ?_
   have hs:stepB C e=some ((2*e.w+7) % 8):=by unfold stepB;rw[c1,if_pos rfl]
   refine⟨_,rfl,_,_,rfl,rfl,.inl ⟨by decide,by decide⟩,_,_,rfl,rfl,_,_,rfl,rfl,(by show (0:Int)<8;decide),?_⟩;refine⟨_,rfl,_,rfl,_,_,rfl,rfl,_,_,rfl,rfl,(by show (0:Int)<4;decide),(by show 1<=sizeLine;decide),λt3 h3=>?_⟩;have s3:=Same.up (o:=.tup [.int (((e.w:Int)+3) % 4)]) h3;have f3:upd H2 t3 (.tup [.int (((e.w:Int)+3) % 4)]) t3=some (.tup [.int (((e.w:Int)+3) % 4)]):=zaa;generalize upd H2 t3 (.tup [.int (((e.w:Int)+3) % 4)])=H3 at s3 f3;refine⟨p1,t3,_,_,rfl,rfl,SqT.of (s3 _ _ e12),SqT.of f3,(by simp[cellT]),three,(λz=>by cases z),λ_ q hq'=>?_⟩;have s4:=Same.up (o:=.tup (cellT (go e.c ((2*e.w+7) % 8))++[.int (((e.w:Int)+3) % 4)])) hq';have f4:upd H3 q (.tup (cellT (go e.c ((2*e.w+7) % 8))++[.int (((e.w:Int)+3) % 4)])) q=some (.tup (cellT (go e.c ((2*e.w+7) % 8))++[.int (((e.w:Int)+3) % 4)])):=zaa;generalize upd H3 q (.tup (cellT (go e.c ((2*e.w+7) % 8))++[.int (((e.w:Int)+3) % 4)]))=H4 at s4 f4;refine⟨two,λp5 h5=>?_⟩;refine k p5 q _ (s12.trans (s3.trans (s4.trans (Same.up h5)))) ?_ ?_
   .rw[zaa,hs];show some (HO.tup [.int ((2*(e.w:Int)+7) % 8),.ref q])=some (HO.tup [.int (((2*e.w+7) % 8:Nat):Int),.ref q]);rw[m7]
   .rw[Same.up h5 _ _ f4];unfold nxt;rw[hs];show _=some (HO.tup (edgeT (if (2*e.w+7) % 8 % 2=1 then ⟨go e.c ((2*e.w+7) % 8),(e.w+3) % 4⟩ else ⟨go e.c ((2*e.w+7) % 8),e.w⟩)));rw[if_pos (by lia)];show some (HO.tup [.int _,.int _,.int (((e.w:Int)+3) % 4)])=some (HO.tup [.int _,.int _,.int (((e.w+3) % 4:Nat):Int)]);rw[show ((e.w:Int)+3) % 4=(((e.w+3) % 4:Nat):Int) by lia]
  |false =>
   refine iteF ?_
   refine⟨_,rfl,_,rfl,t,_,rfl,.inr ⟨kvs,kC (go e.c (2*e.w)),p2,(Same.rd s12 et),rfl,e2,rfl⟩,_,rfl,?_⟩;have hc2:=hC (go e.c (2*e.w));change (valV kvs (kC (go e.c (2*e.w)))).isSome=_ at hc2;rw[hc2]
   cases c2:C (go e.c (2*e.w)) with
   |true =>
    refine iteT ?_
    have hs:stepB C e=some (2*e.w):=by unfold stepB;rw[c1,if_neg (by simp),c2,if_pos rfl]
    refine⟨_,rfl,_,_,rfl,rfl,.inl ⟨by decide,by decide⟩,?_⟩;refine⟨_,rfl,_,rfl,(by show 1<=sizeLine;decide),λt3 h3=>?_⟩;have s3:=Same.up (o:=.tup [.int (e.w:Int)]) h3;have f3:upd H2 t3 (.tup [.int (e.w:Int)]) t3=some (.tup [.int (e.w:Int)]):=zaa;generalize upd H2 t3 (.tup [.int (e.w:Int)])=H3 at s3 f3;refine⟨p2,t3,_,_,rfl,rfl,SqT.of (s3 _ _ e2),SqT.of f3,(by simp[cellT]),three,(λz=>by cases z),λ_ q hq'=>?_⟩;have s4:=Same.up (o:=.tup (cellT (go e.c (2*e.w))++[.int (e.w:Int)])) hq';have f4:upd H3 q (.tup (cellT (go e.c (2*e.w))++[.int (e.w:Int)])) q=some (.tup (cellT (go e.c (2*e.w))++[.int (e.w:Int)])):=zaa;generalize upd H3 q (.tup (cellT (go e.c (2*e.w))++[.int (e.w:Int)]))=H4 at s4 f4;refine⟨two,λp5 h5=>?_⟩;refine k p5 q _ (s12.trans (s3.trans (s4.trans (Same.up h5)))) ?_ ?_
    .rw[zaa,hs];show some (HO.tup [.int (2*(e.w:Int)),.ref q])=some (HO.tup [.int ((2*e.w:Nat):Int),.ref q]);rw[m2]
    .rw[Same.up h5 _ _ f4];unfold nxt;rw[hs];show _=some (HO.tup (edgeT (if 2*e.w % 2=1 then ⟨go e.c (2*e.w),(e.w+3) % 4⟩ else ⟨go e.c (2*e.w),e.w⟩)));rw[if_neg (by lia)];rfl
   |false =>
    refine iteF ?_
    have hs:stepB C e=none:=by unfold stepB;rw[c1,if_neg (by simp),c2,if_neg (by simp)]
    refine⟨_,rfl,_,rfl,_,rfl,_,_,rfl,rfl,_,_,rfl,rfl,(by show (0:Int)<4;decide),three,λq hq'=>?_⟩;have s4:=Same.up (o:=.tup [.int e.c.1,.int e.c.2,.int (((e.w:Int)+1) % 4)]) hq';have f4:upd H2 q (.tup [.int e.c.1,.int e.c.2,.int (((e.w:Int)+1) % 4)]) q=some (.tup [.int e.c.1,.int e.c.2,.int (((e.w:Int)+1) % 4)]):=zaa;generalize upd H2 q (.tup [.int e.c.1,.int e.c.2,.int (((e.w:Int)+1) % 4)])=H4 at s4 f4;refine⟨two,λp5 h5=>?_⟩;refine k p5 q _ (s12.trans (s4.trans (Same.up h5))) ?_ ?_
    .rw[zaa,hs];rfl
    .rw[Same.up h5 _ _ f4];unfold nxt;rw[hs];show some (HO.tup [.int _,.int _,.int (((e.w:Int)+1) % 4)])=some (HO.tup [.int _,.int _,.int (((e.w+1) % 4:Nat):Int)]);rw[show ((e.w:Int)+1) % 4=(((e.w+1) % 4:Nat):Int) by lia];rfl
noncomputable def dC(L:List Cell):List (List Key×V):=L.map λc=>(kC c,V.bl true)
theorem zhK(L:List Cell):(dC L).length=L.length:=by unfold dC;rw[Ai]
theorem zb8(c:Cell):∀L:List Cell,(valV (dC L) (kC c)).isSome=isIn L c
 |[]=>by simp[dC,valV,isIn]
 |d::L=>by
  have ih:=zb8 c L;unfold isIn at *
  by_cases e:d=c
  .subst e;simp[dC,valV]
  .have e2:¬ kC d=kC c:=λz=>e (zhx.mp z)
   have e3:¬ c=d:=λz=>e z.symm
   have e4:valV (dC (d::L)) (kC c)=valV (dC L) (kC c):=by simp[dC,valV,CM,e2]
   rw[e4,ih];simp[e3]
theorem zhh{L:List Cell}{c:Cell}(h:c ∉ L):putK (dC L) (kC c) (.bl true)=dC (L++[c]):=by
 rw[L2.putK_new]
 .unfold dC;rw[AJ];rfl
 .have:=zb8 c L;unfold isIn at this;rw[decide_eq_false h]at this
  cases z:valV (dC L) (kC c) with
  |none=>rfl
  |some v=>rw[z]at this;cases this
theorem zlI{L:List Cell}{c:Cell}(h:c∈L):putK (dC L) (kC c) (.bl true)=dC L:=by
 have:∀L:List Cell,((dC L).map λkv=>if kv.1=kC c then (kv.1,V.bl true) else kv)=dC L:=by
  intro L;unfold dC;rw[DH]
  apply B7
  intro d _;simp only[Function.comp];split <;> rfl
 unfold putK;rw[if_pos]
 .have:=this L;simpa using this
 .rw[List.any_eq_true];exact⟨(kC c,.bl true),Aq.mpr ⟨c,h,rfl⟩,by simp⟩
theorem zmK{K:W.Frag}{H:Hp}{a:Addr}{vs:List V}{cs:List Cell}(e:SqL K H a vs)(h:VR vs cs cR H){q:Addr}{Q:VK}(f:H q=some (.lst []))(k:Q (.bl (!decide (cs=[]))) H):rNeD K (.ref a) (.ref q) H Q:=by
 refine⟨lT (cs.map cI),lT [],zkm e h,.lst (SqL.of f) .nil,zfG _,zfG _,?_⟩
 cases cs with
 |nil=>exact k
 |cons c l=>exact k
theorem zmW(L:List Cell):dC L=tru (L.map kC):=by unfold dC tru;rw[DH];rfl
structure Fld (D:Cell->Bool) (S:List Nat) (a:Cell) (F L:List Cell):Prop where
 nd:F.Nodup
 st:a∈F
 rch:∀c∈F,Rch D S a c
 sub:∀c∈L,c∈F
 cls:∀c∈F,c∈L∨∀s∈S,D (go c s)=true->go c s∈F
 le:L.length<=F.length
theorem Fld.init(D:Cell->Bool)(S:List Nat)(a:Cell):Fld D S a [a] [a]:=⟨by simp,by simp,λc hc=>by rw[An.mp hc];exact .refl,λc h=>h,λc h=>.inl h,Aj _⟩
theorem Fld.done{D:Cell->Bool}{S:List Nat}{a:Cell}{F:List Cell}(h:Fld D S a F [])(c:Cell):c∈F ↔ Rch D S a c:=by
 refine⟨h.rch c,λr=>?_⟩
 induction r with
 |refl=>exact h.st
 |step k hs hd ih =>
  rcases h.cls _ ih with z |z
  .cases z
  .exact z _ hs hd
structure FS (D:Cell->Bool) (S:List Nat) (a c:Cell) (F L:List Cell) (i:Nat):Prop where
 nd:F.Nodup
 st:a∈F
 rch:∀y∈F,Rch D S a y
 sub:∀y∈L,y∈F
 cf:c∈F
 cls:∀y∈F,y∈L∨y=c∨∀s∈S,D (go y s)=true->go y s∈F
 dn:∀(j:Nat) s,j<i->S[j]?=some s->D (go c s)=true->go c s∈F
 le:L.length<=F.length
section
variable {D:Cell->Bool}{S:List Nat}{a c:Cell}{F L B:List Cell}{i s:Nat}
theorem Fld.pop(h:Fld D S a F (L++[c])):FS D S a c F L 0:=by
 refine⟨h.nd,h.st,h.rch,λy hy=>h.sub y (Bf _ hy),h.sub c (by simp),λy hy=>?_,λj s hj=>absurd hj (Nat.not_lt_zero _),by have:=h.le;rw[Ak,Bs]at this;lia⟩;rcases h.cls y hy with z |z
 .rcases AA.mp z with z |z
  .exact .inl z
  .exact .inr (.inl (An.mp z))
 .exact .inr (.inr z)
theorem FS.skip(h:FS D S a c F L i)(hs:S[i]?=some s)(t:D (go c s)=true->go c s∈F):FS D S a c F L (i+1):=by
 refine⟨h.nd,h.st,h.rch,h.sub,h.cf,h.cls,λj u hj hu hd=>?_,h.le⟩;rcases AX j i with z |z
 .exact h.dn j u z hu hd
 .have e:j=i:=by lia
  subst e;rw[hs]at hu
  cases hu
  exact t hd
theorem FS.more(h:FS D S a c F L i)(hs:S[i]?=some s)(hd:D (go c s)=true)(hn:go c s ∉ F):FS D S a c (F++[go c s]) (L++[go c s]) (i+1):=by
 have sF:∀y,y∈F->y∈F++[go c s]:=λy hy=>Bf _ hy
 refine⟨zjr h.nd hn,sF _ h.st,λy hy=>?_,λy hy=>?_,sF _ h.cf,λy hy=>?_,λj u hj hu hd'=>?_,by simpa using h.le⟩
 .rcases AA.mp hy with z |z
  .exact h.rch y z
  .rw[An.mp z];exact .step (h.rch c h.cf) (Ag hs) hd
 .rcases AA.mp hy with z |z
  .exact sF _ (h.sub y z)
  .exact Ap _ z
 .rcases AA.mp hy with z |z
  .rcases h.cls y z with q |q |q
   .exact .inl (Bf _ q)
   .exact .inr (.inl q)
   .exact .inr (.inr λu hu hd'=>sF _ (q u hu hd'))
  .exact .inl (Ap _ z)
 .rcases AX j i with z |z
  .exact sF _ (h.dn j u z hu hd')
  .have e:j=i:=by lia
   subst e;rw[hs]at hu
   cases hu
   exact Ap _ (by simp)
theorem FS.done(h:FS D S a c F L S.length):Fld D S a F L:=by
 refine⟨h.nd,h.st,h.rch,h.sub,λy hy=>?_,h.le⟩;rcases h.cls y hy with q |q |q
 .exact .inl q
 .subst q;refine .inr λu hu hd=>?_
  obtain⟨j,hj,ej⟩:=Ay hu;exact h.dn j u hj (by rw[Aa hj,ej]) hd
 .exact .inr q
theorem FS.few(h:FS D S a c F L i)(hB:∀c,Rch D S a c->c∈B):F.length<=B.length:=zao h.nd λy hy=>hB y (h.rch y hy)
end
theorem zmx{Ls:List Cell}{S:List Nat}{a c:Cell}(h:Rch (isIn Ls) S a c):c∈a::Ls:=by
 cases h with
 |refl=>exact Az
 |step _ _ hd=>exact Ar _ (of_decide_eq_true hd)
noncomputable def FI(H0:Hp)(f l:Addr)(H:Hp)(F L:List Cell):Prop:=Same H0 H/\H f=some (.dT (dC F))/\∃zs,H l=some (.lst zs)/\VR zs L cR H
theorem VR.pop{H:Hp}{zs:List V}{L:List Cell}{c:Cell}(h:VR zs (L++[c]) cR H):zs.length=L.length+1/\(∃x,zs[L.length]?=some (.ref x)/\H x=some (.tup (cellT c)))/\VR zs.dropLast L cR H:=by
 have zl:zs.length=L.length+1:=by rw[h.1];simp
 obtain⟨z,hz⟩:∃z,zs[L.length]?=some z:=⟨_,Aa (by lia)⟩;obtain⟨c',hc',x,hx,ex⟩:=h.at hz;have e:c'=c:=by rw[A0 (Aj _)]at hc';simpa using hc'.symm
 subst e;subst hx;refine⟨zl,⟨x,hz,ex⟩,by rw[List.length_dropLast,zl];lia,λi y v h1 h2=>?_⟩;have hi:=(Ad.mp h1).1;rw[List.getElem?_dropLast]at h2;split at h2
 .exact h.2 i y v (by rw[AG hi];exact h1) h2
 .cases h2
theorem bigF{n:Nat}(h:n<=60001):n<sizeLine:=CH h (by decide)
noncomputable def ziP(K:W.Frag):Sp:=λvs H Q _=>∃(t b q:Addr) (a:Cell) (Ls:List Cell) (S:List Nat),vs=[.ref t,.ref b,.ref q]/\Rd H t (.dT (dC Ls))/\H b=some (.tup (cellT a))/\H q=some (.lst (S.map λs:Nat=>V.int (s:Int)))/\(∀s∈S,s<8)/\Ls.length<=60000 /\
 ∀f H' F,H f=none->Same H H'->H' f=some (.dT (dC F))->F.Nodup->(∀c,c∈F ↔ Rch (isIn Ls) S a c)->Q (.ref f) H'
theorem zfR (g__law_gone:Fn P w K mg base 1 "_law_gone" ["_law_x","_law_y","_law_step"] zcU) (d:Df K mg "_law_flood" zcj ["_law_there","_law_first","_law_steps"]):FnOk P w K mg base CX0 2 d.f d.fd ["_law_there","_law_first","_law_steps"] (ziP K):=by
 refine d.F.ok zaQ (λvs H Q E h=>?_) (λcdv A outer s H vs Q E hr h=>?_)
 .obtain⟨t,b,q,a,Ls,S,rfl,_⟩:=h;rfl
 .obtain⟨t,b,q,a,Ls,S,rfl,ht,hb,hq,hS,hlen,k⟩:=h;have hu1:=hu_of hr;have hu64:=hr.units
  refine⟨_,(zac (sE 3 zaQ.nd (zkt hu1 (pv 1) pe_bl))
   (zac (sE 4 zaQ.nd (zaI (pa_N (pv 1) zab)))
   (zac (zhj Bd (zay (zjk hu64) (pv 4) (zaI zab) (zaz _))
   (zac (za2 (zmE AL PySem.F.slot_list_pop PySem.F.type_list_pop zmL (pv 4)) (za0 (by rfl) (zae (nG 5 zaQ.nd) (zae (nG 6 zaQ.nd) zaq))))
   (zag (zbr Bd rfl (za3 (pv 2)) (nG 7 zaQ.nd)
   (zac (sE 8 zaQ.nd (pC g__law_gone hr (pa_N (pv 5) (pa_N (pv 6) (pa_N (pv 7) zab)))))
   (zag (ps_if (zi6 (zcy (zhl hu1 (pv 8) (pv 0))) (zgC (zcy (zbM hu1 (pv 8) (pv 3))))).pt
   (zac (ze2 hu1 (pv 3) (pv 8) pe_bl rfl)
   (zag (zbc (pe_bm AL Ba Bb zaU (pv 4) (pa_N (pv 8) zab)))))
   zaF)))))))
   (zag (zal (pv 3)))))),?_⟩
  have hσ:L2.start zdr [V.ref t,V.ref b,V.ref q]=[some (.ref t),some (.ref b),some (.ref q),none,none,none,none,none,none]:=rfl;rw[hσ];refine λf hf=>?_
  have hfb:f≠b:=λz=>by subst z;rw[hb]at hf;cases hf
  have b1:upd H f (.dT []) b=some (.tup (cellT a)):=by rw[zai (Bx hfb)];exact hb
  refine⟨_,rfl,_,.inr ⟨[],kC a,b,zaa,rfl,b1,(by show 0<sizeLine;decide),rfl⟩,?_⟩;have e0:putK ([]:List (List Key×V)) (kC a) (.bl true)=dC [a]:=zhh (L:=[]) (by simp);rw[e0,zir];have s1:Same H (upd H f (.dT (dC [a]))):=Same.up hf;have f1:upd H f (.dT (dC [a])) f=some (.dT (dC [a])):=zaa;simp only[zau,AH,AI];generalize upd H f (.dT (dC [a]))=H1 at s1 f1;refine⟨_,rfl,(by show 1<=sizeLine;decide),λl hl=>?_⟩;have hl0:H l=none:=s1.free hl;have hlf:l≠f:=λz=>by subst z;rw[f1]at hl;cases hl
  have s2:Same H (upd H1 l (.lst [.ref b])):=s1.trans (Same.up hl);have f2:=Same.up (o:=.lst [.ref b]) hl _ _ f1;have l2:upd H1 l (.lst [.ref b]) l=some (.lst [.ref b]):=zaa;simp only[zau,AH,AI];generalize upd H1 l (.lst [.ref b])=H2 at s2 f2 l2;have hB:∀c,Rch (isIn Ls) S a c->c∈a::Ls:=λc h=>zmx h
  refine⟨λm σ H3=>∃F L o5 o6 o7 o8,m=2*((a::Ls).length-F.length)+L.length/\σ=[some (.ref t),some (.ref b),some (.ref q),some (.ref f),some (.ref l),o5,o6,o7,o8]/\FI H f l H3 F L/\Fld (isIn Ls) S a F L,
   ⟨_,[a],[a],_,_,_,_,rfl,rfl,⟨s2,f2,_,l2,VR.cons.mpr ⟨⟨b,rfl,s2 _ _ hb⟩,VR.nil⟩⟩,Fld.init _ _ _⟩,?_⟩
  rintro m σ H3 ⟨F,L,o5,o6,o7,o8,rfl,rfl,⟨s3,f3,zs,l3,v3⟩,fld⟩;refine⟨_,rfl,Be _,λe he=>?_⟩;have s4:=s3.trans (Same.up (o:=.lst []) he);have f4:=Same.up (o:=.lst []) he _ _ f3;have l4:=Same.up (o:=.lst []) he _ _ l3;have v4:=v3.mono λx v h=>h.kt (KT.up (o:=.lst []) he)
  have e4:upd H3 e (.lst []) e=some (.lst []):=zaa;generalize upd H3 e (.lst [])=H4 at s4 f4 l4 v4 e4;refine zmK (SqL.of l4) v4 e4 ⟨_,rfl,?_⟩
  by_cases hL:L=[]
  .subst hL;refine iteN (by simp) ?_
   exact⟨_,rfl,k f H4 F hf s4 f4 fld.nd fld.done⟩
  .refine iteY (by simp[hL]) ?_
   obtain⟨L',c,rfl⟩:∃L' c,L=L'++[c]:=⟨L.dropLast,L.getLast hL,(List.dropLast_concat_getLast hL).symm⟩;obtain⟨zl,⟨x,hz,ex⟩,v5⟩:=v4.pop
   refine⟨λσ' H'=>∃F2 L2 o5 o6 o7 o8,2*((a::Ls).length-F2.length)+L2.length<2*((a::Ls).length-F.length)+(L'++[c]).length/\σ'=[some (.ref t),some (.ref b),some (.ref q),some (.ref f),some (.ref l),o5,o6,o7,o8]/\FI H f l H' F2 L2/\Fld (isIn Ls) S a F2 L2,
    λσ' H' ⟨F2,L2,o5,o6,o7,o8,h1,h2,h3,h4⟩=>⟨_,h1,F2,L2,o5,o6,o7,o8,rfl,h2,h3,h4⟩,?_⟩
   refine⟨_,rfl,.inl ⟨rfl,_,SqL.of l4⟩,l,zs,_,rfl,rfl,l4,(by rw[zl];exact hz),?_⟩;have kl:KT H4 (upd H4 l (.lst zs.dropLast)):=KT.lst l4;have s5:Same H (upd H4 l (.lst zs.dropLast)):=zar hl0 s4;have f5:upd H4 l (.lst zs.dropLast) f=some (.dT (dC F)):=by rw[zai (Bx hlf)];exact f4
   have l5:upd H4 l (.lst zs.dropLast) l=some (.lst zs.dropLast):=zaa;have v5:=v5.mono λx v h=>h.kt kl
   have ex5:=kl _ _ ex;generalize upd H4 l (.lst zs.dropLast)=H5 at s5 f5 l5 v5 ex5;refine⟨x,_,rfl,SqT.of ex5,rfl,_,_,rfl,_,_,rfl,rfl,?_⟩;refine⟨_,rfl,q,rfl,⟨_,SqL.of (s5 _ _ hq)⟩,?_⟩
   refine zaK (K:=K) (a:=q) (xs:=S.map λs:Nat=>V.int (s:Int)) (λi σ H6=>∃F2 L2 o7 o8,σ=[some (.ref t),some (.ref b),some (.ref q),some (.ref f),some (.ref l),some (.int c.1),some (.int c.2),o7,o8]/\FI H f l H6 F2 L2/\FS (isIn Ls) S a c F2 L2 i/\2*((a::Ls).length-F2.length)+L2.length<=2*((a::Ls).length-F.length)+L'.length)
    ⟨F,L',_,_,rfl,⟨s5,f5,_,l5,v5⟩,fld.pop,Aj _⟩ (λi σ H6 _ ⟨_,_,_,_,_,⟨s6,_⟩,_⟩=>SqL.of (s6 _ _ hq)) ?_ ?_
   .rintro i v σ H6 hi ⟨F2,L2,o7,o8,rfl,⟨s6,f6,ys,l6,v6⟩,fs,hm⟩;rw[Ax]at hi;obtain⟨sn,hsn,rfl⟩:=Bc.mp hi;have hs8:sn<8:=hS sn (Ag hsn);refine⟨_,rfl,_,rfl,_,rfl,c,sn,rfl,hs8,λp1 H7 hp1 s67 g7=>?_⟩;have s7:=s6.trans s67;have f7:=s67 _ _ f6;have l7:=s67 _ _ l6;have v7:=v6.mono λx v h=>h.kt (KT.of s67)
    refine⟨_,rfl,_,rfl,t,_,rfl,.inr ⟨_,kC (go c sn),p1,Same.rd s7 ht,rfl,g7,rfl⟩,_,rfl,?_⟩;rw[zb8]
    by_cases hD:isIn Ls (go c sn)=true
    .refine iteY hD ?_
     refine⟨_,rfl,_,rfl,f,_,rfl,.inr ⟨_,kC (go c sn),p1,Rd.of f7,rfl,g7,rfl⟩,_,rfl,?_⟩;rw[zb8]
     by_cases hF:go c sn∈F2
     .refine iteN (by rw[show isIn F2 (go c sn)=true from decide_eq_true hF];rfl) ?_
      exact⟨F2,L2,_,_,rfl,⟨s7,f7,_,l7,v7⟩,fs.skip hsn λ_=>hF,hm⟩
     .refine iteY (by rw[show isIn F2 (go c sn)=false from decide_eq_false hF];rfl) ?_
      have fm:=fs.more hsn hD hF;have few:=fm.few hB;rw[Ak,Bs,A7]at few;have hF2:F2.length<=60000:=by lia
      refine⟨_,rfl,_,rfl,f,_,rfl,.inr ⟨dC F2,kC (go c sn),p1,f7,rfl,g7,(by rw[zhK];exact bigF (by lia)),rfl⟩,?_⟩;rw[zhh hF];have s8:Same H (upd H7 f (.dT (dC (F2++[go c sn])))):=zar hf s7;have k8:KT H7 (upd H7 f (.dT (dC (F2++[go c sn])))):=KT.dct f7;have l8:upd H7 f (.dT (dC (F2++[go c sn]))) l=some (.lst ys):=by rw[zai hlf];exact l7
      have f8:upd H7 f (.dT (dC (F2++[go c sn]))) f=some (.dT (dC (F2++[go c sn]))):=zaa;have v8:=v7.mono λx v h=>h.kt k8
      have g8:=k8 _ _ g7;generalize upd H7 f (.dT (dC (F2++[go c sn])))=H8 at s8 k8 l8 f8 v8 g8;have hyl:ys.length<=60000:=by rw[v8.1];have:=fs.le;lia
      refine⟨_,rfl,.inl ⟨rfl,_,SqL.of l8⟩,_,rfl,l,ys,_,rfl,rfl,l8,bigF (by lia),?_⟩;have k9:KT H8 (upd H8 l (.lst (ys++[.ref p1]))):=KT.lst l8;refine⟨F2++[go c sn],L2++[go c sn],_,_,rfl,⟨zar hl0 s8,by rw[zai (Bx hlf)];exact f8,_,zaa,v8.snoc (λx v h=>h.kt k9) ⟨p1,rfl,k9 _ _ g8⟩⟩,fm,?_⟩;rw[Ak,Ak,Bs,A7];rw[A7]at hm;lia
    .refine iteN (by simpa using hD) ?_
     exact⟨F2,L2,_,_,rfl,⟨s7,f7,_,l7,v7⟩,fs.skip hsn λz=>absurd z hD,hm⟩
   .rintro σ H6 ⟨F2,L2,o7,o8,rfl,fi,fs,hm⟩;rw[Ai]at fs;exact⟨F2,L2,_,_,_,_,by rw[Ak,Bs];lia,rfl,fi,fs.done⟩
theorem bigE{n:Nat}(h:n<=1000000):n<sizeLine:=CH h (by decide)
theorem zex:∀(l:List Nat) (c:Cell),(zas c l)[l.length]?=some (endC c l)
 |[],_=>rfl
 |x::l,c=>by
  show (c::zas (go c x) l)[l.length+1]?=some (endC (go c x) l);rw[Cp];exact zex l (go c x)
theorem zlC{l:List Nat}{i:Nat}{v:V}(h:(rowV l)[i]?=some v):∃s:Nat,l[i]?=some s/\v=.int (s:Int):=by unfold rowV at h;rw[Ax]at h;obtain⟨s,h1,h2⟩:=Bc.mp h;exact⟨s,h1,h2.symm⟩
structure Lots (cs P:List Cell):Prop where
 nd:P.Nodup
 mem:∀c,c∈P ↔ c∈cs
 len:P.length<=cs.length
 same:cs.Nodup->P=cs
theorem Lots.snoc{cs P:List Cell}{c:Cell}(h:Lots cs P):∃P',putK (dC P) (kC c) (.bl true)=dC P'/\Lots (cs++[c]) P':=by
 by_cases z:c∈P
 .refine⟨P,zlI z,h.nd,λd=>?_,?_,λhn=>?_⟩
  .rw[AA,An,h.mem];refine⟨.inl,λy=>y.elim id λe=>?_⟩;rw[e];exact (h.mem _).mp z
  .have:=h.len;rw[Ak];lia
  .have:=(List.nodup_append.mp hn).2.2 c ((h.mem _).mp z) c (List.mem_singleton.mpr rfl);exact absurd rfl this
 .refine⟨P++[c],zhh z,?_,λd=>?_,?_,λhn=>?_⟩
  .exact List.nodup_append.mpr ⟨h.nd,by simp,λx hx y hy e=>by rw[An.mp hy]at e;exact z (e ▸ hx)⟩
  .rw[AA,AA,An,h.mem]
  .have:=h.len;rw[Ak,Ak];simp only[Bs];lia
  .rw[h.same (List.nodup_append.mp hn).1]
noncomputable def ziL(K:W.Frag):Sp:=λvs H Q _=>∃(a:Addr) (us:List V) (cs:List Cell),vs=[.ref a]/\SqL K H a us/\VR us cs cR H/\cs.length<=60000/\∀t H' L,H t=none->Same H H'->H' t=some (.dT (dC L))->Lots cs L->Q (.ref t) H'
theorem zgK (d:Df K mg "_law_lot" zc9 ["_law_cells"]):FnOk P w K mg base CX0 1 d.f d.fd ["_law_cells"] (ziL K):=by
 refine d.F.ok zcD (λvs H Q E h=>?_) (λcdv A outer s H vs Q E hr h=>?_)
 .obtain⟨a,us,cs,rfl,_⟩:=h;rfl
 .obtain⟨a,us,cs,rfl,hq,hv,hlen,k⟩:=h;have hu1:=hu_of hr
  refine⟨_,(zac (sE 1 zcD.nd zcW)
   (zac (zbr Bd rfl (za3 (pv 0)) (nG 2 zcD.nd)
   (zag (ze2 hu1 (pv 1) (pv 2) pe_bl rfl)))
   (zag (zal (pv 1))))),?_⟩
  refine λp hp=>?_
  refine⟨_,rfl,a,rfl,⟨_,(Same.up hp).seq hq⟩,?_⟩
  refine zaK (K:=K) (a:=a) (xs:=us) (λi σ H2=>∃o L,σ=[some (.ref a),some (.ref p),o]/\Same H H2/\H2 p=some (.dT (dC L))/\Lots (cs.take i) L)
   ⟨_,[],rfl,Same.up hp,zaa,⟨List.nodup_nil,λc=>Iff.rfl,Aj _,λ_=>rfl⟩⟩ (λi σ H2 _ ⟨_,_,_,s2,_⟩=>s2.seq hq) ?_ ?_
  .rintro i v σ H2 hi ⟨o,L,rfl,s2,e2,lt⟩;obtain⟨c,hc,b,rfl,q⟩:=hv.at hi;have hil:i<cs.length:=(Ad.mp hc).1;obtain⟨L',e3,lt'⟩:=lt.snoc (c:=c);have hLl:L.length<=60000:=by have:=lt.len;rw[A6]at this;lia
   refine⟨_,rfl,_,rfl,p,_,rfl,.inr ⟨dC L,kC c,b,e2,rfl,s2 _ _ q,(by rw[zhK];exact bigF (by lia)),rfl⟩,?_⟩;rw[e3];refine⟨_,L',rfl,λz o e=>?_,zaa,by rw[zaG hc];exact lt'⟩;rw[zai (zaj e hp)];exact s2 z o e
  .rintro σ H2 ⟨o,L,rfl,s2,e2,lt⟩;rw[hv.1,AS]at lt;exact⟨_,rfl,k p H2 L hp s2 e2 lt⟩
noncomputable def ziH(K:W.Frag):Sp:=λvs H Q _=>∃(v:V) (r:Rnd),vs=[v]/\rR r v H/\(∀s∈r.row,s<8)/\r.row.length<=240/\∀t H' L,H t=none->Same H H'->H' t=some (.dT (dC L))->Lots (zas (r.x,r.y) r.row) L->Q (.ref t) H'
theorem zgI (g__law_gone:Fn P w K mg base 1 "_law_gone" ["_law_x","_law_y","_law_step"] zcU) (g__law_lot:Fn P w K mg base 1 "_law_lot" ["_law_cells"] (ziL K)) (d:Df K mg "_law_seen" zcH ["_law_one"]):FnOk P w K mg base CX0 2 d.f d.fd ["_law_one"] (ziH K):=by
 refine d.F.ok za1 (λvs H Q E h=>?_) (λcdv A outer s H vs Q E hr h=>?_)
 .obtain⟨v,r,rfl,_⟩:=h;rfl
 .obtain⟨v,r,rfl,⟨a,b,rfl,q1,q2⟩,h8,hlen,k⟩:=h
  refine⟨_,(zac (za2 (pv 0) (za0 (by rfl) (zae (nG 1 za1.nd) (zae (nG 2 za1.nd) (zae (nG 3 za1.nd) (zae (nG 4 za1.nd) zaq))))))
   (zac (sE 5 za1.nd (zaI (pa_T (zan (pa_N (pv 2) (pa_N (pv 3) zab))) zab)))
   (zac (zbr Bd rfl (zjb (pv 4)) (nG 6 za1.nd)
   (zag (zbc (pe_bm AL Ba Bb zaU (pv 5) (zah (pC g__law_gone hr (zah (pe_ix zcn (pe_ix zaP (pv 5) (pe_un zb9 zad) (λ_ _=>rfl)) zad (λ_ _=>rfl)) (zah (pe_ix zcn (pe_ix zaP (pv 5) (pe_un zb9 zad) (λ_ _=>rfl)) zad (λ_ _=>rfl)) (pa_N (pv 6) zab)))) zab)))))
   (zag (zal (pC g__law_lot hr (pa_N (pv 5) zab))))))),?_⟩
  have hσ:L2.start zeh [V.ref a]=[some (.ref a),none,none,none,none,none,none]:=rfl;rw[hσ];refine⟨_,rfl,a,_,rfl,SqT.of q1,rfl,_,_,rfl,_,_,rfl,_,_,rfl,_,_,rfl,rfl,?_⟩;refine⟨_,rfl,_,rfl,two,λt ht=>?_⟩;have s1:=Same.up (o:=.tup [.int r.x,.int r.y]) ht;have e1:upd H t (.tup [.int r.x,.int r.y]) t=some (.tup [.int r.x,.int r.y]):=zaa;generalize upd H t (.tup [.int r.x,.int r.y])=H1 at s1 e1;refine⟨(by show 1<=sizeLine;decide),λg hg=>?_⟩;have s2:=Same.up (o:=.lst [.ref t]) hg;have e2:upd H1 g (.lst [.ref t]) g=some (.lst [.ref t]):=zaa;generalize upd H1 g (.lst [.ref t])=H2 at s2 e2;have s02:=s1.trans s2;have hg0:H g=none:=s1.free hg;simp only[zau,AH,AI];refine⟨_,rfl,b,rfl,⟨_,SqT.of (s02 _ _ q2)⟩,?_⟩
  refine zgU (K:=K) (a:=b) (xs:=rowV r.row) (λj σ H4=>∃o6 us,σ=[some (.ref a),some (.str r.so),some (.int r.x),some (.int r.y),some (.ref b),some (.ref g),o6]/\Same H H4/\H4 g=some (.lst us)/\VR us (zas (r.x,r.y) (r.row.take j)) cR H4)
   ⟨_,_,rfl,s02,e2,VR.cons.mpr ⟨⟨t,rfl,s2 _ _ e1⟩,VR.nil⟩⟩ (λj σ H4 _ ⟨_,_,_,s4,_⟩=>SqT.of (s4 _ _ q2)) ?_ ?_
  .rintro j v σ H4 hj ⟨o6,us,rfl,s4,e4,hv4⟩;obtain⟨st,hst,rfl⟩:=zlC hj;have hs8:=h8 st (Ag hst);have hjl:=(Ad.mp hst).1;have hjt:(r.row.take j).length=j:=by rw[A6];lia
   have hlast:(zas (r.x,r.y) (r.row.take j))[j]?=some (endC (r.x,r.y) (r.row.take j)):=by have:=zex (r.row.take j) (r.x,r.y);rwa [hjt]at this
   have hul:us.length=j+1:=by rw[hv4.1,zbB,hjt]
   obtain⟨u,hu⟩:∃u,us[j]?=some u:=⟨_,Aa (by lia)⟩;obtain⟨y,rfl,z4⟩:=hv4.2 _ _ _ hlast hu;simp only[zau,AH,AI];have atl:atI us (-1)=some (.ref y):=by rw[zhO (by lia),hul,Nat.add_sub_cancel];exact hu
   refine⟨_,rfl,.inl ⟨rfl,_,SqL.of e4⟩,_,rfl,1,rfl,g,us,-1,.ref y,rfl,rfl,SqL.of e4,atl,y,_,0,_,rfl,rfl,SqT.of z4,rfl,?_⟩;refine⟨_,rfl,1,rfl,g,us,-1,.ref y,rfl,rfl,SqL.of e4,atl,y,_,1,_,rfl,rfl,SqT.of z4,rfl,_,rfl,?_⟩;refine⟨endC (r.x,r.y) (r.row.take j),st,rfl,hs8,λp H5 hp s5 e5=>?_⟩;have g5:=s5 _ _ e4;refine⟨g,us,_,rfl,rfl,g5,small1000 (by lia),_,us++[.ref p],rfl,zar hg0 (s4.trans s5),zaa,?_⟩;rw[zaG hst,zew];exact hv4.snoc (λx v h=>(h.kt (KT.of s5)).kt (KT.lst g5)) ⟨p,rfl,(KT.lst g5) _ _ e5⟩
  .rintro σ H4 ⟨o6,us,rfl,s4,e4,hv4⟩;rw[show (rowV r.row).length=r.row.length from Ai _,AS]at hv4;refine⟨_,rfl,g,us,_,rfl,SqL.of e4,hv4,by rw[zbB];lia,λt' H5 L ht' s5 e5 hL=>?_⟩;exact k t' H5 L (s4.free ht') (s4.trans s5) e5 hL
theorem Good.spots{r:Rnd}(hF:Form r)(h:Good r)(c:Cell):c∈zas (r.x,r.y) r.row ↔ c∈seenC (rw_ r):=by
 have hcan:=h.can hF;rw[hcan.spots];constructor
 .intro hm;obtain⟨e,he,rfl⟩:=Aq.mp hm;exact of_decide_eq_true (hcan.cl.1.2.2.1 e he).2.1
 .intro hc;obtain⟨q,hq,hm⟩:=BF.mp (zcX.mp hc);have he:q.1∈(rw_ r).map (·.1):=Aq.mpr ⟨q,hq,rfl⟩;rcases zfX.mp hm with rfl |rfl
  .exact Aq.mpr ⟨_,he,rfl⟩
  .have hn:=hcan.cl.mem_nxt he
   have st:stepB (isIn (seenC (rw_ r))) q.1=q.2:=by
    have e:wk (isIn (seenC (rw_ r))) ((rw_ r).map (·.1))=rw_ r:=hcan.wby;obtain⟨i,hi,ei⟩:=Ay hq;have h1:(wk (isIn (seenC (rw_ r))) ((rw_ r).map (·.1)))[i]?=some q:=by rw[e,Aa hi,ei]
    unfold wk at h1;rw[Ax,Ax,Aa hi,ei]at h1;exact congrArg Prod.snd (A4 h1)
   unfold nxt at hn;rw[st]at hn;exact Aq.mpr ⟨_,hn,rfl⟩
theorem zlX{C:Cell->Bool}{e:Edge}{es:List Edge}(h:Lnk C e es):endC e.c ((e::es).filterMap (stepB C))=(nxt C ((e::es).getLast (by simp))).c:=by
 induction h with
 |one e =>
  rw[BU]
  cases z:stepB C e with
  |none=>exact (zdB z).symm
  |some s=>exact (zdA z).symm
 |@more e es h ih =>
  rw[List.getLast_cons (by simp),<- ih,BU]
  cases z:stepB C e with
  |none=>simp only;rw[zdB z]
  |some s =>
   simp only;rw[zdA z];rfl
theorem zd8:∀(l:List Nat) (c:Cell),((endC c l).1-c.1<=l.length/\c.1-(endC c l).1<=l.length)/\((endC c l).2-c.2<=l.length/\c.2-(endC c l).2<=l.length)
 |[],c=>by simp[endC]
 |s::l,c=>by
  have ih:=zd8 l (go c s)
  have hm:-1<=(mv s).1/\(mv s).1<=1/\-1<=(mv s).2/\(mv s).2<=1:=by
   rcases AX s 8 with z |z
   .have:∀s<8,-1<=(mv s).1/\(mv s).1<=1/\-1<=(mv s).2/\(mv s).2<=1:=by decide
    exact this s z
   .unfold mv;rw[AC,BO (by simpa using z)];decide
  show (((endC (go c s) l).1-c.1<=_/\_)/\_);have e1:(go c s).1=c.1+(mv s).1:=rfl;have e2:(go c s).2=c.2+(mv s).2:=rfl;rw[A7];have e0:endC c (s::l)=endC (go c s) l:=rfl;rw[e0];lia
theorem zkM(c:Cell)(l m:List Nat):endC c (l++m)=endC (endC c l) m:=by unfold endC;rw[List.foldl_append]
theorem zfW:∀(l:List Nat) (c d:Cell),d∈zas c l->∃a b,l=a++b/\d=endC c a
 |[],c,d,h=>⟨[],[],rfl,An.mp h⟩
 |s::l,c,d,h=>by
  have h:d∈c::zas (go c s) l:=h;rcases At.mp h with rfl |h
  .exact⟨[],s::l,rfl,rfl⟩
  .obtain⟨a,b,e,q⟩:=zfW l (go c s) d h;exact⟨s::a,b,by rw[e];rfl,q⟩
theorem Can.back{C:Cell->Bool}{es:List Edge}{r:Rnd}(h:Can C es r):endC (r.x,r.y) r.row=(r.x,r.y):=by
 obtain⟨⟨h0,h1,_,_⟩,l,hl,hn⟩:=h.cl
 cases es with
 |nil=>simp at h0
 |cons e es =>
  have eb:e=begE r:=by simpa using h0
  have er:r.row=(e::es).filterMap (stepB C):=by rw[h.row,Br];rfl
  have ec:(r.x,r.y)=e.c:=by rw[eb];rfl
  have lst:(e::es).getLast (by simp)=l:=by rw[List.getLast_eq_getElem];have:=(Ad.mp hl);exact this.2
  rw[er,ec,zlX (zjz es e h1),lst,hn,eb]
theorem Can.half{C:Cell->Bool}{es:List Edge}{r:Rnd}(h:Can C es r){c:Cell}(hc:c∈zas (r.x,r.y) r.row){n:Nat}(hn:r.row.length<=2*n):r.x-n<=c.1/\c.1<=r.x+n/\r.y-n<=c.2/\c.2<=r.y+n:=by obtain⟨a,b,e,rfl⟩:=zfW _ _ _ hc;have hb:=h.back;rw[e,zkM]at hb;have n1:=zd8 a (r.x,r.y);have n2:=zd8 b (endC (r.x,r.y) a);rw[hb]at n2;have hl:=congrArg List.length e;rw[Ak]at hl;simp only at n1 n2;lia
structure Grd (P:List Cell) (l lo r:Int) (i j:Nat) (Fr:List Cell):Prop where
 nd:Fr.Nodup
 iff:∀c,c∈Fr ↔ c ∉ P/\l<=c.1/\c.1<=r/\lo<=c.2/\(c.2<lo+i∨(c.2=lo+i/\c.1<l+j))
theorem Grd.skip{P:List Cell}{l lo r:Int}{i j:Nat}{Fr:List Cell}(h:Grd P l lo r i j Fr)(hm:(l+(j:Int),lo+(i:Int))∈P):Grd P l lo r i (j+1) Fr:=⟨h.nd,λc=>by
 rw[h.iff];constructor
 .rintro⟨h1,h2,h3,h4,h5⟩;exact⟨h1,h2,h3,h4,by lia⟩
 .rintro⟨h1,h2,h3,h4,h5⟩;refine⟨h1,h2,h3,h4,?_⟩;rcases h5 with z |⟨z,y⟩
  .exact .inl z
  .rcases Int.lt_or_le c.1 (l+j) with u |u
   .exact .inr ⟨z,u⟩
   .exfalso;have:c=(l+(j:Int),lo+(i:Int)):=Ch (by show c.1=l+j;lia) z;rw[this]at h1;exact h1 hm⟩
theorem Grd.more{P:List Cell}{l lo r:Int}{i j:Nat}{Fr:List Cell}(h:Grd P l lo r i j Fr)(hm:(l+(j:Int),lo+(i:Int)) ∉ P)(hr:l+j<=r):(l+(j:Int),lo+(i:Int)) ∉ Fr/\Grd P l lo r i (j+1) (Fr++[(l+(j:Int),lo+(i:Int))]):=by
 have hn:(l+(j:Int),lo+(i:Int)) ∉ Fr:=λm=>by have:=((h.iff _).mp m).2.2.2.2;simp only at this;lia
 refine⟨hn,?_,λc=>?_⟩
 .rw[CQ];exact⟨h.nd,by simp,λu hu v hv e=>by rw[An.mp hv]at e;exact hn (e ▸ hu)⟩
 .rw[AA,An,h.iff];constructor
  .rintro (⟨h1,h2,h3,h4,h5⟩ |rfl)
   .exact⟨h1,h2,h3,h4,by lia⟩
   .exact⟨hm,by simp only;lia,hr,by simp only;lia,.inr ⟨rfl,by simp only;lia⟩⟩
  .rintro⟨h1,h2,h3,h4,h5⟩;rcases h5 with z |⟨z,y⟩
   .exact .inl ⟨h1,h2,h3,h4,.inl z⟩
   .rcases Int.lt_or_le c.1 (l+j) with u |u
    .exact .inl ⟨h1,h2,h3,h4,.inr ⟨z,u⟩⟩
    .exact .inr (Ch (by show c.1=l+j;lia) z)
theorem Grd.row{P:List Cell}{l lo r:Int}{i j:Nat}{Fr:List Cell}(h:Grd P l lo r i j Fr)(hr:r<l+j):Grd P l lo r (i+1) 0 Fr:=⟨h.nd,λc=>by
 rw[h.iff];constructor
 .rintro⟨h1,h2,h3,h4,h5⟩;exact⟨h1,h2,h3,h4,by lia⟩
 .rintro⟨h1,h2,h3,h4,h5⟩;refine⟨h1,h2,h3,h4,by lia⟩⟩
noncomputable def zk5(K:W.Frag):Sp:=λvs H Q _=>∃(a:Addr) (us:List V) (cs:List Cell),vs=[.ref a]/\H a=some (.lst us)/\VR us cs cR H/\cs≠[]/\cs.length<=900 /\
 ∀p H' l lo r hi,H p=none->Same H H'->H' p=some (.tup [.int (l-1),.int (lo-1),.int (r+1),.int (hi+1)])->IsMin (cs.map (·.1)) l->IsMin (cs.map (·.2)) lo->IsMax (cs.map (·.1)) r->IsMax (cs.map (·.2)) hi->Q (.ref p) H'
theorem zh6 (T:Txt P w K mg) (d:Df K mg "_law_box" zbK ["_law_cells"]):FnOk P w K mg base CX0 1 d.f d.fd ["_law_cells"] (zk5 K):=by
 refine d.F.ok zcE (λvs H Q E h=>?_) (λcdv A outer s H vs Q E hr h=>?_)
 .obtain⟨a,us,cs,rfl,_⟩:=h;rfl
 .obtain⟨a,us,cs,rfl,ea,hva,hne,hlen,k⟩:=h;have hu1:=hu_of hr;have nb0:(["_law_x","_law_y"]:List Str).Nodup:=by decide +kernel
  have nb1:(["_law_x","_law_y"]:List Str).Nodup:=by decide +kernel
  refine⟨_,(zac (zhk (i:=1) (osc:=zaf zbK) (N:=zdi) (N':=["_law_x","_law_y"]) (sel:=[none,none]) bO zcE.nd (by rfl) (Or.inl rfl) (za3 (pv 0)) (λ_ _ _ _ _=>(zcJ (K:=K) (n:=2) (by rfl) (zae (nG 0 nb0) (zae (nG 1 nb0) zaq)))) (λ_ _ _ _ _=>zgD) (λ_ _ _ _ _=>(pv 0)))
   (zac (zhk (i:=2) (osc:=zaf zbK) (N:=zdi) (N':=["_law_x","_law_y"]) (sel:=[none,none]) bO zcE.nd (by rfl) (Or.inl rfl) (za3 (pv 0)) (λ_ _ _ _ _=>(zcJ (K:=K) (n:=2) (by rfl) (zae (nG 0 nb1) (zae (nG 1 nb1) zaq)))) (λ_ _ _ _ _=>zgD) (λ_ _ _ _ _=>(pv 1)))
   (zag (zal (zan (pa_B (pe_op zb6 (zav (zgg rfl) (by rfl) T.nmin (by rfl) (pa_N (pv 1) zab)) zad) (pa_B (pe_op zb6 (zav (zgg rfl) (by rfl) T.nmin (by rfl) (pa_N (pv 2) zab)) zad) (pa_B (pe_op zaw (zav (zgh rfl) (by rfl) T.nmax (by rfl) (pa_N (pv 1) zab)) zad) (pa_B (pe_op zaw (zav (zgh rfl) (by rfl) T.nmax (by rfl) (pa_N (pv 2) zab)) zad) zab))))))))),?_⟩
  have hul:us.length=cs.length:=hva.1;refine⟨_,rfl,a,rfl,⟨_,SqL.of ea⟩,λg hg=>?_⟩
  refine zaK (K:=K) (a:=a) (xs:=us) (λi σ H2=>∃o0 o1,σ=[o0,o1]/\Same H H2/\H2 g=some (.lst (((cs.take i).map (·.1)).map V.int)))
   ⟨_,_,rfl,Same.up hg,zaa⟩ (λi σ H2 _ ⟨_,_,_,s2,_⟩=>SqL.of (s2 _ _ ea)) ?_ ?_
  .rintro i v σ H2 hi ⟨o0,o1,rfl,s2,e2⟩;obtain⟨c,hc,b,rfl,qb⟩:=hva.at hi;have hil:i<cs.length:=(Ad.mp hc).1;refine⟨b,_,rfl,SqT.of (s2 _ _ qb),rfl,_,_,rfl,_,_,rfl,rfl,?_⟩;refine zeO ?_
   refine⟨_,rfl,_,e2,small1000 (by simp;lia),_,_,rfl,zar hg s2,?_⟩;rw[zaa,zaG hc];simp
  .rintro σ H2 ⟨o0,o1,rfl,s2,e2⟩;rw[hul,AS]at e2;refine⟨_,rfl,a,rfl,⟨_,SqL.of (s2 _ _ ea)⟩,λg2 hg2=>?_⟩
   refine zaK (K:=K) (a:=a) (xs:=us) (λi σ H3=>∃o0 o1,σ=[o0,o1]/\Same H2 H3/\H3 g2=some (.lst (((cs.take i).map (·.2)).map V.int)))
    ⟨_,_,rfl,Same.up hg2,zaa⟩ (λi σ H3 _ ⟨_,_,_,s3,_⟩=>SqL.of (s3 _ _ (s2 _ _ ea))) ?_ ?_
   .rintro i v σ H3 hi ⟨o0,o1,rfl,s3,e3⟩;obtain⟨c,hc,b,rfl,qb⟩:=hva.at hi;have hil:i<cs.length:=(Ad.mp hc).1;refine⟨b,_,rfl,SqT.of (s3 _ _ (s2 _ _ qb)),rfl,_,_,rfl,_,_,rfl,rfl,?_⟩;refine zeO ?_
    refine⟨_,rfl,_,e3,small1000 (by simp;lia),_,_,rfl,zar hg2 s3,?_⟩;rw[zaa,zaG hc];simp
   .rintro σ H3 ⟨o0,o1,rfl,s3,e3⟩;rw[hul,AS]at e3;have e23:=s3 _ _ e2;have n1:cs.map (·.1)≠[]:=λz=>hne (List.map_eq_nil_iff.mp z)
    have n2:cs.map (·.2)≠[]:=λz=>hne (List.map_eq_nil_iff.mp z)
    refine⟨_,rfl,g,_,rfl,SqL.of e23,n1,λl hl=>?_⟩;refine⟨_,_,rfl,rfl,_,rfl,g2,_,rfl,SqL.of e3,n2,λlo hlo=>?_⟩;refine⟨_,_,rfl,rfl,_,rfl,g,_,rfl,SqL.of e23,n1,λr hr'=>?_⟩;refine⟨_,_,rfl,rfl,_,rfl,g2,_,rfl,SqL.of e3,n2,λhi hhi=>?_⟩;refine⟨_,_,rfl,rfl,(by show 4<=sizeLine;decide),λp hp=>?_⟩;exact k p _ l lo r hi (s2.free (s3.free hp)) (s2.trans (s3.trans (Same.up hp))) zaa hl hlo hr' hhi
theorem _root_.L2.KeyL.cells{H:Hp}{ts:List V}{L:List Cell}(h:KeyL H ts (dC L)):VR ts L cR H:=by refine⟨by rw[h.1,zhK],λi x v h1 h2=>?_⟩;obtain⟨b,rfl,e⟩:=h.2 i v (kC x) (.bl true) h2 (by unfold dC;rw[Ax,h1];rfl);exact⟨b,rfl,e⟩
noncomputable def boxB(l lo:Int):List Cell:=(AO 243).flatMap λi:Nat=>(AO 243).map λj:Nat=>(l-1+(i:Int),lo-1+(j:Int))
theorem zkC{l lo:Int}{d:Cell}(h:l-1<=d.1/\d.1<=l+241/\lo-1<=d.2/\d.2<=lo+241):d∈boxB l lo :=
 BF.mpr ⟨(d.1-(l-1)).toNat,Bp.mpr (by lia),Aq.mpr ⟨(d.2-(lo-1)).toNat,Bp.mpr (by lia),Ch (by show l-1+(((d.1-(l-1)).toNat:Nat):Int)=d.1;lia) (by show lo-1+(((d.2-(lo-1)).toNat:Nat):Int)=d.2;lia)⟩⟩
theorem zkR(l lo:Int):(boxB l lo).length=59049:=by
 unfold boxB;simp
 decide +kernel
noncomputable def zk1(K:W.Frag):Sp:=λvs H Q _=>∃(v:V) (rd:Rnd),vs=[v]/\rR rd v H/\Form rd/\Good rd /\
 ∀p H' us M P l lo r hi,H p=none->Same H H'->H' p=some (.lst us)->VR us M cR H'->M.Nodup->M.length<=60000->BoxOf P l lo r hi->r-l<=242->hi-lo<=242->(∀c,c∈P ↔ c∈seenC (rw_ rd))->Made ((rw_ rd).map (·.1)) (mR rd.so) M l lo r hi->Q (.ref p) H'
theorem zgJ (T:Txt P w K mg) (g__law_seen:Fn P w K mg base 2 "_law_seen" ["_law_one"] (ziH K)) (g__law_box:Fn P w K mg base 1 "_law_box" ["_law_cells"] (zk5 K)) (g__law_flood:Fn P w K mg base 2 "_law_flood" ["_law_there", "_law_first", "_law_steps"] (ziP K))
  (d:Df K mg "_law_made" zbw ["_law_one"]):FnOk P w K mg base CX0 3 d.f d.fd ["_law_one"] (zk1 K):=by
 refine d.F.ok zam (λvs H Q E h=>?_) (λcdv A outer s H vs Q E hr h=>?_)
 .obtain⟨v,rd,rfl,_⟩:=h;rfl
 .obtain⟨v,rd,rfl,⟨x,b,rfl,q1,q2⟩,hF,hG,k⟩:=h;have hu1:=hu_of hr;have nb0:(["_law_cell","_law_away"]:List Str).Nodup:=by decide +kernel
  have nb1:(["_law_cell","_law_beyond"]:List Str).Nodup:=by decide +kernel
  refine⟨_,(zac (za2 (pv 0) (za0 (by rfl) (zae (nG 1 zam.nd) (zae (nG 2 zam.nd) (zae (nG 3 zam.nd) (zae (nG 4 zam.nd) zaq))))))
   (zac (sE 5 zam.nd (pC g__law_seen hr (pa_N (pv 0) zab)))
   (zac (za2 (pC g__law_box hr (zah (za4 (zbq rfl) (by rfl) T.nlist (by rfl) (pa_N (pv 5) zab)) zab)) (za0 (by rfl) (zae (nG 6 zam.nd) (zae (nG 7 zam.nd) (zae (nG 8 zam.nd) (zae (nG 9 zam.nd) zaq))))))
   (zac (sE 10 zam.nd zcW)
   (zac (zbr Bd rfl (zfO (by rfl) T.nrange (pa_N (pv 7) (pa_B (pe_op zaw (pv 9) zad) zab))) (nG 11 zam.nd)
   (zag (zbr Bd rfl (zfO (by rfl) T.nrange (pa_N (pv 6) (pa_B (pe_op zaw (pv 8) zad) zab))) (nG 12 zam.nd)
   (zag (ps_if (zcy (zbM hu1 (zan (pa_N (pv 12) (pa_N (pv 11) zab))) (pv 5)))
   (zag (ze2 hu1 (pv 10) (zan (pa_N (pv 12) (pa_N (pv 11) zab))) pe_bl rfl))
   zaF)))))
   (zac (ps_if (zay op_eq (pv 1) zcl (zaz _))
   (zac (zdR (i:=13) zam.nd (by rfl) (D0 rfl) zcW)
   (zac (ps_if (zcy (zhl hu1 (zan (pa_N (pv 2) (pa_B (pe_op zaw (pv 3) zad) zab))) (pv 10)))
   (zag (zdR (i:=13) zam.nd (by rfl) (D0 rfl) (pC g__law_flood hr (pa_N (pv 10) (pa_T (zan (pa_N (pv 2) (pa_B (pe_op zaw (pv 3) zad) zab))) (zah (zaI (pa_C zad (pa_C zad (pa_C zad (pa_C zad zab))))) zab))))))
   zaF)
   (zag (zal (zbi (osc:=zaf zbw) (N:=zb2) (N':=["_law_cell","_law_away"]) (sel:=[none,some 13]) bO (za3 (pe_op zfQ (za4 (zbq rfl) (by rfl) T.nlist (by rfl) (pa_N (pv 5) zab)) (za4 (zbq rfl) (by rfl) T.nlist (by rfl) (pa_N (pv 10) zab)))) (λ_ _ _ _ _=>(nG 0 nb0)) (λ_ _ _ _ _=>zbH (zcy (zbM hu1 (pv 0) (pv 1)))) (λ_ _ _ _ _=>(pv 0)))))))
   zaF)
   (zac (zdR (i:=14) zam.nd (by rfl) (D0 rfl) (pC g__law_flood hr (pa_N (pv 10) (pa_T (zan (pa_N (pv 6) (pa_N (pv 7) zab))) (zah (zaI (pa_C zad (pa_C zad (pa_C zad (pa_C zad zab))))) zab)))))
   (zag (zal (zbi (osc:=zaf zbw) (N:=zb2) (N':=["_law_cell","_law_beyond"]) (sel:=[none,some 14]) bO (za3 (pe_op zfQ (za4 (zbq rfl) (by rfl) T.nlist (by rfl) (pa_N (pv 5) zab)) (za4 (zbq rfl) (by rfl) T.nlist (by rfl) (pa_N (pv 10) zab)))) (λ_ _ _ _ _=>(nG 0 nb1)) (λ_ _ _ _ _=>zbH (zcy (zbM hu1 (pv 0) (pv 1)))) (λ_ _ _ _ _=>(pv 0)))))))))))),?_⟩
  have hσ:L2.start zb2 [V.ref x]=[some (.ref x),none,none,none,none,none,none,none,none,none,none,none,none,none,none]:=rfl;rw[hσ];have hcan:=hG.can hF;refine⟨_,rfl,x,_,rfl,SqT.of q1,rfl,_,_,rfl,_,_,rfl,_,_,rfl,_,_,rfl,rfl,?_⟩;refine⟨_,rfl,.ref x,rd,rfl,⟨x,b,rfl,q1,q2⟩,hF.2.2,hF.2.1,λt H2 L ht s2 e2 hL=>?_⟩;simp only[zau,AH,AI];have hLs:∀c,c∈L ↔ c∈seenC (rw_ rd):=λc=>(hL.mem c).trans (hG.spots hF c)
  have hLl:L.length<=241:=by have:=hL.len;rw[zbB]at this;have:=hF.2.1;lia
  have hbL:(begE rd).c∈L:=(hLs _).mpr ((hG.piece hF _).mpr .refl);have hne:L≠[]:=λz=>by rw[z]at hbL;cases hbL
  have eC:isIn (seenC (rw_ rd))=isIn L:=funext λc=>decide_eq_decide.mpr (hLs c).symm
  have hcanL:Can (isIn L) ((rw_ rd).map (·.1)) rd:=eC ▸ hcan;have hPL:∀c,c∈L ↔ Rch (isIn L) S8 (begE rd).c c:=λc=>by rw[<- eC,hLs];exact hG.piece hF c
  have hfar:∀c∈L,rd.x-120<=c.1/\c.1<=rd.x+120/\rd.y-120<=c.2/\c.2<=rd.y+120:=λc hc=>hcan.half ((hL.mem c).mp hc) (n:=120) hF.2.1
  refine⟨_,rfl,t,dC L,rfl,Rd.of e2,λg ts hg hts=>?_⟩;have s3:=Same.up (o:=.lst ts) hg;have e3:upd H2 g (.lst ts) g=some (.lst ts):=zaa;have v3:VR ts L cR (upd H2 g (.lst ts)):=hts.cells.mono λx v h=>h.kt (KT.up hg)
  generalize upd H2 g (.lst ts)=H3 at s3 e3 v3;refine⟨g,ts,L,rfl,e3,v3,hne,by lia,λpb H4 l lo r hi hpb s4 e4 hl hlo hr' hhi=>?_⟩;refine⟨pb,_,rfl,SqT.of e4,rfl,_,_,rfl,_,_,rfl,_,_,rfl,_,_,rfl,rfl,?_⟩
  have hBx:BoxOf L (l-1) (lo-1) (r+1) (hi+1):=by
   refine⟨λc hc=>?_,?_⟩
   .have q1:=hl.2 _ (Aq.mpr ⟨c,hc,rfl⟩);have q2:=hlo.2 _ (Aq.mpr ⟨c,hc,rfl⟩);have q3:=hr'.2 _ (Aq.mpr ⟨c,hc,rfl⟩);have q4:=hhi.2 _ (Aq.mpr ⟨c,hc,rfl⟩);lia
   .obtain⟨c,hc,e⟩:=Aq.mp hlo.1;exact⟨c,hc,by rw[e];lia⟩
  have hdim:r-l<=240/\hi-lo<=240/\l<=r/\lo<=hi:=by obtain⟨c1,m1,q1⟩:=Aq.mp hl.1;obtain⟨c2,m2,q2⟩:=Aq.mp hlo.1;obtain⟨c3,m3,q3⟩:=Aq.mp hr'.1;obtain⟨c4,m4,q4⟩:=Aq.mp hhi.1;have p1:=hfar c1 m1;have p2:=hfar c2 m2;have p3:=hfar c3 m3;have p4:=hfar c4 m4;have b1:=hBx.all c1 m1;lia
  refine λgd hgd=>?_
  have s24:=s3.trans s4;have s04:=s2.trans s24;have g0:upd H4 gd (.dT []) gd=some (.dT []):=zaa;have sg:=Same.up (o:=.dT []) hgd;generalize upd H4 gd (.dT [])=H9 at sg g0;have t3:=s24 _ _ e2;have t9:=sg _ _ t3;have ntg:t≠gd:=zaj t3 hgd;have hgd0:H gd=none:=s04.free hgd
  have few:∀{i j Fr},Grd L (l-1) (lo-1) (r+1) i j Fr->i<(hi+1+1-(lo-1)).toNat∨(i=(hi+1+1-(lo-1)).toNat/\j=0)->Fr.length<=59049:=λ{i j Fr} grd hi'=>by
   have:=zao grd.nd (b:=boxB l lo) λc hc=>zkC (by
    obtain⟨_,q1,q2,q3,q4⟩:=(grd.iff c).mp hc;lia)
   rw[zkR]at this;exact this
  simp only[zau,AH,AI];refine⟨_,rfl,_,rfl,_,_,rfl,rfl,_,_,rfl,?_⟩
  refine zbA (lo:=lo-1) (n:=(hi+1+1-(lo-1)).toNat) (λi σ HA=>∃o7 o8 Fr,σ=[some (.ref x),some (.str rd.so),some (.int rd.x),some (.int rd.y),some (.ref b),some (.ref t),some (.int (l-1)),some (.int (lo-1)),some (.int (r+1)),some (.int (hi+1)),some (.ref gd),o7,o8,none,none]/\(∀b o,b≠gd->H9 b=some o->HA b=some o)/\HA gd=some (.dT (dC Fr))/\Grd L (l-1) (lo-1) (r+1) i 0 Fr)
   ⟨_,_,[],rfl,(λ_ _ _ h=>h),g0,⟨List.nodup_nil,λc=>⟨λh=>(by cases h),λh=>(by obtain⟨_,_,_,h4,h5⟩:=h;lia)⟩⟩⟩ ?_ ?_
  .rintro i σ HA hi' ⟨o7,o8,Fr,rfl,kA,gA,grd⟩;refine⟨_,rfl,_,rfl,_,_,rfl,rfl,_,_,rfl,?_⟩
   refine zbA (lo:=l-1) (n:=(r+1+1-(l-1)).toNat) (λj σ HB=>∃o8 Fr,σ=[some (.ref x),some (.str rd.so),some (.int rd.x),some (.int rd.y),some (.ref b),some (.ref t),some (.int (l-1)),some (.int (lo-1)),some (.int (r+1)),some (.int (hi+1)),some (.ref gd),some (.int (lo-1+(i:Int))),o8,none,none]/\(∀b o,b≠gd->H9 b=some o->HB b=some o)/\HB gd=some (.dT (dC Fr))/\Grd L (l-1) (lo-1) (r+1) i j Fr)
    ⟨_,Fr,rfl,kA,gA,grd⟩ ?_ ?_
   .rintro j σ HB hj ⟨o8,Fr,rfl,kB,gB,grd⟩;have hFl:Fr.length<=59049:=few grd (.inl hi');refine⟨_,rfl,_,rfl,two,λpa hpa=>?_⟩;have sa:=Same.up (o:=.tup [.int (l-1+(j:Int)),.int (lo-1+(i:Int))]) hpa;have ea':upd HB pa (.tup [.int (l-1+(j:Int)),.int (lo-1+(i:Int))]) pa=some (.tup [.int (l-1+(j:Int)),.int (lo-1+(i:Int))]):=zaa;generalize upd HB pa (.tup [.int (l-1+(j:Int)),.int (lo-1+(i:Int))])=HC at sa ea';have tC:=sa _ _ (kB _ _ ntg t9);refine⟨_,rfl,t,_,rfl,.inr ⟨_,kC (l-1+(j:Int),lo-1+(i:Int)),pa,Rd.of tC,rfl,ea',rfl⟩,_,rfl,?_⟩;rw[zb8]
    by_cases hm:(l-1+(j:Int),lo-1+(i:Int))∈L
    .rw[show isIn L (l-1+(j:Int),lo-1+(i:Int))=true from decide_eq_true hm];exact iteF ⟨_,Fr,rfl,λb o n e=>sa _ _ (kB _ _ n e),sa _ _ gB,grd.skip hm⟩
    .rw[show isIn L (l-1+(j:Int),lo-1+(i:Int))=false from decide_eq_false hm];obtain⟨hn',grd'⟩:=grd.more hm (by lia);refine iteT ⟨_,rfl,_,rfl,_,rfl,two,λpb' hpb'=>?_⟩;have sb:=Same.up (o:=.tup [.int (l-1+(j:Int)),.int (lo-1+(i:Int))]) hpb';have eb:upd HC pb' (.tup [.int (l-1+(j:Int)),.int (lo-1+(i:Int))]) pb'=some (.tup [.int (l-1+(j:Int)),.int (lo-1+(i:Int))]):=zaa;generalize upd HC pb' (.tup [.int (l-1+(j:Int)),.int (lo-1+(i:Int))])=HD at sb eb;have gD:=(sa.trans sb) _ _ gB;refine⟨gd,_,rfl,.inr ⟨dC Fr,kC (l-1+(j:Int),lo-1+(i:Int)),pb',gD,rfl,eb,(by rw[zhK];exact bigF (by lia)),rfl⟩,?_⟩;rw[zhh hn'];refine⟨_,_,rfl,λb o n e=>?_,zaa,grd'⟩;rw[zai n];exact (sa.trans sb) _ _ (kB _ _ n e)
   .rintro σ HB ⟨o8,Fr,rfl,kB,gB,grd⟩;exact⟨_,_,Fr,rfl,kB,gB,grd.row (by lia)⟩
  .rintro σ HA ⟨o7,o8,Fr,rfl,kA,gA,grd⟩
   have hF:FreeOf (isIn Fr) L (l-1) (lo-1) (r+1) (hi+1):=⟨λc=>by
    show decide (c∈Fr)=true ↔ _;rw[decide_eq_true_iff,grd.iff];unfold inBox;constructor
    .rintro⟨h1,h2,h3,h4,h5⟩;exact⟨⟨h2,h3,h4,by lia⟩,h1⟩
    .rintro⟨⟨h2,h3,h4,h5⟩,h1⟩;exact⟨h1,h2,h3,h4,.inl (by lia)⟩⟩
   have hFl:Fr.length<=59049:=few grd (.inr ⟨rfl,rfl⟩);have s09:∀b o,H b=some o->HA b=some o:=λb o h=>kA _ _ (zaj h hgd0) (sg _ _ (s04 _ _ h))
   have tA:HA t=some (.dT (dC L)):=kA _ _ ntg t9;refine⟨_,rfl,rfl,_,rfl,?_⟩;refine ite2 (λhy=>?_) (λhn=>?_)
   .have hso:rd.so = "hole" := by have:=of_decide_eq_true hy;injection this with this
    have hoc:outC rd (l-1) (lo-1)=(rd.x,rd.y+1):=by unfold outC;rw[if_pos hso]
    refine λf0 hf0=>?_
    have b1:=Same.up (o:=.dT []) hf0;generalize upd HA f0 (.dT [])=HB at b1;refine⟨_,rfl,_,rfl,_,_,rfl,rfl,two,λp6 hp6=>?_⟩;have b2:=Same.up (o:=.tup [.int rd.x,.int (rd.y+1)]) hp6;have e6:upd HB p6 (.tup [.int rd.x,.int (rd.y+1)]) p6=some (.tup [.int rd.x,.int (rd.y+1)]):=zaa;generalize upd HB p6 (.tup [.int rd.x,.int (rd.y+1)])=HC0 at b2 e6;refine⟨_,rfl,gd,_,rfl,.inr ⟨_,kC (rd.x,rd.y+1),p6,Rd.of ((b1.trans b2) _ _ gA),rfl,e6,rfl⟩,_,rfl,?_⟩;have oD:=hcanL.outD hPL hBx hF;rw[hoc]at oD;rw[zb8];refine iteY oD ?_
    refine⟨_,rfl,_,rfl,_,rfl,_,_,rfl,rfl,two,λp7 hp7=>?_⟩;have b3:=Same.up (o:=.tup [.int rd.x,.int (rd.y+1)]) hp7;have e7:upd HC0 p7 (.tup [.int rd.x,.int (rd.y+1)]) p7=some (.tup [.int rd.x,.int (rd.y+1)]):=zaa;generalize upd HC0 p7 (.tup [.int rd.x,.int (rd.y+1)])=HC1 at b3 e7;refine⟨(by show 4<=sizeLine;decide),λq7 hq7=>?_⟩;have b4:=Same.up (o:=.lst [.int 0,.int 2,.int 4,.int 6]) hq7;have f7:upd HC1 q7 (.lst [.int 0,.int 2,.int 4,.int 6]) q7=some (.lst [.int 0,.int 2,.int 4,.int 6]):=zaa;generalize upd HC1 q7 (.lst [.int 0,.int 2,.int 4,.int 6])=HC at b4 f7;have b14:=b1.trans (b2.trans (b3.trans b4));have s0C:Same H HC:=Same.trans s09 b14;have tC:=b14 _ _ tA;have rC:=b14 _ _ gA;refine⟨gd,p7,q7,(rd.x,rd.y+1),Fr,S4,rfl,Rd.of rC,b4 _ _ e7,f7,(by decide),by lia,λf H8 F hf s8 e8 hn8 hr8=>?_⟩;have hA:∀c,c∈F ↔ Rch (isIn Fr) S4 (outC rd (l-1) (lo-1)) c:=by rw[hoc];exact hr8
    have s0D:=s0C.trans s8;have t8:H8 t=some (.dT (dC L)):=s8 _ _ tC;have r8:H8 gd=some (.dT (dC Fr)):=s8 _ _ rC;refine⟨_,rfl,t,dC L,rfl,Rd.of t8,λg1 ts1 hg1 hk1=>?_⟩;have u1:=Same.up (o:=.lst ts1) hg1;have w1:upd H8 g1 (.lst ts1) g1=some (.lst ts1):=zaa;have v1:VR ts1 L cR (upd H8 g1 (.lst ts1)):=hk1.cells.mono λx v h=>h.kt (KT.up hg1)
    generalize upd H8 g1 (.lst ts1)=J1 at u1 w1 v1;refine⟨_,rfl,gd,dC Fr,rfl,Rd.of (u1 _ _ r8),λg2 ts2 hg2 hk2=>?_⟩;have u2:=Same.up (o:=.lst ts2) hg2;have w2:upd J1 g2 (.lst ts2) g2=some (.lst ts2):=zaa;have v2:VR ts2 Fr cR (upd J1 g2 (.lst ts2)):=hk2.cells.mono λx v h=>h.kt (KT.up hg2)
    generalize upd J1 g2 (.lst ts2)=J2 at u2 w2 v2;have vv:VR (ts1++ts2) (L++Fr) cR J2:=(v1.mono λx v h=>h.kt (KT.of u2)).app v2;have hvl:(ts1++ts2).length<=59290:=by rw[vv.1,Ak];lia
    refine⟨g1,g2,ts1,ts2,rfl,rfl,u2 _ _ w1,w2,(by rw[<- Ak];exact Bg (bigF (by lia))),λg3 hg3=>?_⟩;have u3:=Same.up (o:=.lst (ts1++ts2)) hg3;have w3:upd J2 g3 (.lst (ts1++ts2)) g3=some (.lst (ts1++ts2)):=zaa;have v3':=vv.mono λx v h=>h.kt (KT.of u3)
    generalize upd J2 g3 (.lst (ts1++ts2))=J3 at u3 w3 v3';have uD:∀b o,H b=some o->J3 b=some o:=λb o h=>u3 _ _ (u2 _ _ (u1 _ _ (s0D b o h)))
    have f3:J3 f=some (.dT (dC F)):=u3 _ _ (u2 _ _ (u1 _ _ e8));refine⟨g3,rfl,⟨_,SqL.of w3⟩,λg hg=>?_⟩;have u4:=Same.up (o:=.lst []) hg;have w4:upd J3 g (.lst []) g=some (.lst []):=zaa;have nfg:f≠g:=zaj f3 hg;have ng3:g3≠g:=zaj w3 hg
    refine zaK (K:=K) (a:=g3) (xs:=ts1++ts2) (λj σ J4=>∃o0 us,σ=[o0,some (.ref f)]/\(∀b o,b≠g->J3 b=some o->J4 b=some o)/\J4 g=some (.lst us)/\VR us (((L++Fr).take j).filter λc=>!isIn F c) cR J4)
     ⟨_,[],rfl,(λb o n h=>by rw[zai n];exact h),w4,VR.nil⟩ (λj σ J4 _ ⟨_,_,_,kJ,_⟩=>SqL.of (kJ _ _ ng3 w3)) ?_ ?_
    .rintro j v σ J4 hj ⟨o0,us,rfl,kJ,w5,hus⟩;obtain⟨c,hc,y,rfl,zc⟩:=v3'.at hj;have zJ:=kJ _ _ (zaj zc hg) zc;simp only[zau,AH,AI];refine⟨_,rfl,_,rfl,f,_,rfl,.inr ⟨_,kC c,y,Rd.of (kJ _ _ nfg f3),rfl,zJ,rfl⟩,_,rfl,?_⟩;rw[zb8,zaG hc,CI]
     by_cases hF:isIn F c=true
     .rw[hF];refine iteN rfl ⟨_,us,rfl,kJ,w5,?_⟩;rw[List.filter_cons_of_neg (by rw[hF];decide),List.filter_nil,AN];exact hus
     .have hF':isIn F c=false:=Bool.eq_false_iff.mpr hF;rw[hF']
      have hul:us.length<=59290:=by
       rw[hus.1];refine AM (A8 _ _) ?_
       rw[A6,<- vv.1];lia
      refine iteY rfl ⟨_,rfl,us,w5,bigF (by lia),_,us++[.ref y],rfl,λb o n h=>by rw[zai n];exact kJ _ _ n h,zaa,?_⟩;rw[List.filter_cons_of_pos (by rw[hF'];rfl),List.filter_nil];exact hus.snoc (λx v h=>h.kt (KT.lst w5)) ⟨y,rfl,(KT.lst w5) _ _ zJ⟩
    .rintro σ J4 ⟨o0,us,rfl,kJ,w5,hus⟩;rw[show (ts1++ts2).length=(L++Fr).length from vv.1,AS]at hus
     have hMm:∀c,c∈(L++Fr).filter (λc=>!isIn F c) ↔ (c∈L∨isIn Fr c=true)/\c ∉ F:=λc=>by rw[List.mem_filter,AA];unfold isIn;simp only[Dw,decide_eq_false_iff_not,decide_eq_true_eq]
     have hnd:(L++Fr).Nodup:=List.nodup_append.mpr ⟨hL.nd,grd.nd,λu hu v hv e=>((hF.iff v).mp (decide_eq_true hv)).2 (e ▸ hu)⟩;refine k g J4 us _ L _ _ _ _ ?_ (λb o h=>kJ _ _ (zaj (uD _ _ h) hg) (uD _ _ h)) w5 hus (hnd.filter _) ?_ hBx (by lia) (by lia) hLs (hcanL.made hPL hBx hF hA hMm)
     .cases z:H g with
      |none=>rfl
      |some o=>rw[uD _ _ z]at hg;cases hg
     .refine AM (A8 _ _) ?_
      rw[<- vv.1];lia
   .have hso:rd.so ≠ "hole":=λz=>by rw[z]at hn;exact absurd hn (by decide)
    have hoc:outC rd (l-1) (lo-1)=(l-1,lo-1):=by unfold outC;rw[if_neg hso]
    refine⟨_,rfl,_,rfl,_,rfl,two,λp7 hp7=>?_⟩;have b3:=Same.up (o:=.tup [.int (l-1),.int (lo-1)]) hp7;have e7:upd HA p7 (.tup [.int (l-1),.int (lo-1)]) p7=some (.tup [.int (l-1),.int (lo-1)]):=zaa;generalize upd HA p7 (.tup [.int (l-1),.int (lo-1)])=HC1 at b3 e7;refine⟨(by show 4<=sizeLine;decide),λq7 hq7=>?_⟩;have b4:=Same.up (o:=.lst [.int 0,.int 2,.int 4,.int 6]) hq7;have f7:upd HC1 q7 (.lst [.int 0,.int 2,.int 4,.int 6]) q7=some (.lst [.int 0,.int 2,.int 4,.int 6]):=zaa;generalize upd HC1 q7 (.lst [.int 0,.int 2,.int 4,.int 6])=HC at b4 f7;have b14:=b3.trans b4;have s0C:Same H HC:=Same.trans s09 b14;have tC:=b14 _ _ tA;have rC:=b14 _ _ gA;refine⟨gd,p7,q7,(l-1,lo-1),Fr,S4,rfl,Rd.of rC,b4 _ _ e7,f7,(by decide),by lia,λf H8 F hf s8 e8 hn8 hr8=>?_⟩;have hA:∀c,c∈F ↔ Rch (isIn Fr) S4 (outC rd (l-1) (lo-1)) c:=by rw[hoc];exact hr8
    have s0D:=s0C.trans s8;have t8:H8 t=some (.dT (dC L)):=s8 _ _ tC;have r8:H8 gd=some (.dT (dC Fr)):=s8 _ _ rC;refine⟨_,rfl,t,dC L,rfl,Rd.of t8,λg1 ts1 hg1 hk1=>?_⟩;have u1:=Same.up (o:=.lst ts1) hg1;have w1:upd H8 g1 (.lst ts1) g1=some (.lst ts1):=zaa;have v1:VR ts1 L cR (upd H8 g1 (.lst ts1)):=hk1.cells.mono λx v h=>h.kt (KT.up hg1)
    generalize upd H8 g1 (.lst ts1)=J1 at u1 w1 v1;refine⟨_,rfl,gd,dC Fr,rfl,Rd.of (u1 _ _ r8),λg2 ts2 hg2 hk2=>?_⟩;have u2:=Same.up (o:=.lst ts2) hg2;have w2:upd J1 g2 (.lst ts2) g2=some (.lst ts2):=zaa;have v2:VR ts2 Fr cR (upd J1 g2 (.lst ts2)):=hk2.cells.mono λx v h=>h.kt (KT.up hg2)
    generalize upd J1 g2 (.lst ts2)=J2 at u2 w2 v2;have vv:VR (ts1++ts2) (L++Fr) cR J2:=(v1.mono λx v h=>h.kt (KT.of u2)).app v2;have hvl:(ts1++ts2).length<=59290:=by rw[vv.1,Ak];lia
    refine⟨g1,g2,ts1,ts2,rfl,rfl,u2 _ _ w1,w2,(by rw[<- Ak];exact Bg (bigF (by lia))),λg3 hg3=>?_⟩;have u3:=Same.up (o:=.lst (ts1++ts2)) hg3;have w3:upd J2 g3 (.lst (ts1++ts2)) g3=some (.lst (ts1++ts2)):=zaa;have v3':=vv.mono λx v h=>h.kt (KT.of u3)
    generalize upd J2 g3 (.lst (ts1++ts2))=J3 at u3 w3 v3';have uD:∀b o,H b=some o->J3 b=some o:=λb o h=>u3 _ _ (u2 _ _ (u1 _ _ (s0D b o h)))
    have f3:J3 f=some (.dT (dC F)):=u3 _ _ (u2 _ _ (u1 _ _ e8));refine⟨g3,rfl,⟨_,SqL.of w3⟩,λg hg=>?_⟩;have u4:=Same.up (o:=.lst []) hg;have w4:upd J3 g (.lst []) g=some (.lst []):=zaa;have nfg:f≠g:=zaj f3 hg;have ng3:g3≠g:=zaj w3 hg
    refine zaK (K:=K) (a:=g3) (xs:=ts1++ts2) (λj σ J4=>∃o0 us,σ=[o0,some (.ref f)]/\(∀b o,b≠g->J3 b=some o->J4 b=some o)/\J4 g=some (.lst us)/\VR us (((L++Fr).take j).filter λc=>!isIn F c) cR J4)
     ⟨_,[],rfl,(λb o n h=>by rw[zai n];exact h),w4,VR.nil⟩ (λj σ J4 _ ⟨_,_,_,kJ,_⟩=>SqL.of (kJ _ _ ng3 w3)) ?_ ?_
    .rintro j v σ J4 hj ⟨o0,us,rfl,kJ,w5,hus⟩;obtain⟨c,hc,y,rfl,zc⟩:=v3'.at hj;have zJ:=kJ _ _ (zaj zc hg) zc;simp only[zau,AH,AI];refine⟨_,rfl,_,rfl,f,_,rfl,.inr ⟨_,kC c,y,Rd.of (kJ _ _ nfg f3),rfl,zJ,rfl⟩,_,rfl,?_⟩;rw[zb8,zaG hc,CI]
     by_cases hF:isIn F c=true
     .rw[hF];refine iteN rfl ⟨_,us,rfl,kJ,w5,?_⟩;rw[List.filter_cons_of_neg (by rw[hF];decide),List.filter_nil,AN];exact hus
     .have hF':isIn F c=false:=Bool.eq_false_iff.mpr hF;rw[hF']
      have hul:us.length<=59290:=by
       rw[hus.1];refine AM (A8 _ _) ?_
       rw[A6,<- vv.1];lia
      refine iteY rfl ⟨_,rfl,us,w5,bigF (by lia),_,us++[.ref y],rfl,λb o n h=>by rw[zai n];exact kJ _ _ n h,zaa,?_⟩;rw[List.filter_cons_of_pos (by rw[hF'];rfl),List.filter_nil];exact hus.snoc (λx v h=>h.kt (KT.lst w5)) ⟨y,rfl,(KT.lst w5) _ _ zJ⟩
    .rintro σ J4 ⟨o0,us,rfl,kJ,w5,hus⟩;rw[show (ts1++ts2).length=(L++Fr).length from vv.1,AS]at hus
     have hMm:∀c,c∈(L++Fr).filter (λc=>!isIn F c) ↔ (c∈L∨isIn Fr c=true)/\c ∉ F:=λc=>by rw[List.mem_filter,AA];unfold isIn;simp only[Dw,decide_eq_false_iff_not,decide_eq_true_eq]
     have hnd:(L++Fr).Nodup:=List.nodup_append.mpr ⟨hL.nd,grd.nd,λu hu v hv e=>((hF.iff v).mp (decide_eq_true hv)).2 (e ▸ hu)⟩;refine k g J4 us _ L _ _ _ _ ?_ (λb o h=>kJ _ _ (zaj (uD _ _ h) hg) (uD _ _ h)) w5 hus (hnd.filter _) ?_ hBx (by lia) (by lia) hLs (hcanL.made hPL hBx hF hA hMm)
     .cases z:H g with
      |none=>rfl
      |some o=>rw[uD _ _ z]at hg;cases hg
     .refine AM (A8 _ _) ?_
      rw[<- vv.1];lia
theorem Can.rw{C:Cell->Bool}{es:List Edge}{r:Rnd}(h:Can C es r):rw_ r=wk C es:=h.wby.symm
theorem Can.seen{C:Cell->Bool}{es:List Edge}{r:Rnd}(h:Can C es r):∀q∈obs (rw_ r),C q.1=q.2:=by
 rw[h.rw];rintro⟨c,x⟩ hq;obtain⟨⟨e,o⟩,he,hm⟩:=BF.mp hq;obtain⟨e',he',ee⟩:=Aq.mp he
 cases ee
 have hE:=h.cl.1.2.2.1 e he';have hN:=h.cl.1.2.2.1 _ (h.cl.mem_nxt he');have n1:(edgeB e (stepB C e))=nxt C e:=rfl;unfold seenL seen0 at hm;rw[n1]at hm;simp only[AA,At,DG,or_false,Prod.mk.injEq]at hm;show C c=x;rcases hm with (z |z) |z
 .rcases z with⟨rfl,rfl⟩ |⟨rfl,rfl⟩ |⟨rfl,rfl⟩ |⟨rfl,rfl⟩
  .exact hE.2.1
  .exact hE.2.2
  .exact hN.2.1
  .exact hN.2.2
 .rcases zaJ hE with⟨_,q,_⟩ |⟨h1,_,q,_⟩ |⟨h1,_,q,_⟩
  .rw[q]at z;have:slant (some ((2*e.w+7) % 8))=true:=by unfold slant;have:=odd7 e.w;simp[this]
   rw[if_pos this]at z
   cases z
  .split at z
   .cases z
   .cases An.mp z;exact h1
  .split at z
   .cases z
   .cases An.mp z;exact h1
 .rcases zaJ hE with⟨_,q,_⟩ |⟨_,_,q,_⟩ |⟨_,h2,q,_⟩
  .rw[q]at z;split at z
   .rename_i y;cases y
   .cases z
  .rw[q]at z;split at z
   .rename_i y;cases y
   .cases z
  .rw[if_pos q]at z
   cases An.mp z;exact h2
theorem Can.good{C:Cell->Bool}{es:List Edge}{r:Rnd}(h:Can C es r):Good r:=by
 refine⟨λ⟨c,h1,h2⟩=>?_,λf l hf hl=>?_,?_,?_⟩
 .have a:=h.seen _ h1;have b:=h.seen _ h2;simp only at a b;rw[a]at b;cases b
 .rw[h.rw]at hf hl;unfold wk at hf hl;rw[Ai]at hl;rw[Ax]at hf hl;obtain⟨e,he,rfl⟩:=Bc.mp hf;obtain⟨e',he',rfl⟩:=Bc.mp hl;obtain⟨⟨h0,_⟩,l',hl',hb⟩:=h.cl;rw[h0]at he;rw[hl']at he'
  cases he;cases he'
  exact hb
 .rw[h.rw];have t:=zis h.cl;have s:=h.so;unfold sortS at s;unfold moreL;rcases t with t |t
  .rw[if_pos (by lia)]at s;rw[if_pos s,t]
  .rw[if_neg (by lia)]at s;rw[if_neg (by rw[s];decide),t]
 .rw[h.rw];exact h.bg
theorem zl7{W:Wk}{i:Nat}(c:Con (obs (W.take i))):Con (obs W):=c.mono λq h=>by obtain⟨x,hx,hq⟩:=BF.mp h;exact BF.mpr ⟨x,CT hx,hq⟩
theorem Due.bad{r:Rnd}{n:Nat}(h:Due r n):¬ Good r:=by
 rintro⟨g1,g2⟩;rcases h with⟨i,hi,c1,c2,rfl⟩ |⟨h1,h2,rfl⟩
 .exact g1 (zl7 c1)
 .exact h2 g2
noncomputable def zhc(K:W.Frag):Sp:=λvs H Q _=>∃(t a:Addr) (cs:List Cell) (b:Edge),vs=[.ref t,.ref a]/\TabR H t (isIn cs)/\H a=some (.tup (edgeT b))/\IsE (isIn cs) b/\cs.length<=60000 /\
 ∀p pe pq H' us es,Same H H'->H' p=some (.tup [.ref pe,.ref pq])->H' pe=some (.lst us)->VR us es eR H'->H' pq=some (.lst ((es.map (stepB (isIn cs))).map sv))->Closed (isIn cs) b es->Q (.ref p) H'
theorem ze6 (g__law_behind:Fn P w K mg base 2 "_law_behind" ["_law_there","_law_edge"] (zhf K)) (d:Df K mg "_law_walked" zbT ["_law_there","_law_first"]):FnOk P w K mg base CX0 3 d.f d.fd ["_law_there","_law_first"] (zhc K):=by
 refine d.F.ok zaM (λvs H Q E h=>?_) (λcdv A outer s H vs Q E hr h=>?_)
 .obtain⟨t,a,cs,b,rfl,_⟩:=h;rfl
 .obtain⟨t,a,cs,b,rfl,tab,ha,hb,hlen,k⟩:=h;have hu64:=hr.units
  refine⟨_,(zac (sE 2 zaM.nd (zaI (pa_N (pv 1) zab)))
   (zac (sE 3 zaM.nd (zaI zab))
   (zac (za2 (pC g__law_behind hr (pa_N (pv 0) (pa_N (pv 1) zab))) (za0 (by rfl) (zae (nG 4 zaM.nd) (zae (nG 5 zaM.nd) zaq))))
   (zac (zhj Bd (zay (zjk hu64) (pv 5) (pv 1) (zaz _))
   (zac (zbc (pe_bm AL Ba Bb zaU (pv 2) (pa_N (pv 5) zab)))
   (zac (zbc (pe_bm AL Ba Bb zaU (pv 3) (pa_N (pv 4) zab)))
   (zag (za2 (pC g__law_behind hr (pa_N (pv 0) (pa_N (pv 5) zab))) (za0 (by rfl) (zae (nG 4 zaM.nd) (zae (nG 5 zaM.nd) zaq))))))))
   (zag (zal (zan (pa_N (pv 2) (pa_B (pe_op zfQ (pv 3) (zaI (pa_N (pv 4) zab))) zab))))))))),?_⟩
  refine⟨_,rfl,(by show 1<=sizeLine;decide),λpe hpe=>?_⟩;have s1:=Same.up (o:=.lst [.ref a]) hpe;have e1:upd H pe (.lst [.ref a]) pe=some (.lst [.ref a]):=zaa;generalize upd H pe (.lst [.ref a])=H1 at s1 e1;refine⟨(by show 0<=sizeLine;decide),λps hps=>?_⟩;have s2:=Same.up (o:=.lst []) hps;have e2:upd H1 ps (.lst []) ps=some (.lst []):=zaa;generalize upd H1 ps (.lst [])=H2 at s2 e2;have s02:=s1.trans s2;have hps0:H ps=none:=s1.free hps;have hne:pe≠ps:=zaj e1 hps;refine⟨_,rfl,_,rfl,t,a,isIn cs,b,rfl,tab.same s02,SqT.of (s02 _ _ ha),hb.1,λp3 q3 H3 s3 f3 g3=>?_⟩;refine⟨p3,_,rfl,SqT.of f3,rfl,_,_,rfl,_,_,rfl,rfl,?_⟩;have s03:=s02.trans s3
  refine zkc (λσ H4=>∃us es l re,σ=[some (.ref t),some (.ref a),some (.ref pe),some (.ref ps),some (sv (stepB (isIn cs) l)),some (.ref re)]/\Same H H4/\H4 pe=some (.lst us)/\VR us (es++[l]) eR H4/\H4 ps=some (.lst ((es.map (stepB (isIn cs))).map sv))/\Chain (isIn cs) b (es++[l])/\H4 re=some (.tup (edgeT (nxt (isIn cs) l))))
   (λ_ H4=>4*cs.length+1-zjy (H4 pe)) ?_ ?_ ?_
  .refine⟨[.ref a],[],b,q3,rfl,s03,(s2.trans s3) _ _ e1,⟨rfl,λi x v h1 h2=>?_⟩,s3 _ _ e2,Chain.start hb,g3⟩
   match i,h1,h2 with
   | 0,h1,h2 =>
    cases h1;cases h2
    exact⟨a,rfl,s03 _ _ ha⟩
   |i+1,h1,h2=>simp at h2
  .rintro σ H4 ⟨us,es,l,re,rfl,s4,e4,hv,q4,hch,er⟩;have hw4:(nxt (isIn cs) l).w<4:=(zdW (hch.2.2.1 l (by simp))).1;have hl4:us.length=(es++[l]).length:=hv.1;have hsh0:=hch.short;refine⟨_,rfl,_,rfl,_,_,zda er,zda (s4 _ _ ha),zbo _,zbo _,_,rfl,?_⟩;rw[zhB]
   by_cases hnb:nxt (isIn cs) l=b
   .rw[decide_eq_true (zga.mpr hnb)];refine iteF ?_
    refine⟨_,rfl,_,rfl,_,rfl,(by show 1<=sizeLine;decide),λl5 h5=>?_⟩;have s5:=Same.up (o:=.lst [sv (stepB (isIn cs) l)]) h5;have e5:upd H4 l5 (.lst [sv (stepB (isIn cs) l)]) l5=some (.lst [sv (stepB (isIn cs) l)]):=zaa;generalize upd H4 l5 (.lst [sv (stepB (isIn cs) l)])=H5 at s5 e5;rw[Ak,Bs]at hsh0;refine⟨ps,l5,_,_,rfl,rfl,s5 _ _ q4,e5,Bg (bigE (by simp;lia)),λl6 h6=>?_⟩;have em:(es.map (stepB (isIn cs))).map sv++[sv (stepB (isIn cs) l)]=((es++[l]).map (stepB (isIn cs))).map sv:=by rw[AJ,AJ];rfl
    rw[em];have s6:=Same.up (o:=.lst (((es++[l]).map (stepB (isIn cs))).map sv)) h6;have e6:upd H5 l6 (.lst (((es++[l]).map (stepB (isIn cs))).map sv)) l6=some (.lst (((es++[l]).map (stepB (isIn cs))).map sv)):=zaa;generalize upd H5 l6 (.lst (((es++[l]).map (stepB (isIn cs))).map sv))=H6 at s6 e6;refine⟨two,λp7 h7=>?_⟩;have s7:=Same.up (o:=.tup [.ref pe,.ref l6]) h7;have s47:=s5.trans (s6.trans s7);exact k p7 pe l6 _ us (es++[l]) (s4.trans s47) zaa (s47 _ _ e4) (hv.mono λx v h=>h.kt (KT.of s47)) (s7 _ _ e6) ⟨hch,l,by simp,hnb⟩
   .rw[decide_eq_false (λz=>hnb (zga.mp z))];refine iteT ?_
    have hch2:=hch.more hnb;have hsh:=hch2.short;have hl5:us.length+1<=4*cs.length:=by rw[hl4];rw[Ak,Bs]at hsh;exact hsh
    refine⟨_,rfl,.inl ⟨rfl,_,SqL.of e4⟩,_,rfl,pe,us,_,rfl,rfl,e4,bigE (by lia),?_⟩;have k5:KT H4 (upd H4 pe (.lst (us++[.ref re]))):=KT.lst e4;have e5:upd H4 pe (.lst (us++[.ref re])) pe=some (.lst (us++[.ref re])):=zaa;have s5:Same H (upd H4 pe (.lst (us++[.ref re]))):=zar hpe s4;have q5:upd H4 pe (.lst (us++[.ref re])) ps=some (.lst ((es.map (stepB (isIn cs))).map sv)):=by rw[zai (Bx hne)];exact q4
    generalize upd H4 pe (.lst (us++[.ref re]))=H5 at k5 e5 s5 q5;have hel:es.length<=240000:=by rw[Ak,Ak]at hsh;lia
    refine⟨_,rfl,.inl ⟨rfl,_,SqL.of q5⟩,_,rfl,ps,_,_,rfl,rfl,q5,bigE (by simp;lia),?_⟩;have em:(es.map (stepB (isIn cs))).map sv++[sv (stepB (isIn cs) l)]=((es++[l]).map (stepB (isIn cs))).map sv:=by rw[AJ,AJ];rfl
    rw[em];have k6:KT H5 (upd H5 ps (.lst (((es++[l]).map (stepB (isIn cs))).map sv))):=KT.lst q5;have q6:upd H5 ps (.lst (((es++[l]).map (stepB (isIn cs))).map sv)) ps=some (.lst (((es++[l]).map (stepB (isIn cs))).map sv)):=zaa;have s6:Same H (upd H5 ps (.lst (((es++[l]).map (stepB (isIn cs))).map sv))):=zar hps0 s5;have e6:upd H5 ps (.lst (((es++[l]).map (stepB (isIn cs))).map sv)) pe=some (.lst (us++[.ref re])):=by rw[zai hne];exact e5
    generalize upd H5 ps (.lst (((es++[l]).map (stepB (isIn cs))).map sv))=H6 at k6 q6 s6 e6;have kt:=k5.trans k6;have r6:=kt _ _ er;refine⟨_,rfl,_,rfl,t,re,isIn cs,nxt (isIn cs) l,rfl,tab.same s6,SqT.of r6,hw4,λp7 q7 H7 s7 f7 g7=>?_⟩;refine⟨p7,_,rfl,SqT.of f7,rfl,_,_,rfl,_,_,rfl,rfl,?_⟩;have e7:=s7 _ _ e6;refine⟨⟨us++[.ref re],es++[l],nxt (isIn cs) l,q7,rfl,s6.trans s7,e7,?_,s7 _ _ q6,hch2,g7⟩,?_⟩
    .exact hv.snoc (λx v hx=>(hx.kt kt).kt (KT.of s7)) ⟨re,rfl,s7 _ _ r6⟩
    .show 4*cs.length+1-zjy (H7 pe)<4*cs.length+1-zjy (H4 pe);rw[e7,e4];show 4*cs.length+1-(us++[V.ref re]).length<4*cs.length+1-us.length;rw[Ak,Bs];lia
  .rintro σ H4 Q1 Q2 hQ ⟨v,h1,v2,h2,dd,ee,r1,r2,x1,x2,kk,h3,q⟩;exact⟨v,h1,v2,h2,dd,ee,r1,r2,x1,x2,kk,h3,hQ _ _ q⟩
noncomputable def Frz(t:Addr)(kvs:List (List Key×V))(H H':Hp):Prop:=(∀b o,b≠t->H b=some o->H' b=some o)/\∃od,H' t=some (.frz od (.dT kvs))
noncomputable def ziQ(K:W.Frag):Sp:=λvs H Q _=>∃(t:Addr) (cs:List Cell),vs=[.ref t]/\H t=some (.dT (tru (cs.map kC)))/\cs.length<=60000/\∀p H' us,H p=none->Frz t (tru (cs.map kC)) H H'->H' p=some (.lst us)->VR us (allE cs) eR H'->Q (.ref p) H'
theorem zfS (T:Txt P w K mg) (g__law_gone:Fn P w K mg base 1 "_law_gone" ["_law_x","_law_y","_law_step"] zcU) (d:Df K mg "_law_edges" zbC ["_law_there"]):FnOk P w K mg base CX0 2 d.f d.fd ["_law_there"] (ziQ K):=by
 refine d.F.ok zbt (λvs H Q E h=>?_) (λcdv A outer s H vs Q E hr h=>?_)
 .obtain⟨t,cs,rfl,_⟩:=h;rfl
 .obtain⟨t,cs,rfl,ht,hlen,k⟩:=h;have hu1:=hu_of hr;have nb0:(["_law_way","_law_x","_law_y","_law_there"]:List Str).Nodup:=by decide +kernel
  refine⟨_,(zac (sE 1 zbt.nd (zaI zab))
   (zac (zbr Bd rfl (zkq (pv 0)) (za0 (by rfl) (zae (zcK (i:=2) zbt.nd (by rfl) (D0 rfl)) (zae (zcK (i:=3) zbt.nd (by rfl) (D0 rfl)) zaq)))
   (zag (zbc (pe_bm AL DR DS zdY (pv 1) (zah (zbi (osc:=zaf zbC) (N:=zds) (N':=["_law_way","_law_x","_law_y","_law_there"]) (sel:=[none,some 2,some 3,some 0]) bO (zck (by rfl) T.nrange (pa_C zad zab)) (λ_ _ _ _ _=>(nG 0 nb0)) (λ_ _ _ _ _=>zbH (zcy (zbM hu1 (pC g__law_gone hr (pa_N (pv 1) (pa_N (pv 2) (pa_B (pe_op zat (pe_op zaw (pe_op zbD zad (pv 0)) zad) zad) zab)))) (pv 3)))) (λ_ _ _ _ _=>(zan (pa_N (pv 1) (pa_N (pv 2) (pa_N (pv 0) zab)))))) zab)))))
   (zag (zal (pv 1))))),?_⟩
  refine⟨(by show 0<=sizeLine;decide),λp hp=>?_⟩;have s1:=Same.up (o:=.lst []) hp;have e1:upd H p (.lst []) p=some (.lst []):=zaa;generalize upd H p (.lst [])=H1 at s1 e1;have ht1:=s1 _ _ ht;have hpt:p≠t:=ne_of e1 ht1 (λz=>nomatch z);refine⟨_,rfl,t,_,rfl,ht1,λod=>?_⟩;have kt2:KT H1 (upd H1 t (.frz od (.dT (tru (cs.map kC))))):=KT.dct ht1;have sb2:∀b o,b≠t->H1 b=some o->upd H1 t (.frz od (.dT (tru (cs.map kC)))) b=some o:=λb o hb e=>by rw[zai hb];exact e
  have e2:upd H1 t (.frz od (.dT (tru (cs.map kC)))) t=some (.frz od (.dT (tru (cs.map kC)))):=zaa;have hp2:upd H1 t (.frz od (.dT (tru (cs.map kC)))) p=some (.lst []):=by rw[zai hpt];exact e1
  generalize upd H1 t (.frz od (.dT (tru (cs.map kC))))=H2 at kt2 sb2 e2 hp2
  refine zkI (a:=t) (od:=od) (kvs:=tru (cs.map kC)) (λi σ H3=>∃o2 o3,σ=[some (.ref t),some (.ref p),o2,o3]/\(∀b o,b≠p->H2 b=some o->H3 b=some o)/\∃us,H3 p=some (.lst us)/\VR us ((sides (cs.take i)).filter λe=>!isIn cs (gap e)) eR H3)
   ⟨_,_,rfl,λ_ _ _ e=>e,[],hp2,VR.nil⟩ (λi σ H3 _ ⟨_,_,_,s3,_⟩=>s3 _ _ (Bx hpt) e2) ?_ ?_
  .rintro i b kk v σ H3 hi hb ⟨o2,o3,rfl,s3,us,e3,hv3⟩;have hil:i<cs.length:=by have:=(Ad.mp hi).1;unfold tru at this;simpa using this
   have ci:cs[i]?=some cs[i]:=Aa hil
   have hk:kk=kC cs[i]:=by
    unfold tru at hi;rw[Ax,Ax,ci]at hi
    cases hi;rfl
   subst hk;have t3:=s3 _ _ (Bx hpt) e2;refine⟨b,_,rfl,SqT.of hb,rfl,_,_,rfl,_,_,rfl,rfl,?_⟩;refine⟨_,rfl,.inl ⟨rfl,_,SqL.of e3⟩,4,rfl,by decide,by decide,λg hg=>?_⟩
   refine zbA (lo:=0) (n:=4) (λj σ H4=>∃o,σ=[o,some (.int cs[i].1),some (.int cs[i].2),some (.ref t)]/\Same H3 H4/\∃zs,H4 g=some (.lst zs)/\VR zs (((AO j).map λw=>(⟨cs[i],w⟩:Edge)).filter λe=>!isIn cs (gap e)) eR H4)
    ⟨_,rfl,Same.up hg,[],zaa,VR.nil⟩ ?_ ?_
   .rintro j σ H4 hj ⟨o,rfl,s4,zs,e4,hz⟩;have m6:(2*(0+(j:Int))+6) % 8=(((2*j+6) % 8:Nat):Int):=by lia
    have hzl:zs.length<=4:=by rw[hz.1];have:=A8 (λe=>!isIn cs (gap e)) ((AO j).map λw=>(⟨cs[i],w⟩:Edge));rw[Ai,BH]at this;lia
    refine⟨_,rfl,_,rfl,_,rfl,_,_,rfl,rfl,.inl ⟨by decide,by decide⟩,_,_,rfl,rfl,_,_,rfl,rfl,(by show (0:Int)<8;decide),cs[i],(2*j+6) % 8,(by rw[<- m6];rfl),A1 _ (by decide),λp5 H5 hp5 s5 e5=>?_⟩;have t5:=(s4.trans s5) _ _ t3;refine⟨_,rfl,t,_,rfl,.inr ⟨tru (cs.map kC),kC (gap ⟨cs[i],j⟩),p5,.inr ⟨od,t5⟩,rfl,e5,rfl⟩,_,rfl,?_⟩;rw[zg8,List.range_succ,AJ,List.map_singleton,zcP];refine ite2 (λhy=>?_) (λhn'=>?_)
    .rw[if_pos hy];refine⟨_,rfl,_,rfl,_,rfl,three,λq hq'=>?_⟩;have s6:=Same.up (o:=.tup [.int cs[i].1,.int cs[i].2,.int (0+(j:Int))]) hq';have r6:eR ⟨cs[i],j⟩ (.ref q) (upd H5 q (.tup [.int cs[i].1,.int cs[i].2,.int (0+(j:Int))])):=⟨q,rfl,by rw[zaa,Int.zero_add];rfl⟩;generalize upd H5 q (.tup [.int cs[i].1,.int cs[i].2,.int (0+(j:Int))])=H6 at s6 r6;have e6:=(s5.trans s6) _ _ e4;refine⟨zs,e6,bigE (by lia),_,rfl,zar hg (s4.trans (s5.trans s6)),_,zaa,?_⟩;exact hz.snoc (λx v h=>(h.kt (KT.of (s5.trans s6))).kt (KT.lst e6)) (r6.kt (KT.lst e6))
    .rw[if_neg hn',AN];exact⟨_,rfl,s4.trans s5,zs,s5 _ _ e4,hz.mono λx v h=>h.kt (KT.of s5)⟩
   .rintro σ H4 ⟨o,rfl,s4,zs,e4,hz⟩
    have hzl:zs.length<=4:=by rw[hz.1];have:=A8 (λe=>!isIn cs (gap e)) ((AO 4).map λw=>(⟨cs[i],w⟩:Edge));rw[Ai,BH]at this;exact this
    have hul:us.length<=240000:=by rw[hv3.1];have:=A8 (λe=>!isIn cs (gap e)) (sides (cs.take i));rw[zcb,A6]at this;lia
    have e34:=s4 _ _ e3;refine⟨p,g,_,_,rfl,rfl,e34,e4,Bg (bigE (by lia)),?_⟩;have k7:KT H4 (upd H4 p (.lst (us++zs))):=KT.lst e34;refine⟨_,_,rfl,λb o hb e=>?_,_,zaa,?_⟩
    .rw[zai hb];exact s4 _ _ (s3 _ _ hb e)
    .rw[zaG ci,zhZ,CI];exact (hv3.mono λx v h=>(h.kt (KT.of s4)).kt k7).app (hz.mono λx v h=>h.kt k7)
  .rintro σ H3 ⟨o2,o3,rfl,s3,us,e3,hv3⟩;rw[show (tru (cs.map kC)).length=cs.length by unfold tru;rw[Ai,Ai],AS]at hv3;refine⟨_,rfl,k p H3 us hp ⟨λb o hb e=>?_,od,s3 _ _ (Bx hpt) e2⟩ e3 hv3⟩;exact s3 _ _ (zaj e hp) (sb2 _ _ hb (s1 _ _ e))
noncomputable def stI(o:Option Nat):Option Int:=o.map λn:Nat=>(n:Int)
theorem zmn(o:Option Nat):(stI o).elim V.non V.int=sv o:=by cases o <;> rfl
theorem zid(C:Cell->Bool)(es:List Edge):((es.map (stepB C)).map stI).countP (·.isNone)=nL (wk C es):=by
 rw[nL_wk,List.countP_map,List.countP_map,List.countP_eq_length_filter]
 congr 1
 apply List.filter_congr
 intro e _;show (stI (stepB C e)).isNone=(stepB C e).isNone
 cases stepB C e <;> rfl
noncomputable def plR(es:List Edge)(k:Nat)(v:V)(H:Hp):Prop:=∃e p,es[k]?=some e/\v=.ref p/\H p=some (.tup [.int e.c.2,.int e.c.1,.int (k:Int)])
theorem plR.kt{es:List Edge}{k:Nat}{v:V}{H H':Hp}(h:plR es k v H)(s:KT H H'):plR es k v H':=let ⟨e,p,a,b,c⟩:=h;⟨e,p,a,b,s _ _ c⟩
noncomputable def keyP(es:List Edge)(k:Nat):List Int:=match es[k]? with |some e=>[e.c.2,e.c.1,(k:Int)] |none=>[]
theorem lex3{a b c d x y:Int}(h:HT.lexLt [a,b] [c,d]=true):HT.lexLt [a,b,x] [c,d,y]=true:=by
 simp only[HT.lexLt]at h ⊢
 by_cases e:a=c
 .rw[if_pos e]at h ⊢
  by_cases f:b=d
  .rw[if_pos f]at h;cases h
  .rw[if_neg f]at h ⊢;exact h
 .rw[if_neg e]at h ⊢;exact h
noncomputable def ziF(K:W.Frag):Sp:=λvs H Q _=>∃(pe pq:Addr) (us:List V) (C:Cell->Bool) (es:List Edge),vs=[.ref pe,.ref pq]/\H pe=some (.lst us)/\VR us es eR H/\H pq=some (.lst ((es.map (stepB C)).map sv))/\es.length<=240000 /\
 (∃e∈es,e.w=0)/\(∃e∈es,e.w=2)/\∀v H' r,Same H H'->rR r v H'->IsRnd (wk C es) r->Q v H'
theorem zgH (T:Txt P w K mg) (d:Df K mg "_law_told" zbl ["_law_edges_here","_law_steps"]):FnOk P w K mg base CX0 2 d.f d.fd ["_law_edges_here","_law_steps"] (ziF K):=by
 refine d.F.ok zbp (λvs H Q E h=>?_) (λcdv A outer s H vs Q E hr h=>?_)
 .obtain⟨pe,pq,us,C,es,rfl,_⟩:=h;rfl
 .obtain⟨pe,pq,us,C,es,rfl,e10,hv10,q10,hel,hw0,hw2,k⟩:=h;have hu1:=hu_of hr;have nb0:(["_law_step"]:List Str).Nodup:=by decide +kernel
  have nb1:(["_law_k","_law_x","_law_y","_law_here","_law_way"]:List Str).Nodup:=by decide +kernel
  have nb2:(["_law_step"]:List Str).Nodup:=by decide +kernel
  refine⟨_,(zac (sE 2 zbp.nd (pe_op zb6 (pe_bm AL PySem.F.slot_list_count PySem.F.type_list_count zjs (pv 1) (pa_C zbL zab)) (zav zaL (by rfl) T.nlen (by rfl) (zah (zbi (osc:=zaf zbl) (N:=zb1) (N':=["_law_step"]) (sel:=[none]) bO (za3 (pv 1)) (λ_ _ _ _ _=>(nG 0 nb0)) (λ_ _ _ _ _=>zbH (zi6 (zay zdT (pv 0) zbL (zaz _)) (zgC (zay op_eq (pe_op zat (pv 0) zad) zad (zaz _)))).pt) (λ_ _ _ _ _=>(pv 0))) zab))))
   (zac (zdR (i:=3) zbp.nd (by rfl) (D0 rfl) (pe_ix zaP (zaI (pa_C zad (pa_C zad zab))) (za4 zed (by rfl) T.nint (by rfl) (zah (zbW op_gt (pv 2) zad (zaz _)) zab)) (λ_ _=>rfl)))
   (zac (sE 4 zbp.nd (pe_ix zcn (zav (zj3 hu1 rfl) (by rfl) T.nmin (by rfl) (zah (zbi (osc:=zaf zbl) (N:=zb1) (N':=["_law_k","_law_x","_law_y","_law_here","_law_way"]) (sel:=[none,none,none,none,some 3]) bO (zlL (by rfl) T.nenumerate (pa_N (pv 0) zab)) (λ_ _ _ _ _=>(zcJ (K:=K) (n:=2) (by rfl) (zae (nG 0 nb1) (zae (zcJ (K:=K) (n:=3) (by rfl) (zae (nG 1 nb1) (zae (nG 2 nb1) (zae (nG 3 nb1) zaq)))) zaq)))) (λ_ _ _ _ _=>zbH (zay op_eq (pv 3) (pv 4) (zaz _))) (λ_ _ _ _ _=>(zan (pa_N (pv 2) (pa_N (pv 1) (pa_N (pv 0) zab)))))) zab)) zad (λ_ _=>rfl)))
   (zac (sE 5 zbp.nd (za4 zbZ (by rfl) T.ntuple (by rfl) (zah (zbi (osc:=zaf zbl) (N:=zb1) (N':=["_law_step"]) (sel:=[none]) bO (za3 (pe_op zfQ (za6 zgv (pv 1) (zbd (pv 4)) zbx) (za6 zgv (pv 1) zbx (zbd (pv 4))))) (λ_ _ _ _ _=>(nG 0 nb2)) (λ_ _ _ _ _=>zbH (zay zdT (pv 0) zbL (zaz _))) (λ_ _ _ _ _=>(pv 0))) zab)))
   (zag (zal (zan (zah (pe_ix zaP (zaI (pa_C zcl (pa_C zcl zab))) (za4 zed (by rfl) T.nint (by rfl) (zah (zbW op_gt (pv 2) zad (zaz _)) zab)) (λ_ _=>rfl)) (zah (pe_ix zcn (pe_ix zaP (pv 0) (pv 4) (λ_ _=>rfl)) zad (λ_ _=>rfl)) (zah (pe_ix zcn (pe_ix zaP (pv 0) (pv 4) (λ_ _=>rfl)) zad (λ_ _=>rfl)) (pa_N (pv 5) zab))))))))))),?_⟩
  have qs:H pq=some (.lst (((es.map (stepB C)).map stI).map λo=>o.elim V.non V.int)):=by
   rw[q10]
   congr 2
   simp only[DH]
   apply B7
   intro o _;exact (zmn _).symm
  refine⟨_,rfl,.inl ⟨rfl,_,SqL.of q10⟩,pq,_,rfl,rfl,qs,?_⟩;rw[zid];refine⟨_,rfl,pq,rfl,⟨_,SqL.of q10⟩,λg hg=>?_⟩
  refine zaK (K:=K) (a:=pq) (xs:=(es.map (stepB C)).map sv) (λi σ H1=>∃o,σ=[o]/\Same H H1/\∃zs:List V,H1 g=some (.lst zs)/\zs.length=((es.take i).filter λe=>slant (stepB C e)).length)
   ⟨_,rfl,Same.up hg,[],zaa,rfl⟩ (λi σ H1 _ ⟨_,_,s1,_⟩=>SqL.of (s1 _ _ q10)) ?_ ?_
  .rintro i u σ H1 hi ⟨o,rfl,s1,zs,e1,hz⟩;rw[Ax,Ax]at hi;obtain⟨so,hso',rfl⟩:=Bc.mp hi;obtain⟨f,hf,rfl⟩:=Bc.mp hso';have hil:i<es.length:=(Ad.mp hf).1
   have hzl:zs.length<=240000:=by have:=A8 (λe=>slant (stepB C e)) (es.take i);rw[A6]at this;lia
   rw[zbX hf]
   cases hst:stepB C f with
   |none=>exact⟨_,rfl,rfl,_,rfl,iteF ⟨_,rfl,s1,zs,e1,by rw[if_neg (by decide),AN];exact hz⟩⟩
   |some n =>
    have hd:decide (V.int ((n:Int) % 2)=V.int 1)=slant (some n):=by
     show _=(n % 2 == 1)
     by_cases q:n % 2=1
     .rw[decide_eq_true (by rw[show (n:Int) % 2=1 by lia]),q];rfl
     .rw[decide_eq_false (λz=>q (by injection z with z;lia))];simp[q]
    refine⟨_,rfl,rfl,_,rfl,iteT ⟨_,rfl,_,_,rfl,rfl,(by show (0:Int)<2;decide),rfl,_,rfl,?_⟩⟩;rw[hd];refine ite2 (λhy=>?_) (λhn=>?_)
    .refine⟨_,rfl,zs,e1,bigE (by lia),_,rfl,zar hg s1,_,zaa,?_⟩;rw[if_pos hy,Ak,Ak,hz];rfl
    .exact⟨_,rfl,s1,zs,e1,by rw[if_neg hn,AN];exact hz⟩
  .rintro σ H1 ⟨o,rfl,s1,zs,e1,hz⟩;rw[List.take_of_length_le (by rw[Ai,Ai];exact Aj _),<- nS_wk]at hz;refine⟨g,zs,rfl,.inl (SqL.of e1),?_⟩;rw[hz];obtain⟨kk,hkk⟩:∃kk:Nat,kk=kOf (sortS (wk C es)):=⟨_,rfl⟩;have hgt:decide ((0:Int)<(nL (wk C es):Int)-(nS (wk C es):Int))=decide (nS (wk C es)<nL (wk C es)):=decide_eq_decide.mpr (by lia)
   have way:atI [V.int 2,V.int 0] (if decide (nS (wk C es)<nL (wk C es))=true then 1 else 0)=some (.int (kk:Int)):=by
    rw[hkk];unfold kOf sortS
    by_cases z:nS (wk C es)<nL (wk C es)
    .rw[if_pos z,decide_eq_true z];rfl
    .rw[if_neg z,decide_eq_false z];rfl
   have sor:atI [V.str "hole",V.str "rim"] (if decide (nS (wk C es)<nL (wk C es))=true then 1 else 0)=some (.str (sortS (wk C es))):=by
    unfold sortS
    by_cases z:nS (wk C es)<nL (wk C es)
    .rw[if_pos z,decide_eq_true z];rfl
    .rw[if_neg z,decide_eq_false z];rfl
   refine⟨_,_,rfl,rfl,two,λl2 h2=>?_⟩;have s2:=Same.up (o:=.lst [.int 2,.int 0]) h2;have e2:upd H1 l2 (.lst [.int 2,.int 0]) l2=some (.lst [.int 2,.int 0]):=zaa;generalize upd H1 l2 (.lst [.int 2,.int 0])=H2 at s2 e2;refine⟨_,rfl,_,_,rfl,rfl,.inr ⟨_,rfl,l2,_,_,_,rfl,rfl,SqL.of e2,(by rw[hgt];exact way),?_⟩⟩;have s12:=s1.trans s2;have pe2:=s12 _ _ e10;have pq2:=s12 _ _ q10;have hv2:=hv10.mono λx v h=>h.kt (KT.of s12)
   have hul:us.length=es.length:=hv10.1;refine⟨_,rfl,pe,rfl,⟨_,SqL.of pe2⟩,λg2 hg2=>?_⟩
   refine zkH (K:=K) (a:=pe) (xs:=us) (λi σ H3=>∃o0 o1 o2 o3,σ=[o0,o1,o2,o3,some (.int (kk:Int))]/\Same H2 H3/\∃zs,H3 g2=some (.lst zs)/\VR zs ((AO i).filter λk=>(es[k]?).any (·.w == kk)) (plR es) H3)
    ⟨_,_,_,_,rfl,Same.up hg2,[],zaa,VR.nil⟩ (λi σ H3 _ ⟨_,_,_,_,_,s3,_⟩=>SqL.of (s3 _ _ pe2)) ?_ ?_
   .rintro i u σ H3 p hi ⟨o0,o1,o2,o3,rfl,s3,zs3,e3,hz3⟩ hp;obtain⟨f,hf,bf,rfl,qf⟩:=hv2.at hi;have s4:=Same.up (o:=.tup [.int i,.ref bf]) hp;have e4:upd H3 p (.tup [.int i,.ref bf]) p=some (.tup [.int i,.ref bf]):=zaa;generalize upd H3 p (.tup [.int i,.ref bf])=H4 at s4 e4;have qf4:=(s3.trans s4) _ _ qf;have hil:i<es.length:=(Ad.mp hf).1
    have hzl:zs3.length<=240000:=by rw[hz3.1];have:=A8 (λk=>(es[k]?).any (·.w == kk)) (AO i);rw[BH]at this;lia
    have hd:decide (V.int (f.w:Int)=V.int (kk:Int))=(es[i]?).any (·.w == kk):=by
     rw[hf];show _=(f.w == kk)
     by_cases q:f.w=kk
     .rw[q];simp
     .rw[decide_eq_false (λz=>q (by injection z with z;lia))];simp[q]
    refine⟨p,_,rfl,SqT.of e4,rfl,_,_,rfl,_,_,rfl,bf,_,rfl,SqT.of qf4,rfl,_,_,rfl,_,_,rfl,_,_,rfl,rfl,rfl,_,rfl,_,rfl,rfl,_,rfl,?_⟩;rw[hd,List.range_succ,zcP];refine ite2 (λhy=>?_) (λhn=>?_)
    .rw[if_pos hy];refine⟨_,rfl,_,rfl,_,rfl,three,λq hq=>?_⟩;have s5:=Same.up (o:=.tup [.int f.c.2,.int f.c.1,.int (i:Int)]) hq;have r5:plR es i (.ref q) (upd H4 q (.tup [.int f.c.2,.int f.c.1,.int (i:Int)])):=⟨f,q,hf,rfl,zaa⟩;generalize upd H4 q (.tup [.int f.c.2,.int f.c.1,.int (i:Int)])=H5 at s5 r5;have e5:=(s4.trans s5) _ _ e3;refine⟨zs3,e5,bigE (by lia),_,_,_,_,rfl,zar hg2 (s3.trans (s4.trans s5)),_,zaa,?_⟩;exact hz3.snoc (λx v h=>(h.kt (KT.of (s4.trans s5))).kt (KT.lst e5)) (r5.kt (KT.lst e5))
    .rw[if_neg hn,AN];exact⟨_,_,_,_,rfl,s3.trans s4,zs3,s4 _ _ e3,hz3.mono λx v h=>h.kt (KT.of s4)⟩
   .rintro σ H3 ⟨o0,o1,o2,o3,rfl,s3,zs3,e3,hz3⟩;rw[hul]at hz3;obtain⟨L,hL⟩:∃L,L=(AO es.length).filter λk=>(es[k]?).any (·.w == kk):=⟨_,rfl⟩
    rw[<- hL]at hz3
    have memL:∀j,j∈L ↔ ∃e,es[j]?=some e/\e.w=kk:=λj=>by
     rw[hL,List.mem_filter,List.mem_range];constructor
     .rintro⟨h1,h2⟩;rw[Aa h1]at h2;exact⟨es[j],Aa h1,by simpa using h2⟩
     .rintro⟨e,h1,h2⟩;exact⟨(Ad.mp h1).1,by rw[h1];simpa using h2⟩
    have hex:∃e∈es,e.w=kk:=by
     rw[hkk];rcases zeU (wk C es) with z |z <;> rw[z]
     .exact hw0
     .exact hw2
    have hpos:0<zs3.length:=by obtain⟨e,h1,h2⟩:=hex;obtain⟨j,hj,ej⟩:=Ay h1;rw[hz3.1];exact Da ((memL j).mpr ⟨e,by rw[Aa hj,ej],h2⟩)
    refine⟨g2,zs3,λi=>keyP es (L.getD i 0),rfl,SqL.of e3,hpos,λi x hx=>?_,λi x H4 hx hle s4=>?_⟩
    .obtain⟨j,hj,e,p,he,rfl,q⟩:=hz3.at hx;refine⟨p,rfl,SqT.of ?_⟩;show H3 p=some (HO.tup ((keyP es (L.getD i 0)).map V.int));rw[AC,hj,Option.getD_some];unfold keyP;rw[he,q];rfl
    .obtain⟨j,hj,e,p,he,rfl,q⟩:=hz3.at hx;have q4:=s4 _ _ q;have hjl:j<es.length:=(Ad.mp he).1
     have hwj:e.w=kk:=by obtain⟨e',h1,h2⟩:=(memL j).mp (Ag hj);rw[he]at h1;cases h1;exact h2
     obtain⟨ws,hws⟩:∃ws,ws=(es.map (stepB C)).map sv:=⟨_,rfl⟩;have hwl:ws.length=es.length:=by rw[hws,Ai,Ai]
     have pq4:=(s3.trans s4) _ _ pq2;have pe4:=(s3.trans s4) _ _ pe2;rw[<- hws]at pq4;refine⟨p,_,_,_,rfl,rfl,SqT.of q4,zaT (j:=2) rfl,?_⟩;refine⟨_,rfl,_,rfl,_,rfl,pq,ws,rfl,SqL.of pq4,λp5 hp5=>?_⟩;rw[zkO ws (by lia:j<=ws.length)];have s5:=Same.up (o:=.lst (ws.drop j)) hp5;refine⟨_,rfl,_,rfl,_,rfl,pq,ws,rfl,SqL.of (s5 _ _ pq4),λp6 hp6=>?_⟩;rw[zmX ws (by lia:j<=ws.length)];have s6:=Same.up (o:=.lst (ws.take j)) hp6;refine⟨p5,p6,_,_,rfl,rfl,s6 _ _ zaa,zaa,Bg (bigE (by simp;lia)),λp7 hp7=>?_⟩;have s7:=Same.up (o:=.lst (ws.drop j++ws.take j)) hp7;have s47:=s5.trans (s6.trans s7);have e7:upd (upd (upd H4 p5 (.lst (ws.drop j))) p6 (.lst (ws.take j))) p7 (.lst (ws.drop j++ws.take j)) p7=some (.lst (ws.drop j++ws.take j)):=zaa;generalize upd (upd (upd H4 p5 (.lst (ws.drop j))) p6 (.lst (ws.take j))) p7 (.lst (ws.drop j++ws.take j))=H7 at s47 e7 ⊢;obtain⟨os,hos⟩:∃os:List (Option Nat),os=(es.map (stepB C)).drop j++(es.map (stepB C)).take j:=⟨_,rfl⟩;have hwo:ws.drop j++ws.take j=os.map sv:=by rw[hws,hos,AJ,CC,CF]
     have hol:os.length<=240000:=by rw[hos];simp;lia
     rw[hwo]at e7;refine⟨p7,rfl,⟨_,SqL.of e7⟩,λg8 hg8=>?_⟩
     refine zaK (K:=K) (a:=p7) (xs:=os.map sv) (λi σ H8=>∃o,σ=[o]/\Same H7 H8/\H8 g8=some (.lst (rowV ((os.take i).filterMap id))))
      ⟨_,rfl,Same.up hg8,zaa⟩ (λi σ H8 _ ⟨_,_,s8,_⟩=>SqL.of (s8 _ _ e7)) ?_ ?_
     .rintro i u σ H8 hi ⟨o,rfl,s8,e8⟩;rw[Ax]at hi;obtain⟨so,hso,rfl⟩:=Bc.mp hi
      have hl2:(rowV ((os.take i).filterMap id)).length<=1000000:=by unfold rowV;rw[Ai];have:=DT id (os.take i);rw[A6]at this;lia
      refine⟨_,rfl,rfl,_,rfl,?_⟩;rw[zkZ,zaG hso,Du]
      cases so with
      |none=>exact iteF ⟨_,rfl,s8,by simpa using e8⟩
      |some n =>
       refine iteT ⟨_,rfl,_,e8,bigE hl2,_,rfl,zar hg8 s8,?_⟩;rw[zaa];simp[rowV,sv]
     .rintro σ H8 ⟨o,rfl,s8,e8⟩;rw[Ai,AS]at e8;refine⟨g8,_,rfl,.inl ⟨SqL.of e8,λp9 hp9=>?_⟩⟩;have s9:=Same.up (o:=.tup (rowV (os.filterMap id))) hp9;have e9:upd H8 p9 (.tup (rowV (os.filterMap id))) p9=some (.tup (rowV (os.filterMap id))):=zaa;generalize upd H8 p9 (.tup (rowV (os.filterMap id)))=H9 at s9 e9;refine⟨two,λl10 h10=>?_⟩;have s10:=Same.up (o:=.lst [.str "hole",.str "rim"]) h10;have e10':upd H9 l10 (.lst [.str "hole",.str "rim"]) l10=some (.lst [.str "hole",.str "rim"]):=zaa;generalize upd H9 l10 (.lst [.str "hole",.str "rim"])=H10 at s10 e10';have s210:=(s3.trans s4).trans (s47.trans (s8.trans (s9.trans s10)));have pe10:=s210 _ _ pe2;have huj:us[j]?=some us[j]:=Aa (by lia)
      obtain⟨e',he',bf,ebf,qf⟩:=hv2.at huj;rw[he]at he'
      cases he'
      have qf10:=s210 _ _ qf;have hat:atI us (j:Int)=some (.ref bf):=zaT (by rw[huj,ebf]);refine⟨_,rfl,_,_,rfl,rfl,.inr ⟨_,rfl,l10,_,_,_,rfl,rfl,SqL.of e10',(by rw[hgt];exact sor),?_⟩⟩;refine⟨_,rfl,_,rfl,pe,_,_,_,rfl,rfl,SqL.of pe10,hat,bf,_,_,_,rfl,rfl,SqT.of qf10,zaT (j:=0) rfl,?_⟩;refine⟨_,rfl,_,rfl,pe,_,_,_,rfl,rfl,SqL.of pe10,hat,bf,_,_,_,rfl,rfl,SqT.of qf10,zaT (j:=1) rfl,?_⟩;refine⟨_,rfl,(by show 4<=sizeLine;decide),λp11 hp11=>?_⟩;refine k _ _ ⟨sortS (wk C es),e.c.1,e.c.2,os.filterMap id⟩ (s12.trans (s210.trans (Same.up hp11))) ⟨p11,p9,rfl,zaa,Same.up hp11 _ _ (s10 _ _ e9)⟩ ⟨rfl,j,e,?_,⟨?_,?_,λf h1 h2=>?_⟩,rfl,rfl,?_⟩
      .rw[zb4];exact he
      .rw[zb4];exact Ag he
      .rw[hwj,hkk]
      .rw[zb4]at h1;obtain⟨m,hm,em⟩:=Ay h1;have hmL:=(memL m).mpr ⟨f,by rw[Aa hm,em],by rw[h2,hkk]⟩;obtain⟨n,hn,en⟩:=Ay hmL;have hnl:n<zs3.length:=by rw[hz3.1];exact hn
       have:=(hle n hnl).1
       have kn:keyP es (L.getD n 0)=[f.c.2,f.c.1,(m:Int)]:=by rw[AC,Aa hn,en,Option.getD_some];unfold keyP;rw[Aa hm,em]
       have ki:keyP es (L.getD i 0)=[e.c.2,e.c.1,(j:Int)]:=by rw[AC,hj,Option.getD_some];unfold keyP;rw[he]
       simp only[kn,ki]at this
       cases q':HT.lexLt [f.c.2,f.c.1] [e.c.2,e.c.1] with
       |false=>rfl
       |true=>rw[lex3 q']at this;cases this
      .rw[hos];unfold wk;rw[<- CC,<- CF,<- AJ,<- CC,<- CF,<- AJ,Br,Br];rfl
theorem InOrd.pw{cs:List Cell}(h:InOrd cs):cs.Pairwise λa b=>HT.lexLt [a.2,a.1] [b.2,b.1]=true:=by
 induction cs with
 |nil=>exact .nil
 |cons a r ih =>
  have ih':=ih λi c d h1 h2=>h (i+1) c d (by simpa using h1) (by simpa using h2)
  refine List.pairwise_cons.mpr ⟨λb hb=>?_,ih'⟩
  cases r with
  |nil=>cases hb
  |cons c r =>
   have h0:HT.lexLt [a.2,a.1] [c.2,c.1]=true:=h 0 a c rfl rfl;rcases At.mp hb with rfl |hb
   .exact h0
   .exact HT.lexLt_trans h0 ((List.pairwise_cons.mp ih').1 b hb)
theorem InOrd.nodup{cs:List Cell}(h:InOrd cs):cs.Nodup:=h.pw.imp λ{a b} q e=>by subst e;rw[HT.lexLt_irrefl]at q;cases q
theorem _root_.L2.But1.kt{pos:Pos}{qual:Str}{P:Addr}{H H':Hp}(b:But1 P H H')(l:LamAt pos qual P H):KT H H':=λz xs e=>b z _ (l.ne e nofun) e
noncomputable def lamQ (f:Str):Str:=f ++ ".<locals>." ++ "<lambda>"
noncomputable abbrev lpT:Pos:=(⟨194,34,194,100⟩:Pos)
noncomputable abbrev LamT (P:Addr) (H:Hp):Prop:=LamAt lpT (lamQ "_law_traced") P H
noncomputable def zeR(K:W.Frag)(L:Addr):Sp:=λvs H Q _=>∃(a:Addr) (us:List V) (cs:List Cell),vs=[.ref a]/\H a=some (.lst us)/\VR us cs cR H/\cs.Nodup/\cs.length<=60000/\Slim cs/\LamT L H /\
 ∀p H' rs R R0,H p=none->But1 L H H'->LamT L H'->H' p=some (.lst rs)->VR rs R rR H'->R.Perm R0->R.Pairwise (λr q=>HT.lexLt (keyI q) (keyI r)=false)->Whole cs R0->Q (.ref p) H'
theorem ze7 {L c:Addr}(T:Txt P w K mg) (hB:Bm mg base) (hh:Dc K c L=true) (g__law_lot:Fn P w K mg base 1 "_law_lot" ["_law_cells"] (ziL K)) (g__law_edges:Fn P w K mg base 2 "_law_edges" ["_law_there"] (ziQ K))
    (g__law_walked:Fn P w K mg base 3 "_law_walked" ["_law_there","_law_first"] (zhc K)) (g__law_told:Fn P w K mg base 2 "_law_told" ["_law_edges_here","_law_steps"] (ziF K))
    (d:Df K mg "_law_traced" zaR ["_law_cells"]) (hc:d.fd.code=.ref c):FnOk P w K mg base CX0 5 d.f d.fd ["_law_cells"] (zeR K L):=by
  refine d.F.okL hc zaC (λvs H Q E h=>?_) (λA outer s H vs Q E hr h=>?_)
  . obtain⟨a,us,cs,rfl,_⟩:=h;rfl
  . obtain⟨a,us,cs,rfl,ea,hva,hnd,hlen,hslim,hlam,k⟩:=h;have hu1:=hu_of hr
    refine⟨_,(zac (sE 1 zaC.nd (pC g__law_lot hr (pa_N (pv 0) zab)))
      (zac (sE 2 zaC.nd zcW)
      (zac (sE 3 zaC.nd (zaI zab))
      (zac (zbr Bd rfl (za3 (pC g__law_edges hr (pa_N (pv 1) zab))) (nG 4 zaC.nd)
      (zag (ps_if (zcy (zbM hu1 (pv 4) (pv 2)))
      (zac (za2 (pC g__law_walked hr (pa_N (pv 1) (pa_N (pv 4) zab))) (za0 (by rfl) (zae (nG 5 zaC.nd) (zae (nG 6 zaC.nd) zaq))))
      (zac (zbr Bd rfl (za3 (pv 5)) (nG 7 zaC.nd)
      (zag (ze2 hu1 (pv 2) (pv 7) pe_bl rfl)))
      (zag (zbc (pe_bm AL Ba Bb zaU (pv 3) (zah (pC g__law_told hr (pa_N (pv 5) (pa_N (pv 6) zab))) zab))))))
      zaF)))
      (zag (zal (zje (k:=0) (N:=["_law_one"]) (hr.mono (by decide)) (by rfl) T.nsorted rfl hh hB (by rfl) ⟨rfl,rfl,rfl,by decide +kernel,rfl,by decide +kernel,by decide +kernel⟩ (λ_ _ _ _=>rfl) (pv 3) (λ_ _ _ _ _ _=>(zan (zah (pe_ix (zfj (K:=K)) (pv 0) zad (λ_ _=>rfl)) (zah (pe_ix (zfj (K:=K)) (pv 0) zad (λ_ _=>rfl)) (zah (zbW op_eq (pe_ix (zfj (K:=K)) (pv 0) zad (λ_ _=>rfl)) zcl (zaz _)) zab)))))))))))),?_⟩
    have hcn:(cs.map kC).Nodup:=List.Pairwise.map _ (λa b hab e=>hab (zhx.mp e)) hnd;refine⟨_,rfl,a,us,cs,rfl,SqL.of ea,hva,hlen,λt H1 L1 ht s1 e1 hL1=>?_⟩;rw[hL1.same hnd,zmW]at e1;refine λdd hdd=>⟨(by show 0<=sizeLine;decide),λp hp=>?_⟩
    have hpd:p≠dd:=λz=>by subst z;rw[zaa]at hp;cases hp
    have s4:Same H1 (upd (upd H1 dd (.dT [])) p (.lst [])):=(Same.up hdd).trans (Same.up hp);have d4:upd (upd H1 dd (.dT [])) p (.lst []) dd=some (.dT []):=by rw[zai (Bx hpd),zaa]
    have p4:upd (upd H1 dd (.dT [])) p (.lst []) p=some (.lst []):=zaa;have n2:H1 dd=none:=hdd;have n2p:H1 p=none:=by rw[zai hpd]at hp;exact hp
    generalize upd (upd H1 dd (.dT [])) p (.lst [])=H4 at s4 d4 p4;have t4:=s4 _ _ e1;have a4:=(s1.trans s4) _ _ ea;have s14:=s1.trans s4;refine⟨_,rfl,t,cs,rfl,t4,hlen,λpe H5 es hpe f5 e5 hvE=>?_⟩;obtain⟨f5,od,t5⟩:=f5;have kt5:KT H4 H5:=λb xs e=>f5 b _ (ne_of e t4 (λz=>nomatch z)) e
    have s15:Same H H5:=λb o e=>f5 b o (zaj e ht) (s14 _ _ e)
    have d5:H5 dd=some (.dT []):=f5 _ _ (zaj e1 n2).symm d4;have p5:H5 p=some (.lst []):=f5 _ _ (zaj e1 n2p).symm p4;have hped:pe≠dd:=(zaj d4 hpe).symm;have hpep:pe≠p:=(zaj p4 hpe).symm;have htd:t≠dd:=zaj e1 n2;have htp:t≠p:=zaj e1 n2p;have nHd:H dd=none:=s1.free n2;have nHp:H p=none:=s1.free n2p;refine⟨pe,rfl,⟨_,SqL.of e5⟩,?_⟩
    refine zaK (K := K) (a := pe) (xs := es) (λi σ H6 => ∃o4 o5 o6 o7, σ = [some (.ref a), some (.ref t), some (.ref dd), some (.ref p), o4, o5, o6, o7] /\ Same H H6 /\ H6 t=some (.frz od (.dT (tru (cs.map kC)))) /\ H6 pe=some (.lst es) /\ KT H5 H6 /\
        ∃kvs rs ESS R,H6 dd=some (.dT kvs)/\H6 p=some (.lst rs)/\VR rs R rR H6/\Part (isIn cs) ESS R/\(∀e,(valV kvs (kE e)).isSome=decide (e∈ESS.flatten))/\kvs.length<=ESS.flatten.length/\∀e∈(allE cs).take i,e∈ESS.flatten)
      ⟨_,_,_,_,rfl,s15,t5,e5,KT.refl _,[],[],[],[],d5,p5,VR.nil,Part.nil,(λe=>by simp[valV]),Aj _,(λe he=>by simp at he)⟩ (λi σ H6 _ ⟨_,_,_,_,_,_,_,e6,_⟩=>SqL.of e6) ?_ ?_
    . rintro i v σ H6 hi ⟨o4,o5,o6,o7,rfl,s6,t6,e6,kt6,kvs,rs,ESS,R,d6,p6,hR,hP,hkv,hkl,hall⟩;obtain⟨e,he,b,rfl,qb⟩:=hvE.at hi;have hE:IsE (isIn cs) e:=zhs.mp (Ag he);have qb6:=kt6 _ _ qb;refine⟨_,rfl,_,rfl,dd,_,rfl,.inr ⟨kvs,kE e,b,Rd.of d6,rfl,qb6,rfl⟩,_,rfl,?_⟩;rw[hkv]
      by_cases hin:e∈ESS.flatten
      . rw[decide_eq_true hin];refine iteF ⟨_,_,_,_,rfl,s6,t6,e6,kt6,kvs,rs,ESS,R,d6,p6,hR,hP,hkv,hkl,λf hf=>?_⟩;rcases (zcm he).mp hf with z |z
        . exact hall f z
        . rw[z];exact hin
      . rw[decide_eq_false hin];refine iteT ?_
        have tab6:TabR H6 t (isIn cs):=TabR.of (.inr ⟨od,t6⟩);refine⟨_,rfl,_,rfl,t,b,cs,e,rfl,tab6,qb6,hE,hlen,λpw pu pq H7 ws fs s7 f7 e7 hv7 q7 hcl=>?_⟩;have hfs:fs.length<=4*cs.length:=hcl.1.short;have hap:=hcl.apart hP.back hin;have d7:=s7 _ _ d6;have hud:pu≠dd:=ne_of e7 d7 (λz=>nomatch z);have hws:ws.length=fs.length:=hv7.1;refine⟨pw,_,rfl,SqT.of f7,rfl,_,_,rfl,_,_,rfl,rfl,?_⟩;refine⟨_,rfl,pu,rfl,⟨_,SqL.of e7⟩,?_⟩
        refine zaK (K := K) (a := pu) (xs := ws) (λj σ H8 => ∃o7, σ = [some (.ref a), some (.ref t), some (.ref dd), some (.ref p), some (.ref b), some (.ref pu), some (.ref pq), o7] /\ (∀z o, z ≠ dd -> H7 z=some o -> H8 z=some o) /\
            ∃kv8,H8 dd=some (.dT kv8)/\(∀f,(valV kv8 (kE f)).isSome=decide (f∈ESS.flatten∨f∈fs.take j))/\kv8.length<=ESS.flatten.length+j)
          ⟨_,rfl,(λz o _ h=>h),kvs,d7,(λf=>by rw[hkv];simp),by lia⟩ (λj σ H8 _ ⟨_,_,k8,_⟩=>SqL.of (k8 _ _ hud e7)) ?_ ?_
        . rintro j u σ H8 hj ⟨o7,rfl,k8,kv8,d8,hk8,hl8⟩;obtain⟨f,hf',bb,rfl,q2⟩:=hv7.at hj;have nb:bb≠dd:=ne_of q2 d7 (λz=>nomatch z);have hjl:j<fs.length:=by rw[<- hws];exact (Ad.mp hj).1
          have hsm:=hP.small;refine⟨_,rfl,_,rfl,dd,_,rfl,.inr ⟨kv8,kE f,bb,d8,rfl,k8 _ _ nb q2,bigE (by lia),rfl⟩,?_⟩;refine⟨_,rfl,(λz o hz h=>by rw[zai hz];exact k8 z o hz h),_,zaa,(λg=>?_),AM (zbf _ _ _) (by lia)⟩;rw[zg6]
          by_cases eg:g=f
          . rw[if_pos (zlg.mpr eg),decide_eq_true (.inr ((zcm hf').mpr (.inr eg)))];rfl
          . rw[if_neg (λz=>eg (zlg.mp z)),hk8];refine decide_eq_decide.mpr ⟨λz=>z.imp id λq=>(zcm hf').mpr (.inl q),λz=>z.imp id λq=>((zcm hf').mp q).resolve_right eg⟩
        . rintro σ H8 ⟨o7,rfl,k8,kv8,d8,hk8,hl8⟩;rw[hws,AS]at hk8;have p8:=k8 _ _ hpd (s7 _ _ p6);have kt8:KT H7 H8:=λz xs h=>k8 z _ (ne_of h d7 (λq=>nomatch q)) h
          have u8:H8 pu=some (.lst ws):=k8 _ _ hud e7;have q8:H8 pq=some (.lst ((fs.map (stepB (isIn cs))).map sv)):=k8 _ _ (ne_of q7 d7 (λz=>nomatch z)) q7;have hrl:rs.length<=60000:=by rw[hR.1];exact AM hP.few hlen
          refine⟨_,rfl,.inl ⟨rfl,_,SqL.of p8⟩,_,rfl,_,rfl,pu,pq,ws,isIn cs,fs,rfl,u8,hv7.mono (λx v hx=>hx.kt kt8),q8,by lia,hcl.has (.inl rfl),hcl.has (.inr rfl),λvr H9 r s9 hr9 hrn=>?_⟩;have p9:=s9 _ _ p8;refine⟨p,rs,_,rfl,rfl,p9,bigE (by lia),?_⟩;have kt9:KT H9 (upd H9 p (.lst (rs++[vr]))):=KT.lst p9;have ktA:KT H6 (upd H9 p (.lst (rs++[vr]))):=(KT.of s7).trans (kt8.trans ((KT.of s9).trans kt9));refine⟨_,_,_,_,rfl,(λz o h=>?_),?_,?_,kt6.trans ktA,kv8,rs++[vr],ESS++[fs],R++[r],?_,zaa,hR.snoc (λx v hx=>hx.kt ktA) (hr9.kt kt9),hP.snoc hcl hrn hin,(λf=>?_),?_,(λf hf=>?_)⟩
          . rw[zai (zaj h nHp)];exact s9 _ _ (k8 _ _ (zaj h nHd) (s7 _ _ (s6 _ _ h)))
          . rw[zai htp];exact s9 _ _ (k8 _ _ htd (s7 _ _ t6))
          . rw[zai hpep];exact s9 _ _ (k8 _ _ hped (s7 _ _ e6))
          . rw[zai (Bx hpd)];exact s9 _ _ d8
          . rw[hk8];refine decide_eq_decide.mpr ?_
            rw[DM,AA];simp
          . rw[DM,Ak,show [fs].flatten=fs by simp];lia
          . rw[DM,AA];rcases (zcm he).mp hf with z |z
            . exact .inl (hall f z)
            . rw[z];refine .inr ?_
              have:=hcl.1.1;simpa using Ag this
    . rintro σ H6 ⟨o4,o5,o6,o7,rfl,s6,t6,e6,kt6,kvs,rs,ESS,R,d6,p6,hR,hP,hkv,hkl,hall⟩;rw[hvE.1,AS]at hall;have hrl:rs.length<=63:=by rw[hR.1];exact hslim _ _ hP
      have ge:∀(i:Nat) r,R[i]?=some r->R.getD i ⟨"",0,0,[]⟩=r:=λi r h=>by simp only[AC,h,Option.getD_some]
      have lam6:LamT L H6:=hlam.same s6
      refine⟨_,rfl,p,rs,λi=>keyV (R.getD i ⟨"",0,0,[]⟩),λi=>keyI (R.getD i ⟨"",0,0,[]⟩),rfl,lam6,SqL.of p6,by lia,λi x H7 hx b7=>?_,
        λi j hi hj=>⟨_,_,_,_,_,_,rfl,rfl,.cons (.int _ _) (.cons (.bl _ _) .nil),rfl,rfl⟩,λpp D H7 hpm hpo hD b7 l7 f7=>?_⟩
      . obtain⟨r,hr',x1,x2,rfl,q1,q2⟩:=hR.at hx;have q7:=b7.kt lam6 _ _ q1;refine⟨_,rfl,x1,_,_,_,rfl,rfl,SqT.of q7,zaT (j:=2) rfl,_,rfl,x1,_,_,_,rfl,rfl,SqT.of q7,zaT (j:=1) rfl,_,rfl,x1,_,_,_,rfl,rfl,SqT.of q7,zaT (j:=0) rfl,rfl,three,λq hq=>⟨Same.up hq,q,rfl,SqT.of ?_⟩⟩;show upd H7 q _ q=some (HO.tup (keyV (R.getD i ⟨"",0,0,[]⟩)));rw[ge i r hr',zaa];rfl
      . have kt7:=b7.kt lam6;have hpl:pp.length=R.length:=by rw[hpm.length_eq,BH,hR.1]
        have hlt:∀i∈pp,i<R.length:=λi hi=>by have:=Bp.mp (hpm.mem_iff.mp hi);rw[hR.1]at this;exact this
        have hRR:(pp.map λi=>R.getD i ⟨"",0,0,[]⟩).Perm R:=by
          have h1:=hpm.map λi=>R.getD i (⟨"",0,0,[]⟩:Rnd)
          rw[hR.1]at h1
          have h2:((AO R.length).map λi=>R.getD i (⟨"",0,0,[]⟩:Rnd))=R:=by
            apply List.ext_getElem
            . simp
            . intro i a b;simp[show i<R.length by simpa using a]
          rw[h2]at h1;exact h1
        have vR:VR (pp.map λi=>rs.getD i V.non) (pp.map λi=>R.getD i ⟨"",0,0,[]⟩) rR H7:=by
          refine⟨by simp,λi r v h1 h2=>?_⟩;rw[Ax]at h1 h2;obtain⟨a,ha,rfl⟩:=Bc.mp h1;rw[ha]at h2
          cases h2
          have hal:=hlt a (Ag ha);have hal2:a<rs.length:=by rw[hR.1];exact hal
          have e1:R.getD a ⟨"",0,0,[]⟩=R[a]:=by simp[hal]
          have e2:rs.getD a V.non=rs[a]:=by simp[hal2]
          rw[e1];show rR R[a] (rs.getD a V.non) H7;rw[e2];exact (hR.2 a _ _ (Aa hal) (Aa hal2)).kt kt7
        refine k D H7 _ _ R (s6.free hD) (s6.but1.trans b7) l7 f7 vR hRR ?_ ⟨ESS,hP,λe=>⟨hP.isE e,λh=>hall e (zhs.mpr h)⟩⟩
        rw[List.pairwise_map];exact hpo
noncomputable def St8(xs:List V):Prop:=∀v∈xs,∃n:Nat,n<8/\v=.int (n:Int)
theorem St8.row:∀{xs:List V},St8 xs->∃row:List Nat,xs=rowV row/\∀s∈row,s<8
 |[],_=>⟨[],rfl,λ_ h=>by cases h⟩
 |v::xs,h=>by
  obtain⟨n,hn,rfl⟩:=h v (.head _);obtain⟨row,rfl,h8⟩:=St8.row (xs:=xs) λv hv=>h v (.tail _ hv)
  exact⟨n::row,rfl,λs hs=>by rcases At.mp hs with rfl |hs;exact hn;exact h8 s hs⟩
theorem St8.of{row:List Nat}(h:∀s∈row,s<8):St8 (rowV row):=λv hv=>by obtain⟨n,hn,rfl⟩:=Aq.mp hv;exact⟨n,h n hn,rfl⟩
theorem St8.sub{xs ys:List V}(h:St8 xs)(s:∀v∈ys,v∈xs):St8 ys:=λv hv=>h v (s v hv)
theorem St8.app{xs ys:List V}(h:St8 xs)(k:St8 ys):St8 (xs++ys):=λv hv=>by
 rcases AA.mp hv with z |z
 .exact h v z
 .exact k v z
theorem St8.cut{xs:List V}(h:St8 xs)(lo hi:Option Int):St8 (cutV xs lo hi):=h.sub λv hv=>List.mem_of_mem_drop (CT hv)
theorem St8.rev{xs:List V}(h:St8 xs):St8 xs.reverse:=h.sub λv hv=>List.mem_reverse.mp hv
theorem St8.one{i:Int}(h0:0<=i)(h8:i<8):St8 [.int i]:=λv hv=>⟨i.toNat,by lia,by rw[An.mp hv];congr;lia⟩
theorem zgc{xs:List V}{j:Int}{k:Nat}(h0:0<=j):(cutV xs (some j) (some (j+(k:Int)))).length<=k:=by obtain⟨n,rfl⟩:∃n:Nat,j=(n:Int):=⟨j.toNat,by lia⟩;unfold cutV;rw[HT.sIx_nat,show ((n:Int)+(k:Int))=((n+k:Nat):Int) by lia,HT.sIx_nat,A6];lia
theorem zl6{xs:List V}:(cutV xs none (some 240)).length<=240:=by unfold cutV;rw[show (240:Int)=((240:Nat):Int) from rfl,HT.sIx_nat,A6];lia
theorem at5{α:Type}(a b c d e:α){i:Int}(h0:0<=i)(h5:i<5):∃v,atI [a,b,c,d,e] i=some v/\(v=a∨v=b∨v=c∨v=d∨v=e):=by
 have:i=0∨i=1∨i=2∨i=3∨i=4:=by lia
 rcases this with rfl |rfl |rfl |rfl |rfl
 .exact⟨a,rfl,.inl rfl⟩
 .exact⟨b,rfl,.inr (.inl rfl)⟩
 .exact⟨c,rfl,.inr (.inr (.inl rfl))⟩
 .exact⟨d,rfl,.inr (.inr (.inr (.inl rfl)))⟩
 .exact⟨e,rfl,.inr (.inr (.inr (.inr rfl)))⟩
noncomputable def mdR:R2:=rI (λx j=>0<j) λi j=>V.int (i % j)
noncomputable def dvR:R2:=rI CDiv λi j=>V.int (i / j)
noncomputable def adR:R2:=rI0 λi j=>V.int (i+j)
noncomputable def ix5:TE:=tOp mdR (tOp dvR (tVar 6) (tC (V.int 64))) (tC (V.int 5))
theorem zjF{σ:St}{H:Hp}{st:Int}{Q:VK}(h:σ[6]?=some (some (.int st)))(q:Q (.int (st / 64 % 5)) H):ix5 σ H Q :=
 ⟨_,h,_,_,rfl,rfl,(by show (0:Int)<64/\(64:Int)<1073741824;decide),_,_,rfl,rfl,(by show (0:Int)<5;decide),q⟩
noncomputable def slR(K:W.Frag)(k:Int):TE:=tSl (rSlS K) (tVar 13) (tPart (tVar 5)) (tPart (tOp adR (tVar 5) (tC (V.int k))))
theorem zk7{K:W.Frag}{σ : St}{H:Hp}{b:Addr}{xs:List V}{j k:Int}{Q:VK}(h5 : σ[5]? = some (some (.int j)))(h13 : σ[13]? = some (some (.ref b)))(hb:H b=some (.tup xs))
  (q:∀p H',Same H H'->H' p=some (.tup (cutV xs (some j) (some (j+k))))->Q (.ref p) H'):slR K k σ H Q :=
 ⟨_,h13,_,h5,_,rfl,_,h5,_,_,rfl,rfl,_,rfl,b,xs,rfl,hb,q⟩
noncomputable def chT(K:W.Frag):TS:=tAsg (tOp (rIxL K) (tLst (tCons (tTup tNil) (tCons (tTup (tCons (tOp mdR (tVar 6) (tC (V.int 8))) tNil)) (tCons (tTup (tCons (tOp mdR (tVar 6) (tC (V.int 8))) (tCons (tOp mdR (tOp dvR (tVar 6) (tC (V.int 8))) (tC (V.int 8))) tNil)))
 (tCons (tOp (zlb K) (slR K 1) (tC (V.int 2))) (tCons (tRevT K (slR K 2) (tUn (rU λi=>V.int (-i)) (tC (V.int 1)))) tNil)))))) ix5) (gName 14)
theorem zm1{K:W.Frag}{D:Ends}{H1:Hp}{b:Addr}{xs:List V}{j st:Int}{c0 c1 c2 c3 c4 c7 c8 c9 c10 c11 c12 c14:Option V}(hb:H1 b=some (.tup xs))(h8:St8 xs)(h0 : 0 <= j)(hs : 0 <= st)
  (k:∀t H2 ys,Same H1 H2->H2 t=some (.tup ys)->St8 ys->ys.length<=2->D.nx [c0,c1,c2,c3,c4,some (.int j),some (.int st),c7,c8,c9,c10,c11,c12,some (.ref b),some (.ref t)] H2) :
  chT K D [c0,c1,c2,c3,c4,some (.int j),some (.int st),c7,c8,c9,c10,c11,c12,some (.ref b),c14] H1:=by
 refine⟨Be _,λt0 ht0=>?_⟩;have s2:Same H1 (upd H1 t0 (.tup [])):=Same.up ht0;have e2:upd H1 t0 (.tup []) t0=some (.tup []):=zaa;generalize upd H1 t0 (.tup [])=H2 at s2 e2;refine⟨_,rfl,_,_,rfl,rfl,(by show (0:Int)<8;decide),zjm,λt1 ht1=>?_⟩;have s3:Same H2 (upd H2 t1 (.tup [.int (st % 8)])):=Same.up ht1;have e3:upd H2 t1 (.tup [.int (st % 8)]) t1=some (.tup [.int (st % 8)]):=zaa;generalize upd H2 t1 (.tup [.int (st % 8)])=H3 at s3 e3;refine⟨_,rfl,_,_,rfl,rfl,(by show (0:Int)<8;decide),_,rfl,_,_,rfl,rfl,(by show (0:Int)<8/\(8:Int)<1073741824;decide),_,_,rfl,rfl,(by show (0:Int)<8;decide),two,λt2 ht2=>?_⟩;have s4:Same H3 (upd H3 t2 (.tup [.int (st % 8),.int (st / 8 % 8)])):=Same.up ht2;have e4:upd H3 t2 (.tup [.int (st % 8),.int (st / 8 % 8)]) t2=some (.tup [.int (st % 8),.int (st / 8 % 8)]):=zaa;generalize upd H3 t2 (.tup [.int (st % 8),.int (st / 8 % 8)])=H4 at s4 e4;have s14:=s2.trans (s3.trans s4);refine zk7 rfl rfl (s14 _ _ hb) λp5 H5 s5 e5=>?_
 have l5:(cutV xs (some j) (some (j+1))).length<=1:=zgc (k:=1) h0;refine⟨p5,_,rfl,rfl,e5,l5,λp6 H6 s6 e6=>?_⟩;have s16:=s14.trans (s5.trans s6);refine zk7 rfl rfl (s16 _ _ hb) λp7 H7 s7 e7=>?_
 have l7:(cutV xs (some j) (some (j+2))).length<=2:=zgc (k:=2) h0;refine⟨_,rfl,rfl,p7,_,rfl,SqT.of e7,λp8 hp8=>?_⟩;have s8:Same H7 (upd H7 p8 (.tup (cutV xs (some j) (some (j+2))).reverse)):=Same.up hp8;have e8:upd H7 p8 (.tup (cutV xs (some j) (some (j+2))).reverse) p8=some (.tup (cutV xs (some j) (some (j+2))).reverse):=zaa;generalize upd H7 p8 (.tup (cutV xs (some j) (some (j+2))).reverse)=H8 at s8 e8;refine⟨(by show 5<=sizeLine;decide),λl9 hl9=>?_⟩;have s9:Same H8 (upd H8 l9 (.lst [.ref t0,.ref t1,.ref t2,.ref p6,.ref p8])):=Same.up hl9;have e9:upd H8 l9 (.lst [.ref t0,.ref t1,.ref t2,.ref p6,.ref p8]) l9=some (.lst [.ref t0,.ref t1,.ref t2,.ref p6,.ref p8]):=zaa;generalize upd H8 l9 (.lst [.ref t0,.ref t1,.ref t2,.ref p6,.ref p8])=H9 at s9 e9;obtain⟨v,hv,hor⟩:=at5 (V.ref t0) (.ref t1) (.ref t2) (.ref p6) (.ref p8) (i:=st / 64 % 5) (by lia) (by lia);refine zjF rfl ⟨l9,_,_,_,rfl,rfl,SqL.of e9,hv,?_⟩;simp only[zau,AH,AI];have s49:=s5.trans (s6.trans (s7.trans (s8.trans s9)));have st1:St8 [.int (st % 8)]:=.one (by lia) (by lia);have st2:St8 [.int (st / 8 % 8)]:=.one (by lia) (by lia);rcases hor with rfl |rfl |rfl |rfl |rfl
 .exact k t0 H9 [] (s14.trans s49) ((s3.trans (s4.trans s49)) _ _ e2) (λ_ z=>by cases z) (by decide)
 .exact k t1 H9 _ (s14.trans s49) ((s4.trans s49) _ _ e3) st1 (by simp)
 .exact k t2 H9 _ (s14.trans s49) (s49 _ _ e4) (st1.app st2) (by simp)
 .exact k p6 H9 _ (s14.trans s49) ((s7.trans (s8.trans s9)) _ _ e6) ((h8.cut _ _).app (h8.cut _ _)) (by rw[Ak];lia)
 .exact k p8 H9 _ (s14.trans s49) (s9 _ _ e8) (h8.cut _ _).rev (by rw[List.length_reverse];lia)
noncomputable def w1T(K:W.Frag):TS:=tAsg (tOp (rCatS K) (tOp (rCatS K) (tSl (rSlS K) (tVar 13) zca (tPart (tVar 5))) (tVar 14)) (tSl (rSlS K) (tVar 13) (tPart (tOp adR (tVar 5) (tOp (rIxL K) (tLst (tCons (tC (V.int 1)) (tCons (tC (V.int 1)) (tCons (tC (V.int 1)) (tCons (tC (V.int 1)) (tCons (tC (V.int 2)) tNil)))))) ix5))) zca)) (gName 13)
theorem zmd{K:W.Frag}{D:Ends}{H1:Hp}{b t:Addr}{xs ys:List V}{j st:Int}{c0 c1 c2 c3 c4 c7 c8 c9 c10 c11 c12:Option V}(hb:H1 b=some (.tup xs))(h8:St8 xs)(hl:xs.length <= 1000)(ht:H1 t=some (.tup ys))(y8:St8 ys)(yl:ys.length <= 2)(h0 : 0 <= j)(hs : 0 <= st)
  (k:∀p H2 zs,Same H1 H2->H2 p=some (.tup zs)->St8 zs->D.nx [c0,c1,c2,c3,c4,some (.int j),some (.int st),c7,c8,c9,c10,c11,c12,some (.ref p),some (.ref t)] H2) :
  w1T K D [c0,c1,c2,c3,c4,some (.int j),some (.int st),c7,c8,c9,c10,c11,c12,some (.ref b),some (.ref t)] H1:=by
 refine⟨_,rfl,_,rfl,_,rfl,b,xs,rfl,hb,λp2 H2 s2 e2=>?_⟩;have l2:=zbm xs none (some j);have hsz:(3000:Nat)<=sizeLine:=by decide
 refine⟨_,rfl,p2,t,_,_,rfl,rfl,e2,s2 _ _ ht,by lia,λp3 H3 s3 e3=>?_⟩;have s13:=s2.trans s3;refine⟨_,rfl,_,rfl,(by show 5<=sizeLine;decide),λl4 hl4=>?_⟩;have s4:Same H3 (upd H3 l4 (.lst [.int 1,.int 1,.int 1,.int 1,.int 2])):=Same.up hl4;have e4:upd H3 l4 (.lst [.int 1,.int 1,.int 1,.int 1,.int 2]) l4=some (.lst [.int 1,.int 1,.int 1,.int 1,.int 2]):=zaa;generalize upd H3 l4 (.lst [.int 1,.int 1,.int 1,.int 1,.int 2])=H4 at s4 e4;obtain⟨v,hv,hor⟩:=at5 (V.int 1) (.int 1) (.int 1) (.int 1) (.int 2) (i:=st / 64 % 5) (by lia) (by lia);obtain⟨n,rfl⟩:∃n,v=.int n:=by rcases hor with rfl |rfl |rfl |rfl |rfl <;> exact⟨_,rfl⟩
 refine zjF rfl ⟨l4,_,_,_,rfl,rfl,SqL.of e4,hv,_,_,rfl,rfl,_,rfl,b,xs,rfl,(s13.trans s4) _ _ hb,λp5 H5 s5 e5=>?_⟩;have l5:=zbm xs (some (j+n)) none;refine⟨p3,p5,_,_,rfl,rfl,(s4.trans s5) _ _ e3,e5,by rw[Ak];lia,λp6 H6 s6 e6=>?_⟩;simp only[zau,AH,AI];exact k p6 H6 _ (s13.trans (s4.trans (s5.trans s6))) e6 (((h8.cut _ _).app y8).app (h8.cut _ _))
noncomputable def w2T(K:W.Frag):TS:=tAsg (tOp (rIxL K) (tLst (tCons (tOp (rCatS K) (tSl (rSlS K) (tVar 13) (tPart (tVar 5)) zca) (tSl (rSlS K) (tVar 13) zca (tPart (tVar 5)))) (tCons (tRevT K (tVar 13) (tUn (rU λi=>V.int (-i)) (tC (V.int 1))))
 (tCons (tSl (rSlS K) (tVar 13) zca (tPart (tVar 5))) (tCons (tOp (rCatS K) (tVar 13) (tSl (rSlS K) (tVar 13) zca (tPart (tVar 5)))) (tCons (tOp (rCatS K) (tVar 13) (tVar 13)) tNil)))))) ix5) (gName 13)
theorem zmc{K:W.Frag}{D:Ends}{H1:Hp}{b:Addr}{xs:List V}{j st:Int}{c0 c1 c2 c3 c4 c7 c8 c9 c10 c11 c12 c14:Option V}(hb:H1 b=some (.tup xs))(h8:St8 xs)(hl:xs.length <= 1000)(h0 : 0 <= j)(hs : 0 <= st)
  (k:∀p H2 zs,Same H1 H2->H2 p=some (.tup zs)->St8 zs->D.nx [c0,c1,c2,c3,c4,some (.int j),some (.int st),c7,c8,c9,c10,c11,c12,some (.ref p),c14] H2) :
  w2T K D [c0,c1,c2,c3,c4,some (.int j),some (.int st),c7,c8,c9,c10,c11,c12,some (.ref b),c14] H1:=by
 have l1:=zbm xs (some j) none;have l2:=zbm xs none (some j);have hsz:(3000:Nat)<=sizeLine:=by decide
 refine⟨_,rfl,_,rfl,_,rfl,b,xs,rfl,hb,λp2 H2 s2 e2=>?_⟩;refine⟨_,rfl,_,rfl,_,rfl,b,xs,rfl,s2 _ _ hb,λp3 H3 s3 e3=>?_⟩;refine⟨p2,p3,_,_,rfl,rfl,s3 _ _ e2,e3,by lia,λp4 H4 s4 e4=>?_⟩;have s14:=s2.trans (s3.trans s4);refine⟨_,rfl,_,rfl,rfl,b,xs,rfl,SqT.of (s14 _ _ hb),λp5 hp5=>?_⟩;have s5:Same H4 (upd H4 p5 (.tup xs.reverse)):=Same.up hp5;have e5:upd H4 p5 (.tup xs.reverse) p5=some (.tup xs.reverse):=zaa;generalize upd H4 p5 (.tup xs.reverse)=H5 at s5 e5;have s15:=s14.trans s5;refine⟨_,rfl,_,rfl,_,rfl,b,xs,rfl,s15 _ _ hb,λp6 H6 s6 e6=>?_⟩;have s16:=s15.trans s6;refine⟨_,rfl,_,rfl,_,rfl,_,rfl,b,xs,rfl,s16 _ _ hb,λp7 H7 s7 e7=>?_⟩;have s17:=s16.trans s7;refine⟨b,p7,_,_,rfl,rfl,s17 _ _ hb,e7,by lia,λp8 H8 s8 e8=>?_⟩;have s18:=s17.trans s8;refine⟨_,rfl,_,rfl,b,b,_,_,rfl,rfl,s18 _ _ hb,s18 _ _ hb,by lia,λp9 H9 s9 e9=>?_⟩;refine⟨(by show 5<=sizeLine;decide),λl9 hl9=>?_⟩;have s10:Same H9 (upd H9 l9 (.lst [.ref p4,.ref p5,.ref p6,.ref p8,.ref p9])):=Same.up hl9;have e10:upd H9 l9 (.lst [.ref p4,.ref p5,.ref p6,.ref p8,.ref p9]) l9=some (.lst [.ref p4,.ref p5,.ref p6,.ref p8,.ref p9]):=zaa;generalize upd H9 l9 (.lst [.ref p4,.ref p5,.ref p6,.ref p8,.ref p9])=H10 at s10 e10;obtain⟨v,hv,hor⟩:=at5 (V.ref p4) (.ref p5) (.ref p6) (.ref p8) (.ref p9) (i:=st / 64 % 5) (by lia) (by lia);refine zjF rfl ⟨l9,_,_,_,rfl,rfl,SqL.of e10,hv,?_⟩;simp only[zau,AH,AI];have s810:=s9.trans s10;have s710:=s8.trans s810;have s610:=s7.trans s710;have s1:=s18.trans s810;rcases hor with rfl |rfl |rfl |rfl |rfl
 .exact k p4 H10 _ s1 ((s5.trans (s6.trans s610)) _ _ e4) ((h8.cut _ _).app (h8.cut _ _))
 .exact k p5 H10 _ s1 ((s6.trans s610) _ _ e5) h8.rev
 .exact k p6 H10 _ s1 (s610 _ _ e6) (h8.cut _ _)
 .exact k p8 H10 _ s1 (s810 _ _ e8) (h8.app (h8.cut _ _))
 .exact k p9 H10 _ s1 (s10 _ _ e9) (h8.app h8)
theorem Can.rowE'{C:Cell->Bool}{es:List Edge}{r:Rnd}(h:Can C es r):r.row=es.filterMap (stepB C):=by rw[h.row,Br];rfl
theorem Can.lt8'{C:Cell->Bool}{es:List Edge}{r:Rnd}(h:Can C es r):∀s∈r.row,s<8:=λs hs=>by rw[h.rowE']at hs;obtain⟨e,he,e1⟩:=List.mem_filterMap.mp hs;exact zkf (h.cl.1.2.2.1 e he).1 s e1
theorem Can.so' {C:Cell->Bool}{es:List Edge}{r:Rnd}(h:Can C es r):r.so = "rim" ∨ r.so = "hole":=by rw[h.so];exact zeU _
theorem Can.len'{cs:List Cell}{es:List Edge}{r:Rnd}(h:Can (isIn cs) es r):r.row.length<=4*cs.length:=by rw[h.rowE'];exact AM (DT _ _) h.cl.1.short
theorem But1.sm{L:Addr}{H H':Hp}(s:Same H H'):But1 L H H':=λb o _ h=>s b o h
theorem at2{α:Type}(a b:α){i:Int}(h0:0<=i)(h2:i<2):∃v,atI [a,b] i=some v/\(v=a∨v=b):=by
 have:i=0∨i=1:=by lia
 rcases this with rfl |rfl
 .exact⟨a,rfl,.inl rfl⟩
 .exact⟨b,rfl,.inr rfl⟩
theorem at4{α:Type}(a b c d:α){i:Int}(h0:0<=i)(h5:i<4):∃v,atI [a,b,c,d] i=some v/\(v=a∨v=b∨v=c∨v=d):=by
 have:i=0∨i=1∨i=2∨i=3:=by lia
 rcases this with rfl |rfl |rfl |rfl
 .exact⟨a,rfl,.inl rfl⟩
 .exact⟨b,rfl,.inr (.inl rfl)⟩
 .exact⟨c,rfl,.inr (.inr (.inl rfl))⟩
 .exact⟨d,rfl,.inr (.inr (.inr rfl))⟩
theorem St8.ints{ns:List Int}(h:∀n∈ns,0<=n/\n<8):St8 (ns.map V.int):=λv hv=>by obtain⟨n,hn,rfl⟩:=Aq.mp hv;have:=h n hn;exact⟨n.toNat,by lia,by congr;lia⟩
noncomputable def anyT(K:W.Frag):TS:=tSeq (tAsg (tCall spRow [] E0 (tCons (tVar 0) (tCons (tC (V.int 4)) (tCons (tC (V.int 48)) tNil)))) (gLst K 4 (gCons (gName 9) (gCons (gName 10) (gCons (gName 11) (gCons (gName 12) gNil))))))
 (tRet (tTup (tCons (tOp (rIxL K) (tLst (tCons (tC (V.str "rim")) (tCons (tC (V.str "hole")) tNil))) (tOp mdR (tVar 10) (tC (V.int 2)))) (tCons (tOp (rI0 λi j=>V.int (i-j)) (tVar 11) (tC (V.int 20))) (tCons (tOp (rI0 λi j=>V.int (i-j)) (tVar 12) (tC (V.int 20)))
  (tCons (tCB (λxs H Q=>∃p ys,xs=[.ref p]/\((SqL K H p ys/\∀l,H l=none->Q (.ref l) (upd H l (.tup ys)))∨(SqT K H p ys/\Q (.ref p) H))) (tCons (tCall spRow [] E0 (tCons (tVar 1) (tCons (tOp mdR (tVar 9) (tOp (rIxL K) (tLst (tCons (tC (V.int 5)) (tCons (tC (V.int 9)) (tCons (tC (V.int 20)) (tCons (tC (V.int 48)) tNil))))) (tOp mdR (tVar 7) (tC (V.int 4))))) (tCons (tC (V.int 8)) tNil)))) tNil)) tNil))))))
theorem zj7{K:W.Frag}{D:Ends}{H1:Hp}{c d m:Int}{c2 c3 c4 c5 c6 c8 c9 c10 c11 c12 c13 c14:Option V}(k:∀v r H2, Same H1 H2 -> rR r v H2 -> Form r -> D.rt v H2) :
  anyT K D [some (.int c),some (.int d),c2,c3,c4,c5,c6,some (.int m),c8,c9,c10,c11,c12,c13,c14] H1:=by
 refine⟨_,rfl,c,48,4,rfl,by decide,by decide,by decide,λp2 H2 ns hp2 s2 e2 hl2 hb2=>?_⟩
 match ns,hl2 with
 |[n0,n1,n2,n3],_ =>
 have b0:=hb2 n0 (by simp);have b1:=hb2 n1 (by simp);refine⟨p2,_,rfl,SqL.of e2,rfl,_,_,rfl,_,_,rfl,_,_,rfl,_,_,rfl,rfl,?_⟩;simp only[zau,AH,AI];refine⟨two,λl3 hl3=>?_⟩;have s3:Same H2 (upd H2 l3 (.lst [.str "rim",.str "hole"])):=Same.up hl3;have e3:upd H2 l3 (.lst [.str "rim",.str "hole"]) l3=some (.lst [.str "rim",.str "hole"]):=zaa;generalize upd H2 l3 (.lst [.str "rim",.str "hole"])=H3 at s3 e3;obtain⟨v,hv,hor⟩:=at2 (V.str "rim") (.str "hole") (i:=n1 % 2) (by lia) (by lia);obtain⟨so,hso,rfl⟩:∃so:Str,(so = "rim" ∨ so = "hole")/\v=.str so:=by rcases hor with rfl |rfl;exact⟨_,.inl rfl,rfl⟩;exact⟨_,.inr rfl,rfl⟩
 refine⟨_,rfl,_,_,rfl,rfl,(by show (0:Int)<2;decide),l3,_,_,_,rfl,rfl,SqL.of e3,hv,?_⟩;refine⟨_,rfl,_,_,rfl,rfl,_,rfl,_,_,rfl,rfl,?_⟩;refine⟨_,rfl,_,rfl,(by show 4<=sizeLine;decide),λl4 hl4=>?_⟩;have s4:Same H3 (upd H3 l4 (.lst [.int 5,.int 9,.int 20,.int 48])):=Same.up hl4;have e4:upd H3 l4 (.lst [.int 5,.int 9,.int 20,.int 48]) l4=some (.lst [.int 5,.int 9,.int 20,.int 48]):=zaa;generalize upd H3 l4 (.lst [.int 5,.int 9,.int 20,.int 48])=H4 at s4 e4;obtain⟨v,hv,hor⟩:=at4 (V.int 5) (.int 9) (.int 20) (.int 48) (i:=m % 4) (by lia) (by lia);obtain⟨z,hz0,hz,rfl⟩:∃z:Int,0<z/\z<=48/\v=.int z:=by rcases hor with rfl |rfl |rfl |rfl <;> exact⟨_,by decide,by decide,rfl⟩
 refine⟨_,rfl,_,_,rfl,rfl,(by show (0:Int)<4;decide),l4,_,_,_,rfl,rfl,SqL.of e4,hv,_,_,rfl,rfl,hz0,?_⟩;have hm0:0<=n0 % z:=CN _ (by lia);have hm1:n0 % z<z:=CJ _ hz0;obtain⟨q,hq⟩:∃q:Nat,n0 % z=(q:Int):=⟨(n0 % z).toNat,by lia⟩;refine⟨d,8,q,(by show [V.int d,V.int (n0 % z),V.int 8]=_;rw[hq]),by lia,by decide,by decide,λp5 H5 ms hp5 s5 e5 hl5 hb5=>?_⟩;refine⟨p5,_,rfl,.inl ⟨SqL.of e5,λp6 hp6=>?_⟩⟩;have s6:Same H5 (upd H5 p6 (.tup (ms.map V.int))):=Same.up hp6;have e6:upd H5 p6 (.tup (ms.map V.int)) p6=some (.tup (ms.map V.int)):=zaa;generalize upd H5 p6 (.tup (ms.map V.int))=H6 at s6 e6;refine⟨(by show 4<=sizeLine;decide),λp7 hp7=>?_⟩;have s7:Same H6 (upd H6 p7 (.tup [.str so,.int (n2-20),.int (n3-20),.ref p6])):=Same.up hp7;obtain⟨row,hrow,h8⟩:=(St8.ints hb5).row
 have hrl:row.length=q:=by have:=congrArg List.length hrow;unfold rowV at this;rw[Ai,Ai,hl5]at this;exact this.symm
 refine k _ ⟨so,n2-20,n3-20,row⟩ _ (s2.trans (s3.trans (s4.trans (s5.trans (s6.trans s7))))) ⟨p7,p6,rfl,zaa,s7 _ _ (by rw[e6,hrow])⟩ ⟨hso,by show row.length<=240;lia,h8⟩
noncomputable def ziJ(K:W.Frag)(L:Addr):Sp:=λvs H Q _=>∃(c d s:Int) (a:Addr) (us:List V) (cs:List Cell),vs=[.int c,.int d,.int s,.ref a]/\H a=some (.lst us)/\VR us cs cR H/\cs.Nodup/\cs.length<=120/\Slim cs/\LamT L H /\
 ∀v r H',But1 L H H'->LamT L H'->rR r v H'->Form r->Q v H'
theorem ze8 {L:Addr}(T:Txt P w K mg) (g__law_row:Fn P w K mg base 1 "_law_row" ["_law_cell", "_law_many", "_law_base"] spRow) (g__law_traced:Fn P w K mg base 5 "_law_traced" ["_law_cells"] (zeR K L))
    (d:Df K mg "_law_row_of" zbU ["_law_cell","_law_drawn","_law_spoil","_law_cells"]):FnOk P w K mg base CX0 6 d.f d.fd ["_law_cell","_law_drawn","_law_spoil","_law_cells"] (ziJ K L):=by
  refine d.F.ok zak (λvs H Q E h=>?_) (λcdv A outer s H vs Q E hr h=>?_)
  . obtain⟨c,d,s,a,us,cs,rfl,_⟩:=h;rfl
  . obtain⟨c,dr,sp,a,us,cs,rfl,ha,hus,hord,hcl,hslim,hlam,k⟩:=h;have hu64:=hr.units
    refine⟨_,(zac (za2 (pC g__law_row hr (pa_N (pv 2) (pa_C zad (pa_C zad zab)))) (zjc (by rfl) (zae (nG 4 zak.nd) (zae (nG 5 zak.nd) (zae (nG 6 zak.nd) (zae (nG 7 zak.nd) zaq))))))
      (zac (sE 8 zak.nd (pC g__law_traced hr (pa_N (pv 3) zab)))
      (zac (ps_if (pw_or (zay (zlf hu64) (pv 8) (zaI zab) (zaz _)) (zhg (zay op_eq (pe_op zat (pv 4) zad) zad (zaz _)))).pt
      (zac (za2 (pC g__law_row hr (pa_N (pv 0) (pa_C zad (pa_C zad zab)))) (zjc (by rfl) (zae (nG 9 zak.nd) (zae (nG 10 zak.nd) (zae (nG 11 zak.nd) (zae (nG 12 zak.nd) zaq))))))
      (zag (zal (zan (zah (pe_ix zaP (zaI (pa_C zcl (pa_C zcl zab))) (pe_op zat (pv 10) zad) (λ_ _=>rfl)) (pa_B (pe_op zb6 (pv 11) zad) (pa_B (pe_op zb6 (pv 12) zad) (zah (za4 zbZ (by rfl) T.ntuple (by rfl) (zah (pC g__law_row hr (pa_N (pv 1) (pa_B (pe_op zat (pv 9) (pe_ix zaP (zaI (pa_C zad (pa_C zad (pa_C zad (pa_C zad zab))))) (pe_op zat (pv 7) zad) (λ_ _=>rfl))) (pa_C zad zab)))) zab)) zab))))))))
      zaF)
      (zac (za2 (pe_ix zaP (pv 8) (pe_op zat (pv 7) (zav zaL (by rfl) T.nlen (by rfl) (pa_N (pv 8) zab))) (λ_ _=>rfl)) (za0 (by rfl) (zae (nG 10 zak.nd) (zae (nG 11 zak.nd) (zae (nG 12 zak.nd) (zae (nG 13 zak.nd) zaq))))))
      (zac (sE 5 zak.nd (pe_op zat (pv 5) (pe_op zaw (zav zaL (by rfl) T.nlen (by rfl) (pa_N (pv 13) zab)) zad)))
      (zac (sE 14 zak.nd (pe_ix zaP (zaI (pa_T (zan zab) (pa_T (zan (pa_B (pe_op zat (pv 6) zad) zab)) (pa_T (zan (pa_B (pe_op zat (pv 6) zad) (pa_B (pe_op zat (pe_op zcM (pv 6) zad) zad) zab))) (pa_B (pe_op zkv (za6 zbO (pv 13) (zbd (pv 5)) (zbd (pe_op zaw (pv 5) zad))) zad) (zah (zjf (za6 zbO (pv 13) (zbd (pv 5)) (zbd (pe_op zaw (pv 5) zad))) (pe_un zb9 zad)) zab)))))) (pe_op zat (pe_op zcM (pv 6) zad) zad) (λ_ _=>rfl)))
      (zac (ps_if (zay op_eq (pe_op zat (pv 4) zad) zad (zaz _))
      (zag (sE 13 zak.nd (pe_op zdU (pe_op zdU (za6 zbO (pv 13) zbx (zbd (pv 5))) (pv 14)) (za6 zbO (pv 13) (zbd (pe_op zaw (pv 5) (pe_ix zaP (zaI (pa_C zad (pa_C zad (pa_C zad (pa_C zad (pa_C zad zab)))))) (pe_op zat (pe_op zcM (pv 6) zad) zad) (λ_ _=>rfl)))) zbx))))
      (zag (ps_if (zay op_eq (pe_op zat (pv 4) zad) zad (zaz _))
      (zag (sE 13 zak.nd (pe_ix zaP (zaI (pa_B (pe_op zdU (za6 zbO (pv 13) (zbd (pv 5)) zbx) (za6 zbO (pv 13) zbx (zbd (pv 5)))) (zah (zjf (pv 13) (pe_un zb9 zad)) (zah (za6 zbO (pv 13) zbx (zbd (pv 5))) (pa_B (pe_op zdU (pv 13) (za6 zbO (pv 13) zbx (zbd (pv 5)))) (pa_B (pe_op zdU (pv 13) (pv 13)) zab)))))) (pe_op zat (pe_op zcM (pv 6) zad) zad) (λ_ _=>rfl))))
      (zag (ps_if (zay op_eq (pe_op zat (pv 6) zad) zad (zaz _))
      (zag (sE 10 zak.nd (pe_ix zaP (zaI (pa_C zcl (pa_C zcl zab))) (za4 zed (by rfl) T.nint (by rfl) (zah (zbW op_eq (pv 10) zcl (zaz _)) zab)) (λ_ _=>rfl))))
      zaF)))))
      (zag (zal (zan (pa_N (pv 10) (pa_N (pv 11) (pa_N (pv 12) (zah (za6 zbO (pv 13) zbx (zbd zad)) zab)))))))))))))),?_⟩
    have hσ:L2.start zc0 [V.int c,V.int dr,V.int sp,V.ref a]=[some (.int c),some (.int dr),some (.int sp),some (.ref a),none,none,none,none,none,none,none,none,none,none,none]:=rfl;rw[hσ];refine⟨_,rfl,sp,5040,4,rfl,by decide,by decide,by decide,λp1 H1 ns hp1 s1 e1 hl1 hb1=>?_⟩
    match ns,hl1 with
    |[wy,at_,st,mo],_ =>
    have b0:=hb1 wy (by simp);have b1:=hb1 at_ (by simp);have b2:=hb1 st (by simp);have b3:=hb1 mo (by simp);refine⟨p1,_,rfl,SqL.of e1,rfl,_,_,rfl,_,_,rfl,_,_,rfl,_,_,rfl,rfl,?_⟩;simp only[zau,AH,AI];refine⟨_,rfl,a,us,cs,rfl,s1 _ _ ha,hus.mono λx v h=>h.kt (KT.of s1),hord,by lia,hslim,hlam.same s1,λpr H2 rv R R0 hpr b2' lam2 e2 hvr hpm _ hwh=>?_⟩;simp only[zau,AH,AI];have bt:But1 L H H2:=(But1.sm s1).trans b2';obtain⟨ESS,hcans⟩:=hwh.cans hpm
    have hso:∀r∈R,SoOk r:=λr hr'=>by obtain⟨i,hi,rfl⟩:=Ay hr';obtain⟨es,_,hcan⟩:=hcans.so (Aa hi);exact hcan.so'
    refine⟨_,rfl,Be _,λl3 hl3=>?_⟩;have s3:Same H2 (upd H2 l3 (.lst [])):=Same.up hl3;have e3:upd H2 l3 (.lst []) l3=some (.lst []):=zaa;generalize upd H2 l3 (.lst [])=H3 at s3 e3;have hvr3:=hvr.mono λx v h=>rR.kt h (KT.of s3)
    have pr3:=s3 _ _ e2;have bt3:But1 L H H3:=bt.trans (But1.sm s3);have lam3:=lam2.same s3;have hnil:RD K H3 (.ref l3) (lR []):=zfL (SqL.of e3) VR.nil;refine⟨_,_,zfL (SqL.of pr3) hvr3,hnil,zfH hso,zfH (λ_ z=>by cases z),_,rfl,?_⟩;rw[zmV]
    by_cases hR:R=[]
    . refine iteY (decide_eq_true hR) (iteT ?_);exact zj7 (K:=K) λv r H4 s4 hv hF=>k v r H4 (bt3.trans (But1.sm s4)) (lam3.same s4) hv hF
    refine iteN (decide_eq_false hR) ?_
    refine⟨_,rfl,_,_,rfl,rfl,(by show (0:Int)<4;decide),rfl,_,rfl,?_⟩
    by_cases hw0:wy % 4=0
    . refine iteY (decide_eq_true (congrArg V.int hw0)) ?_
      exact zj7 (K:=K) λv r H4 s4 hv hF=>k v r H4 (bt3.trans (But1.sm s4)) (lam3.same s4) hv hF
    refine iteN (decide_eq_false (λz=>hw0 (V.int.inj z))) ?_
    have hpos:0<rv.length:=by
      rw[hvr.1]
      cases R with
      |nil=>exact absurd rfl hR
      |cons _ _=>exact Nat.succ_pos _
    obtain⟨j,hj⟩:∃j:Nat,mo % (rv.length:Int)=(j:Int):=⟨(mo % (rv.length:Int)).toNat,by have:=CN mo (b:=(rv.length:Int)) (by lia);lia⟩;have hjl:j<rv.length:=by have:=CJ mo (b:=(rv.length:Int)) (by lia);lia
    obtain⟨v,hv⟩:∃v,rv[j]?=some v:=⟨_,Aa hjl⟩;obtain⟨r,hr',x,b,rfl,q1,q2⟩:=hvr3.at hv;obtain⟨es,hes,hcan⟩:=hcans.so hr';have hat:atI rv (mo % (rv.length:Int))=some (.ref x):=by rw[hj];exact zaT hv
    refine⟨_,rfl,_,rfl,_,rfl,pr,rv,rfl,.inl (SqL.of pr3),_,_,rfl,rfl,(by show (0:Int)<_;lia),pr,rv,_,_,rfl,rfl,SqL.of pr3,hat,x,_,rfl,SqT.of q1,rfl,_,_,rfl,_,_,rfl,_,_,rfl,_,_,rfl,rfl,?_⟩;simp only[zau,AH,AI];have hrl:r.row.length<=480:=by have:=hcan.len';lia
    have h8:St8 (rowV r.row):=.of hcan.lt8';have hrv:(rowV r.row).length<=1000:=by unfold rowV;rw[Ai];lia
    refine⟨_,rfl,_,rfl,b,_,rfl,.inr (SqT.of q2),_,_,rfl,rfl,_,_,rfl,rfl,(by show (0:Int)<_;lia),?_⟩;simp only[zau,AH,AI];have ha0:0<=at_ % (((rowV r.row).length:Int)+1):=CN _ (by lia);generalize at_ % (((rowV r.row).length:Int)+1)=at1 at ha0;refine zm1 (K:=K) q2 h8 ha0 b2.1 λt H4 ys s4 e4 y8 yl=>?_
    have q24:=s4 _ _ q2
    have fin:∀(so:Str) (p:Addr) (H5:Hp) (zs:List V), (so = "rim" ∨ so = "hole") -> Same H4 H5 -> H5 p=some (.tup zs) -> St8 zs -> tRet (tTup (tCons (tVar 10) (tCons (tVar 11) (tCons (tVar 12) (tCons (tSl (rSlS K) (tVar 13) zca (tPart (tC (V.int 240)))) tNil))))) { nx := λx x_1 => False, rt := Q }
        [some (V.int c),some (V.int dr),some (V.int sp),some (V.ref a),some (V.int wy),some (V.int at1),some (V.int st),some (V.int mo),some (V.ref pr),none,some (.str so),some (.int r.x),some (.int r.y),some (.ref p),some (.ref t)] H5:=λso p H5 zs hso' s5 e5 z8=>by
      refine⟨_,rfl,_,rfl,_,rfl,_,rfl,_,rfl,p,zs,rfl,e5,λp6 H6 s6 e6=>?_⟩;refine⟨(by show 4<=sizeLine;decide),λp7 hp7=>?_⟩;have s7:Same H6 (upd H6 p7 (.tup [.str so,.int r.x,.int r.y,.ref p6])):=Same.up hp7;obtain⟨row,hrow,r8⟩:=(z8.cut none (some 240)).row
      have hl:row.length<=240:=by
        have:=zl6 (xs:=zs);rw[hrow]at this;unfold rowV at this
        rwa [Ai]at this
      have s37:=s4.trans (s5.trans (s6.trans s7));exact k _ ⟨so,r.x,r.y,row⟩ _ (bt3.trans (But1.sm s37)) (lam3.same s37) ⟨p7,p6,rfl,zaa,s7 _ _ (by rw[e6,hrow])⟩ ⟨hso',hl,r8⟩
    refine⟨_,rfl,_,_,rfl,rfl,(by show (0:Int)<4;decide),rfl,_,rfl,?_⟩
    by_cases hw1:wy % 4=1
    . refine iteY (decide_eq_true (congrArg V.int hw1)) ?_
      refine zmd (K:=K) q24 h8 hrv e4 y8 yl ha0 b2.1 λp H5 zs s5 e5 z8=>?_
      exact fin r.so p H5 zs hcan.so' s5 e5 z8
    refine iteN (decide_eq_false (λz=>hw1 (V.int.inj z))) ?_
    refine⟨_,rfl,_,_,rfl,rfl,(by show (0:Int)<4;decide),rfl,_,rfl,?_⟩
    by_cases hw2:wy % 4=2
    . refine iteY (decide_eq_true (congrArg V.int hw2)) ?_
      refine zmc (K:=K) q24 h8 hrv ha0 b2.1 λp H5 zs s5 e5 z8=>?_
      exact fin r.so p H5 zs hcan.so' s5 e5 z8
    refine iteN (decide_eq_false (λz=>hw2 (V.int.inj z))) ?_
    refine⟨_,rfl,_,_,rfl,rfl,(by show (0:Int)<8;decide),rfl,_,rfl,?_⟩
    by_cases hs1:st % 8=1
    . refine iteY (decide_eq_true (congrArg V.int hs1)) ?_
      refine⟨two,λl5 hl5=>?_⟩;have s5:Same H4 (upd H4 l5 (.lst [.str "rim",.str "hole"])):=Same.up hl5;have e5:upd H4 l5 (.lst [.str "rim",.str "hole"]) l5=some (.lst [.str "rim",.str "hole"]):=zaa;generalize upd H4 l5 (.lst [.str "rim",.str "hole"])=H5 at s5 e5;obtain⟨v,hv,hor⟩:=at2 (V.str "rim") (.str "hole") (i:=if decide (V.str r.so=V.str "rim")=true then 1 else 0) (by split <;> decide) (by split <;> decide);obtain⟨so,hso',rfl⟩:∃so:Str,(so = "rim" ∨ so = "hole")/\v=.str so:=by rcases hor with rfl |rfl;exact⟨_,.inl rfl,rfl⟩;exact⟨_,.inr rfl,rfl⟩
      refine⟨_,rfl,rfl,.inr ⟨_,rfl,l5,_,_,_,rfl,rfl,SqL.of e5,hv,?_⟩⟩;simp only[zau,AH,AI];exact fin so b H5 _ hso' s5 (s5 _ _ q24) h8
    . refine iteN (decide_eq_false (λz=>hs1 (V.int.inj z))) ?_
      exact fin r.so b H4 _ hcan.so' (Same.refl _) q24 h8
theorem mv8{i:Nat}(h:i < 8){t0 t1 t2 t3 t4 t5 t6 t7:Addr}{H:Hp}(f0:H t0=some (.tup [.int 1, .int 0]))(f1:H t1=some (.tup [.int 1, .int 1]))(f2:H t2=some (.tup [.int 0, .int 1]))(f3:H t3=some (.tup [.int (-1), .int 1]))
  (f4:H t4=some (.tup [.int (-1),.int 0])) (f5:H t5=some (.tup [.int (-1),.int (-1)])) (f6:H t6=some (.tup [.int 0,.int (-1)])) (f7:H t7=some (.tup [.int 1,.int (-1)])) :
  ∃t,([V.ref t0,.ref t1,.ref t2,.ref t3,.ref t4,.ref t5,.ref t6,.ref t7]:List V)[i]?=some (.ref t)/\H t=some (.tup [.int (mv i).1,.int (mv i).2]):=by
 have:i=0∨i=1∨i=2∨i=3∨i=4∨i=5∨i=6∨i=7:=by lia
 rcases this with rfl |rfl |rfl |rfl |rfl |rfl |rfl |rfl
 .exact⟨_,rfl,f0⟩
 .exact⟨_,rfl,f1⟩
 .exact⟨_,rfl,f2⟩
 .exact⟨_,rfl,f3⟩
 .exact⟨_,rfl,f4⟩
 .exact⟨_,rfl,f5⟩
 .exact⟨_,rfl,f6⟩
 .exact⟨_,rfl,f7⟩
theorem zgL (d:Df K mg "_law_gone" zcI ["_law_x","_law_y","_law_step"]):FnOk P w K mg base CX0 1 d.f d.fd ["_law_x","_law_y","_law_step"] zcU:=by
 refine d.F.ok zcc (λvs H Q E h=>?_) (λcdv A outer s H vs Q E hr h=>?_)
 .obtain⟨c,i,rfl,_⟩:=h;rfl
 .obtain⟨c,i,rfl,hi,k⟩:=h
  refine⟨_,(zac (za2 (pe_ix zaP (zaI (zah (zan (zah zad (zah zad zab))) (zah (zan (zah zad (zah zad zab))) (zah (zan (zah zad (zah zad zab))) (zah (zan (zah (pe_un zb9 zad) (zah zad zab))) (zah (zan (zah (pe_un zb9 zad) (zah zad zab))) (zah (zan (zah (pe_un zb9 zad) (zah (pe_un zb9 zad) zab))) (zah (zan (zah zad (zah (pe_un zb9 zad) zab))) (zah (zan (zah zad (zah (pe_un zb9 zad) zab))) zab))))))))) (pv 2) (λ_ _=>rfl)) (za0 (by rfl) (zae (nG 3 zcc.nd) (zae (nG 4 zcc.nd) zaq))))
   (zag (zal (zan (zah (pe_op zaw (pv 0) (pv 3)) (zah (pe_op zaw (pv 1) (pv 4)) zab)))))),?_⟩
  refine⟨two,λt0 h0=>?_⟩;have s0:=Same.up (o:=.tup [.int 1,.int 0]) h0;have f0:upd H t0 (.tup [.int 1,.int 0]) t0=some (.tup [.int 1,.int 0]):=zaa;generalize upd H t0 (.tup [.int 1,.int 0])=H0 at s0 f0;refine⟨two,λt1 h1=>?_⟩;have s1:=Same.up (o:=.tup [.int 1,.int 1]) h1;have f1:upd H0 t1 (.tup [.int 1,.int 1]) t1=some (.tup [.int 1,.int 1]):=zaa;generalize upd H0 t1 (.tup [.int 1,.int 1])=H1 at s1 f1;refine⟨two,λt2 h2=>?_⟩;have s2:=Same.up (o:=.tup [.int 0,.int 1]) h2;have f2:upd H1 t2 (.tup [.int 0,.int 1]) t2=some (.tup [.int 0,.int 1]):=zaa;generalize upd H1 t2 (.tup [.int 0,.int 1])=H2 at s2 f2;refine⟨_,rfl,two,λt3 h3=>?_⟩;have s3:=Same.up (o:=.tup [.int (-1),.int 1]) h3;have f3:upd H2 t3 (.tup [.int (-1),.int 1]) t3=some (.tup [.int (-1),.int 1]):=zaa;generalize upd H2 t3 (.tup [.int (-1),.int 1])=H3 at s3 f3;refine⟨_,rfl,two,λt4 h4=>?_⟩;have s4:=Same.up (o:=.tup [.int (-1),.int 0]) h4;have f4:upd H3 t4 (.tup [.int (-1),.int 0]) t4=some (.tup [.int (-1),.int 0]):=zaa;generalize upd H3 t4 (.tup [.int (-1),.int 0])=H4 at s4 f4;refine⟨_,rfl,_,rfl,two,λt5 h5=>?_⟩;have s5:=Same.up (o:=.tup [.int (-1),.int (-1)]) h5;have f5:upd H4 t5 (.tup [.int (-1),.int (-1)]) t5=some (.tup [.int (-1),.int (-1)]):=zaa;generalize upd H4 t5 (.tup [.int (-1),.int (-1)])=H5 at s5 f5;refine⟨_,rfl,two,λt6 h6=>?_⟩;have s6:=Same.up (o:=.tup [.int 0,.int (-1)]) h6;have f6:upd H5 t6 (.tup [.int 0,.int (-1)]) t6=some (.tup [.int 0,.int (-1)]):=zaa;generalize upd H5 t6 (.tup [.int 0,.int (-1)])=H6 at s6 f6;refine⟨_,rfl,two,λt7 h7=>?_⟩;have s7:=Same.up (o:=.tup [.int 1,.int (-1)]) h7;have f7:upd H6 t7 (.tup [.int 1,.int (-1)]) t7=some (.tup [.int 1,.int (-1)]):=zaa;generalize upd H6 t7 (.tup [.int 1,.int (-1)])=H7 at s7 f7;refine⟨(by show 8<=sizeLine;decide),λl hl=>?_⟩;have s8:=Same.up (o:=.lst [.ref t0,.ref t1,.ref t2,.ref t3,.ref t4,.ref t5,.ref t6,.ref t7]) hl;have f8:upd H7 l (.lst [.ref t0,.ref t1,.ref t2,.ref t3,.ref t4,.ref t5,.ref t6,.ref t7]) l=some (.lst [.ref t0,.ref t1,.ref t2,.ref t3,.ref t4,.ref t5,.ref t6,.ref t7]):=zaa;generalize upd H7 l (.lst [.ref t0,.ref t1,.ref t2,.ref t3,.ref t4,.ref t5,.ref t6,.ref t7])=H8 at s8 f8;have s67:=s7.trans s8;have s57:=s6.trans s67;have s47:=s5.trans s57;have s37:=s4.trans s47;have s27:=s3.trans s37;have s17:=s2.trans s27;have s07:=s1.trans s17;obtain⟨t,ht,ft⟩:=mv8 hi (s07 _ _ f0) (s17 _ _ f1) (s27 _ _ f2) (s37 _ _ f3) (s47 _ _ f4) (s57 _ _ f5) (s67 _ _ f6) (s8 _ _ f7);refine⟨_,rfl,l,_,_,_,rfl,rfl,SqL.of f8,zaT ht,t,_,rfl,SqT.of ft,rfl,_,_,rfl,_,_,rfl,rfl,?_⟩;refine⟨_,rfl,_,rfl,_,_,rfl,rfl,_,rfl,_,rfl,_,_,rfl,rfl,two,λp hp=>?_⟩;have s08:=s0.trans s07;exact k p _ (s08.free hp) (s08.trans (Same.up hp)) zaa
noncomputable def mem(s:Stmt)(j:Nat):Stmt:=match s with
 |.ClassDef _ _ _ body _ _ _ _ _ _ _=>body.getD j (.Pass ⟨0,0,0,0⟩)
 |_=>.Pass ⟨0,0,0,0⟩
noncomputable abbrev zc6:Stmt:=mem (top 2) 0
theorem zki:FnScope ["self","at"] ["self","at"] (zaf zc6):=sC
theorem zkx {f C:Addr}{fd:Bq}(F:Fun K "__init__" "NoRound.__init__" zc6 f fd) (xs:ExS K C) (na:zhP K C "at"):FnOk P w K mg base (CX1 P w) 1 f fd ["self","at"] (spI C ["at"]):=by
 refine F.okX zki (λvs H Q E h=>?_) (λcdv A outer s H vs Q E hr h=>?_)
 .obtain⟨x,t,ws,rfl,hl,_⟩:=h;show ws.length+1=2;rw[hl];rfl
 .obtain⟨x,t,ws,rfl,hl,hx,k⟩:=h;obtain⟨v,rfl⟩:∃v,ws=[v]:=List.length_eq_one_iff.mp hl;refine⟨_,(zag (zlK rfl (pv 0) (pv 1) rfl)),?_⟩;exact⟨_,rfl,_,rfl,x,C,t,rfl,xs,na,.inl ⟨hx,λd hd ne=>k d hd ne⟩⟩
theorem Can.form{cs:List Cell}{es:List Edge}{r:Rnd}(h:Can (isIn cs) es r)(hl:es.length<=240):Form r:=by
 refine⟨?_,?_,λs hs=>?_⟩
 .rcases h.sum with⟨z,_⟩ |⟨z,_⟩
  .exact .inl z
  .exact .inr z
 .rw[h.row];refine AM (DT _ _) ?_
  rw[Ai];exact hl
 .rw[h.row]at hs;obtain⟨o,ho,e⟩:=List.mem_filterMap.mp hs;obtain⟨f,hf,rfl⟩:=Aq.mp ho;exact (zha (h.cl.1.2.2.1 f hf) e).2.2
noncomputable def spLaw(K:W.Frag)(L:Addr):Sp:=λvs H Q _=>∃(a:Addr) (ns:List Int),vs=[.ref a]/\SqL K H a (ns.map V.int)/\ns.length<=63/\LamT L H/\∀H',Q (.bl true) H'
theorem zmH {L:Addr}(T:Txt P w K mg) (g__law_cell_at:Fn P w K mg base 1 "_law_cell_at" ["_law_script", "_law_k"] (zeT K)) (g__law_row:Fn P w K mg base 1 "_law_row" ["_law_cell", "_law_many", "_law_base"] spRow) (g__law_picture:Fn P w K mg base 2 "_law_picture" ["_law_script", "_law_start"] (zk0 K))
  (g__law_traced:Fn P w K mg base 5 "_law_traced" ["_law_cells"] (zeR K L)) (g__law_row_of:Fn P w K mg base 6 "_law_row_of" ["_law_cell","_law_drawn","_law_spoil","_law_cells"] (ziJ K L)) (g__law_made:Fn P w K mg base 3 "_law_made" ["_law_one"] (zk1 K))
  (g_is_round:Fn P w K mg base 7 "is_round" ["thing"] zk3) (d:Df K mg "law" s_law ["_law_script"]):FnOk P w K mg base CX0 10 d.f d.fd ["_law_script"] (spLaw K L):=by
 refine d.F.ok zcx (λvs H Q E h=>?_) (λcdv A outer s H vs Q E hr h=>?_)
 .obtain⟨a,ns,rfl,_⟩:=h;rfl
 .obtain⟨a,ns,rfl,hS,hnl,hlT,k⟩:=h;have hu1:=hu_of hr;have hu64:=hr.units;have hu65:(A.deeper (PyProof.Rows.envOfC (BW "law") (zaf s_law) s.heap.objs.size d.f cdv)).units+65<cLine:=by have:=hr.un;lia
  refine⟨_,(zac (sE 1 zcx.nd (pC g__law_picture hr (pa_N (pv 0) (pa_C zad zab))))
   (zac (zbr Bd rfl (za3 (pC g__law_traced hr (pa_N (pv 1) zab))) (nG 2 zcx.nd)
   (zag (ps_if (zay zlP (pC g_is_round hr (pa_N (pv 2) zab)) pe_bl (zaz _))
   (zag (zal pe_bl))
   zaF)))
   (zac (zbr Bd rfl (zck (by rfl) T.nrange (pa_C zad zab)) (nG 3 zcx.nd)
   (zac (sE 4 zcx.nd (pC g__law_cell_at hr (pa_N (pv 0) (pa_B (pe_op zaw zad (pv 3)) zab))))
   (zac (sE 2 zcx.nd (pC g__law_row_of hr (pa_B (pe_op zaw (pC g__law_cell_at hr (pa_N (pv 0) (pa_C zad zab))) (pv 3)) (pa_B (pe_op zaw (pC g__law_cell_at hr (pa_N (pv 0) (pa_C zad zab))) (pv 3)) (pa_N (pv 4) (pa_N (pv 1) zab))))))
   (zac (sE 5 zcx.nd (pC g_is_round hr (pa_N (pv 2) zab)))
   (zag (ps_if (pw_or (zfM (zdQ (zav zb0 (by rfl) T.nisinstance (by rfl) (pa_N (pv 5) (pa_N (zcL (v:=.ty "bool") (by rfl) T.nbool (by rfl) rfl) zab))))) (zhg (zi6 (zhi (pv 5) (λ_=>rfl)) (zgC (zay (zjj hu65) (pv 2) (pC g__law_traced hr (zah (pC g__law_made hr (pa_N (pv 2) zab)) zab)) rfl))).pt)).pt
   (zag (zal pe_bl))
   zaF))))))
   (zac (sE 6 zcx.nd (pC g__law_row hr (zah (pC g__law_cell_at hr (pa_N (pv 0) (pa_C zad zab))) (pa_C zad (pa_C zad zab)))))
   (zac (sE 2 zcx.nd (zan (zah (pe_ix zaP (zaI (pa_C zcl (pa_C zcl zab))) (pe_op zat (pC g__law_cell_at hr (pa_N (pv 0) (pa_C zad zab))) zad) (λ_ _=>rfl)) (pa_C zad (pa_C zad (zah (za4 zbZ (by rfl) T.ntuple (by rfl) (zah (za6 zgv (pv 6) zbx (zbd (pe_op zat (pC g__law_cell_at hr (pa_N (pv 0) (pa_C zad zab))) zad))) zab)) zab))))))
   (zac (sE 5 zcx.nd (pC g_is_round hr (pa_N (pv 2) zab)))
   (zag (zal (zcz (zav zb0 (by rfl) T.nisinstance (by rfl) (pa_N (pv 5) (pa_N (zcL (v:=.ty "bool") (by rfl) T.nbool (by rfl) rfl) zab))) (zdl (pe_or (zld (pv 5)) (zdl (zbW (zmG hu65) (pv 2) (pC g__law_traced hr (zah (pC g__law_made hr (pa_N (pv 2) zab)) zab)) rfl))))))))))))),?_⟩
  have hσ:L2.start N_law [V.ref a]=[some (.ref a),none,none,none,none,none,none]:=rfl;rw[hσ];refine⟨_,rfl,a,ns,4,rfl,hS,λpc H1 cvs cs hpc s1 e1 hv1 hpw hcl hsm=>?_⟩
  have hslim:Slim cs:=Boxed.slim (m:=120) (by
   obtain⟨l,lo,hs⟩:=hsm;exact⟨l,lo,12,10,by decide,λc hc=>hs c hc⟩) (by decide)
  have hnd:cs.Nodup:=(zmF hpw).nodup;have lT1:=hlT.same s1;simp only[zau,AH,AI];refine⟨_,rfl,pc,cvs,cs,rfl,e1,hv1,hnd,by lia,hslim,lT1,λpr H3 rv R R0 hpr b3 lT3 e3 hvr hpm hpo hwh=>?_⟩;obtain⟨ESS,hcans⟩:=hwh.cans hpm;have c3:=b3 _ _ (lT1.ne e1 nofun) e1;have hv3:=hv1.mono λx v h=>h.kt (b3.kt lT1)
  refine⟨pr,rfl,⟨_,SqL.of e3⟩,?_⟩;refine zaK (K:=K) (a:=pr) (xs:=rv) (λj σ H4=>∃o2,σ=[some (.ref a),some (.ref pc),o2,none,none,none,none]/\Same H3 H4) ⟨_,rfl,Same.refl _⟩ (λj σ H4 _ ⟨_,_,s4⟩=>SqL.of (s4 _ _ e3)) ?_ ?_
  .rintro j v σ H4 hj ⟨o2,rfl,s4⟩;obtain⟨r,hr',hrv⟩:=hvr.at hj;obtain⟨es,hes,hcan⟩:=hcans.so hr'
   have h240:es.length<=240:=by obtain⟨l,lo,hs⟩:=hsm;exact zm2 hs hcan.cl.1.2.2.2 hcan.cl.1.2.2.1
   simp only[zau,AH,AI];refine⟨_,rfl,v,r,rfl,rR.kt hrv (KT.of s4),hcan.form h240,λn H5 hd s5=>absurd hcan.good hd.bad,λH5 hg s5=>?_⟩;exact⟨true,true,rfl,rfl,_,rfl,iteF ⟨_,rfl,s4.trans s5⟩⟩
  .rintro σ H4 ⟨o2,rfl,s4⟩;have e4:=s4 _ _ c3;have hv4:=hv3.mono λx v h=>h.kt (KT.of s4)
   have lT4:=lT3.same s4;have hS4:SqL K H4 a (ns.map V.int):=s4.seq (b3.seq lT1 (s1.seq hS));have eE:∀(H5:Hp),But1 L H4 H5->H5 pc=some (.lst cvs)/\VR cvs cs cR H5/\SqL K H5 a (ns.map V.int):=λH5 b5=>⟨b5 _ _ (lT4.ne e4 nofun) e4,hv4.mono λx v h=>h.kt (b5.kt lT4),b5.seq lT4 hS4⟩
   refine⟨_,rfl,(by decide),(by decide),?_⟩;refine zbA (lo:=0) (n:=(2:Int).toNat) (λi σ H5=>∃o2 o3 o4 o5,σ=[some (.ref a),some (.ref pc),o2,o3,o4,o5,none]/\But1 L H4 H5/\LamT L H5) ⟨_,_,_,_,rfl,But1.refl _ _,lT4⟩ ?_ ?_
   .rintro i σ H5 hi ⟨o2',o3,o4,o5,rfl,b5,lT5⟩;obtain⟨e5,hv5,hS5⟩:=eE H5 b5;simp only[zau,AH,AI,Int.zero_add];refine⟨_,rfl,_,rfl,_,_,rfl,rfl,a,ns,2+i,rfl,hS5,λc2=>?_⟩;refine⟨_,rfl,a,ns,0,rfl,hS5,λn0=>⟨_,rfl,_,_,rfl,rfl,_,rfl,a,ns,1,rfl,hS5,λn1=>⟨_,rfl,_,_,rfl,rfl,_,rfl,_,rfl,?_⟩⟩⟩;refine⟨_,_,_,pc,cvs,cs,rfl,e5,hv5,hnd,hcl,hslim,lT5,λv r H6 b6 lT6 hr6 hF6=>?_⟩;simp only[zau,AH,AI];refine⟨_,rfl,v,r,rfl,hr6,hF6,λn H7 hd s7=>?_,λH7 hg s7=>?_⟩
    .refine⟨_,rfl,.bl false,"bool",_,true,rfl,.bl _,zbE _ _,_,rfl,iteF ?_⟩;refine⟨_,rfl,false,rfl,iteN rfl (iteN rfl ⟨_,_,_,_,rfl,(b5.trans b6).trans s7.but1,lT6.same s7⟩)⟩
    .refine⟨_,rfl,.bl true,"bool",_,true,rfl,.bl _,zbE _ _,_,rfl,iteF ?_⟩;have hc:=hg.can hF6;refine⟨_,rfl,true,rfl,iteY rfl ?_⟩;have hr7:=rR.kt hr6 (KT.of s7);refine⟨_,rfl,_,rfl,v,r,rfl,hr7,hF6,hg,λp H8 us M P' l lo rr hi' hp s8 e8 hv8 hnd8 hl8 hBx hw hh hP hM=>?_⟩;have hPe:∀e∈(rw_ r).map (·.1),e.c∈P':=λe he=>(hP _).mpr (of_decide_eq_true (hc.cl.1.2.2.1 e he).2.1)
     have lT8:=(lT6.same s7).same s8;refine⟨p,us,M,rfl,e8,hv8,hnd8,hl8,hM.few hc hc.two hBx hPe,lT8,λpr2 H9 rv2 R2 R02 hpr2 b9 lT9 e9 hvr2 hpm2 _ hwh2=>?_⟩;have hin:r∈R2:=hM.among hc hc.two hBx hPe hpm2 hwh2;have kt79:KT H7 H9:=(KT.of s8).trans (b9.kt lT8);have hr9:=rR.kt hr7 kt79;have hany:((R2.map dR).any λe=>C9 e (dR r))=true:=List.any_eq_true.mpr ⟨dR r,Aq.mpr ⟨r,hin,rfl⟩,by rw[zjQ,decide_eq_true rfl]⟩;have hso2:∀q∈R2,SoOk q:=λq h=>hwh2.so q (hpm2.mem_iff.mp h)
     refine⟨pr2,rv2,dR r,R2.map dR,rfl,SqL.of e9,ze1 hr9,zct hvr2,zcV (hso2 r hin),(λe he=>?_),?_⟩
     .obtain⟨q,hq,rfl⟩:=Aq.mp he;exact zcV (hso2 q hq)
     .rw[hany];exact⟨_,rfl,iteF ⟨_,_,_,_,rfl,(b5.trans b6).trans (s7.but1.trans (s8.but1.trans b9)),lT9⟩⟩
   .rintro σ H5 ⟨o2',o3,o4,o5,rfl,b5,lT5⟩;obtain⟨e5,hv5,hS5⟩:=eE H5 b5;refine⟨_,rfl,a,ns,1,rfl,hS5,λn1=>⟨n1,8,14,rfl,by decide,by decide,by decide,λp1 H6 ds hp1 s6 e6 hl6 hb6=>?_⟩⟩;simp only[zau,AH,AI];refine⟨two,λl2 hl2=>?_⟩;have s7:=Same.up (o:=.lst [.str "rim",.str "hole"]) hl2;have e7:upd H6 l2 (.lst [.str "rim",.str "hole"]) l2=some (.lst [.str "rim",.str "hole"]):=zaa;generalize upd H6 l2 (.lst [.str "rim",.str "hole"])=H7 at s7 e7;refine⟨_,rfl,a,ns,0,rfl,(s6.trans s7).seq hS5,λn0=>?_⟩
    obtain⟨so,hso,hsv⟩:∃so:Str,(so = "rim" ∨ so = "hole")/\atI [V.str "rim",.str "hole"] (n0 % 2)=some (.str so):=by
     have:n0 % 2=0∨n0 % 2=1:=by lia
     rcases this with z |z <;> rw[z]
     .exact⟨_,.inl rfl,rfl⟩
     .exact⟨_,.inr rfl,rfl⟩
    refine⟨_,_,rfl,rfl,(by show (0:Int)<2;decide),l2,_,_,_,rfl,rfl,SqL.of e7,hsv,?_⟩;refine⟨_,rfl,_,rfl,a,ns,15,rfl,(s6.trans s7).seq hS5,λn15=>⟨_,_,rfl,rfl,(by show (0:Int)<14;decide),_,rfl,p1,_,rfl,SqL.of (s7 _ _ e6),λp8 hp8=>?_⟩⟩
    have h8:St8 (ds.map V.int):=λv hv=>by obtain⟨n,hn,rfl⟩:=Aq.mp hv;have:=hb6 n hn;exact⟨n.toNat,by lia,by congr;lia⟩
    obtain⟨row,hrow,hst⟩:=(h8.cut none (some (n15 % 14))).row
    have hrl:row.length<=14:=by
     have h1:(cutV (ds.map V.int) none (some (n15 % 14))).length<=14:=by unfold cutV;rw[A6,List.length_drop,Ai];lia
     rw[hrow]at h1;unfold rowV at h1
     rwa [Ai]at h1
    rw[show cutV (ds.map V.int) none (some (n15 % 14))=rowV row from hrow];have s8:=Same.up (o:=.lst (rowV row)) hp8;have e8:upd H7 p8 (.lst (rowV row)) p8=some (.lst (rowV row)):=zaa;generalize upd H7 p8 (.lst (rowV row))=H8 at s8 e8;refine⟨p8,_,rfl,.inl ⟨SqL.of e8,λp9 hp9=>?_⟩⟩;have s9:=Same.up (o:=.tup (rowV row)) hp9;have e9:upd H8 p9 (.tup (rowV row)) p9=some (.tup (rowV row)):=zaa;generalize upd H8 p9 (.tup (rowV row))=H9 at s9 e9;refine⟨(by show 4<=sizeLine;decide),λp10 hp10=>?_⟩;have s10:=Same.up (o:=.tup [.str so,.int 0,.int 0,.ref p9]) hp10;have e10:upd H9 p10 (.tup [.str so,.int 0,.int 0,.ref p9]) p10=some (.tup [.str so,.int 0,.int 0,.ref p9]):=zaa;generalize upd H9 p10 (.tup [.str so,.int 0,.int 0,.ref p9])=H10 at s10 e10;have hr10:rR ⟨so,0,0,row⟩ (.ref p10) H10:=⟨p10,p9,rfl,e10,s10 _ _ e9⟩;have hF10:Form ⟨so,0,0,row⟩:=⟨hso,by show row.length<=240;lia,hst⟩;have lT10:LamT L H10:=lT5.same (s6.trans (s7.trans (s8.trans (s9.trans s10))));simp only[zau,AH,AI];refine⟨_,rfl,.ref p10,_,rfl,hr10,hF10,λn H11 hd s11=>?_,λH11 hg s11=>?_⟩
    .refine⟨_,rfl,.bl false,"bool",_,true,rfl,.bl _,zbE _ _,true,rfl,iteY rfl ?_⟩;exact⟨_,rfl,false,rfl,true,rfl,iteY rfl (k H11)⟩
    .refine⟨_,rfl,.bl true,"bool",_,true,rfl,.bl _,zbE _ _,true,rfl,iteY rfl ?_⟩;have hc:=hg.can hF10;refine⟨_,rfl,true,rfl,false,rfl,iteN rfl ?_⟩;have hr11:=rR.kt hr10 (KT.of s11);refine⟨_,rfl,_,rfl,.ref p10,_,rfl,hr11,hF10,hg,λp H12 us M P' l lo rr hi' hp s12 e12 hv12 hnd12 hl12 hBx hw hh hP hM=>?_⟩;have hPe:∀e∈(rw_ (⟨so,0,0,row⟩:Rnd)).map (·.1),e.c∈P':=λe he=>(hP _).mpr (of_decide_eq_true (hc.cl.1.2.2.1 e he).2.1)
     have lT12:=(lT10.same s11).same s12;refine⟨p,us,M,rfl,e12,hv12,hnd12,hl12,hM.few hc hc.two hBx hPe,lT12,λpr2 H13 rv2 R2 R02 hpr2 b13 lT13 e13 hvr2 hpm2 _ hwh2=>?_⟩;have hin:(⟨so,0,0,row⟩:Rnd)∈R2:=hM.among hc hc.two hBx hPe hpm2 hwh2;have hr13:=rR.kt hr11 ((KT.of s12).trans (b13.kt lT12));have hany:((R2.map dR).any λe=>C9 e (dR ⟨so,0,0,row⟩))=true:=List.any_eq_true.mpr ⟨dR _,Aq.mpr ⟨_,hin,rfl⟩,by rw[zjQ,decide_eq_true rfl]⟩;have hso2:∀q∈R2,SoOk q:=λq h=>hwh2.so q (hpm2.mem_iff.mp h)
     refine⟨pr2,rv2,dR _,R2.map dR,rfl,SqL.of e13,ze1 hr13,zct hvr2,zcV (hso2 _ hin),(λe he=>?_),?_⟩
     .obtain⟨q,hq,rfl⟩:=Aq.mp he;exact zcV (hso2 q hq)
     .rw[hany];exact k H13
end
theorem all_mk {L0:Addr}{l:W.OpenLaw}{w:AV}{K:W.Frag}{h:Heap}{mg:Str -> Option Value}{fa:Addr}(X:K.In h) (G:h.Ns AE mg) (hfa:mg "law" = some (.ref fa)){fx34 fx40:Addr}{od34 an34 od40 an40:Option Addr}{sl34 sl40:Array (Option Value)}{oc34 kV34 dc34 pm34 ct34 oc40 kV40 dc40 pm40 ct40 cd40:Value}{cc0:Addr}{hd0:Option Addr}{hv0:Array Value}{hs0:Array (Option Value)}
  (h0:DA K "cell_order" zch)
  (h1:DA K "gone" ziZ)
  (h2:DA K "gap_beside" zcf)
  (h3:DA K "straight_step" zbv)
  (h4:DA K "slant_step" zce)
  (h5:DA K "is_slant" zc4)
  (h6:DA K "edge_behind" zbR)
  (h7:DA K "lefts_and_slants" zaH)
  (h8:DA K "lefts_less_slants" zbb)
  (h9:DA K "begin_of" zcs)
  (h10:DA K "begin_edge" zci)
  (h11:DA K "way_for" zdM)
  (h12:DA K "deeds_along" zbS)
  (h13:DA K "walk_by" zdO)
  (h14:DA K "walk_along" zcd)
  (h15:DA K "seen_between" zbF)
  (h16:DA K "gainsaid_at" zbQ)
  (h17:DA K "comes_back" zcg)
  (h18:DA K "is_closed" zcF)
  (h19:DA K "walk_of" zdN)
  (h20:DA K "ask_round" zcG)
  (h21:DA K "is_whole" zc3)
  (h22:DA K "is_row" zdz)
  (h23:DA K "has_form" zc7)
  (h24:DA K "is_round" zc5)
  (h25:DA K "_law_cell_at" zbG)
  (h26:DA K "_law_row" zc8)
  (h27:DA K "_law_picture" zbn)
  (h28:DA K "_law_gone" zcI)
  (h29:DA K "_law_lot" zc9)
  (h30:DA K "_law_behind" zbV)
  (h31:DA K "_law_edges" zbC)
  (h32:DA K "_law_walked" zbT)
  (h33:DA K "_law_told" zbl)
  (a34:Cd K AE "_law_traced" = some (some (.ref fx34))) (l34:K.lookup fx34=some ⟨oc34,od34,.func (C8 "_law_traced" "_law_traced" (zaZ zaR) (zaN zaR) (zaf zaR) .none kV34 dc34 pm34 an34 (.ref cc0) ct34),sl34⟩) (c34:W.codeIn K (.ref cc0) "_law_traced" = true) (k34:C3 K (.ref fx34)=true)
  (lc0:K.lookup cc0=some ⟨.type "code",hd0,.fields hv0,hs0⟩) (lh0:hdOk hv0 cc0 L0=true)
  (h35:DA K "_law_row_of" zbU)
  (h36:DA K "_law_flood" zcj)
  (h37:DA K "_law_box" zbK)
  (h38:DA K "_law_seen" zcH)
  (h39:DA K "_law_made" zbw)
  (a40:Cd K AE "law" = some (some (.ref fx40))) (l40:K.lookup fx40=some ⟨oc40,od40,.func (C8 "law" "law" (zaZ s_law) (zaN s_law) (zaf s_law) .none kV40 dc40 pm40 an40 cd40 ct40),sl40⟩) (c40:W.codeIn K cd40 "law" = true) (k40:C3 K (.ref fx40)=true)
  {M m0 m1 m2 m3 m4 m5 m6 m7:Addr}{odM:Option Addr}{nM:Nat}{slM:Array (Option Value)}
  (aM:Cd K AE "MOVES" = some (some (.ref M))) (lM:K.lookup M=some ⟨.type "tuple",odM,.seq #[.ref m0,.ref m1,.ref m2,.ref m3,.ref m4,.ref m5,.ref m6,.ref m7] nM,slM⟩)
  {odm0:Option Addr}{nm0:Nat}{slm0:Array (Option Value)}{tm0 um0:Tok} (x0:K.lookup m0=some ⟨.type "tuple",odm0,.seq #[.int (1) tm0,.int (0) um0] nm0,slm0⟩)
  {odm1:Option Addr}{nm1:Nat}{slm1:Array (Option Value)}{tm1 um1:Tok} (x1:K.lookup m1=some ⟨.type "tuple",odm1,.seq #[.int (1) tm1,.int (1) um1] nm1,slm1⟩)
  {odm2:Option Addr}{nm2:Nat}{slm2:Array (Option Value)}{tm2 um2:Tok} (x2:K.lookup m2=some ⟨.type "tuple",odm2,.seq #[.int (0) tm2,.int (1) um2] nm2,slm2⟩)
  {odm3:Option Addr}{nm3:Nat}{slm3:Array (Option Value)}{tm3 um3:Tok} (x3:K.lookup m3=some ⟨.type "tuple",odm3,.seq #[.int (-1) tm3,.int (1) um3] nm3,slm3⟩)
  {odm4:Option Addr}{nm4:Nat}{slm4:Array (Option Value)}{tm4 um4:Tok} (x4:K.lookup m4=some ⟨.type "tuple",odm4,.seq #[.int (-1) tm4,.int (0) um4] nm4,slm4⟩)
  {odm5:Option Addr}{nm5:Nat}{slm5:Array (Option Value)}{tm5 um5:Tok} (x5:K.lookup m5=some ⟨.type "tuple",odm5,.seq #[.int (-1) tm5,.int (-1) um5] nm5,slm5⟩)
  {odm6:Option Addr}{nm6:Nat}{slm6:Array (Option Value)}{tm6 um6:Tok} (x6:K.lookup m6=some ⟨.type "tuple",odm6,.seq #[.int (0) tm6,.int (-1) um6] nm6,slm6⟩)
  {odm7:Option Addr}{nm7:Nat}{slm7:Array (Option Value)}{tm7 um7:Tok} (x7:K.lookup m7=some ⟨.type "tuple",odm7,.seq #[.int (1) tm7,.int (-1) um7] nm7,slm7⟩)
  {B:Addr}{t1 t2 t3 t4:Tok}{nB:Nat} (aB:Cd K AE "BEGIN_WAYS" = some (some (.ref B))) (lB:K.lookup B=some ⟨.type "dict",none,.dict #[⟨BE w.params "rim",.str "rim" t1,.int 0 t2⟩,⟨BE w.params "hole",.str "hole" t3,.int 2 t4⟩] nB,#[]⟩)
  (sB:(B == PySem.sysModules)=false)
  {B2:Addr}{u1 u2 u3 u4:Tok}{nB2:Nat} (aB2:Cd K AE "MORE_LEFTS" = some (some (.ref B2))) (lB2:K.lookup B2=some ⟨.type "dict",none,.dict #[⟨BE w.params "rim",.str "rim" u1,.int 4 u2⟩,⟨BE w.params "hole",.str "hole" u3,.int (-4) u4⟩] nB2,#[]⟩)
  {cN fI:Addr}{odI anI odC:Option Addr}{slI slC:Array (Option Value)}{ocI kVI dcI pmI cdI ctI:Value}{clC:ClassData} (xNR:Cd K AE "NoRound" = some (some (.ref cN)))
  (xLC:K.lookup cN=some ⟨.type "type",odC,.cls clC,slC⟩) (xIN:Cd K clC.ns "__init__" = some (some (.ref fI))) (xLF:K.lookup fI=some ⟨ocI,odI,.func (C8 "__init__" "NoRound.__init__" (zaZ zc6) (zaN zc6) (zaf zc6) .none kVI dcI pmI anI cdI ctI),slI⟩)
  (xCI:W.codeIn K cdI "NoRound.__init__" = true) (xKI:C3 K (.ref fI)=true) (xMX:zhA K cN [.type "ValueError",.type "Exception",.type "BaseException",.type "object"] "ValueError.__new__" fI=true) (xFN:W.isFn K (.ref fI)=true) (xKC:C3 K (.ref cN)=true)
  (xS1:(W.clsIn K cN).any (λcd=>cd.hasDict && overX bmV cd.mro)=true) (xS3:Cs K (.ref cN) "__setattr__" = some (some (.builtin "object.__setattr__"))) (xNA:Cs K (.ref cN) "at" = some none)
  (xS2:W.mroIn K cN (.type "object")=some true) (xXT:W.exmOne K (.ref cN) (.ref cN)=some true)
  (z_ValueError:Cd K AE "ValueError" = some none)
  (z_range:Cd K AE "range" = some none)
  (z_len:Cd K AE "len" = some none)
  (z_min:Cd K AE "min" = some none)
  (z_sorted:Cd K AE "sorted" = some none)
  (z_tuple:Cd K AE "tuple" = some none)
  (z_int:Cd K AE "int" = some none)
  (z_bool:Cd K AE "bool" = some none)
  (z_str:Cd K AE "str" = some none)
  (z_all:Cd K AE "all" = some none)
  (z_isinstance:Cd K AE "isinstance" = some none)
  (z_list:Cd K AE "list" = some none)
  (z_sum:Cd K AE "sum" = some none)
  (z_enumerate:Cd K AE "enumerate" = some none)
  (z_zip:Cd K AE "zip" = some none)
  (z_max:Cd K AE "max" = some none) :
  ∃fd:Bq,(∀(s:Ac) (v:Value),BindsTo s fd ⟨[v],[]⟩ [("_law_script",v)])/\(∀P∈[L0],∃c,Dc K c P=true)/\∀base:Heap,K.In base->base.Ns AE mg->Bm mg base->FnOk l.prog w K mg base CX0 10 fa fd ["_law_script"] (spLaw K L0):=by
 have e:=hfa.symm.trans (DE X G a40)
 cases e
 have moves:∃M,mg "MOVES" = some (.ref M)/\∀H,∃ms:List Addr,SqT K H M (ms.map V.ref)/\ms.length=8/\∀(i:Nat) a,ms[i]?=some a->SqT K H a [.int (mv i).1,.int (mv i).2]:=by
  refine⟨M,DE X G aM,λH=>⟨[m0,m1,m2,m3,m4,m5,m6,m7],.inr ⟨_,_,_,lM,rfl,rfl,(by show 8<=sizeLine;decide),.cons rfl (.cons rfl (.cons rfl (.cons rfl (.cons rfl (.cons rfl (.cons rfl (.cons rfl .nil)))))))⟩,rfl,λi a e=>?_⟩⟩
  match i,e with
  | 0,e=>cases e;exact .inr ⟨_,_,_,x0,rfl,rfl,(by show 2<=sizeLine;decide),.cons ⟨_,rfl⟩ (.cons ⟨_,rfl⟩ .nil)⟩
  | 1,e=>cases e;exact .inr ⟨_,_,_,x1,rfl,rfl,(by show 2<=sizeLine;decide),.cons ⟨_,rfl⟩ (.cons ⟨_,rfl⟩ .nil)⟩
  | 2,e=>cases e;exact .inr ⟨_,_,_,x2,rfl,rfl,(by show 2<=sizeLine;decide),.cons ⟨_,rfl⟩ (.cons ⟨_,rfl⟩ .nil)⟩
  | 3,e=>cases e;exact .inr ⟨_,_,_,x3,rfl,rfl,(by show 2<=sizeLine;decide),.cons ⟨_,rfl⟩ (.cons ⟨_,rfl⟩ .nil)⟩
  | 4,e=>cases e;exact .inr ⟨_,_,_,x4,rfl,rfl,(by show 2<=sizeLine;decide),.cons ⟨_,rfl⟩ (.cons ⟨_,rfl⟩ .nil)⟩
  | 5,e=>cases e;exact .inr ⟨_,_,_,x5,rfl,rfl,(by show 2<=sizeLine;decide),.cons ⟨_,rfl⟩ (.cons ⟨_,rfl⟩ .nil)⟩
  | 6,e=>cases e;exact .inr ⟨_,_,_,x6,rfl,rfl,(by show 2<=sizeLine;decide),.cons ⟨_,rfl⟩ (.cons ⟨_,rfl⟩ .nil)⟩
  | 7,e=>cases e;exact .inr ⟨_,_,_,x7,rfl,rfl,(by show 2<=sizeLine;decide),.cons ⟨_,rfl⟩ (.cons ⟨_,rfl⟩ .nil)⟩
  |i+8,e=>exact absurd (Ad.mp e).1 (by simp)
 have ways:Ways l.prog w K mg:=⟨⟨B,t1,t2,t3,t4,nB,DE X G aB,lB⟩⟩;have T:Txt l.prog w K mg:={ moves:=moves,ways:=ways,nsys:=λ_ e=>by cases (DE X G aB).symm.trans e;exact sB,more:=⟨⟨B2,u1,u2,u3,u4,nB2,DE X G aB2,lB2⟩⟩,nValueError:=BK X G z_ValueError,nrange:=BK X G z_range,nlen:=BK X G z_len,nmin:=BK X G z_min,nsorted:=BK X G z_sorted,ntuple:=BK X G z_tuple,nint:=BK X G z_int,nbool:=BK X G z_bool,nstr:=BK X G z_str,nall:=BK X G z_all,nisinstance:=BK X G z_isinstance,nlist:=BK X G z_list,nsum:=BK X G z_sum,nenumerate:=BK X G z_enumerate,nzip:=BK X G z_zip,nmax:=BK X G z_max };obtain⟨d'0⟩:=h0.d1 X G (p0:="cell");obtain⟨d'1⟩:=h1.d3 X G (p0:="x") (p1:="y") (p2:="step");obtain⟨d'2⟩:=h2.d1 X G (p0:="edge");obtain⟨d'3⟩:=h3.d1 X G (p0:="way");obtain⟨d'4⟩:=h4.d1 X G (p0:="way");obtain⟨d'5⟩:=h5.d1 X G (p0:="step");obtain⟨d'6⟩:=h6.d2 X G (p0:="edge") (p1:="step");obtain⟨d'7⟩:=h7.d1 X G (p0:="walk");obtain⟨d'8⟩:=h8.d1 X G (p0:="walk");obtain⟨d'9⟩:=h9.d2 X G (p0:="walk") (p1:="sort");obtain⟨d'a⟩:=h10.d1 X G (p0:="one");obtain⟨d'b⟩:=h11.d1 X G (p0:="step");obtain⟨d'c⟩:=h12.d2 X G (p0:="begin_way") (p1:="row");obtain⟨d'd⟩:=h13.d2 X G (p0:="begin") (p1:="deeds");obtain⟨d'e⟩:=h14.d2 X G (p0:="begin") (p1:="row");obtain⟨d'f⟩:=h15.d2 X G (p0:="edge") (p1:="step");obtain⟨d'10⟩:=h16.d1 X G (p0:="walk");obtain⟨d'11⟩:=h17.d1 X G (p0:="walk");obtain⟨d'12⟩:=h18.d2 X G (p0:="walk") (p1:="sort");obtain⟨d'13⟩:=h19.d1 X G (p0:="one");obtain⟨d'14⟩:=h20.d1 X G (p0:="one");obtain⟨d'15⟩:=h21.d1 X G (p0:="thing");obtain⟨d'16⟩:=h22.d1 X G (p0:="thing");obtain⟨d'17⟩:=h23.d1 X G (p0:="thing");obtain⟨d'18⟩:=h24.d1 X G (p0:="thing");obtain⟨d'19⟩:=h25.d2 X G (p0:="_law_script") (p1:="_law_k");obtain⟨d'1a⟩:=h26.d3 X G (p0:="_law_cell") (p1:="_law_many") (p2:="_law_base");obtain⟨d'1b⟩:=h27.d2 X G (p0:="_law_script") (p1:="_law_start");obtain⟨d'1c⟩:=h28.d3 X G (p0:="_law_x") (p1:="_law_y") (p2:="_law_step");obtain⟨d'1d⟩:=h29.d1 X G (p0:="_law_cells");obtain⟨d'1e⟩:=h30.d2 X G (p0:="_law_there") (p1:="_law_edge");obtain⟨d'1f⟩:=h31.d1 X G (p0:="_law_there");obtain⟨d'20⟩:=h32.d2 X G (p0:="_law_there") (p1:="_law_first");obtain⟨d'21⟩:=h33.d2 X G (p0:="_law_edges_here") (p1:="_law_steps");have F34:=zcp (st:=zaR) l34 c34 k34;have b34:=F34.b1 (p0:="_law_cells");obtain⟨d'22,hc_0⟩:∃d:Df K mg "_law_traced" zaR ["_law_cells"],d.fd.code=.ref cc0:=⟨⟨fx34,_,F34,DE X G a34,b34⟩,rfl⟩;obtain⟨d'23⟩:=h35.d4 X G (p0:="_law_cell") (p1:="_law_drawn") (p2:="_law_spoil") (p3:="_law_cells");obtain⟨d'24⟩:=h36.d3 X G (p0:="_law_there") (p1:="_law_first") (p2:="_law_steps");obtain⟨d'25⟩:=h37.d1 X G (p0:="_law_cells");obtain⟨d'26⟩:=h38.d1 X G (p0:="_law_one");obtain⟨d'27⟩:=h39.d1 X G (p0:="_law_one");have F40:=zcp (st:=s_law) l40 c40 k40;have b40:=F40.b1 (p0:="_law_script");have hh_0:Dc K cc0 L0=true:=hd_of lc0 lh0;refine⟨C8 "law" "law" (zaZ s_law) (zaN s_law) (zaf s_law) .none kV40 dc40 pm40 an40 cd40 ct40,λs v=>.of_eq rfl,List.forall_mem_cons.mpr ⟨⟨cc0,hh_0⟩,λ_ z=>nomatch z⟩,λbase _ _ hB=>?_⟩;have fn:∀{k:Nat}{x:Str}{s:Stmt}{ps:List Str}{sp:Sp} (d:Df K mg x s ps),FnOk l.prog w K mg base CX0 k d.f d.fd ps sp->Fn l.prog w K mg base k x ps sp:=λd h=>d.fn h
 have hFI:=zcp (st:=zc6) xLF xCI xKI;have g'28:=fn d'0 (zfc d'0);have g'29:=fn d'1 (zlR T d'1);have g'2a:=fn d'3 (zdv d'3);have g'2b:=fn d'4 (ze5 d'4);have g'2c:=fn d'5 (zgN d'5);have g'2d:=fn d'2 (zfb g'29 d'2);have g'2e:=fn d'6 (zek g'29 g'2c d'6);have g'2f:=fn d'7 (zcN T g'2c d'7);have g'30:=fn d'8 (zcw g'2f d'8);have g'31:=fn d'9 (zgP T g'28 d'9);have g'32:=fn d'a (zfd T d'a);have g'33:=fn d'b (zh3 d'b);have g'34:=fn d'c (zel g'33 d'c);have g'35:=fn d'd (zh4 g'2e d'd);have g'36:=fn d'e (ze4 g'35 g'34 d'e);have g'37:=fn d'f (zdw g'2e g'2d g'2c g'29 g'2b g'2a d'f);have g'38:=fn d'10 (zdV g'37 d'10);have g'39:=fn d'11 (zem g'2e d'11);have g'3a:=fn d'12 (zfa T g'39 g'30 d'12);have g'3b:=(ExA.mk (base:=base) fI _ _ _ _ _ _ PySem.F.excBase_ValueError ⟨xMX,xFN,xKC⟩ (zkx hFI ⟨xS1,xS2,xS3⟩ xNA) (hFI.b2 (p0:="self") (p1:="at")) (DE X G xNR) (by decide):ExA l.prog w K mg base "NoRound" cN ["at"]);have g'3c:=d'13.fnX (zgG T g'3b g'32 g'36 g'38 g'3a g'31 d'13);have g'3d:=d'14.fnX (zfe g'3c d'14);have g'3e:=fn d'15 (zgM T d'15);have g'3f:=fn d'16 (zjn T g'3e d'16);have g'40:=fn d'17 (zgO T g'3e g'3f d'17);have g'41:=fn d'18 (zfT (DE X G xNR) xXT g'40 g'3d d'18);have g'42:=fn d'19 (zej T d'19);have g'43:=fn d'1a (zh5 T d'1a);have g'44:=fn d'1b (zei T g'42 g'43 d'1b);have g'45:=fn d'1c (zgL d'1c);have g'46:=fn d'1d (zgK d'1d);have g'47:=fn d'1e (ze9 g'45 d'1e);have g'48:=fn d'20 (ze6 g'47 d'20);have g'49:=fn d'1f (zfS T g'45 d'1f);have g'4a:=fn d'21 (zgH T d'21);have g'4b:=fn d'22 (ze7 T hB hh_0 g'46 g'49 g'48 g'4a d'22 hc_0);have g'4c:=fn d'23 (ze8 T g'43 g'4b d'23);have g'4d:=fn d'24 (zfR g'45 d'24);have g'4e:=fn d'25 (zh6 T d'25);have g'4f:=fn d'26 (zgI g'45 g'46 d'26);have g'50:=fn d'27 (zgJ T g'4f g'4e g'4d d'27);exact zmH T g'42 g'43 g'44 g'4b g'4c g'50 g'41 ⟨_,_,F40,DE X G a40,b40⟩
theorem walk{L0:Addr}{l:W.OpenLaw}{q:AB}{loose:List Str}{XP:(Str -> Option Value) -> Heap -> Prop}{YP:AV -> Heap -> Prop}{d:DefRec}{K:Params -> W.Frag}(hn:l.most=some 63)(hdf:d.params.defaults = [])
  (hY:∀(w:AV) (h:Heap),YP w h->(K w.params).In h/\(∀P∈[L0],h.get? P=some (W.tabObj #[]))/\∀P∈[L0],(K w.params).lookup P=none)
  (F:∀(w:AV) (mg:Str->Option Value) (fa:Addr) (h:Heap),(K w.params).In h->h.Ns AE mg->mg d.name=some (.ref fa) ->
   ∃fd:Bq,(∀(s:Ac) (u:Value),BindsTo s fd ⟨[u],[]⟩ [("_law_script",u)])/\(∀P∈[L0],∃c,Dc (K w.params) c P=true)/\∀base:Heap,(K w.params).In base->base.Ns AE mg->Bm mg base->FnOk l.prog w (K w.params) mg base CX0 10 fa fd ["_law_script"] (spLaw (K w.params) L0)) :
  W.WalkO q loose XP YP l.row.toRowW d [] (λf vs=>PySem.call f vs) :=
 L2.walk_ofL (n:=63) (k:=10) (x:="_law_script") (CX:=λ_=>CX0) (sp:=λw=>spLaw (K w.params) L0) (ts:=[L0]) hn (by decide) hdf ⟨rfl,by decide,by decide,rfl⟩ hY F (λ_ _ a ns hl hT hS=>⟨a,ns,rfl,hS,hl,⟨#[],hT L0 (by simp),.inl rfl⟩,λ_=>rfl⟩) λ_ _ _ _ _ z=>z
end RR
namespace PySem.W.Fast
noncomputable def tw5459629491876462124:=()
noncomputable def tw13873336309354677288:=()
noncomputable def tw4966477614275253264:=()
noncomputable def tw16974708760469251649:=()
noncomputable def tw13049831500321006528:=()
noncomputable def tw4198957868189964239:=()
noncomputable def tw10145567440238876355:=()
noncomputable def tw11451537845288501387:=()
noncomputable def tw10883224964825890935:=()
noncomputable def tw16434502280693472484:=()
noncomputable def tw18234832303180987227:=()
noncomputable def tw4034031441023379874:=()
noncomputable def tw3413200442044287746:=()
noncomputable def tw7430194728234774987:=()
noncomputable def tw7724131554359383169:=()
noncomputable def tw13389163936875255684:=()
noncomputable def tw5970659073431891449:=()
noncomputable def tw11020312175284205074:=()
noncomputable def tw2493897835146451982:=()
noncomputable def tw1590485728701344250:=()
noncomputable def tw2139802584366579105:=()
noncomputable def tw5797111933618004314:=()
noncomputable def tw908202395486716473:=()
noncomputable def tw1215223630897332447:=()
noncomputable def tw6789294010295952573:=()
noncomputable def tw13261745171986327127:=()
noncomputable def tw2905698709059486292:=()
noncomputable def tw1545020098933743923:=()
noncomputable def tw2424314313080634633:=()
noncomputable def tw16895905467635096368:=()
noncomputable def tw12266403037224612785:=()
noncomputable def tw3993129815018045331:=()
noncomputable def tw11886139590658747615:=()
noncomputable def tw7078005373565800671:=()
noncomputable def tw1871365120421872727:=()
noncomputable def tw13511487009592798383:=()
noncomputable def tw6498574464551638348:=()
noncomputable def tw2758151564201916145:=()
noncomputable def tw2781136221479264498:=()
noncomputable def tw7369144342305084107:=()
noncomputable def tw6310179174081258618:=()
noncomputable def tw7786535171880784163:=()
noncomputable def tw855545900340368981:=()
noncomputable def tw12617629341115104731:=()
noncomputable def tw14866690440966387711:=()
noncomputable def tw5881915065754107298:=()
noncomputable def tw8030906137859312963:=()
noncomputable def tw10659741166160549502:=()
noncomputable def tw7580627261226750952:=()
noncomputable def tw11770198824001463464:=()
noncomputable def tw17286885151572237542:=()
noncomputable def tw16856766797383790153:=()
noncomputable def tw14246292333039950113:=()
noncomputable def tw17921723043166410904:=()
noncomputable def tw3694999257108844340:=()
noncomputable def tw14316066147180011546:=()
noncomputable def tw9971459580919375709:=()
noncomputable def tw5918057476543557085:=()
noncomputable def tw1491785286512578418:=()
noncomputable def tw15157619957395265148:=()
noncomputable def tw7143880824371026703:=()
noncomputable def tw14572173915971636928:=()
noncomputable def tw16997828239066380132:=()
noncomputable def tw14684449605855085124:=()
noncomputable def tw3663200150286481483:=()
noncomputable def tw6623830894810807962:=()
noncomputable def tw9619433184525261390:=()
noncomputable def tw9918779397374449019:=()
noncomputable def tw15355668608844632622:=()
noncomputable def tw9860954811544336230:=()
noncomputable def tw4823658890524038703:=()
noncomputable def tw11036152374583557195:=()
noncomputable def tw15199947007521715834:=()
noncomputable def tw2713424977322442:=()
noncomputable def tw6979768096665044435:=()
noncomputable def tw8233757629634343199:=()
noncomputable def tw14951233397722783358:=()
noncomputable def tw70699877000020139:=()
noncomputable def tw4516556213972627419:=()
noncomputable def tw9264122630377458571:=()
noncomputable def tw16430013948802421780:=()
noncomputable def tw5634474375501602599:=()
noncomputable def tw1570618078770638567:=()
noncomputable def tw11520134583882823641:=()
noncomputable def tw12701869037621663339:=()
noncomputable def tw2636588745346441039:=()
noncomputable def tw11313256184867956064:=()
noncomputable def tw3010249850158564976:=()
noncomputable def tw878101567029802068:=()
noncomputable def tw11093570062460310582:=()
noncomputable def tw11559310004641008846:=()
noncomputable def tw2432552570929243585:=()
noncomputable def tw13018309134365878720:=()
noncomputable def tw7669973635210854241:=()
noncomputable def tw18347939226324067145:=()
noncomputable def tw2740855952961195572:=()
noncomputable def tw14172097122589811405:=()
noncomputable def tw339744859796519321:=()
noncomputable def tw13413866368803072666:=()
noncomputable def tw6319159108842056737:=()
noncomputable def tw1765787704055798052:=()
noncomputable def tw14405467496236308963:=()
noncomputable def tw18304302672593669674:=()
noncomputable def tw8505798303827367892:=()
noncomputable def tw9276272880168984797:=()
noncomputable def tw6478137944345468882:=()
noncomputable def tw2403570405177283360:=()
noncomputable def tw16835364843193413044:=()
noncomputable def tw18125415820367598787:=()
noncomputable def tw15242372708187221962:=()
noncomputable def tw15916768521201511937:=()
noncomputable def tw4733100606166722811:=()
noncomputable def tw6534500851873802389:=()
noncomputable def tw9216249451180624191:=()
noncomputable def tw8677665771644179223:=()
noncomputable def tw11895238171977347693:=()
noncomputable def tw1691990994853645754:=()
noncomputable def tw4193341226713036043:=()
noncomputable def tw11548550544659096954:=()
noncomputable def tw9595125958249727525:=()
noncomputable def tw4889538737751420920:=()
noncomputable def tw18222495602648518057:=()
noncomputable def tw3691145967660617617:=()
noncomputable def tw1823976877454434817:=()
noncomputable def tw2163144069496546499:=()
noncomputable def tw1827338784884754268:=()
noncomputable def tw7583273107949567372:=()
noncomputable def tw2119483679773632105:=()
noncomputable def tw6575795344870438172:=()
noncomputable def tw9953744769299037315:=()
noncomputable def tw2652928283753688027:=()
noncomputable def tw6214157484404724942:=()
noncomputable def tw3191593298017361198:=()
noncomputable def tw14890984735360290763:=()
noncomputable def tw8049184937218648064:=()
noncomputable def tw13929887004802851753:=()
noncomputable def tw7723125471786626041:=()
noncomputable def tw15282415187084610610:=()
noncomputable def tw15114364344051246916:=()
noncomputable def tw7653483855120275682:=()
noncomputable def tw2303964915872416971:=()
noncomputable def tw17155846835593140348:=()
noncomputable def tw15824441322956195182:=()
noncomputable def tw2710188687607588071:=()
noncomputable def tw3895145801164969330:=()
noncomputable def tw4743078486147065628:=()
noncomputable def tw104715097747594180:=()
noncomputable def tw5604489302485041534:=()
noncomputable def tw14143213913693671222:=()
noncomputable def tw627072164639355352:=()
noncomputable def tw7318221018092513154:=()
noncomputable def tw13539191386640085405:=()
noncomputable def tw9147176484012632162:=()
noncomputable def tw1403046240004038342:=()
noncomputable def tw8717290963046131427:=()
noncomputable def tw13229030764827378452:=()
noncomputable def tw10349530015896583473:=()
noncomputable def tw17666860771458735880:=()
noncomputable def tw1823071936533386746:=()
noncomputable def tw4783152758226255053:=()
noncomputable def tw7634154885468970442:=()
noncomputable def tw7902400859755949469:=()
noncomputable def tw7378967599896553028:=()
noncomputable def tw13261654229708689672:=()
noncomputable def tw2090767595073125171:=()
noncomputable def tw18411054664726592469:=()
noncomputable def tw3155947239162454382:=()
noncomputable def tw14542503458437593375:=()
noncomputable def tw11175050511175589848:=()
noncomputable def tw5378057280045019535:=()
noncomputable def tw7503714885849234092:=()
noncomputable def tw16818701192102925585:=()
noncomputable def tw10460495990666451144:=()
noncomputable def tw5915853783820845727:=()
noncomputable def tw15814548108869315223:=()
noncomputable def tw447556484800413331:=()
noncomputable def tw5477538774008383125:=()
noncomputable def tw1958545787679370504:=()
noncomputable def tw14232604738140446418:=()
noncomputable def tw15547302798563024165:=()
noncomputable def tw2945165230900760749:=()
noncomputable def tw16466404952856340605:=()
noncomputable def tw10469136126452466128:=()
noncomputable def tw18192214009857515791:=()
noncomputable def tw14979238407142532440:=()
noncomputable def tw13738071781959403312:=()
noncomputable def tw15746398796206953672:=()
noncomputable def tw407435354440847567:=()
noncomputable def tw9640642823053481753:=()
noncomputable def tw8909442377913560133:=()
noncomputable def tw6907017535279165908:=()
noncomputable def tw12276578857356683553:=()
noncomputable def tw1304500884856228010:=()
noncomputable def tw2254645747543692199:=()
noncomputable def tw4656435727310275122:=()
noncomputable def tw18233545851456030328:=()
noncomputable def tw9244624830591172058:=()
noncomputable def tw2564950318767871909:=()
noncomputable def tw7610153453855563126:=()
noncomputable def tw7267848373348116223:=()
noncomputable def tw9217260266677923193:=()
noncomputable def tw15540167909780754776:=()
noncomputable def tw3231270653219907900:=()
noncomputable def tw13304956638873462080:=()
noncomputable def tw8517770996821631331:=()
noncomputable def tw16886440491860079705:=()
noncomputable def tw1473018822418972174:=()
noncomputable def tw6085431150878228482:=()
noncomputable def tw1230368252759048224:=()
noncomputable def tw15194447476718245978:=()
noncomputable def tw9681305288841480131:=()
noncomputable def tw2971175701448199560:=()
noncomputable def tw6279744203746845438:=()
noncomputable def tw10077769694325765233:=()
noncomputable def tw10688554250509350739:=()
noncomputable def tw5019589009642709650:=()
noncomputable def tw4078592411656745937:=()
noncomputable def tw16529067283229983892:=()
noncomputable def tw4925650424716588953:=()
noncomputable def tw9103819807863842834:=()
end PySem.W.Fast
open PySem PySem.W PyProof.Rows
set_option maxRecDepth 100000 in
set_option maxHeartbeats 0 in
theorem PySem.Challenge.cw_rimsteps_k11_whole_read_just_where_a_pic_holds : PySem.Challenge.rw_rimsteps_k11_whole_read_just_where_a_pic.Holds := by
 w_on;o_law;k_head;(case hw=>w_witness2)
 k_fill
 refine RR.walk (l:=PySem.Challenge.rw_rimsteps_k11_whole_read_just_where_a_pic) rfl rfl (L2.km_all (by decide)) ?F
 case F =>
  intro w mg fa h KX G hmg
  refine' RR.all_mk KX G hmg (.mk ?a0 ?l0 ?c0 ?k0) (.mk ?a1 ?l1 ?c1 ?k1) (.mk ?a2 ?l2 ?c2 ?k2) (.mk ?a3 ?l3 ?c3 ?k3) (.mk ?a4 ?l4 ?c4 ?k4) (.mk ?a5 ?l5 ?c5 ?k5) (.mk ?a6 ?l6 ?c6 ?k6) (.mk ?a7 ?l7 ?c7 ?k7) (.mk ?a8 ?l8 ?c8 ?k8) (.mk ?a9 ?l9 ?c9 ?k9) (.mk ?a10 ?l10 ?c10 ?k10) (.mk ?a11 ?l11 ?c11 ?k11) (.mk ?a12 ?l12 ?c12 ?k12) (.mk ?a13 ?l13 ?c13 ?k13) (.mk ?a14 ?l14 ?c14 ?k14) (.mk ?a15 ?l15 ?c15 ?k15) (.mk ?a16 ?l16 ?c16 ?k16) (.mk ?a17 ?l17 ?c17 ?k17) (.mk ?a18 ?l18 ?c18 ?k18) (.mk ?a19 ?l19 ?c19 ?k19) (.mk ?a20 ?l20 ?c20 ?k20) (.mk ?a21 ?l21 ?c21 ?k21) (.mk ?a22 ?l22 ?c22 ?k22) (.mk ?a23 ?l23 ?c23 ?k23) (.mk ?a24 ?l24 ?c24 ?k24) (.mk ?a25 ?l25 ?c25 ?k25) (.mk ?a26 ?l26 ?c26 ?k26) (.mk ?a27 ?l27 ?c27 ?k27) (.mk ?a28 ?l28 ?c28 ?k28) (.mk ?a29 ?l29 ?c29 ?k29) (.mk ?a30 ?l30 ?c30 ?k30) (.mk ?a31 ?l31 ?c31 ?k31) (.mk ?a32 ?l32 ?c32 ?k32) (.mk ?a33 ?l33 ?c33 ?k33) ?a34 ?l34 ?c34 ?k34 ?lc0 ?lh0 (.mk ?a35 ?l35 ?c35 ?k35) (.mk ?a36 ?l36 ?c36 ?k36) (.mk ?a37 ?l37 ?c37 ?k37) (.mk ?a38 ?l38 ?c38 ?k38) (.mk ?a39 ?l39 ?c39 ?k39) ?a40 ?l40 ?c40 ?k40 ?aM ?lM ?x0 ?x1 ?x2 ?x3 ?x4 ?x5 ?x6 ?x7 ?aB ?lB ?sB ?aB2 ?lB2 ?xNR ?xLC ?xIN ?xLF ?xCI ?xKI ?xMX ?xFN ?xKC ?xS1 ?xS3 ?xNA ?xS2 ?xXT ?z_ValueError ?z_range ?z_len ?z_min ?z_sorted ?z_tuple ?z_int ?z_bool ?z_str ?z_all ?z_isinstance ?z_list ?z_sum ?z_enumerate ?z_zip ?z_max
  (case a0=>k_is)
  (case l0=>k_is)
  (case c0=>k_is)
  (case k0=>k_is)
  (case a1=>k_is)
  (case l1=>k_is)
  (case c1=>k_is)
  (case k1=>k_is)
  (case a2=>k_is)
  (case l2=>k_is)
  (case c2=>k_is)
  (case k2=>k_is)
  (case a3=>k_is)
  (case l3=>k_is)
  (case c3=>k_is)
  (case k3=>k_is)
  (case a4=>k_is)
  (case l4=>k_is)
  (case c4=>k_is)
  (case k4=>k_is)
  (case a5=>k_is)
  (case l5=>k_is)
  (case c5=>k_is)
  (case k5=>k_is)
  (case a6=>k_is)
  (case l6=>k_is)
  (case c6=>k_is)
  (case k6=>k_is)
  (case a7=>k_is)
  (case l7=>k_is)
  (case c7=>k_is)
  (case k7=>k_is)
  (case a8=>k_is)
  (case l8=>k_is)
  (case c8=>k_is)
  (case k8=>k_is)
  (case a9=>k_is)
  (case l9=>k_is)
  (case c9=>k_is)
  (case k9=>k_is)
  (case a10=>k_is)
  (case l10=>k_is)
  (case c10=>k_is)
  (case k10=>k_is)
  (case a11=>k_is)
  (case l11=>k_is)
  (case c11=>k_is)
  (case k11=>k_is)
  (case a12=>k_is)
  (case l12=>k_is)
  (case c12=>k_is)
  (case k12=>k_is)
  (case a13=>k_is)
  (case l13=>k_is)
  (case c13=>k_is)
  (case k13=>k_is)
  (case a14=>k_is)
  (case l14=>k_is)
  (case c14=>k_is)
  (case k14=>k_is)
  (case a15=>k_is)
  (case l15=>k_is)
  (case c15=>k_is)
  (case k15=>k_is)
  (case a16=>k_is)
  (case l16=>k_is)
  (case c16=>k_is)
  (case k16=>k_is)
  (case a17=>k_is)
  (case l17=>k_is)
  (case c17=>k_is)
  (case k17=>k_is)
  (case a18=>k_is)
  (case l18=>k_is)
  (case c18=>k_is)
  (case k18=>k_is)
  (case a19=>k_is)
  (case l19=>k_is)
  (case c19=>k_is)
  (case k19=>k_is)
  (case a20=>k_is)
  (case l20=>k_is)
  (case c20=>k_is)
  (case k20=>k_is)
  (case a21=>k_is)
  (case l21=>k_is)
  (case c21=>k_is)
  (case k21=>k_is)
  (case a22=>k_is)
  (case l22=>k_is)
  (case c22=>k_is)
  (case k22=>k_is)
  (case a23=>k_is)
  (case l23=>k_is)
  (case c23=>k_is)
  (case k23=>k_is)
  (case a24=>k_is)
  (case l24=>k_is)
  (case c24=>k_is)
  (case k24=>k_is)
  (case a25=>k_is)
  (case l25=>k_is)
  (case c25=>k_is)
  (case k25=>k_is)
  (case a26=>k_is)
  (case l26=>k_is)
  (case c26=>k_is)
  (case k26=>k_is)
  (case a27=>k_is)
  (case l27=>k_is)
  (case c27=>k_is)
  (case k27=>k_is)
  (case a28=>k_is)
  (case l28=>k_is)
  (case c28=>k_is)
  (case k28=>k_is)
  (case a29=>k_is)
  (case l29=>k_is)
  (case c29=>k_is)
  (case k29=>k_is)
  (case a30=>k_is)
  (case l30=>k_is)
  (case c30=>k_is)
  (case k30=>k_is)
  (case a31=>k_is)
  (case l31=>k_is)
  (case c31=>k_is)
  (case k31=>k_is)
  (case a32=>k_is)
  (case l32=>k_is)
  (case c32=>k_is)
  (case k32=>k_is)
  (case a33=>k_is)
  (case l33=>k_is)
  (case c33=>k_is)
  (case k33=>k_is)
  (case a34=>k_is)
  (case l34=>k_is)
  (case c34=>k_is)
  (case k34=>k_is)
  (case lc0=>k_is)
  (case lh0=>exact rfl)
  (case a35=>k_is)
  (case l35=>k_is)
  (case c35=>k_is)
  (case k35=>k_is)
  (case a36=>k_is)
  (case l36=>k_is)
  (case c36=>k_is)
  (case k36=>k_is)
  (case a37=>k_is)
  (case l37=>k_is)
  (case c37=>k_is)
  (case k37=>k_is)
  (case a38=>k_is)
  (case l38=>k_is)
  (case c38=>k_is)
  (case k38=>k_is)
  (case a39=>k_is)
  (case l39=>k_is)
  (case c39=>k_is)
  (case k39=>k_is)
  (case a40=>k_is)
  (case l40=>k_is)
  (case c40=>k_is)
  (case k40=>k_is)
  (case aM=>k_is)
  (case lM=>k_is)
  (case x0=>k_is)
  (case x1=>k_is)
  (case x2=>k_is)
  (case x3=>k_is)
  (case x4=>k_is)
  (case x5=>k_is)
  (case x6=>k_is)
  (case x7=>k_is)
  (case aB=>k_is)
  (case lB=>k_is)
  (case sB=>exact rfl)
  (case aB2=>k_is)
  (case lB2=>k_is)
  (case xNR=>k_is)
  (case xLC=>k_is)
  (case xIN=>k_is)
  (case xLF=>k_is)
  (case xCI=>k_is)
  (case xKI=>k_is)
  (case xMX=>with_unfolding_all exact rfl)
  (case xFN=>exact rfl)
  (case xKC=>k_is)
  (case xS1=>exact rfl)
  (case xS3=>k_is)
  (case xNA=>k_is)
  (case xS2=>k_is)
  (case xXT=>exact rfl)
  (case z_ValueError=>k_is)
  (case z_range=>k_is)
  (case z_len=>k_is)
  (case z_min=>k_is)
  (case z_sorted=>k_is)
  (case z_tuple=>k_is)
  (case z_int=>k_is)
  (case z_bool=>k_is)
  (case z_str=>k_is)
  (case z_all=>k_is)
  (case z_isinstance=>k_is)
  (case z_list=>k_is)
  (case z_sum=>k_is)
  (case z_enumerate=>k_is)
  (case z_zip=>k_is)
  (case z_max=>k_is)

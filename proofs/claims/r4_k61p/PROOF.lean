import PyProof.Rows.All
import Wide.All
import OpenK.AllK
import Wide.FinOn
import Lean
import PyProof.EqAt
import PyProof.EqKinds
import PyProof.TupleCall
import PySem.Challenge.RW_rimsteps_k61_cells_put_and_taken
set_option Elab.async false
set_option linter.all false
set_option maxRecDepth 100000
open List renaming getElem?_eq_getElem → Aa,getElem?_eq_some_iff → Ad,replicate → Ah,mem_of_getElem? → Ai,mem_singleton → Aj,length_append → Am,length_map → Ap,mem_cons_of_mem → Aq,size_toArray → Ar,mem_append_right → Av,getElem?_append_left → Aw,mem_cons_self → Ax,set_cons_succ → AA,set_cons_zero → AB,getElem_of_mem → AE,getElem?_map → AF,mem_cons → AG,getElem?_append_right → AK,append_assoc → AL,length_filter_le → AO,mem_append → AQ,length_take → AR,take_length → AS,mem_map → AV,pairwise_append → AW,length_cons → A4,map_append → A6,map_cons → A9,append_nil → Bf,lookup_cons → Bp,getElem_mem → Bx,flatten_cons → BA,mem_of_mem_drop → BB,nodup_cons → BJ,getD_eq_getElem?_getD → BK,pairwise_iff_getElem → BL,length_singleton → BP,range → BS,mem_append_left → B4,mem_of_mem_take → B5,take_sublist → B7,flatten_append → Ca,mem_filter → Cb,length_nil → Cc,extract_eq_take_drop → Ce,length_replicate → Cg,drop_sublist → Ct,replicate_succ → CB,filter_cons → CJ,take_append_drop → CP,perm_append_comm → CQ,find?_cons → CU,getElem?_inj → CZ,getElem?_cons_succ → C6,filterMap_map → Dd,pairwise_cons → Dh,take_of_length_le → Di,sum_cons → Do,getElem?_eq_none → Dq,nodup_append → Dt,take_succ → DF,replicate_succ' → DG,length_filterMap_le → DU,zip_cons_cons → D0,getElem?_drop → D1,filter_append → D3,eraseIdx_cons_succ → D8,mem_range → D9,mem_flatten → Ea
open PySem renaming wpAny_bind → Ab,Shared → Ac,wpAny_pure → Ae,wpAny → Ao,model → Au,mainGlobals → Az,Program → AD,Around → AM,World → A5,wpAny_newObj_type → Bc,wpAny_holding → Bg,foldedSetIterable → Bi,starEach → Bl,compareOp → Bw,FuncData → Bz,Spec → BD,wpAny_mono → BF,sysModules → BR,wpAny_truthy_bool → BX,wpAny_comprehension_free → BZ,codeAny → Co,wpAny_typeNameOfWhole_keyiter → Cs,wpAny_loadPart' → Cv,mem_of_lookup → CA,wpAny_standAt → CH,keywordEach → CI,tupleKind_room_in1 → CK,wpAny_rule → CM,wpAny_passesOwn → CT,compEnvC → CV,wpAny_callSpecial?_slot → C5,wpAny_Call_Name_kw → Da,codeAny_compStart_list → De,wpAny_updateSeq → Dl,wpAny_dictEntries → Du,assign → Dx,binaryOp → Dy,bindArgs → Dz,wpAny_tryCatch → DD,tupleKind → DH,holding → DI,wpAny_call_entry → DJ,Model → DM,backToKw → DO,atKey → DP,plainId_quiet → DR,wpAny_attempt → DS,wpAny_execs_nil → DV,letOwnedTupleGo → DW,assignEach → DZ,wpAny_field → D5,sliceBounds → D6,wpAny_letGo → D7
open PySem.Heap renaming get?_push_of_some → Af,lt_size → Ay,get?_push_size → AI,get?_update_other → AX,get?_update_self → BI,SameBut → Cn,DictOfH → Dj
open PyProof.Rows renaming wpS_bind → Ag,wpS_pure → As,arrOf → At,SortSt → AJ,pendingOf → AN,wpS_forRange → Br,slot_tuple_getitem → BH,seqObj → BM,getElem?_mirror_all → BO,wpS_modify → BQ,wpS_mono → Ch,failedOf → Cr,IntsAre → CC,SortKind → CN,callWith_type1 → Dr,room_in_shaped → Ds,get?_update_seq → DX,wpS_get → DY
open Nat renaming le_refl → Ak,lt_or_ge → AY,le_trans → A3,lt_of_lt_of_le → A7,ne_of_lt → A8,zero_le → Ba,le_of_lt → B6,mod_lt → B9,lt_irrefl → Cm,zero_add → CF,le_succ → C7
open PySem.Value renaming ref → An,none → BE,type → C9
open Bool renaming false_ne_true → AC,false_eq_true → AZ,and_eq_true → Bd,eq_iff_iff → Cu
open Array renaming length_toList → AH,getElem?_eq_some_iff → A0,toList_append → Be,getElem?_toList → Bk,getElem?_eq_getElem → Bv,size_extract → Ck,toList_push → CW,toList_extract → CY
open Option.some renaming inj → AT
open PySem.Obj renaming mapSeq → AU,mapFields → Dp,data_mapFields → D2
open PySem.SeqAt renaming shaped → Bb,canLay_of_shaped → Dg
open PySem.F renaming plainAttrs_list → Bh,slot_list_append → Bm,type_list_append → Bo,plain_min_loop → BV,slot_dict_keyiterator_next → B3,slot_dict_setdefault → Cw,args_dict_keyiterator_next_1 → DL,entry_dict_keyiterator_next → DT,plainAttrs_dict → D4
open PySem.Str renaming ofString → Bj
open PySem.PyData renaming eqv → Bq,keyHash → BU,canLayAll0 → BY,depth → B8,depthAll → Cd,canLay0 → CL,int → DC,eqvAll → DQ
open PySem.NameKind renaming free → Bs,cell → Dm
open PySem.Heap.SameBut renaming update → Bt
open False renaming elim → Bu
open PySem.PassesOwn renaming never → By
open PySem.W renaming mg_none_of → BC,nsIn → BW,mg_of → Cq,findIn → Cy,kitOne → Cz,kia_one → C4,fnOf → Db,kas_item → DE,keepIn → DN
open Ne renaming symm → BG
open Option renaming map_eq_some_iff → BN,map_some → Dk
open Classical renaming byContradiction → Cf
open True renaming intro → Ci
open PySem.Calls renaming spliced_cons → Cj,callWith_builtin → Dc,evalArgs_plain → DB
open Lean renaming maxHeartbeats → Cp
open PySem.Builtin.Builtins renaming bindParams → CD
open PySem.Builtin.List renaming listExtendWith → CG,listTooLong → C3
open Break.runK renaming match_1 → CO
open PySem.Builtin.Slice renaming slicePlaces → CS,sliceAdjust → DK
open PySem.Paired renaming length → C0
open PySem.Builtin.Tuple renaming tupleExact → C1
open Sum renaming inl → C8
open Int renaming toNat_natCast → Dv
open Sum.inl renaming inj → Dw
namespace L2
open PySem PySem.Spec PyProof.Rows
noncomputable abbrev Key:=Sum Int Str
noncomputable def keyIs:Key->Value->Bool
 |.inl k,v=>Value.isInt k v
 |.inr x,v=>Value.isStrOf x v
noncomputable def keyH(w:A5):Key->Int
 |.inl k=>hashInt k
 |.inr x=>hashStr w x
theorem zaX:∀{k:Key}{v:Value},keyIs k v=true->(∃i t,k=C8 i/\v=Value.int i t)∨(∃x t,k=Sum.inr x/\v=Value.str x t)
 |.inl i,v,h=>by
  obtain⟨t,e⟩:=Value.isInt_shape (k:=i) (v:=v) h;exact .inl ⟨i,t,rfl,e⟩
 |.inr x,v,h=>by
  obtain⟨t,e⟩:=Value.isStrOf_shape (x:=x) (v:=v) h;exact .inr ⟨x,t,rfl,e⟩
theorem zka(i:Int)(t:Tok):keyIs (.inl i) (.int i t)=true:=by simp[keyIs,Value.isInt]
theorem zj9(x:Str)(t:Tok):keyIs (.inr x) (.str x t)=true:=by simp[keyIs,Value.isStrOf]
theorem zno(a b:Int):decide ((C8 a:Key)=C8 b)=(a == b):=by
 by_cases e:a=b
 .subst e;simp
 .have h:¬ (C8 a:Key)=C8 b:=λq=>e (Dw q)
  rw[decide_eq_false h];exact (beq_eq_false_iff_ne.mpr e).symm
theorem znl(a b:Str):decide ((Sum.inr a:Key)=Sum.inr b)=decide (a=b):=by
 by_cases e:a=b
 .subst e;simp
 .have h:¬ (Sum.inr a:Key)=Sum.inr b:=λq=>e (Sum.inr.inj q)
  rw[decide_eq_false h,decide_eq_false e]
theorem znn(a:Int)(b:Str):decide ((C8 a:Key)=Sum.inr b)=false:=decide_eq_false (λq=>nomatch q)
theorem znm(a:Str)(b:Int):decide ((Sum.inr a:Key)=C8 b)=false:=decide_eq_false (λq=>nomatch q)
noncomputable def zaE(prog:AD)(w:A5):PySem.KeyKind prog w Key where
 is:=keyIs
 hash:=keyH w
 inj:=λv a b ha hb=>by
  rcases zaX ha with⟨i,t,rfl,rfl⟩ |⟨x,t,rfl,rfl⟩
  .rcases zaX hb with⟨j,u,rfl,e⟩ |⟨y,u,rfl,e⟩
   .injection e with e1 _;rw[e1]
   .exact nomatch e
  .rcases zaX hb with⟨j,u,rfl,e⟩ |⟨y,u,rfl,e⟩
   .exact nomatch e
   .injection e with e1 _;rw[e1]
 byValue:=λk v h=>by rcases zaX h with⟨i,t,rfl,rfl⟩ |⟨x,t,rfl,rfl⟩ <;> rfl
 pyHash:=λhv h=>by
  rcases zaX hv with⟨i,t,rfl,rfl⟩ |⟨x,t,rfl,rfl⟩
  .exact wpAny_pyHash_int h
  .exact wpAny_pyHash_str h
 eqBool:=λhu hv h=>by
  rcases zaX hu with⟨i,t,rfl,rfl⟩ |⟨x,t,rfl,rfl⟩
  .rcases zaX hv with⟨j,u,rfl,rfl⟩ |⟨y,u,rfl,rfl⟩
   .rw[zno]at h;exact wpAny_eqBool_int h
   .rw[znn]at h;exact SeqAt.EqAt.int_str i t y u _ _ _ _ h
  .rcases zaX hv with⟨j,u,rfl,rfl⟩ |⟨y,u,rfl,rfl⟩
   .rw[znm]at h;exact SeqAt.EqAt.str_int x t j u _ _ _ _ h
   .rw[znl]at h;exact wpAny_eqBool_str h
 «strs»:=λk x t v h=>by
  rcases zaX h with⟨i,u,rfl,e⟩ |⟨y,u,rfl,e⟩
  .exact nomatch e
  .injection e with e1 _;subst e1
   cases v <;> rfl
theorem zhB(prog:AD)(w:A5)(i:Int)(t:Tok):(zaE prog w).is (.inl i) (.int i t)=true:=zka i t
theorem zbT(prog:AD)(w:A5)(x:Str)(t:Tok):(zaE prog w).is (.inr x) (.str x t)=true:=zj9 x t
inductive V where
 |non |bl (b:Bool) |int (i:Int) |str (x:Str) |byt (b:Array UInt8) |flt (b:UInt64) |ref (a:Addr) |ty (n:String)
 deriving DecidableEq
noncomputable def RelV:V->Value->Prop
 |.non,u=>u=BE
 |.bl b,u=>u=Value.bool b
 |.int i,u=>∃t,u=Value.int i t
 |.str x,u=>∃t,u=Value.str x t
 |.byt b,u=>∃t,u=Value.bytes b t
 |.flt b,u=>∃t,u=Value.float b t
 |.ref a,u=>u=An a
 |.ty n,u=>u=C9 n
noncomputable abbrev Vals:List V->List Value->Prop:=Paired RelV
theorem Vals.length{xs:List V}{us:List Value}(r:Vals xs us):xs.length=us.length:=C0 r
theorem Vals.get:∀{xs:List V}{us:List Value}{i:Nat}{x:V},Vals xs us->xs[i]?=some x->∃u,us[i]?=some u/\RelV x u
 |_,_,_,_,.nil,e=>by simp at e
 |_,_,0,_,.cons r _,e=>by simp at e;subst e;exact⟨_,rfl,r⟩
 |_,_,i+1,x,.cons _ t,e=>by
  obtain⟨u,h1,h2⟩:=Vals.get (i:=i) (x:=x) t (by simpa using e);exact⟨u,by simpa using h1,h2⟩
theorem Vals.set{x:V}{u:Value}(r:RelV x u):∀{xs:List V}{us:List Value}(i:Nat),Vals xs us->Vals (xs.set i x) (us.set i u)
 |_,_,_,.nil=>.nil
 |_,_,0,.cons _ t=>.cons r t
 |_,_,i+1,.cons q t=>.cons q (Vals.set r i t)
theorem Vals.append:∀{xs ys:List V}{us ws:List Value},Vals xs us->Vals ys ws->Vals (xs++ys) (us++ws)
 |_,_,_,_,.nil,s=>s
 |_,_,_,_,.cons r t,s=>.cons r (Vals.append t s)
theorem Vals.take:∀{xs:List V}{us:List Value}(n:Nat),Vals xs us->Vals (xs.take n) (us.take n)
 |_,_,0,_=>.nil
 |_,_,_+1,.nil=>.nil
 |_,_,n+1,.cons r t=>.cons r (Vals.take n t)
theorem Vals.drop:∀{xs:List V}{us:List Value}(n:Nat),Vals xs us->Vals (xs.drop n) (us.drop n)
 |_,_,0,r=>r
 |_,_,_+1,.nil=>.nil
 |_,_,n+1,.cons _ t=>Vals.drop n t
noncomputable def RelO:Option V->Option Value->Prop
 |some v,some u=>RelV v u
 |none,none=>True
 |_,_=>False
noncomputable def KV{κ:Type}:List (κ×V)->List (κ×Value)->Prop:=Paired λ(p:κ×V) (q:κ×Value)=>p.1=q.1/\RelV p.2 q.2
noncomputable def kV:Key->V
 |.inl i=>.int i
 |.inr x=>.str x
inductive HO where
 /-- a list -/
 |lst (xs:List V)
 /-- a tuple (never changes) -/
 |tup (xs:List V)
 /-- a dict whose keys are ints and texts;one whose keys are tuples of ints and texts (the empty one is both) -/
 |dK (kvs:List (Key×V)) |dT (kvs:List (List Key×V))
 /-- a set of ints: its members,its size -/
 |set (S:Int->Bool) (n:Nat)
 /-- an instance of the class at C,its dict at dx,its attributes -/
 |ins (C dx:Addr) (fs:List (Str×V))
 /-- the dict of the instance at x -/
 |own (x:Addr)
 /-- the dict of an exception -/
 |xd (fs:List (Str×V))
 /-- a bound method,f of x -/
 |met (f x:Addr)
 /-- a range object lo,lo+1,.. below hi -/
 |rng (lo hi:Int)
 /-- a thing that is known to the object (the script;a dict while a loop walks it): read,never written while it is so -/
 |frz (o:Obj) (u:HO)
 /-- a code object's table -/
 |tbl (ps:Array Value)
 /-- any other thing,by what is true of its one object (a def of one's own: SetO a S n:=HO.ext λh=>..) -/
 |ext (φ:Heap->Prop)
noncomputable abbrev Hp:=Addr->Option HO
noncomputable def upd(H:Hp)(a:Addr)(o:HO):Hp:=λb=>if b=a then some o else H b
theorem zaa{H:Hp}{a:Addr}{o:HO}:upd H a o a=some o:=by unfold upd;rw[if_pos rfl]
theorem zai{H:Hp}{a b:Addr}{o:HO}(h:b≠a):upd H a o b=H b:=by unfold upd;rw[if_neg h]
theorem zlZ{H:Hp}{a:Addr}{o u:HO}:upd (upd H a o) a u=upd H a u:=by
 funext b;unfold upd;split <;> rfl
theorem ne_of{H:Hp}{a b:Addr}{o u:HO}(h:H a=some o)(h':H b=some u)(d:o≠u):a≠b:=by intro e;subst e;rw[h]at h';exact d (AT h')
theorem zal{H:Hp}{a b:Addr}{o:HO}(h:H a=some o)(h':H b=none):a≠b:=by intro e;subst e;rw[h]at h';cases h'
section
variable (P:AD) (w:A5)
noncomputable def ObjOk(H:Hp)(h:Heap)(a:Addr):HO->Prop
  |.lst xs=>xs.length<=sizeLine/\∃(its:List Value) (n:Nat),Vals xs its/\h.get? a=some { cls:=.type "list",data:=.seq its.toArray n }
  |.tup xs=>xs.length<=sizeLine/\∃its:List Value,Vals xs its/\IsTup h a its.toArray
  |.dK kvs=>kvs.length<=sizeLine/\(a == BR)=false/\∃vs,KV kvs vs/\h.DictOf (zaE P w) a vs
  |.dT kvs => kvs.length <= sizeLine /\ (a == BR)=false /\ ∃xs:List (List Key × Addr × Value),
      Paired (λ(p:List Key×V) (q:List Key×Addr×Value)=>p.1=q.1/\H q.2.1=some (.tup (p.1.map kV))/\RelV p.2 q.2.2) kvs xs /\
      ∃o es ep,h.get? a=some o/\o.ExactDict/\o.data=.dict es ep/\es.toList=xs.map (entryOfKey (DH (zaE P w)))/\(xs.map (·.1)).Nodup
  |.set S n=>h.SetOf (intKind P w) a S n
  |.ins C dx fs => H dx=some (.own a) /\ fs.length <= 1000 /\ dx ≠ a /\ h.get? a=some (W.instObj C dx) /\
      ∃mA,h.Ns1 dx mA/\(∀f,RelO (fs.lookup f) (mA f))/\PySem.Within mA (fs.map (·.1))
  |.own _=>∃o,h.get? a=some o
  |.xd fs=>∃mA,h.Ns1 a mA/\∀f,RelO (fs.lookup f) (mA f)
  |.rng lo hi=>∃t u v,h.get? a=some { cls:=.type "range",data:=.fields #[.int lo t,.int hi u,.int 1 v] }
  |.frz o u=>h.get? a=some o/\ObjOk H h a u
  |.tbl ps=>h.get? a=some { cls:=.none,data:=.fields ps }
  |.met f x=>h.get? a=some (W.methodObj (.ref f) (.ref x))
  |.ext φ=>φ h/\(∃o,h.get? a=some o)/\∀h1 h2:Heap,φ h1->(∀o,h1.get? a=some o->h2.get? a=some o)->φ h2
noncomputable def HOk(H:Hp)(h:Heap):Prop:=∀a o,H a=some o->ObjOk P w H h a o
end
section
variable {P:AD}{w:A5}{H H':Hp}{h h':Heap}{a:Addr}{o:HO}
theorem ObjOk.lt(x:ObjOk P w H h a o):a<h.objs.size:=by
 cases o with
 |lst xs=>obtain⟨_,_,_,_,e⟩:=x;exact Ay e
 |tup xs=>obtain⟨_,_,_,p⟩:=x;exact p.lt
 |dK kvs=>obtain⟨_,_,_,_,o,_,_,e,_⟩:=x;exact Ay e
 |dT kvs=>obtain⟨_,_,_,_,o,_,_,e,_⟩:=x;exact Ay e
 |set S n=>obtain⟨o,_,_,_,e,_⟩:=x;exact Ay e
 |ins C dx fs=>obtain⟨_,_,_,e,_⟩:=x;exact Ay e
 |own y=>obtain⟨_,e⟩:=x;exact Ay e
 |xd fs=>obtain⟨_,⟨_,_,_,e,_⟩,_⟩:=x;exact Ay e
 |rng lo hi=>obtain⟨_,_,_,e⟩:=x;exact Ay e
 |frz ob u=>obtain⟨e,_⟩:=x;exact Ay e
 |tbl ps=>exact Ay (show h.get? a=some _ from x)
 |met f y=>exact Ay (show h.get? a=some _ from x)
 |ext φ=>obtain⟨_,⟨_,e⟩,_⟩:=x;exact Ay e
theorem Paired.mapP{α β:Type}{F G:α->β->Prop}:∀{l₁:List α}{l₂:List β},Paired F l₁ l₂->(∀a b,F a b->G a b)->Paired G l₁ l₂
 |_,_,.nil,_=>.nil
 |_,_,.cons r t,f=>.cons (f _ _ r) (Paired.mapP t f)
theorem ObjOk.stay(x:ObjOk P w H h a o)(k:∀b u, (b=a ∨ H b=some (.own a)) -> h.get? b=some u -> h'.get? b=some u)
  (ho:∀b,H b=some (.own a)->H' b=some (.own a)) (ht:∀b xs,H b=some (.tup xs)->H' b=some (.tup xs)):ObjOk P w H' h' a o:=by
 induction o with
 |lst xs=>obtain⟨z,its,n,r,e⟩:=x;exact⟨z,its,n,r,k _ _ (.inl rfl) e⟩
 |tup xs=>obtain⟨z,its,r,ob,e,c⟩:=x;exact⟨z,its,r,ob,k _ _ (.inl rfl) e,c⟩
 |dK kvs=>obtain⟨z,y,vs,r,ob,es,ep,e,c⟩:=x;exact⟨z,y,vs,r,ob,es,ep,k _ _ (.inl rfl) e,c⟩
 |dT kvs =>
  obtain⟨z,y,xs,r,ob,es,ep,e,c⟩:=x;exact⟨z,y,xs,Paired.mapP r λp q z=>⟨z.1,ht _ _ z.2.1,z.2.2⟩,ob,es,ep,k _ _ (.inl rfl) e,c⟩
 |set S n=>obtain⟨ob,es,ep,t,e,c⟩:=x;exact⟨ob,es,ep,t,k _ _ (.inl rfl) e,c⟩
 |ins C dx fs =>
  obtain⟨d,z,ne,e,mA,⟨od,es,ep,e2,c⟩,r⟩:=x;exact⟨ho _ d,z,ne,k _ _ (.inl rfl) e,mA,⟨od,es,ep,k _ _ (.inr d) e2,c⟩,r⟩
 |own y=>obtain⟨ob,e⟩:=x;exact⟨ob,k _ _ (.inl rfl) e⟩
 |xd fs=>obtain⟨mA,⟨od,es,ep,e,c⟩,r⟩:=x;exact⟨mA,⟨od,es,ep,k _ _ (.inl rfl) e,c⟩,r⟩
 |rng lo hi=>obtain⟨t,u,v,e⟩:=x;exact⟨t,u,v,k _ _ (.inl rfl) e⟩
 |frz ob u ih=>obtain⟨e,q⟩:=x;exact⟨k _ _ (.inl rfl) e,ih q⟩
 |tbl ps =>
  have e:h.get? a=some { cls:=.none,data:=.fields ps }:=x;show h'.get? a=some { cls:=.none,data:=.fields ps };exact k a _ (.inl rfl) e
 |met f y =>
  have e:h.get? a=some (W.methodObj (.ref f) (.ref y)):=x;show h'.get? a=some (W.methodObj (.ref f) (.ref y));exact k a _ (.inl rfl) e
 |ext φ=>obtain⟨p,⟨o,e⟩,st⟩:=x;exact⟨st _ _ p λo q=>k _ _ (.inl rfl) q,⟨o,k _ _ (.inl rfl) e⟩,st⟩
theorem HOk.lt(x:HOk P w H h)(e:H a=some o):a<h.objs.size:=(x a o e).lt
theorem HOk.fresh(x:HOk P w H h)(e:h.objs.size<=a):H a=none:=by
 cases q:H a with
 |none=>rfl
 |some u=>exact absurd (A7 (x.lt q) e) (Cm _)
theorem HOk.kept(x:HOk P w H h)(k:∀b u,h.get? b=some u->h'.get? b=some u):HOk P w H h':=λa o e =>
 (x a o e).stay (λb u _ q=>k b u q) (λ_ q=>q) λ_ _ q=>q
theorem HOk.laid(x:HOk P w H h)(k:∀b u,h.get? b=some u->h'.get? b=some u)(hp:h.objs.size<=a)(new:ObjOk P w (upd H a o) h' a o):HOk P w (upd H a o) h':=λb u e=>by
 have hn:=x.fresh hp
 by_cases hb:b=a
 .subst hb;rw[zaa]at e;cases e;exact new
 .rw[zai hb]at e;exact (x b u e).stay (λc v _ q=>k c v q) (λc q=>by rw[zai (zal q hn)];exact q) λc xs q=>by rw[zai (zal q hn)];exact q
end
noncomputable def Rd(H:Hp)(a:Addr)(u:HO):Prop:=H a=some u∨∃o,H a=some (.frz o u)
theorem Rd.of{H:Hp}{a:Addr}{u:HO}(h:H a=some u):Rd H a u:=.inl h
theorem Rd.ok{P:AD}{w:A5}{H:Hp}{h:Heap}{a:Addr}{u:HO}(r:Rd H a u)(x:HOk P w H h):ObjOk P w H h a u:=by
 rcases r with r |⟨o,r⟩
 .exact x a u r
 .obtain⟨_,q⟩:=x a _ r;exact q
noncomputable def Mut:Option HO->Prop
 |some (.lst _)=>True
 |some (.dK _)=>True
 |some (.dT _)=>True
 |some (.set _ _)=>True
 |some (.ins _ _ _)=>True
 |some (.ext _)=>True
 |_=>False
section
variable {P:AD}{w:A5}{H:Hp}{h h':Heap}{x e:Addr}{o':HO}
theorem HOk.write(ok:HOk P w H h)(mu:Mut (H x))(he:e=x ∨ H e=some (.own x))(k:∀b u, b ≠ e -> h.get? b=some u -> h'.get? b=some u)(heo:∃u, h'.get? e=some u)
  (new:ObjOk P w (upd H x o') h' x o'):HOk P w (upd H x o') h':=λb u q=>by
 have nown:∀c y,H c=some (.own y)->c≠x:=λc y r z=>by subst z;rw[r]at mu;exact mu
 have ntup:∀c xs,H c=some (.tup xs)->c≠x:=λc xs r z=>by subst z;rw[r]at mu;exact mu
 by_cases hb:b=x
 .subst hb;rw[zaa]at q;cases q;exact new
 .rw[zai hb]at q
  by_cases hbe:b=e
  .have q':H b=some (.own x) := by
    rcases he with z |z
    .exact absurd (hbe.trans z) hb
    .rw[hbe];exact z
   rw[q]at q';cases q';obtain⟨v,hv⟩:=heo;exact⟨v,by rw[hbe];exact hv⟩
  .refine (ok b u q).stay (λc v hc r=>k c v ?_ r) (λc r=>by rw[zai (nown c b r)];exact r) λc xs r=>by rw[zai (ntup c xs r)];exact r
   rcases hc with rfl |hc
   .exact hbe
   .rintro rfl;rcases he with z |z
    .exact nown c b hc z
    .rw[hc]at z;cases z;exact hb rfl
end
structure Un (fs ex:List Addr) (H H':Hp) (h h':Heap):Prop where
 keep:∀b o,h.get? b=some o->H b=none->b ∉ fs->b ∉ ex->h'.get? b=some o
 slot:∀b o,h.get? b=some o->H b=none->b∈fs->b ∉ ex->∃sl,h'.get? b=some { o with slots:=sl }
 free:∀b o,h.get? b=some o->H b=none->b ∉ ex->H' b=none
 there:∀b o,h.get? b=some o->b ∉ ex->∃o',h'.get? b=some o'
 tups:∀b xs,H b=some (.tup xs)->H' b=some (.tup xs)
 frzs:∀b o u,H b=some (.frz o u)->H' b=some (.frz o u)
 tbls:∀b ps,H b=some (.tbl ps)->∃more,H' b=some (.tbl (ps++more))
section
variable {fs fs' ex ex':List Addr}{H H1 H2:Hp}{h h1 h2 h':Heap}{a x e:Addr}{o:HO}
theorem Un.any(u:Un fs ex H H1 h h1){b:Addr}{ob:Obj}(q:h.get? b=some ob)(n:H b=none)(hx:b ∉ ex):∃sl,h1.get? b=some { ob with slots:=sl }:=by
 by_cases hb:b∈fs
 .exact u.slot b ob q n hb hx
 .exact⟨ob.slots,u.keep b ob q n hb hx⟩
theorem Un.kept(k:∀b u,h.get? b=some u->h'.get? b=some u):Un fs ex H H h h' :=
 ⟨λb ob q _ _ _=>k b ob q,λb ob q _ _ _=>⟨ob.slots,k b ob q⟩,λ_ _ _ n _=>n,λb ob q _=>⟨ob,k b ob q⟩,λ_ _ q=>q,λ_ _ _ q=>q,λ_ ps q=>⟨#[],by rw[q];simp⟩⟩
theorem Un.refl:Un fs ex H H h h:=Un.kept λ_ _ q=>q
theorem Un.laid(k:∀b u,h.get? b=some u->h'.get? b=some u)(hp:h.objs.size<=a)(hn:H a=none):Un fs ex H (upd H a o) h h' where
 keep:=λb u q _ _ _=>k b u q
 slot:=λb u q _ _ _=>⟨u.slots,k b u q⟩
 free:=λb u q n _=>by rw[zai (A8 (A7 (Ay q) hp))];exact n
 there:=λb u q _=>⟨u,k b u q⟩
 tups:=λb xs q=>by rw[zai (zal q hn)];exact q
 frzs:=λb u xs q=>by rw[zai (zal q hn)];exact q
 tbls:=λb ps q=>⟨#[],by rw[zai (zal q hn),q];simp⟩
theorem Un.write(mu:Mut (H x))(he:e=x∨H e=some (.own x))(k:∀b u,b≠e->h.get? b=some u->h'.get? b=some u)(heo:∃u,h'.get? e=some u):Un fs ex H (upd H x o) h h':=by
 have hx:∀b,H b=none->b≠x:=λb n z=>by subst z;rw[n]at mu;exact mu
 have hb:∀b,H b=none->b≠e:=λb n z=>by
  subst z;rcases he with r |r
  .exact hx b n r
  .rw[n]at r;cases r
 have hm:∀b u,H b=some u->¬ Mut (some u)->b≠x:=λb u q nm z=>by subst z;rw[q]at mu;exact nm mu
 refine⟨λb u q n _ _=>k b u (hb b n) q,λb u q n _ _=>⟨u.slots,k b u (hb b n) q⟩,λb u q n _=>by rw[zai (hx b n)];exact n,λb u q _=>?_,
  λb xs q=>by rw[zai (hm b _ q λz=>z)];exact q,λb u xs q=>by rw[zai (hm b _ q λz=>z)];exact q,λb ps q=>⟨#[],by rw[zai (hm b _ q λz=>z),q];simp⟩⟩
 by_cases hbe:b=e
 .subst hbe;exact heo
 .exact⟨u,k b u hbe q⟩
end
noncomputable def trk(h:Heap)(H:Hp):List Addr:=(BS h.objs.size).filter λa=>(H a).isSome
noncomputable def hidT(h:Heap)(H:Hp):Heap:=W.hideAll h (trk h H)
theorem zkk(h:Heap)(H:Hp):(hidT h H).objs.size=h.objs.size:=W.hideAll_size _ _
theorem zlf{h:Heap}{H:Hp}{b:Addr}{o:Obj}(e:h.get? b=some o)(n:H b=none):(hidT h H).get? b=some o :=
 W.hideAll_get _ e λhm=>by have q:(H b).isSome=true:=(Cb.mp hm).2;rw[n]at q;simp at q
theorem zmo{h:Heap}{H:Hp}{b:Addr}{o:Obj}(e:(hidT h H).get? b=some o):h.get? b=some o/\H b=none:=by
 have e':h.get? b=some o:=W.of_hideAll (trk h H) e;refine⟨e',?_⟩
 cases q:H b with
 |none=>rfl
 |some x =>
  have hm:b∈trk h H:=List.mem_filter.mpr ⟨List.mem_range.mpr (Ay e'),by simp[q]⟩;have z:(hidT h H).get? b=none:=W.hideAll_none (trk h H) hm;rw[z]at e;cases e
noncomputable def zmN(g h:Heap)(L:Addr):List (Addr×Obj):=(BS h.objs.size).filterMap λa=>if a=L∨(g.get? a).isSome=true then none else (h.get? a).map λo=>(a,o)
noncomputable def rest(g h:Heap)(L d:Addr):List (Addr×Obj):=(zmN g h L).filter λp=>decide (p.1≠d)
structure Mod (K:W.Frag) (mg:Str->Option Value) (base:Heap):Prop where
 kin:K.In base
 glob:base.Ns Az mg
 blt:∃mb,base.Ns builtinsNs mb/\∀x:Str,x ≠ "__name__" -> mb x=bootBuiltins x
 nolimit:base.NoLimit
structure Cx where
 prog:AD
 w:A5
 K:W.Frag
 mg:Str->Option Value
 base:Heap
 A:AM
 N:List Str
 s₀:Ac
 H₀:Hp
 env:Env
 outer:List Env
 stack:List Env
 ex:List Addr
 fn:Str->Bool
 calm:Bool
 pn:List (Addr×Obj)
 xe:Value->Ac->Prop
noncomputable def frs(l:List Env):List Addr:=l.filterMap (·.frame)
noncomputable abbrev Cx.fs(X:Cx):List Addr:=frs X.outer
noncomputable def Vis(sc:Scope)(x:Str):Prop:=sc.names.lookup x=some .local∨sc.names.lookup x=some .cell∨sc.names.lookup x=some .free
noncomputable def Loc(sc:Scope)(x:Str):Prop:=sc.names.lookup x=some .local∨sc.names.lookup x=some .cell
noncomputable def Look(env:Env)(h:Heap)(m:Str->Option Value)(x:Str)(u:Value):Prop :=
 (env.kindOf x=some .local/\m x=some u)∨((env.kindOf x=some .cell∨env.kindOf x=some .free)/\∃c,env.cells.lookup x=some c/\h.IsCell c (some u))
structure Cx.Ok (X:Cx):Prop where
 mod:Mod X.K X.mg X.base
 kind:X.env.scope.kind=.function
 glob:X.env.globals=Az
 blt:X.env.builtins=builtinsNs
 above:X.s₀.heap.objs.size<=X.env.locals
 inj:∀x y c,X.env.cells.lookup x=some c->X.env.cells.lookup y=some c->x=y
 has:∀x,(X.env.kindOf x=some .cell∨X.env.kindOf x=some .free)->∃c,X.env.cells.lookup x=some c
 cab:∀x c,X.fn x=true->X.env.cells.lookup x=some c->X.s₀.heap.objs.size<=c
 hd:X.calm=true->X.A.handled=none
 frames:X.A.frames=some X.stack
 stk:X.stack=X.outer∨(X.stack=X.env::X.outer/\X.env.frame=some X.env.locals)
 exf:∀b∈X.ex,b≠X.env.locals/\∀x c,X.env.cells.lookup x=some c->c≠b
 bs:∀b o,X.base.get? b=some o->X.s₀.heap.get? b=some o/\X.H₀ b=none
 bsz:X.base.objs.size<=X.s₀.heap.objs.size
 noex:∀b o,X.base.get? b=some o->b ∉ X.ex
 exfs:∀b∈X.ex,b ∉ X.fs
 funs:X.s₀.heap.FunFrames X.base X.outer
 frf:∀b∈X.fs,X.H₀ b=none
structure Inv (X:Cx) (pins:List (Addr×Obj)) (σ:List (Option V)) (H:Hp) (s:Ac):Prop where
 ok:X.Ok
 os:s.os=X.s₀.os
 bare:AllBare s.gens
 base:Un X.fs X.ex X.H₀ H X.s₀.heap s.heap
 loc:∃m,s.heap.Ns X.env.locals m/\∀(i:Nat) (x:Str) (v:V),X.N[i]?=some x->σ[i]?=some (some v)->Vis X.env.scope x->∃u,RelV v u/\Look X.env s.heap m x u
 cell:∀x c,X.env.cells.lookup x=some c->∃v,s.heap.IsCell c v
 free:H X.env.locals=none
 freeC:∀x c,X.env.cells.lookup x=some c->H c=none
 pin:∀p∈X.pn++pins,s.heap.get? p.1=some p.2/\H p.1=none/\p.1≠X.env.locals/\p.1 ∉ X.fs/\∀v,p.2.data≠.cell v
 hok:HOk X.prog X.w H s.heap
 len:σ.length=X.N.length
section
variable {X:Cx}{pins:List (Addr×Obj)}{σ:List (Option V)}{H H':Hp}{s:Ac}{h':Heap}
theorem Cx.Ok.nofr(ok:X.Ok){b:Addr}{o:Obj}(e:X.base.get? b=some o):b ∉ X.fs:=λhb=>by have:=(ok.funs.mem hb).1;rw[e]at this;cases this
theorem Inv.bs(I:Inv X pins σ H s):∀b o,X.base.get? b=some o->s.heap.get? b=some o/\H b=none:=λb o e =>
 ⟨I.base.keep b o (I.ok.bs b o e).1 (I.ok.bs b o e).2 (I.ok.nofr e) (I.ok.noex b o e),I.base.free b o (I.ok.bs b o e).1 (I.ok.bs b o e).2 (I.ok.noex b o e)⟩
theorem Inv.bk(I:Inv X pins σ H s):∀b o,X.base.get? b=some o->s.heap.get? b=some o:=λb o e=>(I.bs b o e).1
theorem Inv.mod(I:Inv X pins σ H s):Mod X.K X.mg X.base:=I.ok.mod
theorem Inv.kIn(I:Inv X pins σ H s):X.K.In s.heap:=I.ok.mod.kin.keeps I.bk
theorem Inv.lt(I:Inv X pins σ H s):X.env.locals<s.heap.objs.size:=let ⟨_,hn,_⟩:=I.loc;hn.lt
theorem Inv.sz(I:Inv X pins σ H s):X.s₀.heap.objs.size<=s.heap.objs.size:=A3 I.ok.above (B6 I.lt)
theorem Inv.nofs(I:Inv X pins σ H s){a:Addr}(h:s.heap.objs.size<=a):a ∉ X.fs:=λhb=>by obtain⟨_,o,ho,_⟩:=I.ok.funs.mem hb;exact absurd (A7 (Ay ho) (A3 I.sz h)) (Cm _)
theorem Inv.cne(I:Inv X pins σ H s):∀x c,X.env.cells.lookup x=some c->c≠X.env.locals:=λx c e z=>by obtain⟨v,o,ho,hd⟩:=I.cell x c e;obtain⟨m,⟨o',es,ep,ho',hd',_⟩,_⟩:=I.loc;rw[z,ho']at ho;cases ho;rw[hd']at hd;cases hd
theorem Inv.funs(I:Inv X pins σ H s):s.heap.FunFrames X.base X.outer:=by
 have all:∀(l:List Env),(∀b∈frs l,b∈X.fs)->X.s₀.heap.FunFrames X.base l->s.heap.FunFrames X.base l:=by
  intro l
  induction l with
  |nil=>intro _ _;trivial
  |cons env r ih =>
   intro hs hl;obtain⟨hk,⟨L,o,hf,hn,ho,hd⟩,hr⟩:=hl;have hL:L∈X.fs:=hs L (by unfold frs;rw[List.filterMap_cons,hf];exact Ax);obtain⟨sl,e⟩:=I.base.slot L o ho (I.ok.frf L hL) hL λz=>I.ok.exfs L z hL
   exact⟨hk,⟨L,_,hf,hn,e,hd⟩,ih (λb hb=>hs b (by unfold frs;rw[List.filterMap_cons,hf];exact Aq _ hb)) hr⟩
 exact all X.outer (λ_ hb=>hb) I.ok.funs
theorem Inv.stack(I:Inv X pins σ H s):s.heap.FunFrames X.base X.stack:=by
 rcases I.ok.stk with e |⟨e,hf⟩
 .rw[e];exact I.funs
 .rw[e];obtain⟨m,hn,_⟩:=I.loc;refine .cons (by rw[I.ok.kind];decide) hf hn ?_ I.funs;exact Heap.get?_none_of_le (A3 I.ok.bsz I.ok.above)
theorem Inv.stkSub(I:Inv X pins σ H s):∀b∈frs X.stack,b∈X.env.locals::X.fs:=λb hb=>by
 rcases I.ok.stk with e |⟨e,hf⟩
 .rw[e]at hb;exact Aq _ hb
 .rw[e]at hb;unfold frs at hb;rw[List.filterMap_cons,hf]at hb;exact hb
theorem Inv.stkFree(I:Inv X pins σ H s):∀b∈frs X.stack,H b=none:=λb hb=>by
 rcases AG.mp (I.stkSub b hb) with e |hb
 .rw[e];exact I.free
 .obtain⟨_,o,ho,_⟩:=I.ok.funs.mem hb;exact I.base.free b o ho (I.ok.frf b hb) λz=>I.ok.exfs b z hb
theorem Inv.step{g':Array GenState}{t':Nat}{d':Drawn}{ch:List Addr}(I:Inv X pins σ H s)
  (hch:∀b∈ch,(b∈X.ex∨X.s₀.heap.objs.size<=b)/\b≠X.env.locals/\(∀x c,X.env.cells.lookup x=some c->c≠b)/\∀p∈X.pn++pins,p.1≠b)
  (keep:∀b o,b≠X.env.locals->b ∉ X.fs->b ∉ ch->s.heap.get? b=some o->H b=none->h'.get? b=some o)
  (slot:∀b o,b≠X.env.locals->b∈X.fs->b ∉ ch->s.heap.get? b=some o->H b=none->∃sl,h'.get? b=some { o with slots:=sl }) (free:∀b o,b ∉ ch->s.heap.get? b=some o->H b=none->H' b=none)
  (there:∀b o,b ∉ ch->s.heap.get? b=some o->∃o',h'.get? b=some o')
  (tups:∀b xs,H b=some (.tup xs)->H' b=some (.tup xs)) (frzs:∀b o u,H b=some (.frz o u)->H' b=some (.frz o u)) (tbls:∀b ps,H b=some (.tbl ps)->∃more,H' b=some (.tbl (ps++more)))
  (ns:∀m,s.heap.Ns X.env.locals m->h'.Ns X.env.locals m) (hok:HOk X.prog X.w H' h') (hg:AllBare g') :
  Inv X pins σ H' { s with heap:=h',gens:=g',drawn:=d',toks:=t' }:=by
 have neL:∀b o,X.s₀.heap.get? b=some o->b≠X.env.locals:=λb o e=>A8 (A7 (Ay e) I.ok.above)
 have neC:∀b o,X.s₀.heap.get? b=some o->b ∉ X.ex->b ∉ ch:=λb o e hx hb=>by
  rcases (hch b hb).1 with z |z
  .exact hx z
  .exact absurd (A7 (Ay e) z) (Cm _)
 have cellK:∀x c,X.env.cells.lookup x=some c->∀v,s.heap.IsCell c v->h'.IsCell c v:=λx c e v ⟨o,ho,hd⟩=>by
  have nch:c ∉ ch:=λz=>(hch c z).2.2.1 x c e rfl
  by_cases hc:c∈X.fs
  .obtain⟨sl,q⟩:=slot c o (I.cne x c e) hc nch ho (I.freeC x c e);exact⟨_,q,hd⟩
  .exact⟨o,keep c o (I.cne x c e) hc nch ho (I.freeC x c e),hd⟩
 refine⟨I.ok,I.os,hg,⟨λb o e n hb hx=>?_,λb o e n hb hx=>?_,λb o e n hx=>?_,λb o e hx=>?_,λb xs e=>tups b xs (I.base.tups b xs e),λb o xs e=>frzs b o xs (I.base.frzs b o xs e),λb ps e=>?_⟩,?_,λx c e=>?_,?_,λx c e=>?_,λp hp=>?_,hok,I.len⟩
 .exact keep b o (neL b o e) hb (neC b o e hx) (I.base.keep b o e n hb hx) (I.base.free b o e n hx)
 .obtain⟨sl,e1⟩:=I.base.slot b o e n hb hx;obtain⟨sl',e2⟩:=slot b _ (neL b o e) hb (neC b o e hx) e1 (I.base.free b o e n hx);exact⟨sl',e2⟩
 .obtain⟨o',e1⟩:=I.base.there b o e hx;exact free b o' (neC b o e hx) e1 (I.base.free b o e n hx)
 .obtain⟨o',e1⟩:=I.base.there b o e hx;exact there b o' (neC b o e hx) e1
 .obtain⟨m1,e1⟩:=I.base.tbls b ps e;obtain⟨m2,e2⟩:=tbls b _ e1;exact⟨m1++m2,by rw[e2,Array.append_assoc]⟩
 .obtain⟨m,hn,hl⟩:=I.loc;refine⟨m,ns m hn,λi x v e1 e2 e3=>?_⟩;obtain⟨u,r,l⟩:=hl i x v e1 e2 e3;refine⟨u,r,?_⟩;rcases l with l |⟨k,c,e,z⟩
  .exact .inl l
  .exact .inr ⟨k,c,e,cellK x c e _ z⟩
 .obtain⟨v,z⟩:=I.cell x c e;exact⟨v,cellK x c e v z⟩
 .obtain⟨m,⟨o,_,_,ho,_⟩,_⟩:=I.loc;exact free _ o (λz=>(hch _ z).2.1 rfl) ho I.free
 .obtain⟨v,o,ho,hd⟩:=I.cell x c e;exact free c o (λz=>(hch c z).2.2.1 x c e rfl) ho (I.freeC x c e)
 .obtain⟨e,n,ne,nf,d⟩:=I.pin p hp;have nch:p.1 ∉ ch:=λz=>(hch p.1 z).2.2.2 p hp rfl
  exact⟨keep p.1 p.2 ne nf nch e n,free p.1 p.2 nch e n,ne,nf,d⟩
theorem Inv.un{t':Nat}(I:Inv X pins σ H s)(u:Un X.fs [] H H' s.heap h')(hok:HOk X.prog X.w H' h'):Inv X pins σ H' { s with heap:=h',toks:=t' }:=by
 obtain⟨m,⟨o,es,ep,ho,r⟩,_⟩:=id I.loc;obtain⟨sl,hL⟩:=u.any ho I.free (by simp)
 exact I.step (g':=s.gens) (d':=s.drawn) (ch:=[]) (λ_ z=>nomatch z) (λb o _ hb _ e n=>u.keep b o e n hb (by simp)) (λb o _ hb _ e n=>u.slot b o e n hb (by simp)) (λb o _ e n=>u.free b o e n (by simp)) (λb o _ e=>u.there b o e (by simp)) u.tups u.frzs u.tbls (λm' hm=>by obtain⟨o',es',ep',ho',r'⟩:=hm;rw[ho]at ho';cases ho';exact⟨_,es',ep',hL,r'⟩) hok I.bare
theorem Inv.call{g':Array GenState}{t':Nat}{d':Drawn}{ch:List Addr}(I:Inv X pins σ H s)(u:Un (frs X.stack) ch H H' s.heap h')(hok:HOk X.prog X.w H' h')(hg:AllBare g')
  (hch:∀b∈ch,(b∈X.ex∨X.s₀.heap.objs.size<=b)/\b≠X.env.locals/\(∀x c,X.env.cells.lookup x=some c->c≠b)/\∀p∈X.pn++pins,p.1≠b) :
  Inv X pins σ H' { s with heap:=h',gens:=g',drawn:=d',toks:=t' }:=by
 obtain⟨m,⟨o,es,ep,ho,r⟩,_⟩:=id I.loc;obtain⟨sl,hL⟩:=u.any ho I.free λz=>(hch _ z).2.1 rfl
 exact I.step (ch:=ch) hch (λb o hL hb hc e n=>u.keep b o e n (λz=>(AG.mp (I.stkSub b z)).elim hL hb) hc) (λb o _ _ hc e n=>u.any e n hc) (λb o hc e n=>u.free b o e n hc) (λb o hc e=>u.there b o e hc) u.tups u.frzs u.tbls (λm' hm=>by obtain⟨o',es',ep',ho',r'⟩:=hm;rw[ho]at ho';cases ho';exact⟨_,es',ep',hL,r'⟩) hok hg
theorem Inv.turned{t':Nat}{it:Addr}(I:Inv X pins σ H s)(k:∀b o, b ≠ it -> s.heap.get? b=some o -> h'.get? b=some o)(hn:H it=none)(hL:it ≠ X.env.locals)
  (h1:it∈X.ex∨X.s₀.heap.objs.size<=it) (h2:∀x c,X.env.cells.lookup x=some c->c≠it) (h3:∀p∈X.pn++pins,p.1≠it):Inv X pins σ H { s with heap:=h',toks:=t' }:=by
 have nit:∀b u,H b=some u->b≠it:=λb u e z=>by rw[z,hn]at e;cases e
 refine I.step (g':=s.gens) (d':=s.drawn) (ch:=[it]) (λb hb=>?_) (λb o _ _ hc e _=>k b o (λz=>hc (by simp[z])) e) (λb o _ _ hc e _=>⟨o.slots,k b o (λz=>hc (by simp[z])) e⟩) (λ_ _ _ _ n=>n)
  (λb o hc e=>⟨o,k b o (λz=>hc (by simp[z])) e⟩) (λ_ _ e=>e) (λ_ _ _ e=>e) (λb ps e=>⟨#[],by rw[e];simp⟩) (λm hm=>?_) (λb u e=>?_) I.bare
 .have e:b=it:=by simpa using hb
  subst e;exact⟨h1,hL,h2,h3⟩
 .obtain⟨o,es,ep,ho,r⟩:=hm;exact⟨o,es,ep,k _ o (BG hL) ho,r⟩
 .refine (I.hok b u e).stay (λc v hc q=>k c v ?_ q) (λ_ q=>q) λ_ _ q=>q
  rcases hc with z |z
  .rw[z];exact nit b u e
  .exact nit c _ z
theorem Inv.tok(I:Inv X pins σ H s)(t:Nat):Inv X pins σ H { s with toks:=t }:=I.un (h':=s.heap) (t':=t) Un.refl I.hok
theorem Inv.kept{t':Nat}(I:Inv X pins σ H s)(k:∀b u,s.heap.get? b=some u->h'.get? b=some u):Inv X pins σ H { s with heap:=h',toks:=t' }:=I.un (Un.kept k) (I.hok.kept k)
theorem Inv.laid{a:Addr}{o:HO}{t':Nat}(I:Inv X pins σ H s)(k:∀b u, s.heap.get? b=some u -> h'.get? b=some u)(hp:s.heap.objs.size <= a)(new:ObjOk X.prog X.w (upd H a o) h' a o) :
  Inv X pins σ (upd H a o) { s with heap:=h',toks:=t' }:=I.un (Un.laid k hp (I.hok.fresh hp)) (I.hok.laid k hp new)
theorem Inv.write{x e:Addr}{o:HO}{t':Nat}(I:Inv X pins σ H s)(mu:Mut (H x))(he:e=x ∨ H e=some (.own x))(k:∀b u, b ≠ e -> s.heap.get? b=some u -> h'.get? b=some u)(heo:∃u, h'.get? e=some u)
  (new:ObjOk X.prog X.w (upd H x o) h' x o):Inv X pins σ (upd H x o) { s with heap:=h',toks:=t' }:=I.un (Un.write mu he k heo) (I.hok.write mu he k heo new)
theorem Inv.pins_of{pins':List (Addr×Obj)}(I:Inv X pins σ H s)(h:∀p∈pins',s.heap.get? p.1=some p.2/\H p.1=none/\p.1≠X.env.locals/\p.1 ∉ X.fs/\∀v,p.2.data≠.cell v):Inv X pins' σ H s :=
 ⟨I.ok,I.os,I.bare,I.base,I.loc,I.cell,I.free,I.freeC,λp hp=>(AQ.mp hp).elim (λz=>I.pin p (B4 _ z)) (h p),I.hok,I.len⟩
theorem zfL{N:List Str}(hN:N.Nodup){i j:Nat}{x:Str}(a:N[i]?=some x)(b:N[j]?=some x):i=j:=by obtain⟨h1,e1⟩:=Ad.mp a;obtain⟨h2,e2⟩:=Ad.mp b;exact (List.getElem_inj hN).mp (e1.trans e2.symm)
theorem zdg{M:DM}{A:AM}{E:Value -> Ac -> Prop}{i:Nat}{x:Str}{v:V}{u:Value}{Q:Unit -> Ac -> Prop}(I:Inv X pins σ H s)(hN:X.N.Nodup)(hi:X.N[i]? = some x)(hx:Loc X.env.scope x)(r:RelV v u)
  (h:∀s',Inv X pins (σ.set i (some v)) H s'->(∃a,Cn a s.heap s'.heap/\(a=X.env.locals∨X.env.cells.lookup x=some a))->Q () s') (hf:X.fn x=true∨X.env.scope.names.lookup x=some .local:=by first |exact .inl rfl |exact .inr rfl |assumption):Ao M A (storeName X.env x u) Q E s:=by
 obtain⟨m,hn,hl⟩:=id I.loc;have hcls:(X.env.scope.kind == .class || (X.env.scope.kind == .module && X.env.locals != X.env.globals))=false:=by rw[I.ok.kind];rfl
 have hiσ:i<σ.length:=by rw[I.len];exact (Ad.mp hi).1
 have cne:=I.cne
 have tracked:∀{a:Addr} {h':Heap},(∃o,s.heap.get? a=some o/\H a=none)->Cn a s.heap h'->HOk X.prog X.w H h':=λ{a h'} ha hs b ob e=>by
  obtain⟨_,_,hfree⟩:=ha;refine (I.hok b ob e).stay (λc w' hc q=>(hs.2 c ?_).trans q) (λ_ q=>q) λ_ _ q=>q
  rintro rfl;rcases hc with rfl |hc
  .rw[hfree]at e;cases e
  .rw[hfree]at hc;cases hc
 rcases hx with hk |hk
 .refine wpAny_storeName_local hk hn (λh' hn' hs=>?_) hcls;obtain⟨oL,_,_,hoL,_⟩:=id hn;refine h _ ⟨I.ok,I.os,I.bare,⟨λb o e n hb hx=>?_,λb o e n hb hx=>?_,I.base.free,λb o e hx=>?_,I.base.tups,I.base.frzs,I.base.tbls⟩,⟨_,hn',λj y v' e1 e2 e3=>?_⟩,λy c e=>?_,I.free,I.freeC,λp hp=>?_,tracked ⟨oL,hoL,I.free⟩ hs,by simpa using I.len⟩ ⟨_,hs,.inl rfl⟩
  .exact (hs.2 b (A8 (A7 (Ay e) I.ok.above))).trans (I.base.keep b o e n hb hx)
  .obtain⟨sl,e1⟩:=I.base.slot b o e n hb hx;exact⟨sl,(hs.2 b (A8 (A7 (Ay e) I.ok.above))).trans e1⟩
  .obtain⟨o',e1⟩:=I.base.there b o e hx;exact⟨o',(hs.2 b (A8 (A7 (Ay e) I.ok.above))).trans e1⟩
  .by_cases hj:j=i
   .subst hj;rw[hi]at e1;cases e1;rw[List.getElem?_set_self hiσ]at e2
    cases e2
    exact⟨u,r,.inl ⟨hk,by simp⟩⟩
   .rw[List.getElem?_set_ne (BG hj)]at e2;obtain⟨u',r',q⟩:=hl j y v' e1 e2 e3;refine⟨u',r',?_⟩;rcases q with⟨k,e⟩ |⟨k,c,e,z⟩
    .refine .inl ⟨k,?_⟩;have:y≠x:=λe=>hj (zfL hN e1 (e ▸ hi))
     simp[this,e]
    .exact .inr ⟨k,c,e,z.sameBut hs (cne y c e)⟩
  .obtain⟨w',z⟩:=I.cell y c e;exact⟨w',z.sameBut hs (cne y c e)⟩
  .obtain⟨e,n,ne,nf,d⟩:=I.pin p hp;exact⟨(hs.2 p.1 ne).trans e,n,ne,nf,d⟩
 .have hfn:X.fn x=true := by
   rcases hf with z |z
   .exact z
   .rw[z]at hk;cases hk
  obtain⟨c,hc⟩:=I.ok.has x (.inl hk);obtain⟨w',z⟩:=I.cell x c hc;refine wpAny_storeName_cell I.ok.kind hk hc z (λh' hc' hs=>?_);obtain⟨oc,hoc,hocd⟩:=id z;refine h { s with heap:=h' } ⟨I.ok,I.os,I.bare,⟨λb o e n hb hx=>?_,λb o e n hb hx=>?_,I.base.free,λb o e hx=>?_,I.base.tups,I.base.frzs,I.base.tbls⟩,⟨m,hn.sameBut hs (BG (cne x c hc)),λj y v' e1 e2 e3=>?_⟩,λy c' e=>?_,I.free,I.freeC,λp hp=>?_,tracked ⟨oc,hoc,I.freeC x c hc⟩ hs,by simpa using I.len⟩ ⟨c,hs,.inr hc⟩
  .exact (hs.2 b (A8 (A7 (Ay e) (I.ok.cab x c hfn hc)))).trans (I.base.keep b o e n hb hx)
  .obtain⟨sl,e1⟩:=I.base.slot b o e n hb hx;exact⟨sl,(hs.2 b (A8 (A7 (Ay e) (I.ok.cab x c hfn hc)))).trans e1⟩
  .obtain⟨o',e1⟩:=I.base.there b o e hx;exact⟨o',(hs.2 b (A8 (A7 (Ay e) (I.ok.cab x c hfn hc)))).trans e1⟩
  .by_cases hj:j=i
   .subst hj;rw[hi]at e1;cases e1;rw[List.getElem?_set_self hiσ]at e2
    cases e2
    exact⟨u,r,.inr ⟨.inl hk,c,hc,hc'⟩⟩
   .rw[List.getElem?_set_ne (BG hj)]at e2;obtain⟨u',r',q⟩:=hl j y v' e1 e2 e3;refine⟨u',r',?_⟩;rcases q with q |⟨k,c',e,z'⟩
    .exact .inl q
    .refine .inr ⟨k,c',e,z'.sameBut hs ?_⟩;rintro rfl;exact hj (zfL hN e1 (I.ok.inj _ _ _ e hc ▸ hi))
  .by_cases hcc:c'=c
   .subst hcc;exact⟨_,hc'⟩
   .obtain⟨w2,z2⟩:=I.cell y c' e;exact⟨w2,z2.sameBut hs hcc⟩
  .obtain⟨e,n,ne,nf,d⟩:=I.pin p hp;refine⟨(hs.2 p.1 ?_).trans e,n,ne,nf,d⟩;intro q;rw[q,hoc]at e;have q':oc=p.2:=AT e;exact d w' (by rw[<- q'];exact hocd)
theorem zdX{M:DM}{A:AM}{E:Value -> Ac -> Prop}{i:Nat}{x:Str}{v:V}{u:Value}{Q:Unit -> Ac -> Prop}(I:Inv X pins σ H s)(hN:X.N.Nodup)(hi:X.N[i]? = some x)(hx:Loc X.env.scope x)(r:RelV v u)
  (h:∀s',Inv X pins (σ.set i (some v)) H s'->Q () s') (hf:X.fn x=true∨X.env.scope.names.lookup x=some .local:=by first |exact .inl rfl |exact .inr rfl |assumption):Ao M A (storeName X.env x u) Q E s :=
 zdg I hN hi hx r (λs' I' _=>h s' I') hf
theorem Inv.call'{s':Ac}{ch:List Addr}(I:Inv X pins σ H s)(ho:s'.os=s.os)(u:Un (frs X.stack) ch H H' s.heap s'.heap)(hok:HOk X.prog X.w H' s'.heap)(hg:AllBare s'.gens)
  (hch:∀b∈ch,(b∈X.ex∨X.s₀.heap.objs.size<=b)/\b≠X.env.locals/\(∀x c,X.env.cells.lookup x=some c->c≠b)/\∀p∈X.pn++pins,p.1≠b):Inv X pins σ H' s':=by
 obtain⟨h',g',d',t',o'⟩:=s';have e:o'=s.os:=ho;subst e;exact I.call (g':=g') (t':=t') (d':=d') u hok hg hch
end
noncomputable abbrev XK:=Value->Option Addr->Hp->Prop
noncomputable abbrev St:=List (Option V)
noncomputable abbrev VK:=V->Hp->Prop
noncomputable abbrev TE:=St->Hp->VK->Prop
noncomputable abbrev TT:=St->Hp->(Bool->Hp->Prop)->Prop
noncomputable abbrev TA:=St->Hp->(List V->Hp->Prop)->Prop
structure Ends where
 nx:St->Hp->Prop
 rt:VK
 bk:St->Hp->Prop:=λ_ _=>False
 ct:St->Hp->Prop:=λ_ _=>False
noncomputable abbrev TS:=Ends->St->Hp->Prop
noncomputable def EP(X:Cx)(pins:List (Addr×Obj))(σ:St)(Q:VK)(u:Value)(s':Ac):Prop:=∃v H',Inv X pins σ H' s'/\RelV v u/\Q v H'
noncomputable def TP(X:Cx)(pins:List (Addr×Obj))(σ:St)(Q:Bool->Hp->Prop)(b:Bool)(s':Ac):Prop:=∃H',Inv X pins σ H' s'/\Q b H'
noncomputable def AP(X:Cx)(pins:List (Addr×Obj))(σ:St)(Q:List V->Hp->Prop)(us:List Value)(s':Ac):Prop:=∃vs H',Inv X pins σ H' s'/\Vals vs us/\Q vs H'
noncomputable def SP(X:Cx)(pins:List (Addr×Obj))(D:Ends)(f:Flow)(s':Ac):Prop :=
 match f with
 |.next=>∃ σ' H',Inv X pins σ' H' s'/\D.nx σ' H'
 |.brk=>∃ σ' H',Inv X pins σ' H' s'/\D.bk σ' H'
 |.cont=>∃ σ' H',Inv X pins σ' H' s'/\D.ct σ' H'
 |.ret u=>∃v σ' H',Inv X pins σ' H' s'/\RelV v u/\D.rt v H'
noncomputable def PE(X:Cx)(e:Expr)(t:TE):Prop :=
 ∀(pins:List (Addr×Obj)) (s:Ac) (σ:St) (H:Hp) (Q:VK),Inv X pins σ H s->t σ H Q->Ao (Au X.prog X.w) X.A (eval e X.env) (EP X pins σ Q) X.xe s
noncomputable def PT(X:Cx)(e:Expr)(t:TT):Prop :=
 ∀(pins:List (Addr×Obj)) (s:Ac) (σ:St) (H:Hp) (Q:Bool->Hp->Prop),Inv X pins σ H s->t σ H Q->Ao (Au X.prog X.w) X.A (isTrue e X.env (eval e X.env)) (TP X pins σ Q) X.xe s
noncomputable def PW(X:Cx)(e:Expr)(t:TT):Prop :=
 ∀(whole:Sem Value) (pins:List (Addr×Obj)) (s:Ac) (σ:St) (H:Hp) (Q:Bool->Hp->Prop),Inv X pins σ H s->t σ H Q->Ao (Au X.prog X.w) X.A (isTrue e X.env whole) (TP X pins σ Q) X.xe s
theorem PW.pt{X:Cx}{e:Expr}{t:TT}(h:PW X e t):PT X e t:=h _
noncomputable def PA(X:Cx)(es:List Expr)(t:TA):Prop :=
 ∀(pos:Pos) (pins:List (Addr×Obj)) (s:Ac) (σ:St) (H:Hp) (Q:List V->Hp->Prop),Inv X pins σ H s->t σ H Q->Ao (Au X.prog X.w) X.A (spliced (backTo pos (Bl es X.env))) (AP X pins σ Q) X.xe s
noncomputable def PS(X:Cx)(st:Stmt)(t:TS):Prop :=
 ∀(pins:List (Addr×Obj)) (s:Ac) (σ:St) (H:Hp) (D:Ends),Inv X pins σ H s->t D σ H->Ao (Au X.prog X.w) X.A (exec st X.env) (SP X pins D) X.xe s
noncomputable def PSs(X:Cx)(st:List Stmt)(t:TS):Prop :=
 ∀(pins:List (Addr×Obj)) (s:Ac) (σ:St) (H:Hp) (D:Ends),Inv X pins σ H s->t D σ H->Ao (Au X.prog X.w) X.A (execs st X.env) (SP X pins D) X.xe s
theorem thn{α:Type}{t:Sem α}{Q Q':α->Ac->Prop}{M:DM}{A:AM}{E:Value->Ac->Prop}{s:Ac}(h:Ao M A t Q E s)(hQ:∀a s,Q a s->Q' a s):Ao M A t Q' E s:=BF h hQ λ_ _ x=>x
section
variable {X:Cx}
noncomputable def tVar(i:Nat):TE:=λσ H Q=>∃v,σ[i]?=some (some v)/\Q v H
noncomputable def tC(v:V):TE:=λ_ H Q=>Q v H
theorem znd {i:Nat}{x:Str}{pos:Pos}(hN:X.N[i]?=some x) (hv:Vis X.env.scope x) (hd:(x == ("__debug__" : Str))=false:=by decide) (hcd:(x == ("__classdict__" : Str))=false:=by decide):PE X (.Name x pos) (tVar i):=by
 intro pins s σ H Q I h;obtain⟨v,e,h⟩:=h;obtain⟨m,hn,hl⟩:=I.loc;obtain⟨u,r,l⟩:=hl i x v hN e hv;have fin:EP X pins σ Q u s:=⟨v,H,I,r,h⟩;rcases l with⟨hk,hm⟩ |⟨hk,c,hc,hcell⟩
 .exact wpAny_Name (wpAny_loadName_local I.ok.kind hk hn hm fin) hd
 .rcases hk with hk |hk
  .exact wpAny_Name (wpAny_loadName_cell I.ok.kind hk hc hcell fin) hd
  .exact wpAny_Name (wpAny_loadName_free I.ok.kind hk hc hcell fin hcd) hd
theorem zaf{i j pos}:PE X (.Constant (.int i) j pos) (tC (.int i)):=λ_ _ _ H _ I h=>wpAny_Constant_int ⟨.int i,H,I.tok _,⟨_,rfl⟩,h⟩
theorem pe_bl{b j pos}:PE X (.Constant (.bool b) j pos) (tC (.bl b)):=λ_ _ _ H _ I h=>Constant_bool ⟨.bl b,H,I,rfl,h⟩
theorem zbp{j pos}:PE X (.Constant .none j pos) (tC .non):=λ_ _ _ H _ I h=>Constant_none ⟨.non,H,I,rfl,h⟩
theorem zbu{x j pos}:PE X (.Constant (.str x) j pos) (tC (.str x)):=λ_ _ _ H _ I h=>Calls.Constant_str ⟨.str x,H,I.tok _,⟨_,rfl⟩,h⟩
noncomputable def Gl(X:Cx)(x:Str):Prop:=X.env.kindOf x=some .globalImplicit
theorem zfU{E:Value -> Ac -> Prop}{pins:List (Addr × Obj)}{s:Ac}{σ : St}{H:Hp}{x:Str}{u:Value}{pos:Pos}{Q:Value -> Ac -> Prop}(I:Inv X pins σ H s)(hg:Gl X x)(hm:X.mg x=some u)(h:Q u s)
  (hd:(x == ("__debug__" : Str))=false:=by decide):Ao (Au X.prog X.w) X.A (eval (.Name x pos) X.env) Q E s :=
 Calls.Name_function_global I.ok.kind hg (Calls.loadGlobal_global (by rw[I.ok.glob];exact I.mod.glob.keeps I.bk) hm h) hd
theorem zer{E:Value -> Ac -> Prop}{pins:List (Addr × Obj)}{s:Ac}{σ : St}{H:Hp}{x:Str}{u:Value}{pos:Pos}{Q:Value -> Ac -> Prop}(I:Inv X pins σ H s)(hg:Gl X x)(hm:X.mg x=none)(hv:bootBuiltins x=some u)(h:Q u s)
  (hn:x ≠ "__name__":=by decide) (hd:(x == ("__debug__" : Str))=false:=by decide):Ao (Au X.prog X.w) X.A (eval (.Name x pos) X.env) Q E s:=by
 obtain⟨mb,h1,h2⟩:=I.mod.blt;exact Calls.Name_function_global I.ok.kind hg (Calls.loadGlobal_builtin (by rw[I.ok.glob];exact I.mod.glob.keeps I.bk) hm (by rw[I.ok.blt];exact h1.keeps I.bk) ((h2 x hn).trans hv) h) hd
theorem zby {x:Str}{v:V}{u:Value}{pos:Pos}(hg:Gl X x) (hm:X.mg x=some u) (r:RelV v u) (hd:(x == ("__debug__" : Str))=false:=by decide):PE X (.Name x pos) (tC v) :=
 λ_ _ _ H _ I h=>zfU I hg hm ⟨v,H,I,r,h⟩ hd
theorem zc8 {x:Str}{v:V}{u:Value}{pos:Pos}(hg:Gl X x) (hm:X.mg x=none) (hv:bootBuiltins x=some u) (r:RelV v u) (hn:x ≠ "__name__":=by decide) (hd:(x == ("__debug__" : Str))=false:=by decide):PE X (.Name x pos) (tC v) :=
 λ_ _ _ H _ I h=>zer I hg hm hv ⟨v,H,I,r,h⟩ hn hd
variable {a b:Expr}{ta tb:TE}{pos:Pos}
noncomputable def PC(X:Cx)(op:CmpOp)(a b:Expr)(t:TE):Prop :=
 ∀(pins:List (Addr×Obj)) (s:Ac) (σ:St) (H:Hp) (Q:VK),Inv X pins σ H s->t σ H Q ->
  Ao (Au X.prog X.w) X.A (eval a X.env) (λv s₁=>Ao (Au X.prog X.w) X.A (eval b X.env) (λu s₂=>Ao (Au X.prog X.w) X.A (Bw op v u) (EP X pins σ Q) X.xe s₂) X.xe s₁) X.xe s
noncomputable def tB(t:TE):TT:=λσ H Q=>t σ H λx H1=>∃c,x=.bl c/\Q c H1
theorem zh8{op:CmpOp}{t:TE}(h:PC X op a b t)(h1:behindInMarks op b=false:=by first |exact nobehind _ (by decide) (by decide) |rfl):PT X (.Compare a [op] [b] pos) (tB t):=by
 intro pins s σ H Q I hw;refine wpAny_isTrue_Compare1 (thn (h pins s σ H _ I hw) λv s1 h1=>thn h1 λu s2 h2=>thn h2 λc s3 ⟨x,H1,I1,r1,q1⟩=>?_) h1;obtain⟨d,rfl,q⟩:=q1
 cases r1
 exact BX ⟨H1,I1,q⟩
theorem zca{e:Expr}{t:TE}(h:PE X e t)(he:∀whole,isTrue e X.env whole=(do let v <- whole;standAt e.pos;DI [v] (truthy v)):=by intro _;rfl):PT X e (tB t):=by
 intro pins s σ H Q I hw;refine isTrue_plain (thn (h pins s σ H _ I hw) λv s1 ⟨x,H1,I1,r1,q1⟩=>?_) (he _);obtain⟨d,rfl,q⟩:=q1
 cases r1
 exact BX ⟨H1,I1,q⟩
variable {tA tB':TT}{rest:List Expr}
noncomputable def tOr(t u:TT):TT:=λσ H Q=>t σ H λc H1=>if c=true then Q true H1 else u σ H1 Q
noncomputable def tNot(t:TT):TT:=λσ H Q=>t σ H λc H1=>Q (!c) H1
theorem zgB(ha:PT X a tA):PW X (.BoolOp .Or [a] pos) tA:=by
 intro wh pins s σ H Q I h;refine isTrue_or (thn (ha pins s σ H Q I h) λc s1 e=>?_)
 cases c with
 |false=>exact isTrue_or_nil e
 |true=>exact e
theorem pw_or(ha:PT X a tA)(hb:PW X (.BoolOp .Or (b::rest) pos) tB'):PW X (.BoolOp .Or (a::b::rest) pos) (tOr tA tB'):=by
 intro wh pins s σ H Q I h;refine isTrue_or (thn (ha pins s σ H _ I h) λc s1 ⟨H1,I1,q1⟩=>?_)
 cases c with
 |true=>exact⟨H1,I1,q1⟩
 |false=>exact hb wh pins s1 σ H1 Q I1 q1
theorem zej(ha:PT X a tA):PT X (.UnaryOp .Not a pos) (tNot tA):=by intro pins s σ H Q I h;exact isTrue_not (ha pins s σ H (λc H1=>Q (!c) H1) I h)
noncomputable def tAndV(ta tb:TE):TE:=λσ H Q=>ta σ H λx H1=>∃c,x=.bl c/\if c=true then tb σ H1 Q else Q (.bl false) H1
noncomputable def tOrV(ta tb:TE):TE:=λσ H Q=>ta σ H λx H1=>∃c,x=.bl c/\if c=true then Q (.bl true) H1 else tb σ H1 Q
noncomputable def tNotV(ta:TE):TE:=λσ H Q=>ta σ H λx H1=>∃c,x=.bl c/\Q (.bl (!c)) H1
theorem zgF{op}{t:TE}(h:PE X a t):PE X (.BoolOp op [a] pos) t:=λpins s σ H Q I hw=>BoolOp_one (h pins s σ H Q I hw)
theorem zie(ha:PE X a ta)(hb:PE X (.BoolOp .And (b::rest) pos) tb):PE X (.BoolOp .And (a::b::rest) pos) (tAndV ta tb):=by
 intro pins s σ H Q I h;refine BoolOp_and (thn (ha pins s σ H _ I h) λv s1 ⟨x,H1,I1,r1,q1⟩=>?_);obtain⟨c,rfl,q1⟩:=q1
 cases r1
 refine BX ?_
 cases c with
 |true=>exact hb pins s1 σ H1 Q I1 q1
 |false=>exact⟨.bl false,H1,I1,rfl,q1⟩
theorem pe_or(ha:PE X a ta)(hb:PE X (.BoolOp .Or (b::rest) pos) tb):PE X (.BoolOp .Or (a::b::rest) pos) (tOrV ta tb):=by
 intro pins s σ H Q I h;refine BoolOp_or (thn (ha pins s σ H _ I h) λv s1 ⟨x,H1,I1,r1,q1⟩=>?_);obtain⟨c,rfl,q1⟩:=q1
 cases r1
 refine BX ?_
 cases c with
 |false=>exact hb pins s1 σ H1 Q I1 q1
 |true=>exact⟨.bl true,H1,I1,rfl,q1⟩
theorem znf(ha:PE X a ta):PE X (.UnaryOp .Not a pos) (tNotV ta):=by
 intro pins s σ H Q I h;refine UnaryOp_ (thn (ha pins s σ H _ I h) λv s1 ⟨x,H1,I1,r1,q1⟩=>?_);obtain⟨c,rfl,q1⟩:=q1
 cases r1
 exact not_of (BX ⟨.bl (!c),H1,I1,rfl,q1⟩)
noncomputable def tIf(t:TT)(ta tb:TE):TE:=λσ H Q=>t σ H λc H1=>if c=true then ta σ H1 Q else tb σ H1 Q
theorem zdY{c:Expr}(hc:PT X c tA)(ha:PE X a ta)(hb:PE X b tb):PE X (.IfExp c a b pos) (tIf tA ta tb):=by
 intro pins s σ H Q I h;refine wpAny_IfExp (thn (hc pins s σ H _ I h) λd s1 ⟨H1,I1,q1⟩=>?_)
 cases d with
 |true=>exact ha pins s1 σ H1 Q I1 q1
 |false=>exact hb pins s1 σ H1 Q I1 q1
end
noncomputable def SqL(K:W.Frag)(H:Hp)(a:Addr)(xs:List V):Prop :=
 Rd H a (.lst xs) ∨
  ∃(o:Obj) (its:Array Value) (n:Nat),K.lookup a=some o/\o.cls=.type "list" /\ o.dict=none/\o.data=.seq its n/\its.size<=sizeLine/\Vals xs its.toList
noncomputable def SqT(K:W.Frag)(H:Hp)(a:Addr)(xs:List V):Prop :=
 Rd H a (.tup xs) ∨
  ∃(o:Obj) (its:Array Value) (n:Nat),K.lookup a=some o/\o.cls=.type "tuple" /\ o.data=.seq its n/\its.size<=sizeLine/\Vals xs its.toList
noncomputable def absV:Value->Option V
 |.none=>some .non
 |.bool b=>some (.bl b)
 |.int i _=>some (.int i)
 |.str x _=>some (.str x)
 |.bytes b _=>some (.byt b)
 |.float b _=>some (.flt b)
 |.ref a=>some (.ref a)
 |.type n=>some (.ty n)
 |_=>none
theorem RelV.abs{x:V}{u:Value}(r:RelV x u):absV u=some x:=by
 cases x with
 |non=>cases r;rfl
 |bl _=>cases r;rfl
 |int _=>obtain⟨t,rfl⟩:=r;rfl
 |str _=>obtain⟨t,rfl⟩:=r;rfl
 |byt _=>obtain⟨t,rfl⟩:=r;rfl
 |flt _=>obtain⟨t,rfl⟩:=r;rfl
 |ref _=>cases r;rfl
 |ty _=>cases r;rfl
theorem RelV.inj{x y:V}{u:Value}(r:RelV x u)(q:RelV y u):x=y:=AT (r.abs.symm.trans q.abs)
theorem Vals.inj:∀{xs ys:List V}{us:List Value},Vals xs us->Vals ys us->xs=ys
 |_,_,_,.nil,.nil=>rfl
 |_,_,_,.cons r t,.cons r' t'=>by rw[r.inj r',Vals.inj t t']
section
variable {X:Cx}{pins:List (Addr×Obj)}{σ:St}{H:Hp}{s:Ac}{a:Addr}{xs ys:List V}
theorem SqL.of{K:W.Frag}(h:H a=some (.lst xs)):SqL K H a xs:=.inl (.inl h)
theorem SqT.of{K:W.Frag}(h:H a=some (.tup xs)):SqT K H a xs:=.inl (.inl h)
theorem Inv.list(I:Inv X pins σ H s)(h:SqL X.K H a xs):∃its:List Value,Vals xs its/\PlainL s.heap a its.toArray/\xs.length<=sizeLine:=by
 rcases h with h |⟨o,its,n,hk,hc,hd,hs,hz,r⟩
 .obtain⟨z,its,n,r,e⟩:=h.ok I.hok;exact⟨its,r,⟨_,n,e,rfl,rfl,rfl⟩,z⟩
 .refine⟨its.toList,r,⟨o,n,I.kIn a o hk,hc,hd,by simpa using hs⟩,?_⟩;have e:=r.length;simp only[AH]at e;lia
theorem Inv.tuple(I:Inv X pins σ H s)(h:SqT X.K H a xs):∃its:List Value,Vals xs its/\IsTup s.heap a its.toArray/\xs.length<=sizeLine:=by
 rcases h with h |⟨o,its,n,hk,hc,hs,hz,r⟩
 .obtain⟨z,its,r,p⟩:=h.ok I.hok;exact⟨its,r,p,z⟩
 .refine⟨its.toList,r,⟨o,I.kIn a o hk,hc,n,by simpa using hs⟩,?_⟩;have e:=r.length;simp only[AH]at e;lia
theorem Inv.list_inj(I:Inv X pins σ H s)(h:SqL X.K H a xs)(h':SqL X.K H a ys):xs=ys:=by
 obtain⟨its,r,⟨o,n,e,_,_,d⟩,_⟩:=I.list h;obtain⟨its',r',⟨o',n',e',_,_,d'⟩,_⟩:=I.list h';rw[e]at e';cases e';rw[d]at d';injection d' with d1 _;have:its=its':=by simpa using congrArg Array.toList d1
 subst this;exact r.inj r'
theorem Inv.tuple_inj(I:Inv X pins σ H s)(h:SqT X.K H a xs)(h':SqT X.K H a ys):xs=ys:=by
 obtain⟨its,r,⟨o,e,_,n,d⟩,_⟩:=I.tuple h;obtain⟨its',r',⟨o',e',_,n',d'⟩,_⟩:=I.tuple h';rw[e]at e';cases e';rw[d]at d';injection d' with d1 _;have:its=its':=by simpa using congrArg Array.toList d1
 subst this;exact r.inj r'
end
noncomputable abbrev Cx.wish(X:Cx)(E:Value->Ac->Prop):Cx:={ X with xe:=E }
noncomputable abbrev Cx.nox(X:Cx):Cx:=X.wish λ_ _=>False
theorem Cx.Ok.wish{X:Cx}(ok:X.Ok)(E:Value->Ac->Prop):(X.wish E).Ok :=
 ⟨ok.mod,ok.kind,ok.glob,ok.blt,ok.above,ok.inj,ok.has,ok.cab,ok.hd,ok.frames,ok.stk,ok.exf,ok.bs,ok.bsz,ok.noex,ok.exfs,ok.funs,ok.frf⟩
theorem Cx.Ok.unwish{X:Cx}{E:Value->Ac->Prop}(ok:(X.wish E).Ok):X.Ok :=
 ⟨ok.mod,ok.kind,ok.glob,ok.blt,ok.above,ok.inj,ok.has,ok.cab,ok.hd,ok.frames,ok.stk,ok.exf,ok.bs,ok.bsz,ok.noex,ok.exfs,ok.funs,ok.frf⟩
section
variable {X:Cx}{pins:List (Addr×Obj)}{σ:St}{H:Hp}{s:Ac}{E:Value->Ac->Prop}
theorem Inv.wish(I:Inv X pins σ H s)(E:Value->Ac->Prop):Inv (X.wish E) pins σ H s:=⟨I.ok.wish E,I.os,I.bare,I.base,I.loc,I.cell,I.free,I.freeC,I.pin,I.hok,I.len⟩
theorem Inv.unwish(I:Inv (X.wish E) pins σ H s):Inv X pins σ H s:=⟨I.ok.unwish,I.os,I.bare,I.base,I.loc,I.cell,I.free,I.freeC,I.pin,I.hok,I.len⟩
theorem SP.unwish{D:Ends}{f:Flow}{s':Ac}(h:SP (X.wish E) pins D f s'):SP X pins D f s':=by
 cases f with
 |next=>obtain⟨σ',H',I,q⟩:=h;exact⟨σ',H',I.unwish,q⟩
 |brk=>obtain⟨σ',H',I,q⟩:=h;exact⟨σ',H',I.unwish,q⟩
 |cont=>obtain⟨σ',H',I,q⟩:=h;exact⟨σ',H',I.unwish,q⟩
 |ret u=>obtain⟨v,σ',H',I,r,q⟩:=h;exact⟨v,σ',H',I.unwish,r,q⟩
theorem PT.nox{e:Expr}{t:TT}(h:PT X.nox e t):PT X e t:=λpins s σ H Q I hw =>
 BF (h pins s σ H Q (I.wish _) hw) (λ_ _ ⟨H',I',q⟩=>⟨H',I'.unwish,q⟩) λ_ _ z=>Bu z
theorem PSs.nox{st:List Stmt}{t:TS}(h:PSs X.nox st t):PSs X st t:=λpins s σ H D I hw =>
 BF (h pins s σ H D (I.wish _) hw) (λ_ _ q=>q.unwish) λ_ _ z=>Bu z
end
section
variable {X:Cx}{st:Stmt}{rest:List Stmt}{t u:TS}{e:Expr}{te:TE}{pos:Pos}
noncomputable def tNext:TS:=λD σ H=>D.nx σ H
noncomputable def tSeq(t u:TS):TS:=λD σ H=>t { D with nx:=u D } σ H
theorem zaq:PSs X [] tNext:=λ_ _ σ H _ I h=>DV ⟨σ,H,I,h⟩
theorem zac(h1:PS X st t)(h2:PSs X rest u):PSs X (st::rest) (tSeq t u):=by
 intro pins s σ H D I h;refine wpAny_execs_cons (thn (h1 pins s σ H { D with nx:=u D } I h) λf s1 q=>?_)
 cases f with
 |next =>
  obtain⟨σ',H',I',q⟩:=q;exact h2 pins s1 σ' H' D I' q
 |ret v=>exact q
 |brk=>exact q
 |cont=>exact q
theorem zae(h1:PS X st t):PSs X [st] t:=by
 intro pins s σ H D I h;refine wpAny_execs_cons (thn (h1 pins s σ H D I h) λf s1 q=>?_)
 cases f with
 |next=>exact DV q
 |ret v=>exact q
 |brk=>exact q
 |cont=>exact q
theorem Inv.quiet{pins:List (Addr×Obj)}{σ:St}{H:Hp}{s:Ac}(I:Inv X pins σ H s):interactive X.env=false:=by simp[interactive,I.ok.kind]
noncomputable def tDrop(te:TE):TS:=λD σ H=>te σ H λ_ H1=>D.nx σ H1
theorem zbS(he:PE X e te)(hs:swapsWith e none pos.line X.env=pure false:=by rfl):PS X (.Expr e pos) (tDrop te):=by intro pins s σ H D I h;exact wpAny_Expr_any (thn (he pins s σ H _ I h) λv s1 ⟨x,H1,I1,r1,q1⟩=>⟨σ,H1,I1,q1⟩) I.quiet hs
noncomputable def tRet(te:TE):TS:=λD σ H=>te σ H D.rt
theorem zaj(he:PE X e te):PS X (.Return (some e) pos) (tRet te):=by intro pins s σ H D I h;exact wpAny_Return_some (thn (he pins s σ H _ I h) λv s1 ⟨x,H1,I1,r1,q1⟩=>⟨x,σ,H1,I1,r1,q1⟩)
noncomputable def tIfS(c:TT)(t u:TS):TS:=λD σ H=>c σ H λb H1=>if b=true then t D σ H1 else u D σ H1
theorem ps_if{c:Expr}{a b:List Stmt}{tc:TT}(hc:PT X c tc)(ha:PSs X a t)(hb:PSs X b u):PS X (.If c a b pos) (tIfS tc t u):=by
 intro pins s σ H D I h;refine wpAny_If (thn (hc pins s σ H _ I h) λd s1 ⟨H1,I1,q1⟩=>?_)
 cases d with
 |true=>exact ha pins s1 σ H1 D I1 q1
 |false=>exact hb pins s1 σ H1 D I1 q1
noncomputable def zmV:TS:=λ_ _ _=>False
theorem zfz:PS X st zmV:=λ_ _ _ _ _ _ h=>h.elim
end
noncomputable abbrev TG:=V->St->Hp->(St->Hp->Prop)->Prop
noncomputable abbrev TGs:=List V->St->Hp->(St->Hp->Prop)->Prop
noncomputable def PG(X:Cx)(target:Expr)(t:TG):Prop :=
 ∀(pins:List (Addr×Obj)) (s:Ac) (σ:St) (H:Hp) (v:V) (u:Value) (Q:St->Hp->Prop),Inv X pins σ H s->RelV v u->t v σ H Q ->
  Ao (Au X.prog X.w) X.A (Dx target X.env u) (λ_ s'=>∃ σ' H',Inv X pins σ' H' s'/\Q σ' H') X.xe s
noncomputable def PGs(X:Cx)(ts:List Expr)(t:TGs):Prop :=
 ∀(pins:List (Addr×Obj)) (s:Ac) (σ:St) (H:Hp) (vs:List V) (us:List Value) (Q:St->Hp->Prop),Inv X pins σ H s->Vals vs us->t vs σ H Q ->
  Ao (Au X.prog X.w) X.A (assignInOrder ((DZ ts X.env).map (·.2)) us) (λ_ s'=>∃ σ' H',Inv X pins σ' H' s'/\Q σ' H') X.xe s
noncomputable abbrev TSet:=V->V->V->Hp->(Hp->Prop)->Prop
noncomputable def PSet(X:Cx)(t:TSet):Prop :=
 ∀(pins:List (Addr×Obj)) (s:Ac) (σ:St) (H:Hp) (o i v:V) (ov iv u:Value) (Q:Hp->Prop),Inv X pins σ H s->RelV o ov->RelV i iv->RelV v u->t o i v H Q ->
  Ao (Au X.prog X.w) X.A (setItem ov iv u) (λ_ s'=>∃H',Inv X pins σ H' s'/\Q H') X.xe s
noncomputable abbrev TIp:=V->V->Hp->VK->Prop
noncomputable def PIp(X:Cx)(op:Operator)(t:TIp):Prop :=
 ∀(pins:List (Addr×Obj)) (s:Ac) (σ:St) (H:Hp) (x y:V) (v u:Value) (Q:VK),Inv X pins σ H s->RelV x v->RelV y u->t x y H Q ->
  Ao (Au X.prog X.w) X.A (inplaceOp op v u) (EP X pins σ Q) X.xe s
section
variable {X:Cx}{pos:Pos}
noncomputable def gName(i:Nat):TG:=λv σ H Q=>Q (σ.set i (some v)) H
theorem zmf{i:Nat}{x:Str}(hN:X.N.Nodup)(hi:X.N[i]?=some x)(hx:Loc X.env.scope x)(hf:X.fn x=true∨X.env.scope.names.lookup x=some .local:=by first |exact .inl rfl |exact .inr rfl |assumption):PG X (.Name x pos) (gName i):=by intro pins s σ H v u Q I r h;exact wpAny_assign_Name (zdX I hN hi hx r (λs' I'=>⟨_,H,I',h⟩) hf)
noncomputable def gNil:TGs:=λvs σ H Q=>vs=[]/\Q σ H
noncomputable def gCons(t:TG)(u:TGs):TGs:=λvs σ H Q=>∃v r,vs=v::r/\t v σ H λσ' H'=>u r σ' H' Q
theorem zaA:PGs X [] gNil:=by
 intro pins s σ H vs us Q I r h;obtain⟨e,h⟩:=h;subst e
 cases r
 exact assignInOrder_nil ⟨σ,H,I,h⟩
theorem zag{e:Expr}{es:List Expr}{t:TG}{u:TGs}(h1:PG X e t)(h2:PGs X es u)
  (hs:(DZ (e::es) X.env).map (·.2)=Dx e X.env::(DZ es X.env).map (·.2):=by rfl):PGs X (e::es) (gCons t u):=by
 intro pins s σ H vs us Q I r h;obtain⟨v,vr,e1,h⟩:=h;subst e1
 cases r with
 |cons r rr =>
  rw[hs];refine assignInOrder_cons (thn (h1 pins s σ H _ _ _ I r h) λ_ s1 ⟨σ1,H1,I1,q1⟩=>?_);exact h2 pins s1 σ1 H1 _ _ Q I1 rr q1
noncomputable def gTup(K:W.Frag)(n:Nat)(t:TGs):TG:=λv σ H Q=>∃a xs,v=.ref a/\SqT K H a xs/\xs.length=n/\t xs σ H Q
theorem zbk{es:List Expr}{k:Nat}{t:TGs}{n:Nat}(hc:X.calm=true)(h:PGs X es t)
  (hn:(DZ es X.env).length=n:=by rfl) (hst:(DZ es X.env).findIdx? (·.1)=none:=by rfl):PG X (.Tuple es k pos) (gTup X.K n t):=by
 intro pins s σ H v u Q I r hw;obtain⟨a,xs,e1,hq,hl,hw⟩:=hw;subst e1
 cases r
 obtain⟨its,rv,ht,hz⟩:=I.tuple hq;refine assign_Tuple_tuple (I.ok.hd hc) ht (by simp[hn,<- hl,rv.length]) hst λh' hx=>?_
 have I1:Inv X pins σ H { s with heap:=h' }:=I.kept (t':=s.toks) λb o e=>hx b o (A8 (Ay e)) e
 exact h pins _ σ H xs _ Q I1 (by simpa using rv) hw
noncomputable def gSub(to ti:TE)(t:TSet):TG:=λv σ H Q=>to σ H λo H1=>ti σ H1 λi H2=>t o i v H2 λH3=>Q σ H3
theorem zlM{o i:Expr}{to ti:TE}{t:TSet}(ho:PE X o to)(hi:PE X i ti)(hs:PSet X t)
  (ha:∀v,Dx (.Subscript o i pos) X.env v=(do
   let ov <- DI [v] (eval o X.env)
   let iv <- DI [v,ov] (eval i X.env)
   standAt pos
   DI [v,ov,iv] (setItem ov iv v)
   release [v,ov,iv] []):=by intro _;rfl):PG X (.Subscript o i pos) (gSub to ti t):=by
 intro pins s σ H v u Q I r h;rw[ha];refine Ab (Bg (thn (ho pins s σ H _ I h) λov s1 ⟨x,H1,I1,r1,q1⟩=>?_));refine Ab (Bg (thn (hi pins s1 σ H1 _ I1 q1) λiv s2 ⟨y,H2,I2,r2,q2⟩=>?_));refine Ab (CH (Ab (Bg (thn (hs pins s2 σ H2 x y v ov iv u _ I2 r1 r2 r q2) λ_ s3 ⟨H3,I3,q3⟩=>?_))));exact wpAny_release ⟨σ,H3,I3,q3⟩
noncomputable def tAsg(te:TE)(g:TG):TS:=λD σ H=>te σ H λx H1=>g x σ H1 D.nx
theorem zbD{tg e:Expr}{te:TE}{g:TG}(he:PE X e te)(hg:PG X tg g)(hs:swapsWithSole [tg] e pos.line X.env=pure false := by rfl)(hw:swappedStores [tg] e X.env=pure none := by rfl)
  (h1:(DZ [tg] X.env).map (·.2)=[Dx tg X.env]:=by rfl):PS X (.Assign [tg] e pos) (tAsg te g):=by
 intro pins s σ H D I h;refine wpAny_Assign_stores (thn (he pins s σ H _ I h) λv s1 ⟨x,H1,I1,r1,q1⟩=>?_) hs hw;rw[h1];exact thn (hg pins s1 σ H1 x v _ I1 r1 q1) λ_ s2 q=>q
theorem zh9{i:Nat}{x:Str}{e:Expr}{te:TE}{pos':Pos}(hN:X.N.Nodup)(hi:X.N[i]? = some x)(hx:Loc X.env.scope x)(he:PE X e te)(hs:swapsWith e (some (.Name x pos')) pos.line X.env=pure false := by rfl)(hf:X.fn x=true ∨ X.env.scope.names.lookup x=some .local := by first |exact .inl rfl |exact .inr rfl |assumption) :
  PS X (.Assign [.Name x pos'] e pos) (tAsg te (gName i)):=by
 intro pins s σ H D I h;refine wpAny_Assign_Name (thn (he pins s σ H _ I h) λv s1 ⟨y,H1,I1,r1,q1⟩=>?_) hs;exact zdX I1 hN hi hx r1 (λs2 I2=>⟨_,H1,I2,q1⟩) hf
noncomputable def tAug(i:Nat)(te:TE)(ti:TIp):TS:=λD σ H=>∃x,σ[i]?=some (some x)/\te σ H λy H1=>ti x y H1 λz H2=>D.nx (σ.set i (some z)) H2
theorem znc{i:Nat}{x:Str}{e:Expr}{te:TE}{op:Operator}{ti:TIp}{pos':Pos}(hN:X.N.Nodup)(hi:X.N[i]? = some x)(hx:Loc X.env.scope x)(he:PE X e te)(ho:PIp X op ti)(hf:X.fn x=true ∨ X.env.scope.names.lookup x=some .local := by first |exact .inl rfl |exact .inr rfl |assumption) :
  PS X (.AugAssign (.Name x pos') op e pos) (tAug i te ti):=by
 intro pins s σ H D I h;obtain⟨v,e1,h⟩:=h;obtain⟨m,hn,hl⟩:=I.loc;have vis:Vis X.env.scope x:=by rcases hx with k |k;exact .inl k;exact .inr (.inl k)
 obtain⟨u,r,l⟩:=hl i x v hi e1 vis;refine wpAny_AugAssign_Name ?_
 have go:Ao (Au X.prog X.w) X.A (eval e X.env) (λw s₂=>Ao (Au X.prog X.w) X.A (inplaceOp op u w) (λr s₃=>Ao (Au X.prog X.w) X.A (storeName X.env x r) (λ_=>SP X pins D .next) X.xe s₃) X.xe s₂) X.xe s:=by
  refine thn (he pins s σ H _ I h) λw s1 ⟨y,H1,I1,r1,q1⟩=>?_
  refine thn (ho pins s1 σ H1 v y u w _ I1 r r1 q1) λz s2 ⟨zv,H2,I2,r2,q2⟩=>?_
  exact zdX I2 hN hi hx r2 (λs3 I3=>⟨_,H2,I3,q2⟩) hf
 rcases l with⟨hk,hm⟩ |⟨hk,c,hc,hcell⟩
 .exact wpAny_loadName_local I.ok.kind hk hn hm go
 .rcases hk with hk |hk
  .exact wpAny_loadName_cell I.ok.kind hk hc hcell go
  .rcases hx with k |k
   .have:X.env.scope.names.lookup x=some .free:=hk;rw[k]at this;cases this
   .have:X.env.scope.names.lookup x=some .free:=hk;rw[k]at this;cases this
noncomputable def ipI(f:Int->Int->Int):TIp:=λx y H Q=>∃i j,x=.int i/\y=.int j/\Q (.int (f i j)) H
theorem znq:PIp X .Add (ipI λi j=>i+j):=by intro pins s σ H x y v u Q I r1 r2 h;obtain⟨i,j,e1,e2,q⟩:=h;subst e1;subst e2;obtain⟨t,rfl⟩:=r1;obtain⟨t',rfl⟩:=r2;exact iadd_int ⟨.int _,H,I.tok _,⟨_,rfl⟩,q⟩
end
section
variable {X:Cx}{pos:Pos}
noncomputable def zlx(c:TT)(tb:TS):TS:=λD σ H=>∃W:Nat->St->Hp->Prop,(∃m,W m σ H)/\∀m σ H,W m σ H ->
 c σ H λb H1=>if b=true then ∃N:St->Hp->Prop,(∀ σ' H',N σ' H'->∃m',m'<m/\W m' σ' H')/\tb { D with nx:=N,ct:=N,bk:=D.nx } σ H1 else D.nx σ H1
theorem zkU{c:Expr}{body:List Stmt}{tc:TT}{tb:TS}(hp:PassesOwn (Au X.prog X.w) X.A X.env X.xe)(hc:PT X c tc)(hb:PSs X body tb):PS X (.While c body [] pos) (zlx tc tb):=by
 intro pins s σ H D I h;obtain⟨W,⟨m0,w0⟩,turn⟩:=h;refine wpAny_While (codeAny_whileLoop (λn s'=>∃ σ' H',Inv X pins σ' H' s'/\W n σ' H') ?_ m0 ⟨σ,H,I,w0⟩);rintro n s1 ⟨σ1,H1,I1,w1⟩;refine CT hp (thn (hc pins s1 σ1 H1 _ I1 (turn n σ1 H1 w1)) λb s2 ⟨H2,I2,q2⟩=>?_)
 cases b with
 |true =>
  obtain⟨N,hN,q2⟩:=q2;rw[if_pos rfl];refine CT hp (thn (hb pins s2 σ1 H2 _ I2 q2) λf s3 q3=>?_)
  cases f with
  |next =>
   obtain⟨σ3,H3,I3,n3⟩:=q3;obtain⟨m',hm,w3⟩:=hN σ3 H3 n3;exact⟨m',hm,σ3,H3,I3,w3⟩
  |cont =>
   obtain⟨σ3,H3,I3,n3⟩:=q3;obtain⟨m',hm,w3⟩:=hN σ3 H3 n3;exact⟨m',hm,σ3,H3,I3,w3⟩
  |brk=>exact q3
  |ret v=>exact q3
 |false =>
  rw[if_neg AC];exact DV ⟨σ1,H2,I2,q2⟩
end
structure It where
 go:Nat->Hp->Prop
 yld:Nat->Hp->V->Hp->Prop
 stop:Nat->Hp->Prop
noncomputable def FpOk(X:Cx)(pins:List (Addr×Obj))(H:Hp)(b:Addr):Prop :=
 H b=none/\b≠X.env.locals/\b ∉ X.fs/\(b∈X.ex∨X.s₀.heap.objs.size<=b)/\(∀x c,X.env.cells.lookup x=some c->c≠b)/\∀p∈X.pn++pins,p.1≠b
theorem Inv.fpOk{X:Cx}{pins:List (Addr×Obj)}{σ:St}{H H':Hp}{s:Ac}{b:Addr}(I:Inv X pins σ H s)(hb:s.heap.objs.size<=b)(hn:H' b=none):FpOk X pins H' b:=by
 refine⟨hn,Nat.ne_of_gt (A7 I.lt hb),I.nofs hb,.inr (A3 I.sz hb),λx c e z=>?_,λp hp z=>?_⟩
 .obtain⟨v,q⟩:=I.cell x c e;exact absurd (A7 q.lt (by rw[z];exact hb)) (Cm _)
 .exact absurd (A7 (Ay (I.pin p hp).1) (by rw[z];exact hb)) (Cm _)
structure Turn (P:AD) (w:A5) (K:W.Frag) (tg:Expr) (J:It) (fp:List Addr) (it:Addr) (tn:Nat->Heap->Prop):Prop where
 mem:it∈fp
 obj:∀i h,tn i h->∀b∈fp,∃o,h.get? b=some o/\∀v,o.data≠.cell v
 keep:∀i h h',tn i h->(∀b∈fp,∀o,h.get? b=some o->h'.get? b=some o)->tn i h'
 item:∀(X:Cx),X.prog=P->X.w=w->X.K=K->X.calm=true->∀(i:Nat) (pins:List (Addr×Obj)) (s:Ac) (σ:St) (H:Hp) (E:Value->Ac->Prop),Inv X pins σ H s->(∀b∈fp,FpOk X pins H b)->tn i s.heap->J.go i H ->
  Ao (Au P w) X.A (pyNext (.ref it)) (λr s1=>∃u,r=some u /\
   Ao (Au P w) X.A (DW tg (.ref it) u) (λ_ s2=>∃x H',Inv X pins σ H' s2/\RelV x u/\J.yld i H x H'/\tn (i+1) s2.heap/\∀b∈fp,H' b=none) E s1) E s
 done:∀(X:Cx),X.prog=P->X.w=w->X.K=K->X.calm=true->∀(i:Nat) (pins:List (Addr×Obj)) (s:Ac) (σ:St) (H:Hp) (E:Value->Ac->Prop),Inv X pins σ H s->(∀b∈fp,FpOk X pins H b)->tn i s.heap->J.stop i H ->
  Ao (Au P w) X.A (pyNext (.ref it)) (λr s1=>r=none/\Inv X pins σ H s1) E s
 self:∀(A:AM) (i:Nat) (s:Ac) (Q:Value->Ac->Prop) (E:Value->Ac->Prop),tn i s.heap->Q (.ref it) s->Ao (Au P w) A (pyIter (.ref it)) Q E s
noncomputable abbrev TI:=St->Hp->(It->Hp->Prop)->Prop
noncomputable def PIE(X:Cx)(pins:List (Addr×Obj))(σ:St)(tg:Expr)(R:It->Hp->Prop)(itv:Value)(s2:Ac):Prop :=
 ∃(it:Addr) (fp:List Addr) (tn:Nat->Heap->Prop) (J:It) (H':Hp),itv=.ref it/\Inv X pins σ H' s2/\Turn X.prog X.w X.K tg J fp it tn/\tn 0 s2.heap/\(∀b∈fp,FpOk X pins H' b)/\R J H'
noncomputable def PI(X:Cx)(tg iter:Expr)(wi:TI):Prop :=
 ∀(pins:List (Addr×Obj)) (s:Ac) (σ:St) (H:Hp) (R:It->Hp->Prop),Inv X pins σ H s->wi σ H R ->
  Ao (Au X.prog X.w) X.A (eval iter X.env) (λv s1=>Ao (Au X.prog X.w) X.A (pyIter v) (PIE X pins σ tg R) X.xe s1) X.xe s
theorem go_of {M : DM}{A : AM}{E : Value → Ac → Prop}{s : Ac}{tg : Expr}{it : Addr}{u : Value}{o : Obj}{n : String}{vs : Array Value}{Q : Unit → Ac → Prop}(ho : s.heap.get? it = some o) (hc : o.cls = .type n) (hd : o.data = .fields vs)
    (hn:["enumerate","zip","dict_itemiterator","dict_reverseitemiterator","odict_iterator","itertools.zip_longest","itertools.pairwise"].contains n=false) (hQ:Q () s):Ao M A (DW tg (.ref it) u) Q E s:=by
  unfold DW
  cases tg <;> first
    | exact Ae hQ
    | (cases u <;> first
        | exact Ae hQ
        | (refine Ab (wpAny_load ho ?_)
           rw[hc,hd]
           show Ao M A (if (["enumerate","zip","dict_itemiterator","dict_reverseitemiterator","odict_iterator","itertools.zip_longest","itertools.pairwise"].contains n && vs[0]? == some (rawInt _))=true then _ else _) Q E s
           rw[if_neg (by intro h;rw[hn,Bool.false_and] at h;cases h)]
           exact Ae hQ))
noncomputable def Itl(K:W.Frag)(a:Addr):It :=
 ⟨λi H=>∃xs x,SqL K H a xs/\xs[i]?=some x,λi H x H'=>H'=H/\∀xs,SqL K H a xs->xs[i]?=some x,λi H=>∃xs,SqL K H a xs/\xs.length<=i⟩
noncomputable def Itt(K:W.Frag)(a:Addr):It :=
 ⟨λi H=>∃xs x,SqT K H a xs/\xs[i]?=some x,λi H x H'=>H'=H/\∀xs,SqT K H a xs->xs[i]?=some x,λi H=>∃xs,SqT K H a xs/\xs.length<=i⟩
noncomputable def Itr(lo:Int)(n:Nat):It:=⟨λi _=>i<n,λi H x H'=>H'=H/\x=.int (lo+i),λi _=>n<=i⟩
theorem zji{P:AD}{w:A5}{K:W.Frag}{tg:Expr}(a it:Addr):Turn P w K tg (Itl K a) [it] it (λi h=>h.IsListIter it a i) where
 mem:=by simp
 obj:=λi h st b hb=>by
  have e:b=it:=by simpa using hb
  subst e;obtain⟨o,e,c,d⟩:=st;exact⟨o,e,λv z=>by rw[d]at z;cases z⟩
 keep:=λi h h' st k=>st.at λo e=>k it (by simp) o e
 item:=by
  intro X hP hw hK hc i pins s σ H E I hf st hg;subst hP hw hK;obtain⟨xs,x,hq,hx⟩:=hg;obtain⟨its,rv,p,hz⟩:=I.list hq;obtain⟨u,hu,ru⟩:=rv.get hx;obtain⟨f0,f1,f2,f3,f4,f5⟩:=hf it (by simp);refine wpAny_pyNext_list_item st p.isList (x:=u) (by simpa using hu) λh' st' sb=>?_
  have I1:Inv X pins σ H { s with heap:=h' }:=I.turned (t':=s.toks) (λb o hb e=>(sb.2 b hb).trans e) f0 f1 f3 f4 f5;obtain⟨o,e,c,d⟩:=id st';exact⟨u,rfl,go_of (s:={ s with heap:=h' }) e c d (by decide) ⟨x,H,I1,ru,⟨rfl,λys hy=>by rw[I.list_inj hy hq];exact hx⟩,st',λb hb=>(hf b hb).1⟩⟩
 done:=by intro X hP hw hK hc i pins s σ H E I hf st hg;subst hP hw hK;obtain⟨xs,hq,hx⟩:=hg;obtain⟨its,rv,p,hz⟩:=I.list hq;obtain⟨f0,f1,f2,f3,f4,f5⟩:=hf it (by simp);have hl:=rv.length;exact wpAny_pyNext_list_end (I.ok.hd hc) st p.isList (by simp;lia) λh' eb=>⟨rfl,I.turned (t':=s.toks) (λb o hb e=>eb b o hb e) f0 f1 f3 f4 f5⟩
 self:=λ_ _ _ _ _ st h=>wpAny_pyIter_listiter st h
theorem ziL{P:AD}{w:A5}{K:W.Frag}{tg:Expr}(a it:Addr):Turn P w K tg (Itt K a) [it] it (λi h=>h.IsTupleIter it a i) where
 mem:=by simp
 obj:=λi h st b hb=>by
  have e:b=it:=by simpa using hb
  subst e;obtain⟨o,e,c,d⟩:=st;exact⟨o,e,λv z=>by rw[d]at z;cases z⟩
 keep:=λi h h' st k=>st.at λo e=>k it (by simp) o e
 item:=by
  intro X hP hw hK hc i pins s σ H E I hf st hg;subst hP hw hK;obtain⟨xs,x,hq,hx⟩:=hg;obtain⟨its,rv,p,hz⟩:=I.tuple hq;obtain⟨u,hu,ru⟩:=rv.get hx;obtain⟨f0,f1,f2,f3,f4,f5⟩:=hf it (by simp);refine wpAny_pyNext_tuple_item st (show s.heap.IsTuple a its.toArray from p) (x:=u) (by simpa using hu) λh' st' sb=>?_
  have I1:Inv X pins σ H { s with heap:=h' }:=I.turned (t':=s.toks) (λb o hb e=>(sb.2 b hb).trans e) f0 f1 f3 f4 f5;obtain⟨o,e,c,d⟩:=id st';exact⟨u,rfl,go_of (s:={ s with heap:=h' }) e c d (by decide) ⟨x,H,I1,ru,⟨rfl,λys hy=>by rw[I.tuple_inj hy hq];exact hx⟩,st',λb hb=>(hf b hb).1⟩⟩
 done:=by intro X hP hw hK hc i pins s σ H E I hf st hg;subst hP hw hK;obtain⟨xs,hq,hx⟩:=hg;obtain⟨its,rv,p,hz⟩:=I.tuple hq;obtain⟨f0,f1,f2,f3,f4,f5⟩:=hf it (by simp);have hl:=rv.length;exact wpAny_pyNext_tuple_end (I.ok.hd hc) st (show s.heap.IsTuple a its.toArray from p) (by simp;lia) λh' eb=>⟨rfl,I.turned (t':=s.toks) (λb o hb e=>eb b o hb e) f0 f1 f3 f4 f5⟩
 self:=λ_ _ _ _ _ st h=>wpAny_pyIter_tupleiter st h
theorem ziM{P:AD}{w:A5}{K:W.Frag}{tg:Expr}(it:Addr)(lo:Int)(n:Nat):Turn P w K tg (Itr lo n) [it] it (λi h=>IsRangeIter h it (lo+(i:Nat)*1) ((n:Int)-(i:Nat)) 1) where
 mem:=by simp
 obj:=λi h st b hb=>by
  have e:b=it:=by simpa using hb
  subst e
  exact⟨_,st,λv z=>by
   have z':Data.fields _=Data.cell v:=z
   cases z'⟩
 keep:=λi h h' st k=>k it (by simp) _ st
 item:=by
  intro X hP hw hK hc i pins s σ H E I hf st hg;subst hP hw hK;obtain⟨f0,f1,f2,f3,f4,f5⟩:=hf it (by simp);have W:=Walks.range (prog:=X.prog) (w:=X.w) (I.ok.hd hc) it lo 1 n;refine W.item i s _ _ hg st λv h' tk hv st' kk=>?_
  obtain⟨t,rfl⟩:=hv;have I1:Inv X pins σ H { s with heap:=h',toks:=tk }:=I.turned (λb o hb e=>kk b o (by simpa using hb) e) f0 f1 f3 f4 f5;refine⟨_,rfl,go_of (s:={ s with heap:=h',toks:=tk }) (n:="range_iterator") st' rfl rfl (by decide) ⟨.int (lo+i),H,I1,⟨t,?_⟩,⟨rfl,rfl⟩,st',λb hb=>(hf b hb).1⟩⟩;rw[Int.mul_one]
 done:=by intro X hP hw hK hc i pins s σ H E I hf st hg;subst hP hw hK;obtain⟨f0,f1,f2,f3,f4,f5⟩:=hf it (by simp);exact wpAny_pyNext_range_end (I.ok.hd hc) st (by have:n<=i:=hg;lia) λh' eb=>⟨rfl,I.turned (t':=s.toks) (λb o hb e=>eb b o hb e) f0 f1 f3 f4 f5⟩
 self:=λ_ _ _ _ _ st h=>wpAny_pyIter_rangeiter st h
section
variable {X:Cx}{tg:Expr}
noncomputable def iList(K:W.Frag)(tl:TE):TI:=λσ H R=>tl σ H λx H1=>∃a,x=.ref a/\(∃xs,SqL K H1 a xs)/\R (Itl K a) H1
noncomputable def iTup(K:W.Frag)(tl:TE):TI:=λσ H R=>tl σ H λx H1=>∃a,x=.ref a/\(∃xs,SqT K H1 a xs)/\R (Itt K a) H1
theorem zaz{l:Expr}{tl:TE}(hl:PE X l tl):PI X tg l (iList X.K tl):=by
 intro pins s σ H R I h;refine thn (hl pins s σ H _ I h) λv s1 ⟨x,H1,I1,r1,q1⟩=>?_
 obtain⟨a,e,⟨xs,hq⟩,q⟩:=q1;subst e
 cases r1
 obtain⟨its,rv,p,hz⟩:=I1.list hq;refine wpAny_pyIter_list p.isList ?_
 refine⟨s1.heap.objs.size,[s1.heap.objs.size],_,_,H1,rfl,I1.kept (t':=s1.toks) λb o e=>Af _ e,zji a _,⟨_,AI _ rfl,rfl,rfl⟩,λb hb=>?_,q⟩;have e:b=s1.heap.objs.size:=by simpa using hb
 subst e;exact I1.fpOk (Ak _) (I1.hok.fresh (Ak _))
theorem zia{l:Expr}{tl:TE}(hl:PE X l tl):PI X tg l (iTup X.K tl):=by
 intro pins s σ H R I h;refine thn (hl pins s σ H _ I h) λv s1 ⟨x,H1,I1,r1,q1⟩=>?_
 obtain⟨a,e,⟨xs,hq⟩,q⟩:=q1;subst e
 cases r1
 obtain⟨its,rv,p,hz⟩:=I1.tuple hq;refine wpAny_pyIter_tuple (show s1.heap.IsTuple a its.toArray from p) ?_
 refine⟨s1.heap.objs.size,[s1.heap.objs.size],_,_,H1,rfl,I1.kept (t':=s1.toks) λb o e=>Af _ e,ziL a _,⟨_,AI _ rfl,rfl,rfl⟩,λb hb=>?_,q⟩;have e:b=s1.heap.objs.size:=by simpa using hb
 subst e;exact I1.fpOk (Ak _) (I1.hok.fresh (Ak _))
theorem zh7{pins:List (Addr × Obj)}{σ : St}{H:Hp}{s:Ac}{R:It -> Hp -> Prop}{E:Value -> Ac -> Prop}{lo hi:Int}{t u v:Tok}{tk:Nat}(I:Inv X pins σ H s)(h1 : -(2 ^ 62) <= lo)(h2:lo < 2 ^ 62)(h3 : -(2 ^ 62) <= hi)(h4:hi < 2 ^ 62)
  (q:R (Itr lo (hi-lo).toNat) H):Ao (Au X.prog X.w) X.A (pyIter (.ref s.heap.objs.size)) (PIE X pins σ tg R) E { s with heap:=s.heap.push { cls:=.type "range",data:=.fields #[.int lo t,.int hi u,.int 1 v] },toks:=tk }:=by
 refine wpAny_pyIter_range (IsRange.new ..) (small_one h1 h2 h3 h4) ?_
 have I1:Inv X pins σ H { s with heap:=s.heap.push { cls:=.type "range",data:=.fields #[.int lo t,.int hi u,.int 1 v] },toks:=tk }:=I.kept λb o e=>Af _ e
 refine⟨(s.heap.push { cls:=.type "range",data:=.fields #[.int lo t,.int hi u,.int 1 v] }).objs.size,[(s.heap.push { cls:=.type "range",data:=.fields #[.int lo t,.int hi u,.int 1 v] }).objs.size],_,_,H,rfl,
  I1.kept (t':=tk) λb o e=>Af _ e,ziM _ lo (hi-lo).toNat,?_,λb hb=>?_,q⟩
 .have e1:lo+((0:Nat):Int)*1=lo:=by simp
  have e2:(((hi-lo).toNat:Nat):Int)-((0:Nat):Int)=Builtin.Range.rangeSize lo hi 1:=by rw[rangeSize_one];split <;> lia
  show IsRangeIter _ _ (lo+((0:Nat):Int)*1) ((((hi-lo).toNat:Nat):Int)-((0:Nat):Int)) 1;rw[e1,e2];exact AI _ rfl
 .have e:b=(s.heap.push { cls:=.type "range",data:=.fields #[.int lo t,.int hi u,.int 1 v] }).objs.size:=by simpa using hb
  subst e;exact I1.fpOk (Ak _) (I1.hok.fresh (Ak _))
noncomputable def iRng1(ta:TA):TI:=λσ H R=>ta σ H λvs H1=>∃j:Int,vs=[.int j]/\-(2 ^ 62)<=j/\j<2 ^ 62/\R (Itr 0 j.toNat) H1
noncomputable def iRng2(ta:TA):TI:=λσ H R=>ta σ H λvs H1=>∃i j:Int,vs=[.int i,.int j]/\(-(2 ^ 62)<=i/\i<2 ^ 62/\-(2 ^ 62)<=j/\j<2 ^ 62)/\R (Itr i (j-i).toNat) H1
theorem zdl {a:Expr}{ta:TA}{p pos:Pos}(hg:Gl X "range") (hm:X.mg "range" = none) (ha:PA X [a] ta) (hs:Bl [a] X.env=[(false,eval a X.env)]:=by rfl):PI X tg (.Call (.Name "range" p) [a] [] pos) (iRng1 ta):=by
 intro pins s σ H R I h;refine Call_ (zer I hg hm boot_range (Dr (thn (ha pos pins s σ H _ I h) λus s1 ⟨vs,H1,I1,r1,q1⟩=>?_) hs rfl));obtain⟨j,e,q1,q2,q⟩:=q1;subst e
 cases r1 with
 |cons r rr =>
  cases rr
  obtain⟨t,rfl⟩:=r;exact call_range_1 (zh7 I1 (by lia) (by lia) q1 q2 (by simpa using q))
theorem zgD {a b:Expr}{ta:TA}{p pos:Pos}(hg:Gl X "range") (hm:X.mg "range" = none) (ha:PA X [a, b] ta) (hs:Bl [a, b] X.env = [(false, eval a X.env), (false, eval b X.env)] := by rfl) (hs2:Bl [b] X.env = [(false, eval b X.env)] := by rfl) :
  PI X tg (.Call (.Name "range" p) [a,b] [] pos) (iRng2 ta):=by
 intro pins s σ H R I h;refine Call_ (zer I hg hm boot_range (Dr (thn (ha pos pins s σ H _ I h) λus s1 ⟨vs,H1,I1,r1,q1⟩=>?_) (by rw[hs,hs2]) (by rw[hs2];rfl)));obtain⟨i,j,e,⟨q1,q2,q3,q4⟩,q⟩:=q1;subst e
 cases r1 with
 |cons r rr =>
  cases rr with
  |cons r' rr =>
   cases rr
   obtain⟨t,rfl⟩:=r;obtain⟨t',rfl⟩:=r';exact call_range_2 (zh7 I1 q1 q2 q3 q4 q)
noncomputable def tFor(wi:TI)(g:TG)(tb:TS):TS:=λD σ H=>wi σ H λJ H1=>∃W:Nat->Nat->St->Hp->Prop,(∃m,W 0 m σ H1)/\∀i m σ H,W i m σ H ->
 (J.stop i H/\D.nx σ H)∨(J.go i H/\∃N:St->Hp->Prop,(∀ σ' H',N σ' H'->∃m',m'<m/\W (i+1) m' σ' H')/\∀x H',J.yld i H x H'->g x σ H' λσ2 H2=>tb { D with nx:=N,ct:=N,bk:=D.nx } σ2 H2)
noncomputable def zdK(fp:List Addr)(h:Heap):List (Addr×Obj):=fp.filterMap λb=>(h.get? b).map λo=>(b,o)
theorem za1{fp:List Addr}{h:Heap}{b:Addr}{o:Obj}(hb:b∈fp)(e:h.get? b=some o):(b,o)∈zdK fp h:=List.mem_filterMap.mpr ⟨b,hb,by rw[e];rfl⟩
theorem zjW{fp:List Addr}{h:Heap}{p:Addr×Obj}(hp:p∈zdK fp h):p.1∈fp/\h.get? p.1=some p.2:=by
 obtain⟨b,hb,e⟩:=List.mem_filterMap.mp hp
 cases q:h.get? b with
 |none=>rw[q]at e;cases e
 |some o =>
  rw[q]at e;have e':(b,o)=p:=AT e;subst e';exact⟨hb,q⟩
theorem Inv.pinned{pins:List (Addr×Obj)}{σ:St}{H:Hp}{s:Ac}{fp:List Addr}(I:Inv X pins σ H s)(hf:∀b∈fp,FpOk X pins H b)(ho:∀b∈fp,∃o,s.heap.get? b=some o/\∀v,o.data≠.cell v):Inv X (pins++zdK fp s.heap) σ H s :=
 I.pins_of λp hp=>(AQ.mp hp).elim (λz=>I.pin p (Av _ z)) λz=>by obtain⟨hb,e⟩:=zjW z;obtain⟨f0,f1,f2,_⟩:=hf p.1 hb;obtain⟨o,e',d⟩:=ho p.1 hb;rw[e]at e';cases e';exact⟨e,f0,f1,f2,d⟩
theorem Inv.unpinned{pins pl:List (Addr×Obj)}{σ:St}{H:Hp}{s:Ac}(I:Inv X (pins++pl) σ H s):Inv X pins σ H s:=I.pins_of λp hp=>I.pin p (Av _ (B4 _ hp))
theorem zcb{iter:Expr}{body:List Stmt}{wi:TI}{g:TG}{tb:TS}{pos:Pos}(hp:PassesOwn (Au X.prog X.w) X.A X.env X.xe)(hc:X.calm=true)(hi:PI X tg iter wi)(hg:PG X tg g)(hb:PSs X body tb)
  (hs:∀x,Bi iter X.env x=pure x:=by intro _;rfl):PS X (.For tg iter body [] pos) (tFor wi g tb):=by
 intro pins s σ H D I h;refine wpAny_For (thn (hi pins s σ H _ I h) λv s1 h1=>thn h1 λitv s2 h2=>?_) hs;obtain⟨it,fp,tn,J,H2,e,I2,T,st2,f2,W,⟨m0,w0⟩,turn⟩:=h2;subst e;have stat:∀{H':Hp},(∀b∈fp,H' b=none)->∀b∈fp,FpOk X pins H' b:=λhn b hb=>⟨hn b hb,(f2 b hb).2⟩
 refine codeAny_forLoop_any (λn s'=>∃i σ' H',Inv X pins σ' H' s'/\tn i s'.heap/\(∀b∈fp,H' b=none)/\W i n σ' H') ?_ m0 ⟨0,σ,H2,I2,st2,λb hb=>(f2 b hb).1,w0⟩;rintro n s3 ⟨i,σ3,H3,I3,st3,fr3,w3⟩;rcases turn i n σ3 H3 w3 with⟨stop,qn⟩ |⟨go,N,hN,step⟩
 .refine CT hp (thn (T.done X rfl rfl rfl hc i pins s3 σ3 H3 X.xe I3 (stat fr3) st3 stop) λr s4 ⟨hr,I4⟩=>?_);subst hr;exact DV ⟨σ3,H3,I4,qn⟩
 .refine CT hp (thn (T.item X rfl rfl rfl hc i pins s3 σ3 H3 X.xe I3 (stat fr3) st3 go) λr s4 ⟨u,hr,h4⟩=>?_);subst hr;refine CT hp (thn h4 λ_ s5 ⟨x,H5,I5,r5,y5,st5,fr5⟩=>?_);have I5':=I5.pinned (stat fr5) (T.obj _ _ st5);refine CT hp (thn (hg _ s5 σ3 H5 x u _ I5' r5 (step x H5 y5)) λ_ s6 ⟨σ6,H6,I6,q6⟩=>?_);refine CT hp (thn (hb _ s6 σ6 H6 _ I6 q6) λf s7 q7=>?_)
  have again:∀{σ7:St} {H7:Hp},Inv X (pins++zdK fp s5.heap) σ7 H7 s7->N σ7 H7->∃m,m<n/\∃i σ' H',Inv X pins σ' H' s7/\tn i s7.heap/\(∀b∈fp,H' b=none)/\W i m σ' H':=λ{σ7 H7} I7 n7=>by obtain⟨m',hm,w7⟩:=hN σ7 H7 n7;refine⟨m',hm,i+1,σ7,H7,I7.unpinned,T.keep _ _ _ st5 λb hb o e=>(I7.pin (b,o) (Av _ (Av _ (za1 hb e)))).1,λb hb=>?_,w7⟩;obtain⟨o,e,d⟩:=T.obj _ _ st5 b hb;exact (I7.pin (b,o) (Av _ (Av _ (za1 hb e)))).2.1
  cases f with
  |next=>obtain⟨σ7,H7,I7,n7⟩:=q7;exact again I7 n7
  |cont=>obtain⟨σ7,H7,I7,n7⟩:=q7;exact again I7 n7
  |brk=>obtain⟨σ7,H7,I7,q7⟩:=q7;exact⟨σ7,H7,I7.unpinned,q7⟩
  |ret v=>obtain⟨x7,σ7,H7,I7,r7,q7⟩:=q7;exact⟨x7,σ7,H7,I7.unpinned,r7,q7⟩
end
theorem zau{K:W.Frag}{a:Addr}{xs:List V}{g:TG}{tb:TS}{D:Ends}{σ : St}{H:Hp}(Pv:Nat -> St -> Hp -> Prop)(h0:Pv 0 σ H)(hl:∀i σ H, i <= xs.length -> Pv i σ H -> SqL K H a xs)
  (hs:∀i x σ H,xs[i]?=some x->Pv i σ H->g x σ H λσ2 H2=>tb { D with nx:=Pv (i+1),ct:=Pv (i+1),bk:=D.nx } σ2 H2) (hd:∀ σ H,Pv xs.length σ H->D.nx σ H) :
  ∃W:Nat->Nat->St->Hp->Prop,(∃m,W 0 m σ H)/\∀i m σ H,W i m σ H ->
   ((Itl K a).stop i H/\D.nx σ H)∨((Itl K a).go i H/\∃N:St->Hp->Prop,(∀ σ' H',N σ' H'->∃m',m'<m/\W (i+1) m' σ' H')/\∀x H',(Itl K a).yld i H x H'->g x σ H' λσ2 H2=>tb { D with nx:=N,ct:=N,bk:=D.nx } σ2 H2):=by
 refine⟨λi m σ H=>m=xs.length-i/\i<=xs.length/\Pv i σ H,⟨xs.length,by simp,Ba _,h0⟩,?_⟩;rintro i m σ H ⟨rfl,hi,p⟩;have q:=hl i σ H hi p
 by_cases hlt:i<xs.length
 .refine .inr ⟨⟨xs,xs[i],q,by simp[hlt]⟩,Pv (i+1),λσ' H' p'=>⟨xs.length-(i+1),by lia,rfl,hlt,p'⟩,λx H' y=>?_⟩;obtain⟨e,y⟩:=y;subst e;exact hs i x σ _ (y xs q) p
 .have e:i=xs.length:=by lia
  subst e;exact .inl ⟨⟨xs,q,Ak _⟩,hd σ H p⟩
theorem zfZ{K:W.Frag}{a:Addr}{xs:List V}{g:TG}{tb:TS}{D:Ends}{σ : St}{H:Hp}(Pv:Nat -> St -> Hp -> Prop)(h0:Pv 0 σ H)(hl:∀i σ H, i <= xs.length -> Pv i σ H -> SqT K H a xs)
  (hs:∀i x σ H,xs[i]?=some x->Pv i σ H->g x σ H λσ2 H2=>tb { D with nx:=Pv (i+1),ct:=Pv (i+1),bk:=D.nx } σ2 H2) (hd:∀ σ H,Pv xs.length σ H->D.nx σ H) :
  ∃W:Nat->Nat->St->Hp->Prop,(∃m,W 0 m σ H)/\∀i m σ H,W i m σ H ->
   ((Itt K a).stop i H/\D.nx σ H)∨((Itt K a).go i H/\∃N:St->Hp->Prop,(∀ σ' H',N σ' H'->∃m',m'<m/\W (i+1) m' σ' H')/\∀x H',(Itt K a).yld i H x H'->g x σ H' λσ2 H2=>tb { D with nx:=N,ct:=N,bk:=D.nx } σ2 H2):=by
 refine⟨λi m σ H=>m=xs.length-i/\i<=xs.length/\Pv i σ H,⟨xs.length,by simp,Ba _,h0⟩,?_⟩;rintro i m σ H ⟨rfl,hi,p⟩;have q:=hl i σ H hi p
 by_cases hlt:i<xs.length
 .refine .inr ⟨⟨xs,xs[i],q,by simp[hlt]⟩,Pv (i+1),λσ' H' p'=>⟨xs.length-(i+1),by lia,rfl,hlt,p'⟩,λx H' y=>?_⟩;obtain⟨e,y⟩:=y;subst e;exact hs i x σ _ (y xs q) p
 .have e:i=xs.length:=by lia
  subst e;exact .inl ⟨⟨xs,q,Ak _⟩,hd σ H p⟩
theorem zcc{lo:Int}{n:Nat}{g:TG}{tb:TS}{D:Ends}{σ : St}{H:Hp}(Pv:Nat -> St -> Hp -> Prop)(h0:Pv 0 σ H)
  (hs:∀i σ H,i<n->Pv i σ H->g (.int (lo+i)) σ H λσ2 H2=>tb { D with nx:=Pv (i+1),ct:=Pv (i+1),bk:=D.nx } σ2 H2) (hd:∀ σ H,Pv n σ H->D.nx σ H) :
  ∃W:Nat->Nat->St->Hp->Prop,(∃m,W 0 m σ H)/\∀i m σ H,W i m σ H ->
   ((Itr lo n).stop i H/\D.nx σ H)∨((Itr lo n).go i H/\∃N:St->Hp->Prop,(∀ σ' H',N σ' H'->∃m',m'<m/\W (i+1) m' σ' H')/\∀x H',(Itr lo n).yld i H x H'->g x σ H' λσ2 H2=>tb { D with nx:=N,ct:=N,bk:=D.nx } σ2 H2):=by
 refine⟨λi m σ H=>m=n-i/\i<=n/\Pv i σ H,⟨n,by simp,Ba _,h0⟩,?_⟩;rintro i m σ H ⟨rfl,hi,p⟩
 by_cases hlt:i<n
 .refine .inr ⟨hlt,Pv (i+1),λσ' H' p'=>⟨n-(i+1),by lia,rfl,hlt,p'⟩,λx H' y=>?_⟩;obtain⟨e,y⟩:=y;subst e y;exact hs i σ _ hlt p
 .have e:i=n:=by lia
  subst e;exact .inl ⟨Ak _,hd σ H p⟩
theorem zkH{c:TT}{tb:TS}{D:Ends}{σ : St}{H:Hp}(Pv:St -> Hp -> Prop)(μ : St -> Hp -> Nat)(h0:Pv σ H)
  (hs:∀ σ H,Pv σ H->c σ H λb H1=>if b=true then tb { D with nx:=λσ' H'=>Pv σ' H'/\μ σ' H'<μ σ H,ct:=λσ' H'=>Pv σ' H'/\μ σ' H'<μ σ H,bk:=D.nx } σ H1 else D.nx σ H1)
  (mono:∀ σ H Q Q',(∀b H1,Q b H1->Q' b H1)->c σ H Q->c σ H Q'):zlx c tb D σ H:=by
 refine⟨λm σ H=>m=μ σ H/\Pv σ H,⟨_,rfl,h0⟩,?_⟩;rintro m σ H ⟨rfl,p⟩;refine mono σ H _ _ (λb H1 q=>?_) (hs σ H p)
 cases b with
 |true=>exact⟨_,λσ' H' ⟨p',l⟩=>⟨_,l,rfl,p'⟩,q⟩
 |false=>exact q
noncomputable abbrev R2:=V->V->Hp->VK->Prop
noncomputable def OpR(X:Cx)(f:Value->Value->Sem Value)(r:R2):Prop :=
 ∀(pins:List (Addr×Obj)) (s:Ac) (σ:St) (H:Hp) (x y:V) (v u:Value) (Q:VK),Inv X pins σ H s->RelV x v->RelV y u->r x y H Q ->
  Ao (Au X.prog X.w) X.A (f v u) (EP X pins σ Q) X.xe s
noncomputable def UnR(X:Cx)(f:Value->Sem Value)(r:V->Hp->VK->Prop):Prop :=
 ∀(pins:List (Addr×Obj)) (s:Ac) (σ:St) (H:Hp) (x:V) (v:Value) (Q:VK),Inv X pins σ H s->RelV x v->r x H Q ->
  Ao (Au X.prog X.w) X.A (f v) (EP X pins σ Q) X.xe s
noncomputable def CallR(X:Cx)(f:Value)(r:List V->Hp->VK->Prop):Prop :=
 ∀(pins:List (Addr×Obj)) (s:Ac) (σ:St) (H:Hp) (xs:List V) (us:List Value) (Q:VK),Inv X pins σ H s->Vals xs us->r xs H Q ->
  Ao (Au X.prog X.w) X.A (call f us) (EP X pins σ Q) X.xe s
noncomputable def TruR(X:Cx)(r:V->Hp->(Bool->Hp->Prop)->Prop):Prop :=
 ∀(pins:List (Addr×Obj)) (s:Ac) (σ:St) (H:Hp) (x:V) (v:Value) (Q:Bool->Hp->Prop),Inv X pins σ H s->RelV x v->r x H Q ->
  Ao (Au X.prog X.w) X.A (truthy v) (TP X pins σ Q) X.xe s
noncomputable def tOp(r:R2)(ta tb:TE):TE:=λσ H Q=>ta σ H λx H1=>tb σ H1 λy H2=>r x y H2 Q
noncomputable def tUn(r:V->Hp->VK->Prop)(ta:TE):TE:=λσ H Q=>ta σ H λx H1=>r x H1 Q
noncomputable def rI(C:Int->Int->Prop)(g:Int->Int->V):R2:=λx y H Q=>∃i j,x=.int i/\y=.int j/\C i j/\Q (g i j) H
noncomputable def rI0(g:Int->Int->V):R2:=λx y H Q=>∃i j,x=.int i/\y=.int j/\Q (g i j) H
noncomputable def rU(g:Int->V):V->Hp->VK->Prop:=λx H Q=>∃i,x=.int i/\Q (g i) H
section
variable {X:Cx}{a b c:Expr}{ta tb tc:TE}{pos:Pos}
theorem binT(ha:PE X a ta)(hb:PE X b tb){pins:List (Addr × Obj)}{s:Ac}{σ : St}{H:Hp}{R:V -> V -> Hp -> Prop}(I:Inv X pins σ H s)
  (h:ta σ H λx H1=>tb σ H1 λy H2=>R x y H2) {Q:Value->Ac->Prop} {f:Value->Value->Sem Value}
  (hf:∀v u s2 x y H2,Inv X pins σ H2 s2->RelV x v->RelV y u->R x y H2->Ao (Au X.prog X.w) X.A (f v u) Q X.xe s2) :
  Ao (Au X.prog X.w) X.A (eval a X.env) (λv s₁=>Ao (Au X.prog X.w) X.A (eval b X.env) (λu s₂=>Ao (Au X.prog X.w) X.A (f v u) Q X.xe s₂) X.xe s₁) X.xe s:=by
 refine thn (ha pins s σ H _ I h) λv s1 ⟨x,H1,I1,r1,q1⟩=>?_
 refine thn (hb pins s1 σ H1 _ I1 q1) λu s2 ⟨y,H2,I2,r2,q2⟩=>?_
 exact hf v u s2 x y H2 I2 r1 r2 q2
theorem pe_op{op:Operator}{r:R2}(ho:OpR X (Dy op) r)(ha:PE X a ta)(hb:PE X b tb):PE X (.BinOp a op b pos) (tOp r ta tb):=by intro pins s σ H Q I h;exact wpAny_BinOp (binT ha hb I h λv u s2 x y H2 I2 rx ry q=>ho pins s2 σ H2 x y v u Q I2 rx ry q)
theorem pe_un{op:UnaryOp}{r:V->Hp->VK->Prop}(ho:UnR X (unaryOp op) r)(ha:PE X a ta):PE X (.UnaryOp op a pos) (tUn r ta):=by intro pins s σ H Q I h;exact UnaryOp_ (thn (ha pins s σ H _ I h) λv s1 ⟨x,H1,I1,r1,q1⟩=>ho pins s1 σ H1 x v Q I1 r1 q1)
theorem opI{f:Value -> Value -> Sem Value}{C:Int -> Int -> Prop}{g:Int -> Int -> Int}
  (rule:∀(i j:Int) (t u:Tok) (s:Ac) (Q:Value->Ac->Prop) (E:Value->Ac->Prop),C i j->Q (.int (g i j) s.toks) { s with toks:=s.toks+1 }->Ao (Au X.prog X.w) X.A (f (.int i t) (.int j u)) Q E s) :
  OpR X f (rI C λi j=>.int (g i j)):=by
 intro pins s σ H x y v u Q I rx ry h;obtain⟨i,j,rfl,rfl,hc,q⟩:=h;obtain⟨t,rfl⟩:=rx;obtain⟨t',rfl⟩:=ry;exact rule i j t t' s _ _ hc ⟨.int (g i j),H,I.tok _,⟨_,rfl⟩,q⟩
theorem opI0{f:Value -> Value -> Sem Value}{g:Int -> Int -> Int}
  (rule:∀(i j:Int) (t u:Tok) (s:Ac) (Q:Value->Ac->Prop) (E:Value->Ac->Prop),Q (.int (g i j) s.toks) { s with toks:=s.toks+1 }->Ao (Au X.prog X.w) X.A (f (.int i t) (.int j u)) Q E s) :
  OpR X f (rI0 λi j=>.int (g i j)):=by
 intro pins s σ H x y v u Q I rx ry h;obtain⟨i,j,rfl,rfl,q⟩:=h;obtain⟨t,rfl⟩:=rx;obtain⟨t',rfl⟩:=ry;exact rule i j t t' s _ _ ⟨.int (g i j),H,I.tok _,⟨_,rfl⟩,q⟩
theorem opB0{f:Value -> Value -> Sem Value}{g:Int -> Int -> Bool}
  (rule:∀(i j:Int) (t u:Tok) (s:Ac) (Q:Value->Ac->Prop) (E:Value->Ac->Prop),Q (.bool (g i j)) s->Ao (Au X.prog X.w) X.A (f (.int i t) (.int j u)) Q E s) :
  OpR X f (rI0 λi j=>.bl (g i j)):=by
 intro pins s σ H x y v u Q I rx ry h;obtain⟨i,j,rfl,rfl,q⟩:=h;obtain⟨t,rfl⟩:=rx;obtain⟨t',rfl⟩:=ry;exact rule i j t t' s _ _ ⟨.bl (g i j),H,I,rfl,q⟩
noncomputable def CDiv(i j:Int):Prop:=0<j/\j<1073741824
noncomputable def CPow(i j:Int):Prop:=0<=j/\j<=1000000/\i.natAbs<2 ^ 64
noncomputable def CMul(i j:Int):Prop:=(-(2 ^ 64)<i/\i<2 ^ 64)∨(-(2 ^ 64)<j/\j<2 ^ 64)
theorem CMul.ok{i j:Int}(h:CMul i j):IntMulOk i j:=by
 rcases h with⟨h1,h2⟩ |⟨h1,h2⟩
 .exact .of_left (intBits_le_64 h1 h2)
 .exact .of_right (intBits_le_64 h1 h2)
theorem za3:OpR X (Dy .Add) (rI0 λi j=>.int (i+j)):=opI0 λ_ _ _ _ _ _ _ q=>add_int q
theorem zbv:OpR X (Dy .Sub) (rI0 λi j=>.int (i-j)):=opI0 λ_ _ _ _ _ _ _ q=>sub_int q
theorem zc0:OpR X (Dy .Mult) (rI CMul λi j=>.int (i*j)):=opI λ_ _ _ _ _ _ _ hc q=>mul_int q hc.ok
theorem zjR:OpR X (Dy .FloorDiv) (rI CDiv λi j=>.int (i / j)):=opI λi j _ _ _ _ _ hc q=>by have h1:(0:Int)<j:=hc.1;have h2:j<1073741824:=hc.2;exact floordiv_int (by lia) (by rw[Int.fdiv_eq_ediv_of_nonneg i (by lia)];exact q) (.inl (PyProof.noPylong_small (by lia)))
theorem zbr:OpR X (Dy .Mod) (rI (λ_ j=>0<j) λi j=>.int (i % j)):=opI λi j _ _ _ _ _ hc q=>by have h1:(0:Int)<j:=hc;exact mod_int' (by lia) (by rw[Int.fmod_eq_emod_of_nonneg i (by lia)];exact q)
theorem zgH:OpR X (Dy .Pow) (rI CPow λi j=>.int (i ^ j.toNat)):=opI λ_ _ _ _ _ _ _ hc q=>pow_int_small hc.1 hc.2.1 hc.2.2 q
theorem unI{f:Value -> Sem Value}{g:Int -> Int}
  (rule:∀(i:Int) (t:Tok) (s:Ac) (Q:Value->Ac->Prop) (E:Value->Ac->Prop),Q (.int (g i) s.toks) { s with toks:=s.toks+1 }->Ao (Au X.prog X.w) X.A (f (.int i t)) Q E s) :
  UnR X f (rU λi=>.int (g i)):=by
 intro pins s σ H x v Q I rx h;obtain⟨i,rfl,q⟩:=h;obtain⟨t,rfl⟩:=rx;exact rule i t s _ _ ⟨.int (g i),H,I.tok _,⟨_,rfl⟩,q⟩
theorem zmR:UnR X (unaryOp .USub) (rU λi=>.int (-i)):=unI λ_ _ _ _ _ q=>neg_int q
end
noncomputable def scal:V->V->Bool
 |.non,.non=>true |.non,.int _=>true |.int _,.non=>true |.non,.bl _=>true |.bl _,.non=>true |.non,.str _=>true |.str _,.non=>true
 |.int _,.int _=>true |.bl _,.bl _=>true |.str _,.str _=>true |.byt _,.byt _=>true
 |.int _,.str _=>true |.str _,.int _=>true |.bl _,.str _=>true |.str _,.bl _=>true
 |_,_=>false
noncomputable def rEq:R2:=λx y H Q=>scal x y=true/\Q (.bl (decide (x=y))) H
noncomputable def rNe:R2:=λx y H Q=>scal x y=true/\Q (.bl (!decide (x=y))) H
theorem zkq{i j:Int}:decide (V.int i=V.int j)=(i == j):=by rw[Cu];simp
theorem zlS{i j:Bool}:decide (V.bl i=V.bl j)=(i == j):=by rw[Cu];simp
theorem zkp{i j:Str}:decide (V.str i=V.str j)=(i == j):=by rw[Cu];simp
theorem zkr{i j:Array UInt8}:decide (V.byt i=V.byt j)=(i.toList == j.toList):=by
 rw[Cu]
 cases i
 cases j
 simp
section
variable {X:Cx}{a b c:Expr}{ta tb tc:TE}{pos:Pos}
theorem zaG{pins:List (Addr×Obj)}{σ:St}{H:Hp}{s:Ac}{Q:VK}{k k':Bool}(I:Inv X pins σ H s)(q:Q (.bl k) H)(e:k=k'):EP X pins σ Q (.bool k') s:=by subst e;exact⟨.bl k,H,I,rfl,q⟩
theorem op_eq:OpR X (Bw .Eq) rEq:=by
 intro pins s σ H x y v u Q I rx ry h;obtain⟨hs,q⟩:=h
 cases x with
 |non =>
  cases rx
  cases y with
  |non=>cases ry;exact PySem.EqNone.eq_none_none (zaG I q (by simp))
  |bl j=>cases ry;exact PySem.EqNone.eq_none_bool (zaG I q (by simp))
  |int j=>obtain⟨t',rfl⟩:=ry;exact PySem.EqNone.eq_none_int (zaG I q (by simp))
  |str j=>obtain⟨t',rfl⟩:=ry;exact PySem.EqNone.eq_none_str (zaG I q (by simp))
  |_=>exact absurd (show false=true from hs) AC
 |bl i =>
  cases rx
  cases y with
  |non=>cases ry;exact PySem.EqNone.eq_bool_none (zaG I q (by simp))
  |bl j=>cases ry;exact eq_bool (zaG I q zlS)
  |str j=>obtain⟨t',rfl⟩:=ry;exact PySem.EqMixed.eq_bool_str (zaG I q (by simp))
  |_=>exact absurd (show false=true from hs) AC
 |int i =>
  obtain⟨t,rfl⟩:=rx
  cases y with
  |non=>cases ry;exact PySem.EqNone.eq_int_none (zaG I q (by simp))
  |int j=>obtain⟨t',rfl⟩:=ry;exact eq_int (zaG I q zkq)
  |str j=>obtain⟨t',rfl⟩:=ry;exact PySem.EqMixed.eq_int_str (zaG I q (by simp))
  |_=>exact absurd (show false=true from hs) AC
 |str i =>
  obtain⟨t,rfl⟩:=rx
  cases y with
  |non=>cases ry;exact PySem.EqNone.eq_str_none (zaG I q (by simp))
  |bl j=>cases ry;exact PySem.EqMixed.eq_str_bool (zaG I q (by simp))
  |int j=>obtain⟨t',rfl⟩:=ry;exact PySem.EqMixed.eq_str_int (zaG I q (by simp))
  |str j=>obtain⟨t',rfl⟩:=ry;exact eq_str (zaG I q zkp)
  |_=>exact absurd (show false=true from hs) AC
 |byt i =>
  obtain⟨t,rfl⟩:=rx
  cases y with
  |byt j=>obtain⟨t',rfl⟩:=ry;exact W.eq_bytes (zaG I q zkr)
  |_=>exact absurd (show false=true from hs) AC
 |_=>cases y <;> exact absurd (show false=true from hs) AC
theorem op_ne:OpR X (Bw .NotEq) rNe:=by
 intro pins s σ H x y v u Q I rx ry h;obtain⟨hs,q⟩:=h
 cases x with
 |non =>
  cases rx
  cases y with
  |non=>cases ry;exact PySem.EqNone.ne_none_none (zaG I q (by simp))
  |bl j=>cases ry;exact PySem.EqNone.ne_none_bool (zaG I q (by simp))
  |int j=>obtain⟨t',rfl⟩:=ry;exact PySem.EqNone.ne_none_int (zaG I q (by simp))
  |str j=>obtain⟨t',rfl⟩:=ry;exact PySem.EqNone.ne_none_str (zaG I q (by simp))
  |_=>exact absurd (show false=true from hs) AC
 |bl i =>
  cases rx
  cases y with
  |non=>cases ry;exact PySem.EqNone.ne_bool_none (zaG I q (by simp))
  |bl j=>cases ry;exact ne_bool (zaG I q (congrArg not zlS))
  |str j=>obtain⟨t',rfl⟩:=ry;exact PySem.EqMixed.ne_bool_str (zaG I q (by simp))
  |_=>exact absurd (show false=true from hs) AC
 |int i =>
  obtain⟨t,rfl⟩:=rx
  cases y with
  |non=>cases ry;exact PySem.EqNone.ne_int_none (zaG I q (by simp))
  |int j=>obtain⟨t',rfl⟩:=ry;exact ne_int (zaG I q (congrArg not zkq))
  |str j=>obtain⟨t',rfl⟩:=ry;exact PySem.EqMixed.ne_int_str (zaG I q (by simp))
  |_=>exact absurd (show false=true from hs) AC
 |str i =>
  obtain⟨t,rfl⟩:=rx
  cases y with
  |non=>cases ry;exact PySem.EqNone.ne_str_none (zaG I q (by simp))
  |bl j=>cases ry;exact PySem.EqMixed.ne_str_bool (zaG I q (by simp))
  |int j=>obtain⟨t',rfl⟩:=ry;exact PySem.EqMixed.ne_str_int (zaG I q (by simp))
  |str j=>obtain⟨t',rfl⟩:=ry;exact ne_str (zaG I q (congrArg not zkp))
  |_=>exact absurd (show false=true from hs) AC
 |byt i =>
  obtain⟨t,rfl⟩:=rx
  cases y with
  |byt j=>obtain⟨t',rfl⟩:=ry;exact W.ne_bytes (zaG I q (congrArg not zkr))
  |_=>exact absurd (show false=true from hs) AC
 |_=>cases y <;> exact absurd (show false=true from hs) AC
theorem op_lt:OpR X (Bw .Lt) (rI0 λi j=>.bl (decide (i<j))):=opB0 λ_ _ _ _ _ _ _ q=>lt_int q
theorem op_le:OpR X (Bw .LtE) (rI0 λi j=>.bl (decide (i<=j))):=opB0 λ_ _ _ _ _ _ _ q=>le_int q
theorem op_gt:OpR X (Bw .Gt) (rI0 λi j=>.bl (decide (j<i))):=opB0 λ_ _ _ _ _ _ _ q=>gt_int q
theorem op_ge:OpR X (Bw .GtE) (rI0 λi j=>.bl (decide (j<=i))):=opB0 λ_ _ _ _ _ _ _ q=>ge_int q
theorem zgJ:OpR X (Bw .Is) (λx y H Q=>y=.non/\Q (.bl (decide (x=.non))) H):=by
 intro pins s σ H x y v u Q I rx ry h;obtain⟨rfl,q⟩:=h
 cases ry
 refine is_none_gen (zaG I q ?_)
 cases x <;> first
  | (cases rx;rfl)
  | (obtain⟨t,rfl⟩:=rx;rfl)
theorem zfC:OpR X (Bw .IsNot) (λx y H Q=>y=.non/\Q (.bl (!decide (x=.non))) H):=by
 intro pins s σ H x y v u Q I rx ry h;obtain⟨rfl,q⟩:=h
 cases ry
 refine isnot_none_gen (zaG I q ?_)
 cases x <;> first
  | (cases rx;rfl)
  | (obtain⟨t,rfl⟩:=rx;rfl)
theorem zan(b:Expr){op:CmpOp}(h:op≠.In:=by decide)(h2:op≠.NotIn:=by decide):behindInMarks op b=false:=by
 have e1:(op == CmpOp.In)=false:=by cases op <;> first |rfl |exact absurd rfl h
 have e2:(op == CmpOp.NotIn)=false:=by cases op <;> first |rfl |exact absurd rfl h2
 cases b <;> simp[behindInMarks,e1,e2]
theorem zbq{op:CmpOp}{r:R2}(ho:OpR X (Bw op) r)(ha:PE X a ta)(hb:PE X b tb)(hm:behindInMarks op b=false):PE X (.Compare a [op] [b] pos) (tOp r ta tb):=by intro pins s σ H Q I h;exact wpAny_Compare1 (binT ha hb I h λv u s2 x y H2 I2 rx ry q=>ho pins s2 σ H2 x y v u Q I2 rx ry q) hm
noncomputable def tTest(t:TE):TT:=λσ H Q=>t σ H λx H'=>∃k,x=.bl k/\Q k H'
theorem zam{op:CmpOp}{r:R2}(ho:OpR X (Bw op) r)(ha:PE X a ta)(hb:PE X b tb)(hm:behindInMarks op b=false):PT X (.Compare a [op] [b] pos) (tTest (tOp r ta tb)):=by
 intro pins s σ H Q I h
 refine wpAny_isTrue_Compare1 (thn (ha pins s σ H _ I h) λv s1 ⟨x,H1,I1,r1,q1⟩=>thn (hb pins s1 σ H1 _ I1 q1) λu s2 ⟨y,H2,I2,r2,q2⟩ =>
  thn (ho pins s2 σ H2 x y v u _ I2 r1 r2 q2) λc s3 ⟨z,H3,I3,r3,k,e,q3⟩=>?_) hm
 subst e
 cases r3
 exact BX ⟨H3,I3,q3⟩
noncomputable def TruV(K:W.Frag)(x:V)(H:Hp)(k:Bool):Prop :=
 match x with
 |.non=>k=false
 |.bl b=>k=b
 |.int i=>k=(i != 0)
 |.str y=>y.length<=sizeLine/\k=((y.length:Int) != 0)
 |.byt y=>y.size<=sizeLine/\k=((y.size:Int) != 0)
 |.ref p=>(∃xs,SqL K H p xs/\k=!xs.isEmpty)∨(∃xs,SqT K H p xs/\k=!xs.isEmpty)∨∃kvs,H p=some (.dK kvs)/\k=!kvs.isEmpty
 |_=>False
theorem zi4{κ:Type}{kvs:List (κ×V)}{vs:List (κ×Value)}(r:KV kvs vs):(!vs.isEmpty)=!kvs.isEmpty:=by
 cases r <;> rfl
theorem zfd{xs:List V}{its:List Value}(r:Vals xs its):(!its.toArray.isEmpty)=!xs.isEmpty:=by
 cases r <;> simp
theorem zgT:(sizeLine:Nat)<2 ^ 63:=by rw[sizeLine_eq];decide
theorem zmT:TruR X (λx H Q=>∃k,TruV X.K x H k/\Q k H):=by
 intro pins s σ H x v Q I rx h;obtain⟨k,e,q⟩:=h;have hl:=zgT;have hs:sizeLine=16777216:=sizeLine_eq
 cases x with
 |non =>
  cases rx
  have e':k=false:=e;subst e';exact truthy_none ⟨H,I,q⟩
 |bl b =>
  cases rx
  have e':k=b:=e;subst e';exact BX ⟨H,I,q⟩
 |int i =>
  obtain⟨t,rfl⟩:=rx;have e':k=(i != 0):=e;subst e';exact PySem.P.truthy_int ⟨H,I,q⟩
 |str y =>
  obtain⟨t,rfl⟩:=rx;obtain⟨hy,e'⟩:y.length<=sizeLine/\k=((y.length:Int) != 0):=e;subst e';exact PySem.P.truthy_str (by lia) ⟨H,I.tok _,q⟩
 |byt y =>
  obtain⟨t,rfl⟩:=rx;obtain⟨hy,e'⟩:y.size<=sizeLine/\k=((y.size:Int) != 0):=e;subst e';exact W.truthy_bytes (by lia) ⟨H,I.tok _,q⟩
 |ref p =>
  cases rx
  have e':(∃xs,SqL X.K H p xs/\k=!xs.isEmpty)∨(∃xs,SqT X.K H p xs/\k=!xs.isEmpty)∨∃kvs,H p=some (.dK kvs)/\k=!kvs.isEmpty:=e;rcases e' with⟨xs,hx,e'⟩ |⟨xs,hx,e'⟩ |⟨kvs,hx,e'⟩
  .subst e';obtain⟨its,r,pl,hz⟩:=I.list hx;have hlen:=r.length;exact wpAny_truthy_list pl.isList (by simp only[Ar];lia) ⟨H,I.tok _,by rw[zfd r];exact q⟩
  .subst e';obtain⟨its,r,pl,hz⟩:=I.tuple hx;have hlen:=r.length;exact truthy_tuple pl (by simp only[Ar];lia) ⟨H,I.tok _,by rw[zfd r];exact q⟩
  .subst e';obtain⟨hz,hS,vs,r,m⟩:kvs.length<=sizeLine/\(p == BR)=false/\∃vs,KV kvs vs/\s.heap.DictOf (zaE X.prog X.w) p vs:=I.hok p _ hx;have hlen:kvs.length=vs.length:=C0 r;exact wpAny_truthy_dict hS m (by lia) ⟨H,I.tok _,by rw[zi4 r];exact q⟩
 |_=>exact (show False from e).elim
theorem zkT(ha:PE X a ta)(he:∀whole, isTrue a X.env whole=(do let v <- whole; standAt a.pos; DI [v] (truthy v))) :
  PT X a (λσ H Q=>ta σ H λx H'=>∃k,TruV X.K x H' k/\Q k H'):=by
 intro pins s σ H Q I h;exact isTrue_plain (thn (ha pins s σ H _ I h) λv s1 ⟨x,H1,I1,r1,q1⟩=>zmT pins s1 σ H1 x v Q I1 r1 q1) (he _)
theorem vals1{x:V}{us:List Value}(r:Vals [x] us):∃u,us=[u]/\RelV x u:=by
 cases r with
 |cons r1 r2=>cases r2;exact⟨_,rfl,r1⟩
theorem vals2{x y:V}{us:List Value}(r:Vals [x,y] us):∃u w',us=[u,w']/\RelV x u/\RelV y w':=by
 cases r with
 |cons r1 r2 =>
  cases r2 with
  |cons r3 r4=>cases r4;exact⟨_,_,rfl,r1,r3⟩
theorem ziG:CallR X (.builtin "abs") (λxs H Q=>∃i,xs=[.int i]/\Q (.int (if i<0 then -i else i)) H):=by intro pins s σ H xs us Q I r h;obtain⟨i,rfl,q⟩:=h;obtain⟨u,rfl,t,rfl⟩:=vals1 r;exact call_abs_int λu tk=>⟨.int (if i<0 then -i else i),H,I.tok _,⟨_,rfl⟩,q⟩
theorem zky (hc:X.calm=true):CallR X (.builtin "max") (λxs H Q=>∃i j,xs=[.int i,.int j]/\Q (.int (if j > i then j else i)) H):=by
 intro pins s σ H xs us Q I r h;obtain⟨i,j,rfl,q⟩:=h;obtain⟨u,w',rfl,⟨t,rfl⟩,⟨t',rfl⟩⟩:=vals2 r;refine max_two_ints (I.ok.hd hc) λh' tk k=>⟨_,H,I.kept k,?_,q⟩
 by_cases hj:j > i
 .rw[if_pos hj,if_pos hj];exact⟨_,rfl⟩
 .rw[if_neg hj,if_neg hj];exact⟨_,rfl⟩
theorem zkx (hc:X.calm=true):CallR X (.builtin "min") (λxs H Q=>∃i j,xs=[.int i,.int j]/\Q (.int (if j<i then j else i)) H):=by
 intro pins s σ H xs us Q I r h;obtain⟨i,j,rfl,q⟩:=h;obtain⟨u,w',rfl,⟨t,rfl⟩,⟨t',rfl⟩⟩:=vals2 r;refine min_two_ints (I.ok.hd hc) λh' tk k=>⟨_,H,I.kept k,?_,q⟩
 by_cases hj:j<i
 .rw[if_pos hj,if_pos hj];exact⟨_,rfl⟩
 .rw[if_neg hj,if_neg hj];exact⟨_,rfl⟩
theorem zcK:CallR X (.type "int") (λxs H Q=>(∃i,xs=[.int i]/\Q (.int i) H)∨∃k,xs=[.bl k]/\Q (.int (if k then 1 else 0)) H):=by
 intro pins s σ H xs us Q I r h;rcases h with⟨i,rfl,q⟩ |⟨k,rfl,q⟩
 .obtain⟨u,rfl,t,rfl⟩:=vals1 r;exact call_int_int ⟨.int i,H,I,⟨_,rfl⟩,q⟩
 .obtain⟨u,rfl,r1⟩:=vals1 r
  cases r1
  exact call_int_bool ⟨.int (if k then 1 else 0),H,I.tok _,⟨_,rfl⟩,q⟩
end
structure ObjM (h:Heap) (x dx C:Addr) (mA:Str->Option Value):Prop where
 obj:h.get? x=some (W.instObj C dx)
 ns:h.Ns1 dx mA
 ne:dx≠x
theorem zj5{h:Heap}{dx:Addr}{mA:Str->Option Value}(n:h.Ns1 dx mA):∃od,h.get? dx=some od/\∀name,W.lookIn name od=some (mA name):=by
 obtain⟨o,es,ep,ho,hd,hk,_,hm⟩:=n;refine⟨o,ho,λname=>?_⟩;have e:=hm name;unfold nsFind findBy at e;rw[<- Array.find?_toList]at e;unfold W.lookIn;rw[hd];dsimp only;split
 .rename_i y q
  rw[q]at e;exact congrArg some e
 .rename_i q
  rw[q]at e
  have a:es.toList.any (·.refKey)=false:=by rw[List.any_eq_false];intro y hy;obtain⟨z,t,hkey⟩:=hk y (Array.mem_toList_iff.mp hy);simp[DictEntry.refKey,hkey]
  have a':¬ es.toList.any (·.refKey)=true:=by rw[a];exact AC
  rw[if_neg a'];exact congrArg some e
theorem ObjM.look{h:Heap}{x dx C:Addr}{mA:Str->Option Value}(I:ObjM h x dx C mA):∃od,W.InstAt h x (W.instObj C dx) C (some od)/\∀name,W.lookIn name od=some (mA name) :=
 let ⟨od,ho,hl⟩:=zj5 I.ns
 ⟨od,⟨I.obj,rfl,rfl,ho⟩,hl⟩
section
variable {prog:AD}{w:A5}{A:AM}{E:Value->Ac->Prop}{s:Ac}{K:W.Frag}{x dx C f:Addr}{mA:Str->Option Value}{name:Str}{v:Value}
end
section
variable {P:AD}{w:A5}{H H':Hp}{h h':Heap}{a C dx:Addr}{fs fs':List (Str×V)}
theorem zmB(hok:HOk P w H h)(e:H a=some (.ins C dx fs)):∃mA,ObjM h a dx C mA/\(∀f,RelO (fs.lookup f) (mA f))/\PySem.Within mA (fs.map (·.1))/\fs.length<=1000/\H dx=some (.own a):=by obtain⟨d,z,ne,ob,mA,n,r,q⟩:=(show ObjOk P w H h a (.ins C dx fs) from hok a _ e);exact⟨mA,⟨ob,n,ne⟩,r,q,z,d⟩
end
structure Cls (K:W.Frag) (C:Addr):Prop where
 pg:W.plainGet K C Str.empty=true
 hd:W.hasDictIn K C=true
 po:W.plainOver K C=true
 sa:Cy K (.ref C) "__setattr__" = some (some (.builtin "object.__setattr__"))
theorem Cls.get{K:W.Frag}{C:Addr}(c:Cls K C)(f:Str):W.plainGet K C f=true:=c.pg
structure Con (K:W.Frag) (C:Addr) (f:Str) (v:V) (u:Value):Prop where
 at_:Cy K (.ref C) f=some (some u)
 rel:RelV v u
 get:W.specialIn K u "__get__" = some none
 cp:W.copiedNames.contains f=false
structure Meth (K:W.Frag) (C:Addr) (m:Str) (f:Addr):Prop where
 at_:Cy K (.ref C) m=some (some (.ref f))
 fn:W.isFn K (.ref f)=true
 kp:DN K (.ref f)=true
section
variable {X:Cx}{pins:List (Addr×Obj)}{σ:St}{H:Hp}{s:Ac}{a C dx:Addr}{fs:List (Str×V)}{f:Str}{v:V}{A:AM}{E:Value->Ac->Prop}
end
section
variable {X:Cx}{o e value:Expr}{f:Str}{pos pos' tpos:Pos}{ta tv:TE}
end
section
variable {X:Cx}{pins:List (Addr×Obj)}{σ:St}{H:Hp}{s:Ac}{A:AM}{E:Value->Ac->Prop}{Q:Value->Ac->Prop}{c:Value}{b:Bool}
inductive TyOf (K:W.Frag) (H:Hp):V->Value->Prop where
  |non:TyOf K H .non (.type "NoneType")
  |bl (x:Bool):TyOf K H (.bl x) (.type "bool")
  |int (i:Int):TyOf K H (.int i) (.type "int")
  |str (x:Str):TyOf K H (.str x) (.type "str")
  |flt (x:UInt64):TyOf K H (.flt x) (.type "float")
  |lst {a:Addr} {xs:List V} (e:H a=some (.lst xs)):TyOf K H (.ref a) (.type "list")
  |frz {a:Addr} {o:Obj} {xs:List V} (e:H a=some (.frz o (.lst xs))):TyOf K H (.ref a) (.type "list")
  |tup {a:Addr} {xs:List V} (e:H a=some (.tup xs)):TyOf K H (.ref a) (.type "tuple")
  |dK {a:Addr} {kvs:List (Key×V)} (e:H a=some (.dK kvs)):TyOf K H (.ref a) (.type "dict")
  |dT {a:Addr} {kvs:List (List Key×V)} (e:H a=some (.dT kvs)):TyOf K H (.ref a) (.type "dict")
  |ins {a C dx:Addr} {fs:List (Str × V)} (e:H a=some (.ins C dx fs)) (cl:Cls K C) (ha:Cy K (.ref C) "__class__" = some (some (.builtin "object.__class__")))
      (hn:W.specialIn K (.builtin "object.__class__") "__get__" = some (some (.builtin "getset_descriptor.__get__"))) (htk:W.takesIn K (.builtin "object.__class__")=some true)
      (hm:W.mroIn K C (.type "object")=some true):TyOf K H (.ref a) (.ref C)
theorem zke{x:V}{u t:Value}(I:Inv X pins σ H s)(rx:RelV x u)(ty:TyOf X.K H x t)(e:Cz X.K t c=some b)(h:∀tk, Q (.bool b) { s with toks := tk }) :
  Ao (Au X.prog X.w) A (call (.builtin "isinstance") [u,c]) Q E s:=by
 cases ty with
 |non=>cases (show u=BE from rx);exact C4 W.kitx_none I.kIn Ci e (λz=>nomatch z) h
 |bl y=>cases (show u=Value.bool y from rx);exact C4 W.kitx_bool I.kIn Ci e (λz=>nomatch z) h
 |int i=>obtain⟨t,q⟩:=(show ∃t,u=Value.int i t from rx);cases q;exact C4 W.kitx_int I.kIn Ci e (λz=>nomatch z) h
 |str y=>obtain⟨t,q⟩:=(show ∃t,u=Value.str y t from rx);cases q;exact C4 W.kitx_str I.kIn Ci e (λz=>nomatch z) h
 |flt y=>obtain⟨t,q⟩:=(show ∃t,u=Value.float y t from rx);cases q;exact C4 W.kitx_float I.kIn Ci e (λz=>nomatch z) h
 |@lst a xs ea =>
  cases (show u=An a from rx)
  obtain⟨_,_,n,_,h1⟩:=(show ObjOk X.prog X.w H s.heap a (.lst xs) from I.hok a _ ea);exact C4 W.kitx_list I.kIn ⟨_,h1,rfl⟩ e (λz=>nomatch z) h
 |@frz a ob xs ea =>
  cases (show u=An a from rx)
  obtain⟨_,_,_,n,_,h1⟩:=(show ObjOk X.prog X.w H s.heap a (.frz ob (.lst xs)) from I.hok a _ ea);exact C4 W.kitx_list I.kIn ⟨_,h1,rfl⟩ e (λz=>nomatch z) h
 |@tup a xs ea =>
  cases (show u=An a from rx)
  obtain⟨_,_,_,p⟩:=(show ObjOk X.prog X.w H s.heap a (.tup xs) from I.hok a _ ea);obtain⟨o,h1,h2,_⟩:=p;exact C4 W.kitx_tuple I.kIn ⟨o,h1,h2⟩ e (λz=>nomatch z) h
 |@dK a kvs ea =>
  cases (show u=An a from rx)
  obtain⟨_,_,vs,_,p⟩:=(show ObjOk X.prog X.w H s.heap a (.dK kvs) from I.hok a _ ea);obtain⟨o,es,ep,h1,h2,_⟩:=p;exact C4 W.kitx_dict I.kIn ⟨o,h1,h2.1⟩ e (λz=>nomatch z) h
 |@dT a kvs ea =>
  cases (show u=An a from rx)
  obtain⟨_,_,xs,_,o,es,ep,h1,h2,_⟩:=(show ObjOk X.prog X.w H s.heap a (.dT kvs) from I.hok a _ ea);exact C4 W.kitx_dict I.kIn ⟨o,h1,h2.1⟩ e (λz=>nomatch z) h
 |@ins a C dx fs ea cl ha hn htk hm =>
  cases (show u=An a from rx)
  obtain⟨mA,O,_⟩:=zmB I.hok ea;obtain⟨od,J,_⟩:=O.look;exact C4 (W.kitx_own (cl.get _) cl.hd ha hn htk hm) I.kIn J e (λz=>nomatch z) h
end
structure Room (k:Nat) (A:AM):Prop where
 hd:A.handled=none
 dp:A.depth+3*k+5<recursionLimit
 un:A.units+16*k+200<cLine
 gd:A.guards=some []
theorem Room.mono{j k:Nat}{A:AM}(r:Room k A)(h:j<=k):Room j A:=⟨r.hd,by have:=r.dp;lia,by have:=r.un;lia,r.gd⟩
theorem Room.deeper{k:Nat}{A:AM}(r:Room (k+1) A)(env:Env):Room k (A.deeper env) :=
 ⟨r.hd,by have:=r.dp;show A.depth+1+3*k+5<_;lia,by have:=r.un;show A.units+3+16*k+200<_;lia,r.gd⟩
theorem Room.in1{k:Nat}{A:AM}(r:Room (k+1) A):Room k A.in1 :=
 ⟨r.hd,by have:=r.dp;show A.depth+3*k+5<_;lia,by have:=r.un;show A.units+1+16*k+200<_;lia,r.gd⟩
theorem Room.depth{k:Nat}{A:AM}(r:Room k A):A.depth<recursionLimit:=by have:=r.dp;lia
theorem Room.units{k:Nat}{A:AM}(r:Room k A):A.units+64<cLine:=by have:=r.un;lia
theorem Room.units0{k:Nat}{A:AM}(r:Room k A):A.units<cLine:=by have:=r.un;lia
noncomputable def tNil:TA:=λ_ H Q=>Q [] H
noncomputable def tCons(ta:TE)(tr:TA):TA:=λσ H Q=>ta σ H λx H1=>tr σ H1 λxs H2=>Q (x::xs) H2
section
variable {X:Cx}{e:Expr}{es:List Expr}{te:TE}{t:TA}{pos:Pos}
theorem zab:PA X [] tNil:=λ_ _ _ _ H Q I h=>Calls.spliced_nil ⟨[],H,I,.nil,h⟩
theorem zah(ha:PE X e te)(hr:PA X es t)(hs:Bl (e::es) X.env=(false,eval e X.env)::Bl es X.env:=by rfl):PA X (e::es) (tCons te t):=by intro pos pins s σ H Q I h;rw[hs];show Ao _ _ (spliced ((false,eval e X.env)::backTo pos (Bl es X.env))) _ _ s;refine Cj (thn (ha pins s σ H _ I h) λu s1 ⟨x,H1,I1,r1,q1⟩=>?_);exact thn (hr pos pins s1 σ H1 _ I1 q1) λus s2 ⟨xs,H2,I2,r2,q2⟩=>⟨x::xs,H2,I2,.cons r1 r2,q2⟩
noncomputable def tTup(t:TA):TE:=λσ H Q=>t σ H λxs H1=>xs.length<=sizeLine/\∀p,H1 p=none->Q (.ref p) (upd H1 p (.tup xs))
noncomputable def tLst(t:TA):TE:=λσ H Q=>t σ H λxs H1=>xs.length<=sizeLine/\∀p,H1 p=none->Q (.ref p) (upd H1 p (.lst xs))
theorem zas{x1}(h:PA X es t):PE X (.Tuple es x1 pos) (tTup t):=by intro pins s σ H Q I hq;refine wpAny_Tuple_spliced (thn (h pos pins s σ H _ I hq) λus s1 ⟨xs,H1,I1,r,z,q⟩=>⟨by rw[<- r.length];exact z,?_⟩);have hf:H1 s1.heap.objs.size=none:=I1.hok.fresh (Ak _);refine⟨.ref s1.heap.objs.size,upd H1 s1.heap.objs.size (.tup xs),I1.laid (t':=s1.toks) (λb u e=>Af _ e) (Ak _) ?_,rfl,q _ hf⟩;exact⟨z,us,r,⟨_,AI _ rfl,rfl,_,rfl⟩⟩
theorem zaV(h:PA X es t):PE X (.List es pos) (tLst t):=by intro pins s σ H Q I hq;refine wpAny_List_spliced (thn (h pos pins s σ H _ I hq) λus s1 ⟨xs,H1,I1,r,z,q⟩=>⟨by rw[<- r.length];exact z,?_⟩);have hf:H1 s1.heap.objs.size=none:=I1.hok.fresh (Ak _);refine⟨.ref s1.heap.objs.size,upd H1 s1.heap.objs.size (.lst xs),I1.laid (t':=s1.toks) (λb u e=>Af _ e) (Ak _) ?_,rfl,q _ hf⟩;exact⟨z,us,0,r,AI _ rfl⟩
end
noncomputable abbrev Sp:=List V->Hp->VK->XK->Prop
noncomputable abbrev CXT:=List Env->Hp->Ac->XK->Value->Ac->Prop
structure Env0 (P:AD) (w:A5) (K:W.Frag) (mg:Str->Option Value) (base:Heap) (A:AM) (outer:List Env) (s:Ac) (H:Hp):Prop where
 frames:A.frames=some outer
 mod:Mod K mg base
 bs:∀b o,base.get? b=some o->s.heap.get? b=some o/\H b=none
 bsz:base.objs.size<=s.heap.objs.size
 funs:s.heap.FunFrames base outer
 frf:∀b∈frs outer,H b=none
 hok:HOk P w H s.heap
 bare:AllBare s.gens
noncomputable def CE(outer:List Env)(P:AD)(w:A5)(H:Hp)(s:Ac)(Q:VK)(u:Value)(s':Ac):Prop :=
 ∃v H',s'.os=s.os/\AllBare s'.gens/\Un (frs outer) [] H H' s.heap s'.heap/\HOk P w H' s'.heap/\RelV v u/\Q v H'
noncomputable def CR(CX:CXT)(outer:List Env)(P:AD)(w:A5)(H:Hp)(s:Ac)(Q:VK)(E:XK)(r:Result)(s':Ac):Prop :=
 match r with
 |.ok (.ret u)=>CE outer P w H s Q u s'
 |.ok _=>False
 |.error e=>CX outer H s E e s'
structure FnOk (P:AD) (w:A5) (K:W.Frag) (mg:Str->Option Value) (base:Heap) (CX:CXT) (k:Nat) (f:Addr) (fd:Bz) (ps:List Str) (sp:Sp):Prop where
 len:∀vs H Q E,sp vs H Q E->vs.length=ps.length
 run:∀(A:AM) (outer:List Env) (s:Ac) (H:Hp) (args:Args) (us:List Value) (vs:List V) (Q:VK) (E:XK),Room k A->Env0 P w K mg base A outer s H->BindsTo s fd args (ps.zip us)->Vals vs us->sp vs H Q E ->
  Co (Au P w) A (.call (.ref f) args) (CR CX outer P w H s Q E) s
theorem FnOk.imp{P:AD}{w:A5}{K:W.Frag}{mg:Str -> Option Value}{base:Heap}{CX:CXT}{k:Nat}{f:Addr}{fd:Bz}{ps:List Str}{sp sp':Sp}(F:FnOk P w K mg base CX k f fd ps sp)
  (h:∀vs H Q E,sp' vs H Q E->sp vs H Q E):FnOk P w K mg base CX k f fd ps sp' :=
 ⟨λvs H Q E q=>F.len vs H Q E (h _ _ _ _ q),λA outer s H args us vs Q E hr he hb hv hs=>F.run A outer s H args us vs Q E hr he hb hv (h _ _ _ _ hs)⟩
theorem Env0.in1{P:AD}{w:A5}{K:W.Frag}{mg:Str -> Option Value}{base:Heap}{A:AM}{outer:List Env}{s:Ac}{H:Hp}(e:Env0 P w K mg base A outer s H) :
  Env0 P w K mg base A.in1 outer s H:=⟨e.frames,e.mod,e.bs,e.bsz,e.funs,e.frf,e.hok,e.bare⟩
section
variable {X:Cx}{pins:List (Addr×Obj)}{σ:St}{H:Hp}{s s':Ac}
theorem Inv.env0(I:Inv X pins σ H s):Env0 X.prog X.w X.K X.mg X.base X.A X.stack s H :=
 ⟨I.ok.frames,I.ok.mod,I.bs,A3 I.ok.bsz I.sz,I.stack,I.stkFree,I.hok,I.bare⟩
theorem Inv.after{Q:VK}{u:Value}(I:Inv X pins σ H s)(h:CE X.stack X.prog X.w H s Q u s'):EP X pins σ Q u s':=by obtain⟨v,H',os,bare,un,hok,r,q⟩:=h;obtain⟨hh,g,d,t,os'⟩:=s';obtain rfl:os'=s.os:=os;exact⟨v,H',I.call (h':=hh) (g':=g) (d':=d) (t':=t) (ch:=[]) un hok bare (λb z=>absurd z (by simp)),r,q⟩
end
noncomputable def tCall(sp:Sp)(dvs:List V)(E:XK)(t:TA):TE:=λσ H Q=>t σ H λvs H1=>sp (vs++dvs) H1 Q E
noncomputable def Binds(K:W.Frag)(fd:Bz)(ps:List Str)(ds:List Value):Prop :=
 ∀(s:Ac) (us:List Value),K.In s.heap->(us++ds).length=ps.length->BindsTo s fd ⟨us,[]⟩ (ps.zip (us++ds))
theorem Binds.all{K:W.Frag}{fd:Bz}{ps:List Str}(h:∀us:List Value,us.length=ps.length->Dz fd ⟨us,[]⟩=pure (ps.zip us)):Binds K fd ps []:=λs us _ hl=>by rw[Bf]at hl ⊢;exact .of_eq (h us hl)
noncomputable def zha(CX:CXT)(X:Cx)(E:XK):Prop:=∀(pins:List (Addr×Obj)) (σ:St) (H:Hp) (s:Ac) (e:Value) (s':Ac),Inv X pins σ H s->CX X.stack H s E e s'->X.xe e s'
section
variable {X:Cx}{CX:CXT}{k:Nat}{f C:Addr}{fd:Bz}{ps:List Str}{sp:Sp}{dvs:List V}{ds:List Value}{E:XK}{x m:Str}{p pos apos:Pos}{e o:Expr}{es:List Expr}{ta:TE}{t:TA}
theorem znb{pins:List (Addr × Obj)}{σ : St}{H:Hp}{s:Ac}{Q:VK}{us:List Value}{vs:List V}(F:FnOk X.prog X.w X.K X.mg X.base CX k f fd ps sp)(hr:Room k X.A)(hb:Binds X.K fd ps ds)(hd:Vals dvs ds)(hx:zha CX X E)
  (I:Inv X pins σ H s) (r:Vals vs us) (h:sp (vs++dvs) H Q E):Ao (Au X.prog X.w) X.A (call (.ref f) us) (EP X pins σ Q) X.xe s:=by
 have r2:Vals (vs++dvs) (us++ds):=r.append hd;have hl:(us++ds).length=ps.length:=by rw[<- r2.length];exact F.len _ _ _ _ h
 refine wpAny_call (codeAny_mono (F.run X.A X.stack s H ⟨us,[]⟩ (us++ds) (vs++dvs) Q E hr I.env0 (hb s us I.kIn hl) r2 h) λr s' hq=>?_)
 cases r with
 |error e=>exact hx pins σ H s e s' I hq
 |ok fl =>
  cases fl with
  |ret u=>exact I.after hq
  |next=>exact Bu hq
  |brk=>exact Bu hq
  |cont=>exact Bu hq
theorem zjL(F:FnOk X.prog X.w X.K X.mg X.base CX k f fd ps sp)(hr:Room k X.A)(hg:Gl X x)(hm:X.mg x=some (.ref f))(hk:DN X.K (.ref f)=true)(hb:Binds X.K fd ps ds)(hd:Vals dvs ds)(hx:zha CX X E)
  (ha:PA X (e::es) t) (hdb:(x == ("__debug__" : Str))=false:=by decide) (he:Bl (e::es) X.env=(false,eval e X.env)::Bl es X.env:=by rfl) (hpl:(backTo pos (Bl es X.env)).any (·.1)=false:=by rfl) :
  PE X (.Call (.Name x p) (e::es) [] pos) (tCall sp dvs E t):=by
 intro pins s σ H Q I h;refine Da (zfU I hg hm ?_ hdb);refine W.callWith_K (h₀:=X.base) I.ok.mod.kin hk (thn (ha pos pins s σ H _ I h) λus s1 ⟨vs,H1,I1,r,q⟩=>⟨I1.kIn,?_⟩) he hpl;exact znb F hr hb hd hx I1 r q
structure Mk (K:W.Frag) (C f:Addr):Prop where
 makes:W.makesIn K C=true
 init:Cy K (.ref C) "__init__" = some (some (.ref f))
 fn:W.isFn K (.ref f)=true
 kp:DN K (.ref C)=true
end
noncomputable def PK(X:Cx)(kws:List Keyword)(t:TA):Prop :=
 ∀(pos:Pos) (pins:List (Addr×Obj)) (s:Ac) (σ:St) (H:Hp) (Q:List V->Hp->Prop),Inv X pins σ H s->t σ H Q->Ao (Au X.prog X.w) X.A (evalAll ((DO pos (CI kws X.env)).map (·.2))) (AP X pins σ Q) X.xe s
section
variable {X:Cx}{CX:CXT}{k:Nat}{f C:Addr}{fd:Bz}{ps ks:List Str}{sp:Sp}{E:XK}{x m:Str}{p pos apos kpos:Pos}{e o:Expr}{es:List Expr}{kws:List Keyword}{te ta:TE}{t tk:TA}{nm:Option Str}
theorem zlL:PK X [] tNil:=λ_ _ _ _ H Q I h=>wpAny_evalAll_nil ⟨[],H,I,.nil,h⟩
theorem zjI(ha:PE X e te)(hr:PK X kws t):PK X (⟨nm,e,kpos⟩::kws) (tCons te t):=by intro pos pins s σ H Q I h;show Ao _ _ (evalAll ((do let v <- eval e X.env;standAt pos;pure v)::(DO pos (CI kws X.env)).map (·.2))) _ _ s;refine wpAny_evalAll_cons (Ab (thn (ha pins s σ H _ I h) λu s1 ⟨x,H1,I1,r1,q1⟩=>Ab (CH (Ae ?_))));exact thn (hr pos pins s1 σ H1 _ I1 q1) λus s2 ⟨xs,H2,I2,r2,q2⟩=>⟨x::xs,H2,I2,.cons r1 r2,q2⟩
structure KBinds (K:W.Frag) (fd:Bz) (ps ks:List Str) (g:List Value->List Value->List Value) (gV:List V->List V->List V):Prop where
 to:∀(s:Ac) (us ws:List Value),K.In s.heap->(g us ws).length=ps.length->BindsTo s fd ⟨us,ks.zip ws⟩ (ps.zip (g us ws))
 rel:∀{vs:List V} {us:List Value} {zs:List V} {ws:List Value},Vals vs us->Vals zs ws->Vals (gV vs zs) (g us ws)
variable {g:List Value->List Value->List Value}{gV:List V->List V->List V}
end
structure FnScope (N P:List Str) (sc:Scope):Prop where
 kind:sc.kind=.function
 co:sc.isCoroutine=false
 gen:sc.isGenerator=false
 nd:N.Nodup
 pre:N.take P.length=P
 par:∀x∈P,sc.names.lookup x=some .local∨sc.names.lookup x=some .cell
 nofree:∀y∈sc.names,y.2≠.free
theorem zg6{kindOf:Str->Option NameKind}{x:Str}:∀{binds:List (Str×Value)}{m:Str->Option Value},(∀v,(x,v) ∉ binds)->bindL kindOf binds m x=m x
 |[],_,_=>rfl
 | (n,v)::r,m,h=>by
  unfold bindL;rw[zg6 λw hw=>h w (Aq _ hw)];split
  .have:x≠n:=by rintro rfl;exact h v Ax
   simp[this]
  .rfl
theorem zg8{kindOf:Str->Option NameKind}{x:Str}:∀{binds:List (Str×Value)}{m:Str->Option Value},(∀v,(x,v) ∉ binds)->bindC kindOf binds m x=m x
 |[],_,_=>rfl
 | (n,v)::r,m,h=>by
  unfold bindC;rw[zg8 λw hw=>h w (Aq _ hw)];split
  .rfl
  .have:x≠n:=by rintro rfl;exact h v Ax
   simp[this]
theorem zg7{kindOf:Str -> Option NameKind}{x:Str}{v:Value} : ∀{P:List Str}{vs:List Value}{i:Nat}{m:Str -> Option Value}, P.Nodup -> P[i]? = some x -> vs[i]? = some v -> kindOf x=some .local ->
  bindL kindOf (P.zip vs) m x=some v
 |[],_,_,_,_,h,_,_=>by simp at h
 |_::_,[],_,_,_,_,h,_=>by simp at h
 |p::P,w::vs,0,m,nd,h1,h2,hk=>by
  simp at h1 h2;subst h1;subst h2;show bindL kindOf ((p,w)::P.zip vs) m p=_;unfold bindL;rw[zg6 λv hv=>(BJ.mp nd).1 (List.of_mem_zip hv).1,if_pos hk];simp
 |p::P,w::vs,i+1,m,nd,h1,h2,hk=>by
  show bindL kindOf ((p,w)::P.zip vs) m x=_;unfold bindL;exact zg7 (i:=i) (BJ.mp nd).2 (by simpa using h1) (by simpa using h2) hk
theorem zg9{kindOf:Str -> Option NameKind}{x:Str}{v:Value} : ∀{P:List Str}{vs:List Value}{i:Nat}{m:Str -> Option Value}, P.Nodup -> P[i]? = some x -> vs[i]? = some v -> kindOf x ≠ some .local ->
  bindC kindOf (P.zip vs) m x=some v
 |[],_,_,_,_,h,_,_=>by simp at h
 |_::_,[],_,_,_,_,h,_=>by simp at h
 |p::P,w::vs,0,m,nd,h1,h2,hk=>by
  simp at h1 h2;subst h1;subst h2;show bindC kindOf ((p,w)::P.zip vs) m p=_;unfold bindC;rw[zg8 λv hv=>(BJ.mp nd).1 (List.of_mem_zip hv).1,if_neg hk];simp
 |p::P,w::vs,i+1,m,nd,h1,h2,hk=>by
  show bindC kindOf ((p,w)::P.zip vs) m x=_;unfold bindC;exact zg9 (i:=i) (BJ.mp nd).2 (by simpa using h1) (by simpa using h2) hk
noncomputable def start(N:List Str)(vs:List V):St:=vs.map some++Ah (N.length-vs.length) none
noncomputable def cxOf(CX:CXT)(P:AD)(w:A5)(K:W.Frag)(mg:Str->Option Value)(base:Heap)(N:List Str)(qual:Str)(scope:Scope)(f:Addr)(cd:Value)(A:AM)(outer:List Env)(s:Ac)(H:Hp)(E:XK):Cx where
 prog:=P
 w:=w
 K:=K
 mg:=mg
 base:=base
 A:=A.deeper (envOfC qual scope s.heap.objs.size f cd)
 N:=N
 s₀:=s
 H₀:=H
 env:=envOfC qual scope s.heap.objs.size f cd
 outer:=outer
 stack:=envOfC qual scope s.heap.objs.size f cd::outer
 ex:=[]
 calm:=true
 fn:=λ_=>true
 pn:=[]
 xe:=λe s'=>Ao (Au P w) (A.deeper (envOfC qual scope s.heap.objs.size f cd)) (leaving (envOfC qual scope s.heap.objs.size f cd) e) (λ_ s''=>CX outer H s E e s'') (λe' s''=>CX outer H s E e' s'') s'
theorem ziF{sc:Scope}{n:Nat}{x:Str}(h:sc.names.lookup x=some .cell):∃c,(cellsFrom n sc.names []).lookup x=some c:=by have q:=W.cellsFrom_some sc.names n [] (.inl h);exact Option.isSome_iff_exists.mp q
theorem zkh{CX:CXT}{P:AD}{w:A5}{K:W.Frag}{mg:Str -> Option Value}{base:Heap}{N ps:List Str}{qual:Str}{scope:Scope}{f:Addr}{cd:Value}{A:AM}{outer:List Env}{s s1:Ac}{H:Hp}{E:XK}{us:List Value}{vs:List V}
  (S:FnScope N ps scope) (hd:A.handled=none) (e0:Env0 P w K mg base A outer s H) (hl:vs.length=ps.length) (r:Vals vs us)
  (x:InCallC s s.heap.objs.size (bindL (envOfC qual scope s.heap.objs.size f cd).kindOf (ps.zip us) λ_=>none) (cellsFrom (s.heap.objs.size+1) scope.names []) (bindC (envOfC qual scope s.heap.objs.size f cd).kindOf (ps.zip us) λ_=>none) s1) :
  Inv (cxOf CX P w K mg base N qual scope f cd A outer s H E) [] (start N vs) H s1:=by
 have hpl:ps.length<=N.length:=by have:=congrArg List.length S.pre;rw[AR]at this;lia
 obtain⟨h1,tk,rfl,hk⟩:=x.done;have noA:∀b:Addr,b ∉ (cxOf CX P w K mg base N qual scope f cd A outer s H E).ex:=λb z=>absurd (show b∈([]:List Addr) from z) (by simp)
 refine⟨⟨e0.mod,S.kind,rfl,rfl,Ak _,λy z c h1 h2=>?_,λy hy=>?_,λy c _ h=>?_,λ_=>hd,Around.frames_deeper e0.frames,.inr ⟨rfl,rfl⟩,λb z=>absurd z (noA b),e0.bs,e0.bsz,λb _ _=>noA b,λb z=>absurd z (noA b),e0.funs,e0.frf⟩,
  rfl,e0.bare,Un.kept hk,⟨_,x.toInCall.ns,λi y v h1 h2 h3=>?_⟩,λy c h=>⟨_,x.cell y c h⟩,e0.hok.fresh (Ak _),λy c h=>?_,λp hp=>absurd (show p∈([]:List (Addr×Obj)) from hp) (by simp),e0.hok.kept hk,?_⟩
 .exact name_of_addr x.apart (CA h1) (CA h2)
 .have hy:scope.names.lookup y=some .cell∨scope.names.lookup y=some .free:=hy;rcases hy with hy |hy
  .exact ziF hy
  .exact absurd rfl (S.nofree _ (CA hy))
 .exact B6 (x.above y c (CA h))
 .have hi:i < vs.length := by
   unfold start at h2
   by_cases hi:i<vs.length
   .exact hi
   .rw[AK (by simpa using hi)]at h2;rw[List.getElem?_replicate]at h2;split at h2 <;> cases h2
  have ha:vs[i]?=some v:=by
   unfold start at h2;rw[Aw (by simpa using hi),AF]at h2
   cases e:vs[i]? with
   |none=>rw[e]at h2;cases h2
   |some a=>rw[e]at h2;cases h2;rfl
  obtain⟨u,hu,rv⟩:=r.get ha
  have hp:ps[i]?=some y:=by rw[<- S.pre,List.getElem?_take_of_lt (by lia)];exact h1
  have ndP:ps.Nodup:=by rw[<- S.pre];exact S.nd.sublist (B7 _ _)
  refine⟨u,rv,?_⟩;rcases S.par y (Ai hp) with k |k
  .exact .inl ⟨k,zg7 ndP hp hu k⟩
  .obtain⟨c,e⟩:=ziF (n:=s.heap.objs.size+1) k;refine .inr ⟨.inl k,c,e,?_⟩;have q:=x.cell y c e;rw[zg9 ndP hp hu (by show scope.names.lookup y≠_;rw[k];decide)]at q;exact q
 .exact e0.hok.fresh (B6 (x.above y c (CA h)))
 .unfold start;show _=N.length;rw[Am,Ap,Cg];lia
theorem fn_of{CX:CXT}{P:AD}{w:A5}{K:W.Frag}{mg:Str -> Option Value}{base:Heap}{k:Nat}{f:Addr}{name qual:Str}{params:Arguments}{body:List Stmt}{scope:Scope}{dV kV doc pm cdv ct oc:Value}{an od:Option Addr}
  {osl:Array (Option Value)} {N ps:List Str} {sp:Sp} (lk:K.lookup f=some ⟨oc,od,.func (Db name qual params body scope dV kV doc pm an cdv ct),osl⟩) (hcd:W.codeIn K cdv qual=true) (S:FnScope N ps scope)
  (len:∀vs H Q E,sp vs H Q E->vs.length=ps.length)
  (hbody:∀(A:AM) (outer:List Env) (s:Ac) (H:Hp) (vs:List V) (Q:VK) (E:XK),Room k (A.deeper (envOfC qual scope s.heap.objs.size f cdv))->sp vs H Q E ->
   ∃t,PSs (cxOf CX P w K mg base N qual scope f cdv A outer s H E) body t/\t { nx:=λ_ H'=>Q .non H',rt:=Q } (start N vs) H) :
  FnOk P w K mg base CX (k+1) f (Db name qual params body scope dV kV doc pm an cdv ct) ps sp:=by
 refine⟨len,λA outer s H args us vs Q E hr e0 hb r hsp=>?_⟩;have hl:=len _ _ _ _ hsp;have KX:K.In s.heap:=e0.mod.kin.keeps λb o e=>(e0.bs b o e).1
 have lim:s.heap.NoLimit:=e0.mod.nolimit.keeps λb o e=>(e0.bs b o e).1
 have hkind:∀y∈ps.zip us,scope.names.lookup y.1=some .local∨(scope.names.lookup y.1=some .cell/\((cellsFrom (s.heap.objs.size+1) scope.names []).lookup y.1).isSome=true):=λ⟨n,v⟩ hy=>by
  rcases S.par n (List.of_mem_zip hy).1 with q |q
  .exact .inl q
  .exact .inr ⟨q,W.cellsFrom_some _ _ _ (.inl q)⟩
 refine codeAny_call_function hr.depth (KX _ _ lk) rfl S.co S.gen rfl (W.codeRec_of KX hcd) (hb _ _ _ _ ?_);refine wpAny_newFunctionEnv_cells S.kind hkind λenv he s1 x=>?_
 subst he;refine⟨lim.keeps x.toInCall.keep,codeAny_func ?_⟩;obtain⟨t,ht,hq⟩:=hbody A outer s H vs Q E (hr.deeper _) hsp;have I:Inv (cxOf CX P w K mg base N qual scope f cdv A outer s H E) [] (start N vs) H s1:=zkh S hr.hd e0 hl r x;refine BF (ht [] s1 (start N vs) H _ I hq) (λfl s' hs=>?_) λe s' hs=>hs
 have fin:∀{σ':St} {H':Hp} {v:V} {u:Value},Inv (cxOf CX P w K mg base N qual scope f cdv A outer s H E) [] σ' H' s'->RelV v u->Q v H'->CE outer P w H s Q u s' :=
  λ{σ' H' v u} J rv q=>⟨v,H',J.os,J.bare,J.base,J.hok,rv,q⟩
 cases fl with
 |ret u =>
  obtain⟨v,σ',H',J,rv,q⟩:=hs;exact fin J rv q
 |next =>
  obtain⟨σ',H',J,q⟩:=hs;exact fin (v:=V.non) (u:=BE) J rfl q
 |brk =>
  obtain⟨_,_,_,q⟩:=hs;exact Bu q
 |cont =>
  obtain⟨_,_,_,q⟩:=hs;exact Bu q
section
variable {X:Cx}{x:Str}{p pos:Pos}{e:Expr}{es:List Expr}{t:TA}{id T:String}{r:List V->Hp->VK->Prop}
noncomputable def tCB(r:List V->Hp->VK->Prop)(t:TA):TE:=λσ H Q=>t σ H λvs H1=>r vs H1 Q
theorem zap (hc:CallR X (.builtin id) r) (hg:Gl X x) (hm:X.mg x=none) (hv:bootBuiltins x=some (.builtin id)) (ha:PA X (e :: es) t) (hn:x ≠ "__name__" := by decide) (hdb:(x == ("__debug__" : Str))=false := by decide)
  (he:Bl (e::es) X.env=(false,eval e X.env)::Bl es X.env:=by rfl) (hpl:(backTo pos (Bl es X.env)).any (·.1)=false:=by rfl):PE X (.Call (.Name x p) (e::es) [] pos) (tCB r t):=by
 intro pins s σ H Q I h;refine Da (zer I hg hm hv ?_ hn hdb);exact PyProof.Rows.callWith_builtin1 (thn (ha pos pins s σ H _ I h) λus s1 ⟨vs,H1,I1,r1,q1⟩=>hc pins s1 σ H1 vs us Q I1 r1 q1) he hpl
theorem za9 (hc:CallR X (.type T) r) (hg:Gl X x) (hm:X.mg x=none) (hv:bootBuiltins x=some (.type T)) (ha:PA X (e :: es) t) (hn:x ≠ "__name__" := by decide) (hdb:(x == ("__debug__" : Str))=false := by decide)
  (he:Bl (e::es) X.env=(false,eval e X.env)::Bl es X.env:=by rfl) (hpl:(backTo pos (Bl es X.env)).any (·.1)=false:=by rfl):PE X (.Call (.Name x p) (e::es) [] pos) (tCB r t):=by
 intro pins s σ H Q I h;refine Da (zer I hg hm hv ?_ hn hdb);exact Dr (thn (ha pos pins s σ H _ I h) λus s1 ⟨vs,H1,I1,r1,q1⟩=>hc pins s1 σ H1 vs us Q I1 r1 q1) he hpl
end
section
variable {κ:Type} [DecidableEq κ]
noncomputable def valV(kvs:List (κ×V))(k:κ):Option V:=(kvs.find? λkv=>decide (kv.1=k)).map (·.2)
noncomputable def putK(kvs:List (κ×V))(k:κ)(v:V):List (κ×V) :=
 if (kvs.any λkv=>decide (kv.1=k))=true then kvs.map (λkv=>if kv.1=k then (kv.1,v) else kv) else kvs++[(k,v)]
noncomputable def dropK(kvs:List (κ×V))(k:κ):List (κ×V):=kvs.filter λkv=>decide (kv.1≠k)
theorem zbc{p:κ×V}{r:List (κ×V)}{k:κ}(e:p.1=k):valV (p::r) k=some p.2:=by simp[valV,CU,e]
theorem zbd{p:κ×V}{r:List (κ×V)}{k:κ}(e:¬ p.1=k):valV (p::r) k=valV r k:=by simp[valV,CU,e]
theorem zcN(k:κ):∀kvs:List (κ×V),(kvs.any λkv=>decide (kv.1=k))=(valV kvs k).isSome
 |[]=>rfl
 |p::r=>by
  rw[List.any_cons]
  by_cases e:p.1=k
  .simp only[zbc e,decide_eq_true e,Bool.true_or,Option.isSome_some]
  .rw[zbd e,decide_eq_false e,Bool.false_or];exact zcN k r
theorem zhQ(k j:κ)(y:V):∀kvs:List (κ×V),valV (kvs.map λkv=>if kv.1=k then (kv.1,y) else kv) j=(valV kvs j).map λx=>if j=k then y else x
 |[]=>rfl
 |p::r=>by
  have ih:=zhQ k j y r;rw[A9]
  by_cases h:p.1=k
  .rw[if_pos h]
   by_cases e:p.1=j
   .rw[zbc (p:=(p.1,y)) e,zbc e,Dk,if_pos (e.symm.trans h)]
   .rw[zbd (p:=(p.1,y)) e,zbd e,ih]
  .rw[if_neg h]
   by_cases e:p.1=j
   .rw[zbc (p:=p) e,zbc e,Dk,if_neg (λz=>h (e.trans z))]
   .rw[zbd (p:=p) e,zbd e,ih]
theorem zgj(k j:κ)(y:V):∀kvs:List (κ×V),valV kvs k=none->valV (kvs++[(k,y)]) j=if j=k then some y else valV kvs j
 |[],_=>by
  by_cases e:k=j
  .rw[if_pos e.symm];exact zbc (p:=(k,y)) e
  .rw[if_neg (λz=>e z.symm)];exact zbd (p:=(k,y)) e
 |p::r,hn=>by
  rw[List.cons_append];have hk:¬ p.1=k:=λz=>by rw[zbc z]at hn;cases hn
  rw[zbd hk]at hn;have ih:=zgj k j y r hn
  by_cases e:p.1=j
  .rw[zbc e,zbc e,if_neg (λz=>hk (e.trans z))]
  .rw[zbd e,zbd e,ih]
theorem zcM(kvs:List (κ×V))(k j:κ)(y:V):valV (putK kvs k y) j=if j=k then some y else valV kvs j:=by
 unfold putK
 by_cases a:(kvs.any λkv=>decide (kv.1=k))=true
 .rw[if_pos a,zhQ];rw[zcN]at a
  by_cases e:j=k
  .obtain⟨x,hx⟩:=Option.isSome_iff_exists.mp a;rw[if_pos e,e,hx,Dk,if_pos rfl]
  .rw[if_neg e]
   cases valV kvs j with
   |none=>rfl
   |some x=>rw[Dk,if_neg e]
 .rw[if_neg a];refine zgj k j y kvs ?_
  rw[zcN]at a
  cases q:valV kvs k with
  |none=>rfl
  |some x=>rw[q]at a;exact (a rfl).elim
theorem zaP(kvs:List (κ×V))(k:κ)(v:V):(putK kvs k v).length<=kvs.length+1:=by
 unfold putK;split
 .rw[Ap];lia
 .rw[Am,A4,Cc];lia
theorem zfy{kvs:List (κ×V)}{k:κ}(v:V)(h:valV kvs k=none):putK kvs k v=kvs++[(k,v)]:=by unfold putK;rw[zcN,h];exact if_neg (by decide)
theorem RelO.isSome_eq{o:Option V}{u:Option Value}(r:RelO o u):o.isSome=u.isSome:=by
 cases o with
 |none=>cases u with
  |none=>rfl
  |some _=>exact (show False from r).elim
 |some _=>cases u with
  |none=>exact (show False from r).elim
  |some _=>rfl
theorem RelO.getD{o:Option V}{u:Option Value}{d:V}{d':Value}(r:RelO o u)(rd:RelV d d'):RelV (o.getD d) (u.getD d'):=by
 cases o with
 |none=>cases u with
  |none=>exact rd
  |some _=>exact (show False from r).elim
 |some _=>cases u with
  |none=>exact (show False from r).elim
  |some _=>exact r
theorem KV.val{kvs:List (κ×V)}{vs:List (κ×Value)}(r:KV kvs vs)(k:κ):RelO (valV kvs k) (valueAt vs k):=by
 unfold KV at r
 induction r with
 |nil=>exact Ci
 |@cons p q ps qs h t ih =>
  obtain⟨h1,h2⟩:=h
  by_cases e:p.1=k
  .have e':q.1=k:=h1.symm.trans e;have b:valueAt (q::qs) k=some q.2:=by simp[valueAt,CU,e']
   rw[zbc e,b];exact h2
  .have e':¬ q.1=k:=λz=>e (h1.trans z)
   have b:valueAt (q::qs) k=valueAt qs k:=by simp[valueAt,CU,e']
   rw[zbd e,b];exact ih
theorem KV.any{kvs:List (κ×V)}{vs:List (κ×Value)}(r:KV kvs vs)(k:κ):(kvs.any λkv=>decide (kv.1=k))=vs.any λkv=>decide (kv.1=k):=by
 unfold KV at r
 induction r with
 |nil=>rfl
 |cons h t ih=>rw[List.any_cons,List.any_cons,ih,h.1]
theorem KV.repl{kvs:List (κ × V)}{vs:List (κ × Value)}(r:KV kvs vs)(k : κ){y:V}{u:Value}(ry:RelV y u) :
  KV (kvs.map λkv=>if kv.1=k then (kv.1,y) else kv) (vs.map λkv=>if kv.1=k then (kv.1,u) else kv):=by
 unfold KV at r ⊢
 induction r with
 |nil=>exact .nil
 |@cons p q ps qs h t ih =>
  rw[A9,A9];refine .cons ?_ ih;obtain⟨h1,h2⟩:=h
  by_cases e:p.1=k
  .rw[if_pos e,if_pos (h1.symm.trans e)];exact⟨h1,ry⟩
  .rw[if_neg e,if_neg (λz=>e (h1.trans z))];exact⟨h1,h2⟩
theorem KV.put{kvs:List (κ×V)}{vs:List (κ×Value)}(r:KV kvs vs)(k:κ){y:V}{u:Value}(ry:RelV y u):KV (putK kvs k y) (stored vs k u):=by
 unfold putK stored;rw[r.any k]
 by_cases e:(vs.any λkv=>decide (kv.1=k))=true
 .rw[if_pos e,if_pos e];exact r.repl k ry
 .rw[if_neg e,if_neg e];exact Paired.snoc r ⟨rfl,ry⟩
theorem KV.length{kvs:List (κ×V)}{vs:List (κ×Value)}(r:KV kvs vs):kvs.length=vs.length:=C0 r
theorem zlo(kvs:List (κ×V))(k:κ):(dropK kvs k).length<=kvs.length:=AO _ _
end
theorem kV_is{P:AD}{w:A5}{k:Key}{u:Value}(r:RelV (kV k) u):(zaE P w).is k u=true:=by
 cases k with
 |inl i=>obtain⟨t,e⟩:=(show ∃t,u=Value.int i t from r);subst e;exact zhB P w i t
 |inr x=>obtain⟨t,e⟩:=(show ∃t,u=Value.str x t from r);subst e;exact zbT P w x t
theorem zgW{P:AD}{w:A5}:∀{ks:List Key}{us:List Value},Vals (ks.map kV) us->ItemsAre (zaE P w) ks us
 |[],_,r=>by rw[List.map_nil]at r;cases r;exact .nil
 |k::ks,_,r=>by
  rw[A9]at r
  cases r with
  |cons h t=>exact .cons (kV_is h) (zgW t)
noncomputable abbrev KT(H:Hp):List (List Key×V)->List (List Key×Addr×Value)->Prop:=Paired λp q=>p.1=q.1/\H q.2.1=some (.tup (p.1.map kV))/\RelV p.2 q.2.2
theorem KT.val{H:Hp}{kvs:List (List Key×V)}{xs:List (List Key×Addr×Value)}(r:KT H kvs xs)(k:List Key):RelO (valV kvs k) ((DP xs k).map (·.2)):=by
 induction r with
 |nil=>exact Ci
 |@cons p q ps qs h t ih =>
  obtain⟨h1,_,h2⟩:=h
  by_cases e:p.1=k
  .have e':q.1=k:=h1.symm.trans e;have b:DP (q::qs) k=some q.2:=by simp[DP,CU,e']
   rw[zbc e,b];exact h2
  .have e':¬ q.1=k:=λz=>e (h1.trans z)
   have b:DP (q::qs) k=DP qs k:=by simp[DP,CU,e']
   rw[zbd e,b];exact ih
theorem KT.repl{H:Hp}{kvs:List (List Key × V)}{xs:List (List Key × Addr × Value)}(r:KT H kvs xs)(k:List Key){y:V}{u:Value}(ry:RelV y u) :
  KT H (kvs.map λkv=>if kv.1=k then (kv.1,y) else kv) (xs.map (putAt k u)):=by
 induction r with
 |nil=>exact .nil
 |@cons p q ps qs h t ih =>
  rw[A9,A9];refine .cons ?_ ih;obtain⟨h1,h2,h3⟩:=h;unfold putAt
  by_cases e:p.1=k
  .rw[if_pos e,if_pos (h1.symm.trans e)];exact⟨h1,h2,ry⟩
  .rw[if_neg e,if_neg (λz=>e (h1.trans z))];exact⟨h1,h2,h3⟩
theorem KT.put{H:Hp}{kvs:List (List Key × V)}{xs:List (List Key × Addr × Value)}(r:KT H kvs xs)(k:List Key){b:Addr}{y:V}{u:Value}(hb:H b=some (.tup (k.map kV)))(ry:RelV y u) :
  KT H (putK kvs k y) (storedH xs k b u):=by
 have e:(kvs.any λkv=>decide (kv.1=k))=(DP xs k).isSome:=by rw[zcN,(r.val k).isSome_eq,Option.isSome_map]
 unfold putK storedH;rw[e]
 by_cases q:(DP xs k).isSome=true
 .rw[if_pos q,if_pos q];exact r.repl k ry
 .rw[if_neg q,if_neg q];exact Paired.snoc r ⟨rfl,hb,ry⟩
theorem KT.keeps{H H':Hp}{kvs:List (List Key×V)}{xs:List (List Key×Addr×Value)}(r:KT H kvs xs)(ht:∀b ys,H b=some (.tup ys)->H' b=some (.tup ys)):KT H' kvs xs :=
 Paired.mapP r λ_ _ z=>⟨z.1,ht _ _ z.2.1,z.2.2⟩
section
variable {P:AD}{w:A5}{H:Hp}{h:Heap}{a:Addr}
theorem rd_of{u:HO}(ok:HOk P w H h)(e:Rd H a u):ObjOk P w H h a u:=e.ok ok
theorem dk_rd{kvs:List (Key×V)}(ok:HOk P w H h)(e:Rd H a (.dK kvs)):kvs.length<=sizeLine/\(a == BR)=false/\∃vs,KV kvs vs/\h.DictOf (zaE P w) a vs :=
 show ObjOk P w H h a (.dK kvs) from rd_of ok e
theorem dk_of{kvs:List (Key×V)}(ok:HOk P w H h)(e:H a=some (.dK kvs)):kvs.length<=sizeLine/\(a == BR)=false/\∃vs,KV kvs vs/\h.DictOf (zaE P w) a vs:=dk_rd ok (.inl e)
theorem zdM{ks:List Key}(ok:HOk P w H h)(e:H a=some (.tup (ks.map kV))):(DH (zaE P w)).is h ks a:=by obtain⟨_,its,r,o,h1,h2,n,h3⟩:=(show ObjOk P w H h a (.tup (ks.map kV)) from ok a _ e);exact⟨o,its.toArray,n,h1,h2,h3,by simpa using zgW r⟩
theorem dt_rd{kvs:List (List Key × V)}(ok:HOk P w H h)(e:Rd H a (.dT kvs)):kvs.length <= sizeLine /\ (a == BR)=false /\
  ∃xs,KT H kvs xs/\h.DictOfH (DH (zaE P w)) a xs:=by
 obtain⟨z,y,xs,r,o,es,ep,h1,h2,h3,h4,h5⟩:=(show ObjOk P w H h a (.dT kvs) from rd_of ok e);refine⟨z,y,xs,r,o,es,ep,h1,h2,h3,h4,λx hx=>?_,h5⟩
 have all:∀{l:List (List Key×V)} {m:List (List Key×Addr×Value)},KT H l m->∀x∈m,(DH (zaE P w)).is h x.1 x.2.1:=by
  intro l m q
  induction q with
  |nil=>intro x hx;exact nomatch hx
  |@cons p q ps qs hq t ih =>
   intro x hx;rcases AG.mp hx with e |hx
   .subst e;exact zdM ok (by rw[<- hq.1];exact hq.2.1)
   .exact ih x hx
 exact all r x hx
theorem dt_of{kvs:List (List Key × V)}(ok:HOk P w H h)(e:H a=some (.dT kvs)):kvs.length <= sizeLine /\ (a == BR)=false /\
  ∃xs,KT H kvs xs/\h.DictOfH (DH (zaE P w)) a xs:=dt_rd ok (.inl e)
end
noncomputable def DGet(H:Hp)(a:Addr)(y:V)(r:Option V):Prop :=
 (∃kvs k,Rd H a (.dK kvs)/\y=kV k/\r=valV kvs k)∨∃kvs k b,Rd H a (.dT kvs)/\y=.ref b/\H b=some (.tup (k.map kV))/\r=valV kvs k
noncomputable def DPut(H:Hp)(a:Addr)(y v:V)(H':Hp):Prop :=
 (∃kvs k,H a=some (.dK kvs)/\y=kV k/\kvs.length<sizeLine/\H'=upd H a (.dK (putK kvs k v))) ∨
 ∃kvs k b,H a=some (.dT kvs)/\y=.ref b/\H b=some (.tup (k.map kV))/\kvs.length<sizeLine/\H'=upd H a (.dT (putK kvs k v))
section
variable {X:Cx}{pins:List (Addr×Obj)}{σ:St}{H:Hp}{s:Ac}{a:Addr}{y v:V}{u r:Value}{o:Option V}{A:AM}{E:Value->Ac->Prop}
theorem Inv.big(I:Inv X pins σ H s):BR<s.heap.objs.size:=by have h:Az<s.heap.objs.size:=(I.mod.glob.keeps I.bk).lt;exact Nat.lt_trans (by decide) h
theorem d_in{Q:Value -> Ac -> Prop}(hu:A.units + 1 < cLine)(I:Inv X pins σ H s)(g:DGet H a y o)(ry:RelV y u)(h:∀s', Inv X pins σ H s' -> Q (.bool o.isSome) s') :
  Ao (Au X.prog X.w) A (Bw .In u (.ref a)) Q E s:=by
 rcases g with⟨kvs,k,e,ey,l⟩ |⟨kvs,k,b,e,ey,eb,l⟩
 .subst ey;obtain⟨z,hd,vs,rel,dd⟩:=dk_rd I.hok e;refine wpAny_in_of (kV_is ry) hd dd.mapOf ?_
  rw[<- (rel.val k).isSome_eq,<- l];exact h _ (I.tok _)
 .subst ey
  cases (show u=An b from ry)
  obtain⟨z,hd,xs,rel,dd⟩:=dt_rd I.hok e;refine wpAny_in_heap (CK hu) (zdM I.hok eb) hd dd ?_
  have q:=(rel.val k).isSome_eq;rw[Option.isSome_map]at q;rw[<- q,<- l];exact h _ (I.tok _)
theorem zmJ{Q:Value -> Ac -> Prop}(hu:A.units + 1 < cLine)(I:Inv X pins σ H s)(g:DGet H a y o)(ry:RelV y u)(h:∀s', Inv X pins σ H s' -> Q (.bool (!o.isSome)) s') :
  Ao (Au X.prog X.w) A (Bw .NotIn u (.ref a)) Q E s:=by
 rcases g with⟨kvs,k,e,ey,l⟩ |⟨kvs,k,b,e,ey,eb,l⟩
 .subst ey;obtain⟨z,hd,vs,rel,dd⟩:=dk_rd I.hok e;refine wpAny_notIn_of (kV_is ry) hd dd.mapOf ?_
  rw[<- (rel.val k).isSome_eq,<- l];exact h _ (I.tok _)
 .subst ey
  cases (show u=An b from ry)
  obtain⟨z,hd,xs,rel,dd⟩:=dt_rd I.hok e;refine wpAny_notIn_heap (CK hu) (zdM I.hok eb) hd dd ?_
  have q:=(rel.val k).isSome_eq;rw[Option.isSome_map]at q;rw[<- q,<- l];exact h _ (I.tok _)
theorem zdc{h':Heap}{t':Nat}{ob:HO}(I:Inv X pins σ H s)(mu:Mut (H a))(hs:Cn a s.heap h')(he:∃q, h'.get? a=some q)(new:ObjOk X.prog X.w (upd H a ob) h' a ob) :
  Inv X pins σ (upd H a ob) { s with heap:=h',toks:=t' } :=
 I.write (x:=a) (e:=a) mu (.inl rfl) (λb q hb z=>(hs.2 b hb).trans z) he new
theorem zko{P:AD}{w:A5}{H':Hp}{h':Heap}{kvs:List (Key × V)}{vs:List (Key × Value)}(z:kvs.length <= sizeLine)(hd:(a == BR)=false)(rel:KV kvs vs)(dd:h'.DictOf (zaE P w) a vs) :
  ObjOk P w H' h' a (.dK kvs):=⟨z,hd,vs,rel,dd⟩
theorem zks{H':Hp}{Q:Unit -> Ac -> Prop}(hu:A.units + 1 < cLine)(I:Inv X pins σ H s)(g:DPut H a y v H')(ry:RelV y u)(rv:RelV v r)(h:∀s', Inv X pins σ H' s' -> Q () s') :
  Ao (Au X.prog X.w) A (setItem (.ref a) u r) Q E s:=by
 rcases g with⟨kvs,k,e,ey,l,eH⟩ |⟨kvs,k,b,e,ey,eb,l,eH⟩
 .subst ey eH;obtain⟨z,hd,vs,rel,dd⟩:=dk_of I.hok e;have hz:vs.length<=sizeLine:=by rw[<- rel.length];exact z
  have hl:(putK kvs k v).length<=sizeLine:=by have:=zaP kvs k v;lia
  refine wpAny_setItem_pairs (hsz:=hz) (kV_is ry) dd λh' dd' hs=>h _ ?_
  have he:∃q,h'.get? a=some q:=let ⟨q,_,_,hq,_⟩:=dd';⟨q,hq⟩
  exact zdc I (by rw[e];exact Ci) hs he (zko hl hd (rel.put k rv) dd')
 .subst ey eH
  cases (show u=An b from ry)
  obtain⟨z,hd,xs,rel,dd⟩:=dt_of I.hok e;have hz:xs.length<=sizeLine:=by rw[<- C0 rel];exact z
  have hl:(putK kvs k v).length<=sizeLine:=by have:=zaP kvs k v;lia
  refine wpAny_setItem_heap (hsz:=hz) (CK hu) (zdM I.hok eb) dd λh' dd' hs=>h _ ?_
  obtain⟨q,es,ep,hq,h2,h3,h4,_,h5⟩:=dd';refine zdc I (by rw[e];exact Ci) hs ⟨q,hq⟩ ⟨hl,hd,_,(rel.put k eb rv).keeps λc ys ec=>?_,q,es,ep,hq,h2,h3,h4,h5⟩;rw[zai (ne_of ec e (λz=>nomatch z))];exact ec
end
section
variable {X:Cx}{pins:List (Addr×Obj)}{σ:St}{H:Hp}{s:Ac}{a:Addr}{kvs:List (Key×V)}{k:Key}{u:Value}{A:AM}{E:Value->Ac->Prop}
end
noncomputable def NoSl(i:Expr):Prop:=∀ov iv,subscripted i false ov iv=operate [ov,iv] (getItem ov iv)
theorem zjj{prog:AD}{w:A5}{A:AM}{E:Value -> Ac -> Prop}{s:Ac}{env:Env}{value slice:Expr}{pos:Pos}{T id:String}{Q:Value -> Ac -> Prop}
  (hl:typeLookup (.type T) "__getitem__" = pure (some (.builtin id))) (hs:NoSl slice)
  (h:Ao (Au prog w) A (eval value env) (λo s₁=>Ao (Au prog w) A (eval slice env) (λi s₂=>s₂.TypeIs o T/\Ao (Au prog w) A (getItem o i) Q E s₂) E s₁) E s) :
  Ao (Au prog w) A (eval (.Subscript value slice pos) env) Q E s:=by
 refine Subscript_ (BF h (λo s₁ h₁=>BF h₁ (λi s₂ h₂=>?_) λ_ _ x=>x) λ_ _ x=>x);obtain⟨hT,h₂⟩:=h₂;unfold subscriptTail;refine Ab ?_
 rw[getitemInPython_of_ne hT.not_modules];refine Ab (wpAny_specialOf hT hl ?_)
 have fin:Ao (Au prog w) A (subscripted slice false o i) (λr s₃=>Ao (Au prog w) A (letTemporaryGo value o r >>= λ_=>pure r) Q E s₃) E s₂:=by rw[hs o i];exact wpAny_operating (BF h₂ (λr s₃ h₃=>Ab (wpAny_letTemporaryGo (Ae h₃))) λ_ _ x=>x)
 first
  |exact Ae (Ab fin)
  |exact Ab (Ae (Ab fin))
  |exact Ab fin
noncomputable def tDIn(ty td:TE):TE:=λσ H Q=>ty σ H λy H1=>td σ H1 λx H2=>∃a o,x=.ref a/\DGet H2 a y o/\Q (.bl o.isSome) H2
noncomputable def zl2(ty td:TE):TE:=λσ H Q=>ty σ H λy H1=>td σ H1 λx H2=>∃a o,x=.ref a/\DGet H2 a y o/\Q (.bl (!o.isSome)) H2
noncomputable def sDPut(td ty tv:TE):TS:=λD σ H=>tv σ H λv H1=>td σ H1 λx H2=>ty σ H2 λy H3=>∃a H4,x=.ref a/\DPut H3 a y v H4/\D.nx σ H4
section
variable {X:Cx}{o i e value:Expr}{pos pos' tpos:Pos}{td ty tv:TE}
theorem zlN(hu:X.A.units+1<cLine)(hi:PE X i ty)(ho:PE X o td):PC X .In i o (tDIn ty td):=by
 intro pins s σ H Q I h;refine thn (hi pins s σ H _ I h) λiv s1 ⟨y,H1,I1,ry,q1⟩=>thn (ho pins s1 σ H1 _ I1 q1) λu s2 ⟨x,H2,I2,rx,a,ov,ex,g,q2⟩=>?_
 subst ex;obtain rfl:u=An a:=rx;exact d_in hu I2 g ry λs3 I3=>⟨.bl ov.isSome,H2,I3,rfl,q2⟩
theorem zgG(hu:X.A.units+1<cLine)(hi:PE X i ty)(ho:PE X o td):PC X .NotIn i o (zl2 ty td):=by
 intro pins s σ H Q I h;refine thn (hi pins s σ H _ I h) λiv s1 ⟨y,H1,I1,ry,q1⟩=>thn (ho pins s1 σ H1 _ I1 q1) λu s2 ⟨x,H2,I2,rx,a,ov,ex,g,q2⟩=>?_
 subst ex;obtain rfl:u=An a:=rx;exact zmJ hu I2 g ry λs3 I3=>⟨.bl (!ov.isSome),H2,I3,rfl,q2⟩
theorem zjE(hu:X.A.units + 1 < cLine)(ho:PE X o td)(hi:PE X i ty)(hv:PE X value tv)(hs:swapsWith value (some (.Subscript o i pos')) pos.line X.env=pure false) :
  PS X (.Assign [.Subscript o i pos'] value pos) (sDPut td ty tv):=by
 intro pins s σ H D I h;refine wpAny_Assign_Subscript (thn (hv pins s σ H _ I h) λr s1 ⟨v,H1,I1,rv,q1⟩=>thn (ho pins s1 σ H1 _ I1 q1) λu s2 ⟨x,H2,I2,rx,q2⟩=>thn (hi pins s2 σ H2 _ I2 q2) λiv s3 ⟨y,H3,I3,ry,a,H4,ex,g,q3⟩=>?_) hs;subst ex;obtain rfl:u=An a:=rx;exact zks hu I3 g ry rv λs4 I4=>⟨σ,H4,I4,q3⟩
end
theorem zlp {P:AD}{w:A5}{H:Hp}(h:Heap) (hb:BR<h.objs.size):ObjOk P w H (h.push { cls:=.type "dict",data:=.dict #[] }) h.objs.size (.dK []) :=
 ⟨Ba _,beq_eq_false_iff_ne.mpr (BG (A8 hb)),[],.nil,Heap.DictOf.new h⟩
theorem zf1 {P:AD}{w:A5}{H:Hp}(h:Heap) (hb:BR<h.objs.size):ObjOk P w H (h.push { cls:=.type "dict",data:=.dict #[] }) h.objs.size (.dT []) :=
 ⟨Ba _,beq_eq_false_iff_ne.mpr (BG (A8 hb)),[],.nil,_,#[],0,AI _ rfl,⟨rfl,rfl,rfl⟩,rfl,rfl,List.nodup_nil⟩
noncomputable def zmZ:TE:=λ_ H Q=>∀p,H p=none->Q (.ref p) (upd H p (.dK []))
noncomputable def zmY:TE:=λ_ H Q=>∀p,H p=none->Q (.ref p) (upd H p (.dT []))
section
variable {X:Cx}{pos:Pos}
theorem zk0:PE X (.Dict [] [] pos) zmZ:=λpins s σ H Q I h =>
 wpAny_Dict_empty ⟨.ref s.heap.objs.size,_,I.laid (a:=s.heap.objs.size) (o:=.dK []) (t':=s.toks) (λ_ _ q=>Af _ q) (Ak _) (zlp s.heap I.big),rfl,h _ (I.hok.fresh (Ak _))⟩
theorem zid:PE X (.Dict [] [] pos) zmY:=λpins s σ H Q I h =>
 wpAny_Dict_empty ⟨.ref s.heap.objs.size,_,I.laid (a:=s.heap.objs.size) (o:=.dT []) (t':=s.toks) (λ_ _ q=>Af _ q) (Ak _) (zf1 s.heap I.big),rfl,h _ (I.hok.fresh (Ak _))⟩
end
structure M1 (X:Cx) (o:Expr) (m:Str) (apos:Pos) (e:Expr) (cpos:Pos):Prop where
 base:attributeBase o m X.env (eval o X.env)=eval o X.env
 few:((backTo cpos (Bl [e] X.env)).all (λx=>!x.1) && (DO cpos (CI [] X.env)).all (λx=>x.1.isSome)
  && decide (([e]:List Expr).length+([]:List Keyword).length+(if ([]:List Keyword).isEmpty then 0 else 1)<30))=true
 line:(apos.endLine == cpos.line)=true
 trees:backTo cpos (Bl [e] X.env)=[(false,eval e X.env)]
structure M2 (X:Cx) (o:Expr) (m:Str) (apos:Pos) (e f:Expr) (cpos:Pos):Prop where
 base:attributeBase o m X.env (eval o X.env)=eval o X.env
 few:((backTo cpos (Bl [e,f] X.env)).all (λx=>!x.1) && (DO cpos (CI [] X.env)).all (λx=>x.1.isSome)
  && decide (([e,f]:List Expr).length+([]:List Keyword).length+(if ([]:List Keyword).isEmpty then 0 else 1)<30))=true
 line:(apos.endLine == cpos.line)=true
 trees:backTo cpos (Bl [e,f] X.env)=[(false,eval e X.env),(false,eval f X.env)]
noncomputable def IsD(H:Hp)(a:Addr):Prop:=(∃kvs,Rd H a (.dK kvs))∨∃kvs,Rd H a (.dT kvs)
theorem zkg{X:Cx}{pins:List (Addr × Obj)}{σ : St}{H:Hp}{s:Ac}{a:Addr}(I:Inv X pins σ H s)(d:IsD H a) :
  s.TypeIs (.ref a) "dict" /\ (∀b,An a=.ref b->∃ob,s.heap.get? b=some ob/\ob.dict=none)/\(a == BR)=false:=by
 rcases d with⟨kvs,e⟩ |⟨kvs,e⟩
 .obtain⟨_,hd,vs,_,dd⟩:=dk_rd I.hok e;refine⟨dd.typeIs,λb q=>?_,hd⟩
  cases q
  obtain⟨ob,_,_,h1,h2,_⟩:=dd;exact⟨ob,h1,h2.2.1⟩
 .obtain⟨_,hd,xs,_,dd⟩:=dt_rd I.hok e;refine⟨dd.typeIs,λb q=>?_,hd⟩
  cases q
  obtain⟨ob,_,_,h1,h2,_⟩:=dd;exact⟨ob,h1,h2.2.1⟩
section
variable {X:Cx}{pins:List (Addr×Obj)}{σ:St}{H:Hp}{s:Ac}{a:Addr}{y d:V}{u r:Value}{o:Option V}{A:AM}{E:Value->Ac->Prop}
theorem zny{Q:Value -> Ac -> Prop}(hu:A.units + 1 < cLine)(I:Inv X pins σ H s)(g:DGet H a y o)(ry:RelV y u)(rd:RelV d r)(h:∀w' s', Inv X pins σ H s' -> RelV (o.getD d) w' -> Q w' s') :
  Ao (Au X.prog X.w) A (call (.builtin "dict.get") [.ref a,u,r]) Q E s:=by
 rcases g with⟨kvs,k,e,ey,l⟩ |⟨kvs,k,b,e,ey,eb,l⟩
 .subst ey;obtain⟨z,hd,vs,rel,dd⟩:=dk_rd I.hok e;refine call_meetsIn PySem.F.slot_dict_get dd.typeIs PySem.F.entry_dict_get (PySem.F.args_dict_get_3 _ _ _) (meets_dict_get_default (zaE X.prog X.w) a (kV_is ry) hd r) ⟨_,dd.mapOf,h _ _ (I.tok _) ?_⟩;rw[l];exact (rel.val k).getD rd
 .subst ey
  cases (show u=An b from ry)
  obtain⟨z,hd,xs,rel,dd⟩:=dt_rd I.hok e;refine call_meetsIn PySem.F.slot_dict_get dd.typeIs PySem.F.entry_dict_get (PySem.F.args_dict_get_3 _ _ _) (meetsH_dict_get_default (DH (zaE X.prog X.w)) a b hd r) ⟨CK hu,k,xs,zdM I.hok eb,dd,h _ _ (I.tok _) ?_⟩;rw[l];exact (rel.val k).getD rd
end
noncomputable def zm0(td ty tx:TE):TE:=λσ H Q=>td σ H λx H1=>∃a,x=.ref a/\IsD H1 a/\ty σ H1 λy H2=>tx σ H2 λz H3=>∃o,DGet H3 a y o/\Q (o.getD z) H3
section
variable {X:Cx}{o e f:Expr}{apos cpos:Pos}{td ty tx:TE}
theorem zk1 (hu:X.A.units+1<cLine) (ho:PE X o td) (he:PE X e ty) (hf:PE X f tx) (m:M2 X o "get" apos e f cpos):PE X (.Call (.Attribute o "get" apos) [e,f] [] cpos) (zm0 td ty tx):=by
 intro pins s σ H Q I h;refine wpAny_Call_method m.base m.few m.line D4 PySem.F.slot_dict_get PySem.F.type_dict_get (thn (ho pins s σ H _ I h) λu s1 ⟨x,H1,I1,rx,a,ex,d,q1⟩=>?_);subst ex;obtain rfl:u=An a:=rx;obtain⟨t1,t2,_⟩:=zkg I1 d;refine⟨t1,t2,?_⟩;rw[m.trees]
 refine Dc rfl (DB (Cj (thn (he pins s1 σ H1 _ I1 q1) λiv s2 ⟨y,H2,I2,ry,q2⟩ =>
  Cj (thn (hf pins s2 σ H2 _ I2 q2) λfv s3 ⟨z,H3,I3,rz,ov,g,q3⟩=>Calls.spliced_nil ?_))))
 exact zny hu I3 g ry rz λw' s4 I4 rw'=>⟨_,H3,I4,rw',q3⟩
end
section
variable {X:Cx}{pins:List (Addr×Obj)}{σ:St}{H:Hp}{s:Ac}{a:Addr}{kvs:List (Key×V)}{A:AM}{E:Value->Ac->Prop}
end
section
variable {X:Cx}{pins:List (Addr×Obj)}{σ:St}{H:Hp}{s:Ac}{a:Addr}{y:V}{u:Value}{A:AM}{E:Value->Ac->Prop}
end
end L2
namespace HT
open PySem PyProof.Rows
noncomputable def lexLt:List Int->List Int->Bool
 |[],[]=>false
 |[],_::_=>true
 |_::_,[]=>false
 |x::xs,y::ys=>if x=y then lexLt xs ys else decide (x<y)
theorem lexLt_cons(x y:Int)(xs ys:List Int):lexLt (x::xs) (y::ys)=if x=y then lexLt xs ys else decide (x<y):=rfl
theorem zfR:lexLt [] []=false:=rfl
theorem zeQ(y:Int)(ys:List Int):lexLt [] (y::ys)=true:=rfl
theorem zeR(x:Int)(xs:List Int):lexLt (x::xs) []=false:=rfl
theorem zix(A:AM)(s:Ac)(a:Int)(t:Tok)(c:Int)(u:Tok):∃e,SeqAt.EqAt A s (.int a t) (.int c u) e/\(e=true ↔ a=c) :=
 ⟨(a == c),SeqAt.EqAt.int_int a t c u,by simp⟩
theorem zkQ(A:AM)(s:Ac)(a:Int)(t:Tok)(c:Int)(u:Tok)(prog:AD)(w:A5)(E:Value -> Ac -> Prop)(Q:Value -> Ac -> Prop)(h:Q (.bool (decide (a < c))) s) :
  Ao (Au prog w) A (richCompare .Lt (.int a t) (.int c u)) Q E s :=
 (PyProof.Rows.lt_int h:Ao (Au prog w) A (Bw .Lt (.int a t) (.int c u)) Q E s)
section
open PySem.SeqAt
open PySem.AutoSeq1 (wpAny_loadPart')
open PySem.MeetsSeq PySem.MeetsSeq2 PySem.MeetsSeq3
theorem zfl(l b:Addr)(items items2:Array Value)(n n2:Nat)(dd dd2:Option Addr)(sl sl2:Array (Option Value))(ns ms:List Int)(hi:CC items.toList ns)(hj:CC items2.toList ms) :
  Meets (Builtin.«tuple.__lt__» ⟨[.ref l,.ref b],[]⟩)
   (λ_ R s=>s.heap.get? l=some { cls:=.type "tuple",dict:=dd,data:=.seq items n,slots:=sl }/\s.heap.get? b=some { cls:=.type "tuple",dict:=dd2,data:=.seq items2 n2,slots:=sl2 } /\
    R (.ok (.ret (.bool (lexLt ns ms)))) s) :=
 .of_wp λprog w A R s h=>by
  obtain⟨hp,g,d,tk,os⟩:=s;obtain⟨hl,hb,h⟩:=h;have f2:=AutoSeq1.sub_tuple_tuple;have z1:items.size=ns.length:=by rw[<- hi.length];simp
  have z2:items2.size=ms.length:=by rw[<- hj.length];simp
  wp_walk using Cv hl,Cv hb,wpAny_forIn_list _ (λrest b s'=>b.1=none/\s'=⟨hp,g,d,tk,os⟩/\∃(vs ws:List Value) (ns' ms':List Int),rest=vs.zip ws /\
   CC vs ns'/\CC ws ms'/\ns'.length+items2.size=ms'.length+items.size/\R (.ok (.ret (.bool (lexLt ns' ms')))) ⟨hp,g,d,tk,os⟩) _
  case turn =>
   rintro⟨y,x⟩ rest b s' ⟨hb',rfl,vs,ws,ns',ms',hz,hvi,hwi,hlen,hR⟩
   cases hvi with
   |nil=>rw[List.zip_nil_left]at hz;cases hz
   |cons a t hvi' =>
    cases hwi with
    |nil=>rw[List.zip_nil_right]at hz;cases hz
    |cons c u hwi' =>
     rw[D0]at hz;injection hz with hyx hrest;injection hyx with hy hx;subst hy hx;rw[lexLt_cons]at hR;simp only[A4]at hlen;obtain⟨e,he,hiff⟩:=zix A.in1 ⟨hp,g,d,tk,os⟩ a t c u;refine Ab (he prog w _ _ ?_)
     cases e with
     |true =>
      rw[if_pos (hiff.mp rfl)]at hR
      wp_walk
      exact⟨rfl,rfl,_,_,_,_,hrest,hvi',hwi',by lia,hR⟩
     |false =>
      rw[if_neg (λq=>absurd (hiff.mpr q) AC)]at hR;have hri:=zkQ A.in1 ⟨hp,g,d,tk,os⟩ a t c u prog w
      wp_walk using hri
      exact⟨_,rfl,by simpa using hR⟩
  case fin =>
   rintro⟨b1,b2⟩ s' ⟨hb',rfl,vs,ws,ns',ms',hz,hvi,hwi,hlen,hR⟩;simp only at hb';subst hb'
   have hv:lexLt ns' ms'=decide (items.size<items2.size):=by
    cases hvi with
    |nil =>
     cases hwi with
     |nil =>
      simp only[Cc]at hlen;rw[zfR];exact (decide_eq_false (by lia)).symm
     |cons c u hw =>
      simp only[Cc,A4]at hlen;rw[zeQ];exact (decide_eq_true (by lia)).symm
    |cons a t hv =>
     cases hwi with
     |nil =>
      simp only[Cc,A4]at hlen;rw[zeR];exact (decide_eq_false (by lia)).symm
     |cons c u hw =>
      rw[D0]at hz
      cases hz
   rw[hv]at hR
   wp_walk
   exact⟨_,rfl,by simpa[Builtin.Tuple.tupleCompareSizes]using hR⟩
  case h =>
   exact⟨rfl,rfl,items.toList,items2.toList,ns,ms,rfl,hi,hj,by lia,h⟩
end
section
variable {prog:AD}{w:A5}{A:AM}{E:Value->Ac->Prop}{s:Ac}
theorem lt_tupInts{l b:Addr}{items items2:Array Value}{ns ms:List Int}{Q:Value -> Ac -> Prop}(hl:IsTup s.heap l items)(hb:IsTup s.heap b items2)(hi:CC items.toList ns)(hj:CC items2.toList ms)
  (hu:A.units<cLine) (h:Q (.bool (lexLt ns ms)) s):Ao (Au prog w) A (Bw .Lt (.ref l) (.ref b)) Q E s:=by
 obtain⟨⟨cls,dd,data,sl⟩,ho,hc,n,hd⟩:=id hl;obtain⟨⟨cls2,dd2,data2,sl2⟩,ho2,hc2,n2,hd2⟩:=id hb;simp only at hc hd hc2 hd2;subst hc hd hc2 hd2
 exact richCompare_meets_room (op:=.Lt) ⟨_,ho,rfl⟩ ⟨_,ho2,rfl⟩ PySem.F.slot_tuple_lt PySem.F.entry_tuple_lt (PySem.F.args_tuple_lt_2 _ _) (zfl l b items items2 n n2 dd dd2 sl sl2 ns ms hi hj)
  ⟨ho,ho2,show Value.bool (lexLt ns ms)≠Value.notImplemented/\Q (.bool (lexLt ns ms)) s from ⟨(λx=>nomatch x),h⟩⟩ hu
theorem cat_tup{t b:Addr}{vs ws:List Value}{Q:Value -> Ac -> Prop}(ht:IsTup s.heap t vs.toArray)(hb:IsTup s.heap b ws.toArray)(hv:vs ≠ [])
  (h1:ws=[]->Q (.ref t) s) (h2:ws≠[]->Q (.ref s.heap.objs.size) { s with heap:=s.heap.push { cls:=.type "tuple",data:=.seq (vs++ws).toArray } })
  (hsz:vs.length+ws.length<=sizeLine):Ao (Au prog w) A (Dy .Add (.ref t) (.ref b)) Q E s:=by
 obtain⟨⟨cls,dd,data,sl⟩,ho,hc,n,hd⟩:=id ht;obtain⟨⟨cls2,dd2,data2,sl2⟩,ho2,hc2,n2,hd2⟩:=id hb;simp only at hc hd hc2 hd2;subst hc hd hc2 hd2;have e:vs.toArray++ws.toArray=(vs++ws).toArray:=by simp
 by_cases hw:ws=[]
 .exact concat_meets ⟨_, ho, rfl⟩ ⟨_, ho2, rfl⟩ noFill_tuple_add seq_tuple_add PySem.F.slot_tuple_add PySem.F.entry_tuple_add (PySem.F.args_tuple_add_2 _ _)
   (tuple_addW1 t b vs.toArray ws.toArray n n2 dd dd2 sl sl2 (by simpa using hv) (by simp[hw])) ⟨ho,ho2,h1 hw⟩
 .refine concat_meets ⟨_, ho, rfl⟩ ⟨_, ho2, rfl⟩ noFill_tuple_add seq_tuple_add PySem.F.slot_tuple_add PySem.F.entry_tuple_add (PySem.F.args_tuple_add_2 _ _)
   (tuple_addW2 t b vs.toArray ws.toArray n n2 dd dd2 sl sl2 (by simpa using hv) (by simpa using hw) (by rw[Ar,Ar];exact hsz)) ⟨ho,ho2,?_⟩
  rw[e];exact h2 hw
noncomputable def sIx(n d:Nat):Option Int->Nat
 |none=>d
 |some v=>if v<0 then (v+(n:Int)).toNat else min v.toNat n
theorem zm8(n d:Nat)(hd:d<=n)(o:Option Int):sIx n d o<=n:=by
 cases o with
 |none=>exact hd
 |some v =>
  show (if v<0 then (v+(n:Int)).toNat else min v.toNat n)<=n
  by_cases hv:v<0
  .rw[if_pos hv];lia
  .rw[if_neg hv];exact Nat.min_le_right _ _
theorem zku(v:Int)(n d:Nat):(if v<0 then max (v+(n:Int)) 0 else min v (n:Int))=((sIx n d (some v):Nat):Int):=by
 show (if v<0 then max (v+(n:Int)) 0 else min v (n:Int))=(((if v<0 then (v+(n:Int)).toNat else min v.toNat n):Nat):Int)
 by_cases hv:v<0
 .simp only[if_pos hv];lia
 .simp only[if_neg hv];lia
theorem zi7(lo hi:Option Int)(n:Nat):DK lo hi 1 (n:Int)=(((sIx n 0 lo:Nat):Int),((sIx n n hi:Nat):Int)):=by
 have h1:¬ ((1:Int)<0):=by lia
 unfold DK;simp only[h1,if_false];refine Prod.ext ?_ ?_
 .cases lo with
  |none=>rfl
  |some v=>exact zku v n 0
 .cases hi with
  |none=>rfl
  |some v=>exact zku v n n
theorem ziS(i j:Nat):CS (i:Int) (j:Int) 1=j-i:=by
 unfold CS;have h1:(1:Int) > 0:=by lia
 simp only[h1,if_true,Int.ediv_one];split <;> lia
theorem ze7{v:Value}{o:Option Int}{Q:Option Int->Ac->Prop}(p:IsPart v o)(h:Q o s):Ao (Au prog w) A (Builtin.Slice.slicePartIndex v) Q E s:=by
 cases p with
 |none=>exact slicePart_none h
 |int i t=>exact slicePart_int h
theorem zcu{sl:Addr}{vl vu:Value}{lo hi:Option Int}{n:Nat}{Q:Int × Int × Nat -> Ac -> Prop}(hs:s.heap.IsSliceOf sl vl vu .none)(pl:IsPart vl lo)(pu:IsPart vu hi)
  (h:Q (((sIx n 0 lo:Nat):Int),1,sIx n n hi-sIx n 0 lo) s):Ao (Au prog w) A (Builtin.Slice.sliceApplied (.ref sl) (pure (n:Int))) Q E s:=by
 obtain⟨os,hos,hcs,hds⟩:=id hs;unfold Builtin.Slice.sliceApplied Builtin.Slice.sliceFields;refine Ab (Ab (D5 hos hds (x:=vl) rfl (Ab (D5 hos hds (x:=vu) rfl (Ab (D5 hos hds (x:=.none) rfl (Ae ?_)))))));refine Ab (slicePart_none ?_);show Ao _ _ (if ((1:Int) == 0)=true then _ else _) _ _ s;rw[if_neg (by decide)];refine Ab (ze7 pl (Ab (ze7 pu (Ab (Ae ?_)))));show Ao _ _ (match DK lo hi 1 (n:Int) with | (lo,hi)=>pure (lo,(1:Int),CS lo hi 1)) _ _ s;rw[zi7 lo hi n];show Ao _ _ (pure (((sIx n 0 lo:Nat):Int),(1:Int),CS ((sIx n 0 lo:Nat):Int) ((sIx n n hi:Nat):Int) 1)) _ _ s;rw[ziS];exact Ae h
theorem zkX(xs:Array Value)(i k:Nat):((BS k).filterMap λ(m:Nat)=>xs[((i:Int)+(m:Int)*1).toNat]?).toArray=((xs.toList.drop i).take k).toArray:=by
 have e:(λ(m:Nat)=>xs[((i:Int)+(m:Int)*1).toNat]?)=λm=>xs[i+m]?:=by
  funext m
  have:((i:Int)+(m:Int)*1).toNat=i+m:=by lia
  rw[this]
 rw[e];have:=pick_run xs i k;rw[Dd]at this;have e2:((λx=>xs[x]?) ∘ λx=>i+x)=λm=>xs[i+m]?:=rfl
 rw[e2]at this;rw[this]
theorem getItem_tuple_cut{t sl:Addr}{items:Array Value}{vl vu:Value}{lo hi:Option Int}{Q:Value -> Ac -> Prop}(ht:IsTup s.heap t items)(hs:s.heap.IsSliceOf sl vl vu .none)(pl:IsPart vl lo)(pu:IsPart vu hi)
  (hw:¬ (sIx items.size 0 lo=0/\sIx items.size items.size hi=items.size))
  (h:Q (.ref s.heap.objs.size) { s with heap:=s.heap.push { cls:=.type "tuple",data:=.seq ((items.toList.drop (sIx items.size 0 lo)).take (sIx items.size items.size hi-sIx items.size 0 lo)).toArray } })
  (hsz:items.size<=sizeLine):Ao (Au prog w) A (getItem (.ref t) (.ref sl)) Q E s:=by
 have htake:sizeOk (.seq ((items.toList.drop (sIx items.size 0 lo)).take (sIx items.size items.size hi-sIx items.size 0 lo)).toArray):=by show ((items.toList.drop (sIx items.size 0 lo)).take (sIx items.size items.size hi-sIx items.size 0 lo)).toArray.size<=sizeLine;rw[Ar,AR,List.length_drop,AH];lia
 have hj:sIx items.size items.size hi<=items.size:=zm8 _ _ (Ak _) hi;obtain⟨os,hos,hcs,hds⟩:=id hs;have hTs:s.TypeIs (.ref sl) "slice":=⟨os,hos,hcs⟩;unfold getItem
 try with_reducible refine Bg ?_
 first |refine Ab (Ae ?_) |skip
 refine Ab (wpAny_sequenceKey ht.typeIs (by decide) ?_)
 refine Ab (C5 (name:=Bj "__getitem__") ht.typeIs BH
  (DJ BH ht.typeIs entry_tuple_getitem ?_ (args_tuple_getitem _ _)))
 show Ao _ _ (Builtin.Tuple.tupleItemsOf (.ref t) >>= _) _ _ s;refine Ab (tupleItemsOf_ ht ?_);refine Ab (wpAny_typeOf hTs ?_);rw[if_pos (by decide)];refine Ab (zcu hs pl pu ?_)
 have hno:¬ ((((sIx items.size 0 lo:Nat):Int) == 0 && (1:Int) == 1 && (sIx items.size items.size hi-sIx items.size 0 lo) == items.size)=true):=by intro q;rw[Bd,Bd]at q;have q1:((sIx items.size 0 lo:Nat):Int)=0:=eq_of_beq q.1.1;have q2:sIx items.size items.size hi-sIx items.size 0 lo=items.size:=eq_of_beq q.2;exact hw ⟨by lia,by lia⟩
 show Ao _ _ (if (((sIx items.size 0 lo:Nat):Int) == 0 && (1:Int) == 1 && (sIx items.size items.size hi-sIx items.size 0 lo) == items.size)=true then _ else _) _ _ s;rw[if_neg hno,zkX]
 first
  |exact Ab (m:=C1 _) (Bc (Ae ⟨_,rfl,Ae h⟩) htake)
  |exact Ab (m:=C1 _) (Bc (Ab (Ae (Ae ⟨_,rfl,Ae h⟩))) htake)
  |exact Ab (Ab (m:=C1 _) (Bc (Ae (Ae ⟨_,rfl,Ae h⟩)) htake))
  |exact Ab (Ab (m:=C1 _) (Bc (Ae ⟨_,rfl,Ae h⟩) htake))
end
end HT
namespace L2
open PySem PySem.Spec PyProof.Rows
noncomputable abbrev TO:=St->Hp->(Option Int->Hp->Prop)->Prop
noncomputable def PO(X:Cx)(e:Option Expr)(t:TO):Prop :=
 ∀(pins:List (Addr×Obj)) (s:Ac) (σ:St) (H:Hp) (Q:Option Int->Hp->Prop),Inv X pins σ H s->t σ H Q ->
  Ao (Au X.prog X.w) X.A (evalPart e X.env) (λu s'=>∃o H',Inv X pins σ H' s'/\IsPart u o/\Q o H') X.xe s
noncomputable def zl1:TO:=λ_ H Q=>Q none H
noncomputable def tPart(t:TE):TO:=λσ H Q=>t σ H λx H1=>∃i,x=.int i/\Q (some i) H1
theorem zcV{ns:List Int}:∀{us:List Value},Vals (ns.map V.int) us->CC us ns:=by
 induction ns with
 |nil=>intro us r;rw[List.map_nil]at r;cases r;exact .nil
 |cons n ns ih =>
  intro us r;rw[A9]at r
  cases r with
  |cons r1 r2 =>
   obtain⟨t,e⟩:=r1;subst e;exact .cons n t (ih r2)
section
variable {X:Cx}{e:Expr}{te:TE}{lo hi:Option Expr}{tl th:TO}{pos p2:Pos}
theorem zfB:PO X none zl1:=by intro pins s σ H Q I h;rw[evalPart_none];exact Ae ⟨none,H,I,.none,h⟩
theorem zdA(h:PE X e te):PO X (some e) (tPart te):=by
 intro pins s σ H Q I hw;rw[evalPart_some];refine thn (h pins s σ H _ I hw) λu s1 ⟨x,H1,I1,r1,q1⟩=>?_
 obtain⟨i,rfl,q⟩:=q1;obtain⟨t,rfl⟩:=r1;exact⟨some i,H1,I1,.int i t,q⟩
noncomputable def SlR(X:Cx)(r:V->Option Int->Option Int->Hp->VK->Prop):Prop :=
 ∀(pins:List (Addr×Obj)) (s:Ac) (σ:St) (H:Hp) (x:V) (v vl vu:Value) (lo hi:Option Int) (sl:Addr) (Q:VK),Inv X pins σ H s->RelV x v->s.heap.IsSliceOf sl vl vu .none->IsPart vl lo->IsPart vu hi->r x lo hi H Q ->
  ∃T id,typeLookup (.type T) "__getitem__" = pure (some (.builtin id))/\s.TypeIs v T/\Ao (Au X.prog X.w) X.A (getItem v (.ref sl)) (EP X pins σ Q) X.xe s
noncomputable def tSl(r:V->Option Int->Option Int->Hp->VK->Prop)(te:TE)(tl th:TO):TE:=λσ H Q=>te σ H λx H1=>tl σ H1 λl H2=>th σ H2 λu H3=>r x l u H3 Q
theorem zdm{r:V->Option Int->Option Int->Hp->VK->Prop}(hr:SlR X r)(he:PE X e te)(hl:PO X lo tl)(hu:PO X hi th):PE X (.Subscript e (.Slice lo hi none p2) pos) (tSl r te tl th):=by
 intro pins s σ H Q I h;refine Subscript_ (thn (he pins s σ H _ I h) λv s1 ⟨x,H1,I1,r1,q1⟩=>?_);refine wpAny_Slice (thn (hl pins s1 σ H1 _ I1 q1) λvl s2 ⟨l,H2,I2,pl,q2⟩=>thn (hu pins s2 σ H2 _ I2 q2) λvu s3 ⟨u,H3,I3,pu,q3⟩=>?_);rw[evalPart_none];refine Ae ?_
 have I4:Inv X pins σ H3 { s3 with heap:=s3.heap.push { cls:=.type "slice",data:=.fields #[vl,vu,.none] } }:=I3.kept (t':=s3.toks) λb ob q=>Af _ q
 obtain⟨T,id,hT,ht,hg⟩:=hr pins { s3 with heap:=s3.heap.push { cls:=.type "slice",data:=.fields #[vl,vu,.none] } } σ H3 x v vl vu l u s3.heap.objs.size Q I4 r1 (Heap.IsSliceOf.new ..) pl pu q3;show Ao (Au X.prog X.w) X.A (subscriptTail e (.Slice lo hi none p2) v (.ref s3.heap.objs.size)) (EP X pins σ Q) X.xe { s3 with heap:=s3.heap.push { cls:=.type "slice",data:=.fields #[vl,vu,.none] } };exact tail_any (ops:=[.ref s3.heap.objs.size,v]) ht hT hg (by with_unfolding_all rfl)
noncomputable def cutV(xs:List V)(lo hi:Option Int):List V:=(xs.drop (HT.sIx xs.length 0 lo)).take (HT.sIx xs.length xs.length hi-HT.sIx xs.length 0 lo)
theorem zeB(xs:List V)(lo hi:Option Int):(cutV xs lo hi).length<=xs.length:=by unfold cutV;rw[AR,List.length_drop];lia
noncomputable def rSlT(K:W.Frag):V->Option Int->Option Int->Hp->VK->Prop:=λx lo hi H Q=>∃a xs,x=.ref a/\SqT K H a xs /\
 ¬ (HT.sIx xs.length 0 lo=0/\HT.sIx xs.length xs.length hi=xs.length)/\∀p,H p=none->Q (.ref p) (upd H p (.tup (cutV xs lo hi)))
theorem zm2:SlR X (rSlT X.K):=by
 intro pins s σ H x v vl vu lo hi sl Q I rx hs pl pu h;obtain⟨a,xs,rfl,hx,hw,q⟩:=h
 cases rx
 obtain⟨its,r,ht,hz⟩:=I.tuple hx;have hlen:its.toArray.size=xs.length:=by rw[Ar];exact r.length.symm
 refine⟨"tuple",_,BH.lookup,ht.typeIs,?_⟩;refine HT.getItem_tuple_cut ht hs pl pu (by rw[hlen];exact hw) ?_ (by rw[hlen];exact hz)
 rw[hlen];refine⟨.ref s.heap.objs.size,_,I.laid (t':=s.toks) (o:=.tup (cutV xs lo hi)) (λb ob q=>Af _ q) (Ak _) ?_,rfl,q _ (I.hok.fresh (Ak _))⟩;exact⟨A3 (zeB xs lo hi) hz,_,(r.drop (HT.sIx xs.length 0 lo)).take (HT.sIx xs.length xs.length hi-HT.sIx xs.length 0 lo),IsTup.new _ _⟩
noncomputable def rCatT(K:W.Frag):R2:=λx y H Q=>∃a b xs ys,x=.ref a/\y=.ref b/\SqT K H a xs/\SqT K H b ys/\xs≠[]/\xs.length+ys.length<=sizeLine /\
 (ys=[]->Q (.ref a) H)/\(ys≠[]->∀p,H p=none->Q (.ref p) (upd H p (.tup (xs++ys))))
theorem Vals.nil_iff{xs:List V}{us:List Value}(r:Vals xs us):us=[] ↔ xs=[]:=by
 cases r with
 |nil=>simp
 |cons _ _=>simp
theorem zmk:OpR X (Dy .Add) (rCatT X.K):=by
 intro pins s σ H x y v u Q I rx ry h;obtain⟨a,b,xs,ys,rfl,rfl,ha,hb,hx,hz,q1,q2⟩:=h
 cases rx
 cases ry
 obtain⟨its,r1,p1,_⟩:=I.tuple ha;obtain⟨its2,r2,p2,_⟩:=I.tuple hb;refine HT.cat_tup p1 p2 (λz=>hx (r1.nil_iff.mp z)) (λz=>⟨.ref a,H,I,rfl,q1 (r2.nil_iff.mp z)⟩) (λz=>?_) (by rw[<- r1.length,<- r2.length];exact hz);refine⟨.ref s.heap.objs.size,_,I.laid (t':=s.toks) (o:=.tup (xs++ys)) (λb ob q=>Af _ q) (Ak _) ?_,rfl,q2 (λw=>z (r2.nil_iff.mpr w)) _ (I.hok.fresh (Ak _))⟩;exact⟨by rw[Am];exact hz,_,r1.append r2,IsTup.new _ _⟩
end
noncomputable def ixN(n:Nat)(i:Int):Option Nat:=if 0<=i then (if i<n then some i.toNat else none) else if -(n:Int)<=i then some (i+n).toNat else none
noncomputable def atI{α:Type}(xs:List α)(i:Int):Option α:=(ixN xs.length i).bind λj=>xs[j]?
theorem zkd{n:Nat}{i:Int}{j:Nat}(h:ixN n i=some j):seqIndex? i n=some j/\j<n/\-(n:Int)<=i/\i<n:=by
 unfold ixN at h
 by_cases h0:0<=i
 .rw[if_pos h0]at h
  by_cases h1:i<n
  .rw[if_pos h1]at h;have e:i.toNat=j:=AT h;exact⟨by rw[seqIndex_of h0 h1,e],by lia,by lia,h1⟩
  .rw[if_neg h1]at h;cases h
 .rw[if_neg h0]at h
  by_cases h1:-(n:Int)<=i
  .rw[if_pos h1]at h;have e:(i+n).toNat=j:=AT h;exact⟨by rw[seqIndex_neg (by lia) h1,e],by lia,h1,by lia⟩
  .rw[if_neg h1]at h;cases h
theorem zkA{α:Type}{xs:List α}{i:Int}{v:α}(h:atI xs i=some v):∃j,seqIndex? i xs.length=some j/\xs[j]?=some v/\j<xs.length/\-(xs.length:Int)<=i/\i<xs.length:=by
 unfold atI at h
 cases e:ixN xs.length i with
 |none=>rw[e]at h;cases h
 |some j =>
  rw[e]at h;obtain⟨h1,h2,h3,h4⟩:=zkd e;exact⟨j,h1,h,h2,h3,h4⟩
theorem zay{α:Type}{xs:List α}{j:Nat}{v:α}(h:xs[j]?=some v):atI xs (j:Int)=some v:=by
 have hj:j<xs.length:=(Ad.mp h).1
 have e:ixN xs.length (j:Int)=some j:=by unfold ixN;rw[if_pos (by lia),if_pos (by lia)];simp
 unfold atI;rw[e];exact h
noncomputable def zmO(b:Expr):Prop:=∀o i,subscripted b false o i=operate [o,i] (getItem o i)
noncomputable def IxR(X:Cx)(r:R2):Prop :=
 ∀(value slice:Expr) (pins:List (Addr×Obj)) (s:Ac) (σ:St) (H:Hp) (x y:V) (v u:Value) (Q:VK),Inv X pins σ H s->RelV x v->RelV y u->r x y H Q ->
  subscripted slice false v u=operate [v,u] (getItem v u)->Ao (Au X.prog X.w) X.A (subscriptTail value slice v u) (EP X pins σ Q) X.xe s
noncomputable def MtR(X:Cx)(id:String)(r:V->List V->Hp->VK->Prop):Prop :=
 ∀(pins:List (Addr×Obj)) (s:Ac) (σ:St) (H:Hp) (x:V) (xs:List V) (v:Value) (us:List Value) (Q:VK),Inv X pins σ H s->RelV x v->Vals xs us->r x xs H Q ->
  Ao (Au X.prog X.w) X.A (call (.builtin id) (v::us)) (EP X pins σ Q) X.xe s
section
variable {X:Cx}{a b:Expr}{ta tb:TE}{pos:Pos}
theorem pe_ix{r:R2}(hr:IxR X r)(ha:PE X a ta)(hb:PE X b tb)(hs:zmO b):PE X (.Subscript a b pos) (tOp r ta tb):=by intro pins s σ H Q I h;exact Subscript_ (binT ha hb I h λv u s2 x y H2 I2 rx ry q=>hr a b pins s2 σ H2 x y v u Q I2 rx ry q (hs _ _))
noncomputable def rIxL(K:W.Frag):R2:=λx y H Q=>∃p xs i v,x=.ref p/\y=.int i/\SqL K H p xs/\atI xs i=some v/\Q v H
noncomputable def rIxT(K:W.Frag):R2:=λx y H Q=>∃p xs i v,x=.ref p/\y=.int i/\SqT K H p xs/\atI xs i=some v/\Q v H
theorem zaQ:IxR X (rIxL X.K):=by
 intro value slice pins s σ H x y v u Q I rx ry h hs;obtain⟨p,xs,i,z,rfl,rfl,hq,he,q⟩:=h
 cases rx
 obtain⟨t,rfl⟩:=ry;obtain⟨its,r,pl,hz⟩:=I.list hq;obtain⟨j,h1,h2,h3,h4,h5⟩:=zkA he;obtain⟨w,ew,rw'⟩:=r.get h2;have hl:=r.length;have hn:=zgT;have fin:EP X pins σ Q w s:=⟨z,H,I,rw',q⟩
 by_cases h0:0<=i
 .have hj:i.toNat=j := by rw[seqIndex_of h0 h5]at h1;exact AT h1
  exact item_listR pl.isList h0 (by lia) (by rw[hj];simpa using ew) fin hs
 .have hj:(i + (its.toArray.size:Int)).toNat=j := by rw[seqIndex_neg (by lia) h4]at h1;rw[Ar,<- hl];exact AT h1
  exact subscriptTail_builtinR (x:=w) pl.isList.typeIs slot_list_getitem.lookup
   (wpAny_getItem_list_neg (Q:=λr s'=>r=w/\EP X pins σ Q r s') pl.isList (by lia) (by rw[Ar] <;> lia) (by lia) (by rw[hj];simpa using ew) ⟨rfl,fin⟩) hs
theorem zbW:IxR X (rIxT X.K):=by
 intro value slice pins s σ H x y v u Q I rx ry h hs;obtain⟨p,xs,i,z,rfl,rfl,hq,he,q⟩:=h
 cases rx
 obtain⟨t,rfl⟩:=ry;obtain⟨its,r,pl,hz⟩:=I.tuple hq;obtain⟨j,h1,h2,h3,h4,h5⟩:=zkA he;obtain⟨w,ew,rw'⟩:=r.get h2;have hl:=r.length;have hn:=zgT;have fin:EP X pins σ Q w s:=⟨z,H,I,rw',q⟩
 exact subscriptTail_builtinR (x:=w) pl.typeIs slot_tuple_getitem.lookup
  (getItem_tuple (j:=j) (Q:=λr s'=>r=w/\EP X pins σ Q r s') pl (by lia) (by lia) (by rw[Ar,<- hl];exact h1) (by simpa using ew) ⟨rfl,fin⟩) hs
theorem zi3 (its:List Value) (n j:Nat) (u:Value):AU (·.setIfInBounds j u) { cls:=.type "list",data:=.seq its.toArray n }={ cls:=.type "list",data:=.seq (its.set j u).toArray n }:=by simp[AU]
theorem Inv.lst{pins:List (Addr × Obj)}{σ : St}{H:Hp}{s:Ac}{p:Addr}{xs:List V}(I:Inv X pins σ H s)(h:H p=some (.lst xs)) :
  ∃(its:List Value) (n:Nat),Vals xs its/\s.heap.get? p=some { cls:=.type "list",data:=.seq its.toArray n }/\xs.length<=sizeLine:=by
 obtain⟨z,its,n,r,e⟩:=I.hok p _ h;exact⟨its,n,r,e,z⟩
theorem Inv.lstUpd{pins:List (Addr × Obj)}{σ : St}{H:Hp}{s:Ac}{p:Addr}{xs ys:List V}{its its':List Value}{n n':Nat}{f:Obj -> Obj}(I:Inv X pins σ H s)(h:H p=some (.lst xs))
  (ho:s.heap.get? p=some { cls:=.type "list",data:=.seq its.toArray n }) (hf:f { cls:=.type "list",data:=.seq its.toArray n }={ cls:=.type "list",data:=.seq its'.toArray n' }) (r:Vals ys its') (hz:ys.length<=sizeLine) (t:Nat) :
  Inv X pins σ (upd H p (.lst ys)) { s with heap:=s.heap.update p f,toks:=t }:=by
 have e:(s.heap.update p f).get? p=some { cls:=.type "list",data:=.seq its'.toArray n' }:=by rw[BI f ho (by rw[hf] <;> rfl),hf]
 refine I.write (x:=p) (e:=p) (by rw[h];trivial) (.inl rfl) (λb u hb q=>(AX _ _ (BG hb)).trans q) ⟨_,e⟩ ?_
 exact⟨hz,its',n',r,e⟩
noncomputable def rSetL:V->V->V->Hp->(Hp->Prop)->Prop:=λo i v H Q=>∃p xs k j,o=.ref p/\i=.int k/\H p=some (.lst xs)/\ixN xs.length k=some j/\Q (upd H p (.lst (xs.set j v)))
theorem zh2:PSet X rSetL:=by
 intro pins s σ H o i v ov iv u Q I ro ri rv h;obtain⟨p,xs,k,j,rfl,rfl,hp,hj,q⟩:=h
 cases ro
 obtain⟨t,rfl⟩:=ri;obtain⟨its,n,r,ho,hz⟩:=I.lst hp;obtain⟨h1,h2,h3,h4⟩:=zkd hj;have hl:=r.length;have hn:=zgT
 have I':Inv X pins σ (upd H p (.lst (xs.set j v))) { s with heap:=s.heap.update p (AU (·.setIfInBounds j u)) } :=
  I.lstUpd hp ho (zi3 its n j u) (r.set rv j) (by rw[List.length_set];exact hz) s.toks
 by_cases h0:0<=k
 .have hk:k.toNat=j := by rw[seqIndex_of h0 h4]at h1;exact AT h1
  exact W.ki_setAt ho h0 (by lia) (by rw[Ar,<- hl];exact h4) (by rw[hk];exact⟨_,I',q⟩)
 .have hk:(k + (its.toArray.size:Int)).toNat=j := by rw[seqIndex_neg (by lia) h3]at h1;rw[Ar,<- hl];exact AT h1
  exact W.ki_setBack ho (by lia) (by rw[Ar,<- hl];exact h3) (by lia) (by rw[hk];exact⟨_,I',q⟩)
theorem zgs(lo hi:Option Int)(n:Nat):(D6 lo hi none n).1=((HT.sIx n 0 lo:Nat):Int)/\(D6 lo hi none n).2.1=((HT.sIx n n hi:Nat):Int)/\(D6 lo hi none n).2.2=1:=by
 refine⟨?_,?_,rfl⟩
 .cases lo with
  |none=>simp[D6,HT.sIx]
  |some i =>
   simp only[D6,HT.sIx,Option.getD_none,show (1:Int) > 0 by decide,if_true]
   by_cases h:i<0
   .simp only[h,if_true] <;> lia
   .simp only[h,if_false] <;> lia
 .cases hi with
  |none=>simp[D6,HT.sIx]
  |some i =>
   simp only[D6,HT.sIx,Option.getD_none,show (1:Int) > 0 by decide,if_true]
   by_cases h:i<0
   .simp only[h,if_true] <;> lia
   .simp only[h,if_false] <;> lia
theorem zfr(its:List Value)(lo hi:Option Int):slicePick its.toArray lo hi none=((its.drop (HT.sIx its.length 0 lo)).take (HT.sIx its.length its.length hi-HT.sIx its.length 0 lo)).toArray:=by obtain⟨h1,h2,h3⟩:=zgs lo hi its.toArray.size;unfold slicePick;rw[h1,h2,h3];simp only[sliceRange_one,pick_run,Ar] <;> rfl
noncomputable def rSlL(K:W.Frag):V->Option Int->Option Int->Hp->VK->Prop:=λx lo hi H Q=>∃a xs,x=.ref a/\SqL K H a xs/\∀p,H p=none->Q (.ref p) (upd H p (.lst (cutV xs lo hi)))
theorem zjv:SlR X (rSlL X.K):=by
 intro pins s σ H x v vl vu lo hi sl Q I rx hs pl pu h;obtain⟨a,xs,rfl,hx,q⟩:=h
 cases rx
 obtain⟨its,r,ht,hz⟩:=I.list hx;have hlen:=r.length;refine⟨"list",_,slot_list_getitem.lookup,ht.isList.typeIs,?_⟩;refine wpAny_getItem_list_slice ht.isList hs pl pu .none (by simp) ?_ (by rw[Ar] <;> lia)
 rw[zfr,<- hlen];refine⟨.ref s.heap.objs.size,_,I.laid (t':=s.toks) (o:=.lst (cutV xs lo hi)) (λb ob q=>Af _ q) (Ak _) ?_,rfl,q _ (I.hok.fresh (Ak _))⟩;exact⟨A3 (zeB xs lo hi) hz,_,0,(r.drop (HT.sIx xs.length 0 lo)).take (HT.sIx xs.length xs.length hi-HT.sIx xs.length 0 lo),AI _ rfl⟩
noncomputable def flatV:V->Bool
 |.non=>true
 |.bl _=>true
 |.int _=>true
 |.str _=>true
 |_=>false
noncomputable def eqV:V->V->Bool
 |.non,.non=>true
 |.bl a,.bl b=>a == b
 |.bl a,.int b=>(if a then 1 else 0) == b
 |.int a,.bl b=>a == (if b then 1 else 0)
 |.int a,.int b=>a == b
 |.str a,.str b=>a == b
 |_,_=>false
theorem znw{A:AM}{s:Ac}{y x:V}{u v:Value}(ry:RelV y u)(rx:RelV x v)(fy:flatV y=true)(fx:flatV x=true):SeqAt.EqAt A s u v (eqV y x):=by
 cases y with
 |non =>
  cases ry
  cases x with
  |non=>cases rx;exact SeqAt.EqAt.same _
  |bl b=>cases rx;exact SeqAt.EqAt.none_bool b
  |int b=>obtain⟨t,rfl⟩:=rx;exact SeqAt.EqAt.none_int b t
  |str b=>obtain⟨t,rfl⟩:=rx;exact SeqAt.EqAt.none_str b t
  |_=>exact absurd (show false=true from fx) AC
 |bl a =>
  cases ry
  cases x with
  |non=>cases rx;exact SeqAt.EqAt.bool_none a
  |bl b=>cases rx;exact SeqAt.EqAt.bool_bool a b
  |int b=>obtain⟨t,rfl⟩:=rx;exact SeqAt.EqAt.bool_int a b t
  |str b=>obtain⟨t,rfl⟩:=rx;exact SeqAt.EqAt.bool_str a b t
  |_=>exact absurd (show false=true from fx) AC
 |int a =>
  obtain⟨t',rfl⟩:=ry
  cases x with
  |non=>cases rx;exact SeqAt.EqAt.int_none a t'
  |bl b=>cases rx;exact SeqAt.EqAt.int_bool a t' b
  |int b=>obtain⟨t,rfl⟩:=rx;exact SeqAt.EqAt.int_int a t' b t
  |str b=>obtain⟨t,rfl⟩:=rx;exact SeqAt.EqAt.int_str a t' b t
  |_=>exact absurd (show false=true from fx) AC
 |str a =>
  obtain⟨t',rfl⟩:=ry
  cases x with
  |non=>cases rx;exact SeqAt.EqAt.str_none a t'
  |bl b=>cases rx;exact SeqAt.EqAt.str_bool a t' b
  |int b=>obtain⟨t,rfl⟩:=rx;exact SeqAt.EqAt.str_int a t' b t
  |str b=>obtain⟨t,rfl⟩:=rx;exact SeqAt.EqAt.str_str a t' b t
  |_=>exact absurd (show false=true from fx) AC
 |_=>exact absurd (show false=true from fy) AC
noncomputable def eqU(x:V)(u:Value):Bool:=match u with
 |.none=>eqV .non x
 |.bool b=>eqV (.bl b) x
 |.int i _=>eqV (.int i) x
 |.str z _=>eqV (.str z) x
 |_=>false
theorem zlQ{x y:V}{u:Value}(r:RelV y u)(f:flatV y=true):eqU x u=eqV y x:=by
 cases y with
 |non=>cases r;rfl
 |bl b=>cases r;rfl
 |int i=>obtain⟨t,rfl⟩:=r;rfl
 |str z=>obtain⟨t,rfl⟩:=r;rfl
 |_=>exact absurd (show false=true from f) AC
theorem zhI{x:V}:∀{xs:List V}{us:List Value},Vals xs us->xs.all flatV=true->us.any (eqU x)=xs.any λy=>eqV y x
 |_,_,.nil,_=>rfl
 |y::xs,u::us,.cons r t,f=>by
  rw[List.all_cons,Bd]at f;rw[List.any_cons,List.any_cons,zlQ r f.1,zhI t f.2]
theorem zfO{A:AM}{s:Ac}{x:V}{v:Value}(rx:RelV x v)(fx:flatV x=true):∀{xs:List V}{us:List Value},Vals xs us->xs.all flatV=true->∀u∈us,SeqAt.EqAt A s u v (eqU x u)
 |_,_,.nil,_=>λu hu=>by cases hu
 |y::xs,u::us,.cons r t,f=>λu' hu=>by
  rw[List.all_cons,Bd]at f;rcases AG.mp hu with rfl |hu
  .rw[zlQ r f.1];exact znw r rx f.1 fx
  .exact zfO rx fx t f.2 u' hu
noncomputable def inV(x:V)(xs:List V):Bool:=xs.any λy=>eqV y x
noncomputable def rIn(K:W.Frag)(neg:Bool):R2:=λx y H Q=>∃p xs,y=.ref p/\(SqL K H p xs∨SqT K H p xs)/\flatV x=true/\xs.all flatV=true/\Q (.bl (if neg then !inV x xs else inV x xs)) H
theorem zgI:OpR X (Bw .NotIn) (rIn X.K true):=by
 intro pins s σ H x y v u Q I rx ry h;obtain⟨p,xs,rfl,hq,fx,fs,q⟩:=h
 cases ry
 rcases hq with hq |hq
 .obtain⟨its,r,pl,hz⟩:=I.list hq;refine SeqAt.notIn_listAt (eqU x) pl.isList (λw hw=>zfO rx fx r fs w (by simpa using hw)) ⟨.bl _,H,I,rfl,?_⟩;rw[show its.toArray.any (eqU x)=its.any (eqU x) by simp,zhI r fs];exact q
 .obtain⟨its,r,pl,hz⟩:=I.tuple hq;refine SeqAt.notIn_tupleAt (eqU x) pl (λw hw=>zfO rx fx r fs w (by simpa using hw)) ⟨.bl _,H,I,rfl,?_⟩;rw[show its.toArray.any (eqU x)=its.any (eqU x) by simp,zhI r fs];exact q
theorem zaO:CallR X (.builtin "len") (λxs H Q=>∃p ys,xs=[.ref p]/\(SqL X.K H p ys∨SqT X.K H p ys)/\Q (.int ys.length) H):=by
 intro pins s σ H xs us Q I r h;obtain⟨p,ys,rfl,hq,q⟩:=h;obtain⟨u,rfl,rx⟩:=vals1 r
 cases rx
 have hn:=zgT;rcases hq with hq |hq
 .obtain⟨its,r',pl,hz⟩:=I.list hq;have hlen:=r'.length;exact Calls.call_len_list pl.isList (by simp only[Ar] <;> lia) ⟨.int ys.length,H,I.tok _,⟨s.toks+1,by rw[Ar,hlen]⟩,q⟩
 .obtain⟨its,r',pl,hz⟩:=I.tuple hq;have hlen:=r'.length;exact len_tuple pl (by simp only[Ar] <;> lia) ⟨.int ys.length,H,I.tok _,⟨s.toks+1,by rw[Ar,hlen]⟩,q⟩
theorem zcJ:CallR X (.type "list") (λxs H Q=>∃p ys,xs=[.ref p]/\(SqL X.K H p ys∨SqT X.K H p ys)/\∀l,H l=none->Q (.ref l) (upd H l (.lst ys))):=by
  intro pins s σ H xs us Q I r h;obtain⟨p,ys,rfl,hq,q⟩:=h;obtain⟨u,rfl,rx⟩:=vals1 r
  cases rx
  have fin:∀(its:List Value), Vals ys its -> ys.length <= sizeLine -> ∀(h':Heap) (c':Nat), (∀b o', s.heap.get? b=some o' -> h'.get? b=some o') ->
      h'.get? s.heap.objs.size=some { cls:=.type "list",dict:=none,data:=.seq its.toArray c',slots:=#[] }->EP X pins σ Q (.ref s.heap.objs.size) { s with heap:=h' }:=λits r' hz h' c' kp e =>
    ⟨.ref s.heap.objs.size,_,I.laid (t':=s.toks) kp (Ak _) (show ObjOk X.prog X.w _ h' _ (.lst ys) from ⟨hz,its,c',r',e⟩),rfl,q _ (I.hok.fresh (Ak _))⟩
  rcases hq with hq |hq
  . obtain⟨its,r',pl,hz⟩:=I.list hq;have hlen:=r'.length;obtain⟨o,ho,hc,n,hd⟩:=pl.isList;exact call_list_seq p (.inl rfl) ho hc hd (λh' c' kp e=>fin its r' hz h' c' kp e) (by simp only[Ar] <;> lia)
  . obtain⟨its,r',pl,hz⟩:=I.tuple hq;have hlen:=r'.length;obtain⟨o,ho,hc,n,hd⟩:=pl;exact call_list_seq p (.inr rfl) ho hc hd (λh' c' kp e=>fin its r' hz h' c' kp e) (by simp only[Ar] <;> lia)
theorem zf6:CallR X (.type "tuple") (λxs H Q=>∃p ys,xs=[.ref p]/\((SqL X.K H p ys/\∀l,H l=none->Q (.ref l) (upd H l (.tup ys)))∨(SqT X.K H p ys/\Q (.ref p) H))):=by
 intro pins s σ H xs us Q I r h;obtain⟨p,ys,rfl,h⟩:=h;obtain⟨u,rfl,rx⟩:=vals1 r
 cases rx
 rcases h with⟨hq,q⟩ |⟨hq,q⟩
 .obtain⟨its,r',pl,hz⟩:=I.list hq;have hlen:=r'.length;refine call_tuple_list pl.isList (λh' kp=>?_) (by simp only[Ar] <;> lia);have I1:Inv X pins σ H { s with heap:=h' }:=I.kept (t':=s.toks) kp
  have I2:Inv X pins σ (upd H h'.objs.size (.tup ys)) { s with heap:=h'.push { cls:=.type "tuple",data:=.seq its.toArray } } :=
   I1.laid (t':=s.toks) (λb o e=>Af _ e) (Ak _) (show ObjOk X.prog X.w _ _ _ (.tup ys) from ⟨hz,its,r',IsTup.new _ _⟩)
  exact⟨.ref h'.objs.size,_,I2,rfl,q _ (I1.hok.fresh (Ak _))⟩
 .obtain⟨its,r',pl,hz⟩:=I.tuple hq;exact call_tuple_same pl ⟨.ref p,H,I,rfl,q⟩
noncomputable def tyV(K:W.Frag)(T:String)(x:V)(H:Hp):Prop:=match x with
  |.str _=>T = "str"
  |.int _=>T = "int"
  |.ref p => (T = "list" /\ ∃xs, SqL K H p xs) ∨ (T = "tuple" /\ ∃o, K.lookup p=some o /\ o.cls = .type "tuple" /\ o.dict=none) ∨
      (T = "dict" /\ ((∃kvs,H p=some (.dK kvs))∨∃kvs,H p=some (.dT kvs)))∨(T = "set" /\ ∃S n,H p=some (.set S n))
  |_=>False
theorem zmS{pins:List (Addr × Obj)}{σ : St}{H:Hp}{s:Ac}{T:String}{x:V}{v:Value}(I:Inv X pins σ H s)(r:RelV x v)(ty:tyV X.K T x H) :
  s.TypeIs v T/\∀a,v=.ref a->∃ob,s.heap.get? a=some ob/\ob.dict=none:=by
 cases x with
 |str z =>
  obtain⟨t,rfl⟩:=r
  cases (show T = "str" from ty)
  exact⟨typeIs_str s z t,λ_ e=>nomatch e⟩
 |int i =>
  obtain⟨t,rfl⟩:=r
  cases (show T = "int" from ty)
  exact⟨typeIs_int s i t,λ_ e=>nomatch e⟩
 |ref p =>
  cases r
  rcases ty with⟨rfl,xs,hq⟩ |⟨rfl,o,hk,hc,hd⟩ |⟨rfl,hk⟩ |⟨rfl,S,n,hk⟩
  .obtain⟨its,_,pl,_⟩:=I.list hq;refine⟨pl.isList.typeIs,λa e=>?_⟩
   cases e
   obtain⟨o,n,e,c,hd,_⟩:=pl;exact⟨o,e,hd⟩
  .refine⟨⟨o,I.kIn p o hk,hc⟩,λa e=>?_⟩
   cases e
   exact⟨o,I.kIn _ o hk,hd⟩
  .have z:∃o, s.heap.get? p=some o /\ o.ExactDict := by
    rcases hk with⟨kvs,hk⟩ |⟨kvs,hk⟩
    .obtain⟨_,_,_,_,o,_,_,e,ex,_⟩:=I.hok p _ hk;exact⟨o,e,ex⟩
    .obtain⟨_,_,_,_,o,_,_,e,ex,_⟩:=I.hok p _ hk;exact⟨o,e,ex⟩
   obtain⟨o,e,ex⟩:=z;refine⟨⟨o,e,ex.1⟩,λa e2=>?_⟩
   cases e2
   exact⟨o,e,ex.2.1⟩
  .obtain⟨o,_,_,_,e,ex,_⟩:=I.hok p _ hk;refine⟨⟨o,e,ex.1⟩,λa e2=>?_⟩
   cases e2
   exact⟨o,e,ex.2.1⟩
 |_=>exact Bu ty
noncomputable def tBM(K:W.Frag)(T:String)(r:V->List V->Hp->VK->Prop)(to:TE)(t:TA):TE:=λσ H Q=>to σ H λx H1=>tyV K T x H1/\t σ H1 λxs H2=>r x xs H2 Q
variable {o e:Expr}{es:List Expr}{to:TE}{t:TA}{name:Str}{apos cpos:Pos}{T id:String}{r:V->List V->Hp->VK->Prop}
theorem pe_bm (pa:PlainAttrs T) (slot:Slot T name id) (hty:typeOf (.builtin id)=pure (.type "method_descriptor")) (hm:MtR X id r) (ho:PE X o to) (ha:PA X (e :: es) t)
  (hbase:attributeBase o name X.env (eval o X.env)=eval o X.env:=by rfl)
  (hfew:((backTo cpos (Bl (e::es) X.env)).all (λx=>!x.1) && (DO cpos (CI [] X.env)).all (λx=>x.1.isSome)
   && decide ((e::es).length+([]:List Keyword).length+(if ([]:List Keyword).isEmpty then 0 else 1)<30))=true:=by rfl)
  (hline:(apos.endLine == cpos.line)=true:=by rfl) (hs:Bl (e::es) X.env=(false,eval e X.env)::Bl es X.env:=by rfl) (hplain:(backTo cpos (Bl es X.env)).any (·.1)=false:=by rfl) :
  PE X (.Call (.Attribute o name apos) (e::es) [] cpos) (tBM X.K T r to t):=by
 intro pins s σ H Q I h;refine wpAny_Call_method_late hbase hfew hline rfl (thn (ho pins s σ H _ I h) λv s1 ⟨x,H1,I1,r1,ty,q1⟩=>?_);obtain⟨h1,h2⟩:=zmS I1 r1 ty;refine⟨T,id,pa,slot,hty,h1,h2,?_⟩;have hA:=ha cpos pins s1 σ H1 _ I1 q1;rw[hs]at hA ⊢;refine Dc (by show (false || (backTo cpos (Bl es X.env)).any (·.1))=false;rw[hplain] <;> rfl) (DB ?_);exact thn hA λus s2 ⟨vs,H2,I2,r2,q2⟩=>hm pins s2 σ H2 x vs v us Q I2 r1 r2 q2
/- xs.append(e),list.index on a module's tuple .. are MtR facts of 06m -/
end
noncomputable def MtM(X:Cx)(id:String)(r:V->List V->Hp->VK->Prop):Prop :=
 ∀(pins:List (Addr×Obj)) (s:Ac) (σ:St) (H:Hp) (x:V) (xs:List V) (v:Value) (us:List Value) (Q:VK),Inv X pins σ H s->RelV x v->Vals xs us->r x xs H Q ->
  Ao (Au X.prog X.w) X.A (call (.builtin id) (v::us)) (EP X pins σ Q) X.xe s
theorem Vals.one:∀{x:V}{us:List Value},Vals [x] us->∃u,us=[u]/\RelV x u
 |_,_,.cons r .nil=>⟨_,rfl,r⟩
theorem Vals.two:∀{x y:V}{us:List Value},Vals [x,y] us->∃u v,us=[u,v]/\RelV x u/\RelV y v
 |_,_,_,.cons r (.cons q .nil)=>⟨_,_,rfl,r,q⟩
theorem Vals.rep{xs:List V}{us:List Value}(h:Vals xs us):∀k:Nat,Vals (Ah k xs).flatten (Ah k us).flatten
 | 0=>.nil
 |k+1=>by
  rw[CB,CB,BA,BA];exact Vals.append h (Vals.rep h k)
theorem zgX(its:List Value):∀(k:Nat) (acc:List Value),
  List.foldl (λx1 x2=>x1++x2) acc.toArray (Ah k its.toArray)=(acc++(Ah k its).flatten).toArray
 | 0,acc=>by simp
 |k+1,acc=>by
  have e:acc.toArray++its.toArray=(acc++its).toArray:=by simp
  have e2:(acc++its)++(Ah k its).flatten=acc++(Ah (k+1) its).flatten:=by rw[CB,BA,AL]
  rw[<- e2,<- zgX its k (acc++its),<- e,CB,List.foldl_cons]
section
variable {X:Cx}{pins:List (Addr×Obj)}{σ:St}{H:Hp}{s:Ac}{l b:Addr}{xs ys zs:List V}
theorem Inv.lset{its its':List Value}{n:Nat}{f:Array Value -> Array Value}{t':Nat}(I:Inv X pins σ H s)(hH:H l=some (.lst xs))
  (e:s.heap.get? l=some { cls:=.type "list",data:=.seq its.toArray n }) (hf:f its.toArray=its'.toArray) (hv:Vals ys its') (hz:ys.length<=sizeLine) :
  Inv X pins σ (upd H l (.lst ys)) { s with heap:=s.heap.update l (AU f),toks:=t' }:=by
 have q:=PySem.IsL.update e f;rw[hf]at q;refine I.write (x:=l) (e:=l) (by rw[hH];exact trivial) (.inl rfl) (λb' u hb hu=>(AX s.heap (AU f) (BG hb)).trans hu) ⟨_,q⟩ ?_
 exact⟨hz,its',_,hv,q⟩
theorem Inv.lnew{its:List Value}{t':Nat}(I:Inv X pins σ H s)(hv:Vals ys its)(hz:ys.length <= sizeLine) :
  Inv X pins σ (upd H s.heap.objs.size (.lst ys)) { s with heap:=s.heap.push { cls:=.type "list",data:=.seq its.toArray },toks:=t' } :=
 I.laid (λ_ _ q=>Af _ q) (Ak _) ⟨hz,its,0,hv,AI _ rfl⟩
theorem Inv.fresh(I:Inv X pins σ H s):H s.heap.objs.size=none:=I.hok.fresh (Ak _)
theorem Inv.lstM (I:Inv X pins σ H s) (hH:H l=some (.lst xs)):xs.length<=sizeLine/\∃(its:List Value) (n:Nat),Vals xs its/\xs.length=its.length/\s.heap.get? l=some { cls:=.type "list",data:=.seq its.toArray n }:=by obtain⟨z,its,n,r,e⟩:=I.hok l _ hH;exact⟨z,its,n,r,r.length,e⟩
theorem zig{n:Nat}(h:n<=sizeLine):C3 n=false:=by unfold C3;exact decide_eq_false (by lia)
end
section
variable {X:Cx}
noncomputable def zmc:V->List V->Hp->VK->Prop:=λx vs H Q=>∃l xs y,x=.ref l/\vs=[y]/\H l=some (.lst xs)/\xs.length<sizeLine/\Q .non (upd H l (.lst (xs++[y])))
theorem zbb:MtM X "list.append" zmc:=by
 intro pins s σ H x vs v us Q I rx rv h;obtain⟨l,xs,y,rfl,rfl,hH,hz,q⟩:=h
 cases rx
 obtain⟨u,rfl,ru⟩:=rv.one;obtain⟨z,its,n,r,hl,e⟩:=I.lstM hH;refine call_meets F.slot_list_append ⟨_,e,rfl⟩ F.entry_list_append (F.args_list_append_2 _ _) (PySem.list_append l its.toArray n u (by rw[Ar];lia)) ⟨e,?_⟩;refine⟨.non,_,I.lset (its':=its++[u]) hH e (by simp) (r.append (.cons ru .nil)) ?_,rfl,q⟩;rw[Am,BP];lia
noncomputable def zmb:V->List V->Hp->VK->Prop:=λx vs H Q=>∃l b xs zs,x=.ref l/\vs=[.ref b]/\H l=some (.lst xs)/\H b=some (.lst zs)/\xs.length+zs.length<=sizeLine/\Q .non (upd H l (.lst (xs++zs)))
theorem zj1:MtM X "list.extend" zmb:=by
 intro pins s σ H x vs v us Q I rx rv h;obtain⟨l,b,xs,zs,rfl,rfl,hH,hB,hz,q⟩:=h
 cases rx
 obtain⟨u,rfl,ru⟩:=rv.one
 cases ru
 obtain⟨z,its,n,r,hl,e⟩:=I.lstM hH;obtain⟨z2,its2,n2,r2,hl2,e2⟩:=I.lstM hB;have hsz:its.toArray.size+its2.toArray.size<=sizeLine:=by rw[Ar,Ar];lia
 have hlong:¬ (!its.toArray.isEmpty && C3 (its.toArray.size+its2.toArray.size))=true:=by rw[zig hsz,Bool.and_false];exact AC
 refine call_meets F.slot_list_extend ⟨_,e,rfl⟩ F.entry_list_extend (F.args_list_extend_2 _ _)
  (AutoSeq1.list_extend_list_list_0 l its.toArray n b its2.toArray n2 hlong (by rw[Ar];lia) (by lia)) ⟨e,e2,?_⟩
 refine⟨.non,_,I.lset (its':=its++its2) hH e (by simp) (r.append r2) ?_,rfl,q⟩;rw[Am];lia
noncomputable def rCat:R2:=λx y H Q=>∃l b xs zs,x=.ref l/\y=.ref b/\H l=some (.lst xs)/\H b=some (.lst zs)/\xs.length+zs.length<=sizeLine/\∀p,H p=none->Q (.ref p) (upd H p (.lst (xs++zs)))
theorem zgK:OpR X (Dy .Add) rCat:=by
 intro pins s σ H x y v u Q I rx ry h;obtain⟨l,b,xs,zs,rfl,rfl,hH,hB,hz,q⟩:=h
 cases rx
 cases ry
 obtain⟨z,its,n,r,hl,e⟩:=I.lstM hH;obtain⟨z2,its2,n2,r2,hl2,e2⟩:=I.lstM hB;refine PySem.P.add_list e e2 ?_ (by rw[Ar,Ar];lia)
 have ea:its.toArray++its2.toArray=(its++its2).toArray:=by simp
 rw[ea];exact⟨.ref _,_,I.lnew (t':=s.toks) (r.append r2) (by rw[Am];lia),rfl,q _ I.fresh⟩
noncomputable def rRep:R2:=λx y H Q=>∃l k xs,x=.ref l/\y=.int k/\H l=some (.lst xs)/\-(2 ^ 63)<=k/\k<2 ^ 63/\xs.length*k.toNat<=sizeLine /\
 ∀p,H p=none->Q (.ref p) (upd H p (.lst (Ah k.toNat xs).flatten))
theorem zmv{α:Type}(xs:List α)(k:Nat):(Ah k xs).flatten.length=k*xs.length:=by
 induction k with
 |zero=>simp
 |succ k ih=>rw[CB,BA,Am,ih,Nat.succ_mul,Nat.add_comm]
theorem zjO:OpR X (Dy .Mult) rRep:=by
 intro pins s σ H x y v u Q I rx ry h;obtain⟨l,k,xs,rfl,rfl,hH,h1,h2,hz,q⟩:=h
 cases rx
 obtain⟨t,rfl⟩:=ry;obtain⟨z,its,n,r,hl,e⟩:=I.lstM hH;have hlen:its.toArray.size*k.toNat<=sizeLine:=by rw[Ar,<- hl];exact hz
 have hcap:¬ its.toArray.size*k.toNat > (2 ^ 63-1) / 8:=by
  have:(sizeLine:Nat)<=(2 ^ 63-1) / 8:=by decide
  lia
 have hfit:¬ (!Builtin.List.listFitsIndex k)=true:=by rw[fitsIndex_both h1 h2];exact AC
 have hlong:¬ C3 (its.toArray.size*k.toNat)=true:=by rw[zig hlen];exact AC
 have hnew:List.foldl (λx1 x2=>x1++x2) #[] (Ah (if its.toArray.isEmpty=true then 0 else k.toNat) its.toArray)=(Ah k.toNat its).flatten.toArray:=by
  have f0:∀m:Nat,List.foldl (λx1 x2=>x1++x2) #[] (Ah m its.toArray)=(Ah m its).flatten.toArray:=λm=>by have:=zgX its m [];rw[List.nil_append]at this;exact this
  rw[f0]
  cases its with
  |nil=>simp
  |cons a r'=>rw[if_neg (by simp)]
 refine wpAny_binaryOp_repeat_ref (T:="list") (U:="int") (by decide) ⟨_,e,rfl⟩ (λs'=>typeIs_int s' k t) noFill_list_mul F.fills_int_mul F.slot_int_rmul repeat_list F.slot_int_index.lookup
  (call_meets F.slot_int_rmul (typeIs_int s k t) F.entry_int_rmul (F.args_int_rmul_2 _ _) (int___rmul___int_list k t l its.toArray n)
   ⟨e,rfl,⟨_,e,rfl⟩,call_meets F.slot_list_mul ⟨_,e,rfl⟩ F.entry_list_mul (F.args_list_mul_2 _ _) (AutoListH.list___mul___list_int_3 l its.toArray n k t hfit hcap hlong) ⟨e,?_⟩⟩)
 rw[hnew];exact⟨.ref _,_,I.lnew (t':=s.toks) (r.rep k.toNat) (by rw[zmv,Nat.mul_comm];exact hz),rfl,q _ I.fresh⟩
end
section
variable {prog:AD}{w:A5}{A:AM}{E:Value->Ac->Prop}{s:Ac}
end
section
variable {X:Cx}
end
end L2
namespace Att
open PySem PySem.W PySem.Calls PyProof.Rows
theorem zet{P:Params}{h:Heap}:∀(ns:List Int) (vs:List Value),WellAll P h vs (ns.map WData.int)->CC vs ns:=by
 intro ns
 induction ns with
 |nil =>
  intro vs w;rw[List.map_nil]at w
  cases w
  exact .nil
 |cons n ns ih =>
  intro vs w;rw[A9]at w
  cases w with
  |cons a b =>
   cases a
   exact .cons _ _ (ih _ b)
theorem zjx{l:OpenLaw}{n:Nat}(hn:l.most=some n){P:Params}{h:Heap}{args:List WData}{vals:List Value}
  (hpre:l.row.toRowW.claim.pre args=true) (hwl:WellAll P h vals args) :
  ∃a vs ns,vals=[An a]/\args=[WData.list (ns.map WData.int)]/\h.get? a=some { cls:=.type "list",data:=.seq vs.toArray }/\CC vs ns/\ns.length<=n:=by
 have hsh:WShape.hasAll [] args [.list .int]=true:=(pre_splitW hpre).1;have hc:l.pre.holds [] { args:=args }=true:=(pre_splitW hpre).2;obtain⟨d,r,rfl,h1,h2⟩:=hasAllW_cons hsh;obtain rfl:=hasAllW_nil h2;obtain⟨xs,rfl,h3⟩:=hasW_list h1;obtain⟨ns,rfl⟩:=items_int h3
 have hlen:ns.length<=n:=by
  unfold OpenLaw.pre at hc
  have h4:(WTm.not (.lt (.lit (.int (n:Int))) (.len (.arg 0)))).holds [] { args:=[.list (ns.map .int)] }=true:=by have h4:=(holds_andW hc).1;rw[hn]at h4;exact h4
  have h5:=condW_of h4 (w_not (w_lt w_lit (w_len_list (w_arg rfl))));rw[Ap]at h5;refine Nat.le_of_not_lt λq=>?_
  have q':(n:Int)<((ns.length:Nat):Int):=by lia
  first
   | (rw[decide_eq_true q']at h5;exact absurd h5 (by decide))
   | (simp at h5;lia)
 cases hwl with
 |cons w1 w2 =>
  cases w2
  cases w1 with
  |list ho hall=>exact⟨_,_,ns,rfl,rfl,ho,zet ns _ hall,hlen⟩
theorem zjH(l:OpenLaw)(args:List WData):l.row.toRowW.claim.post args (.bool true) args=true :=
 postW_of (r:=l.row.toRowW) (X:=(true == true))
  (show WShape.has [] (.bool true) .bool=true by first |rfl |decide |simp[WShape.has,WShape.arms,WShape.armsAll])
  (show (WTm.eq .res (.lit (.bool true))).value [] { args:=args,res:=some (.bool true),after:=args }=some (.bool (true == true)) from w_eq_bool (w_res rfl) w_lit) rfl
theorem attach_call{l:OpenLaw}{n:Nat}{q:AD}{loose:List Str}{XP:(Str -> Option Value) -> Heap -> Prop}{YP:A5 -> Heap -> Prop}{d:DefRec}
  (hn:l.most=some n) (hdf:d.params.defaults=[])
  (call:∀(w:A5) (s₀ s₁:Ac) (mg mb:Str->Option Value) (fa:Addr) (o:Obj) (pm cd doc:Value) (a:Addr) (vs:List Value) (ns:List Int),
   Ground q loose [] XP w s₀ mg mb s₁.heap->YP w s₁.heap ->
   s₁.heap.get? fa=some o->o.data=.func (docDef d.name d.params d.body d.scope pm cd doc)->s₁.heap.CodeRec cd d.name->mg d.name=some (.ref fa) ->
   s₁.heap.get? a=some { cls:=.type "list",data:=.seq vs.toArray }->CC vs ns->ns.length<=n->s₁.gens=#[] ->
   Co (Au l.prog w) callerA (.call (.ref fa) ⟨[.ref a],[]⟩) (λr s'=>r=.ok (.ret (.bool true))/\OldK s₁.heap s'.heap/\s'.os=s₁.os/\AllBare s'.gens) s₁) :
  WalkO q loose XP YP l.row.toRowW d [] (λf vs=>PySem.call f vs):=by
 intro w s₀ s₁ mg mb G Y fa o pm cd doc dV kV ho hd hcd hD hmg hg args vals as hpre hlay hrd hwl hlo;obtain rfl:dV=.none:=Dflts.none hD hdf;obtain rfl:kV=.none:=Dflts.noKw hD;obtain⟨a,vs,ns,rfl,rfl,hobj,hints,hlen⟩:=zjx hn hpre hwl;refine enter_call (codeAny_mono (call w s₀ s₁ mg mb fa o pm cd doc a vs ns G Y ho (fd_plain hd) hcd hmg hobj hints hlen hg) λr s' hq=>?_);obtain⟨rfl,h2,h3,h4⟩:=hq;exact⟨.inl ⟨.bool true,.bool true,[],rfl,λ_=>rfl,.bool true,zjH l _,λ_=>⟨List.Pairwise.nil,λ_ hm=>(nomatch hm)⟩⟩,h2,h3,h4⟩
section
variable {prog:AD}{w:A5}{A:AM}{E:Value->Ac->Prop}{s:Ac}{K:Frag}
noncomputable def znH(h:Heap)(L d:Addr):List (Addr×Obj):=(BS h.objs.size).filterMap λa=>if a=L∨a=d then none else (h.get? a).map λo=>(a,o)
end
end Att
namespace L2
open PySem PySem.Spec PyProof.Rows
theorem zgi:∀{vs:List Value}{ns:List Int},CC vs ns->Vals (ns.map V.int) vs
 |_,_,.nil=>.nil
 |_,_,.cons n t h=>.cons ⟨t,rfl⟩ (zgi h)
noncomputable def Only(H:Hp):Prop:=∀b,H b=none∨∃o xs,H b=some (.frz o (.lst xs))
theorem zlc{P:AD}{w:A5}{K:W.Frag}{mg mb:Str -> Option Value}{CX:CXT}{k:Nat}{fa a:Addr}{fd:Bz}{x:Str}{sp:Sp}{s₁ : Ac}{vs:List Value}{ns:List Int}
    (KX:K.In s₁.heap) (hns:s₁.heap.Ns Az mg) (hb:s₁.heap.Ns builtinsNs mb) (hbb:∀x:Str,x ≠ "__name__" -> mb x=bootBuiltins x) (hlim:s₁.heap.NoLimit) (hg:s₁.gens=#[])
    (ha:s₁.heap.get? a=some { cls:=.type "list",data:=.seq vs.toArray }) (hi:CC vs ns) (hl:ns.length<=sizeLine) (hr:Room k callerA)
    (F:∀base:Heap,K.In base->base.Ns Az mg->FnOk P w K mg base CX k fa fd [x] sp) (hbind:∀(s:Ac) (u:Value),BindsTo s fd ⟨[u],[]⟩ [(x,u)])
    (hsp:∀H:Hp,Only H->SqL K H a (ns.map V.int)->sp [.ref a] H (λv _=>v=.bl true) λ_ _ _=>False)
    (hCX:∀H e s',CX [] H s₁ (λ_ _ _=>False) e s'->False) :
    Co (Au P w) callerA (.call (.ref fa) ⟨[.ref a],[]⟩) (λr s'=>r=.ok (.ret (.bool true))/\OldK s₁.heap s'.heap/\s'.os=s₁.os/\AllBare s'.gens) s₁:=by
  have rv:=zgi hi;have lenV:=hi.length
  have core:∀H:Hp, Only H -> SqL K H a (ns.map V.int) -> HOk P w H s₁.heap -> (∀b, H b ≠ none -> b=a) -> (H a ≠ none -> K.lookup a=none) ->
      Co (Au P w) callerA (.call (.ref fa) ⟨[.ref a],[]⟩) (λr s'=>r=.ok (.ret (.bool true))/\OldK s₁.heap s'.heap/\s'.os=s₁.os/\AllBare s'.gens) s₁:=by
    intro H hO hS hok hA hK;have base_of:∀{b:Addr} {o:Obj},s₁.heap.get? b=some o->H b=none->(hidT s₁.heap H).get? b=some o:=λe n=>zlf e n
    have noA:∀{b:Addr} {o:Obj} {es:Array DictEntry} {ep:Nat},s₁.heap.get? b=some o->o.data=.dict es ep->H b=none:=λ{b o es ep} e d=>by
      cases q:H b with
      |none=>rfl
      |some u =>
        have e':b=a:=hA b (by rw[q];simp);subst e';rw[ha]at e;cases e;have d':Data.seq vs.toArray _=Data.dict es ep:=d
        cases d'
    have nsK:∀{b:Addr} {m:Str->Option Value},s₁.heap.Ns b m->(hidT s₁.heap H).Ns b m:=λ{b m} ⟨o,es,ep,e,d,r⟩=>⟨o,es,ep,base_of e (noA e d),d,r⟩
    have hKb:K.In (hidT s₁.heap H):=λb o e=>base_of (KX b o e) (by
      cases q:H b with
      |none=>rfl
      |some u =>
        have e':b=a:=hA b (by rw[q];simp);subst e';rw[hK (by rw[q];simp)]at e;cases e)
    have hM:Mod K mg (hidT s₁.heap H):=⟨hKb,nsK hns,⟨mb,nsK hb,hbb⟩,let ⟨mc,h1,h2⟩:=hlim;⟨mc,nsK h1,h2⟩⟩;have e0:Env0 P w K mg (hidT s₁.heap H) callerA [] s₁ H:=⟨rfl,hM,λb o e=>zmo e,Nat.le_of_eq (zkk _ _),trivial,λb hb=>absurd (show b∈([]:List Addr) from hb) (by simp),hok,.of_eq hg⟩;refine codeAny_mono ((F _ hKb (nsK hns)).run callerA [] s₁ H ⟨[.ref a],[]⟩ [.ref a] [.ref a] _ _ hr e0 (hbind s₁ (.ref a)) (.cons rfl .nil) (hsp H hO hS)) λr s' h=>?_
    cases r with
    |error e=>exact (hCX H e s' h).elim
    |ok fl =>
      cases fl with
      |next=>exact Bu h
      |brk=>exact Bu h
      |cont=>exact Bu h
      |ret u =>
        obtain⟨v,H',os,bare,un,hok',r',q⟩:=h;have q':v=.bl true:=q;subst q';obtain rfl:u=Value.bool true:=r';refine⟨rfl,OldK.of_keep λb o e=>?_,os,bare⟩
        cases q:H b with
        |none=>exact un.keep b o e q (by intro z;exact absurd (show b∈([]:List Addr) from z) (by simp)) (by simp)
        |some u =>
          rcases hO b with z |⟨ob,xs,z⟩
          . rw[q]at z;cases z
          . have z2:=un.frzs b ob _ z;obtain⟨e1,_⟩:=hok b _ z;obtain⟨e2,_⟩:=hok' b _ z2;rw[e]at e1;cases e1;exact e2
  cases hk:K.lookup a with
  |some o =>
    have e:=KX a o hk;rw[ha]at e
    cases e
    refine core (λ_=>none) (λ_=>.inl rfl) (.inr ⟨_,vs.toArray,_,hk,rfl,rfl,rfl,by rw[Ar,lenV];exact hl,by simpa using rv⟩) (λb u z=>by have z':(none:Option HO)=some u:=z;cases z') (λb z=>absurd rfl z) λz=>absurd rfl z
  |none =>
    refine core (λb=>if b=a then some (.frz { cls:=.type "list",data:=.seq vs.toArray } (.lst (ns.map V.int))) else none) (λb=>?_) (.inl (.inr ⟨{ cls:=.type "list",data:=.seq vs.toArray },if_pos rfl⟩)) (λb u z=>?_) (λb z=>?_) λ_=>hk
    . by_cases hb:b=a
      . exact .inr ⟨_,_,if_pos hb⟩
      . exact .inl (if_neg hb)
    . by_cases hb:b=a
      . have z':=(if_pos hb).symm.trans z
        cases z'
        subst hb;exact⟨ha,by rw[Ap];exact hl,vs,_,rv,ha⟩
      . have z':=(if_neg hb).symm.trans z
        cases z'
    . by_cases hb:b=a
      . exact hb
      . exact absurd (if_neg hb) z
noncomputable abbrev KOf{K:W.Frag}{h:Heap}(_:K.In h):W.Frag:=K
theorem walk_of{l:W.OpenLaw}{n k:Nat}{q:AD}{loose:List Str}{XP:(Str -> Option Value) -> Heap -> Prop}{YP:A5 -> Heap -> Prop}{d:DefRec}{K:Params -> W.Frag}{CX:A5 -> CXT}{sp:A5 -> Sp}{x:Str}
  (hn:l.most=some n) (hn2:n<=sizeLine) (hdf:d.params.defaults=[]) (hr:Room k callerA)
  (hY:∀(w:A5) (h:Heap),YP w h->(K w.params).In h)
  (F:∀(w:A5) (mg:Str->Option Value) (fa:Addr) (h:Heap),(K w.params).In h->h.Ns Az mg->mg d.name=some (.ref fa) ->
   ∃fd:Bz,(∀(s:Ac) (u:Value),BindsTo s fd ⟨[u],[]⟩ [(x,u)]) /\
    ∀base:Heap,(K w.params).In base->base.Ns Az mg->FnOk l.prog w (K w.params) mg base (CX w) k fa fd [x] (sp w))
  (hsp:∀(w:A5) (H:Hp) (a:Addr) (ns:List Int),ns.length<=n->Only H->SqL (K w.params) H a (ns.map V.int)->sp w [.ref a] H (λv _=>v=.bl true) λ_ _ _=>False)
  (hCX:∀(w:A5) (H:Hp) (s:Ac) (e:Value) (s':Ac),CX w [] H s (λ_ _ _=>False) e s'->False) :
  W.WalkO q loose XP YP l.row.toRowW d [] (λf vs=>PySem.call f vs):=by
 refine Att.attach_call hn hdf λw s₀ s₁ mg mb fa o pm cd doc a vs ns G Y ho hd hcd hmg hobj hints hlen hg=>?_
 have KX:=hY w _ Y;obtain⟨fd,hb,hF⟩:=F w mg fa _ KX G.T.g hmg;exact zlc KX G.T.g G.T.b G.T.builtins G.T.nolimit hg hobj hints (A3 hlen hn2) hr hF hb (λH hO hS=>hsp w H a ns hlen hO hS) λH e s'=>hCX w H s₁ e s'
end L2
/- THE LAST THEOREM (shape; LID, My.* are yours):
  My.Adr: a structure of the addresses that your layer names (classes,functions);My.Txt K t: a structure (Prop) of the equations over K;
  My.txt_mk:{K} {implicit addresses ..} (e1:nsIn K Az "law" = some (some (.ref f))) (e2:K.lookup f=some ⟨oc,od,.func (fnOf "law" "law" params body scope dV kV doc pm an cdv ct),sl⟩) (e3:codeIn K cdv "law" = true) ..:∃t,My.Txt K t
set_option maxRecDepth 100000 in
set_option maxHeartbeats 0 in
theorem PySem.Challenge.cw_LID_holds : PySem.Challenge.rw_LID.Holds := by
 w_on;o_law;k_head;(case hw=>w_witness2)
 k_fill
 refine L2.walk_of (l:=PySem.Challenge.rw_LID) (n:=63) (k:=40) (x:="script") (CX:=λw=>..) (sp:=λ_=>My.sp_law) rfl (by decide) rfl ⟨rfl,by decide,by decide⟩ (λw h Y=>W.kIn_of Y) ?F ?S ?C
 case F =>
  intro w mg fa h KX G hmg
  have T:∃ t,My.Txt (L2.KOf KX) t:=by
   dsimp only[L2.KOf]                          -- K must stand as «<heap const> w.params» for k_is
   refine' My.txt_mk ?e1 ?e2 ?e3 ..
   (case e1=>W.k_is)                    -- in the order: a name -> its address -> its object -> its parts
   (case e2=>W.k_is)
   ..
  obtain⟨t,T⟩:=T
  have e0:=hmg.symm.trans (Cq KX G T.law)
  cases e0                                       -- fa is the law's own address
  exact⟨_,λs u=>.of_eq rfl,λbase kb nb=>My.law_fn T kb nb⟩     -- if «.of_eq rfl» comes too early: refine' ⟨_,?b,λbase kb nb=>My.law_fn T kb nb⟩;exact λs u=>.of_eq rfl
 case S=>exact λw H a ns hl hO hS=>..
 case C=>exact ..
(the tactic k_is has no namespace: write k_is) -/
namespace L2
open PySem PySem.Spec PyProof.Rows
noncomputable def za2(s:Stmt):Arguments:=match s with
 |.FunctionDef _ a _ _ _ _ _ _ _ _=>a
 |_=>{ posonlyargs:=[],args:=[],vararg:=none,kwonlyargs:=[],kw_defaults:=[],kwarg:=none,defaults:=[] }
noncomputable def zaS(s:Stmt):List Stmt:=match s with
 |.FunctionDef _ _ b _ _ _ _ _ _ _=>b
 |_=>[]
noncomputable def zad(s:Stmt):Scope:=match s with
 |.FunctionDef _ _ _ _ _ _ sc _ _ _=>sc
 |_=>{ kind:=.function,names:=[],isGenerator:=false,isCoroutine:=false }
noncomputable abbrev CX0:CXT:=λ_ _ _ _ _ _=>False
noncomputable abbrev E0:XK:=λ_ _ _=>False
theorem pass0{X:Cx}:zha CX0 X E0:=λ_ _ _ _ _ _ _ h=>h.elim
structure Fun (K:W.Frag) (x qual:Str) (st:Stmt) (f:Addr) (fd:Bz):Prop where
 ex:∃(oc:Value) (od:Option Addr) (kV doc pm:Value) (an:Option Addr) (cdv ct:Value) (osl:Array (Option Value)),
  fd=Db x qual (za2 st) (zaS st) (zad st) .none kV doc pm an cdv ct/\K.lookup f=some ⟨oc,od,.func fd,osl⟩/\W.codeIn K cdv qual=true
 kp:DN K (.ref f)=true
section
variable {P:AD}{w:A5}{K:W.Frag}{mg:Str->Option Value}{base:Heap}
theorem Fun.ok{x qual:Str}{st:Stmt}{f:Addr}{fd:Bz}{N ps:List Str}{k:Nat}{sp:Sp}(F:Fun K x qual st f fd)(S:FnScope N ps (zad st))(len:∀vs H Q E, sp vs H Q E -> vs.length=ps.length)
  (hbody:∀(cdv:Value) (A:AM) (outer:List Env) (s:Ac) (H:Hp) (vs:List V) (Q:VK) (E:XK),Room k (A.deeper (envOfC qual (zad st) s.heap.objs.size f cdv))->sp vs H Q E ->
   ∃t,PSs (cxOf CX0 P w K mg base N qual (zad st) f cdv A outer s H E).nox (zaS st) t/\t { nx:=λ_ H'=>Q .non H',rt:=Q } (start N vs) H):FnOk P w K mg base CX0 (k+1) f fd ps sp:=by
 obtain⟨oc,od,kV,doc,pm,an,cdv,ct,osl,rfl,lk,hcd⟩:=F.ex;refine fn_of lk hcd S len λA outer s H vs Q E hr hsp=>?_
 obtain⟨t,h,q⟩:=hbody cdv A outer s H vs Q E hr hsp;exact⟨t,h.nox,q⟩
theorem Fun.binds{x qual:Str}{st:Stmt}{f:Addr}{fd:Bz}{ps:List Str}(F:Fun K x qual st f fd)
  (h:∀(kV doc pm:Value) (an:Option Addr) (cdv ct:Value) (us:List Value),us.length=ps.length->Dz (Db x qual (za2 st) (zaS st) (zad st) .none kV doc pm an cdv ct) ⟨us,[]⟩=pure (ps.zip us)):Binds K fd ps []:=by
 obtain⟨oc,od,kV,doc,pm,an,cdv,ct,osl,rfl,lk,hcd⟩:=F.ex;exact .all (h kV doc pm an cdv ct)
theorem zcG{x qual:Str}{st:Stmt}{f:Addr}{oc:Value}{od an:Option Addr}{osl:Array (Option Value)}{kV doc pm cdv ct:Value}(l:K.lookup f=some ⟨oc, od, .func (Db x qual (za2 st) (zaS st) (zad st) .none kV doc pm an cdv ct), osl⟩)
  (c:W.codeIn K cdv qual=true) (k:DN K (.ref f)=true):Fun K x qual st f (Db x qual (za2 st) (zaS st) (zad st) .none kV doc pm an cdv ct):=⟨⟨oc,od,kV,doc,pm,an,cdv,ct,osl,rfl,l,c⟩,k⟩
end
theorem hu_of{A:AM}{k:Nat}(hr:Room k A):A.units+1<cLine:=Nat.lt_of_le_of_lt (Nat.add_le_add_left (by decide:1<=64) _) hr.units
theorem zak{n:Nat}(h:n<=1000):n<sizeLine:=Nat.lt_of_le_of_lt h (by decide)
section
variable {X:Cx}
theorem pv (i:Nat){x:Str}{pos:Pos}(hN:X.N[i]? = some x := by rfl) (hv:Vis X.env.scope x := by first |exact Or.inl rfl |exact Or.inr (Or.inl rfl) |exact Or.inr (Or.inr rfl)) (hd:(x == ("__debug__" : Str))=false := by decide)
  (hcd:(x == ("__classdict__" : Str))=false:=by decide):PE X (.Name x pos) (tVar i):=znd hN hv hd hcd
end
theorem iteF{A B:Prop}(h:B):if false=true then A else B:=by rw[if_neg AC];exact h
theorem iteT{A B:Prop}(h:A):if true=true then A else B:=by rw[if_pos rfl];exact h
theorem ite2{c A B:Prop} [Decidable c](h1:c->A)(h2:¬ c->B):if c then A else B:=by
 by_cases h:c
 .rw[if_pos h];exact h1 h
 .rw[if_neg h];exact h2 h
noncomputable def Same(H H':Hp):Prop:=∀b o,H b=some o->H' b=some o
theorem Same.refl(H:Hp):Same H H:=λ_ _ h=>h
theorem Same.trans{H H1 H2:Hp}(a:Same H H1)(b:Same H1 H2):Same H H2:=λc o h=>b c o (a c o h)
theorem Same.free{H H':Hp}(e:Same H H'){l:Addr}(h:H' l=Option.none):H l=Option.none:=by
 cases q:H l with
 |none=>rfl
 |some o =>
  rw[e l o q]at h
  cases h
theorem Same.seq{K:W.Frag}{H H':Hp}{a:Addr}{xs:List V}(e:Same H H')(h:SqL K H a xs):SqL K H' a xs:=by
 rcases h with (h |⟨o,h⟩) |h
 .exact .inl (.inl (e _ _ h))
 .exact .inl (.inr ⟨o,e _ _ h⟩)
 .exact .inr h
section
variable {κ:Type} [DecidableEq κ]
theorem zkI{kvs:List (κ×V)}{k:κ}(h:valV kvs k=none):¬ k∈kvs.map (·.1):=by intro m;obtain⟨p,hp,e⟩:=AV.mp m;have q:(kvs.any λkv=>decide (kv.1=k))=true:=List.any_eq_true.mpr ⟨p,hp,decide_eq_true e⟩;rw[zcN,h]at q;exact absurd q (by simp)
theorem zjZ:∀{l:List κ}{k:κ},l.Nodup->¬ k∈l->(l++[k]).Nodup
 |[],k,_,_=>by simp
 |a::r,k,h,hk=>by
  obtain⟨h1,h2⟩:=BJ.mp h;show (a::(r++[k])).Nodup;refine List.nodup_cons.mpr ⟨λm=>?_,zjZ h2 λm=>hk (List.mem_cons.mpr (Or.inr m))⟩;rcases AQ.mp m with q |q
  .exact h1 q
  .exact hk (List.mem_cons.mpr (Or.inl (Aj.mp q).symm))
theorem zms{kvs:List (κ×V)}{k:κ}(v:V)(hn:(kvs.map (·.1)).Nodup)(h:valV kvs k=none):((putK kvs k v).map (·.1)).Nodup:=by rw[zfy v h,A6];exact zjZ hn (zkI h)
theorem zkn{p:κ×V}{r:List (κ×V)}{k:κ}(e:p.1=k):dropK (p::r) k=dropK r k:=by unfold dropK;rw[CJ,if_neg (by simp[e])]
theorem zg0{p:κ×V}{r:List (κ×V)}{k:κ}(e:¬ p.1=k):dropK (p::r) k=p::dropK r k:=by unfold dropK;rw[CJ,if_pos (by simp[e])]
theorem ziA:∀{kvs:List (κ×V)}{k:κ},¬ k∈kvs.map (·.1)->dropK kvs k=kvs
 |[],_,_=>rfl
 |p::r,k,h=>by
  have h':¬ k∈r.map (·.1):=λm=>by obtain⟨q,hq,e⟩:=AV.mp m;exact h (AV.mpr ⟨q,List.mem_cons.mpr (Or.inr hq),e⟩)
  rw[zg0 λe=>h (AV.mpr ⟨p,List.mem_cons.mpr (Or.inl rfl),e⟩),ziA h']
end
end L2
set_option maxHeartbeats 4000000
namespace L2
open PySem PySem.Spec PyProof.Rows
noncomputable def zb6(J:It)(g:TG)(tb:TS):TS:=λD σ H=>∃W:Nat->Nat->St->Hp->Prop,(∃m,W 0 m σ H)/\∀i m σ H,W i m σ H ->
 (J.stop i H/\D.nx σ H)∨(J.go i H/\∃N:St->Hp->Prop,(∀ σ' H',N σ' H'->∃m',m'<m/\W (i+1) m' σ' H')/\∀x H',J.yld i H x H'->g x σ H' λσ2 H2=>tb { D with nx:=N,ct:=N,bk:=D.nx } σ2 H2)
noncomputable def PTs(X:Cx)(ifs:List Expr)(t:TT):Prop :=
 ∀(pins:List (Addr×Obj)) (s:Ac) (σ:St) (H:Hp) (Q:Bool->Hp->Prop),Inv X pins σ H s->t σ H Q ->
  Ao (Au X.prog X.w) X.A (forIn ifs true λc r=>if r=true then do let ok <- isTrue c X.env (eval c X.env);pure (ForInStep.yield ok) else pure (ForInStep.yield r)) (TP X pins σ Q) X.xe s
theorem zbH{X:Cx}:PTs X [] (λ_ H Q=>Q true H):=λpins s σ H Q I h=>Ae ⟨H,I,h⟩
theorem zbG{X:Cx}{c:Expr}{t:TT}(hc:PT X c t):PTs X [c] t:=λpins s σ H Q I h=>wpAny_tests_one (hc pins s σ H Q I h)
noncomputable def PB(X:Cx)(inner:Sem Unit)(t:TS):Prop :=
 ∀(pins:List (Addr×Obj)) (s:Ac) (σ:St) (H:Hp) (D:Ends),Inv X pins σ H s->t D σ H->Ao (Au X.prog X.w) X.A inner (λ_ s'=>∃ σ' H',Inv X pins σ' H' s'/\D.nx σ' H') X.xe s
noncomputable def tIfs(tt:TT)(tb:TS):TS:=λD σ H=>tt σ H λb H1=>if b=true then tb D σ H1 else D.nx σ H1
theorem zdr{X:Cx}{e tg:Expr}{d:Nat}{ifs:List Expr}{p:Pos}{acc:Value}{inner:Sem Unit}{g:TG}{tt:TT}{tb:TS}{it:Addr}{fp:List Addr}{tn:Nat -> Heap -> Prop}{J:It}
  {pins:List (Addr×Obj)} {s:Ac} {σ:St} {H:Hp} {D:Ends} {R:Result->Ac->Prop}
  (hq:(Code.compLoop e d (.ref it) acc X.env).quiet=true)
  (hden:(Au X.prog X.w).den (.compLoop e d (.ref it) acc X.env)=(compTurn e d (.ref it) acc X.env).onRaise (λx=>do noteFrame x X.env;theTreesLotGoes x))
  (hT:compTurn e d (.ref it) acc X.env=(do
   standAt p
   match <- pyNext (.ref it) with
   |none=>pure (.done .next)
   |some v =>
    DW tg (.ref it) v
    Dx tg X.env v
    let mut ok:=true
    for c in ifs do
     if ok then ok <- isTrue c X.env (eval c X.env)
    if ok then
     inner
    again (.compLoop e d (.ref it) acc X.env)))
  (hA:∀(B:AM) {α:Type} {t:Sem α} {Q:α->Ac->Prop} {E:Value->Ac->Prop} {s:Ac},B=X.A.under (.compLoop e d (.ref it) acc X.env)->Ao (Au X.prog X.w) X.A t Q E s->Ao (Au X.prog X.w) B t Q E s)
  (hc:X.calm=true) (hx:X.xe=λ_ _=>False) (hg:PG X tg g) (ht:PTs X ifs tt) (hb:PB X inner tb)
  (I:Inv X pins σ H s) (T:Turn X.prog X.w X.K tg J fp it tn) (st:tn 0 s.heap) (f:∀b∈fp,FpOk X pins H b) (W:zb6 J g (tIfs tt tb) D σ H)
  (hR:∀fl s',(∃ σ' H',Inv X pins σ' H' s'/\(∀b∈fp,H' b=none)/\D.nx σ' H')->R (.ok fl) s') :
  Co (Au X.prog X.w) X.A (.compLoop e d (.ref it) acc X.env) R s:=by
 obtain⟨W,⟨m0,w0⟩,turn⟩:=W;have stat:∀{H':Hp},(∀b∈fp,H' b=none)->∀b∈fp,FpOk X pins H' b:=λhn b hb=>⟨hn b hb,(f b hb).2⟩
 refine codeAny_loop hq (λn s'=>∃i σ' H',Inv X pins σ' H' s'/\tn i s'.heap/\(∀b∈fp,H' b=none)/\W i n σ' H') ?_ m0 ⟨0,σ,H,I,st,λb hb=>(f b hb).1,w0⟩;rintro n s3 ⟨i,σ3,H3,I3,st3,fr3,w3⟩;refine hA _ rfl ?_
 rw[hden];refine wpAny_noted (wpAny_noRaise ?_);rw[hT];refine Ab (CH ?_)
 have nx:∀{α:Type} {t:Sem α} {Q:α->Ac->Prop} {s:Ac},Ao (Au X.prog X.w) X.A t Q X.xe s->Ao (Au X.prog X.w) X.A t Q (λ_ _=>False) s:=λ{α t Q s} h=>by rw[hx]at h;exact h
 rcases turn i n σ3 H3 w3 with⟨stop,qn⟩ |⟨go,N,hN,step⟩
 .refine Ab (thn (T.done X rfl rfl rfl hc i pins s3 σ3 H3 _ I3 (stat fr3) st3 stop) λr s4 ⟨hr,I4⟩=>?_);subst hr;exact Ae (hR _ _ ⟨σ3,H3,I4,fr3,qn⟩)
 .refine Ab (thn (T.item X rfl rfl rfl hc i pins s3 σ3 H3 _ I3 (stat fr3) st3 go) λr s4 ⟨u,hr,h4⟩=>?_);subst hr;refine Ab (thn h4 λ_ s5 ⟨x,H5,I5,r5,y5,st5,fr5⟩=>?_);have I5':=I5.pinned (stat fr5) (T.obj _ _ st5)
  have again:∀{σ7:St} {H7:Hp} {s7:Ac},Inv X (pins++zdK fp s5.heap) σ7 H7 s7->N σ7 H7->∃m,m<n/\∃i σ' H',Inv X pins σ' H' s7/\tn i s7.heap/\(∀b∈fp,H' b=none)/\W i m σ' H':=λ{σ7 H7 s7} I7 n7=>by obtain⟨m',hm,w7⟩:=hN σ7 H7 n7;refine⟨m',hm,i+1,σ7,H7,I7.unpinned,T.keep _ _ _ st5 λb hb o e=>(I7.pin (b,o) (Av _ (Av _ (za1 hb e)))).1,λb hb=>?_,w7⟩;obtain⟨o,e,d⟩:=T.obj _ _ st5 b hb;exact (I7.pin (b,o) (Av _ (Av _ (za1 hb e)))).2.1
  refine Ab (thn (nx (hg _ s5 σ3 H5 x u _ I5' r5 (step x H5 y5))) λ_ s6 ⟨σ6,H6,I6,q6⟩=>?_);refine Ab (thn (nx (ht _ s6 σ6 H6 _ I6 q6)) λok s7 ⟨H7,I7,q7⟩=>?_)
  cases ok with
  |false =>
   exact Ae ⟨rfl,again I7 q7⟩
  |true =>
   refine Ab (thn (nx (hb _ s7 σ6 H7 _ I7 q7)) λ_ s8 ⟨σ8,H8,I8,q8⟩=>?_);exact Ae ⟨rfl,again I8 q8⟩
noncomputable abbrev blk(X:Cx)(sc:Scope)(cl:List (Str×Addr))(C:Addr)(N':List Str)(s0:Ac)(H0:Hp)(ex:List Addr):Cx :=
 { X with N:=N',s₀:=s0,H₀:=H0,env:=CV sc cl C X.env,outer:=X.stack,stack:=X.stack,ex:=ex,fn:=λ_=>false,pn:=[],xe:=λ_ _=>False }
structure BlkOk (osc:Scope) (N:List Str) (sc:Scope) (N':List Str) (sel:List (Option Nat)):Prop where
 kind:sc.kind=.function
 nocell:∀y∈sc.names,y.2≠.cell
 names:∀y∈sc.names,y.2=.local->sc.names.lookup y.1=some .local
 free:∀y∈sc.names,y.2=.free->osc.names.lookup y.1=some .cell∨osc.names.lookup y.1=some .free
 len:sel.length=N'.length
 sel:∀p∈sel.zip N',∀i∈p.1,N[i]?=some p.2/\sc.names.lookup p.2=some .free
noncomputable def selSt(sel:List (Option Nat))(σ:St):St:=sel.map λo=>o.bind λi=>(σ[i]?).join
theorem zdd{env:Env} : ∀(names:List (Str × NameKind)) (acc:List (Str × Addr)), (∀y ∈ names, y.2 = .free -> ∃c, env.cells.lookup y.1=some c) ->
  ∃cl,(forIn names acc λ(x:Str×NameKind) (r:List (Str×Addr))=>(if (x.2 == .free)=true then do let c <- cellOf env x.1;pure (ForInStep.yield ((x.1,c)::r)) else pure (ForInStep.yield r):Sem (ForInStep (List (Str×Addr)))))=pure cl /\
   (∀x c,cl.lookup x=some c->acc.lookup x=some c∨(env.cells.lookup x=some c/\(x,Bs)∈names))/\(∀y∈names,y.2=.free->∃c,cl.lookup y.1=some c)/\(∀x c,acc.lookup x=some c->∃c',cl.lookup x=some c')
 |[],acc,_=>⟨acc,rfl,λ_ _ h=>.inl h,(λ_ h=>nomatch h),λx c h=>⟨c,h⟩⟩
 | (n,k)::r,acc,h=>by
  by_cases hk:k=.free
  .subst hk;obtain⟨c,hc⟩:=h (n,.free) Ax rfl;obtain⟨cl,e,h1,h2,h3⟩:=zdd r ((n,c)::acc) λy hy=>h y (Aq _ hy)
   refine⟨cl,?_,λx c' hx=>?_,λy hy hf=>?_,λx c' hx=>?_⟩
   .rw[List.forIn_cons];have e1:cellOf env n=pure c:=by unfold cellOf;rw[hc]
    simp only[beq_self_eq_true,if_true,e1,pure_bind];exact e
   .rcases h1 x c' hx with q |⟨q,m⟩
    .by_cases hn:x=n
     .subst hn;rw[Bp,beq_self_eq_true]at q
      cases q
      exact .inr ⟨hc,Ax⟩
     .have hb:(x == n)=false:=by simpa using hn
      rw[Bp,hb]at q;exact .inl q
    .exact .inr ⟨q,Aq _ m⟩
   .rcases AG.mp hy with z |z
    .subst z;exact h3 n c (by rw[Bp,beq_self_eq_true])
    .exact h2 y z hf
   .by_cases hn:x=n
    .subst hn;exact h3 x c (by rw[Bp,beq_self_eq_true])
    .have hb:(x == n)=false:=by simpa using hn
     exact h3 x c' (by rw[Bp,hb];exact hx)
  .obtain⟨cl,e,h1,h2,h3⟩:=zdd r acc λy hy=>h y (Aq _ hy)
   refine⟨cl,?_,λx c' hx=>?_,λy hy hf=>?_,h3⟩
   .rw[List.forIn_cons];have hb:(k == Bs)=false:=by simpa using hk
    simp only[hb,AZ,if_false,pure_bind];exact e
   .rcases h1 x c' hx with q |⟨q,m⟩
    .exact .inl q
    .exact .inr ⟨q,Aq _ m⟩
   .rcases AG.mp hy with z |z
    .subst z;exact absurd hf hk
    .exact h2 y z hf
structure Clo (env:Env) (sc:Scope) (cl:List (Str×Addr)):Prop where
 run:closureFor sc env=pure cl
 old:∀x c,cl.lookup x=some c->env.cells.lookup x=some c/\(x,Bs)∈sc.names
 has:∀y∈sc.names,y.2=.free->∃c,cl.lookup y.1=some c
theorem zfh{X:Cx}{osc:Scope}{N:List Str}{sc:Scope}{N':List Str}{sel:List (Option Nat)}(ok:X.Ok)(B:BlkOk osc N sc N' sel)(ho:X.env.scope=osc):∃cl,Clo X.env sc cl:=by
 have hc:∀y∈sc.names,y.2=.free->∃c,X.env.cells.lookup y.1=some c:=λy hy hf=>ok.has y.1 (by
  show X.env.scope.names.lookup y.1=_∨X.env.scope.names.lookup y.1=_;rw[ho];exact B.free y hy hf)
 obtain⟨cl,e,h1,h2,_⟩:=zdd (env:=X.env) sc.names [] hc;refine⟨cl,?_,λx c h=>?_,h2⟩
 .unfold closureFor;have e':=e;show (do let r <- forIn sc.names [] _;pure r)=_;simp only[bind_pure];exact e'
 .rcases h1 x c h with q |q
  .cases q
  .exact q
theorem zb4{env:Env} : ∀{names:List (Str × NameKind)}{x:Str}{k:NameKind}, (names.map λ(n, k) => if (k == Bs && env.scope.kind == .function && env.kindOf n == some .cell) then (n, Dm) else (n, k)).lookup x=some k ->
  ∃k',(x,k')∈names/\(k=k'∨(k=.cell/\k'=.free))
 |[],x,k,h=>nomatch h
 | (n,j)::r,x,k,h=>by
  have ih:=@zb4 env r x k;have h:List.lookup x ((if (j == Bs && env.scope.kind == .function && env.kindOf n == some .cell)=true then (n,Dm) else (n,j))::_)=some k:=h
  by_cases hx:x=n
  .subst hx
   by_cases hc:(j == Bs && env.scope.kind == .function && env.kindOf x == some .cell)=true
   .rw[if_pos hc,Bp,beq_self_eq_true]at h
    cases h
    refine⟨j,Ax,.inr ⟨rfl,?_⟩⟩;simp only[Bd,beq_iff_eq]at hc;exact hc.1.1
   .rw[if_neg hc,Bp,beq_self_eq_true]at h
    cases h
    exact⟨j,Ax,.inl rfl⟩
  .have hb:(x == n)=false:=by simpa using hx
   have h':List.lookup x (r.map λ(n,k)=>if (k == Bs && env.scope.kind == .function && env.kindOf n == some .cell) then (n,Dm) else (n,k))=some k:=by
    by_cases hc:(j == Bs && env.scope.kind == .function && env.kindOf n == some .cell)=true
    .rw[if_pos hc,Bp,hb]at h;exact h
    .rw[if_neg hc,Bp,hb]at h;exact h
   obtain⟨k',m,e⟩:=ih h';exact⟨k',Aq _ m,e⟩
theorem zbV{env:Env} : ∀{names:List (Str × NameKind)}{x:Str}, names.lookup x=some .free ->
  (names.map λ(n,k)=>if (k == Bs && env.scope.kind == .function && env.kindOf n == some .cell) then (n,Dm) else (n,k)).lookup x=some .cell ∨
  (names.map λ(n,k)=>if (k == Bs && env.scope.kind == .function && env.kindOf n == some .cell) then (n,Dm) else (n,k)).lookup x=some .free
 |[],x,h=>nomatch h
 | (n,j)::r,x,h=>by
  have ih:=@zbV env r x;rw[Bp]at h;show List.lookup x ((if (j == Bs && env.scope.kind == .function && env.kindOf n == some .cell)=true then (n,Dm) else (n,j))::_)=_∨List.lookup x ((if (j == Bs && env.scope.kind == .function && env.kindOf n == some .cell)=true then (n,Dm) else (n,j))::_)=_
  cases hx:x == n with
  |true =>
   rw[hx]at h
   cases h
   by_cases hc:(Bs == Bs && env.scope.kind == .function && env.kindOf n == some .cell)=true
   .rw[if_pos hc,Bp,hx];exact .inl rfl
   .rw[if_neg hc,Bp,hx];exact .inr rfl
  |false =>
   rw[hx]at h
   by_cases hc:(j == Bs && env.scope.kind == .function && env.kindOf n == some .cell)=true
   .rw[if_pos hc,Bp,hx];exact ih h
   .rw[if_neg hc,Bp,hx];exact ih h
section
variable {X:Cx}{osc:Scope}{N:List Str}{sc:Scope}{N':List Str}{sel:List (Option Nat)}{cl:List (Str×Addr)}{pins:List (Addr×Obj)}{σ:St}{H:Hp}{s:Ac}{fp:List Addr}
theorem zmA{h':Heap}{ob:Obj}{tk:Nat}(B:BlkOk osc N sc N' sel)(ho:X.env.scope=osc)(hN:X.N=N)(Cl:Clo X.env sc cl)(I:Inv X pins σ H s)
    (f:∀b∈fp,FpOk X pins H b) (fo:∀b∈fp,∃o,s.heap.get? b=some o) (hns:h'.Ns s.heap.objs.size (λ_=>none)) (hsb:Cn s.heap.objs.size (s.heap.push ob) h') :
    Inv (blk X sc cl s.heap.objs.size N' s H fp) [] (selSt sel σ) H { s with heap:=h',toks:=tk }:=by
  have old:∀b o,s.heap.get? b=some o->h'.get? b=some o:=λb o e=>(hsb.2 b (A8 (Ay e))).trans (Af _ e)
  have bel:∀b∈fp,b<s.heap.objs.size:=λb hb=>by obtain⟨o,e⟩:=fo b hb;exact Ay e
  have kk:∀x,(CV sc cl s.heap.objs.size X.env).kindOf x=some .cell∨(CV sc cl s.heap.objs.size X.env).kindOf x=some .free->(x,Bs)∈sc.names:=λx hx=>by
    rcases hx with hx |hx
    . obtain⟨k',m,e⟩:=zb4 hx;rcases e with e |⟨_,e⟩
      . subst e;exact absurd rfl (B.nocell _ m)
      . subst e;exact m
    . obtain⟨k',m,e⟩:=zb4 hx;rcases e with e |⟨e,_⟩
      . subst e;exact m
      . cases e
  refine⟨⟨I.mod, B.kind, I.ok.glob, I.ok.blt, Ak _, λx y c e1 e2 => I.ok.inj x y c (Cl.old x c e1).1 (Cl.old y c e2).1, λx hx => Cl.has _ (kk x hx) rfl, λx c z => absurd z (by intro q; cases q), I.ok.hd, I.ok.frames, .inl rfl,
      λb hb=>⟨A8 (bel b hb),λx c e=>(f b hb).2.2.2.2.1 x c (Cl.old x c e).1⟩,I.bs,A3 I.ok.bsz I.sz,λb o e hb=>?_,λb hb hs=>?_,I.stack,I.stkFree⟩,
    rfl,I.bare,Un.kept old,⟨_,hns,λj x v e1 e2 e3=>?_⟩,λx c e=>?_,I.hok.fresh (Ak _),λx c e=>I.freeC x c (Cl.old x c e).1,λp hp=>absurd (show p∈([]:List (Addr×Obj)) from hp) (by simp),I.hok.kept old,?_⟩
  . rcases (f b hb).2.2.2.1 with z |z
    . exact I.ok.noex b o e z
    . exact absurd (A7 (Ay e) (A3 I.ok.bsz z)) (Cm _)
  . obtain⟨_,f1,f2,_⟩:=f b hb;rcases AG.mp (I.stkSub b hs) with z |z
    . exact f1 z
    . exact f2 z
  . have e2':((sel[j]?).map λo => o.bind λi => (σ[i]?).join)=some (some v) := by have:=e2;unfold selSt at this;rw[AF]at this;exact this
    cases hj:sel[j]? with
    |none=>rw[hj]at e2';cases e2'
    |some o =>
      rw[hj]at e2'
      cases o with
      |none=>cases e2'
      |some i =>
        have e4:(σ[i]?).join=some v:=AT e2'
        have e5:σ[i]?=some (some v):=by
          cases q:σ[i]? with
          |none=>rw[q]at e4;cases e4
          |some z=>rw[q]at e4;exact congrArg some e4
        have hz:(some i,x)∈sel.zip N':=by
          refine Ai (i:=j) ?_
          rw[List.getElem?_zip_eq_some];exact⟨hj,e1⟩
        obtain⟨g1,g2⟩:=B.sel _ hz i rfl;obtain⟨m,hn,hl⟩:=I.loc;have m2:(x,Bs)∈sc.names:=CA g2
        have k2:X.env.kindOf x=some .cell∨X.env.kindOf x=some .free:=by show X.env.scope.names.lookup x=_∨X.env.scope.names.lookup x=_;rw[ho];exact B.free _ m2 rfl
        have v2:Vis X.env.scope x:=by
          rcases k2 with z |z
          . exact .inr (.inl z)
          . exact .inr (.inr z)
        obtain⟨u,r,l⟩:=hl i x v (by rw[hN];exact g1) e5 v2;refine⟨u,r,?_⟩;rcases l with⟨l,_⟩ |⟨_,c,e6,hc⟩
        . rcases k2 with z |z <;> (rw[l]at z;cases z)
        . obtain⟨c',hc'⟩:=Cl.has _ m2 rfl;have e7:=(Cl.old x c' hc').1;rw[e6]at e7
          cases e7
          exact .inr ⟨zbV g2,c,hc',hc.keeps old⟩
  . obtain⟨v,hc⟩:=I.cell x c (Cl.old x c e).1;exact⟨v,hc.keeps old⟩
  . show (selSt sel σ).length=N'.length;unfold selSt;rw[Ap,B.len]
theorem zmM{C:Addr}{H':Hp}{σ':St}{s':Ac}(I:Inv X pins σ H s)(f:∀b∈fp,FpOk X pins H b)(I':Inv (blk X sc cl C N' s H fp) [] σ' H' s'):Inv X pins σ H' s' :=
 I.call' (ch:=fp) I'.os I'.base I'.hok I'.bare λb hb=>by obtain⟨_,f1,_,f3,f4,f5⟩:=f b hb;exact⟨f3,f1,f4,f5⟩
end
section
variable {X:Cx}
noncomputable def zb7(p:Addr)(te:TE):TS:=λD σ H=>te σ H λv H1=>∃xs,H1 p=some (.lst xs)/\xs.length<sizeLine/\D.nx σ (upd H1 p (.lst (xs++[v])))
theorem zjM {p:Addr}{elt:Expr}{te:TE}(he:PE X elt te):PB X (do let _ <- call (.builtin "list.append") [.ref p,<- eval elt X.env]) (zb7 p te):=by intro pins s σ H D I h;refine Ab (thn (he pins s σ H _ I h) λv s1 ⟨x,H1,I1,r1,xs,e1,hl,q⟩=>?_);refine Ab (thn (zbb pins s1 σ H1 (.ref p) [x] (.ref p) [v] (λz H2=>D.nx σ H2) I1 rfl (.cons r1 .nil) ⟨p,xs,x,rfl,rfl,e1,hl,q⟩) λu s2 ⟨z,H2,I2,_,q2⟩=>?_);exact Ae ⟨σ,H2,I2,q2⟩
noncomputable def ze2(p:Addr)(tk tv:TE):TS:=λD σ H=>tk σ H λy H1=>tv σ H1 λv H2=>∃H3,DPut H2 p y v H3/\D.nx σ H3
theorem d_set{pins:List (Addr × Obj)}{σ : St}{H H':Hp}{s:Ac}{a:Addr}{y v:V}{u r:Value}{A:AM}{E:Value -> Ac -> Prop}{Q:Unit -> Ac -> Prop}(hu:A.units + 1 < cLine)(I:Inv X pins σ H s)(g:DPut H a y v H')(ry:RelV y u)(rv:RelV v r)(h:∀s', Inv X pins σ H' s' -> Q () s') :
  Ao (Au X.prog X.w) A (dictSet a u r) Q E s:=by
 rcases g with⟨kvs,k,e,ey,l,eH⟩ |⟨kvs,k,b,e,ey,eb,l,eH⟩
 .subst ey eH;obtain⟨z,hd,vs,rel,dd⟩:=dk_of I.hok e;have hz:vs.length<=sizeLine:=by rw[<- rel.length];exact z
  have hl:(putK kvs k v).length<=sizeLine:=by have:=zaP kvs k v;lia
  refine wpAny_dictSet_pairs (hsz:=hz) (kV_is ry) dd λh' dd' hs=>h _ ?_
  have he:∃q,h'.get? a=some q:=let ⟨q,_,_,hq,_⟩:=dd';⟨q,hq⟩
  exact zdc I (by rw[e];exact Ci) hs he (zko hl hd (rel.put k rv) dd')
 .subst ey eH
  cases (show u=An b from ry)
  obtain⟨z,hd,xs,rel,dd⟩:=dt_of I.hok e;have hz:xs.length<=sizeLine:=by rw[<- C0 rel];exact z
  have hl:(putK kvs k v).length<=sizeLine:=by have:=zaP kvs k v;lia
  have hr:(DH (zaE X.prog X.w)).room A:=by show A.units<cLine;lia
  refine wpAny_dictSet_heap (hsz:=hz) hr (zdM I.hok eb) dd λh' dd' hs=>h _ ?_
  obtain⟨q,es,ep,hq,h2,h3,h4,_,h5⟩:=dd';refine zdc I (by rw[e];exact Ci) hs ⟨q,hq⟩ ⟨hl,hd,_,(rel.put k eb rv).keeps λc ys ec=>?_,q,es,ep,hq,h2,h3,h4,h5⟩;rw[zai (ne_of ec e (λz=>nomatch z))];exact ec
theorem zmi{p:Addr}{kx vx:Expr}{tk tv:TE}(hu:X.A.units + 1 < cLine)(hk:PE X kx tk)(hv:PE X vx tv) :
    PB X (do
        let kv <- eval kx X.env
        let vv <- DI [kv] (eval vx X.env)
        match An p with
        |.ref d=>do
          standAt { kx.pos with endLine:=vx.pos.endLine,endCol:=vx.pos.endCol }
          DI [kv,vv] (dictSet d kv vv)
        |_=>unsupported "internal:dictcomp") (ze2 p tk tv):=by
  intro pins s σ H D I h;refine Ab (thn (hk pins s σ H _ I h) λkv s1 ⟨y,H1,I1,r1,q1⟩=>?_);refine Ab (Bg (thn (hv pins s1 σ H1 _ I1 q1) λvv s2 ⟨v,H2,I2,r2,H3,g,q⟩=>?_));refine Ab (CH (Bg (d_set hu I2 g r1 r2 λs3 I3=>⟨σ,H3,I3,q⟩)))
end
section
variable {X:Cx}{osc:Scope}{N:List Str}{sc:Scope}{N':List Str}{sel:List (Option Nat)}{pos:Pos}{elt kx vx tg iter:Expr}{ifs:List Expr}{wi:TI}{g:TG}{tt:TT}{te tk tv:TE}
noncomputable def InBlk(X:Cx)(sc:Scope)(N':List Str)(P:Cx->Prop):Prop:=∀cl C s0 H0 ex,P (blk X sc cl C N' s0 H0 ex)
theorem zcd{e:Expr}{inner:Env -> Addr -> Sem Unit}{tb:Addr -> TS}{use:Option (Value -> Sem Unit)}{pins:List (Addr × Obj)}{s:Ac}{σ : St}{H:Hp}{J:It}{it:Addr}{fp:List Addr}{tn:Nat -> Heap -> Prop}{o0:HO}{ob:Obj}
    {D:Addr->Ends} {Q:Value->Ac->Prop}
    (B:BlkOk osc N sc N' sel) (ho:X.env.scope=osc) (hN:X.N=N) (hc:X.calm=true)
    (hstart:∀(acc:Value) (env:Env) (R:Result->Ac->Prop) (s:Ac),Co (Au X.prog X.w) X.A (.compLoop e 0 (.ref it) acc env) R s->Ao (Au X.prog X.w) X.A (pyIter (.ref it)) (λit' s'=>Co (Au X.prog X.w) X.A (.compLoop e 0 it' acc env) R s') (notedBy (Au X.prog X.w) X.A env λx s'=>R (.error x) s') s->Co (Au X.prog X.w) X.A (.compStart e 0 (.ref it) acc env) R s)
    (hloop:∀cl C s0 H0 ex p pins s σ H Dn R,Inv (blk X sc cl C N' s0 H0 ex) pins σ H s->tn 0 s.heap->(∀b∈fp,FpOk (blk X sc cl C N' s0 H0 ex) pins H b)->zb6 J g (tIfs tt (tb p)) Dn σ H ->
      (∀fl s',(∃ σ' H',Inv (blk X sc cl C N' s0 H0 ex) pins σ' H' s'/\(∀b∈fp,H' b=none)/\Dn.nx σ' H')->R (.ok fl) s')->Co (Au X.prog X.w) X.A (.compLoop e 0 (.ref it) (.ref p) (CV sc cl C X.env)) R s)
    (I:Inv X pins σ H s) (T:Turn X.prog X.w X.K tg J fp it tn) (st:tn 0 s.heap) (f:∀b∈fp,FpOk X pins H b)
    (hnew:ObjOk X.prog X.w (upd H s.heap.objs.size o0) (s.heap.push ob) s.heap.objs.size o0) (hfree:ob.isFreed=false)
    (h:zb6 J g (tIfs tt (tb s.heap.objs.size)) (D s.heap.objs.size) (selSt sel σ) (upd H s.heap.objs.size o0))
    (hend:∀C H' s',Inv X pins σ H' s'->FpOk X pins H' C->(∃m,s'.heap.Ns C m)->(∃ σ',(D s.heap.objs.size).nx σ' H')->compPost (Au X.prog X.w) X.A X.xe use Q (.ref s.heap.objs.size) C (.ok .next) s') (tk:Nat)
    (cl:List (Str×Addr)) (Cl:Clo X.env sc cl) (E:Value->Ac->Prop) :
    Ao (Au X.prog X.w) X.A (newFunctionEnv sc X.env.globals cl [] X.env.qual none .none (some X.env)) (λcenv s₄ =>
        Co (Au X.prog X.w) X.A (.compStart e 0 (.ref it) (.ref s.heap.objs.size) { cenv with scope:=relabel sc X.env }) (compPost (Au X.prog X.w) X.A X.xe use Q (.ref s.heap.objs.size) cenv.locals) s₄) E { s with heap:=s.heap.push ob,toks:=tk }:=by
  have grow:∀b o,s.heap.get? b=some o->(s.heap.push ob).get? b=some o:=λ_ _ q=>Af _ q
  have I1:Inv X pins σ (upd H s.heap.objs.size o0) { s with heap:=s.heap.push ob,toks:=tk }:=I.laid grow (Ak _) hnew;have bel:∀b∈fp,∃o,s.heap.get? b=some o:=λb hb=>let ⟨o,e,_⟩:=T.obj _ _ st b hb;⟨o,e⟩
  have f1:∀b∈fp,FpOk X pins (upd H s.heap.objs.size o0) b:=λb hb=>by obtain⟨o,e⟩:=bel b hb;refine⟨?_,(f b hb).2⟩;rw[zai (A8 (Ay e))];exact (f b hb).1
  refine wpAny_newFunctionEnv (s:={ s with heap:=s.heap.push ob,toks:=tk }) B.nocell (by intro x hx;cases hx) (λh1 hns hsb=>?_) B.kind;have I2:=zmA (tk:=tk) B ho hN Cl I1 f1 (λb hb=>let ⟨o,e⟩:=bel b hb;⟨o,grow b o e⟩) hns hsb;have old:∀b o,s.heap.get? b=some o->h1.get? b=some o:=λb o e=>(hsb.2 b (A8 (Ay (grow b o e)))).trans (Af _ (grow b o e))
  have st1:tn 0 h1:=T.keep _ _ _ st λb _ o e=>old b o e
  have f2:∀b∈fp,FpOk (blk X sc cl (s.heap.push ob).objs.size N' { s with heap:=s.heap.push ob,toks:=tk } (upd H s.heap.objs.size o0) fp) [] (upd H s.heap.objs.size o0) b:=λb hb=>by
    obtain⟨g0,g1,g2,g3,g4,g5⟩:=f1 b hb;obtain⟨o,e⟩:=bel b hb;refine⟨g0,A8 (Ay (grow b o e)),λz=>?_,.inl hb,λx c e=>g4 x c (Cl.old x c e).1,λp hp=>absurd (show p∈([]:List (Addr×Obj)) from hp) (by simp)⟩;rcases AG.mp (I1.stkSub b z) with q |q
    . exact g1 q
    . exact g2 q
  have loop:=hloop cl _ _ _ _ s.heap.objs.size [] _ _ _ (D s.heap.objs.size) (compPost (Au X.prog X.w) X.A X.xe use Q (.ref s.heap.objs.size) (s.heap.push ob).objs.size) I2 st1 f2 h λfl s' ⟨σ',H',I',fr',q'⟩=>by
    have I3:=zmM I1 f1 I';have hC:FpOk X pins H' (s.heap.push ob).objs.size:=I1.fpOk (Ak _) I'.free;obtain⟨m,hn,_⟩:=I'.loc;have:=hend _ H' s' I3 hC ⟨m,hn⟩ ⟨σ',q'⟩
    cases use <;> exact this
  exact hstart _ _ _ _ loop (T.self _ 0 _ _ _ st1 loop)
end
section
variable {X:Cx}{osc:Scope}{N:List Str}{sc:Scope}{N':List Str}{sel:List (Option Nat)}{pos:Pos}{elt kx vx tg iter:Expr}{ifs:List Expr}{wi:TI}{g:TG}{tt:TT}{te tk tv:TE}
theorem zff{it:Addr}{fp:List Addr}{tn:Nat -> Heap -> Prop}{J:It}(T:Turn X.prog X.w X.K tg J fp it tn)(hc:X.calm=true)(hg:InBlk X sc N' λY => PG Y tg g)(ht:InBlk X sc N' λY => PTs Y ifs tt)(he:InBlk X sc N' λY => PE Y elt te) :
  ∀cl C s0 H0 ex p pins s σ H Dn R,Inv (blk X sc cl C N' s0 H0 ex) pins σ H s->tn 0 s.heap->(∀b∈fp,FpOk (blk X sc cl C N' s0 H0 ex) pins H b)->zb6 J g (tIfs tt (zb7 p te)) Dn σ H ->
   (∀fl s',(∃ σ' H',Inv (blk X sc cl C N' s0 H0 ex) pins σ' H' s'/\(∀b∈fp,H' b=none)/\Dn.nx σ' H')->R (.ok fl) s')->Co (Au X.prog X.w) X.A (.compLoop (.ListComp elt [⟨tg,iter,ifs,0⟩] sc pos) 0 (.ref it) (.ref p) (CV sc cl C X.env)) R s :=
 λcl C s0 H0 ex p pins s σ H Dn R I st f W hR =>
  zdr (X:=blk X sc cl C N' s0 H0 ex) (p:=iter.pos) (inner:=do let _ <- call (.builtin "list.append") [.ref p,<- eval elt (CV sc cl C X.env)]) rfl rfl rfl (λB {α t Q E s} h w=>by subst h;exact w) hc rfl (hg _ _ _ _ _) (ht _ _ _ _ _) (zjM (he _ _ _ _ _)) I T st f W hR
noncomputable def zhT(wi:TI)(sel:List (Option Nat))(g:TG)(tt:TT)(te:TE):TE:=λσ H Q=>wi σ H λJ H1=>∀p,H1 p=none ->
 zb6 J g (tIfs tt (zb7 p te)) { nx:=λ_ H'=>Q (.ref p) H',rt:=λ_ _=>False } (selSt sel σ) (upd H1 p (.lst []))
theorem Inv.let_go{pins:List (Addr×Obj)}{σ:St}{H:Hp}{s:Ac}{C:Addr}{h':Heap}(I:Inv X pins σ H s)(f:FpOk X pins H C)(hs:Cn C s.heap h'):Inv X pins σ H { s with heap:=h' }:=by obtain⟨f0,f1,_,f3,f4,f5⟩:=f;exact I.turned (t':=s.toks) (λb o hb e=>(hs.2 b hb).trans e) f0 f1 f3 f4 f5
theorem zfQ {P:AD}{w:A5}{H:Hp}{h:Heap}:ObjOk P w (upd H h.objs.size (.lst [])) (h.push { cls:=.type "list",dict:=none,data:=.seq ([]:List Value).toArray }) h.objs.size (.lst []) :=
 ⟨Ba _,[],_,.nil,AI _ rfl⟩
theorem zaW(B:BlkOk osc N sc N' sel)(hi:PI X tg iter wi)(hg:InBlk X sc N' λY => PG Y tg g)(ht:InBlk X sc N' λY => PTs Y ifs tt)(he:InBlk X sc N' λY => PE Y elt te)
  (ho:X.env.scope=osc:=by rfl) (hN:X.N=N:=by rfl) (hc:X.calm=true:=by rfl) (hs:∀x,Bi iter X.env x=pure x:=by intro _;rfl) :
  PE X (.ListComp elt [⟨tg,iter,ifs,0⟩] sc pos) (zhT wi sel g tt te):=by
 intro pins s σ H Q I h;obtain⟨cl,Cl⟩:=zfh I.ok B ho;rw[eval_ListComp];refine BZ (use:=none) rfl hs Cl.run B.kind B.names (thn (hi pins s σ H _ I h) λv s1 h1=>thn h1 λitv s2 h2=>?_);obtain⟨it,fp,tn,J,H2,e,I2,T,st2,f2,h2⟩:=h2;subst e
 refine Bc (zcd (e:=.ListComp elt [⟨tg,iter,ifs,0⟩] sc pos) (inner:=λ_ _=>pure ()) (D:=λp=>{ nx:=λ_ H'=>Q (.ref p) H',rt:=λ_ _=>False }) (tb:=λp=>zb7 p te) (use:=none) B ho hN hc (λacc env R s a b=>De a b)
  (zff (iter:=iter) (pos:=pos) T hc hg ht he) I2 T st2 f2 zfQ rfl (h2 _ (I2.hok.fresh (Ak _))) (λC H' s' I3 fC hn hq=>?_) s2.toks cl Cl X.xe)
 obtain⟨m,hn⟩:=hn;obtain⟨_,hq⟩:=hq;exact⟨m,hn,λh' hs'=>⟨.ref s2.heap.objs.size,H',I3.let_go fC hs',rfl,hq⟩⟩
noncomputable def zlI(wi:TI)(sel:List (Option Nat))(g:TG)(tt:TT)(te:TE)(i:Nat):TS:=λD σ H=>wi σ H λJ H1=>∀p,H1 p=none ->
 zb6 J g (tIfs tt (zb7 p te)) { nx:=λ_ H'=>D.nx (σ.set i (some (.ref p))) H',rt:=λ_ _=>False } (selSt sel σ) (upd H1 p (.lst []))
theorem zfA{i:Nat}{x:Str}{px spos:Pos}(B:BlkOk osc N sc N' sel)(hnd:X.N.Nodup)(hi':X.N[i]? = some x)(hx:Loc X.env.scope x)(hi:PI X tg iter wi)(hg:InBlk X sc N' λY => PG Y tg g)(ht:InBlk X sc N' λY => PTs Y ifs tt)(he:InBlk X sc N' λY => PE Y elt te)
  (hsw:swapsWith (.ListComp elt [⟨tg,iter,ifs,0⟩] sc pos) (some (.Name x px)) spos.line X.env=pure true:=by rfl)
  (ho:X.env.scope=osc:=by rfl) (hN:X.N=N:=by rfl) (hc:X.calm=true:=by rfl) (hs:∀x,Bi iter X.env x=pure x:=by intro _;rfl)
  (hf:X.fn x=true∨X.env.scope.names.lookup x=some .local:=by first |exact .inl rfl |exact .inr rfl |assumption) :
  PS X (.Assign [.Name x px] (.ListComp elt [⟨tg,iter,ifs,0⟩] sc pos) spos) (zlI wi sel g tt te i):=by
 intro pins s σ H D I h;obtain⟨cl,Cl⟩:=zfh I.ok B ho;rw[exec_Assign_Name_used _ _ _ _ hsw];refine Ab (CH (Ab ?_));show Ao _ X.A (do let _ <- comprehension (.ListComp elt [⟨tg,iter,ifs,0⟩] sc pos) sc X.env _ (newList []) false (eval iter X.env) (some (Dx (.Name x px) X.env))) _ _ s;refine Ab (thn (BZ (use:=some (Dx (.Name x px) X.env)) (Q:=λ_ s'=>SP X pins D .next s') rfl hs Cl.run B.kind B.names (thn (hi pins s σ H _ I h) λv s1 h1=>thn h1 λitv s2 h2=>?_)) λ_ s' hq=>Ae (Ae hq));obtain⟨it,fp,tn,J,H2,e,I2,T,st2,f2,h2⟩:=h2;subst e
 refine Bc (zcd (e:=.ListComp elt [⟨tg,iter,ifs,0⟩] sc pos) (inner:=λ_ _=>pure ()) (D:=λp=>{ nx:=λ_ H'=>D.nx (σ.set i (some (.ref p))) H',rt:=λ_ _=>False }) (tb:=λp=>zb7 p te) (use:=some (Dx (.Name x px) X.env)) B ho hN hc (λacc env R s a b=>De a b)
  (zff (iter:=iter) (pos:=pos) T hc hg ht he) I2 T st2 f2 zfQ rfl (h2 _ (I2.hok.fresh (Ak _))) (λC H' s' I3 fC hn hq=>?_) s2.toks cl Cl X.xe)
 obtain⟨m,hn⟩:=hn;obtain⟨_,hq⟩:=hq;show Ao _ X.A (Dx (.Name x px) X.env (.ref s2.heap.objs.size)) _ _ _;refine wpAny_assign_Name (zdg I3 hnd hi' hx (v:=.ref s2.heap.objs.size) rfl (λs4 I4 hch=>?_) hf);obtain⟨a,sb,ha⟩:=hch
 have nC:C≠a:=by
  rcases ha with z |z
  .rw[z];exact fC.2.1
  .exact λq=>fC.2.2.2.2.1 x a z q.symm
 refine⟨m,hn.sameBut sb nC,λh' hs'=>⟨_,H',I4.let_go fC hs',hq⟩⟩
theorem zfg{it:Addr}{fp:List Addr}{tn:Nat -> Heap -> Prop}{J:It}(hu:X.A.units + 1 < cLine)(T:Turn X.prog X.w X.K tg J fp it tn)(hc:X.calm=true)(hg:InBlk X sc N' λY => PG Y tg g)(ht:InBlk X sc N' λY => PTs Y ifs tt)(hk:InBlk X sc N' λY => PE Y kx tk)(hv:InBlk X sc N' λY => PE Y vx tv) :
  ∀cl C s0 H0 ex p pins s σ H Dn R,Inv (blk X sc cl C N' s0 H0 ex) pins σ H s->tn 0 s.heap->(∀b∈fp,FpOk (blk X sc cl C N' s0 H0 ex) pins H b)->zb6 J g (tIfs tt (ze2 p tk tv)) Dn σ H ->
   (∀fl s',(∃ σ' H',Inv (blk X sc cl C N' s0 H0 ex) pins σ' H' s'/\(∀b∈fp,H' b=none)/\Dn.nx σ' H')->R (.ok fl) s')->Co (Au X.prog X.w) X.A (.compLoop (.DictComp kx vx [⟨tg,iter,ifs,0⟩] sc pos) 0 (.ref it) (.ref p) (CV sc cl C X.env)) R s :=
 λcl C s0 H0 ex p pins s σ H Dn R I st f W hR =>
  zdr (X:=blk X sc cl C N' s0 H0 ex) (p:=iter.pos) rfl rfl rfl (λB {α t Q E s} h w=>by subst h;exact w) hc rfl (hg _ _ _ _ _) (ht _ _ _ _ _) (zmi (X:=blk X sc cl C N' s0 H0 ex) hu (hk _ _ _ _ _) (hv _ _ _ _ _)) I T st f W hR
noncomputable def zm1(wi:TI)(sel:List (Option Nat))(g:TG)(tt:TT)(tk tv:TE):TE:=λσ H Q=>wi σ H λJ H1=>∀p,H1 p=none ->
 zb6 J g (tIfs tt (ze2 p tk tv)) { nx:=λ_ H'=>Q (.ref p) H',rt:=λ_ _=>False } (selSt sel σ) (upd H1 p (.dT []))
theorem zk2(hu:X.A.units + 1 < cLine)(B:BlkOk osc N sc N' sel)(hi:PI X tg iter wi)(hg:InBlk X sc N' λY => PG Y tg g)(ht:InBlk X sc N' λY => PTs Y ifs tt)(hk:InBlk X sc N' λY => PE Y kx tk)(hv:InBlk X sc N' λY => PE Y vx tv)
  (ho:X.env.scope=osc:=by rfl) (hN:X.N=N:=by rfl) (hc:X.calm=true:=by rfl) (hs:∀x,Bi iter X.env x=pure x:=by intro _;rfl) :
  PE X (.DictComp kx vx [⟨tg,iter,ifs,0⟩] sc pos) (zm1 wi sel g tt tk tv):=by
 intro pins s σ H Q I h;obtain⟨cl,Cl⟩:=zfh I.ok B ho;show Ao _ X.A (comprehension (.DictComp kx vx [⟨tg,iter,ifs,0⟩] sc pos) sc X.env _ newDict false (eval iter X.env)) _ _ s;refine BZ (use:=none) rfl hs Cl.run B.kind B.names (thn (hi pins s σ H _ I h) λv s1 h1=>thn h1 λitv s2 h2=>?_);obtain⟨it,fp,tn,J,H2,e,I2,T,st2,f2,h2⟩:=h2;subst e
 refine Bc (zcd (e:=.DictComp kx vx [⟨tg,iter,ifs,0⟩] sc pos) (inner:=λ_ _=>pure ()) (D:=λp=>{ nx:=λ_ H'=>Q (.ref p) H',rt:=λ_ _=>False }) (tb:=λp=>ze2 p tk tv) (use:=none) B ho hN hc (λacc env R s a b=>codeAny_compStart_dict a b)
  (zfg (iter:=iter) (pos:=pos) hu T hc hg ht hk hv) I2 T st2 f2 (zf1 s2.heap I2.big) rfl (h2 _ (I2.hok.fresh (Ak _))) (λC H' s' I3 fC hn hq=>?_) s2.toks cl Cl X.xe)
 obtain⟨m,hn⟩:=hn;obtain⟨_,hq⟩:=hq;exact⟨m,hn,λh' hs'=>⟨.ref s2.heap.objs.size,H',I3.let_go fC hs',rfl,hq⟩⟩
end
mutual
inductive RD (K:W.Frag) (H:Hp):V->PyData->Prop where
 |non:RD K H .non .none
 |bl (b:Bool):RD K H (.bl b) (.bool b)
 |int (i:Int):RD K H (.int i) (.int i)
 |str (x:Str):RD K H (.str x) (.str x)
 |lst {a:Addr} {xs:List V} {ds:List PyData}:SqL K H a xs->RDs K H xs ds->RD K H (.ref a) (.list ds)
 |tup {a:Addr} {xs:List V} {ds:List PyData}:SqT K H a xs->RDs K H xs ds->RD K H (.ref a) (.tuple ds)
inductive RDs (K:W.Frag) (H:Hp):List V->List PyData->Prop where
 |nil:RDs K H [] []
 |cons {x:V} {xs:List V} {d:PyData} {ds:List PyData}:RD K H x d->RDs K H xs ds->RDs K H (x::xs) (d::ds)
end
section
variable {X:Cx}{pins:List (Addr×Obj)}{σ:St}{H:Hp}{s:Ac}
mutual
theorem Inv.reads(I:Inv X pins σ H s):∀{v:V}{d:PyData}{u:Value},RD X.K H v d->RelV v u->∃as,Reads s.heap u d as
 |_,_,_,.non,r=>by cases (show _=BE from r);exact⟨_,.none⟩
 |_,_,_,.bl b,r=>by cases (show _=Value.bool b from r);exact⟨_,.bool b⟩
 |_,_,_,.int i,r=>by obtain⟨t,rfl⟩:=r;exact⟨_,.int i t⟩
 |_,_,_,.str x,r=>by obtain⟨t,rfl⟩:=r;exact⟨_,.str x t⟩
 |_,_,_,.lst (a:=a) hq hs,r=>by
  cases (show _=An a from r)
  obtain⟨its,rv,p,hz⟩:=I.list hq;obtain⟨as,ra⟩:=I.readsAll hs rv;obtain⟨o,ho,hc,n,hd⟩:=p.isList;exact⟨_,.list ho hc hd (by simpa using ra)⟩
 |_,_,_,.tup (a:=a) hq hs,r=>by
  cases (show _=An a from r)
  obtain⟨its,rv,p,hz⟩:=I.tuple hq;obtain⟨as,ra⟩:=I.readsAll hs rv;obtain⟨o,ho,hc,n,hd⟩:=p;exact⟨_,.tuple ho hc hd (by simpa using ra)⟩
theorem Inv.readsAll(I:Inv X pins σ H s):∀{vs:List V}{ds:List PyData}{us:List Value},RDs X.K H vs ds->Vals vs us->∃as,ReadsAll s.heap us ds as
 |_,_,_,.nil,r=>by cases r;exact⟨_,.nil⟩
 |_,_,_,.cons h t,.cons r rr=>by
  obtain⟨as,h1⟩:=I.reads h r;obtain⟨bs,h2⟩:=I.readsAll t rr;exact⟨_,.cons h1 h2⟩
end
end
theorem RDs.ints{K:W.Frag}{H:Hp}:∀(ns:List Int),RDs K H (ns.map V.int) (ns.map DC)
 |[]=>.nil
 |n::r=>.cons (.int n) (RDs.ints r)
mutual
theorem RD.mono{K:W.Frag}{H H':Hp}(hl:∀a xs,SqL K H a xs->SqL K H' a xs)(ht:∀a xs,SqT K H a xs->SqT K H' a xs):∀{v:V}{d:PyData},RD K H v d->RD K H' v d
 |_,_,.non=>.non
 |_,_,.bl b=>.bl b
 |_,_,.int i=>.int i
 |_,_,.str x=>.str x
 |_,_,.lst h t=>.lst (hl _ _ h) (RDs.mono hl ht t)
 |_,_,.tup h t=>.tup (ht _ _ h) (RDs.mono hl ht t)
theorem RDs.mono{K:W.Frag}{H H':Hp}(hl:∀a xs,SqL K H a xs->SqL K H' a xs)(ht:∀a xs,SqT K H a xs->SqT K H' a xs):∀{v:List V}{d:List PyData},RDs K H v d->RDs K H' v d
 |_,_,.nil=>.nil
 |_,_,.cons h t=>.cons (RD.mono hl ht h) (RDs.mono hl ht t)
end
noncomputable def rEqD(K:W.Frag):R2:=λx y H Q=>∃d e,RD K H x d/\RD K H y e/\Bb d=true/\Bb e=true/\Q (.bl (Bq d e)) H
noncomputable def rNeD(K:W.Frag):R2:=λx y H Q=>∃d e,RD K H x d/\RD K H y e/\Bb d=true/\Bb e=true/\Q (.bl (!PyData.eqv d e)) H
section
variable {X:Cx}
theorem zjS(hu:X.A.units+64<cLine):OpR X (Bw .Eq) (rEqD X.K):=by intro pins s σ H x y v u Q I rx ry h;obtain⟨d,e,hd,he,sd,se,q⟩:=h;obtain⟨as,ra⟩:=I.reads hd rx;obtain⟨bs,rb⟩:=I.reads he ry;exact SeqAt.compareEq_shaped ra rb sd se hu ⟨.bl _,H,I,rfl,q⟩
theorem ze9(hu:X.A.units+64<cLine):OpR X (Bw .NotEq) (rNeD X.K):=by intro pins s σ H x y v u Q I rx ry h;obtain⟨d,e,hd,he,sd,se,q⟩:=h;obtain⟨as,ra⟩:=I.reads hd rx;obtain⟨bs,rb⟩:=I.reads he ry;exact SeqAt.compareNe_shaped ra rb sd se hu ⟨.bl _,H,I,rfl,q⟩
noncomputable def rInD(K:W.Frag):R2:=λx y H Q=>∃p xs d ds,y=.ref p/\SqL K H p xs/\RD K H x d/\RDs K H xs ds/\Bb d=true/\(∀e∈ds,Bb e=true)/\Q (.bl (ds.any λe=>Bq e d)) H
theorem zcI{ds:List PyData}(h:∀e∈ds,Bb e=true):BY ds=true:=by
 induction ds with
 |nil=>rfl
 |cons d r ih=>rw[BY,Dg (h d Ax),ih λe he=>h e (Aq _ he)];rfl
theorem zjQ(hu:X.A.units+65<cLine):OpR X (Bw .In) (rInD X.K):=by intro pins s σ H x y v u Q I rx ry h;obtain⟨p,xs,d,ds,rfl,hq,hd,hds,sd,sds,q⟩:=h;obtain⟨as,ra⟩:=I.reads hd rx;obtain⟨bs,rb⟩:=I.reads (.lst hq hds) ry;exact SeqAt.in_list_reads rb ra (zcI sds) (Dg sd) (Ds sd hu) ⟨.bl _,H,I,rfl,q⟩
theorem zex:∀ns ms:List Int,DQ (ns.map DC) (ms.map DC)=decide (ns=ms)
 |[],[]=>rfl
 |[],_::_=>rfl
 |_::_,[]=>rfl
 |n::r,m::t=>by
  show (n == m && DQ (r.map DC) (t.map DC))=_;rw[zex r t]
  by_cases e:n=m
  .subst e;by_cases e2:r=t <;> simp[e2]
  .simp[e]
theorem zcq:∀ns:List Int,Cd (ns.map DC)=0
 |[]=>rfl
 |n::r=>by show max 0 (Cd (r.map DC))=0;rw[zcq r];rfl
theorem zc2:∀ns:List Int,BY (ns.map DC)=true
 |[]=>rfl
 |n::r=>by show (true && BY (r.map DC))=true;rw[zc2 r];rfl
noncomputable def tI(ns:List Int):PyData:=.tuple (ns.map .int)
theorem zc1(ns ms:List Int):Bq (tI ns) (tI ms)=decide (ns=ms):=zex ns ms
theorem zaL(ns:List Int):Bb (tI ns)=true:=by unfold Bb tI;rw[CL,zc2,B8,zcq];rfl
end
section
variable {prog:AD}{w:A5}{A:AM}{E:Value->Ac->Prop}{s:Ac}
end
section
variable {X:Cx}{pos:Pos}
noncomputable def CDivB(i j:Int):Prop:=0<j/\j.natAbs.log2<9000
theorem zif:OpR X (Dy .FloorDiv) (rI CDivB λi j=>.int (i / j)):=opI λi j _ _ _ _ _ hc q=>by have e:i.fdiv j=i / j:=Int.fdiv_eq_ediv_of_nonneg i (Int.le_of_lt hc.1);rw[<- e]at q;exact floordiv_int (by have:=hc.1;lia) q (.inl (PyProof.noPylong_of_log2 hc.2))
theorem zeC (hh:X.calm=true):CallR X (.builtin "all") (λxs H Q=>∃(p:Addr) (bs:List Bool),xs=[.ref p]/\SqL X.K H p (bs.map V.bl)/\Q (.bl (bs.all id)) H):=by
 intro pins s σ H xs us Q I r h;obtain⟨p,bs,rfl,hq,q⟩:=h;obtain⟨u,rfl,ru⟩:=vals1 r
 cases (show u=An p from ru)
 obtain⟨its,rv,pl,hz⟩:=I.list hq;have hlp:p<s.heap.objs.size:=by obtain⟨o,ho,_⟩:=pl.isList;exact Ay ho
 have hlen:its.length=bs.length:=by have:=rv.length;simpa using this.symm
 refine call_all_walk (wpAny_pyIter_list pl.isList ?_);refine⟨_,_,_,_,_,_,λi=>bs.getD i true,rfl,Walks.list (A:=X.A.in1) (I.ok.hd hh) s.heap.objs.size p (A8 hlp) its.toArray,⟨⟨_,AI _ rfl,rfl,rfl⟩,pl.isList.push _⟩,?_,λh' tk hk=>?_⟩
 .intro i v s1 Q1 E1 hv hQ;have hv':its[i]?=some v:=by simpa using hv
  have hi:i<its.length:=(Ad.mp hv').1;obtain⟨w',hw,rw'⟩:=rv.get (i:=i) (x:=V.bl (bs[i]'(by lia))) (by simp[Aa,show i<bs.length by lia]);rw[hv']at hw
  cases hw
  cases (show v=Value.bool _ from rw')
  refine BX ?_
  have e:bs.getD i true=bs[i]'(by lia):=by simp[BK,show i<bs.length by lia]
  rw[<- e];exact hQ
 .have I1:Inv X pins σ H { s with heap:=h',toks:=tk }:=I.kept λb o e=>hk b o (by simp;exact A8 (Ay e)) (Af _ e)
  refine⟨.bl _,H,I1,rfl,?_⟩
  have e:(BS its.toArray.size).all (λi=>bs.getD i true)=bs.all id:=by
   rw[show its.toArray.size=bs.length by simpa using hlen];rw[Cu];simp only[List.all_eq_true,List.mem_range,id];constructor
   .intro h b hb;obtain⟨i,hi,e⟩:=AE hb;have:=h i hi;simpa[BK,hi,e]using this
   .intro h i hi;have:=h bs[i] (Bx hi);simpa[BK,hi]using this
  rw[e];exact q
end
section
variable {X:Cx}
theorem zds:CallR X (.builtin "isinstance") (λxs H Q=>∃x T t b,xs=[x,.ty T]/\TyOf X.K H x t/\Cz X.K t (.type T)=some b/\Q (.bl b) H):=by
 intro pins s σ H xs us Q I r h;obtain⟨x,T,t,b,rfl,ty,e,q⟩:=h;obtain⟨u,w',rfl,ru,rw'⟩:=vals2 r
 cases (show w'=C9 T from rw')
 exact zke I ru ty e λtk=>⟨.bl b,H,I.tok tk,rfl,q⟩
theorem zgU (K:W.Frag):Cz K (.type "int") (.type "bool")=some false:=by rfl
theorem zdn(K:W.Frag)(T:String):Cz K (.type T) (.type T)=some true:=by unfold Cz;rw[if_pos (by simp)]
end
end L2
namespace HT
open PySem PyProof.Rows
noncomputable def lexLe:List Int->List Int->Bool
 |[],[]=>true
 |[],_::_=>true
 |_::_,[]=>false
 |x::xs,y::ys=>if x=y then lexLe xs ys else decide (x<=y)
theorem zfc(x y:Int)(xs ys:List Int):lexLe (x::xs) (y::ys)=if x=y then lexLe xs ys else decide (x<=y):=rfl
theorem zfS:lexLe [] []=true:=rfl
theorem zeS(y:Int)(ys:List Int):lexLe [] (y::ys)=true:=rfl
theorem zeT(x:Int)(xs:List Int):lexLe (x::xs) []=false:=rfl
theorem zkR(A:AM)(s:Ac)(a:Int)(t:Tok)(c:Int)(u:Tok)(prog:AD)(w:A5)(E:Value -> Ac -> Prop)(Q:Value -> Ac -> Prop)(h:Q (.bool (decide (a <= c))) s) :
  Ao (Au prog w) A (richCompare .LtE (.int a t) (.int c u)) Q E s :=
 (PyProof.Rows.le_int h:Ao (Au prog w) A (Bw .LtE (.int a t) (.int c u)) Q E s)
section
open PySem.SeqAt
open PySem.AutoSeq1 (wpAny_loadPart')
open PySem.MeetsSeq PySem.MeetsSeq2 PySem.MeetsSeq3
theorem zfm(l b:Addr)(items items2:Array Value)(n n2:Nat)(dd dd2:Option Addr)(sl sl2:Array (Option Value))(ns ms:List Int)(hi:CC items.toList ns)(hj:CC items2.toList ms) :
  Meets (Builtin.«tuple.__le__» ⟨[.ref l,.ref b],[]⟩)
   (λ_ R s=>s.heap.get? l=some { cls:=.type "tuple",dict:=dd,data:=.seq items n,slots:=sl }/\s.heap.get? b=some { cls:=.type "tuple",dict:=dd2,data:=.seq items2 n2,slots:=sl2 } /\
    R (.ok (.ret (.bool (lexLe ns ms)))) s) :=
 .of_wp λprog w A R s h=>by
  obtain⟨hp,g,d,tk,os⟩:=s;obtain⟨hl,hb,h⟩:=h;have f2:=AutoSeq1.sub_tuple_tuple;have z1:items.size=ns.length:=by rw[<- hi.length];simp
  have z2:items2.size=ms.length:=by rw[<- hj.length];simp
  wp_walk using Cv hl,Cv hb,wpAny_forIn_list _ (λrest b s'=>b.1=none/\s'=⟨hp,g,d,tk,os⟩/\∃(vs ws:List Value) (ns' ms':List Int),rest=vs.zip ws /\
   CC vs ns'/\CC ws ms'/\ns'.length+items2.size=ms'.length+items.size/\R (.ok (.ret (.bool (lexLe ns' ms')))) ⟨hp,g,d,tk,os⟩) _
  case turn =>
   rintro⟨y,x⟩ rest b s' ⟨hb',rfl,vs,ws,ns',ms',hz,hvi,hwi,hlen,hR⟩
   cases hvi with
   |nil=>rw[List.zip_nil_left]at hz;cases hz
   |cons a t hvi' =>
    cases hwi with
    |nil=>rw[List.zip_nil_right]at hz;cases hz
    |cons c u hwi' =>
     rw[D0]at hz;injection hz with hyx hrest;injection hyx with hy hx;subst hy hx;rw[zfc]at hR;simp only[A4]at hlen;obtain⟨e,he,hiff⟩:=zix A.in1 ⟨hp,g,d,tk,os⟩ a t c u;refine Ab (he prog w _ _ ?_)
     cases e with
     |true =>
      rw[if_pos (hiff.mp rfl)]at hR
      wp_walk
      exact⟨rfl,rfl,_,_,_,_,hrest,hvi',hwi',by lia,hR⟩
     |false =>
      rw[if_neg (λq=>absurd (hiff.mpr q) AC)]at hR;have hri:=zkR A.in1 ⟨hp,g,d,tk,os⟩ a t c u prog w
      wp_walk using hri
      exact⟨_,rfl,by simpa using hR⟩
  case fin =>
   rintro⟨b1,b2⟩ s' ⟨hb',rfl,vs,ws,ns',ms',hz,hvi,hwi,hlen,hR⟩;simp only at hb';subst hb'
   have hv:lexLe ns' ms'=decide (items.size<=items2.size):=by
    cases hvi with
    |nil =>
     cases hwi with
     |nil =>
      simp only[Cc]at hlen;rw[zfS];exact (decide_eq_true (by lia)).symm
     |cons c u hw =>
      simp only[Cc,A4]at hlen;rw[zeS];exact (decide_eq_true (by lia)).symm
    |cons a t hv =>
     cases hwi with
     |nil =>
      simp only[Cc,A4]at hlen;rw[zeT];exact (decide_eq_false (by lia)).symm
     |cons c u hw =>
      rw[D0]at hz
      cases hz
   rw[hv]at hR
   wp_walk
   exact⟨_,rfl,by simpa[Builtin.Tuple.tupleCompareSizes]using hR⟩
  case h =>
   exact⟨rfl,rfl,items.toList,items2.toList,ns,ms,rfl,hi,hj,by lia,h⟩
end
section
variable {prog:AD}{w:A5}{A:AM}{E:Value->Ac->Prop}{s:Ac}
theorem le_tupInts{l b:Addr}{items items2:Array Value}{ns ms:List Int}{Q:Value -> Ac -> Prop}(hl:IsTup s.heap l items)(hb:IsTup s.heap b items2)(hi:CC items.toList ns)(hj:CC items2.toList ms)
  (hu:A.units<cLine) (h:Q (.bool (lexLe ns ms)) s):Ao (Au prog w) A (Bw .LtE (.ref l) (.ref b)) Q E s:=by
 obtain⟨⟨cls,dd,data,sl⟩,ho,hc,n,hd⟩:=id hl;obtain⟨⟨cls2,dd2,data2,sl2⟩,ho2,hc2,n2,hd2⟩:=id hb;simp only at hc hd hc2 hd2;subst hc hd hc2 hd2
 exact richCompare_meets_room (op:=.LtE) ⟨_,ho,rfl⟩ ⟨_,ho2,rfl⟩ PySem.F.slot_tuple_le PySem.F.entry_tuple_le (PySem.F.args_tuple_le_2 _ _) (zfm l b items items2 n n2 dd dd2 sl sl2 ns ms hi hj)
  ⟨ho,ho2,show Value.bool (lexLe ns ms)≠Value.notImplemented/\Q (.bool (lexLe ns ms)) s from ⟨(λx=>nomatch x),h⟩⟩ hu
end
end HT
namespace L2
open PySem PySem.Spec PyProof.Rows
section
variable {X:Cx}
noncomputable def rLeT(K:W.Frag):R2:=λx y H Q=>∃a b ns ms,x=.ref a/\y=.ref b/\SqT K H a (ns.map V.int)/\SqT K H b (ms.map V.int)/\Q (.bl (HT.lexLe ns ms)) H
theorem zng(hu:X.A.units<cLine):OpR X (Bw .LtE) (rLeT X.K):=by
 intro pins s σ H x y v u Q I rx ry h;obtain⟨a,b,ns,ms,rfl,rfl,ha,hb,q⟩:=h
 cases rx
 cases ry
 obtain⟨its,r1,p1,_⟩:=I.tuple ha;obtain⟨its2,r2,p2,_⟩:=I.tuple hb;have i1:CC its.toArray.toList ns:=zcV r1;have i2:CC its2.toArray.toList ms:=zcV r2;exact HT.le_tupInts p1 p2 i1 i2 hu ⟨.bl (HT.lexLe ns ms),H,I,rfl,q⟩
end
section
variable {X:Cx}
noncomputable def zma(K:W.Frag):V->List V->Hp->VK->Prop:=λx vs H Q=>∃p xs y d ds j e,x=.ref p/\vs=[y]/\SqL K H p xs/\RD K H y d/\RDs K H xs ds/\Bb d=true/\(∀e∈ds,Bb e=true) /\
 ds[j]?=some e/\Bq e d=true/\(∀m e',m<j->ds[m]?=some e'->Bq e' d=false)/\Q (.int (j:Nat)) H
theorem zj0 (hu:X.A.units+65<cLine):MtR X "list.index" (zma X.K):=by
 intro pins s σ H x vs v us Q I rx rv h;obtain⟨p,xs,y,d,ds,j,e,rfl,rfl,hq,hd,hds,sd,sds,hj,he,hno,q⟩:=h
 cases rx
 obtain⟨u,rfl,ru⟩:=rv.one;obtain⟨its,r,pl,hz⟩:=I.list hq;obtain⟨as,ra⟩:=I.reads hd ru;obtain⟨bs,rb⟩:=I.readsAll hds r;have hlay:=zcI sds;have hmap:=SeqAt.readsAll_map ds _ _ hlay rb;have hlen:its.length=ds.length:=by rw[<- hmap,Ap]
 have hj':j<ds.length:=(Ad.mp hj).1
 have rd:∀m (hm:m<its.length),ds[m]?=some (SeqAt.readOf s.heap its[m]):=λm hm=>by rw[<- hmap,AF,Aa hm];rfl
 obtain⟨⟨cls,dd,data,sl⟩,ho,hc,n,hdat⟩:=pl.isList;simp only at hc hdat
 subst hc hdat
 have hsz:xs.length<=sizeLine:=hz;have hl2:its.length=xs.length:=r.length.symm
 refine call_meets PySem.F.slot_list_index ⟨_,ho,rfl⟩ PySem.F.entry_list_index (PySem.F.args_list_index_2 _ _)
  (SeqAt.list_indexAt p its.toArray n dd sl u (λz=>Bq (SeqAt.readOf s.heap z) d) j (by simpa[hlen]using hj') (by have:=sizeLine_eq;lia) ?_ ?_)
  ⟨ho,SeqAt.items_eqAt (vs:=its.toArray) rb ra hlay (Dg sd) (Ds sd hu),?_⟩
 .have:=rd j (by lia);rw[hj]at this;have e1:=AT this;show Bq (SeqAt.readOf s.heap its[j]) d=true;rw[<- e1];exact he
 .intro m hm hlt;have hm':m<its.length:=by simpa using hm
  exact hno m _ hlt (rd m hm')
 .exact⟨.int (j:Nat),H,I.tok _,⟨_,rfl⟩,q⟩
end
section
variable {X:Cx}{k:Nat}{f:Addr}{fd:Bz}{ps:List Str}{sp:Sp}{pins:List (Addr×Obj)}{σ:St}
theorem zjB{H:Hp}{s:Ac}{Q:VK}{us:List Value}{vs:List V}{E:Value -> Ac -> Prop}(F:FnOk X.prog X.w X.K X.mg X.base CX0 k f fd ps sp)(hr:Room (k + 1) X.A)(hb:Binds X.K fd ps [])
  (I:Inv X pins σ H s) (r:Vals vs us) (h:sp vs H Q E0):Ao (Au X.prog X.w) X.A.in1 (call (.ref f) us) (EP X pins σ Q) E s:=by
 have hl:(us++[]).length=ps.length:=by rw[Bf,<- r.length];exact F.len _ _ _ _ h
 have hb':=hb s us I.kIn hl;rw[Bf]at hb';refine wpAny_call (codeAny_mono (F.run X.A.in1 X.stack s H ⟨us,[]⟩ us vs Q E0 hr.in1 I.env0.in1 hb' r h) λr s' hq=>?_)
 cases r with
 |error e=>exact Bu hq
 |ok fl =>
  cases fl with
  |ret u=>exact I.after hq
  |next=>exact Bu hq
  |brk=>exact Bu hq
  |cont=>exact Bu hq
theorem Inv.moved{H:Hp}{s:Ac}{b:Addr}{h':Heap}{t':Nat}(I:Inv X pins σ H s)(fb:FpOk X pins H b)(hk:∀c o,c ∉ [b]->s.heap.get? c=some o->h'.get? c=some o):Inv X pins σ H { s with heap:=h',toks:=t' } :=
 I.turned (λc o hc e=>hk c o (λz=>hc (Aj.mp z)) e) fb.1 fb.2.1 fb.2.2.2.1 fb.2.2.2.2.1 fb.2.2.2.2.2
theorem FpOk.again{H H':Hp}{b:Addr}(fb:FpOk X pins H b)(hn:H' b=none):FpOk X pins H' b:=⟨hn,fb.2⟩
structure MK (X:Cx) (pins:List (Addr×Obj)) (σ:St) (H:Hp) (s:Ac) (it st l:Addr) (j:Nat) (vb kb:Value):Prop where
 inv:Inv X pins σ H s
 fi:FpOk X pins H it
 fs:FpOk X pins H st
 ne:st≠it
 iter:s.heap.IsListIter it l j
 hold:∃c,s.heap.get? st=some (BM "list" #[vb,kb] c)
noncomputable def Least(κ:Nat->List Int)(n i:Nat):Prop:=∀j,j<n->HT.lexLt (κ j) (κ i)=false/\(j<i->HT.lexLt (κ i) (κ j)=true)
end
end L2
namespace HT
theorem lexLt_irrefl:∀a:List Int,lexLt a a=false
 |[]=>rfl
 |x::r=>by rw[lexLt_cons,if_pos rfl];exact lexLt_irrefl r
theorem lexLt_trans:∀{a b c:List Int},lexLt a b=true->lexLt b c=true->lexLt a c=true
 |[],[],_,h,_=>by cases h
 |[],_::_,[],_,h=>by cases h
 |[],_::_,_::_,_,_=>rfl
 |_::_,[],_,h,_=>by cases h
 |_::_,_::_,[],_,h=>by cases h
 |x::a,y::b,z::c,h,g=>by
  rw[lexLt_cons]at h g ⊢
  by_cases e1:x=y
  .subst e1;rw[if_pos rfl]at h
   by_cases e2:x=z
   .subst e2;rw[if_pos rfl]at g ⊢;exact lexLt_trans h g
   .rw[if_neg e2]at g ⊢;exact g
  .rw[if_neg e1]at h;have h':x<y:=by simpa using h
   by_cases e2:y=z
   .subst e2;rw[if_neg e1];exact h
   .rw[if_neg e2]at g;have g':y<z:=by simpa using g
    rw[if_neg (by lia)];exact decide_eq_true (by lia)
theorem lexLt_total:∀{a b:List Int},lexLt a b=false->lexLt b a=false->a=b
 |[],[],_,_=>rfl
 |[],_::_,h,_=>by cases h
 |_::_,[],_,h=>by cases h
 |x::a,y::b,h,g=>by
  rw[lexLt_cons]at h g
  by_cases e:x=y
  .subst e;rw[if_pos rfl]at h g;rw[lexLt_total h g]
  .rw[if_neg e]at h;rw[if_neg (BG e)]at g;have h':¬ x<y:=by simpa using h
   have g':¬ y<x:=by simpa using g
   lia
theorem lexLe_eq:∀a b:List Int,lexLe a b=!lexLt b a
 |[],[]=>rfl
 |[],_::_=>rfl
 |_::_,[]=>rfl
 |x::a,y::b=>by
  rw[zfc,lexLt_cons]
  by_cases e:x=y
  .subst e;rw[if_pos rfl,if_pos rfl];exact lexLe_eq a b
  .rw[if_neg e,if_neg (BG e)]
   by_cases g:x<=y
   .rw[decide_eq_true g,decide_eq_false (by lia)];rfl
   .rw[decide_eq_false g,decide_eq_true (by lia)];rfl
theorem lexLt_of_not_lt_lt{a b c:List Int}(h:lexLt b a=false)(g:lexLt b c=true):lexLt a c=true:=by
 cases e:lexLt a b with
 |true=>exact lexLt_trans e g
 |false=>rw[lexLt_total e h];exact g
theorem lexLt_asym{a b:List Int}(h:lexLt a b=true):lexLt b a=false:=by
 cases e:lexLt b a with
 |false=>rfl
 |true=>have:=lexLt_trans h e;rw[lexLt_irrefl]at this;cases this
end HT
namespace L2
open PySem PySem.Spec PyProof.Rows
section
variable {X:Cx}{k:Nat}{f:Addr}{fd:Bz}{ps:List Str}{sp:Sp}{pins:List (Addr×Obj)}{σ:St}{H0:Hp}{Q:VK}{l it st:Addr}{xs:List V}{κ:Nat->List Int}
noncomputable def MKR(X:Cx)(pins:List (Addr×Obj))(σ:St)(Q:VK):Result->Ac->Prop:=λr s'=>match r with
 |.ok (.ret v)=>EP X pins σ Q v s'
 |.ok _=>False
 |.error e=>X.xe e s'
theorem zcU {xs:Array Value}{c:Nat}:∀v,(BM "list" xs c).data≠.cell v:=λv h=>by cases h
theorem zep{h:Heap}{it l:Addr}{j:Nat}(hi:h.IsListIter it l j):∃o,h.get? it=some o/\∀v,o.data≠.cell v:=by obtain⟨o,ho,_,hd⟩:=hi;exact⟨o,ho,λv z=>by rw[hd]at z;cases z⟩
theorem zkO{H:Hp}{s:Ac}{Q1:VK}{u:Value}{x:V}{E:Value -> Ac -> Prop}{j:Nat}{vb kb:Value}(F:FnOk X.prog X.w X.K X.mg X.base CX0 k f fd ps sp)(hr:Room (k + 1) X.A)(hb:Binds X.K fd ps [])
    (M:MK X pins σ H s it st l j vb kb) (r:RelV x u) (h:sp [x] H Q1 E0):Ao (Au X.prog X.w) X.A.in1 (call (.ref f) [u]) (λv s'=>∃y H',RelV y v/\Q1 y H'/\MK X pins σ H' s' it st l j vb kb) E s:=by
  obtain⟨c,hc⟩:=M.hold;obtain⟨oi,hoi,ci,di⟩:=id M.iter
  have I1:Inv X (pins ++ zdK [it, st] s.heap) σ H s := M.inv.pinned (λb hb => by
      rcases AG.mp hb with rfl |hb
      . exact M.fi
      . rw[Aj.mp hb];exact M.fs) (λb hb=>by
      rcases AG.mp hb with rfl |hb
      . exact zep M.iter
      . rw[Aj.mp hb];exact⟨_,hc,zcU⟩)
  refine BF (zjB F hr hb I1 (.cons r .nil) h) (λv s' hv=>?_) λ_ _ e=>e
  obtain⟨y,H',I2,ry,q⟩:=hv;have p1:=I2.pin (it,oi) (Av _ (Av _ (za1 (by simp) hoi)));have p2:=I2.pin (st,BM "list" #[vb,kb] c) (Av _ (Av _ (za1 (by simp) hc)));exact⟨y,H',ry,q,I2.unpinned,M.fi.again p1.2.1,M.fs.again p2.2.1,M.ne,⟨oi,p1.1,ci,di⟩,c,p2.1⟩
theorem zmu{H:Hp}{s:Ac}{a b:Addr}{ns ms:List Int}{E:Value -> Ac -> Prop}{Q1:Value -> Ac -> Prop}(hu:X.A.units + 1 < cLine)(I:Inv X pins σ H s)(ha:SqT X.K H a (ns.map V.int))(hb:SqT X.K H b (ms.map V.int))(q:Q1 (.bool (HT.lexLt ns ms)) s) :
  Ao (Au X.prog X.w) X.A.in1 (richCompare .Lt (.ref a) (.ref b)) Q1 E s:=by
 obtain⟨its,r1,p1,_⟩:=I.tuple ha;obtain⟨its2,r2,p2,_⟩:=I.tuple hb;exact (HT.lt_tupInts p1 p2 (zcV r1) (zcV r2) hu q:Ao (Au X.prog X.w) X.A.in1 (Bw .Lt (.ref a) (.ref b)) Q1 E s)
theorem MK.set{H:Hp}{s:Ac}{j:Nat}{vb kb v kv:Value}(M:MK X pins σ H s it st l j vb kb):MK X pins σ H { s with heap:=s.heap.update st (AU λ_=>#[v,kv]) } it st l j v kv:=by obtain⟨c,hc⟩:=M.hold;have sb:=Bt s.heap st (AU λ_=>#[v,kv]);obtain⟨oi,hoi,ci,di⟩:=id M.iter;exact⟨M.inv.moved (t':=s.toks) M.fs (λb o hb e=>(sb.2 b λz=>hb (by simp[z])).trans e),M.fi,M.fs,M.ne,⟨oi,(sb.2 it M.ne.symm).trans hoi,ci,di⟩,_,DX hc λ_=>#[v,kv]⟩
theorem Least.next{n i:Nat}(h:Least κ n i)(e:HT.lexLt (κ n) (κ i)=false)(hi:i<n):Least κ (n+1) i:=λj hj=>by
 by_cases z:j=n
 .subst z;exact⟨e,λq=>absurd q (by lia)⟩
 .exact h j (by lia)
theorem Least.take{n i:Nat}(h:Least κ n i)(e:HT.lexLt (κ n) (κ i)=true)(hi:i<n):Least κ (n+1) n:=λj hj=>by
 by_cases z:j=n
 .subst z;exact⟨HT.lexLt_irrefl _,λq=>absurd q (by lia)⟩
 .have g:=(h j (by lia)).1
  have t:HT.lexLt (κ n) (κ j)=true:=by
   cases q:HT.lexLt (κ i) (κ j) with
   |true=>exact HT.lexLt_trans e q
   |false=>rw[<- HT.lexLt_total q g];exact e
  exact⟨HT.lexLt_asym t,λ_=>t⟩
theorem Room.un1{n:Nat}{A:AM}(r:Room n A):A.units+1<cLine:=by have:=r.units;lia
theorem Same.seqT{K:W.Frag}{H H':Hp}{a:Addr}{xs:List V}(e:Same H H')(h:SqT K H a xs):SqT K H' a xs:=by
 rcases h with (h |⟨o,h⟩) |h
 .exact .inl (.inl (e _ _ h))
 .exact .inl (.inr ⟨o,e _ _ h⟩)
 .exact .inr h
theorem zj2(hh:X.A.handled=none)(F:FnOk X.prog X.w X.K X.mg X.base CX0 k f fd ps sp)(hr:Room (k + 1) X.A)(hb:Binds X.K fd ps [])
  (turn:∀i x H,xs[i]?=some x->Same H0 H->sp [x] H (λv H'=>Same H H'/\∃a,v=.ref a/\SqT X.K H' a ((κ i).map V.int)) E0)
  (hl:SqL X.K H0 l xs) (hli:l≠it) (hQ:∀i x H',xs[i]?=some x->Least κ xs.length i->Same H0 H'->Q x H') :
  ∀(r j i:Nat) (H:Hp) (s:Ac) (vb:Value) (xb:V) (b:Addr),xs.length-(j+1)=r->j+1<=xs.length->Same H0 H->MK X pins σ H s it st l (j+1) vb (.ref b)->xs[i]?=some xb->RelV xb vb->SqT X.K H b ((κ i).map V.int)->i<=j->Least κ (j+1) i ->
   Co (Au X.prog X.w) X.A (.builtin "min.loop" ⟨[.ref it,.ref f,.ref st],[]⟩) (MKR X pins σ Q) s:=by
 have nm:(toString "min" ++ toString ".loop" : String) = "min.loop":=by decide
 intro r
 induction r with
 |zero =>
  intro j i H s vb xb b hr0 hj hS M hxb rb kb' hij best;have hend:j+1=xs.length:=by lia
  obtain⟨its,rv,pl,hz⟩:=M.inv.list (hS.seq hl);have hlen:its.length=xs.length:=rv.length.symm;have W:=Walks.list (prog:=X.prog) (w:=X.w) (A:=X.A.in1) hh it l hli its.toArray;obtain⟨c,hc⟩:=M.hold;refine codeAny_builtin PySem.F.entry_min_loop ?_
  rw[Around.under_plainId BV _];show Ao _ X.A.in1 (seqItems? (.ref st) >>= _) _ _ _;refine Ab (wpAny_seqItems hc rfl ?_);show Ao _ X.A.in1 (tryCatch (pyNext (.ref it)) _ >>= _) _ _ _;refine Ab (DD (W.done _ _ _ ⟨by rw[Ar,hlen,<- hend];exact M.iter,pl.isList⟩ λh1 tk1 hk1=>?_));have I1:=M.inv.moved (t':=tk1) M.fi hk1;have hc1:=hk1 st _ (by simpa using M.ne) hc;have sb:=Bt h1 st (AU λ_=>(#[]:Array Value));show Ao _ X.A.in1 (updateSeq st (λ_=>#[]) >>= _) _ _ _;refine Ab ?_
  refine Dl hc1 rfl (Ab (D7 (Ae ?_)));have I2:Inv X pins σ H { s with heap:=h1.update st (AU λ_=>(#[]:Array Value)),toks:=tk1 }:=I1.moved (s:={ s with heap:=h1,toks:=tk1 }) (t':=tk1) M.fs (λb o hb e=>(sb.2 b λz=>hb (by simp[z])).trans e);exact⟨xb,H,I2,rb,hQ i xb H hxb (by rw[<- hend];exact best) hS⟩
 |succ r ih =>
  intro j i H s vb xb b hr0 hj hS M hxb rb kb' hij best;have hlt:j+1<xs.length:=by lia
  obtain⟨its,rv,pl,hz⟩:=M.inv.list (hS.seq hl);have hlen:its.length=xs.length:=rv.length.symm;have W:=Walks.list (prog:=X.prog) (w:=X.w) (A:=X.A.in1) hh it l hli its.toArray;obtain⟨c,hc⟩:=M.hold;refine codeAny_builtin PySem.F.entry_min_loop ?_
  rw[Around.under_plainId BV _];show Ao _ X.A.in1 (seqItems? (.ref st) >>= _) _ _ _;refine Ab (wpAny_seqItems hc rfl ?_);show Ao _ X.A.in1 (tryCatch (pyNext (.ref it)) _ >>= _) _ _ _;refine Ab (DD (W.item (j+1) _ _ _ (by rw[Ar,hlen];exact hlt) ⟨M.iter,pl.isList⟩ λv h1 tk1 hP hst1 hk1=>?_));have hv:its[j+1]?=some v:=by simpa using hP
  obtain⟨x,hx⟩:∃x,xs[j+1]?=some x:=⟨_,Aa hlt⟩;obtain⟨v',hv',rx⟩:=rv.get hx;rw[hv]at hv'
  cases hv'
  have M1:MK X pins σ H { s with heap:=h1,toks:=tk1 } it st l (j+1+1) vb (.ref b):=⟨M.inv.moved (t':=tk1) M.fi hk1,M.fi,M.fs,M.ne,hst1.1,c,hk1 st _ (by simpa using M.ne) hc⟩;show Ao _ X.A.in1 (tryCatch (DI [v] (call (.ref f) [v])) _ >>= _) _ _ _;refine Ab (DD (Bg (BF (zkO F hr hb M1 rx (turn (j+1) x H hx hS) (E:=λ_ _=>False)) (λkv s2 he=>?_) λ_ _ hF=>hF.elim)));obtain⟨y,H2,ry,⟨hS2,a2,ey,ka2⟩,M2⟩:=he;subst ey
  cases (show kv=An a2 from ry)
  have hS3:=hS.trans hS2;have kb2:SqT X.K H2 b ((κ i).map V.int):=hS2.seqT kb';show Ao _ X.A.in1 (tryCatch (DI [v,.ref a2] (richCompare .Lt (.ref a2) (.ref b) >>= _)) _ >>= _) _ _ _;refine Ab (DD (Bg (Ab (zmu hr.un1 M2.inv ka2 kb2 ?_))));refine Ab (Bg (BX ?_));refine Ab (D7 (Ae ?_));obtain⟨c2,hc2⟩:=M2.hold
  by_cases hbt:HT.lexLt (κ (j+1)) (κ i)=true
  .simp only[hbt,if_true];refine Ab ?_
   refine Dl hc2 rfl (Ab (D7 ?_));rw[nm];exact Ae ⟨DR BV _,ih (j+1) (j+1) H2 _ v _ a2 (by lia) hlt hS3 M2.set hx rx ka2 (Ak _) (best.take hbt (by lia))⟩
  .have hbf:HT.lexLt (κ (j+1)) (κ i)=false:=by simpa using hbt
   simp only[hbf,AZ,if_false];refine Ab (D7 ?_);rw[nm];exact Ae ⟨DR BV _,ih (j+1) i H2 _ vb _ b (by lia) hlt hS3 M2 hxb rb kb2 (by lia) (best.next hbf (by lia))⟩
end
section
variable {X:Cx}{k:Nat}{f:Addr}{fd:Bz}{ps:List Str}{sp:Sp}{pins:List (Addr×Obj)}{σ:St}{H0:Hp}{Q:VK}{l it st:Addr}{xs:List V}{κ:Nat->List Int}
structure MK0 (X:Cx) (pins:List (Addr×Obj)) (σ:St) (H:Hp) (s:Ac) (it st l:Addr) (j:Nat):Prop where
 inv:Inv X pins σ H s
 fi:FpOk X pins H it
 fs:FpOk X pins H st
 ne:st≠it
 iter:s.heap.IsListIter it l j
 hold:∃c,s.heap.get? st=some (BM "list" #[] c)
theorem zjC{H:Hp}{s:Ac}{Q1:VK}{u:Value}{x:V}{E:Value -> Ac -> Prop}{j:Nat}(F:FnOk X.prog X.w X.K X.mg X.base CX0 k f fd ps sp)(hr:Room (k + 1) X.A)(hb:Binds X.K fd ps [])
    (M:MK0 X pins σ H s it st l j) (r:RelV x u) (h:sp [x] H Q1 E0):Ao (Au X.prog X.w) X.A.in1 (call (.ref f) [u]) (λv s'=>∃y H',RelV y v/\Q1 y H'/\MK0 X pins σ H' s' it st l j) E s:=by
  obtain⟨c,hc⟩:=M.hold;obtain⟨oi,hoi,ci,di⟩:=id M.iter
  have I1:Inv X (pins ++ zdK [it, st] s.heap) σ H s := M.inv.pinned (λb hb => by
      rcases AG.mp hb with rfl |hb
      . exact M.fi
      . rw[Aj.mp hb];exact M.fs) (λb hb=>by
      rcases AG.mp hb with rfl |hb
      . exact zep M.iter
      . rw[Aj.mp hb];exact⟨_,hc,zcU⟩)
  refine BF (zjB F hr hb I1 (.cons r .nil) h) (λv s' hv=>?_) λ_ _ e=>e
  obtain⟨y,H',I2,ry,q⟩:=hv;have p1:=I2.pin (it,oi) (Av _ (Av _ (za1 (by simp) hoi)));have p2:=I2.pin (st,BM "list" #[] c) (Av _ (Av _ (za1 (by simp) hc)));exact⟨y,H',ry,q,I2.unpinned,M.fi.again p1.2.1,M.fs.again p2.2.1,M.ne,⟨oi,p1.1,ci,di⟩,c,p2.1⟩
theorem MK0.set{H:Hp}{s:Ac}{j:Nat}{v kv:Value}(M:MK0 X pins σ H s it st l j):MK X pins σ H { s with heap:=s.heap.update st (AU λ_=>#[v,kv]) } it st l j v kv:=by obtain⟨c,hc⟩:=M.hold;have sb:=Bt s.heap st (AU λ_=>#[v,kv]);obtain⟨oi,hoi,ci,di⟩:=id M.iter;exact⟨M.inv.moved (t':=s.toks) M.fs (λb o hb e=>(sb.2 b λz=>hb (by simp[z])).trans e),M.fi,M.fs,M.ne,⟨oi,(sb.2 it M.ne.symm).trans hoi,ci,di⟩,_,DX hc λ_=>#[v,kv]⟩
theorem zkv{s:Ac}(hh:X.A.handled=none)(F:FnOk X.prog X.w X.K X.mg X.base CX0 k f fd ps sp)(hr:Room (k + 1) X.A)(hb:Binds X.K fd ps [])
  (turn:∀i x H,xs[i]?=some x->Same H0 H->sp [x] H (λv H'=>Same H H'/\∃a,v=.ref a/\SqT X.K H' a ((κ i).map V.int)) E0)
  (hl:SqL X.K H0 l xs) (hne:0<xs.length) (hQ:∀i x H',xs[i]?=some x->Least κ xs.length i->Same H0 H'->Q x H') (I:Inv X pins σ H0 s) :
  Ao (Au X.prog X.w) X.A (call (.builtin "min") [.ref l] [(Bj "key",.ref f)]) (EP X pins σ Q) X.xe s:=by
 have nm:(toString "min" ++ toString ".loop" : String) = "min.loop":=by decide
 obtain⟨its,rv,pl,hz⟩:=I.list hl;have hlen:its.length=xs.length:=rv.length.symm;have hll:l<s.heap.objs.size:=by obtain⟨o,ho,_⟩:=pl.isList;exact Ay ho
 refine kmk_tree PySem.F.kind_min PySem.F.plain_min PySem.F.entry_min (kmk_min_key _ _) ?_
 show Ao _ X.A.in1 (CD "min" ["key","default"] 0 ⟨[],[(Bj "key",.ref f)]⟩ >>= _) _ _ s;refine Ab (wpAny_of_eq (show CD "min" ["key","default"] 0 ⟨[],[(Bj "key",.ref f)]⟩=pure [some (.ref f),none] from rfl) ?_);refine Ab (Ae ?_);refine Ab (wpAny_pyIter_list pl.isList ?_);refine Ab (wpAny_newList ?_ (Ba _));rw[nm];refine Ae ⟨DR BV _,?_⟩;have keep:∀b o,s.heap.get? b=some o->((s.heap.push { cls:=.type "list_iterator",data:=.fields #[.ref l,.int 0 0] }).push (BM "list" #[] 0)).get? b=some o:=λb o e=>Af _ (Af _ e)
 have gi:((s.heap.push { cls:=.type "list_iterator",data:=.fields #[.ref l,.int 0 0] }).push (BM "list" #[] 0)).get? s.heap.objs.size=some { cls:=.type "list_iterator",data:=.fields #[.ref l,.int 0 0] }:=Af _ (AI _ rfl);have hsS:(s.heap.push { cls:=.type "list_iterator",data:=.fields #[.ref l,.int 0 0] }).objs.size=s.heap.objs.size+1:=size_push' ..;have gs:((s.heap.push { cls:=.type "list_iterator",data:=.fields #[.ref l,.int 0 0] }).push (BM "list" #[] 0)).get? (s.heap.objs.size+1)=some (BM "list" #[] 0):=by rw[<- hsS];exact AI _ rfl
 rw[hsS];have I1:Inv X pins σ H0 { s with heap:=(s.heap.push { cls:=.type "list_iterator",data:=.fields #[.ref l,.int 0 0] }).push (BM "list" #[] 0) }:=I.kept (t':=s.toks) keep;have fi:FpOk X pins H0 s.heap.objs.size:=I.fpOk (Ak _) (I.hok.fresh (Ak _));have fs:FpOk X pins H0 (s.heap.objs.size+1):=I.fpOk (C7 _) (I.hok.fresh (C7 _));have M0:MK0 X pins σ H0 _ s.heap.objs.size (s.heap.objs.size+1) l 0:=⟨I1,fi,fs,Nat.ne_of_gt (Nat.lt_succ_self _),⟨_,gi,rfl,rfl⟩,⟨0,gs⟩⟩;have hli:l≠s.heap.objs.size:=A8 hll;have W:=Walks.list (prog:=X.prog) (w:=X.w) (A:=X.A.in1) hh s.heap.objs.size l hli its.toArray;refine codeAny_builtin PySem.F.entry_min_loop ?_
 rw[Around.under_plainId BV _];show Ao _ X.A.in1 (seqItems? (.ref _) >>= _) _ _ _;refine Ab (wpAny_seqItems gs rfl ?_);show Ao _ X.A.in1 (tryCatch (pyNext (.ref s.heap.objs.size)) _ >>= _) _ _ _;obtain⟨its2,rv2,pl2,_⟩:=I1.list hl;refine Ab (DD (W.item 0 _ _ _ (by rw[Ar,hlen];exact hne) ⟨M0.iter,pl.isList.at λo e=>keep _ _ e⟩ λv h1 tk1 hP hst1 hk1=>?_));have hv:its[0]?=some v:=by simpa using hP
 obtain⟨x,hx⟩:∃x,xs[0]?=some x:=⟨_,Aa hne⟩;obtain⟨v',hv',rx⟩:=rv.get hx;rw[hv]at hv'
 cases hv'
 have M1:MK0 X pins σ H0 { s with heap:=h1,toks:=tk1 } s.heap.objs.size (s.heap.objs.size+1) l 1:=⟨I1.moved (t':=tk1) fi hk1,fi,fs,M0.ne,hst1.1,0,hk1 _ _ (by simp) gs⟩;show Ao _ X.A.in1 (tryCatch (DI [v] (call (.ref f) [v])) _ >>= _) _ _ _;refine Ab (DD (Bg (BF (zjC F hr hb M1 rx (turn 0 x H0 hx (Same.refl _)) (E:=λ_ _=>False)) (λkv s2 he=>?_) λ_ _ hF=>hF.elim)));obtain⟨y,H2,ry,⟨hS2,a2,ey,ka2⟩,M2⟩:=he;subst ey
 cases (show kv=An a2 from ry)
 obtain⟨c2,hc2⟩:=M2.hold;show Ao _ X.A.in1 (updateSeq (s.heap.objs.size+1) (λ_=>#[v,.ref a2]) >>= _) _ _ _;refine Ab ?_
 refine Dl hc2 rfl ?_
 rw[nm];refine Ae ⟨DR BV _,?_⟩
 exact codeAny_mono (zj2 hh F hr hb turn hl hli hQ _ 0 0 H2 _ v _ a2 rfl hne hS2 M2.set hx rx ka2 (Ak _) (λj hj=>by
  have e:j=0:=by lia
  subst e;exact⟨HT.lexLt_irrefl _,λz=>absurd z (Cm _)⟩)) λr s' hr'=>hr'
end
end L2
namespace RK
open PySem PySem.W PyProof.Rows
variable {n:Nat}{ans:Nat->Nat->Bool}
noncomputable def Pm(n:Nat)(p:Array Nat):Prop:=p.Perm (List.toArray (BS n))
inductive Col:Value->Value->Int->Int->Prop where
 |int (a:Int) (t:Tok) (b:Int) (u:Tok):Col (.int a t) (.int b u) a b
 |bl (p q:Bool):Col (.bool p) (.bool q) (b2i p) (b2i q)
inductive Cols:List Value->List Value->List Int->List Int->Prop where
 |nil:Cols [] [] [] []
 |cons {u v:Value} {us vs:List Value} {a b:Int} {as bs:List Int}:Col u v a b->Cols us vs as bs->Cols (u::us) (v::vs) (a::as) (b::bs)
section
variable {prog:AD}{w:A5}{A:AM}{s:Ac}{Q:Bool->Ac->Prop}
theorem zlT{u v:Value}{a b:Int}(c:Col u v a b){E:Value->Ac->Prop}(h:Q (decide (a=b)) s):Ao (Au prog w) A (eqBool u v) Q E s:=by
 cases c with
 |int _ t _ u =>
  refine wpAny_eqBool_int ?_
  rw[show (a == b)=decide (a=b) from by rw[Bool.beq_eq_decide_eq]];exact h
 |bl p q =>
  refine SeqAt.EqAt.bool_bool p q prog w E Q ?_
  have e:(p == q)=decide (b2i p=b2i q):=by cases p <;> cases q <;> decide
  rw[e];exact h
theorem znA{u v:Value}{a b:Int}(c:Col u v a b){E:Value->Ac->Prop}(h:Q (decide (a<b)) s):Ao (Au prog w) A (oneLt' false u v) Q E s:=by
 cases c with
 |int _ t _ u=>exact kat_one _ _ (lt_int (show W.BoolBack Q (.bool (decide (a<b))) s from h))
 |bl p q=>exact kat_one _ _ (lt_bool (show W.BoolBack Q (.bool (decide (b2i p<b2i q))) s from h))
theorem zin{bb:Bool}:∀{us vs:List Value}{as bs:List Int}(i:Nat),Cols us vs as bs->Q (HT.lexLt as bs) s->KatLex prog w A bb false Q (us.zip vs) (i+1) s
 |_,_,_,_,_,.nil,h=>kat_nil h
 |_,_,_,_,i,.cons (a:=a) (b:=b) (as:=as) (bs:=bs) c r,h=>by
  rw[HT.lexLt_cons]at h;refine kat_cons (zlT c ?_)
  by_cases e:a=b
  .rw[decide_eq_true e];rw[if_pos e]at h;exact kat_yes (zin (i+1) r h)
  .rw[decide_eq_false e];rw[if_neg e]at h;refine kat_no ?_
   rw[show (bb && (i+1 == 0))=false by simp];exact znA c h
theorem kat_cols0{us vs:List Value}{as bs:List Int}{a b:Int}{t u:Tok}(r:Cols us vs as bs)(h:Q (HT.lexLt (a::as) (b::bs)) s):KatLex prog w A true false Q ((Value.int a t::us).zip (Value.int b u::vs)) 0 s:=by
 rw[HT.lexLt_cons]at h;refine kat_cons (zlT (.int a t b u) ?_)
 by_cases e:a=b
 .rw[decide_eq_true e];rw[if_pos e]at h;exact kat_yes (zin 0 r h)
 .rw[decide_eq_false e];rw[if_neg e]at h;exact kat_no (oneLt_int h)
end
end RK
namespace L2
open PySem PySem.Spec PyProof.Rows
section
variable {X:Cx}{k:Nat}{f:Addr}{fd:Bz}{ps:List Str}{sp:Sp}{pins:List (Addr×Obj)}{σ:St}{H0:Hp}{Q:VK}
theorem Inv.adopt{H:Hp}{s:Ac}{D:Addr}{o:HO}{h':Heap}{t':Nat}(I:Inv X pins σ H s)(fb:FpOk X pins H D)(hk:∀b u, b ≠ D -> s.heap.get? b=some u -> h'.get? b=some u)(heo:∃u, h'.get? D=some u)
  (new:ObjOk X.prog X.w (upd H D o) h' D o):Inv X pins σ (upd H D o) { s with heap:=h',toks:=t' }:=by
 have hn:=fb.1;have nit:∀b u,H b=some u->b≠D:=λb u e z=>by rw[z,hn]at e;cases e
 refine I.step (g':=s.gens) (d':=s.drawn) (ch:=[D]) (λb hb=>?_) (λb u _ _ hc e _=>hk b u (λz=>hc (by simp[z])) e) (λb u _ _ hc e _=>⟨u.slots,hk b u (λz=>hc (by simp[z])) e⟩)
  (λb u hc _ n=>by rw[zai (λz=>hc (by simp[z]))];exact n)
  (λb u hc e=>⟨u,hk b u (λz=>hc (by simp[z])) e⟩) (λb xs e=>by rw[zai (nit _ _ e)];exact e) (λb u xs e=>by rw[zai (nit _ _ e)];exact e) (λb ps e=>⟨#[],by rw[zai (nit _ _ e),e];simp⟩) (λm hm=>?_) (λb u e=>?_) I.bare
 .have e:b=D:=by simpa using hb
  subst e;exact⟨fb.2.2.2.1,fb.2.1,fb.2.2.2.2.1,fb.2.2.2.2.2⟩
 .obtain⟨u,es,ep,ho,r⟩:=hm;exact⟨u,es,ep,hk _ u (BG fb.2.1) ho,r⟩
 .by_cases hb:b=D
  .subst hb;rw[zaa]at e;cases e;exact new
  .rw[zai hb]at e;refine (I.hok b u e).stay (λc v hc q=>hk c v ?_ q) (λc q=>by rw[zai (nit _ _ q)];exact q) λc xs q=>by rw[zai (nit _ _ q)];exact q
   rcases hc with z |z
   .rw[z];exact nit b u e
   .exact nit c _ z
theorem zl9{H:Hp}{s:Ac}{Q:VK}{us:List Value}{vs:List V}{E:Value -> Ac -> Prop}(F:FnOk X.prog X.w X.K X.mg X.base CX0 k f fd ps sp)(hr:Room (k + 1 + 1) X.A)(hb:Binds X.K fd ps [])
  (I:Inv X pins σ H s) (r:Vals vs us) (h:sp vs H Q E0):Ao (Au X.prog X.w) X.A.in1.in1 (call (.ref f) us) (EP X pins σ Q) E s:=by
 have hl:(us++[]).length=ps.length:=by rw[Bf,<- r.length];exact F.len _ _ _ _ h
 have hb':=hb s us I.kIn hl;rw[Bf]at hb';refine wpAny_call (codeAny_mono (F.run X.A.in1.in1 X.stack s H ⟨us,[]⟩ us vs Q E0 hr.in1.in1 I.env0.in1.in1 hb' r h) λr s' hq=>?_)
 cases r with
 |error e=>exact Bu hq
 |ok fl =>
  cases fl with
  |ret u=>exact I.after hq
  |next=>exact Bu hq
  |brk=>exact Bu hq
  |cont=>exact Bu hq
noncomputable def ziI(X:Cx)(σ:St)(H0:Hp)(f:Addr)(xs:List V)(κV:Nat->List V):Prop:=∀(pins:List (Addr×Obj)) (i:Nat) (x:V) (u:Value) (H:Hp) (s:Ac),xs[i]?=some x->Same H0 H->Inv X pins σ H s->RelV x u ->
 Ao (Au X.prog X.w) X.A.in1.in1 (call (.ref f) [u]) (EP X pins σ λv H'=>Same H H'/\∃a,v=.ref a/\SqT X.K H' a (κV i)) (λ_ _=>False) s
theorem znp{xs:List V}{κV:Nat -> List V}(F:FnOk X.prog X.w X.K X.mg X.base CX0 k f fd ps sp)(hr:Room (k + 1 + 1) X.A)(hb:Binds X.K fd ps [])
  (turn:∀i x H,xs[i]?=some x->Same H0 H->sp [x] H (λv H'=>Same H H'/\∃a,v=.ref a/\SqT X.K H' a (κV i)) E0):ziI X σ H0 f xs κV :=
 λ_ i x _ H _ hx hS I ru=>zl9 F hr hb I (.cons ru .nil) (turn i x H hx hS)
inductive VCol:V->V->Int->Int->Prop where
 |int (a b:Int):VCol (.int a) (.int b) a b
 |bl (p q:Bool):VCol (.bl p) (.bl q) (b2i p) (b2i q)
inductive VCols:List V->List V->List Int->List Int->Prop where
 |nil:VCols [] [] [] []
 |cons {x y:V} {xs ys:List V} {a b:Int} {as bs:List Int}:VCol x y a b->VCols xs ys as bs->VCols (x::xs) (y::ys) (a::as) (b::bs)
theorem VCols.vals:∀{xs ys:List V}{as bs:List Int}{us vs:List Value},VCols xs ys as bs->Vals xs us->Vals ys vs->RK.Cols us vs as bs
  |_,_,_,_,_,_,.nil,.nil,.nil=>.nil
  |_, _, _, _, _, _, .cons c r, .cons h t, .cons g q => .cons (by
      cases c with
      |int a b=>obtain⟨t,rfl⟩:=h;obtain⟨u,rfl⟩:=g;exact .int _ _ _ _
      |bl p q=>cases h;cases g;exact .bl _ _) (r.vals t q)
structure SK (X:Cx) (pins:List (Addr×Obj)) (σ:St) (H:Hp) (s:Ac) (D st:Addr) (e:Nat) (κV:Nat->List V) (ks:List Addr):Prop where
 inv:Inv X pins σ H s
 fd:FpOk X pins H D
 fs:FpOk X pins H st
 ne:st≠D
 hd:s.heap.get? D=some (BM "list" #[] e)
 hs:∃c,s.heap.get? st=some (BM "list" (ks.map An).toArray c)
 hk:∀i a,ks[i]?=some a->SqT X.K H a (κV i)
theorem zis{M:DM}{A:AM}{E:Value -> Ac -> Prop}{body:Value -> PUnit -> Sem (ForInStep PUnit)}{vs:List Value}(P:Nat -> Ac -> Prop)
  (hb:∀i x s,vs[i]?=some x->P i s->Ao M A (body x ⟨⟩) (λr s'=>r=.yield ⟨⟩/\P (i+1) s') E s):∀(r:List Value) (i:Nat) (s:Ac),vs.drop i=r->i<=vs.length->P i s ->
   Ao M A (forIn r PUnit.unit body) (λ_ s'=>P vs.length s') E s
 |[],i,s,hr,hi,h=>by
  rw[List.forIn_nil];have:vs.length<=i:=List.drop_eq_nil_iff.mp hr;exact Ae (by rw[show vs.length=i by lia];exact h)
 |x::r,i,s,hr,hi,h=>by
  have hx:vs[i]?=some x:=by have:=congrArg (·[0]?) hr;simpa using this
  have hlt:i<vs.length:=(Ad.mp hx).1;have hr':vs.drop (i+1)=r:=by rw[<- List.tail_drop,hr];rfl
  rw[List.forIn_cons];refine Ab (BF (hb i x s hx h) (λq s' hq=>?_) λ_ _ e=>e);obtain⟨rfl,h'⟩:=hq;exact zis P hb r (i+1) s' hr' hlt h'
end
section
variable {X:Cx}{pins:List (Addr×Obj)}{σ:St}{H:Hp}{s:Ac}{D st:Addr}{e:Nat}{κV:Nat->List V}{ks:List Addr}{E:Value->Ac->Prop}
noncomputable def ziJ(X:Cx)(G:Array Nat->Prop)(ks vs:List Value)(E:Value->Ac->Prop)(s:Ac):Prop :=
 Ao (Au X.prog X.w) X.A.in1.in1 (keyKind' ks.toArray) (λκ s0=>s0=s /\
  Ao (Au X.prog X.w) X.A.in1.in1 ((sortRuns').run (SortSt.mk' κ (ks.toArray.zip vs.toArray) #[] 7 none)) (λr s'=>s'=s/\Cr r.2=none/\∃p:Array Nat,G p/\p.size=vs.length/\At r.2=p.map (DE (ks.toArray.zip vs.toArray))) E s) E s
theorem zkb{as:List Addr}(I:Inv X pins σ H s):∀{ks:List Addr}{vs:List (List V)}{ns:List Int}, (∀(i:Nat) (a:Addr), ks[i]? = some a -> ∃n r, ns[i]? = some n /\ SqT X.K H a (.int n :: r)) -> ns.length=ks.length ->
  ∃fs:List Value,W.KatTups s.heap (ks.map An) fs/\fs.length=ks.length/\∀v∈fs,∃n t,v=Value.int n t
 |[],_,_,_,_=>⟨[],.nil,rfl,λ_ h=>nomatch h⟩
 |a::r,vs,[],_,h=>by cases h
 |a::r,vs,n::ns,hk,h=>by
  obtain⟨m,q,e1,hq⟩:=hk 0 a rfl;obtain⟨fs,t,hl,hi⟩:=zkb (as:=as) (vs:=vs) I (ks:=r) (ns:=ns) (λi b hb=>by simpa using hk (i+1) b (by simpa using hb)) (by simpa using h);obtain⟨its,rv,⟨o,ho,hc,c,hd⟩,_⟩:=I.tuple hq
  cases rv with
  |cons rx rr =>
   obtain⟨t1,rfl⟩:=rx;refine⟨Value.int m t1::fs,.cons ho hc hd (by simp) t,by simp[hl],λv hv=>?_⟩;rcases AG.mp hv with rfl |hv
   .exact⟨_,_,rfl⟩
   .exact hi v hv
end
section
variable {X:Cx}{k:Nat}{f:Addr}{fd:Bz}{ps:List Str}{sp:Sp}{pins:List (Addr×Obj)}{σ:St}{H0 H:Hp}{s:Ac}{D st l:Addr}{e:Nat}{κV:Nat->List V}{ks:List Addr}{E:Value->Ac->Prop}{G:Array Nat->Prop}{xs:List V}{vs:List Value}{Q:VK}
noncomputable def outV(xs:List V)(p:Array Nat):List V:=p.toList.map λi=>xs.getD i .non
theorem zjd{xs:List V}{vs:List Value}(r:Vals xs vs)(i:Nat)(hi:i<xs.length):RelV (xs.getD i .non) (vs.getD i BE):=by
 have hx:xs[i]?=some xs[i]:=by simp[hi]
 obtain⟨u,hu,ru⟩:=r.get hx;rw[BK,hx,BK,hu];exact ru
theorem zhO{xs:List V}{vs:List Value}(r:Vals xs vs):∀(l:List Nat),(∀i∈l,i<xs.length)->Vals (l.map λi=>xs.getD i .non) (l.map λi=>vs.getD i BE)
 |[],_=>.nil
 |i::t,h=>.cons (zjd r i (h i Ax)) (zhO r t λj hj=>h j (Aq _ hj))
theorem zhr{p:Array Nat}:(outV xs p).length=p.size:=by unfold outV;simp
theorem zl6{P:PySem.Fin -> Ac -> Prop}{so:AJ}{out:List Value}{ys:List V}(K:SK X pins σ H s D st e κV ks)(hks:ks.length <= sizeLine)(ho:(At so).map (·.2)=out.toArray)(ry:Vals ys out)(hz:ys.length <= sizeLine)(hf:Cr so=none)
  (h:∀s',Inv X pins σ (upd H D (.lst ys)) s'->P (.done (.ret .none)) s'):Ao (Au X.prog X.w) X.A.in1.in1 (ksk_tail D false e (.ref st) so) P E s:=by
 obtain⟨c,hc⟩:=K.hs;have hzo:out.length<=sizeLine:=by rw[<- ry.length];exact hz
 have s1:=Bt s.heap st (AU λ_=>(#[]:Array Value));have hd1:(s.heap.update st (AU λ_=>(#[]:Array Value))).get? D=some (BM "list" #[] e):=(s1.2 D K.ne.symm).trans K.hd;have s2:=Bt (s.heap.update st (AU λ_=>(#[]:Array Value))) D (AU λ_=>out.toArray);obtain⟨c2,hc2⟩:∃c2,((s.heap.update st (AU λ_=>(#[]:Array Value))).update D (AU λ_=>out.toArray)).get? D=some (BM "list" out.toArray c2):=⟨_,DX hd1 λ_=>out.toArray⟩;unfold ksk_tail
 try dsimp only
 rw[ho];refine Ab (listUpdate_at hc rfl ?_ (by simpa using hks) (Ba _));refine Ab (D7 ?_);refine Ab (seqEpoch_at hd1 rfl ?_);simp only[AZ,if_false];refine Ab (listUpdate_at hd1 rfl ?_ (Ba _) (by simp;lia));rw[hf];simp only[bne_self_eq_false,AZ,if_false];refine Ae (h _ ?_);have I1:Inv X pins σ H { s with heap:=s.heap.update st (AU λ_=>(#[]:Array Value)) }:=K.inv.moved (t':=s.toks) K.fs (λb o hb e=>(s1.2 b λz=>hb (by simp[z])).trans e);exact I1.adopt (t':=s.toks) K.fd (λb u hb q=>(s2.2 b hb).trans q) ⟨_,hc2⟩ ⟨hz,out,c2,ry,hc2⟩
theorem zm3{P:PySem.Fin -> Ac -> Prop}(K:SK X pins σ H s D st e κV ks)(hl:ks.length=vs.length)(r:Vals xs vs)(hz:xs.length <= sizeLine)(hG:∀p, G p -> ∀i ∈ p.toList, i < xs.length)
  (h0:vs.length<2->G (List.toArray (BS vs.length))) (core:2<=vs.length->ziJ X G (ks.map An) vs E s)
  (h:∀p s',G p->p.size=xs.length->Inv X pins σ (upd H D (.lst (outV xs p))) s'->P (.done (.ret .none)) s'):Ao (Au X.prog X.w) X.A.in1.in1 (ksk_end D false vs.toArray e (.ref st) (ks.map An).toArray) P E s:=by
 have hlx:xs.length=vs.length:=r.length;have hl':(ks.map An).length=vs.length:=by simp[hl]
 have fin:∀(p:Array Nat) (so:AJ),G p->p.size=vs.length->At so=p.map (DE ((ks.map An).toArray.zip vs.toArray))->Cr so=none->Ao (Au X.prog X.w) X.A.in1.in1 (ksk_tail D false e (.ref st) so) P E s:=λp so g hp ha hf =>
  zl6 K (by lia) (W.kat_snds hl' ha) (ys:=outV xs p) (zhO r _ (hG p g)) (by rw[zhr];lia) hf λs' I'=>h p s' g (by lia) I'
 unfold ksk_end
 try dsimp only
 simp only[AZ,if_false]
 by_cases h2:vs.length<2
 .have h2':vs.toArray.size<2:=by simpa using h2
  rw[if_pos h2',if_pos h2'];refine Ab (Ae ?_);show Ao (Au X.prog X.w) X.A.in1.in1 (pure ((),SortSt.mk' general' ((ks.map An).toArray.zip vs.toArray) #[] 7 none) >>= _) P E s;refine Ab (Ae ?_)
  try dsimp only
  refine fin (List.toArray (BS vs.length)) _ (h0 h2) (by simp) ?_ rfl;have:=W.kas_range ((ks.map An).toArray.zip vs.toArray);rw[show ((ks.map An).toArray.zip vs.toArray).size=vs.length by simp[hl]]at this;exact this.symm
 .have h2':¬ vs.toArray.size<2:=by simpa using h2
  rw[if_neg h2',if_neg h2'];refine Ab (BF (core (by lia)) (λκ s0 hk=>?_) λ_ _ z=>z);obtain⟨rfl,hk⟩:=hk;refine Ab (BF hk (λr' s' hr=>?_) λ_ _ z=>z);obtain⟨rfl,hf,p,g,hp,ha⟩:=hr;obtain⟨⟨⟩,so⟩:=r'
  try dsimp only
  exact fin p so g hp ha hf
theorem zl7{P:PySem.Fin -> Ac -> Prop}(F:ziI X σ H0 f xs κV)
    (K:SK X pins σ H0 s D st e κV []) (r:Vals xs vs) (hz:xs.length<=sizeLine)
    (h:∀H' s' ks,ks.length=vs.length->Same H0 H'->SK X pins σ H' s' D st e κV ks->Ao (Au X.prog X.w) X.A.in1.in1 (ksk_end D false vs.toArray e (.ref st) (ks.map An).toArray) P E s') :
    Ao (Au X.prog X.w) X.A.in1.in1 (ksk_rest D (.ref f) false vs.toArray e (.ref st)) P E s:=by
  have hlx:xs.length=vs.length:=r.length;unfold ksk_rest;refine Ab (CM ?_);rw[List.forIn_toArray];refine Ab (BF (zis (vs:=vs) (λi s'=>∃H' ks,ks.length=i/\Same H0 H'/\SK X pins σ H' s' D st e κV ks) (λi x s1 hx hP=>?_) vs 0 s rfl (Ba _) ⟨H0,[],rfl,Same.refl _,K⟩) (λ_ s' hd=>?_) λ_ _ z=>z)
  . obtain⟨H1,ks,hkl,hS,K1⟩:=hP;have hi:i<xs.length:=by rw[hlx];exact (Ad.mp hx).1
    have hxx:xs[i]?=some xs[i]:=by simp[hi]
    obtain⟨u,hu,ru⟩:=r.get hxx;rw[hx]at hu
    cases hu
    obtain⟨c,hc⟩:=K1.hs
    have I1:Inv X (pins ++ zdK [D, st] s1.heap) σ H1 s1 := K1.inv.pinned (λb hb => by
        rcases AG.mp hb with rfl |hb
        . exact K1.fd
        . rw[Aj.mp hb];exact K1.fs) (λb hb=>by
        rcases AG.mp hb with rfl |hb
        . exact⟨_,K1.hd,zcU⟩
        . rw[Aj.mp hb];exact⟨_,hc,zcU⟩)
    refine Ab (DS (BF (F _ i _ _ H1 _ hxx hS I1 ru) (λv s2 hv=>?_) λ_ _ hF=>hF.elim));obtain⟨y,H2,I2,ry,hS2,a,ey,ka⟩:=hv;subst ey
    cases (show v=An a from ry)
    have p1:=I2.pin (D,BM "list" #[] e) (Av _ (Av _ (za1 (by simp) K1.hd)));have p2:=I2.pin (st,BM "list" (ks.map An).toArray c) (Av _ (Av _ (za1 (by simp) hc)));have sb:=Bt s2.heap st (AU (·.push (An a)));have ea:(ks.map An).toArray.push (An a)=((ks++[a]).map An).toArray:=by simp
    obtain⟨c2,hc2⟩:∃c2,(s2.heap.update st (AU (·.push (An a)))).get? st=some (BM "list" ((ks++[a]).map An).toArray c2):=⟨_,by rw[<- ea];exact DX p2.1 (·.push (An a))⟩
    try dsimp only
    refine Ab (listUpdate_at p2.1 rfl ?_ (by simp;lia) (by simp;lia));refine Ae ⟨rfl,H2,ks++[a],by simp[hkl],hS.trans hS2,I2.unpinned.moved (t':=s2.toks) (K1.fs.again p2.2.1) (λb o hb e=>(sb.2 b λz=>hb (by simp[z])).trans e),K1.fd.again p1.2.1,K1.fs.again p2.2.1,K1.ne,(sb.2 D K1.ne.symm).trans p1.1,⟨c2,hc2⟩,λj b hj=>?_⟩;rcases AY j ks.length with hjl |hjl
    . rw[Aw hjl]at hj;exact hS2.seqT (K1.hk j b hj)
    . rw[AK hjl]at hj
      have hj0:j-ks.length=0:=by have:=(Ad.mp hj).1;simp at this;lia
      rw[hj0]at hj
      cases AT hj
      rw[show j=i by lia];exact ka
  . obtain⟨H',ks,hkl,hS,K'⟩:=hd;obtain⟨c,hc⟩:=K'.hs
    try dsimp only
    refine Ab (listItems_at hc rfl ?_);exact h H' s' ks hkl hS K'
theorem zl5{P:PySem.Fin -> Ac -> Prop}{c0:Nat}(F:ziI X σ H0 f xs κV)
  (I:Inv X pins σ H0 s) (fb:FpOk X pins H0 D) (hd:s.heap.get? D=some (BM "list" vs.toArray c0)) (r:Vals xs vs) (hz:xs.length<=sizeLine)
  (h:∀e H' s' ks st,ks.length=vs.length->Same H0 H'->SK X pins σ H' s' D st e κV ks->Ao (Au X.prog X.w) X.A.in1.in1 (ksk_end D false vs.toArray e (.ref st) (ks.map An).toArray) P E s') :
  Ao (Au X.prog X.w) X.A.in1.in1 (ksk_tree D (.ref f) false) P E s:=by
 have hlx:xs.length=vs.length:=r.length;have s1:=Bt s.heap D (AU λ_=>(#[]:Array Value));obtain⟨e1,ho1⟩:∃e1,(s.heap.update D (AU λ_=>(#[]:Array Value))).get? D=some (BM "list" #[] e1):=⟨_,DX hd λ_=>#[]⟩;have hDl:D<s.heap.objs.size:=Ay hd;unfold ksk_tree;refine Ab (listItems_at hd rfl ?_);refine Ab (listUpdate_at hd rfl ?_ (by simp;lia) (Ba _));refine Ab (seqEpoch_at ho1 rfl ?_);refine Ab (wpAny_newTuple ?_ (by simp;lia));refine Ab (wpAny_newList ?_ (Ba _));refine Bg ?_
 have I1:Inv X pins σ H0 { s with heap:=s.heap.update D (AU λ_=>(#[]:Array Value)) }:=I.moved (t':=s.toks) fb (λb o hb e=>(s1.2 b λz=>hb (by simp[z])).trans e);have keep:∀b o,(s.heap.update D (AU λ_=>(#[]:Array Value))).get? b=some o->(((s.heap.update D (AU λ_=>(#[]:Array Value))).push (BM "tuple" vs.toArray.toList.toArray 0)).push (BM "list" #[] 0)).get? b=some o:=λb o q=>Af _ (Af _ q)
 have hsz:((s.heap.update D (AU λ_=>(#[]:Array Value))).push (BM "tuple" vs.toArray.toList.toArray 0)).objs.size=s.heap.objs.size+1:=by rw[size_push',Heap.size_update]
 have I2:Inv X pins σ H0 { s with heap:=((s.heap.update D (AU λ_=>(#[]:Array Value))).push (BM "tuple" vs.toArray.toList.toArray 0)).push (BM "list" #[] 0) }:=I1.kept (t':=s.toks) keep;show Ao (Au X.prog X.w) X.A.in1.in1 (ksk_rest D (.ref f) false vs.toArray _ (.ref ((s.heap.update D (AU λ_=>(#[]:Array Value))).push (BM "tuple" vs.toArray.toList.toArray 0)).objs.size)) P E { s with heap:=((s.heap.update D (AU λ_=>(#[]:Array Value))).push (BM "tuple" vs.toArray.toList.toArray 0)).push (BM "list" #[] 0) };rw[hsz];have hss:(((s.heap.update D (AU λ_=>(#[]:Array Value))).push (BM "tuple" vs.toArray.toList.toArray 0)).push (BM "list" #[] 0)).get? (s.heap.objs.size+1)=some (BM "list" #[] 0):=by rw[<- hsz];exact AI _ rfl
 exact zl7 F ⟨I2,fb,I.fpOk (C7 _) (I.hok.fresh (C7 _)),Nat.ne_of_gt (Nat.lt_succ_of_lt hDl),keep _ _ ho1,⟨0,by simpa using hss⟩,λi a ha=>by simp at ha⟩ r hz λH' s' ks a b c=>h _ H' s' ks _ a b c
end
section
variable {X:Cx}{k:Nat}{f:Addr}{fd:Bz}{ps:List Str}{sp:Sp}{pins:List (Addr×Obj)}{σ:St}{H0:Hp}{s:Ac}{l:Addr}{κV:Nat->List V}{G:Array Nat->Prop}{xs:List V}{Q:VK}
theorem zi5(F:ziI X σ H0 f xs κV)
  (hl:SqL X.K H0 l xs) (hG:∀p,G p->∀i∈p.toList,i<xs.length) (h0:xs.length<2->G (List.toArray (BS xs.length)))
  (core:∀{vs:List Value} {ks:List Addr} {H':Hp} {s':Ac} {D st:Addr} {e:Nat},Vals xs vs->SK X pins σ H' s' D st e κV ks->ks.length=vs.length->2<=vs.length->ziJ X G (ks.map An) vs X.xe s')
  (hQ:∀p D H',G p->p.size=xs.length->H0 D=none->Same H0 H'->H' D=some (.lst (outV xs p))->Q (.ref D) H') (I:Inv X pins σ H0 s) :
  Ao (Au X.prog X.w) X.A (call (.builtin "sorted") [.ref l] [(Bj "key",.ref f)]) (EP X pins σ Q) X.xe s:=by
 obtain⟨vs,r,pl,hz⟩:=I.list hl;have hlx:xs.length=vs.length:=r.length;refine call_function_entry_kw kind_sorted plain_sorted entry_sorted (ksk_s1 _ _) ?_
 unfold Builtin.«sorted»;refine Ab (m:=checkCount "sorted" 1 1 _) (Ae ?_);refine Ab (collect_list pl.isList ?_ (by first |lia | (rw[Ar];lia) | (simp;lia)));refine Ab (wpAny_newList ?_ (by first |lia | (rw[Ar];lia) | (simp;lia)));have hsz:((s.heap.push (BM "list" #[] 0)).update s.heap.objs.size (AU (·++vs.toArray))).objs.size=s.heap.objs.size+1:=by rw[Heap.size_update,size_push']
 have hoL:(((s.heap.push (BM "list" #[] 0)).update s.heap.objs.size (AU (·++vs.toArray))).push (BM "list" vs.toArray 0)).get? (s.heap.objs.size+1)=some (BM "list" vs.toArray 0):=by rw[<- hsz];exact AI _ rfl
 have keep:∀b o,s.heap.get? b=some o->(((s.heap.push (BM "list" #[] 0)).update s.heap.objs.size (AU (·++vs.toArray))).push (BM "list" vs.toArray 0)).get? b=some o:=λb o q=>by have hlt:b<s.heap.objs.size:=Ay q;rw[Heap.get?_push_ne _ _ _ (by rw[hsz];exact A8 (Nat.lt_succ_of_lt hlt)),Heap.get?_update_ne _ _ _ _ (A8 hlt),Heap.get?_push_ne _ _ _ (A8 hlt)];exact q
 show Ao _ _ _ _ _ { s with heap:=((s.heap.push (BM "list" #[] 0)).update s.heap.objs.size (AU (·++vs.toArray))).push (BM "list" vs.toArray 0) };rw[hsz];refine Ab (Bg (wpAny_call_entry_kw slot_list_sort ⟨_,hoL,rfl⟩ entry_list_sort ?body (ksk_l1 _ _)))
 case body =>
  show Ao (Au X.prog X.w) X.A.in1.in1 (Builtin.«list.sort» ⟨[.ref (s.heap.objs.size+1)],[(Bj "key",.ref f)]⟩) _ _ _;rw[ksk_t1];have I1:Inv X pins σ H0 { s with heap:=((s.heap.push (BM "list" #[] 0)).update s.heap.objs.size (AU (·++vs.toArray))).push (BM "list" vs.toArray 0) }:=I.kept (t':=s.toks) keep;have hDn:H0 (s.heap.objs.size+1)=none:=I.hok.fresh (C7 _);refine zl5 F I1 (I.fpOk (C7 _) hDn) hoL r hz λe H' s' ks st hks hS K=>?_
  refine zm3 K hks r hz hG (λh2=>by rw[<- hlx];exact h0 (by lia)) (core r K hks) λp s2 g hp I2=>⟨_,rfl,?_⟩
  refine Ae ⟨_,rfl,.ref (s.heap.objs.size+1),_,I2,rfl,hQ p _ _ g hp hDn (λb o q=>?_) zaa⟩;rw[zai (zal q hDn)];exact hS b o q
end
section
variable {X:Cx}{x:Str}{p pos kp kpos:Pos}{e:Expr}{te:TE}{k:Nat}{f:Addr}{fd:Bz}{ps:List Str}{sp:Sp}{fn:Str}
noncomputable def tMinK(K:W.Frag)(te:TE)(sp:Sp):TE:=λσ H Q=>te σ H λv H1=>∃l xs,∃ κ:Nat->List Int,[v]=[V.ref l]/\SqL K H1 l xs/\0<xs.length /\
 (∀i x H2,xs[i]?=some x->Same H1 H2->sp [x] H2 (λv H'=>Same H2 H'/\∃a,v=.ref a/\SqT K H' a ((κ i).map V.int)) E0)/\∀i x H',xs[i]?=some x->Least κ xs.length i->Same H1 H'->Q x H'
theorem zmg (F:FnOk X.prog X.w X.K X.mg X.base CX0 k f fd ps sp) (hr:Room (k + 1) X.A) (hb:Binds X.K fd ps []) (hg:Gl X "min") (hm:X.mg "min" = none) (hgf:Gl X fn) (hmf:X.mg fn=some (.ref f)) (he:PE X e te)
  (hdb:(fn == ("__debug__" : Str))=false:=by decide) (hse:Bl [e] X.env=[(false,eval e X.env)]:=by rfl) (hh:X.calm=true:=by rfl)
  (hall:(DO pos (CI [⟨some "key",.Name fn kp,kpos⟩] X.env)).all (·.1.isSome)=true:=by rfl) (hkw:(DO pos (CI [⟨some "key",.Name fn kp,kpos⟩] X.env)).any (·.1.isNone)=false:=by rfl)
  (hks:(DO pos (CI [⟨some "key",.Name fn kp,kpos⟩] X.env)).filterMap (·.1)=[Bj "key"]:=by rfl) :
  PE X (.Call (.Name "min" p) [e] [⟨some "key",.Name fn kp,kpos⟩] pos) (tMinK X.K te sp):=by
 intro pins s σ H Q I h;refine Da (zer I hg hm boot_min ?_ (by decide) (by decide))
 refine callWith_kw (thn (zah he zab (hs:=hse) pos pins s σ H (λvs H1=>∃l xs,∃ κ:Nat->List Int,vs=[V.ref l]/\SqL X.K H1 l xs/\0<xs.length /\
  (∀i x H2,xs[i]?=some x->Same H1 H2->sp [x] H2 (λv H'=>Same H2 H'/\∃a,v=.ref a/\SqT X.K H' a ((κ i).map V.int)) E0)/\∀i x H',xs[i]?=some x->Least κ xs.length i->Same H1 H'->Q x H') I ?_) λus s1 ⟨vs,H1,I1,r,q⟩=>?_) (by rw[hse];rfl) (by rw[hse];rfl) hall hkw
 .show te σ H _;exact h
 .obtain⟨l,xs,κ,rfl,hq,hne,turn,hQ⟩:=q;obtain⟨u,rfl,ru⟩:=Vals.one r
  cases (show u=An l from ru)
  refine thn (zjI (nm:=some "key") (kpos:=kpos) (zby (v:=.ref f) hgf hmf rfl hdb) zlL pos pins s1 σ H1 (λzs H2=>zs=[.ref f]/\H2=H1) I1 ⟨rfl,rfl⟩) λws s2 ⟨zs,H2,I2,rz,q2⟩=>?_
  obtain⟨rfl,rfl⟩:=q2;obtain⟨u2,rfl,ru2⟩:=Vals.one rz
  cases (show u2=An f from ru2)
  rw[hks];exact zkv (I1.ok.hd hh) F hr hb turn hq hne hQ I2
end
end L2
namespace TS
open PySem PyProof.Rows
noncomputable def zco:Bool->Keyed->Array Keyed->Nat->Nat->Nat->StateT AJ Sem (Option Nat):=sortPriv% PySem.Builtin.gallop
noncomputable def zfM:Array Keyed->Array Keyed->StateT AJ Sem (Array Keyed):=sortPriv% PySem.Builtin.mergeLo
noncomputable def zfN:Array Keyed->Array Keyed->StateT AJ Sem (Array Keyed):=sortPriv% PySem.Builtin.mergeHi
structure LtOk (M:DM) (A:AM) (E:Value->Ac->Prop) (s:Ac) (kd:CN) (S:Keyed->Prop) (L:Keyed->Keyed->Bool):Prop where
 lt:∀x y,S x->S y->∀(st:AJ) (Q:Option Bool->AJ->Prop),kindOf st=kd->Q (some (L x y)) st->wpS M A E s (lt' x y) Q st
 tr:∀x y z,S x->S y->S z->L y x=false->L z y=false->L z x=false
 as:∀x y,S x->S y->L x y=true->L y x=false
section
variable {M:DM}{A:AM}{E:Value->Ac->Prop}{s:Ac}{kd:CN}{S:Keyed->Prop}{L:Keyed->Keyed->Bool}
theorem zav{arr:Array Keyed}{i:Nat}{x:Keyed}{st:AJ}{Q:Keyed->AJ->Prop}(h:arr[i]?=some x)(q:Q x st):wpS M A E s (elem' arr i) Q st:=by rw[elem'_eq,h];exact As q
theorem zbz (O : LtOk M A E s kd S L){left : Bool}{key : Keyed}{arr : Array Keyed}{base n hint : Nat}{b : Nat → Bool}{Q : Option Nat → AJ → Prop}{st : AJ}(hk : kindOf st = kd) (hS : S key)
    (hb:∀ i,i<n→∃ x,arr[base+i]?=some x∧S x∧(if left=true then L x key else !L key x)=b i) (mono:∀ i j,i≤j→j<n→b j=true→b i=true) (hh:hint<n)
    (hQ:∀ k,k≤n→(∀ i,i<k→b i=true)→(∀ i,k≤i→i<n→b i=false)→Q (some k) st):wpS M A E s (zco left key arr base n hint) Q st:=by
  have bey : ∀ i, i < n → ∀ (Q' : Option Bool → AJ → Prop), Q' (some (b i)) st → wpS M A E s ((λi => do
        let x ← elem' arr (base+i)
        if left=true then lt' x key
          else do
            let r ← lt' key x
            pure (Option.map (λx=>!x) r)) i) Q' st:=λi hi Q' q=>by
    obtain⟨x,e,sx,eb⟩:=hb i hi
    refine Ag (zav e ?_)
    cases left with
    | true =>
      rw[if_pos rfl] at eb ⊢
      exact O.lt x key sx hS st Q' hk (by rw[eb];exact q)
    | false =>
      rw[if_neg (by simp)] at eb ⊢
      refine Ag (O.lt key x hS sx st _ hk (As ?_))
      show Q' (some (!L key x)) st
      rw[eb];exact q
  refine Ag (bey hint hh _ ?_)
  dsimp only
  cases hbh:b hint with
  | true =>
    rw[if_pos rfl]
    refine Ag (Ch (Br (I:=λx c st'=>st'=st∧∃ la of,c=(none,la,of)∧la<n - hint∧la<of∧x+1≤of∧b (hint+la)=true)
      (Q:=λc st'=>st'=st∧∃ la of,c=(none,la,of)∧la<n - hint∧la<of∧b (hint+la)=true∧(of<n - hint→b (hint+of)=false)) ?_ ?_ ⟨rfl,0,1,rfl,by lia,by lia,by lia,hbh⟩) ?_)
    . rintro x c st' _ hx ⟨rfl,la,of,rfl,g1,g2,g3,g4⟩
      dsimp only
      by_cases hge:of ≥ n - hint
      . rw[if_pos hge]
        exact As ⟨rfl,la,of,rfl,g1,g2,g4,λz=>absurd z (by lia)⟩
      . rw[if_neg hge]
        refine Ag (bey (hint+of) (by lia) _ ?_)
        dsimp only
        cases hbo:b (hint+of) with
        | true =>
          rw[if_neg (by simp)]
          exact As ⟨rfl,of,2*of+1,rfl,by lia,by lia,by lia,hbo⟩
        | false =>
          rw[if_pos (by simp)]
          exact As ⟨rfl,la,of,rfl,g1,g2,g4,λ_=>hbo⟩
    . rintro c st' ⟨rfl,la,of,rfl,g1,g2,g3,g4⟩
      exact⟨rfl,la,of,rfl,g1,g2,g4,λz=>absurd z (by simp at g3;lia)⟩
    . rintro c st' ⟨rfl,la,of,rfl,g1,g2,g3,g4⟩
      dsimp only
      have hlo:∀ i,i<hint+la+1→b i=true:=λi hi=>mono i (hint+la) (by lia) (by lia) g3
      have hhi:∀ i,hint+min of (n - hint)≤i→i<n→b i=false:=λi h1 h2=>by
        by_cases ho:of<n - hint
        . cases q:b i with
          | false=>rfl
          | true =>
            have:=mono (hint+of) i (by lia) h2 q
            rw[g4 ho] at this;cases this
        . exact absurd h2 (by lia)
      refine Ag (Ch (Br (I:=λx c z=>z=st'∧∃ lo hi,c=(none,lo,hi)∧lo≤hi∧hi≤n∧(hi - lo)+x≤n∧(∀ i,i<lo→b i=true)∧∀ i,hi≤i→i<n→b i=false)
        (Q:=λc z=>z=st'∧∃ k,c=(none,k,k)∧k≤n∧(∀ i,i<k→b i=true)∧∀ i,k≤i→i<n→b i=false) ?_ ?_ ⟨rfl,hint+la+1,hint+min of (n - hint),rfl,by lia,by lia,by lia,hlo,hhi⟩) ?_)
      . rintro x c st'' _ hx ⟨rfl,lo,hi,rfl,g1,g2,g3,g4,g5⟩
        dsimp only
        by_cases hge:lo ≥ hi
        . rw[if_pos hge]
          have e:lo=hi:=by lia
          subst e
          exact As ⟨rfl,lo,rfl,g2,g4,g5⟩
        . rw[if_neg hge]
          have hm:lo+(hi - lo) / 2<n:=by lia
          refine Ag (bey _ hm _ ?_)
          dsimp only
          cases hbm:b (lo+(hi - lo) / 2) with
          | true =>
            rw[if_pos rfl]
            refine As ⟨rfl,_,_,rfl,by lia,g2,by lia,λi hi'=>?_,g5⟩
            exact mono i _ (by lia) hm hbm
          | false =>
            rw[if_neg (by simp)]
            refine As ⟨rfl,_,_,rfl,by lia,by lia,by lia,g4,λi hi1 hi2=>?_⟩
            cases q:b i with
            | false=>rfl
            | true=>rw[mono _ i hi1 hi2 q] at hbm;cases hbm
      . rintro c st'' ⟨rfl,lo,hi,rfl,g1,g2,g3,g4,g5⟩
        have e:lo=hi:=by simp at g3;lia
        subst e
        exact⟨rfl,lo,rfl,g2,g4,g5⟩
      . rintro c st'' ⟨rfl,k,rfl,g1,g2,g3⟩
        exact As (hQ k g1 g2 g3)
  | false =>
    rw[if_neg (by simp)]
    refine Ag (Ch (Br (I:=λx c st'=>st'=st∧∃ la of,c=(none,la,of)∧la<hint+1∧la<of∧x+1≤of∧b (hint - la)=false)
      (Q:=λc st'=>st'=st∧∃ la of,c=(none,la,of)∧la<hint+1∧la<of∧b (hint - la)=false∧(of<hint+1→b (hint - of)=true)) ?_ ?_ ⟨rfl,0,1,rfl,by lia,by lia,by lia,hbh⟩) ?_)
    . rintro x c st' _ hx ⟨rfl,la,of,rfl,g1,g2,g3,g4⟩
      dsimp only
      by_cases hge:of ≥ hint+1
      . rw[if_pos hge]
        exact As ⟨rfl,la,of,rfl,g1,g2,g4,λz=>absurd z (by lia)⟩
      . rw[if_neg hge]
        refine Ag (bey (hint - of) (by lia) _ ?_)
        dsimp only
        cases hbo:b (hint - of) with
        | true =>
          rw[if_pos rfl]
          exact As ⟨rfl,la,of,rfl,g1,g2,g4,λ_=>hbo⟩
        | false =>
          rw[if_neg (by simp)]
          exact As ⟨rfl,of,2*of+1,rfl,by lia,by lia,by lia,hbo⟩
    . rintro c st' ⟨rfl,la,of,rfl,g1,g2,g3,g4⟩
      exact⟨rfl,la,of,rfl,g1,g2,g4,λz=>absurd z (by simp at g3;lia)⟩
    . rintro c st' ⟨rfl,la,of,rfl,g1,g2,g3,g4⟩
      dsimp only
      have hlo:∀ i,i<hint+1 - min of (hint+1)→b i=true:=λi hi=>by
        by_cases ho:of<hint+1
        . exact mono i (hint - of) (by lia) (by lia) (g4 ho)
        . exact absurd hi (by lia)
      have hhi:∀ i,hint - la≤i→i<n→b i=false:=λi h1 h2=>by
        cases q:b i with
        | false=>rfl
        | true =>
          have:=mono (hint - la) i (by lia) h2 q
          rw[g3] at this;cases this
      refine Ag (Ch (Br (I:=λx c z=>z=st'∧∃ lo hi,c=(none,lo,hi)∧lo≤hi∧hi≤n∧(hi - lo)+x≤n∧(∀ i,i<lo→b i=true)∧∀ i,hi≤i→i<n→b i=false)
        (Q:=λc z=>z=st'∧∃ k,c=(none,k,k)∧k≤n∧(∀ i,i<k→b i=true)∧∀ i,k≤i→i<n→b i=false) ?_ ?_ ⟨rfl,hint+1 - min of (hint+1),hint - la,rfl,by lia,by lia,by lia,hlo,hhi⟩) ?_)
      . rintro x c st'' _ hx ⟨rfl,lo,hi,rfl,g1,g2,g3,g4,g5⟩
        dsimp only
        by_cases hge:lo ≥ hi
        . rw[if_pos hge]
          have e:lo=hi:=by lia
          subst e
          exact As ⟨rfl,lo,rfl,g2,g4,g5⟩
        . rw[if_neg hge]
          have hm:lo+(hi - lo) / 2<n:=by lia
          refine Ag (bey _ hm _ ?_)
          dsimp only
          cases hbm:b (lo+(hi - lo) / 2) with
          | true =>
            rw[if_pos rfl]
            refine As ⟨rfl,_,_,rfl,by lia,g2,by lia,λi hi'=>?_,g5⟩
            exact mono i _ (by lia) hm hbm
          | false =>
            rw[if_neg (by simp)]
            refine As ⟨rfl,_,_,rfl,by lia,by lia,by lia,g4,λi hi1 hi2=>?_⟩
            cases q:b i with
            | false=>rfl
            | true=>rw[mono _ i hi1 hi2 q] at hbm;cases hbm
      . rintro c st'' ⟨rfl,lo,hi,rfl,g1,g2,g3,g4,g5⟩
        have e:lo=hi:=by simp at g3;lia
        subst e
        exact⟨rfl,lo,rfl,g2,g4,g5⟩
      . rintro c st'' ⟨rfl,k,rfl,g1,g2,g3⟩
        exact As (hQ k g1 g2 g3)
end
end TS
namespace TS
section
variable {α:Type}{le:α->α->Prop}
structure MI (le:α->α->Prop) (a b out:List α) (ia ib:Nat):Prop where
 ha:ia<=a.length
 hb:ib<=b.length
 perm:(out++a.drop ia++b.drop ib).Perm (a++b)
 sorted:out.Pairwise le
 lea:∀x∈out,∀y∈a.drop ia,le x y
 leb:∀x∈out,∀y∈b.drop ib,le x y
theorem zcW(a:List α)(i k:Nat):a.drop i=(a.drop i).take k++a.drop (i+k):=by rw[<- List.drop_drop,CP]
theorem MI.takeA{a b out:List α}{ia ib:Nat}(m:MI le a b out ia ib)(sa:a.Pairwise le)(k:Nat)(hk:ia + k <= a.length)(h:∀x ∈ (a.drop ia).take k, ∀y ∈ b.drop ib, le x y) :
  MI le a b (out++(a.drop ia).take k) (ia+k) ib:=by
 have e:=zcW a ia k;have sd:((a.drop ia).take k++a.drop (ia+k)).Pairwise le:=by rw[<- e];exact sa.sublist (Ct _ _)
 obtain⟨s1,s2,s3⟩:=AW.mp sd;refine⟨hk,m.hb,?_,AW.mpr ⟨m.sorted,s1,λx hx y hy=>m.lea x hx y ?_⟩,λx hx y hy=>?_,λx hx y hy=>?_⟩
 .have:=m.perm;rw[e]at this;simpa[AL]using this
 .rw[e];exact B4 _ hy
 .rcases AQ.mp hx with q |q
  .exact m.lea x q y (by rw[e];exact Av _ hy)
  .exact s3 x q y hy
 .rcases AQ.mp hx with q |q
  .exact m.leb x q y hy
  .exact h x q y hy
theorem MI.takeB{a b out:List α}{ia ib:Nat}(m:MI le a b out ia ib)(sb:b.Pairwise le)(k:Nat)(hk:ib + k <= b.length)(h:∀x ∈ (b.drop ib).take k, ∀y ∈ a.drop ia, le x y) :
  MI le a b (out++(b.drop ib).take k) ia (ib+k):=by
 have e:=zcW b ib k;have sd:((b.drop ib).take k++b.drop (ib+k)).Pairwise le:=by rw[<- e];exact sb.sublist (Ct _ _)
 obtain⟨s1,s2,s3⟩:=AW.mp sd;refine⟨m.ha,hk,?_,AW.mpr ⟨m.sorted,s1,λx hx y hy=>m.leb x hx y ?_⟩,λx hx y hy=>?_,λx hx y hy=>?_⟩
 .have:=m.perm;rw[e]at this;refine List.Perm.trans ?_ this;rw[AL,AL,AL,<- AL ((b.drop ib).take k),<- AL (a.drop ia)];exact List.Perm.append_left _ (List.Perm.append_right _ CQ)
 .rw[e];exact B4 _ hy
 .rcases AQ.mp hx with q |q
  .exact m.lea x q y hy
  .exact h x q y hy
 .rcases AQ.mp hx with q |q
  .exact m.leb x q y (by rw[e];exact Av _ hy)
  .exact s3 x q y hy
noncomputable def Res(le:α->α->Prop)(a b r:List α):Prop:=r.Perm (a++b)/\r.Pairwise le
theorem MI.done{a b out:List α}{ia ib:Nat}(m:MI le a b out ia ib)(sa:a.Pairwise le)(h:b.length<=ib):Res le a b (out++a.drop ia++b.drop ib):=by refine⟨m.perm,?_⟩;rw[List.drop_of_length_le h,Bf];exact AW.mpr ⟨m.sorted,sa.sublist (Ct _ _),m.lea⟩
theorem MI.lastA{a b out:List α}{ia ib:Nat}(m:MI le a b out ia ib)(sa:a.Pairwise le)(sb:b.Pairwise le)(h:∀x∈b.drop ib,∀y∈a.drop ia,le x y):Res le a b (out++b.drop ib++a.drop ia):=by
 refine⟨?_,?_⟩
 .refine List.Perm.trans ?_ m.perm;rw[AL,AL];exact List.Perm.append_left _ CQ
 .refine AW.mpr ⟨AW.mpr ⟨m.sorted,sb.sublist (Ct _ _),m.leb⟩,sa.sublist (Ct _ _),λx hx y hy=>?_⟩;rcases AQ.mp hx with q |q
  .exact m.lea x q y hy
  .exact h x q y hy
theorem MI.start{a b:List α}{y:α}(sb:b.Pairwise le)(h0:b[0]?=some y)(h:∀x∈a,le y x):MI le a b [y] 0 1:=by
 cases b with
 |nil=>cases h0
 |cons z r =>
  cases h0
  obtain⟨s1,s2⟩:=Dh.mp sb;refine⟨Ba _,by simp,?_,by simp,λx hx w hw=>?_,λx hx w hw=>?_⟩
  .show ([y]++a++r).Perm (a++y::r);exact List.perm_middle.symm
  .rw[Aj.mp hx];exact h w hw
  .rw[Aj.mp hx];exact s1 w hw
end
end TS
namespace TS
open PySem PyProof.Rows
noncomputable def Like(st st':AJ):Prop:=kindOf st'=kindOf st/\At st'=At st/\AN st'=AN st/\Cr st'=Cr st
theorem Like.refl(st:AJ):Like st st:=⟨rfl,rfl,rfl,rfl⟩
noncomputable abbrev leOf(L:Keyed->Keyed->Bool):Keyed->Keyed->Prop:=λx y=>L y x=false
section
variable {M:DM}{A:AM}{E:Value->Ac->Prop}{s:Ac}{kd:CN}{S:Keyed->Prop}{L:Keyed->Keyed->Bool}
theorem LtOk.rf(O:LtOk M A E s kd S L){x:Keyed}(h:S x):L x x=false:=by
 cases q:L x x with
 |false=>rfl
 |true=>rw[O.as x x h h q]at q;cases q
structure Two (S:Keyed->Prop) (L:Keyed->Keyed->Bool) (a b:Array Keyed):Prop where
 sa:a.toList.Pairwise (leOf L)
 sb:b.toList.Pairwise (leOf L)
 Sa:∀x∈a.toList,S x
 Sb:∀x∈b.toList,S x
theorem zao{a:Array Keyed}{i:Nat}{x:Keyed}(h:a[i]?=some x):x∈a.toList:=by
 have:a.toList[i]?=some x:=by simpa using h
 exact Ai this
theorem zb5{a:Array Keyed}{i:Nat}{x:Keyed}(h:a[i]?=some x):a.toList.drop i=x::a.toList.drop (i+1):=by
 have hl:i<a.toList.length:=by have:=(A0.mp h).1;simpa using this
 rw[List.drop_eq_getElem_cons hl]
 congr 1
 have:=(A0.mp h).2;simpa using this
theorem zcF{a:Array Keyed}(O:LtOk M A E s kd S L)(sa:a.toList.Pairwise (leOf L))(Sa:∀x∈a.toList,S x){i:Nat}{x y:Keyed}(h:a[i]?=some x)(hy:y∈a.toList.drop i):leOf L x y:=by
 rw[zb5 h]at hy;rcases AG.mp hy with e |q
 .rw[e];exact O.rf (Sa x (zao h))
 .have:=sa.sublist (Ct i _);rw[zb5 h]at this;exact (Dh.mp this).1 y q
variable {a b:Array Keyed}{out:Array Keyed}{ia ib:Nat}
theorem one_B(O:LtOk M A E s kd S L)(T:Two S L a b)(m:MI (leOf L) a.toList b.toList out.toList ia ib){x y:Keyed}(hb:b[ib]? = some x)(ha:a[ia]? = some y)(h:L x y=true) :
  MI (leOf L) a.toList b.toList (out.push x).toList ia (ib+1):=by
 have e:(b.toList.drop ib).take 1=[x]:=by rw[zb5 hb];rfl
 have hl:ib+1<=b.toList.length:=by have:=(A0.mp hb).1;rw[AH];exact this
 have:=m.takeB T.sb 1 hl λz hz w hw=>by rw[e]at hz;rw[Aj.mp hz];have h1:leOf L x y:=O.as x y (T.Sb x (zao hb)) (T.Sa y (zao ha)) h;exact O.tr x y w (T.Sb x (zao hb)) (T.Sa y (zao ha)) (T.Sa w (BB hw)) h1 (zcF O T.sa T.Sa ha hw)
 rw[e]at this;rw[CW];exact this
theorem one_A(O:LtOk M A E s kd S L)(T:Two S L a b)(m:MI (leOf L) a.toList b.toList out.toList ia ib){x y:Keyed}(hb:b[ib]? = some x)(ha:a[ia]? = some y)(h:L x y=false) :
  MI (leOf L) a.toList b.toList (out.push y).toList (ia+1) ib:=by
 have e:(a.toList.drop ia).take 1=[y]:=by rw[zb5 ha];rfl
 have hl:ia+1<=a.toList.length:=by have:=(A0.mp ha).1;rw[AH];exact this
 have:=m.takeA T.sa 1 hl λz hz w hw=>by rw[e]at hz;rw[Aj.mp hz];exact O.tr y x w (T.Sa y (zao ha)) (T.Sb x (zao hb)) (T.Sb w (BB hw)) h (zcF O T.sb T.Sb hb hw)
 rw[e]at this;rw[CW];exact this
theorem zcO(a:Array Keyed)(i k:Nat):(a.extract i (i+k)).toList=(a.toList.drop i).take k:=by rw[CY,Ce,Nat.add_sub_cancel_left]
theorem zfP{a:Array Keyed}{i k:Nat}{x:Keyed}(h:x∈(a.toList.drop i).take k):∃j,j<k/\a[i+j]?=some x:=by
 obtain⟨j,hj,e⟩:=AE h
 have hk:j<k:=by have:=hj;rw[AR]at this;lia
 refine⟨j,hk,?_⟩;have h1:((a.toList.drop i).take k)[j]?=some x:=by rw[Aa hj,e]
 rw[List.getElem?_take_of_lt hk,D1]at h1;simpa using h1
theorem blk_A(O:LtOk M A E s kd S L)(T:Two S L a b)(m:MI (leOf L) a.toList b.toList out.toList ia ib){x:Keyed}(hb:b[ib]? = some x)(k:Nat)(hk:ia + k <= a.size)(h:∀j y, j < k -> a[ia + j]? = some y -> L x y=false) :
  MI (leOf L) a.toList b.toList (out++a.extract ia (ia+k)).toList (ia+k) ib:=by
 rw[Be,zcO];refine m.takeA T.sa k (by rw[AH];exact hk) λz hz w hw=>?_
 obtain⟨j,hj,e⟩:=zfP hz;exact O.tr z x w (T.Sa z (zao e)) (T.Sb x (zao hb)) (T.Sb w (BB hw)) (h j z hj e) (zcF O T.sb T.Sb hb hw)
theorem blk_B(O:LtOk M A E s kd S L)(T:Two S L a b)(m:MI (leOf L) a.toList b.toList out.toList ia ib){y:Keyed}(ha:a[ia]? = some y)(k:Nat)(hk:ib + k <= b.size)(h:∀j x, j < k -> b[ib + j]? = some x -> L x y=true) :
  MI (leOf L) a.toList b.toList (out++b.extract ib (ib+k)).toList ia (ib+k):=by
 rw[Be,zcO];refine m.takeB T.sb k (by rw[AH];exact hk) λz hz w hw=>?_
 obtain⟨j,hj,e⟩:=zfP hz;exact O.tr z y w (T.Sb z (zao e)) (T.Sa y (zao ha)) (T.Sa w (BB hw)) (O.as z y (T.Sb z (zao e)) (T.Sa y (zao ha)) (h j z hj e)) (zcF O T.sa T.Sa ha hw)
theorem zm5(O:LtOk M A E s kd S L)(T:Two S L a b){st:AJ}(hk:kindOf st=kd){x:Keyed}(Sx:S x)(hi:ia < a.size){Q:Option Nat -> AJ -> Prop}
  (hQ:∀k,ia+k<=a.size->(∀j y,j<k->a[ia+j]?=some y->L x y=false)->(∀j y,k<=j->a[ia+j]?=some y->L x y=true)->Q (some k) st) {hint:Nat} (hh:hint<a.size-ia) :
  wpS M A E s (zco false x a ia (a.size-ia) hint) Q st:=by
 have at_:∀i,i<a.size-ia->∃y,a[ia+i]?=some y:=λi h=>⟨a[ia+i],by simp[show ia+i<a.size by lia]⟩
 refine zbz (b:=λi=>!(a[ia+i]?.elim false λy=>L x y)) O hk Sx (λi h=>?_) (λi j hij hj q=>?_) hh λk h1 h2 h3=>?_
 .obtain⟨y,e⟩:=at_ i h;exact⟨y,e,T.Sa y (zao e),by rw[if_neg (by simp),e];rfl⟩
 .obtain⟨y,e⟩:=at_ j hj;obtain⟨z,e2⟩:=at_ i (by lia);rw[e]at q;rw[e2];have q1:L x y=false:=by simpa using q
  have le1:leOf L z y:=zcF O T.sa T.Sa e2 (by
   have:y∈(a.toList.drop (ia+i)).drop (j-i):=by rw[List.drop_drop,show ia+i+(j-i)=ia+j by lia,zb5 e];exact Ax
   exact BB this)
  have:L x z=false:=O.tr z y x (T.Sa z (zao e2)) (T.Sa y (zao e)) Sx le1 q1;simpa using this
 .refine hQ k (by lia) (λj y hj e=>?_) (λj y hj e=>?_)
  .have:=h2 j hj;rw[e]at this;simpa using this
  .have hlt:j < a.size-ia := by have:=(A0.mp e).1;lia
   have:=h3 j hj hlt;rw[e]at this;simpa using this
theorem zm4(O:LtOk M A E s kd S L)(T:Two S L a b){st:AJ}(hk:kindOf st=kd){y:Keyed}(Sy:S y)(hi:ib < b.size){Q:Option Nat -> AJ -> Prop}
  (hQ:∀k,ib+k<=b.size->(∀j x,j<k->b[ib+j]?=some x->L x y=true)->(∀j x,k<=j->b[ib+j]?=some x->L x y=false)->Q (some k) st) {hint:Nat} (hh:hint<b.size-ib) :
  wpS M A E s (zco true y b ib (b.size-ib) hint) Q st:=by
 have at_:∀i,i<b.size-ib->∃x,b[ib+i]?=some x:=λi h=>⟨b[ib+i],by simp[show ib+i<b.size by lia]⟩
 refine zbz (b:=λi=>b[ib+i]?.elim false λx=>L x y) O hk Sy (λi h=>?_) (λi j hij hj q=>?_) hh λk h1 h2 h3=>?_
 .obtain⟨x,e⟩:=at_ i h;exact⟨x,e,T.Sb x (zao e),by rw[if_pos rfl,e];rfl⟩
 .obtain⟨x,e⟩:=at_ j hj;obtain⟨z,e2⟩:=at_ i (by lia);rw[e]at q;rw[e2];have q1:L x y=true:=q;show L z y=true
  have le1:leOf L z x:=zcF O T.sb T.Sb e2 (by
   have:x∈(b.toList.drop (ib+i)).drop (j-i):=by rw[List.drop_drop,show ib+i+(j-i)=ib+j by lia,zb5 e];exact Ax
   exact BB this)
  cases w:L z y with
  |true=>rfl
  |false =>
   have:L x y=false:=O.tr y z x Sy (T.Sb z (zao e2)) (T.Sb x (zao e)) w le1;rw[this]at q1;cases q1
 .refine hQ k (by lia) (λj x hj e=>?_) (λj x hj e=>?_)
  .have:=h2 j hj;rw[e]at this;exact this
  .have hlt:j < b.size-ib := by have:=(A0.mp e).1;lia
   have:=h3 j hj hlt;rw[e]at this;exact this
end
end TS
set_option maxHeartbeats 8000000
namespace TS
open PySem PyProof.Rows
section
variable {M:DM}{A:AM}{E:Value->Ac->Prop}{s:Ac}{kd:CN}{S:Keyed->Prop}{L:Keyed->Keyed->Bool}{a b out:Array Keyed}{ia ib:Nat}
theorem zbx(a:Array Keyed)(i:Nat):(a.extract i a.size).toList=a.toList.drop i:=by rw[CY,Ce,Di (by simp)]
theorem zd0(T:Two S L a b)(m:MI (leOf L) a.toList b.toList out.toList ia ib)(h:b.size<=ib):Res (leOf L) a.toList b.toList (out++a.extract ia a.size++b.extract ib b.size).toList:=by rw[Be,Be,zbx,zbx];exact m.done T.sa (by rw[AH];exact h)
theorem zkl(T:Two S L a b)(m:MI (leOf L) a.toList b.toList out.toList ia ib)(h:a.size<=ia):Res (leOf L) a.toList b.toList (out++a.extract ia a.size++b.extract ib b.size).toList:=by rw[Be,Be,zbx,zbx];have e:a.toList.drop ia=[]:=List.drop_of_length_le (by rw[AH];exact h);refine⟨m.perm,?_⟩;rw[e,Bf];exact AW.mpr ⟨m.sorted,T.sb.sublist (Ct _ _),m.leb⟩
theorem zdZ(T:Two S L a b)(hl:∀z,a[a.size-1]?=some z->∀x∈b.toList,leOf L x z)(m:MI (leOf L) a.toList b.toList out.toList ia ib)(h:ia+1=a.size):Res (leOf L) a.toList b.toList (out++b.extract ib b.size++a.extract ia a.size).toList:=by
 rw[Be,Be,zbx,zbx];have hlt:ia<a.size:=by lia
 have e:a[ia]?=some a[ia]:=by simp[hlt]
 refine m.lastA T.sa T.sb λx hx y hy=>?_
 rw[zb5 e,List.drop_of_length_le (by rw[AH];lia)]at hy;rw[Aj.mp hy];exact hl _ (by rw[show a.size-1=ia by lia];exact e) x (BB hx)
theorem Like.tr{x y z:AJ}(h:Like x y)(k:Like y z):Like x z:=⟨k.1.trans h.1,k.2.1.trans h.2.1,k.2.2.1.trans h.2.2.1,k.2.2.2.trans h.2.2.2⟩
noncomputable def ze8:Nat->StateT AJ Sem Unit:=sortPriv% PySem.Builtin.setMinGallop
noncomputable abbrev LH:=Option (Array Keyed)×Array Keyed×Nat×Nat×Nat×Nat×Nat
noncomputable def loC(a b out:Array Keyed)(ia ib mg ac bc:Nat):StateT AJ Sem (ForInStep LH) :=
 elem' a ia >>= λx =>
  if (ia+1+1 == a.size)=true then pure (.done (some (out.push x++b.extract ib b.size++a.extract (ia+1) a.size),out.push x,ia+1,ib,mg,ac,bc))
  else if (decide (ac<7) && decide (bc<7))=true then pure (.done (none,out.push x,ia+1,ib,mg,ac,bc))
  else pure (.yield (none,out.push x,ia+1,ib,mg,ac,bc))
noncomputable def loB(a b out:Array Keyed)(ia ib mg ac bc:Nat):StateT AJ Sem (ForInStep LH) :=
 elem' b ib >>= λx =>
  if (ib+1 == b.size)=true then pure (.done (some (out.push x++a.extract ia a.size++b.extract (ib+1) b.size),out.push x,ia,ib+1,mg,ac,bc))
  else elem' a ia >>= λy=>zco true y b (ib+1) (b.size-(ib+1)) 0 >>= λw =>
   match w with
   |some k =>
    if k > 0 then
     if (ib+1+k == b.size)=true then pure (.done (some (out.push x++b.extract (ib+1) (ib+1+k)++a.extract ia a.size++b.extract (ib+1+k) b.size),out.push x++b.extract (ib+1) (ib+1+k),ia,ib+1+k,mg,ac,k))
     else loC a b (out.push x++b.extract (ib+1) (ib+1+k)) ia (ib+1+k) mg ac k
    else loC a b (out.push x) ia (ib+1) mg ac k
   |_=>pure (.done (some (out.push x++a.extract ia a.size++b.extract (ib+1) b.size),out.push x,ia,ib+1,mg,ac,bc))
noncomputable def loA(a b out:Array Keyed)(ia ib mg ac bc:Nat):StateT AJ Sem (ForInStep LH) :=
 elem' b ib >>= λx=>zco false x a ia (a.size-ia) 0 >>= λw =>
  match w with
  |some k =>
   if k > 0 then
    if (ia+k+1 == a.size)=true then pure (.done (some (out++a.extract ia (ia+k)++b.extract ib b.size++a.extract (ia+k) a.size),out++a.extract ia (ia+k),ia+k,ib,mg,k,bc))
    else if (ia+k == a.size)=true then pure (.done (some (out++a.extract ia (ia+k)++a.extract (ia+k) a.size++b.extract ib b.size),out++a.extract ia (ia+k),ia+k,ib,mg,k,bc))
    else loB a b (out++a.extract ia (ia+k)) (ia+k) ib mg k bc
   else loB a b out ia ib mg k bc
  |_=>pure (.done (some (out++a.extract ia a.size++b.extract ib b.size),out,ia,ib,mg,ac,bc))
noncomputable def loG(a b:Array Keyed)(c:LH):StateT AJ Sem (ForInStep LH) :=
 if c.2.2.2.2.1 > 1 then ze8 (c.2.2.2.2.1-1) >>= λ_=>loA a b c.2.1 c.2.2.1 c.2.2.2.1 (c.2.2.2.2.1-1) c.2.2.2.2.2.1 c.2.2.2.2.2.2
 else ze8 c.2.2.2.2.1 >>= λ_=>loA a b c.2.1 c.2.2.1 c.2.2.2.1 c.2.2.2.2.1 c.2.2.2.2.2.1 c.2.2.2.2.2.2
noncomputable abbrev LI:=Option (Array Keyed)×Array Keyed×Nat×Nat×Nat×Nat
noncomputable def loI(a b:Array Keyed)(mg:Nat)(c:LI):StateT AJ Sem (ForInStep LI) :=
 elem' b c.2.2.2.1 >>= λx=>elem' a c.2.2.1 >>= λy=>lt' x y >>= λw =>
  match w with
  |some v =>
   if v=true then elem' b c.2.2.2.1 >>= λx =>
    if (c.2.2.2.1+1 == b.size)=true then pure (.done (some (c.2.1.push x++a.extract c.2.2.1 a.size++b.extract (c.2.2.2.1+1) b.size),c.2.1.push x,c.2.2.1,c.2.2.2.1+1,0,c.2.2.2.2.2+1))
    else if c.2.2.2.2.2+1 ≥ mg then pure (.done (none,c.2.1.push x,c.2.2.1,c.2.2.2.1+1,0,c.2.2.2.2.2+1))
    else pure (.yield (none,c.2.1.push x,c.2.2.1,c.2.2.2.1+1,0,c.2.2.2.2.2+1))
   else elem' a c.2.2.1 >>= λy =>
    if (c.2.2.1+1+1 == a.size)=true then pure (.done (some (c.2.1.push y++b.extract c.2.2.2.1 b.size++a.extract (c.2.2.1+1) a.size),c.2.1.push y,c.2.2.1+1,c.2.2.2.1,c.2.2.2.2.1+1,0))
    else if c.2.2.2.2.1+1 ≥ mg then pure (.done (none,c.2.1.push y,c.2.2.1+1,c.2.2.2.1,c.2.2.2.2.1+1,0))
    else pure (.yield (none,c.2.1.push y,c.2.2.1+1,c.2.2.2.1,c.2.2.2.2.1+1,0))
  |_=>pure (.done (some (c.2.1++a.extract c.2.2.1 a.size++b.extract c.2.2.2.1 b.size),c.2.1,c.2.2.1,c.2.2.2.1,c.2.2.2.2.1,c.2.2.2.2.2))
noncomputable abbrev LO:=Option (Array Keyed)×Array Keyed×Nat×Nat×Nat
noncomputable def loP(a b:Array Keyed)(mg:Nat)(c:LI):StateT AJ Sem (ForInStep LO) :=
 CO (λ_=>StateT AJ Sem (ForInStep LO)) c.1 (λr=>pure (.done (some r,c.2.1,c.2.2.1,c.2.2.2.1,mg))) λ_=>(liftM (rule "list.sort.gallop"):StateT AJ Sem Unit) >>= λ_=>forIn [:a.size+b.size] ((none,c.2.1,c.2.2.1,c.2.2.2.1,mg+1,c.2.2.2.2.1,c.2.2.2.2.2):LH) (λ_ c=>loG a b c) >>= λc =>
  CO (λ_=>StateT AJ Sem (ForInStep LO)) c.1 (λr=>pure (.done (some r,c.2.1,c.2.2.1,c.2.2.2.1,c.2.2.2.2.1))) λ_=>ze8 (c.2.2.2.2.1+1) >>= λ_=>pure (.yield (none,c.2.1,c.2.2.1,c.2.2.2.1,c.2.2.2.2.1+1))
noncomputable def loO(a b:Array Keyed)(c:LO):StateT AJ Sem (ForInStep LO) :=
 forIn [:a.size+b.size] ((none,c.2.1,c.2.2.1,c.2.2.2.1,0,0):LI) (λ_ d=>loI a b c.2.2.2.2 d) >>= λd=>loP a b c.2.2.2.2 d
noncomputable def zk5(a b:Array Keyed):StateT AJ Sem (Array Keyed) :=
 (liftM (rule "list.sort.merge-lo"):StateT AJ Sem Unit) >>= λ_=>elem' b 0 >>= λx =>
  if (1 == b.size)=true then pure (#[x]++a.extract 0 a.size++b.extract 1 b.size)
  else if (0+1 == a.size)=true then pure (#[x]++b.extract 1 b.size++a.extract 0 a.size)
  else get >>= λs=>forIn [:a.size+b.size] ((none,#[x],0,1,gallopOf s):LO) (λ_ c=>loO a b c) >>= λc =>
   CO (λ_=>StateT AJ Sem (Array Keyed)) c.1 (λr=>pure r) λ_=>unsupported "internal:list.sort.merge-bound"
theorem zi0(a b:Array Keyed):zfM a b=zk5 a b:=rfl
variable {Q:ForInStep LH->AJ->Prop}{z:AJ}{N mg ac bc:Nat}{x y:Keyed}
theorem zij(O:LtOk M A E s kd S L)(T:Two S L a b)(hl:∀z, a[a.size-1]? = some z -> ∀x ∈ b.toList, leOf L x z)(hD:∀r out ia ib mg ac bc, Res (leOf L) a.toList b.toList r.toList -> Q (.done (some r, out, ia, ib, mg, ac, bc)) z)
  (hN:∀out ia ib mg ac bc,MI (leOf L) a.toList b.toList out.toList ia ib->ia+1<a.size->ib<b.size->N<=ia+ib->Q (.done (none,out,ia,ib,mg,ac,bc)) z/\Q (.yield (none,out,ia,ib,mg,ac,bc)) z)
  (m:MI (leOf L) a.toList b.toList out.toList ia ib) (ea:a[ia]?=some y) (eb:b[ib]?=some x) (hw:L x y=false) (g1:ia+1<a.size) (g2:ib<b.size) (g3:N<=ia+ib) :
  wpS M A E s (loC a b out ia ib mg ac bc) Q z:=by
 have n4:=one_A O T m eb ea hw;refine Ag (zav ea ?_)
 by_cases e:ia+1+1=a.size
 .rw[if_pos (by simp[e])];exact As (hD _ _ _ _ _ _ _ (zdZ T hl n4 (by lia)))
 rw[if_neg (by simp[e])];have h:=hN _ _ _ mg ac bc n4 (by lia) g2 (by lia);split
 .exact As h.1
 .exact As h.2
theorem zik(O:LtOk M A E s kd S L)(T:Two S L a b)(hk:kindOf z=kd)(hl:∀z, a[a.size-1]? = some z -> ∀x ∈ b.toList, leOf L x z)(hD:∀r out ia ib mg ac bc, Res (leOf L) a.toList b.toList r.toList -> Q (.done (some r, out, ia, ib, mg, ac, bc)) z)
  (hN:∀out ia ib mg ac bc,MI (leOf L) a.toList b.toList out.toList ia ib->ia+1<a.size->ib<b.size->N<=ia+ib->Q (.done (none,out,ia,ib,mg,ac,bc)) z/\Q (.yield (none,out,ia,ib,mg,ac,bc)) z)
  (m:MI (leOf L) a.toList b.toList out.toList ia ib) (ea:a[ia]?=some y) (eb:b[ib]?=some x) (hw:L x y=true) (g1:ia+1<a.size) (g2:ib<b.size) (g3:N<=ia+ib) :
  wpS M A E s (loB a b out ia ib mg ac bc) Q z:=by
 have n2:=one_B O T m eb ea hw;refine Ag (zav eb ?_)
 by_cases e3:ib+1=b.size
 .rw[if_pos (by simp[e3])];exact As (hD _ _ _ _ _ _ _ (zd0 T n2 (by lia)))
 rw[if_neg (by simp[e3])];refine Ag (zav ea ?_);refine Ag (zm4 O T hk (T.Sa _ (zao ea)) (by lia) (λk r1 r2 r3=>?_) (by lia));dsimp only
 by_cases hk1:k > 0
 .rw[if_pos hk1];have n3:=blk_B O T n2 ea k r1 r2
  by_cases e4:ib+1+k=b.size
  .rw[if_pos (by simp[e4])];exact As (hD _ _ _ _ _ _ _ (zd0 T n3 (by lia)))
  rw[if_neg (by simp[e4])];have hb:ib+1+k<b.size:=by lia
  exact zij O T hl hD hN n3 ea (by simp[hb]) (r3 k b[ib+1+k] (Ak _) (by simp[hb])) g1 hb (by lia)
 rw[if_neg hk1];have hb:ib+1<b.size:=by lia
 have kz:k=0:=by lia
 subst kz;exact zij O T hl hD hN n2 ea (by simp[hb]) (r3 0 b[ib+1] (Ak _) (by simp[hb])) g1 hb (by lia)
theorem zlb(O:LtOk M A E s kd S L)(T:Two S L a b)(hk:kindOf z=kd)(hl:∀z, a[a.size-1]? = some z -> ∀x ∈ b.toList, leOf L x z)(hD:∀r out ia ib mg ac bc, Res (leOf L) a.toList b.toList r.toList -> Q (.done (some r, out, ia, ib, mg, ac, bc)) z)
  (hN:∀out ia ib mg ac bc,MI (leOf L) a.toList b.toList out.toList ia ib->ia+1<a.size->ib<b.size->N<=ia+ib->Q (.done (none,out,ia,ib,mg,ac,bc)) z/\Q (.yield (none,out,ia,ib,mg,ac,bc)) z)
  (m:MI (leOf L) a.toList b.toList out.toList ia ib) (g1:ia+1<a.size) (g2:ib<b.size) (g3:N<=ia+ib) :
  wpS M A E s (loA a b out ia ib mg ac bc) Q z:=by
 have eb:b[ib]?=some b[ib]:=by simp[g2]
 refine Ag (zav eb ?_);refine Ag (zm5 O T hk (T.Sb _ (zao eb)) (by lia) (λk q1 q2 q3=>?_) (by lia));dsimp only
 by_cases hk0:k > 0
 .rw[if_pos hk0];have n1:=blk_A O T m eb k q1 q2
  by_cases e1:ia+k+1=a.size
  .rw[if_pos (by simp[e1])];exact As (hD _ _ _ _ _ _ _ (zdZ T hl n1 e1))
  rw[if_neg (by simp[e1])]
  by_cases e2:ia+k=a.size
  .rw[if_pos (by simp[e2])];exact As (hD _ _ _ _ _ _ _ (zkl T n1 (by lia)))
  rw[if_neg (by simp[e2])];have ha:ia+k<a.size:=by lia
  exact zik O T hk hl hD hN n1 (by simp[ha]) eb (q3 k a[ia+k] (Ak _) (by simp[ha])) (by lia) g2 (by lia)
 rw[if_neg hk0];have ha:ia<a.size:=by lia
 have kz:k=0:=by lia
 subst kz;exact zik O T hk hl hD hN m (by simp[ha]) eb (q3 0 a[ia] (Ak _) (by simp[ha])) g1 g2 g3
theorem zk9{Q:ForInStep LI -> AJ -> Prop}(O:LtOk M A E s kd S L)(T:Two S L a b)(hk:kindOf z=kd)(hl:∀z, a[a.size-1]? = some z -> ∀x ∈ b.toList, leOf L x z)(m:MI (leOf L) a.toList b.toList out.toList ia ib)(g1:ia + 1 < a.size)(g2:ib < b.size)
  (hD:∀r out ia ib ac bc,Res (leOf L) a.toList b.toList r.toList->Q (.done (some r,out,ia,ib,ac,bc)) z)
  (hN:∀out ia' ib' ac bc,MI (leOf L) a.toList b.toList out.toList ia' ib'->ia'+1<a.size->ib'<b.size->ia+ib+1<=ia'+ib'->Q (.done (none,out,ia',ib',ac,bc)) z/\Q (.yield (none,out,ia',ib',ac,bc)) z) :
  wpS M A E s (loI a b mg (none,out,ia,ib,ac,bc)) Q z:=by
 obtain⟨xb,eb⟩:∃x,b[ib]?=some x:=⟨b[ib]'(by lia),by simp[g2]⟩;obtain⟨xa,ea⟩:∃x,a[ia]?=some x:=⟨a[ia]'(by lia),by simp[show ia<a.size by lia]⟩;refine Ag (zav eb (Ag (zav ea (Ag (O.lt xb xa (T.Sb _ (zao eb)) (T.Sa _ (zao ea)) _ _ hk ?_)))));dsimp only
 cases hw:L xb xa with
 |true =>
  rw[if_pos rfl];have m2:=one_B O T m eb ea hw;refine Ag (zav eb ?_)
  by_cases e:ib+1=b.size
  .rw[if_pos (by simp[e])];exact As (hD _ _ _ _ _ _ (zd0 T m2 (by lia)))
  rw[if_neg (by simp[e])];have h:=hN _ _ _ 0 (bc+1) m2 g1 (by lia) (by lia);split
  .exact As h.1
  .exact As h.2
 |false =>
  rw[if_neg (by simp)];have m2:=one_A O T m eb ea hw;refine Ag (zav ea ?_)
  by_cases e:ia+1+1=a.size
  .rw[if_pos (by simp[e])];exact As (hD _ _ _ _ _ _ (zdZ T hl m2 (by lia)))
  rw[if_neg (by simp[e])];have h:=hN _ _ _ (ac+1) 0 m2 (by lia) g2 (by lia);split
  .exact As h.1
  .exact As h.2
theorem zla(O:LtOk M A E s kd S L)(T:Two S L a b)(hk:kindOf z=kd)(hl:∀z, a[a.size-1]? = some z -> ∀x ∈ b.toList, leOf L x z)(hD:∀z', Like z z' -> ∀r out ia ib mg ac bc, Res (leOf L) a.toList b.toList r.toList -> Q (.done (some r, out, ia, ib, mg, ac, bc)) z')
  (hN:∀z',Like z z'->∀out ia ib mg ac bc,MI (leOf L) a.toList b.toList out.toList ia ib->ia+1<a.size->ib<b.size->N<=ia+ib->Q (.done (none,out,ia,ib,mg,ac,bc)) z'/\Q (.yield (none,out,ia,ib,mg,ac,bc)) z')
  (m:MI (leOf L) a.toList b.toList out.toList ia ib) (g1:ia+1<a.size) (g2:ib<b.size) (g3:N<=ia+ib) :
  wpS M A E s (loG a b (none,out,ia,ib,mg,ac,bc)) Q z:=by
 have key:∀z',Like z z'->∀mg,wpS M A E s (loA a b out ia ib mg ac bc) Q z':=λz' h mg=>zlb O T (h.1.trans hk) hl (hD z' h) (hN z' h) m g1 g2 g3
 unfold loG;split
 .exact Ag (BQ (key _ (by exact Like.refl z) _))
 .exact Ag (BQ (key _ (by exact Like.refl z) _))
theorem zk7{Q:ForInStep LO -> AJ -> Prop}(O:LtOk M A E s kd S L)(T:Two S L a b)(hk:kindOf z=kd)(hl:∀z, a[a.size-1]? = some z -> ∀x ∈ b.toList, leOf L x z)(m:MI (leOf L) a.toList b.toList out.toList ia ib)(g1:ia + 1 < a.size)(g2:ib < b.size)(g3:N <= ia + ib)
  (hD:∀z',Like z z'->∀r out ia ib mg,Res (leOf L) a.toList b.toList r.toList->Q (.done (some r,out,ia,ib,mg)) z')
  (hN:∀z',Like z z'->∀out ia ib mg,MI (leOf L) a.toList b.toList out.toList ia ib->ia+1<a.size->ib<b.size->N<=ia+ib->Q (.yield (none,out,ia,ib,mg)) z') :
  wpS M A E s (loP a b mg (none,out,ia,ib,ac,bc)) Q z:=by
 refine Ag (wpS_lift (CM ⟨rfl,?_⟩))
 refine Ag (Ch (Br (I:=λy c w=>Like z w/\∃out ia ib mg ac bc,c=(none,out,ia,ib,mg,ac,bc)/\MI (leOf L) a.toList b.toList out.toList ia ib/\ia+1<a.size/\ib<b.size/\N<=ia+ib)
  (Q:=λc w=>Like z w/\((∃r,c.1=some r/\Res (leOf L) a.toList b.toList r.toList)∨∃out ia ib mg ac bc,c=(none,out,ia,ib,mg,ac,bc)/\MI (leOf L) a.toList b.toList out.toList ia ib/\ia+1<a.size/\ib<b.size/\N<=ia+ib)) ?_ ?_ ⟨Like.refl _,_,_,_,_,_,_,rfl,m,g1,g2,g3⟩) ?_)
 .rintro y c w _ hy ⟨lk,out,ia,ib,mg,ac,bc,rfl,m,k1,k2,k3⟩;exact zla O T (lk.1.trans hk) hl (λw' h r _ _ _ _ _ _ e=>⟨Like.tr lk h,.inl ⟨r,rfl,e⟩⟩) (λw' h _ _ _ _ _ _ e u1 u2 u3=>⟨⟨Like.tr lk h,.inr ⟨_,_,_,_,_,_,rfl,e,u1,u2,u3⟩⟩,Like.tr lk h,_,_,_,_,_,_,rfl,e,u1,u2,u3⟩) m k1 k2 k3
 .rintro c w ⟨lk,r⟩;exact⟨lk,.inr r⟩
 .rintro c w ⟨lk,hc⟩;rcases hc with⟨r,e,res⟩ |⟨out,ia,ib,mg,ac,bc,rfl,m,k1,k2,k3⟩
  .rw[e];exact As (hD w lk _ _ _ _ _ res)
  .exact Ag (BQ (As (hN _ (by exact lk) _ _ _ _ m k1 k2 k3)))
theorem zk8{Q:ForInStep LO -> AJ -> Prop}(O:LtOk M A E s kd S L)(T:Two S L a b)(hk:kindOf z=kd)(hl:∀z, a[a.size-1]? = some z -> ∀x ∈ b.toList, leOf L x z)(m:MI (leOf L) a.toList b.toList out.toList ia ib)(g1:ia + 1 < a.size)(g2:ib < b.size)
  (hD:∀z',Like z z'->∀r out ia ib mg,Res (leOf L) a.toList b.toList r.toList->Q (.done (some r,out,ia,ib,mg)) z')
  (hN:∀z',Like z z'->∀out ia' ib' mg,MI (leOf L) a.toList b.toList out.toList ia' ib'->ia'+1<a.size->ib'<b.size->ia+ib+1<=ia'+ib'->Q (.yield (none,out,ia',ib',mg)) z') :
  wpS M A E s (loO a b (none,out,ia,ib,mg)) Q z:=by
 refine Ag (Ch (Br (I:=λy c w=>w=z/\∃out ia' ib' ac bc,c=(none,out,ia',ib',ac,bc)/\MI (leOf L) a.toList b.toList out.toList ia' ib'/\ia'+1<a.size/\ib'<b.size/\ia+ib+y<=ia'+ib')
  (Q:=λc w=>w=z/\((∃r,c.1=some r/\Res (leOf L) a.toList b.toList r.toList)∨∃out ia' ib' ac bc,c=(none,out,ia',ib',ac,bc)/\MI (leOf L) a.toList b.toList out.toList ia' ib'/\ia'+1<a.size/\ib'<b.size/\ia+ib+1<=ia'+ib')) ?_ ?_ ⟨rfl,_,_,_,_,_,rfl,m,g1,g2,by lia⟩) ?_)
 .rintro y c w _ hy ⟨rfl,out',ia',ib',ac,bc,rfl,m',j1,j2,j3⟩;exact zk9 O T hk hl m' j1 j2 (λr _ _ _ _ _ e=>⟨rfl,.inl ⟨r,rfl,e⟩⟩) λ_ _ _ _ _ e u1 u2 u3=>⟨⟨rfl,.inr ⟨_,_,_,_,_,rfl,e,u1,u2,by lia⟩⟩,rfl,_,_,_,_,_,rfl,e,u1,u2,by lia⟩
 .rintro c w ⟨rfl,out',ia',ib',ac,bc,rfl,m',j1,j2,j3⟩;exact⟨rfl,.inr ⟨out',ia',ib',ac,bc,rfl,m',j1,j2,by lia⟩⟩
 .rintro c w ⟨rfl,hc⟩;rcases hc with⟨r,e,res⟩ |⟨out',ia',ib',ac,bc,rfl,m',j1,j2,j3⟩
  .unfold loP;rw[e];exact As (hD _ (Like.refl _) _ _ _ _ _ res)
  .exact zk7 (N:=ia'+ib') O T hk hl m' j1 j2 (Ak _) hD λz' h _ _ _ _ e u1 u2 u3=>hN z' h _ _ _ _ e u1 u2 (by lia)
end
section
variable {M:DM}{A:AM}{E:Value->Ac->Prop}{s:Ac}{kd:CN}{S:Keyed->Prop}{L:Keyed->Keyed->Bool}{a b:Array Keyed}
theorem zgQ(O:LtOk M A E s kd S L)(T:Two S L a b){st:AJ}{Q:Array Keyed -> AJ -> Prop}(hk:kindOf st=kd)(ha : 0 < a.size)(hb : 0 < b.size)(h0:∀y, b[0]? = some y -> ∀x ∈ a.toList, leOf L y x)
  (hl:∀z,a[a.size-1]?=some z->∀x∈b.toList,leOf L x z) (hQ:∀r st',Res (leOf L) a.toList b.toList r.toList->Like st st'->Q r st'):wpS M A E s (zfM a b) Q st:=by
 rw[zi0];have atA:∀i,i<a.size->∃x,a[i]?=some x:=λi h=>⟨a[i],by simp[h]⟩
 have atB:∀i,i<b.size->∃x,b[i]?=some x:=λi h=>⟨b[i],by simp[h]⟩
 obtain⟨b0,e0⟩:=atB 0 hb;have m0:MI (leOf L) a.toList b.toList (#[b0]:Array Keyed).toList 0 1:=MI.start T.sb (by simpa using e0) (h0 b0 e0);refine Ag (wpS_lift (CM ⟨rfl,?_⟩));refine Ag (zav e0 ?_)
 by_cases hb1:b.size=1
 .rw[if_pos (by simp[hb1])];exact As (hQ _ _ (zd0 T m0 (by lia)) (Like.refl _))
 rw[if_neg (by simp;lia)]
 by_cases ha1:a.size=1
 .rw[if_pos (by simp[ha1])];exact As (hQ _ _ (zdZ T hl m0 (by lia)) (Like.refl _))
 rw[if_neg (by simp;lia)];refine Ag (DY ?_)
 refine Ag (Ch (Br (I:=λx c st'=>Like st st'/\∃out ia ib mg,c=(none,out,ia,ib,mg)/\MI (leOf L) a.toList b.toList out.toList ia ib/\ia+1<a.size/\ib<b.size/\x+1<=ia+ib)
  (Q:=λc st'=>Like st st'/\∃r,c.1=some r/\Res (leOf L) a.toList b.toList r.toList) ?step ?fin ⟨Like.refl _,_,_,_,_,rfl,m0,by lia,by lia,by lia⟩) ?post)
 case fin =>
  rintro c st' ⟨_,out,ia,ib,mg,rfl,m,g1,g2,g3⟩;exact absurd g3 (by lia)
 case post =>
  rintro c st' ⟨lk,r,e,res⟩;rw[e];exact As (hQ r st' res lk)
 case step =>
  rintro x c st' _ hx ⟨lk,out,ia,ib,mg,rfl,m,g1,g2,g3⟩;exact zk8 O T (lk.1.trans hk) hl m g1 g2 (λz' h r _ _ _ _ e=>⟨Like.tr lk h,r,rfl,e⟩) λz' h _ _ _ _ e u1 u2 u3=>⟨Like.tr lk h,_,_,_,_,rfl,e,u1,u2,by lia⟩
end
end TS
set_option maxHeartbeats 8000000
namespace TS
open PySem PyProof.Rows
section
variable {α:Type}{le:α->α->Prop}
structure MJ (le:α->α->Prop) (a b r:List α) (na nb:Nat):Prop where
 ha:na<=a.length
 hb:nb<=b.length
 perm:(a.take na++b.take nb++r).Perm (a++b)
 sorted:r.Pairwise le
 lea:∀x∈a.take na,∀y∈r,le x y
 leb:∀x∈b.take nb,∀y∈r,le x y
theorem ze1(a:List α)(i n:Nat)(h:i<=n):a.take n=a.take i++(a.drop i).take (n-i):=by rw[<- List.take_add,show i+(n-i)=n by lia]
theorem MJ.takeA{a b r:List α}{na nb:Nat}(m:MJ le a b r na nb)(sa:a.Pairwise le)(i:Nat)(hi:i <= na)(h:∀x ∈ b.take nb, ∀y ∈ (a.drop i).take (na-i), le x y) :
  MJ le a b ((a.drop i).take (na-i)++r) i nb:=by
 have e:=ze1 a i na hi;have sd:(a.take i++(a.drop i).take (na-i)).Pairwise le:=by rw[<- e];exact sa.sublist (B7 _ _)
 obtain⟨s1,s2,s3⟩:=AW.mp sd;refine⟨A3 hi m.ha,m.hb,?_,AW.mpr ⟨s2,m.sorted,λx hx y hy=>m.lea x (by rw[e];exact Av _ hx) y hy⟩,λx hx y hy=>?_,λx hx y hy=>?_⟩
 .have:=m.perm;rw[e]at this;refine List.Perm.trans ?_ this;rw[AL,AL,AL,<- AL (b.take nb),<- AL ((a.drop i).take (na-i))];exact List.Perm.append_left _ (List.Perm.append_right _ CQ)
 .rcases AQ.mp hy with q |q
  .exact s3 x hx y q
  .exact m.lea x (by rw[e];exact B4 _ hx) y q
 .rcases AQ.mp hy with q |q
  .exact h x hx y q
  .exact m.leb x hx y q
theorem MJ.takeB{a b r:List α}{na nb:Nat}(m:MJ le a b r na nb)(sb:b.Pairwise le)(i:Nat)(hi:i <= nb)(h:∀x ∈ a.take na, ∀y ∈ (b.drop i).take (nb-i), le x y) :
  MJ le a b ((b.drop i).take (nb-i)++r) na i:=by
 have e:=ze1 b i nb hi;have sd:(b.take i++(b.drop i).take (nb-i)).Pairwise le:=by rw[<- e];exact sb.sublist (B7 _ _)
 obtain⟨s1,s2,s3⟩:=AW.mp sd;refine⟨m.ha,A3 hi m.hb,?_,AW.mpr ⟨s2,m.sorted,λx hx y hy=>m.leb x (by rw[e];exact Av _ hx) y hy⟩,λx hx y hy=>?_,λx hx y hy=>?_⟩
 .have:=m.perm;rw[e]at this;simpa[AL]using this
 .rcases AQ.mp hy with q |q
  .exact h x hx y q
  .exact m.lea x hx y q
 .rcases AQ.mp hy with q |q
  .exact s3 x hx y q
  .exact m.leb x (by rw[e];exact B4 _ hx) y q
theorem MJ.doneB{a b r:List α}{nb:Nat}(m:MJ le a b r 0 nb)(sb:b.Pairwise le):Res le a b (a.take 0++b.take nb++r) :=
 ⟨m.perm,by rw[List.take_zero,List.nil_append];exact AW.mpr ⟨sb.sublist (B7 _ _),m.sorted,m.leb⟩⟩
theorem MJ.doneA{a b r:List α}{na:Nat}(m:MJ le a b r na 0)(sa:a.Pairwise le):Res le a b (a.take na++b.take 0++r) :=
 ⟨m.perm,by rw[List.take_zero,Bf];exact AW.mpr ⟨sa.sublist (B7 _ _),m.sorted,m.lea⟩⟩
theorem MJ.firstB{a b r:List α}{na nb:Nat}(m:MJ le a b r na nb)(sa:a.Pairwise le)(sb:b.Pairwise le)(h:∀x∈b.take nb,∀y∈a.take na,le x y):Res le a b (b.take nb++a.take na++r):=by
 refine⟨List.Perm.trans (List.Perm.append_right _ CQ) m.perm,?_⟩;refine AW.mpr ⟨AW.mpr ⟨sb.sublist (B7 _ _),sa.sublist (B7 _ _),h⟩,m.sorted,λx hx y hy=>?_⟩;rcases AQ.mp hx with q |q
 .exact m.leb x q y hy
 .exact m.lea x q y hy
end
end TS
set_option maxHeartbeats 8000000
namespace TS
open PySem PyProof.Rows
section
variable {M:DM}{A:AM}{E:Value->Ac->Prop}{s:Ac}{kd:CN}{S:Keyed->Prop}{L:Keyed->Keyed->Bool}{a b out:Array Keyed}{na nb:Nat}
theorem zfT{a:Array Keyed}(O:LtOk M A E s kd S L)(sa:a.toList.Pairwise (leOf L))(Sa:∀x∈a.toList,S x){i:Nat}{x y:Keyed}(h:a[i]?=some x)(hy:y∈a.toList.take (i+1)):leOf L y x:=by
 have hi:i<a.toList.length:=by have:=(A0.mp h).1;rw[AH];exact this
 have e:a.toList.take (i+1)=a.toList.take i++[x]:=by
  rw[DF];have:a.toList[i]?=some x:=by simpa using h
  rw[this];rfl
 rw[e]at hy;rcases AQ.mp hy with q |q
 .have:=sa.sublist (B7 (i+1) _);rw[e]at this;exact (AW.mp this).2.2 y q x Ax
 .rw[Aj.mp q];exact O.rf (Sa x (zao h))
theorem zeA{a:Array Keyed}{i:Nat}{x:Keyed}(h:a[i]?=some x):(a.toList.drop i).take (i+1-i)=[x]:=by rw[zb5 h,show i+1-i=1 by lia];rfl
theorem znk(O:LtOk M A E s kd S L)(T:Two S L a b)(m:MJ (leOf L) a.toList b.toList out.reverse.toList (na + 1) (nb + 1)){x y:Keyed}(hb:b[nb]? = some x)(ha:a[na]? = some y)(h:L x y=true) :
  MJ (leOf L) a.toList b.toList (out.push y).reverse.toList na (nb+1):=by
 have:=m.takeA T.sa na (C7 _) λz hz w hw=>by rw[zeA ha]at hw;rw[Aj.mp hw];exact O.tr z x y (T.Sb z (B5 hz)) (T.Sb x (zao hb)) (T.Sa y (zao ha)) (zfT O T.sb T.Sb hb hz) (O.as x y (T.Sb x (zao hb)) (T.Sa y (zao ha)) h)
 rw[zeA ha]at this;simpa using this
theorem znj(O:LtOk M A E s kd S L)(T:Two S L a b)(m:MJ (leOf L) a.toList b.toList out.reverse.toList (na + 1) (nb + 1)){x y:Keyed}(hb:b[nb]? = some x)(ha:a[na]? = some y)(h:L x y=false) :
  MJ (leOf L) a.toList b.toList (out.push x).reverse.toList (na+1) nb:=by
 have:=m.takeB T.sb nb (C7 _) λz hz w hw=>by rw[zeA hb]at hw;rw[Aj.mp hw];exact O.tr z y x (T.Sa z (B5 hz)) (T.Sa y (zao ha)) (T.Sb x (zao hb)) (zfT O T.sa T.Sa ha hz) h
 rw[zeA hb]at this;simpa using this
theorem znC(O:LtOk M A E s kd S L)(T:Two S L a b)(m:MJ (leOf L) a.toList b.toList out.reverse.toList na (nb + 1)){x:Keyed}(hb:b[nb]? = some x)(i:Nat)(hi:i <= na)(h:∀j y, i <= j -> j < na -> a[j]? = some y -> L x y=true) :
  MJ (leOf L) a.toList b.toList (out++(a.extract i na).reverse).reverse.toList i (nb+1):=by
 have:=m.takeA T.sa i hi λz hz w hw=>by obtain⟨j,hj,e⟩:=zfP hw;exact O.tr z x w (T.Sb z (B5 hz)) (T.Sb x (zao hb)) (T.Sa w (zao e)) (zfT O T.sb T.Sb hb hz) (O.as x w (T.Sb x (zao hb)) (T.Sa w (zao e)) (h (i+j) w (by lia) (by lia) e))
 have e2:(out++(a.extract i na).reverse).reverse.toList=(a.toList.drop i).take (na-i)++out.reverse.toList:=by simp[CY,Ce]
 rw[e2];exact this
theorem znB(O:LtOk M A E s kd S L)(T:Two S L a b)(m:MJ (leOf L) a.toList b.toList out.reverse.toList (na + 1) nb){y:Keyed}(ha:a[na]? = some y)(i:Nat)(hi:i <= nb)(h:∀j x, i <= j -> j < nb -> b[j]? = some x -> L x y=false) :
  MJ (leOf L) a.toList b.toList (out++(b.extract i nb).reverse).reverse.toList (na+1) i:=by
 have:=m.takeB T.sb i hi λz hz w hw=>by obtain⟨j,hj,e⟩:=zfP hw;exact O.tr z y w (T.Sa z (B5 hz)) (T.Sa y (zao ha)) (T.Sb w (zao e)) (zfT O T.sa T.Sa ha hz) (h (i+j) w (by lia) (by lia) e)
 have e2:(out++(b.extract i nb).reverse).reverse.toList=(b.toList.drop i).take (nb-i)++out.reverse.toList:=by simp[CY,Ce]
 rw[e2];exact this
end
end TS
set_option maxHeartbeats 8000000
namespace TS
open PySem PyProof.Rows
section
variable {M:DM}{A:AM}{E:Value->Ac->Prop}{s:Ac}{kd:CN}{S:Keyed->Prop}{L:Keyed->Keyed->Bool}{a b out:Array Keyed}{na nb:Nat}
theorem zm7(O:LtOk M A E s kd S L)(T:Two S L a b){st:AJ}(hk:kindOf st=kd){x:Keyed}(Sx:S x){n:Nat}(hn:n <= a.size){Q:Option Nat -> AJ -> Prop}
  (hQ:∀k,k<=n->(∀j y,j<k->a[j]?=some y->L x y=false)->(∀j y,k<=j->j<n->a[j]?=some y->L x y=true)->Q (some k) st) {hint:Nat} (hh:hint<n) :
  wpS M A E s (zco false x a 0 n hint) Q st:=by
 have at_:∀i,i<n->∃y,a[0+i]?=some y:=λi h=>⟨a[0+i]'(by lia),by simp[show i<a.size by lia]⟩
 refine zbz (b:=λi=>!(a[0+i]?.elim false λy=>L x y)) O hk Sx (λi h=>?_) (λi j hij hj q=>?_) hh λk h1 h2 h3=>?_
 .obtain⟨y,e⟩:=at_ i h;exact⟨y,e,T.Sa y (zao e),by rw[if_neg (by simp),e];rfl⟩
 .obtain⟨y,e⟩:=at_ j hj;obtain⟨z,e2⟩:=at_ i (by lia);rw[e]at q;rw[e2];have q1:L x y=false:=by simpa using q
  have le1:leOf L z y:=zcF O T.sa T.Sa e2 (by
   have:y∈(a.toList.drop (0+i)).drop (j-i):=by rw[List.drop_drop,show 0+i+(j-i)=0+j by lia,zb5 e];exact Ax
   exact BB this)
  have:L x z=false:=O.tr z y x (T.Sa z (zao e2)) (T.Sa y (zao e)) Sx le1 q1;simpa using this
 .refine hQ k h1 (λj y hj e=>?_) (λj y hj hjn e=>?_)
  .have:=h2 j hj;rw[CF,e]at this;simpa using this
  .have:=h3 j hj hjn;rw[CF,e]at this;simpa using this
theorem zm6(O:LtOk M A E s kd S L)(T:Two S L a b){st:AJ}(hk:kindOf st=kd){y:Keyed}(Sy:S y){n:Nat}(hn:n <= b.size){Q:Option Nat -> AJ -> Prop}
  (hQ:∀k,k<=n->(∀j x,j<k->b[j]?=some x->L x y=true)->(∀j x,k<=j->j<n->b[j]?=some x->L x y=false)->Q (some k) st) {hint:Nat} (hh:hint<n) :
  wpS M A E s (zco true y b 0 n hint) Q st:=by
 have at_:∀i,i<n->∃x,b[0+i]?=some x:=λi h=>⟨b[0+i]'(by lia),by simp[show i<b.size by lia]⟩
 refine zbz (b:=λi=>b[0+i]?.elim false λx=>L x y) O hk Sy (λi h=>?_) (λi j hij hj q=>?_) hh λk h1 h2 h3=>?_
 .obtain⟨x,e⟩:=at_ i h;exact⟨x,e,T.Sb x (zao e),by rw[if_pos rfl,e];rfl⟩
 .obtain⟨x,e⟩:=at_ j hj;obtain⟨z,e2⟩:=at_ i (by lia);rw[e]at q;rw[e2];have q1:L x y=true:=q;show L z y=true
  have le1:leOf L z x:=zcF O T.sb T.Sb e2 (by
   have:x∈(b.toList.drop (0+i)).drop (j-i):=by rw[List.drop_drop,show 0+i+(j-i)=0+j by lia,zb5 e];exact Ax
   exact BB this)
  cases w:L z y with
  |true=>rfl
  |false =>
   have:L x y=false:=O.tr y z x Sy (T.Sb z (zao e2)) (T.Sb x (zao e)) w le1;rw[this]at q1;cases q1
 .refine hQ k h1 (λj x hj e=>?_) (λj x hj hjn e=>?_)
  .have:=h2 j hj;rw[CF,e]at this;exact this
  .have:=h3 j hj hjn;rw[CF,e]at this;exact this
theorem zbw(a:Array Keyed)(i:Nat):(a.extract 0 i).toList=a.toList.take i:=by rw[CY,Ce,List.drop_zero,Nat.sub_zero]
theorem end_A(T:Two S L a b)(m:MJ (leOf L) a.toList b.toList out.reverse.toList 0 nb):Res (leOf L) a.toList b.toList (a.extract 0 0++b.extract 0 nb++out.reverse).toList:=by rw[Be,Be,zbw,zbw];exact m.doneB T.sb
theorem znx(T:Two S L a b)(m:MJ (leOf L) a.toList b.toList out.reverse.toList na 0):Res (leOf L) a.toList b.toList (a.extract 0 na++b.extract 0 0++out.reverse).toList:=by rw[Be,Be,zbw,zbw];exact m.doneA T.sa
theorem end_B (T:Two S L a b) (h0:∀ y,b[0]?=some y→∀ x∈a.toList,leOf L y x) (m:MJ (leOf L) a.toList b.toList out.reverse.toList na 1):Res (leOf L) a.toList b.toList (b.extract 0 1++a.extract 0 na++out.reverse).toList:=by
  rw[Be,Be,zbw,zbw]
  refine m.firstB T.sa T.sb λx hx y hy=>?_
  cases hb:b.toList with
  | nil=>rw[hb] at hx;cases hx
  | cons z r =>
    rw[hb] at hx
    have e:x=z:=Aj.mp hx
    subst e
    exact h0 x (by have : b.toList[0]? = some x := by rw[hb]; rfl
                   simpa using this) y (B5 hy)
end
end TS
set_option maxHeartbeats 8000000
namespace TS
open PySem PyProof.Rows
section
variable {M:DM}{A:AM}{E:Value->Ac->Prop}{s:Ac}{kd:CN}{S:Keyed->Prop}{L:Keyed->Keyed->Bool}{a b out:Array Keyed}{na nb:Nat}
theorem lastA(O:LtOk M A E s kd S L)(T:Two S L a b)(h1:0<na)(h2:0<nb)(m:MJ (leOf L) a.toList b.toList out.reverse.toList na nb){x y:Keyed}(hb:b[nb-1]?=some x)(ha:a[na-1]?=some y)(h:L x y=true):MJ (leOf L) a.toList b.toList (out.push y).reverse.toList (na-1) nb:=by obtain⟨p,rfl⟩:∃p,na=p+1:=⟨na-1,by lia⟩;obtain⟨q,rfl⟩:∃q,nb=q+1:=⟨nb-1,by lia⟩;exact znk O T m hb ha h
theorem lastB(O:LtOk M A E s kd S L)(T:Two S L a b)(h1:0<na)(h2:0<nb)(m:MJ (leOf L) a.toList b.toList out.reverse.toList na nb){x y:Keyed}(hb:b[nb-1]?=some x)(ha:a[na-1]?=some y)(h:L x y=false):MJ (leOf L) a.toList b.toList (out.push x).reverse.toList na (nb-1):=by obtain⟨p,rfl⟩:∃p,na=p+1:=⟨na-1,by lia⟩;obtain⟨q,rfl⟩:∃q,nb=q+1:=⟨nb-1,by lia⟩;exact znj O T m hb ha h
theorem backA(O:LtOk M A E s kd S L)(T:Two S L a b)(h2:0<nb)(m:MJ (leOf L) a.toList b.toList out.reverse.toList na nb){x:Keyed}(hb:b[nb-1]?=some x)(i:Nat)(hi:i<=na)(h:∀j y,i<=j->j<na->a[j]?=some y->L x y=true):MJ (leOf L) a.toList b.toList (out++(a.extract i na).reverse).reverse.toList i nb:=by obtain⟨q,rfl⟩:∃q,nb=q+1:=⟨nb-1,by lia⟩;exact znC O T m hb i hi h
theorem backB(O:LtOk M A E s kd S L)(T:Two S L a b)(h1:0<na)(m:MJ (leOf L) a.toList b.toList out.reverse.toList na nb){y:Keyed}(ha:a[na-1]?=some y)(i:Nat)(hi:i<=nb)(h:∀j x,i<=j->j<nb->b[j]?=some x->L x y=false):MJ (leOf L) a.toList b.toList (out++(b.extract i nb).reverse).reverse.toList na i:=by obtain⟨p,rfl⟩:∃p,na=p+1:=⟨na-1,by lia⟩;exact znB O T m ha i hi h
noncomputable abbrev RH:=Option (Array Keyed)×Nat×Nat×Array Keyed×Nat×Nat×Nat
noncomputable def hiC(a b:Array Keyed)(na nb:Nat)(out:Array Keyed)(mg ac bc:Nat):StateT AJ Sem (ForInStep RH) :=
 elem' a (na-1) >>= λx =>
  if (na-1 == 0)=true then pure (.done (some (a.extract 0 (na-1)++b.extract 0 nb++(out.push x).reverse),na-1,nb,out.push x,mg,ac,bc))
  else if (decide (ac<7) && decide (bc<7))=true then pure (.done (none,na-1,nb,out.push x,mg,ac,bc))
  else pure (.yield (none,na-1,nb,out.push x,mg,ac,bc))
noncomputable def hiB(a b:Array Keyed)(na nb:Nat)(out:Array Keyed)(mg ac bc:Nat):StateT AJ Sem (ForInStep RH) :=
 elem' b (nb-1) >>= λx =>
  if (nb-1 == 1)=true then pure (.done (some (b.extract 0 (nb-1)++a.extract 0 na++(out.push x).reverse),na,nb-1,out.push x,mg,ac,bc))
  else elem' a (na-1) >>= λy=>zco true y b 0 (nb-1) (nb-1-1) >>= λw =>
   match w with
   |some t =>
    if nb-1-t > 0 then
     if (t == 1)=true then pure (.done (some (b.extract 0 t++a.extract 0 na++(out.push x++(b.extract t (nb-1)).reverse).reverse),na,t,out.push x++(b.extract t (nb-1)).reverse,mg,ac,nb-1-t))
     else if (t == 0)=true then pure (.done (some (a.extract 0 na++b.extract 0 t++(out.push x++(b.extract t (nb-1)).reverse).reverse),na,t,out.push x++(b.extract t (nb-1)).reverse,mg,ac,nb-1-t))
     else hiC a b na t (out.push x++(b.extract t (nb-1)).reverse) mg ac (nb-1-t)
    else hiC a b na (nb-1) (out.push x) mg ac (nb-1-t)
   |_=>pure (.done (some (a.extract 0 na++b.extract 0 (nb-1)++(out.push x).reverse),na,nb-1,out.push x,mg,ac,bc))
noncomputable def hiA(a b:Array Keyed)(na nb:Nat)(out:Array Keyed)(mg ac bc:Nat):StateT AJ Sem (ForInStep RH) :=
 elem' b (nb-1) >>= λx=>zco false x a 0 na (na-1) >>= λw =>
  match w with
  |some t =>
   if na-t > 0 then
    if (t == 0)=true then pure (.done (some (a.extract 0 t++b.extract 0 nb++(out++(a.extract t na).reverse).reverse),t,nb,out++(a.extract t na).reverse,mg,na-t,bc))
    else hiB a b t nb (out++(a.extract t na).reverse) mg (na-t) bc
   else hiB a b na nb out mg (na-t) bc
  |_=>pure (.done (some (a.extract 0 na++b.extract 0 nb++out.reverse),na,nb,out,mg,ac,bc))
noncomputable def hiG(a b:Array Keyed)(c:RH):StateT AJ Sem (ForInStep RH) :=
 if c.2.2.2.2.1 > 1 then ze8 (c.2.2.2.2.1-1) >>= λ_=>hiA a b c.2.1 c.2.2.1 c.2.2.2.1 (c.2.2.2.2.1-1) c.2.2.2.2.2.1 c.2.2.2.2.2.2
 else ze8 c.2.2.2.2.1 >>= λ_=>hiA a b c.2.1 c.2.2.1 c.2.2.2.1 c.2.2.2.2.1 c.2.2.2.2.2.1 c.2.2.2.2.2.2
noncomputable abbrev RI:=Option (Array Keyed)×Nat×Nat×Array Keyed×Nat×Nat
noncomputable def hiI(a b:Array Keyed)(mg:Nat)(c:RI):StateT AJ Sem (ForInStep RI) :=
 elem' b (c.2.2.1-1) >>= λx=>elem' a (c.2.1-1) >>= λy=>lt' x y >>= λw =>
  match w with
  |some v =>
   if v=true then elem' a (c.2.1-1) >>= λy =>
    if (c.2.1-1 == 0)=true then pure (.done (some (a.extract 0 (c.2.1-1)++b.extract 0 c.2.2.1++(c.2.2.2.1.push y).reverse),c.2.1-1,c.2.2.1,c.2.2.2.1.push y,c.2.2.2.2.1+1,0))
    else if c.2.2.2.2.1+1 ≥ mg then pure (.done (none,c.2.1-1,c.2.2.1,c.2.2.2.1.push y,c.2.2.2.2.1+1,0))
    else pure (.yield (none,c.2.1-1,c.2.2.1,c.2.2.2.1.push y,c.2.2.2.2.1+1,0))
   else elem' b (c.2.2.1-1) >>= λx =>
    if (c.2.2.1-1 == 1)=true then pure (.done (some (b.extract 0 (c.2.2.1-1)++a.extract 0 c.2.1++(c.2.2.2.1.push x).reverse),c.2.1,c.2.2.1-1,c.2.2.2.1.push x,0,c.2.2.2.2.2+1))
    else if c.2.2.2.2.2+1 ≥ mg then pure (.done (none,c.2.1,c.2.2.1-1,c.2.2.2.1.push x,0,c.2.2.2.2.2+1))
    else pure (.yield (none,c.2.1,c.2.2.1-1,c.2.2.2.1.push x,0,c.2.2.2.2.2+1))
  |_=>pure (.done (some (a.extract 0 c.2.1++b.extract 0 c.2.2.1++c.2.2.2.1.reverse),c.2.1,c.2.2.1,c.2.2.2.1,c.2.2.2.2.1,c.2.2.2.2.2))
noncomputable abbrev RO:=Option (Array Keyed)×Nat×Nat×Array Keyed×Nat
noncomputable def hiP(a b:Array Keyed)(mg:Nat)(c:RI):StateT AJ Sem (ForInStep RO) :=
 CO (λ_=>StateT AJ Sem (ForInStep RO)) c.1 (λr=>pure (.done (some r,c.2.1,c.2.2.1,c.2.2.2.1,mg))) λ_=>(liftM (rule "list.sort.gallop"):StateT AJ Sem Unit) >>= λ_=>forIn [:a.size+b.size] ((none,c.2.1,c.2.2.1,c.2.2.2.1,mg+1,c.2.2.2.2.1,c.2.2.2.2.2):RH) (λ_ c=>hiG a b c) >>= λc =>
  CO (λ_=>StateT AJ Sem (ForInStep RO)) c.1 (λr=>pure (.done (some r,c.2.1,c.2.2.1,c.2.2.2.1,c.2.2.2.2.1))) λ_=>ze8 (c.2.2.2.2.1+1) >>= λ_=>pure (.yield (none,c.2.1,c.2.2.1,c.2.2.2.1,c.2.2.2.2.1+1))
noncomputable def hiO(a b:Array Keyed)(c:RO):StateT AJ Sem (ForInStep RO) :=
 forIn [:a.size+b.size] ((none,c.2.1,c.2.2.1,c.2.2.2.1,0,0):RI) (λ_ d=>hiI a b c.2.2.2.2 d) >>= λd=>hiP a b c.2.2.2.2 d
noncomputable def zk6(a b:Array Keyed):StateT AJ Sem (Array Keyed) :=
 (liftM (rule "list.sort.merge-hi"):StateT AJ Sem Unit) >>= λ_=>elem' a (a.size-1) >>= λx =>
  if (a.size-1 == 0)=true then pure (a.extract 0 (a.size-1)++b.extract 0 b.size++#[x].reverse)
  else if (b.size == 1)=true then pure (b.extract 0 b.size++a.extract 0 (a.size-1)++#[x].reverse)
  else get >>= λs=>forIn [:a.size+b.size] ((none,a.size-1,b.size,#[x],gallopOf s):RO) (λ_ c=>hiO a b c) >>= λc =>
   CO (λ_=>StateT AJ Sem (Array Keyed)) c.1 (λr=>pure r) λ_=>unsupported "internal:list.sort.merge-bound"
theorem zi1(a b:Array Keyed):zfN a b=zk6 a b:=rfl
variable {Q:ForInStep RH->AJ->Prop}{z:AJ}{N mg ac bc:Nat}{x y:Keyed}
theorem ziq(O:LtOk M A E s kd S L)(T:Two S L a b)(hD:∀r na nb out mg ac bc, Res (leOf L) a.toList b.toList r.toList -> Q (.done (some r, na, nb, out, mg, ac, bc)) z)
  (hN:∀na nb out mg ac bc,MJ (leOf L) a.toList b.toList out.reverse.toList na nb->0<na->1<nb->na+nb<=N->na<=a.size->nb<=b.size->Q (.done (none,na,nb,out,mg,ac,bc)) z/\Q (.yield (none,na,nb,out,mg,ac,bc)) z)
  (m:MJ (leOf L) a.toList b.toList out.reverse.toList na nb) (ea:a[na-1]?=some y) (eb:b[nb-1]?=some x) (hw:L x y=true) (g1:0<na) (g2:1<nb) (g3:na+nb<=N) (g4:na<=a.size) (g5:nb<=b.size) :
  wpS M A E s (hiC a b na nb out mg ac bc) Q z:=by
 have n4:=lastA O T g1 (by lia) m eb ea hw;refine Ag (zav ea ?_)
 by_cases e:na-1=0
 .rw[if_pos (by simp[e])];rw[e]at n4;rw[e];exact As (hD _ _ _ _ _ _ _ (end_A T n4))
 rw[if_neg (by simp[e])];have h:=hN _ _ _ mg ac bc n4 (by lia) g2 (by lia) (by lia) g5;split
 .exact As h.1
 .exact As h.2
theorem zir(O:LtOk M A E s kd S L)(T:Two S L a b)(hk:kindOf z=kd)(h0:∀y, b[0]? = some y -> ∀x ∈ a.toList, leOf L y x)(hD:∀r na nb out mg ac bc, Res (leOf L) a.toList b.toList r.toList -> Q (.done (some r, na, nb, out, mg, ac, bc)) z)
  (hN:∀na nb out mg ac bc,MJ (leOf L) a.toList b.toList out.reverse.toList na nb->0<na->1<nb->na+nb<=N->na<=a.size->nb<=b.size->Q (.done (none,na,nb,out,mg,ac,bc)) z/\Q (.yield (none,na,nb,out,mg,ac,bc)) z)
  (m:MJ (leOf L) a.toList b.toList out.reverse.toList na nb) (ea:a[na-1]?=some y) (eb:b[nb-1]?=some x) (hw:L x y=false) (g1:0<na) (g2:1<nb) (g3:na+nb<=N) (g4:na<=a.size) (g5:nb<=b.size) :
  wpS M A E s (hiB a b na nb out mg ac bc) Q z:=by
 have n2:=lastB O T g1 (by lia) m eb ea hw;refine Ag (zav eb ?_)
 by_cases e3:nb-1=1
 .rw[if_pos (by simp[e3])];rw[e3]at n2;rw[e3];exact As (hD _ _ _ _ _ _ _ (end_B T h0 n2))
 rw[if_neg (by simp[e3])];refine Ag (zav ea ?_);refine Ag (zm6 O T hk (T.Sa _ (zao ea)) (by lia) (λt r1 r2 r3=>?_) (by lia));dsimp only
 by_cases hk1:nb-1-t > 0
 .rw[if_pos hk1];have n3:=backB O T g1 n2 ea t r1 r3
  by_cases e4:t=1
  .rw[if_pos (by simp[e4])];rw[e4]at n3;rw[e4];exact As (hD _ _ _ _ _ _ _ (end_B T h0 n3))
  rw[if_neg (by simp[e4])]
  by_cases e6:t=0
  .rw[if_pos (by simp[e6])];rw[e6]at n3;rw[e6];exact As (hD _ _ _ _ _ _ _ (znx T n3))
  rw[if_neg (by simp[e6])];have hl:t-1<b.size:=by lia
  exact ziq O T hD hN n3 ea (by simp[hl]) (r2 (t-1) b[t-1] (by lia) (by simp[hl])) g1 (by lia) (by lia) g4 (by lia)
 rw[if_neg hk1];have hl:nb-1-1<b.size:=by lia
 exact ziq O T hD hN n2 ea (by simp[hl]) (r2 (nb-1-1) b[nb-1-1] (by lia) (by simp[hl])) g1 (by lia) (by lia) g4 (by lia)
theorem zlk(O:LtOk M A E s kd S L)(T:Two S L a b)(hk:kindOf z=kd)(h0:∀y, b[0]? = some y -> ∀x ∈ a.toList, leOf L y x)(hD:∀r na nb out mg ac bc, Res (leOf L) a.toList b.toList r.toList -> Q (.done (some r, na, nb, out, mg, ac, bc)) z)
  (hN:∀na nb out mg ac bc,MJ (leOf L) a.toList b.toList out.reverse.toList na nb->0<na->1<nb->na+nb<=N->na<=a.size->nb<=b.size->Q (.done (none,na,nb,out,mg,ac,bc)) z/\Q (.yield (none,na,nb,out,mg,ac,bc)) z)
  (m:MJ (leOf L) a.toList b.toList out.reverse.toList na nb) (g1:0<na) (g2:1<nb) (g3:na+nb<=N) (g4:na<=a.size) (g5:nb<=b.size) :
  wpS M A E s (hiA a b na nb out mg ac bc) Q z:=by
 have hb:nb-1<b.size:=by lia
 have eb:b[nb-1]?=some b[nb-1]:=by simp[hb]
 refine Ag (zav eb ?_);refine Ag (zm7 O T hk (T.Sb _ (zao eb)) g4 (λt q1 q2 q3=>?_) (by lia));dsimp only
 by_cases hk0:na-t > 0
 .rw[if_pos hk0];have n1:=backA O T (by lia) m eb t q1 q3
  by_cases e1:t=0
  .rw[if_pos (by simp[e1])];rw[e1]at n1;rw[e1];exact As (hD _ _ _ _ _ _ _ (end_A T n1))
  rw[if_neg (by simp[e1])];have hl:t-1<a.size:=by lia
  exact zir O T hk h0 hD hN n1 (by simp[hl]) eb (q2 (t-1) a[t-1] (by lia) (by simp[hl])) (by lia) g2 (by lia) (by lia) g5
 rw[if_neg hk0];have hl:na-1<a.size:=by lia
 exact zir O T hk h0 hD hN m (by simp[hl]) eb (q2 (na-1) a[na-1] (by lia) (by simp[hl])) g1 g2 g3 g4 g5
theorem zli{Q:ForInStep RI -> AJ -> Prop}(O:LtOk M A E s kd S L)(T:Two S L a b)(hk:kindOf z=kd)(h0:∀y, b[0]? = some y -> ∀x ∈ a.toList, leOf L y x)(m:MJ (leOf L) a.toList b.toList out.reverse.toList na nb)(g1 : 0 < na)(g2 : 1 < nb)(g4:na <= a.size)(g5:nb <= b.size)
  (hD:∀r na nb out ac bc,Res (leOf L) a.toList b.toList r.toList->Q (.done (some r,na,nb,out,ac,bc)) z)
  (hN:∀na' nb' out ac bc,MJ (leOf L) a.toList b.toList out.reverse.toList na' nb'->0<na'->1<nb'->na'+nb'+1<=na+nb->na'<=a.size->nb'<=b.size->Q (.done (none,na',nb',out,ac,bc)) z/\Q (.yield (none,na',nb',out,ac,bc)) z) :
  wpS M A E s (hiI a b mg (none,na,nb,out,ac,bc)) Q z:=by
 obtain⟨xb,eb⟩:∃x,b[nb-1]?=some x:=⟨b[nb-1]'(by lia),by simp[show nb-1<b.size by lia]⟩;obtain⟨xa,ea⟩:∃x,a[na-1]?=some x:=⟨a[na-1]'(by lia),by simp[show na-1<a.size by lia]⟩;refine Ag (zav eb (Ag (zav ea (Ag (O.lt xb xa (T.Sb _ (zao eb)) (T.Sa _ (zao ea)) _ _ hk ?_)))));dsimp only
 cases hw:L xb xa with
 |true =>
  rw[if_pos rfl];have m2:=lastA O T g1 (by lia) m eb ea hw;refine Ag (zav ea ?_)
  by_cases e:na-1=0
  .rw[if_pos (by simp[e])];rw[e]at m2;rw[e];exact As (hD _ _ _ _ _ _ (end_A T m2))
  rw[if_neg (by simp[e])];have h:=hN _ _ _ (ac+1) 0 m2 (by lia) g2 (by lia) (by lia) g5;split
  .exact As h.1
  .exact As h.2
 |false =>
  rw[if_neg (by simp)];have m2:=lastB O T g1 (by lia) m eb ea hw;refine Ag (zav eb ?_)
  by_cases e:nb-1=1
  .rw[if_pos (by simp[e])];rw[e]at m2;rw[e];exact As (hD _ _ _ _ _ _ (end_B T h0 m2))
  rw[if_neg (by simp[e])];have h:=hN _ _ _ 0 (bc+1) m2 g1 (by lia) (by lia) g4 (by lia);split
  .exact As h.1
  .exact As h.2
theorem zlj(O:LtOk M A E s kd S L)(T:Two S L a b)(hk:kindOf z=kd)(h0:∀y, b[0]? = some y -> ∀x ∈ a.toList, leOf L y x)(hD:∀z', Like z z' -> ∀r na nb out mg ac bc, Res (leOf L) a.toList b.toList r.toList -> Q (.done (some r, na, nb, out, mg, ac, bc)) z')
  (hN:∀z',Like z z'->∀na nb out mg ac bc,MJ (leOf L) a.toList b.toList out.reverse.toList na nb->0<na->1<nb->na+nb<=N->na<=a.size->nb<=b.size->Q (.done (none,na,nb,out,mg,ac,bc)) z'/\Q (.yield (none,na,nb,out,mg,ac,bc)) z')
  (m:MJ (leOf L) a.toList b.toList out.reverse.toList na nb) (g1:0<na) (g2:1<nb) (g3:na+nb<=N) (g4:na<=a.size) (g5:nb<=b.size) :
  wpS M A E s (hiG a b (none,na,nb,out,mg,ac,bc)) Q z:=by
 have key:∀z',Like z z'->∀mg,wpS M A E s (hiA a b na nb out mg ac bc) Q z':=λz' h mg=>zlk O T (h.1.trans hk) h0 (hD z' h) (hN z' h) m g1 g2 g3 g4 g5
 unfold hiG;split
 .exact Ag (BQ (key _ (by exact Like.refl z) _))
 .exact Ag (BQ (key _ (by exact Like.refl z) _))
theorem zlg{Q:ForInStep RO -> AJ -> Prop}(O:LtOk M A E s kd S L)(T:Two S L a b)(hk:kindOf z=kd)(h0:∀y, b[0]? = some y -> ∀x ∈ a.toList, leOf L y x)(m:MJ (leOf L) a.toList b.toList out.reverse.toList na nb)(g1 : 0 < na)(g2 : 1 < nb)(g3:na + nb <= N)(g4:na <= a.size)(g5:nb <= b.size)
  (hD:∀z',Like z z'->∀r na nb out mg,Res (leOf L) a.toList b.toList r.toList->Q (.done (some r,na,nb,out,mg)) z')
  (hN:∀z',Like z z'->∀na nb out mg,MJ (leOf L) a.toList b.toList out.reverse.toList na nb->0<na->1<nb->na+nb<=N->na<=a.size->nb<=b.size->Q (.yield (none,na,nb,out,mg)) z') :
  wpS M A E s (hiP a b mg (none,na,nb,out,ac,bc)) Q z:=by
 refine Ag (wpS_lift (CM ⟨rfl,?_⟩))
 refine Ag (Ch (Br (I:=λy c w=>Like z w/\∃na nb out mg ac bc,c=(none,na,nb,out,mg,ac,bc)/\MJ (leOf L) a.toList b.toList out.reverse.toList na nb/\0<na/\1<nb/\na+nb<=N/\na<=a.size/\nb<=b.size)
  (Q:=λc w=>Like z w/\((∃r,c.1=some r/\Res (leOf L) a.toList b.toList r.toList)∨∃na nb out mg ac bc,c=(none,na,nb,out,mg,ac,bc)/\MJ (leOf L) a.toList b.toList out.reverse.toList na nb/\0<na/\1<nb/\na+nb<=N/\na<=a.size/\nb<=b.size)) ?_ ?_ ⟨Like.refl _,_,_,_,_,_,_,rfl,m,g1,g2,g3,g4,g5⟩) ?_)
 .rintro y c w _ hy ⟨lk,na,nb,out,mg,ac,bc,rfl,m,k1,k2,k3,k4,k5⟩;exact zlj O T (lk.1.trans hk) h0 (λw' h r _ _ _ _ _ _ e=>⟨Like.tr lk h,.inl ⟨r,rfl,e⟩⟩) (λw' h _ _ _ _ _ _ e u1 u2 u3 u4 u5=>⟨⟨Like.tr lk h,.inr ⟨_,_,_,_,_,_,rfl,e,u1,u2,u3,u4,u5⟩⟩,Like.tr lk h,_,_,_,_,_,_,rfl,e,u1,u2,u3,u4,u5⟩) m k1 k2 k3 k4 k5
 .rintro c w ⟨lk,r⟩;exact⟨lk,.inr r⟩
 .rintro c w ⟨lk,hc⟩;rcases hc with⟨r,e,res⟩ |⟨na,nb,out,mg,ac,bc,rfl,m,k1,k2,k3,k4,k5⟩
  .rw[e];exact As (hD w lk _ _ _ _ _ res)
  .exact Ag (BQ (As (hN _ (by exact lk) _ _ _ _ m k1 k2 k3 k4 k5)))
theorem zlh{Q:ForInStep RO -> AJ -> Prop}(O:LtOk M A E s kd S L)(T:Two S L a b)(hk:kindOf z=kd)(h0:∀y, b[0]? = some y -> ∀x ∈ a.toList, leOf L y x)(m:MJ (leOf L) a.toList b.toList out.reverse.toList na nb)(g1 : 0 < na)(g2 : 1 < nb)(g3:na + nb <= a.size + b.size)(g4:na <= a.size)(g5:nb <= b.size)
  (hD:∀z',Like z z'->∀r na nb out mg,Res (leOf L) a.toList b.toList r.toList->Q (.done (some r,na,nb,out,mg)) z')
  (hN:∀z',Like z z'->∀na' nb' out mg,MJ (leOf L) a.toList b.toList out.reverse.toList na' nb'->0<na'->1<nb'->na'+nb'+1<=na+nb->na'<=a.size->nb'<=b.size->Q (.yield (none,na',nb',out,mg)) z') :
  wpS M A E s (hiO a b (none,na,nb,out,mg)) Q z:=by
 refine Ag (Ch (Br (I:=λy c w=>w=z/\∃na' nb' out ac bc,c=(none,na',nb',out,ac,bc)/\MJ (leOf L) a.toList b.toList out.reverse.toList na' nb'/\0<na'/\1<nb'/\na'+nb'+y<=na+nb/\na'<=a.size/\nb'<=b.size)
  (Q:=λc w=>w=z/\((∃r,c.1=some r/\Res (leOf L) a.toList b.toList r.toList)∨∃na' nb' out ac bc,c=(none,na',nb',out,ac,bc)/\MJ (leOf L) a.toList b.toList out.reverse.toList na' nb'/\0<na'/\1<nb'/\na'+nb'+1<=na+nb/\na'<=a.size/\nb'<=b.size)) ?_ ?_ ⟨rfl,_,_,_,_,_,rfl,m,g1,g2,by lia,g4,g5⟩) ?_)
 .rintro y c w _ hy ⟨rfl,na',nb',out',ac,bc,rfl,m',j1,j2,j3,j4,j5⟩;exact zli O T hk h0 m' j1 j2 j4 j5 (λr _ _ _ _ _ e=>⟨rfl,.inl ⟨r,rfl,e⟩⟩) λ_ _ _ _ _ e u1 u2 u3 u4 u5=>⟨⟨rfl,.inr ⟨_,_,_,_,_,rfl,e,u1,u2,by lia,u4,u5⟩⟩,rfl,_,_,_,_,_,rfl,e,u1,u2,by lia,u4,u5⟩
 .rintro c w ⟨rfl,na',nb',out',ac,bc,rfl,m',j1,j2,j3,j4,j5⟩;exact⟨rfl,.inr ⟨na',nb',out',ac,bc,rfl,m',j1,j2,by lia,j4,j5⟩⟩
 .rintro c w ⟨rfl,hc⟩;rcases hc with⟨r,e,res⟩ |⟨na',nb',out',ac,bc,rfl,m',j1,j2,j3,j4,j5⟩
  .unfold hiP;rw[e];exact As (hD _ (Like.refl _) _ _ _ _ _ res)
  .exact zlg (N:=na'+nb') O T hk h0 m' j1 j2 (Ak _) j4 j5 hD λz' h _ _ _ _ e u1 u2 u3 u4 u5=>hN z' h _ _ _ _ e u1 u2 (by lia) u4 u5
end
section
variable {M:DM}{A:AM}{E:Value->Ac->Prop}{s:Ac}{kd:CN}{S:Keyed->Prop}{L:Keyed->Keyed->Bool}{a b:Array Keyed}
theorem zgR(O:LtOk M A E s kd S L)(T:Two S L a b){st:AJ}{Q:Array Keyed -> AJ -> Prop}(hk:kindOf st=kd)(ha : 0 < a.size)(hb : 0 < b.size)(h0:∀y, b[0]? = some y -> ∀x ∈ a.toList, leOf L y x)
  (hl:∀z,a[a.size-1]?=some z->∀x∈b.toList,leOf L x z) (hQ:∀r st',Res (leOf L) a.toList b.toList r.toList->Like st st'->Q r st'):wpS M A E s (zfN a b) Q st:=by
 rw[zi1];have atA:∀i,i<a.size->∃x,a[i]?=some x:=λi h=>⟨a[i],by simp[h]⟩
 have atB:∀i,i<b.size->∃x,b[i]?=some x:=λi h=>⟨b[i],by simp[h]⟩
 obtain⟨a1,e1⟩:=atA (a.size-1) (by lia);have mS:MJ (leOf L) a.toList b.toList (#[]:Array Keyed).reverse.toList a.size b.size:=⟨by simp,by simp,by rw[Di (by simp),Di (by simp)];simp,by simp,(λ_ _ _ h=>by simp at h),(λ_ _ _ h=>by simp at h)⟩
 have m0:MJ (leOf L) a.toList b.toList (#[a1]:Array Keyed).reverse.toList (a.size-1) b.size:=by
  have hc:=zeA e1;rw[show a.size-1+1=a.size by lia]at hc
  have:=mS.takeA T.sa (a.size-1) (by lia) λx hx y hy=>by rw[hc]at hy;rw[Aj.mp hy];exact hl a1 e1 x (B5 hx)
  rw[hc]at this;simpa using this
 refine Ag (wpS_lift (CM ⟨rfl,?_⟩));refine Ag (zav e1 ?_)
 by_cases ha1:a.size-1=0
 .rw[if_pos (by simp[ha1])];rw[ha1]at m0;rw[ha1];exact As (hQ _ _ (end_A T m0) (Like.refl _))
 rw[if_neg (by simp[ha1])]
 by_cases hb1:b.size=1
 .rw[if_pos (by simp[hb1])];rw[hb1]at m0;rw[hb1];exact As (hQ _ _ (end_B T h0 m0) (Like.refl _))
 rw[if_neg (by simp[hb1])];refine Ag (DY ?_)
 refine Ag (Ch (Br (I:=λx c st'=>Like st st'/\∃na nb out mg,c=(none,na,nb,out,mg)/\MJ (leOf L) a.toList b.toList out.reverse.toList na nb/\0<na/\1<nb/\na+nb+x+1<=a.size+b.size/\na<=a.size/\nb<=b.size)
  (Q:=λc st'=>Like st st'/\∃r,c.1=some r/\Res (leOf L) a.toList b.toList r.toList) ?step ?fin ⟨Like.refl _,_,_,_,_,rfl,m0,by lia,by lia,by lia,by lia,by lia⟩) ?post)
 case fin =>
  rintro c st' ⟨_,na,nb,out,mg,rfl,m,g1,g2,g3,g4,g5⟩;exact absurd g3 (by lia)
 case post =>
  rintro c st' ⟨lk,r,e,res⟩;rw[e];exact As (hQ r st' res lk)
 case step =>
  rintro x c st' _ hx ⟨lk,na,nb,out,mg,rfl,m,g1,g2,g3,g4,g5⟩;exact zlh O T (lk.1.trans hk) h0 m g1 g2 (by lia) g4 g5 (λz' h r _ _ _ _ e=>⟨Like.tr lk h,r,rfl,e⟩) λz' h _ _ _ _ e u1 u2 u3 u4 u5=>⟨Like.tr lk h,_,_,_,_,rfl,e,u1,u2,by lia,u4,u5⟩
end
end TS
namespace TS
open PySem PyProof.Rows
section
variable {M:DM}{A:AM}{E:Value->Ac->Prop}{s:Ac}{kd:CN}{S:Keyed->Prop}{L:Keyed->Keyed->Bool}
noncomputable def Seg(L:Keyed->Keyed->Bool)(a:Array Keyed)(lo n:Nat):Prop:=∀(i j:Nat) x y,i<=j->j<n->a[lo+i]?=some x->a[lo+j]?=some y->L y x=false
noncomputable def Rev(L:Keyed->Keyed->Bool)(a:Array Keyed)(lo n:Nat):Prop:=∀(i j:Nat) x y,i<=j->j<n->a[lo+i]?=some x->a[lo+j]?=some y->L x y=false
structure SB (kd:CN) (S:Keyed->Prop) (st0 st:AJ) (lo hi:Nat):Prop where
 kind:kindOf st=kd
 pend:AN st=AN st0
 fail:Cr st=Cr st0
 perm:(At st).Perm (At st0)
 out:∀k:Nat,k<lo∨hi<=k->(At st)[k]?=(At st0)[k]?
 all:∀(k:Nat) x,(At st)[k]?=some x->S x
theorem SB.size{st0 st:AJ}{lo hi:Nat}(h:SB kd S st0 st lo hi):(At st).size=(At st0).size:=h.perm.size_eq
theorem zeZ(O:LtOk M A E s kd S L){st:AJ}{i j:Nat}{x y:Keyed}{Q:Option Bool->AJ->Prop}(hk:kindOf st=kd)(hi:(At st)[i]?=some x)(hj:(At st)[j]?=some y)(sx:S x)(sy:S y)(q:Q (some (L x y)) st):wpS M A E s (ltAt' i j) Q st:=by rw[ltAt'_eq];refine Ag (DY ?_);refine Ag (zav hi ?_);refine Ag (zav hj ?_);exact O.lt x y sx sy st Q hk q
theorem zbs{st:AJ}{i:Nat}(h:i<(At st).size):∃x,(At st)[i]?=some x:=⟨(At st)[i],by simp[h]⟩
theorem Seg.more(O:LtOk M A E s kd S L){a:Array Keyed}{lo n:Nat}{x y:Keyed}(hS:∀(k:Nat) x,a[k]?=some x->S x)(h:Seg L a lo (n+1))(hx:a[lo+n]?=some x)(hy:a[lo+(n+1)]?=some y)(hl:L y x=false):Seg L a lo (n+2):=by
 intro i j u v hij hj hu hv;rcases AY j (n+1) with q |q
 .exact h i j u v hij q hu hv
 .have ej:j=n+1:=by lia
  subst ej;rw[hy]at hv
  cases hv
  rcases AY i (n+1) with q2 |q2
  .have h1:=h i n u x (by lia) (by lia) hu hx;exact O.tr u x y (hS _ _ hu) (hS _ _ hx) (hS _ _ hy) h1 hl
  .have ei:i=n+1:=by lia
   subst ei;rw[hy]at hu
   cases hu
   exact O.rf (hS _ _ hy)
noncomputable def Blk(L:Keyed->Keyed->Bool)(a:Array Keyed)(lo n q:Nat):Prop:=∀(i j:Nat) x y,n-(q+1)<=i->i<n->n-(q+1)<=j->j<n->a[lo+i]?=some x->a[lo+j]?=some y->L x y=false
theorem SB.refl{st:AJ}{lo hi:Nat}(hk:kindOf st=kd)(hS:∀(k:Nat) x,(At st)[k]?=some x->S x):SB kd S st st lo hi:=⟨hk,rfl,rfl,Array.Perm.refl _,λ_ _=>rfl,hS⟩
theorem SB.mir{st0 st:AJ}{lo hi i j:Nat}(h:SB kd S st0 st lo hi)(h1:lo<=i)(h2:j<=hi)(hz:j<=(At st).size):SB kd S st0 (setArr st (mirror (At st) i j ((j-i) / 2))) lo hi:=by
 refine⟨h.kind,h.pend,h.fail,(mirror_perm _ _ _ _).trans h.perm,λk hk=>?_,λk x hx=>?_⟩
 .show (mirror (At st) i j ((j-i) / 2))[k]?=_;rw[BO hz,if_neg (by lia)];exact h.out k hk
 .have hx':(mirror (At st) i j ((j-i) / 2))[k]?=some x:=hx;rw[BO hz]at hx';split at hx'
  .exact h.all _ x hx'
  .exact h.all _ x hx'
theorem Rev.blk{a:Array Keyed}{lo n q:Nat}(h:Rev L a lo n)(hb:Blk L a lo n q)(hq:q<n)(hz:lo+n<=a.size):Rev L (mirror a (lo+n-(q+1)) (lo+n) ((lo+n-(lo+n-(q+1))) / 2)) lo n:=by
 intro i j x y hij hj hx hy;rw[BO hz]at hx hy
 by_cases hi:lo+n-(q+1)<=lo+i/\lo+i<lo+n
 .rw[if_pos hi]at hx;rw[if_pos (by lia)]at hy;rw[show lo+n-(q+1)+(lo+n)-1-(lo+i)=lo+(n-(q+1)+n-1-i) by lia]at hx;rw[show lo+n-(q+1)+(lo+n)-1-(lo+j)=lo+(n-(q+1)+n-1-j) by lia]at hy;exact hb _ _ x y (by lia) (by lia) (by lia) (by lia) hx hy
 .rw[if_neg hi]at hx
  by_cases hj':lo+n-(q+1)<=lo+j/\lo+j<lo+n
  .rw[if_pos hj']at hy;rw[show lo+n-(q+1)+(lo+n)-1-(lo+j)=lo+(n-(q+1)+n-1-j) by lia]at hy;exact h i _ x y (by lia) (by lia) hx hy
  .rw[if_neg hj']at hy;exact h i j x y hij hj hx hy
theorem Rev.flip{a:Array Keyed}{lo n:Nat}(h:Rev L a lo n)(hz:lo+n<=a.size):Seg L (mirror a lo (lo+n) ((lo+n-lo) / 2)) lo n:=by intro i j x y hij hj hx hy;rw[BO hz,if_pos (by lia)]at hx hy;rw[show lo+(lo+n)-1-(lo+i)=lo+(n-1-i) by lia]at hx;rw[show lo+(lo+n)-1-(lo+j)=lo+(n-1-j) by lia]at hy;exact h _ _ y x (by lia) (by lia) hy hx
theorem Rev.more(O:LtOk M A E s kd S L){a:Array Keyed}{lo n:Nat}{x y:Keyed}(hS:∀(k:Nat) x,a[k]?=some x->S x)(h:Rev L a lo (n+1))(hx:a[lo+n]?=some x)(hy:a[lo+(n+1)]?=some y)(hl:L x y=false):Rev L a lo (n+2):=by
 intro i j u v hij hj hu hv;rcases AY j (n+1) with q |q
 .exact h i j u v hij q hu hv
 .have ej:j=n+1:=by lia
  subst ej;rw[hy]at hv
  cases hv
  rcases AY i (n+1) with q2 |q2
  .have h1:=h i n u x (by lia) (by lia) hu hx;exact O.tr y x u (hS _ _ hy) (hS _ _ hx) (hS _ _ hu) hl h1
  .have ei:i=n+1:=by lia
   subst ei;rw[hy]at hu
   cases hu
   exact O.rf (hS _ _ hy)
theorem Blk.more(O:LtOk M A E s kd S L){a:Array Keyed}{lo n q:Nat}{x y:Keyed}(hS:∀(k:Nat) x,a[k]?=some x->S x)(h:Blk L a lo (n+1) q)(hq:q<n+1)(hx:a[lo+n]?=some x)(hy:a[lo+(n+1)]?=some y)(h1:L x y=false)(h2:L y x=false):Blk L a lo (n+2) (q+1):=by
 have old:∀(i:Nat) u,n+1-(q+1)<=i->i<n+1->a[lo+i]?=some u->L u y=false/\L y u=false:=λi u a1 a2 hu=>by have e1:=h i n u x a1 a2 (by lia) (by lia) hu hx;have e2:=h n i x u (by lia) (by lia) a1 a2 hx hu;exact⟨O.tr y x u (hS _ _ hy) (hS _ _ hx) (hS _ _ hu) h1 e1,O.tr u x y (hS _ _ hu) (hS _ _ hx) (hS _ _ hy) e2 h2⟩
 intro i j u v a1 a2 b1 b2 hu hv;rcases AY i (n+1) with ci |ci
 .rcases AY j (n+1) with cj |cj
  .exact h i j u v (by lia) ci (by lia) cj hu hv
  .have ej:j=n+1:=by lia
   subst ej;rw[hy]at hv;cases hv;exact (old i u (by lia) ci hu).1
 .have ei:i=n+1:=by lia
  subst ei;rw[hy]at hu;cases hu;rcases AY j (n+1) with cj |cj
  .exact (old j v (by lia) cj hv).2
  .have ej:j=n+1:=by lia
   subst ej;rw[hy]at hv;cases hv;exact O.rf (hS _ _ hy)
theorem Blk.one(O:LtOk M A E s kd S L){a:Array Keyed}{lo n:Nat}(hS:∀(k:Nat) x,a[k]?=some x->S x):Blk L a lo (n+1) 0:=λi j x y a1 a2 b1 b2 hx hy=>by
 have ei:i=n:=by lia
 have ej:j=n:=by lia
 subst ei;subst ej;rw[hx]at hy;cases hy;exact O.rf (hS _ _ hx)
theorem zgk{B:Prop}{D:AJ->Prop}(C:AJ->Prop)(g:(∀st,D st->C st)->B)(h:∀st,D st->C st):B:=g h
theorem zf5 (O : LtOk M A E s kd S L){st : AJ}{lo nrem : Nat}{Q : Option Nat → AJ → Prop}(h1 : 1 ≤ nrem) (hz : lo + nrem ≤ (At st).size) (hk : kindOf st = kd) (hS : ∀ (k : Nat) x, (At st)[k]? = some x → S x)
    (hQ:∀ m st',SB kd S st st' lo (lo+nrem)→1≤m→m≤nrem→Seg L (At st') lo m→Q (some m) st'):wpS M A E s (countRun' lo nrem) Q st:=by
  rw[countRun'_eq]
  refine Ag (Ch (Br (I:=λx c st'=>c=(none,x)∧st'=st∧x≤nrem∧Seg L (At st) lo x)
    (Q:=λc st'=>∃ m,c=(none,m)∧st'=st∧1≤m∧m≤nrem∧Seg L (At st) lo m∧(m<nrem→∃ x y,(At st)[lo+m]?=some x∧(At st)[lo+m - 1]?=some y∧L x y=true)) ?step ?fin ?init) ?post)
  case init =>
    refine⟨rfl,rfl,h1,λi j x y hij hj hx hy=>?_⟩
    have ei:i=0:=by lia
    have ej:j=0:=by lia
    subst ei;subst ej
    rw[hx] at hy
    cases hy
    exact O.rf (hS _ _ hx)
  case fin =>
    rintro c st' ⟨rfl,rfl,hle,hsg⟩
    exact⟨_,rfl,rfl,by lia,hle,hsg,λh=>absurd h (by lia)⟩
  case step =>
    rintro n c st' hn1 hn2 ⟨rfl,rfl,hle,hsg⟩
    obtain⟨x,hx⟩:=zbs (st:=st') (i:=lo+n) (by lia)
    obtain⟨y,hy⟩:=zbs (st:=st') (i:=lo+n - 1) (by lia)
    refine Ag (zeZ O hk hx hy (hS _ _ hx) (hS _ _ hy) ?_)
    dsimp only
    by_cases hl:L x y=true
    . rw[if_pos hl]
      exact As ⟨n,rfl,rfl,hn1,hle,hsg,λ_=>⟨x,y,hx,hy,hl⟩⟩
    . rw[if_neg hl]
      refine As ⟨rfl,rfl,hn2,?_⟩
      obtain⟨p,rfl⟩:∃ p,n=p+1:=⟨n - 1,by lia⟩
      exact hsg.more O hS (by rw[show lo+(p+1) - 1=lo+p by lia] at hy;exact hy) hx (by simpa using hl)
  case post =>
    rintro c st' ⟨m,rfl,rfl,hm1,hm2,hsg,hnx⟩
    dsimp only
    by_cases hmn:(m == nrem)=true
    . rw[if_pos hmn]
      exact As (hQ m st' (SB.refl hk hS) hm1 hm2 hsg)
    . rw[if_neg hmn]
      have hlt : m < nrem := by have : m ≠ nrem := by simpa using hmn
                                lia
      obtain⟨x0,y0,hx0,hy0,hl0⟩:=hnx hlt
      refine zgk (D:=λst1=>SB kd S st' st1 lo (lo+nrem)∧Rev L (At st1) lo m∧(∃ x y,(At st1)[lo+m]?=some x∧(At st1)[lo+m - 1]?=some y∧L y x=false)) ?C (λshare=>?g) ?h
      case g =>
        by_cases hm:m > 1
        . rw[if_pos hm]
          obtain⟨a,ha⟩:=zbs (st:=st') (i:=lo) (by lia)
          obtain⟨b,hb⟩:=zbs (st:=st') (i:=lo+m - 1) (by lia)
          refine Ag (zeZ O hk ha hb (hS _ _ ha) (hS _ _ hb) ?_)
          dsimp only
          by_cases hr:L a b=true
          . rw[if_pos hr]
            exact As (hQ m st' (SB.refl hk hS) hm1 hm2 hsg)
          . rw[if_neg hr]
            have hr':L a b=false:=by simpa using hr
            rw[reverseSlice'_eq]
            refine Ag (BQ ?_)
            have hz2:lo+m≤(At st').size:=by lia
            have hb':(At st')[lo+(m - 1)]?=some b:=by rw[show lo+(m - 1)=lo+m - 1 by lia];exact hb
            have eqv:Rev L (At st') lo m:=λi j x y hij hj hx hy=>by
              have e1:=hsg 0 j a y (by lia) hj (by simpa using ha) hy
              have e2:=hsg i (m - 1) x b (by lia) (by lia) hx hb'
              have e3:=O.tr x b a (hS _ _ hx) (hS _ _ hb) (hS _ _ ha) e2 hr'
              have e4:=hsg j (m - 1) y b (by lia) (by lia) hy hb'
              have e5:=hsg 0 i a x (by lia) (by lia) (by simpa using ha) hx
              exact O.tr y b x (hS _ _ hy) (hS _ _ hb) (hS _ _ hx) e4 (O.tr b a x (hS _ _ hb) (hS _ _ ha) (hS _ _ hx) hr' e5)
            have rv2:Rev L (mirror (At st') lo (lo+m) ((lo+m - lo) / 2)) lo m:=λi j x y hij hj hx hy=>by
              rw[BO hz2,if_pos (by lia)] at hx hy
              rw[show lo+(lo+m) - 1 - (lo+i)=lo+(m - 1 - i) by lia] at hx
              rw[show lo+(lo+m) - 1 - (lo+j)=lo+(m - 1 - j) by lia] at hy
              exact hsg _ _ y x (by lia) (by lia) hy hx
            refine share _ ⟨(SB.refl hk hS).mir (Ak _) (by lia) hz2,rv2,x0,a,?_,?_,?_⟩
            . show (mirror (At st') lo (lo+m) ((lo+m - lo) / 2))[lo+m]?=_
              rw[BO hz2,if_neg (by lia)];exact hx0
            . show (mirror (At st') lo (lo+m) ((lo+m - lo) / 2))[lo+m - 1]?=_
              rw[BO hz2,if_pos (by lia),show lo+(lo+m) - 1 - (lo+m - 1)=lo by lia];exact ha
            . have eb:b=y0:=by rw[hb] at hy0;exact AT hy0
              subst eb
              exact O.tr x0 b a (hS _ _ hx0) (hS _ _ hb) (hS _ _ ha) (O.as x0 b (hS _ _ hx0) (hS _ _ hb) hl0) hr'
        . rw[if_neg hm]
          have em:m=1:=by lia
          subst em
          refine share _ ⟨SB.refl hk hS,λi j x y hij hj hx hy=>?_,x0,y0,hx0,hy0,O.as x0 y0 (hS _ _ hx0) (hS _ _ hy0) hl0⟩
          have ei:i=0:=by lia
          have ej:j=0:=by lia
          subst ei;subst ej
          rw[hx] at hy;cases hy
          exact O.rf (hS _ _ hx)
      case h =>
        rintro st1 ⟨sb1,rv1,x1,y1,hx1,hy1,hl1⟩
        have hz1:lo+nrem≤(At st1).size:=by rw[sb1.size];exact hz
        refine Ag (wpS_lift (CM ⟨rfl,?_⟩))
        obtain⟨p,rfl⟩:∃ p,m=p+1:=⟨m - 1,by lia⟩
        rw[show lo+(p+1) - 1=lo+p by lia] at hy1
        have rv2:Rev L (At st1) lo (p+1+1):=rv1.more O sb1.all hy1 hx1 hl1
        refine Ag (Ch (Br (I:=λx c st2=>∃ q,c=(none,x,q)∧SB kd S st' st2 lo (lo+nrem)∧1≤x∧x≤nrem∧q<x∧Rev L (At st2) lo x∧Blk L (At st2) lo x q)
          (Q:=λc st2=>∃ x q,c=(none,x,q)∧SB kd S st' st2 lo (lo+nrem)∧1≤x∧x≤nrem∧q<x∧Rev L (At st2) lo x∧Blk L (At st2) lo x q) ?step ?fin ⟨0,rfl,sb1,by lia,by lia,by lia,rv2,Blk.one O sb1.all⟩) ?post)
        case fin =>
          rintro c st2 ⟨q,rfl,hh⟩
          exact⟨_,q,rfl,hh⟩
        case step =>
          rintro x c st2 hx1' hx2 ⟨q,rfl,sb2,hn1,hn2,hq,rv,bk⟩
          have hz2:lo+nrem≤(At st2).size:=by rw[sb2.size];exact hz
          obtain⟨u,hu⟩:=zbs (st:=st2) (i:=lo+x) (by lia)
          obtain⟨v,hv⟩:=zbs (st:=st2) (i:=lo+x - 1) (by lia)
          obtain⟨r,rfl⟩:∃ r,x=r+1:=⟨x - 1,by lia⟩
          rw[show lo+(r+1) - 1=lo+r by lia] at hv
          refine Ag (zeZ O sb2.kind hu (by rw[show lo+(r+1) - 1=lo+r by lia];exact hv) (sb2.all _ _ hu) (sb2.all _ _ hv) ?_)
          dsimp only
          by_cases hl:L u v=true
          . rw[if_pos hl]
            have hvu:=O.as u v (sb2.all _ _ hu) (sb2.all _ _ hv) hl
            by_cases hq0:q > 0
            . rw[if_pos hq0,reverseSlice'_eq]
              refine Ag (BQ ?_)
              have hzr:lo+(r+1)≤(At st2).size:=by lia
              have sb3:=sb2.mir (i:=lo+(r+1) - (q+1)) (j:=lo+(r+1)) (by lia) (by lia) hzr
              have rv3:=rv.blk bk hq hzr
              refine As ⟨0,rfl,sb3,by lia,by lia,by lia,?_,Blk.one O sb3.all⟩
              have hz3:r<r+1:=by lia
              obtain⟨v2,hv2⟩:=zbs (st:=setArr st2 (mirror (At st2) (lo+(r+1) - (q+1)) (lo+(r+1)) ((lo+(r+1) - (lo+(r+1) - (q+1))) / 2))) (i:=lo+r) (by show lo+r<(mirror (At st2) _ _ _).size;rw[mirror_size];lia)
              have hv2':(At st2)[lo+(r+1 - (q+1)+r - r)]?=some v2:=by
                have h0:(mirror (At st2) (lo+(r+1) - (q+1)) (lo+(r+1)) ((lo+(r+1) - (lo+(r+1) - (q+1))) / 2))[lo+r]?=some v2:=hv2
                rw[BO hzr,if_pos (by lia),show lo+(r+1) - (q+1)+(lo+(r+1)) - 1 - (lo+r)=lo+(r+1 - (q+1)+r - r) by lia] at h0
                exact h0
              refine rv3.more O sb3.all hv2 (y:=u) ?_ ?_
              . show (mirror (At st2) (lo+(r+1) - (q+1)) (lo+(r+1)) ((lo+(r+1) - (lo+(r+1) - (q+1))) / 2))[lo+(r+1)]?=some u
                rw[BO hzr,if_neg (by lia)];exact hu
              . exact O.tr u v v2 (sb2.all _ _ hu) (sb2.all _ _ hv) (sb2.all _ _ hv2') hvu (rv _ r v2 v (by lia) (by lia) hv2' hv)
            . rw[if_neg hq0]
              exact As ⟨0,rfl,sb2,by lia,by lia,by lia,rv.more O sb2.all hv hu hvu,Blk.one O sb2.all⟩
          . rw[if_neg hl]
            have hl':L u v=false:=by simpa using hl
            refine Ag (zeZ O sb2.kind (by rw[show lo+(r+1) - 1=lo+r by lia];exact hv) hu (sb2.all _ _ hv) (sb2.all _ _ hu) ?_)
            dsimp only
            by_cases hg:L v u=true
            . rw[if_pos hg]
              exact As ⟨r+1,q,rfl,sb2,hn1,hn2,hq,rv,bk⟩
            . rw[if_neg hg]
              have hg':L v u=false:=by simpa using hg
              exact As ⟨q+1,rfl,sb2,by lia,by lia,by lia,rv.more O sb2.all hv hu hg',bk.more O sb2.all hq hv hu hg' hl'⟩
        case post =>
          rintro c st2 ⟨x,q,rfl,sb2,hx1',hx2,hq,rv,bk⟩
          dsimp only
          have hz2:lo+nrem≤(At st2).size:=by rw[sb2.size];exact hz
          refine zgk (D:=λst3=>SB kd S st' st3 lo (lo+nrem)∧Rev L (At st3) lo x) ?C2 (λshare=>?g2) ?h2
          case g2 =>
            by_cases hq0:q > 0
            . rw[if_pos hq0,reverseSlice'_eq]
              refine Ag (BQ ?_)
              exact share _ ⟨sb2.mir (by lia) (by lia) (by lia),rv.blk bk hq (by lia)⟩
            . rw[if_neg hq0]
              exact share _ ⟨sb2,rv⟩
          case h2 =>
            rintro st3 ⟨sb3,rv3⟩
            have hz3:lo+nrem≤(At st3).size:=by rw[sb3.size];exact hz
            rw[reverseSlice'_eq]
            refine Ag (BQ ?_)
            have sb4:=sb3.mir (i:=lo) (j:=lo+x) (Ak _) (by lia) (by lia)
            have sg4:=rv3.flip (show lo+x≤(At st3).size by lia)
            have sg5:Seg L (At (setArr st3 (mirror (At st3) lo (lo+x) ((lo+x - lo) / 2)))) lo x:=sg4
            generalize setArr st3 (mirror (At st3) lo (lo+x) ((lo+x - lo) / 2))=st4 at sb4 sg5
            have hz4:lo+nrem≤(At st4).size:=by rw[sb4.size];exact hz
            refine Ag (Ch (Br (I:=λn c st5=>c=(none,n)∧st5=st4∧n≤nrem∧Seg L (At st4) lo n) (Q:=λc st5=>∃ m,c=(none,m)∧st5=st4∧1≤m∧m≤nrem∧Seg L (At st4) lo m) ?step ?fin ⟨rfl,rfl,hx2,sg5⟩) ?post)
            case fin =>
              rintro c st5 ⟨rfl,rfl,hle,hsg⟩
              exact⟨_,rfl,rfl,by lia,hle,hsg⟩
            case step =>
              rintro n c st5 hn1 hn2 ⟨rfl,rfl,hle,hsg⟩
              obtain⟨u,hu⟩:=zbs (st:=st5) (i:=lo+n) (by lia)
              obtain⟨v,hv⟩:=zbs (st:=st5) (i:=lo+n - 1) (by lia)
              refine Ag (zeZ O sb4.kind hu hv (sb4.all _ _ hu) (sb4.all _ _ hv) ?_)
              dsimp only
              by_cases hl:L u v=true
              . rw[if_pos hl]
                exact As ⟨n,rfl,rfl,by lia,hle,hsg⟩
              . rw[if_neg hl]
                refine As ⟨rfl,rfl,hn2,?_⟩
                obtain⟨p,rfl⟩:∃ p,n=p+1:=⟨n - 1,by lia⟩
                exact hsg.more O sb4.all (by rw[show lo+(p+1) - 1=lo+p by lia] at hv;exact hv) hu (by simpa using hl)
            case post =>
              rintro c st5 ⟨n,rfl,rfl,h1n,hn2,hsg⟩
              exact As (hQ n st5 sb4 h1n hn2 hsg)
end
end TS
namespace TS
open PySem PyProof.Rows
section
variable {M:DM}{A:AM}{E:Value->Ac->Prop}{s:Ac}{kd:CN}{S:Keyed->Prop}{L:Keyed->Keyed->Bool}
theorem SB.bub{st0 st:AJ}{lo hi i d:Nat}(h:SB kd S st0 st lo hi)(h1:lo<=i-d)(hd:d<=i)(h2:i<hi)(hz:i<(At st).size):SB kd S st0 (setArr st (bubble (At st) i d)) lo hi:=by
 refine⟨h.kind,h.pend,h.fail,(bubble_perm _ _ _).trans h.perm,λk hk=>?_,λk x hx=>?_⟩
 .show (bubble (At st) i d)[k]?=_;rw[getElem?_bubble hz _ hd,if_neg (by lia),if_neg (by lia)];exact h.out k hk
 .have hx':(bubble (At st) i d)[k]?=some x:=hx;rw[getElem?_bubble hz _ hd]at hx';split at hx'
  .exact h.all _ x hx'
  .split at hx'
   .exact h.all _ x hx'
   .exact h.all _ x hx'
theorem Seg.ins(O:LtOk M A E s kd S L){a:Array Keyed}{lo k l:Nat}{p:Keyed}(hS:∀(k:Nat) x, a[k]? = some x -> S x)(h:Seg L a lo k)(hlk:l <= k)(hz:lo + k < a.size)(hp:a[lo + k]? = some p)
  (h1:∀(i:Nat) x,i<l->a[lo+i]?=some x->L p x=false) (h2:∀(i:Nat) x,l<=i->i<k->a[lo+i]?=some x->L p x=true):Seg L (bubble a (lo+k) (lo+k-(lo+l))) lo (k+1):=by
 have at':∀(i:Nat) x,i<k+1->(bubble a (lo+k) (lo+k-(lo+l)))[lo+i]?=some x->(i<l/\a[lo+i]?=some x)∨(i=l/\x=p)∨(l<i/\a[lo+(i-1)]?=some x):=λi x hi hx=>by
  rw[getElem?_bubble hz _ (by lia)]at hx
  by_cases e:lo+i=lo+k-(lo+k-(lo+l))
  .rw[if_pos e,hp]at hx;exact .inr (.inl ⟨by lia,(AT hx).symm⟩)
  .rw[if_neg e]at hx
   by_cases e2:lo+k-(lo+k-(lo+l))<lo+i/\lo+i<=lo+k
   .rw[if_pos e2,show lo+i-1=lo+(i-1) by lia]at hx;exact .inr (.inr ⟨by lia,hx⟩)
   .rw[if_neg e2]at hx;exact .inl ⟨by lia,hx⟩
 intro i j x y hij hj hx hy;have sp:=hS _ _ hp;rcases at' i x (by lia) hx with⟨a1,a2⟩ |⟨a1,a2⟩ |⟨a1,a2⟩
 .rcases at' j y hj hy with⟨b1,b2⟩ |⟨b1,b2⟩ |⟨b1,b2⟩
  .exact h i j x y hij (by lia) a2 b2
  .rw[b2];exact h1 i x a1 a2
  .exact h i (j-1) x y (by lia) (by lia) a2 b2
 .subst a2;rcases at' j y hj hy with⟨b1,b2⟩ |⟨b1,b2⟩ |⟨b1,b2⟩
  .lia
  .rw[b2];exact O.rf sp
  .exact O.as x y sp (hS _ _ b2) (h2 (j-1) y (by lia) (by lia) b2)
 .rcases at' j y hj hy with⟨b1,b2⟩ |⟨b1,b2⟩ |⟨b1,b2⟩
  .lia
  .lia
  .exact h (i-1) (j-1) x y (by lia) (by lia) a2 b2
theorem zeD(O:LtOk M A E s kd S L){st:AJ}{lo n ok:Nat}{Q:Bool -> AJ -> Prop}(hok : 1 <= ok)(hn:ok <= n)(hz:lo + n <= (At st).size)(hk:kindOf st=kd)(hS:∀(k:Nat) x, (At st)[k]? = some x -> S x)(hs:Seg L (At st) lo ok)
  (hQ:∀st',SB kd S st st' lo (lo+n)->Seg L (At st') lo n->Q true st'):wpS M A E s (binarySort' lo n ok) Q st:=by
 rw[binarySort'_eq];have em:max ok 1=ok:=by lia
 rw[em]
 refine Ag (Ch (Br (I:=λk c st'=>c=(none,())/\SB kd S st st' lo (lo+n)/\k<=n/\Seg L (At st') lo k)
  (Q:=λc st'=>c=(none,())/\SB kd S st st' lo (lo+n)/\Seg L (At st') lo n) ?step ?fin ⟨rfl,SB.refl hk hS,hn,hs⟩) ?post)
 case post =>
  rintro c st' ⟨rfl,sb,sg⟩;exact As (hQ st' sb sg)
 case fin =>
  rintro c st' ⟨rfl,sb,hle,sg⟩;rw[show max ok n=n by lia]at sg;exact⟨rfl,sb,sg⟩
 case step =>
  rintro k c st' hk1 hk2 ⟨rfl,sb,hle,sg⟩;have hz':lo+n<=(At st').size:=by rw[sb.size];exact hz
  obtain⟨p,hp⟩:=zbs (st:=st') (i:=lo+k) (by lia);dsimp only
  refine Ag (Ch (Br (I:=λx c st2=>∃l r,c=(none,l,r)/\st2=st'/\l<=r/\r<=k/\r-l<=k-x/\(∀(i:Nat) z,i<l->(At st')[lo+i]?=some z->L p z=false)/\(∀(i:Nat) z,r<=i->i<k->(At st')[lo+i]?=some z->L p z=true))
   (Q:=λc st2=>∃l,c=(none,l,l)/\st2=st'/\l<=k/\(∀(i:Nat) z,i<l->(At st')[lo+i]?=some z->L p z=false)/\(∀(i:Nat) z,l<=i->i<k->(At st')[lo+i]?=some z->L p z=true)) ?step2 ?fin2 ⟨0,k,rfl,rfl,Ba _,Ak _,Ak _,(λi z h=>absurd h (Nat.not_lt_zero _)),(λi z h1 h2=>absurd h2 (by lia))⟩) ?post2)
  case fin2 =>
   rintro c st2 ⟨l,r,rfl,rfl,h1,h2,h3,h4,h5⟩;have:l=r:=by lia
   subst this;exact⟨l,rfl,rfl,h2,h4,h5⟩
  case step2 =>
   rintro x c st2 _ hx ⟨l,r,rfl,rfl,h1,h2,h3,h4,h5⟩;dsimp only
   by_cases hlr:l ≥ r
   .rw[if_pos hlr];have:l=r:=by lia
    subst this;exact As ⟨l,rfl,rfl,h2,h4,h5⟩
   .rw[if_neg hlr];obtain⟨u,hu⟩:=zbs (st:=st2) (i:=lo+(l+r) / 2) (by lia);refine Ag (zeZ O sb.kind hp hu (sb.all _ _ hp) (sb.all _ _ hu) ?_);dsimp only
    by_cases hl:L p u=true
    .rw[if_pos hl];refine As ⟨l,(l+r) / 2,rfl,rfl,by lia,by lia,by lia,h4,λi z a1 a2 hz2=>?_⟩
     cases q:L p z with
     |true=>rfl
     |false =>
      have e1:=sg ((l+r) / 2) i u z a1 a2 hu hz2;have e2:=O.tr u z p (sb.all _ _ hu) (sb.all _ _ hz2) (sb.all _ _ hp) e1 q;rw[hl]at e2;cases e2
    .rw[if_neg hl];have hl':L p u=false:=by simpa using hl
     refine As ⟨(l+r) / 2+1,r,rfl,rfl,by lia,by lia,by lia,λi z a1 hz2=>?_,h5⟩;have e1:=sg i ((l+r) / 2) z u (by lia) (by lia) hz2 hu;exact O.tr z u p (sb.all _ _ hz2) (sb.all _ _ hu) (sb.all _ _ hp) e1 hl'
  case post2 =>
   rintro c st2 ⟨l,rfl,rfl,h2,h4,h5⟩;dsimp only;rw[moveDown'_eq];refine Ag (BQ (As ⟨rfl,sb.bub (by lia) (by lia) (by lia) (by lia),by lia,?_⟩));exact sg.ins O sb.all h2 (by lia) hp h4 h5
end
end TS
set_option maxHeartbeats 8000000
namespace TS
open PySem PyProof.Rows
noncomputable def wr(a:Array Keyed)(o:Nat)(l:List Keyed)(k:Nat):Array Keyed:=(l.zipIdx k).foldl (λa (p:Keyed×Nat)=>a.setIfInBounds (o+p.2) p.1) a
theorem zjb:∀(l:List Keyed) (k:Nat) (a:Array Keyed) (o i:Nat),o+k+l.length<=a.size->(wr a o l k)[i]?=if o+k<=i/\i<o+k+l.length then l[i-(o+k)]? else a[i]?
 |[],k,a,o,i,_=>by
  show a[i]?=_;rw[if_neg (by simp)]
 |x::l,k,a,o,i,hz=>by
  have ih:=zjb l (k+1) (a.setIfInBounds (o+k) x) o i (by rw[Array.size_setIfInBounds];simp at hz;lia);unfold wr at ih ⊢;rw[List.zipIdx_cons,List.foldl_cons,ih];simp only[A4]at hz ⊢
  by_cases h1:o+(k+1)<=i/\i<o+(k+1)+l.length
  .rw[if_pos h1,if_pos (by lia),show i-(o+k)=(i-(o+(k+1)))+1 by lia];rfl
  .rw[if_neg h1]
   by_cases h2:i=o+k
   .subst h2;rw[if_pos (by lia),Nat.sub_self];rw[Array.getElem?_setIfInBounds_self_of_lt (by lia)];rfl
   .rw[if_neg (by lia),Array.getElem?_setIfInBounds_ne (BG h2)]
theorem zlW{a:Array Keyed}{o:Nat}{l:List Keyed}(hz:o+l.length<=a.size):(wr a o l 0).toList=a.toList.take o++l++a.toList.drop (o+l.length):=by
 apply List.ext_getElem?
 intro i;rw[Bk,zjb l 0 a o i (by simpa using hz)];have h1:(a.toList.take o).length=o:=by rw[AR,AH];lia
 by_cases c1:i<o
 .rw[if_neg (by lia),AL,Aw (by lia),List.getElem?_take,if_pos c1,Bk]
 .by_cases c2:i<o+l.length
  .rw[if_pos (by lia),AL,AK (by lia),Aw (by lia),h1];rfl
  .rw[if_neg (by lia),AK (by simp;lia),D1,<- Bk]
   congr 1
   simp;lia
section
variable {M:DM}{A:AM}{E:Value->Ac->Prop}{s:Ac}{kd:CN}{S:Keyed->Prop}{L:Keyed->Keyed->Bool}
structure SM (kd:CN) (S:Keyed->Prop) (L:Keyed->Keyed->Bool) (st0 st:AJ) (pd:Array (Nat×Nat×Nat)) (lo n:Nat):Prop where
 kind:kindOf st=kd
 pend:AN st=pd
 fail:Cr st=none
 perm:(At st).Perm (At st0)
 out:∀k:Nat,k<lo∨lo+n<=k->(At st)[k]?=(At st0)[k]?
 all:∀(k:Nat) x,(At st)[k]?=some x->S x
 seg:Seg L (At st) lo n
theorem Seg.glue{a:Array Keyed}(O:LtOk M A E s kd S L){lo n m:Nat}(hS:∀(k:Nat) x,a[k]?=some x->S x)(h1:Seg L a lo n)(h2:Seg L a (lo+n) m)(h:∀x y,a[lo+(n-1)]?=some x->a[lo+n]?=some y->L y x=false)(hn:0<n)(hz:lo+n+m<=a.size):Seg L a lo (n+m):=by
 intro i j x y hij hj hx hy;rcases AY j n with cj |cj
 .exact h1 i j x y hij cj hx hy
 .rw[show lo+j=lo+n+(j-n) by lia]at hy;rcases AY i n with ci |ci
  .have e1:a[lo+(n-1)]?=some a[lo+(n-1)]:=by rw[Bv (by lia)]
   have e2:a[lo+n]?=some a[lo+n]:=by rw[Bv (by lia)]
   have q1:=h1 i (n-1) x _ (by lia) (by lia) hx e1;have q2:=h _ _ e1 e2;have q3:=h2 0 (j-n) _ y (Ba _) (by lia) e2 hy;exact O.tr x _ y (hS _ _ hx) (hS _ _ e1) (hS _ _ hy) q1 (O.tr _ _ y (hS _ _ e1) (hS _ _ e2) (hS _ _ hy) q2 q3)
  .rw[show lo+i=lo+n+(i-n) by lia]at hx;exact h2 (i-n) (j-n) x y (by lia) (by lia) hx hy
theorem zlX{x:AJ}{Q:PUnit->AJ->Prop}{st:AJ}(h:Q ⟨⟩ x):wpS M A E s (set x:StateT AJ Sem PUnit) Q st:=by unfold wpS;rw[StateT.run_set];exact Ae ⟨rfl,h⟩
theorem zf0{a:Array Keyed}{o n i:Nat}(hz:o+n<=a.size):(a.extract o (o+n))[i]?=if i<n then a[o+i]? else none:=by
 rw[Array.getElem?_extract]
 by_cases h:i<n
 .rw[if_pos h,if_pos (by lia)]
 .rw[if_neg h,if_neg (by lia)]
theorem zh3{a:Array Keyed}{o n:Nat}(hz:o+n<=a.size)(h:Seg L a o n):(a.extract o (o+n)).toList.Pairwise (leOf L):=by
 rw[BL];intro i j hi hj hij;rw[AH,Ck]at hi hj;have e1:(a.extract o (o+n))[i]?=some (a.extract o (o+n)).toList[i]:=by rw[<- Bk,Aa]
 have e2:(a.extract o (o+n))[j]?=some (a.extract o (o+n)).toList[j]:=by rw[<- Bk,Aa]
 rw[zf0 hz,if_pos (by lia)]at e1 e2;exact h i j _ _ (by lia) (by lia) e1 e2
theorem zdF{a:Array Keyed}{o n:Nat}{x:Keyed}(hz:o+n<=a.size)(h:x∈(a.extract o (o+n)).toList):∃i,i<n/\a[o+i]?=some x:=by
 obtain⟨i,hi,e⟩:=AE h;have e1:(a.extract o (o+n))[i]?=some x:=by rw[<- Bk,Aa hi,e]
 rw[AH,Ck]at hi;refine⟨i,by lia,?_⟩;rw[zf0 hz,if_pos (by lia)]at e1;exact e1
theorem SM.write(O:LtOk M A E s kd S L){st0 st:AJ}{pd:Array (Nat × Nat × Nat)}{sa na nb k m:Nat}{r:Array Keyed}(hna : 1 <= na)(hk:k < na)(hm0 : 0 < m)(hm:m <= nb)(hz:sa + na + nb <= (At st0).size)(hS:∀(k:Nat) x, (At st0)[k]? = some x -> S x)
  (sA:Seg L (At st0) sa na) (sB:Seg L (At st0) (sa+na) nb) (y0 z0:Keyed) (hy0:(At st0)[sa+na]?=some y0) (hz0:(At st0)[sa+(na-1)]?=some z0)
  (A1:∀(i:Nat) x,i<k->(At st0)[sa+i]?=some x->L y0 x=false) (B2:∀(i:Nat) y,m<=i->i<nb->(At st0)[sa+na+i]?=some y->L y z0=false)
  (hr:Res (leOf L) ((At st0).extract (sa+k) (sa+k+(na-k))).toList ((At st0).extract (sa+na) (sa+na+m)).toList r.toList) (hkd:kindOf st=kd) (hp:AN st=pd) (hf:Cr st=none) (ha:At st=wr (At st0) (sa+k) r.toList 0) :
  SM kd S L st0 st pd sa (na+nb):=by
 obtain⟨hperm,hpair⟩:=hr
 have hrl:r.toList.length=(na-k)+m:=by rw[hperm.length_eq,Am,AH,AH,Ck,Ck];lia
 have hz2:sa+k+r.toList.length<=(At st0).size:=by lia
 have get':∀i:Nat,(At st)[i]?=if sa+k<=i/\i<sa+k+r.toList.length then r.toList[i-(sa+k)]? else (At st0)[i]?:=λi=>by rw[ha,zjb _ _ _ _ _ (by lia)];simp only[Nat.add_zero]
 have rmem:∀x∈r.toList,(∃i,k<=i/\i<na/\(At st0)[sa+i]?=some x)∨(∃i,i<m/\(At st0)[sa+na+i]?=some x):=λx hx=>by
  rcases AQ.mp (hperm.mem_iff.mp hx) with q |q
  .obtain⟨i,hi,e⟩:=zdF (by lia) q;exact .inl ⟨k+i,by lia,by lia,by rw[show sa+(k+i)=sa+k+i by lia];exact e⟩
  .obtain⟨i,hi,e⟩:=zdF (by lia) q;exact .inr ⟨i,hi,e⟩
 have y0le:∀(i:Nat) y,i<nb->(At st0)[sa+na+i]?=some y->L y y0=false:=λi y hi hy=>sB 0 i y0 y (Ba _) hi (by simpa using hy0) hy
 have lez0:∀(i:Nat) x,i<na->(At st0)[sa+i]?=some x->L z0 x=false:=λi x hi hx=>sA i (na-1) x z0 (by lia) (by lia) hx hz0
 refine⟨hkd,hp,hf,?_,λi hi=>?_,λi x hx=>?_,λi j x y hij hj hx hy=>?_⟩
 .rw[ha];refine Array.perm_iff_toList_perm.mpr ?_
  rw[zlW hz2]
  have e:(At st0).toList=(At st0).toList.take (sa+k)++(((At st0).extract (sa+k) (sa+k+(na-k))).toList++((At st0).extract (sa+na) (sa+na+m)).toList)++(At st0).toList.drop (sa+k+r.toList.length):=by rw[zcO,zcO];have d1:=CP (sa+k) (At st0).toList;have d2:=zcW (At st0).toList (sa+k) (na-k);have d3:=zcW (At st0).toList (sa+na) m;rw[show sa+k+(na-k)=sa+na by lia]at d2;rw[show sa+k+r.toList.length=sa+na+m by lia,AL,AL,<- d3,<- d2,d1]
  conv=>rhs;rw[e]
  exact (hperm.append_left _).append_right _
 .rw[get',if_neg (by lia)]
 .rw[get']at hx;split at hx
  .rcases rmem x (Ai hx) with⟨_,_,_,e⟩ |⟨_,_,e⟩
   .exact hS _ _ e
   .exact hS _ _ e
  .exact hS _ _ hx
 .rw[get']at hx hy
  by_cases ci:sa+k<=sa+i/\sa+i<sa+k+r.toList.length
  .rw[if_pos ci]at hx
   by_cases cj:sa+k<=sa+j/\sa+j<sa+k+r.toList.length
   .rw[if_pos cj]at hy;rcases AY i j with q |q
    .have h1:sa+i-(sa+k)<r.toList.length:=by lia
     have h2:sa+j-(sa+k)<r.toList.length:=by lia
     rw[Aa h1]at hx;rw[Aa h2]at hy;have:=BL.mp hpair _ _ h1 h2 (by lia);rw[AT hx,AT hy]at this;exact this
    .have e:i=j:=by lia
     subst e;rw[hx]at hy;cases hy;rcases rmem x (Ai hx) with⟨_,_,_,e⟩ |⟨_,_,e⟩
     .exact O.rf (hS _ _ e)
     .exact O.rf (hS _ _ e)
   .rw[if_neg cj,show sa+j=sa+na+(j-na) by lia]at hy;have q1:=B2 (j-na) y (by lia) (by lia) hy;rcases rmem x (Ai hx) with⟨t,_,h2,e⟩ |⟨t,h2,e⟩
    .exact O.tr x z0 y (hS _ _ e) (hS _ _ hz0) (hS _ _ hy) (lez0 t x h2 e) q1
    .exact sB t (j-na) x y (by lia) (by lia) e hy
  .rw[if_neg ci]at hx
   by_cases cj:sa+k<=sa+j/\sa+j<sa+k+r.toList.length
   .rw[if_pos cj]at hy;rcases rmem y (Ai hy) with⟨t,h1,h2,e⟩ |⟨t,h2,e⟩
    .exact sA i t x y (by lia) h2 hx e
    .exact O.tr x y0 y (hS _ _ hx) (hS _ _ hy0) (hS _ _ e) (A1 i x (by lia) hx) (y0le t y (by lia) e)
   .rw[if_neg cj]at hy;rcases AY i k with ck |ck
    .rcases AY j k with cl |cl
     .exact sA i j x y hij (by lia) hx hy
     .rw[show sa+j=sa+na+(j-na) by lia]at hy;exact O.tr x y0 y (hS _ _ hx) (hS _ _ hy0) (hS _ _ hy) (A1 i x ck hx) (y0le (j-na) y (by lia) hy)
    .rw[show sa+i=sa+na+(i-na) by lia]at hx;rw[show sa+j=sa+na+(j-na) by lia]at hy;exact sB (i-na) (j-na) x y (by lia) (by lia) hx hy
theorem zgS (O : LtOk M A E s kd S L){st : AJ}{i sa na pw nb pw2 : Nat}{Q : Bool → AJ → Prop}(h1 : (AN st)[i]? = some (sa, na, pw)) (h2 : (AN st)[i + 1]? = some (sa + na, nb, pw2)) (hna : 1 ≤ na) (hnb : 1 ≤ nb) (hz : sa + na + nb ≤ (At st).size)
    (hk:kindOf st=kd) (hf:Cr st=none) (hS:∀ (k:Nat) x,(At st)[k]?=some x→S x) (sA:Seg L (At st) sa na) (sB:Seg L (At st) (sa+na) nb)
    (hQ:∀ st',SM kd S L st st' (((AN st).setIfInBounds i (sa,na+nb,pw)).eraseIdxIfInBounds (i+1)) sa (na+nb)→Q true st'):wpS M A E s (mergeAt' i) Q st:=by
  refine Ag (DY ?_)
  rw[h1,h2]
  dsimp only
  refine Ag (zlX ?_)
  obtain⟨y0,hy0⟩:=zbs (st:=st) (i:=sa+na) (by lia)
  obtain⟨z0,hz0⟩:=zbs (st:=st) (i:=sa+(na - 1)) (by lia)
  refine Ag (zav hy0 ?_)
  have Sy:=hS _ _ hy0
  refine Ag (zbz O (left:=false) (b:=λi=>match (At st)[sa+i]? with | some x=>!L y0 x | none=>false) hk Sy (λi hi=>?_) (λi j hij hj hb=>?_) (by lia) (λk hkn kt kf=>?_))
  . obtain⟨x,hx⟩:=zbs (st:=st) (i:=sa+i) (by lia)
    refine⟨x,hx,hS _ _ hx,?_⟩
    simp only[hx]
    rfl
  . obtain⟨x,hx⟩:=zbs (st:=st) (i:=sa+i) (by lia)
    obtain⟨y,hy⟩:=zbs (st:=st) (i:=sa+j) (by lia)
    simp only[hx,hy] at hb ⊢
    have e1:=sA i j x y hij hj hx hy
    have e2:L y0 y=false:=by simpa using hb
    rw[O.tr x y y0 (hS _ _ hx) (hS _ _ hy) Sy e1 e2];rfl
  have A1:∀ (i:Nat) x,i<k→(At st)[sa+i]?=some x→L y0 x=false:=λi x hi hx=>by
    have:=kt i hi
    simp only[hx] at this
    simpa using this
  have A2:∀ (i:Nat) x,k≤i→i<na→(At st)[sa+i]?=some x→L y0 x=true:=λi x h3 h4 hx=>by
    have:=kf i h3 h4
    simp only[hx] at this
    simpa using this
  dsimp only
  by_cases hk0:(na - k == 0)=true
  . rw[if_pos hk0]
    have ek : k = na := by have : na - k = 0 := by simpa using hk0
                           lia
    refine As (hQ _ ⟨hk,rfl,hf,Array.Perm.refl _,λ_ _=>rfl,hS,sA.glue O hS sB (λx y hx hy=>?_) (by lia) hz⟩)
    rw[hy0] at hy;cases hy
    exact A1 (na - 1) x (by lia) hx
  . rw[if_neg hk0]
    have hkl : k < na := by have : na - k ≠ 0 := by simpa using hk0
                            lia
    have hz0':(At st)[sa+k+(na - k) - 1]?=some z0:=by rw[show sa+k+(na - k) - 1=sa+(na - 1) by lia];exact hz0
    refine Ag (zav hz0' ?_)
    have Sz:=hS _ _ hz0
    refine Ag (zbz O (left:=true) (b:=λi=>match (At st)[sa+na+i]? with | some x=>L x z0 | none=>false) hk Sz (λi hi=>?_) (λi j hij hj hb=>?_) (by lia) (λm hmn mt mf=>?_))
    . obtain⟨x,hx⟩:=zbs (st:=st) (i:=sa+na+i) (by lia)
      refine⟨x,hx,hS _ _ hx,?_⟩
      simp only[hx]
      rfl
    . obtain⟨x,hx⟩:=zbs (st:=st) (i:=sa+na+i) (by lia)
      obtain⟨y,hy⟩:=zbs (st:=st) (i:=sa+na+j) (by lia)
      simp only[hx,hy] at hb ⊢
      have e1:=sB i j x y hij hj hx hy
      cases q:L x z0 with
      | true=>rfl
      | false =>
        have:=O.tr z0 x y Sz (hS _ _ hx) (hS _ _ hy) q e1
        rw[hb] at this;cases this
    have B1:∀ (i:Nat) y,i<m→(At st)[sa+na+i]?=some y→L y z0=true:=λi y hi hy=>by
      have:=mt i hi
      simp only[hy] at this
      exact this
    have B2:∀ (i:Nat) y,m≤i→i<nb→(At st)[sa+na+i]?=some y→L y z0=false:=λi y h3 h4 hy=>by
      have:=mf i h3 h4
      simp only[hy] at this
      exact this
    dsimp only
    have y0z:L y0 z0=true:=A2 (na - 1) z0 (by lia) (by lia) hz0
    have hm0:0<m:=by
      rcases Nat.eq_zero_or_pos m with q | q
      . have:=B2 0 y0 (by lia) (by lia) (by simpa using hy0)
        rw[y0z] at this;cases this
      . exact q
    rw[if_neg (by simp;lia)]
    have exA:sa+na=sa+k+(na - k):=by lia
    have hX:((At st).extract (sa+k) (sa+na))=(At st).extract (sa+k) (sa+k+(na - k)):=by rw[← exA]
    have sA':Seg L (At st) (sa+k) (na - k):=λi j x y hij hj hx hy=>sA (k+i) (k+j) x y (by lia) (by lia) (by rw[show sa+(k+i)=sa+k+i by lia];exact hx) (by rw[show sa+(k+j)=sa+k+j by lia];exact hy)
    have sB':Seg L (At st) (sa+na) m:=λi j x y hij hj hx hy=>sB i j x y hij (by lia) hx hy
    have T:Two S L ((At st).extract (sa+k) (sa+k+(na - k))) ((At st).extract (sa+na) (sa+na+m)):=⟨zh3 (by lia) sA',zh3 (by lia) sB',(λx hx=>by obtain⟨i,_,e⟩:=zdF (by lia) hx;exact hS _ _ e),(λx hx=>by obtain⟨i,_,e⟩:=zdF (by lia) hx;exact hS _ _ e)⟩
    have zA:0<((At st).extract (sa+k) (sa+k+(na - k))).size:=by rw[Ck];lia
    have zB:0<((At st).extract (sa+na) (sa+na+m)).size:=by rw[Ck];lia
    have c0:∀ y,((At st).extract (sa+na) (sa+na+m))[0]?=some y→∀ x∈((At st).extract (sa+k) (sa+k+(na - k))).toList,leOf L y x:=λy hy x hx=>by
      rw[zf0 (by lia),if_pos hm0] at hy
      rw[Nat.add_zero,hy0] at hy;cases hy
      obtain⟨i,hi,e⟩:=zdF (by lia) hx
      exact O.as y0 x Sy (hS _ _ e) (A2 (k+i) x (by lia) (by lia) (by rw[show sa+(k+i)=sa+k+i by lia];exact e))
    have c1:∀ z,((At st).extract (sa+k) (sa+k+(na - k)))[((At st).extract (sa+k) (sa+k+(na - k))).size - 1]?=some z→∀ x∈((At st).extract (sa+na) (sa+na+m)).toList,leOf L x z:=λz hz' x hx=>by
      have es:((At st).extract (sa+k) (sa+k+(na - k))).size=na - k:=by rw[Ck];lia
      rw[es,zf0 (by lia),if_pos (by lia),show sa+k+(na - k - 1)=sa+(na - 1) by lia,hz0] at hz'
      cases hz'
      obtain⟨i,hi,e⟩:=zdF (by lia) hx
      exact O.as x z0 (hS _ _ e) Sz (B1 i x hi e)
    by_cases hle:na - k≤m
    . rw[if_pos hle]
      refine Ag ?_
      show wpS M A E s (zfM ((At st).extract (sa+k) (sa+na)) ((At st).extract (sa+na) (sa+na+m))) _ _
      rw[hX]
      refine zgQ O T hk zA zB c0 c1 λr st2 hr hlk=>?_
      refine Ag (BQ (Ag (DY (As ?_))))
      have hf2:Cr st2=none:=by rw[hlk.2.2.2];exact hf
      have:=hQ (setArr st2 (wr (At st) (sa+k) r.toList 0)) (SM.write O hna hkl hm0 hmn hz hS sA sB y0 z0 hy0 hz0 A1 B2 hr (by show kindOf st2=kd;rw[hlk.1];exact hk) (by show AN st2=_;rw[hlk.2.2.1]) hf2 rfl)
      have ea:At st2=At st:=hlk.2.1
      rw[← ea] at this
      show Q (Cr st2).isNone _
      rw[hf2]
      exact this
    . rw[if_neg hle]
      refine Ag ?_
      show wpS M A E s (zfN ((At st).extract (sa+k) (sa+na)) ((At st).extract (sa+na) (sa+na+m))) _ _
      rw[hX]
      refine zgR O T hk zA zB c0 c1 λr st2 hr hlk=>?_
      refine Ag (BQ (Ag (DY (As ?_))))
      have hf2:Cr st2=none:=by rw[hlk.2.2.2];exact hf
      have:=hQ (setArr st2 (wr (At st) (sa+k) r.toList 0)) (SM.write O hna hkl hm0 hmn hz hS sA sB y0 z0 hy0 hz0 A1 B2 hr (by show kindOf st2=kd;rw[hlk.1];exact hk) (by show AN st2=_;rw[hlk.2.2.1]) hf2 rfl)
      have ea:At st2=At st:=hlk.2.1
      rw[← ea] at this
      show Q (Cr st2).isNone _
      rw[hf2]
      exact this
end
end TS
set_option maxHeartbeats 8000000
namespace TS
open PySem PyProof.Rows
noncomputable abbrev Run:=Nat×Nat×Nat
section
variable {M:DM}{A:AM}{E:Value->Ac->Prop}{s:Ac}{kd:CN}{S:Keyed->Prop}{L:Keyed->Keyed->Bool}
noncomputable def Runs(L:Keyed->Keyed->Bool)(a:Array Keyed):List Run->Nat->Nat->Prop
 |[],x,y=>x=y
 |r::l,x,y=>r.1=x/\1<=r.2.1/\Seg L a r.1 r.2.1/\Runs L a l (x+r.2.1) y
theorem Runs.le{a:Array Keyed}:∀{l:List Run}{x y:Nat},Runs L a l x y->x+l.length<=y
 |[],x,y,h=>by have:x=y:=h;simp;lia
 |r::l,x,y,h=>by
  have:=Runs.le h.2.2.2;have:=h.2.1;simp only[A4];lia
theorem Seg.cong{a b:Array Keyed}{lo n:Nat}(h:Seg L a lo n)(e:∀k:Nat,lo<=k->k<lo+n->b[k]?=a[k]?):Seg L b lo n:=λi j x y hij hj hx hy =>
 h i j x y hij hj (by rw[<- e _ (by lia) (by lia)];exact hx) (by rw[<- e _ (by lia) (by lia)];exact hy)
theorem Runs.cong{a b:Array Keyed}:∀{l:List Run}{x y:Nat},Runs L a l x y->(∀k:Nat,x<=k->k<y->b[k]?=a[k]?)->Runs L b l x y
 |[],_,_,h,_=>h
 |r::l,x,y,h,e=>by
  have hl:=h.2.2.2.le;have h1:=h.1;exact⟨h.1,h.2.1,h.2.2.1.cong λk h2 h3=>e k (by lia) (by lia),Runs.cong h.2.2.2 λk h2 h3=>e k (by lia) h3⟩
theorem Runs.snoc{a:Array Keyed}:∀{l:List Run}{x y n pw:Nat},Runs L a l x y->1<=n->Seg L a y n->Runs L a (l++[(y,n,pw)]) x (y+n)
 |[],x,y,n,pw,h,hn,hs=>by
  have:x=y:=h;subst this;exact⟨rfl,hn,hs,rfl⟩
 |r::l,x,y,n,pw,h,hn,hs=>⟨h.1,h.2.1,h.2.2.1,Runs.snoc h.2.2.2 hn hs⟩
theorem Runs.pair{a:Array Keyed} : ∀{l:List Run}{x y i sa na pw sb nb pw2:Nat}, Runs L a l x y -> l[i]? = some (sa, na, pw) -> l[i + 1]? = some (sb, nb, pw2) ->
  sb=sa+na/\1<=na/\1<=nb/\x<=sa/\sa+na+nb<=y/\Seg L a sa na/\Seg L a (sa+na) nb /\
  ∀b:Array Keyed,(∀k:Nat,k<sa∨sa+na+nb<=k->b[k]?=a[k]?)->Seg L b sa (na+nb)->Runs L b ((l.set i (sa,na+nb,pw)).eraseIdx (i+1)) x y
 |[],_,_,_,_,_,_,_,_,_,_,h1,_=>by simp at h1
 |[_],_,_,i,_,_,_,_,_,_,_,_,h2=>by simp at h2
 |r::q::l,x,y,0,sa,na,pw,sb,nb,pw2,h,h1,h2=>by
  have e1:r=(sa,na,pw):=AT h1;have e2:q=(sb,nb,pw2):=AT h2;subst e1;subst e2;obtain⟨a1,a2,a3,b1,b2,b3,hr⟩:=h;simp only at a1 a2 a3 b1 b2 b3 hr;subst a1;have hl:=hr.le;refine⟨b1,a2,b2,Ak _,by lia,a3,by rw[<- b1];exact b3,λb hb hs=>⟨rfl,by show 1<=na+nb;lia,hs,?_⟩⟩;show Runs L b l (sa+(na+nb)) y;rw[show sa+(na+nb)=sa+na+nb by lia];exact hr.cong λk h3 h4=>hb k (.inr h3)
 |r::q::l,x,y,i+1,sa,na,pw,sb,nb,pw2,h,h1,h2=>by
  obtain⟨a1,a2,a3,hr⟩:=h;obtain⟨c1,c2,c3,c4,c5,c6,c7,c8⟩:=Runs.pair hr (i:=i) (by simpa using h1) (by simpa using h2);refine⟨c1,c2,c3,by lia,c5,c6,c7,λb hb hs=>⟨a1,a2,a3.cong λk h3 h4=>hb k (.inl (by lia)),?_⟩⟩;exact c8 b hb hs
theorem Runs.power{a:Array Keyed}:∀{l:List Run}{x y:Nat}(f:Run->Run) (i:Nat),(∀r,(f r).1=r.1/\(f r).2.1=r.2.1)->Runs L a l x y->Runs L a (l.modify i f) x y
 |[],_,_,f,i,_,h=>by cases i <;> exact h
 |r::l,x,y,f,0,hf,h=>by
  refine⟨by rw[(hf r).1];exact h.1,by rw[(hf r).2];exact h.2.1,by rw[(hf r).1,(hf r).2];exact h.2.2.1,?_⟩;show Runs L a l (x+(f r).2.1) y;rw[(hf r).2];exact h.2.2.2
 |r::l,x,y,f,i+1,hf,h=>⟨h.1,h.2.1,h.2.2.1,Runs.power f i hf h.2.2.2⟩
structure PD (kd:CN) (S:Keyed->Prop) (L:Keyed->Keyed->Bool) (a0:Array Keyed) (st:AJ) (lo:Nat):Prop where
 kind:kindOf st=kd
 fail:Cr st=none
 perm:(At st).Perm a0
 all:∀(k:Nat) x,(At st)[k]?=some x->S x
 runs:Runs L (At st) (AN st).toList 0 lo
theorem PD.size{a0:Array Keyed}{st:AJ}{lo:Nat}(h:PD kd S L a0 st lo):(At st).size=a0.size:=h.perm.size_eq
theorem PD.merge(O:LtOk M A E s kd S L){a0:Array Keyed}{st:AJ}{lo i:Nat}{Q:Bool -> AJ -> Prop}(h:PD kd S L a0 st lo)(hlo:lo <= a0.size)(hi:i + 1 < (AN st).size)
  (hQ:∀st',PD kd S L a0 st' lo->(AN st').size+1=(AN st).size->(∀k:Nat,lo<=k->(At st')[k]?=(At st)[k]?)->Q true st'):wpS M A E s (mergeAt' i) Q st:=by
 obtain⟨⟨sa,na,pw⟩,h1⟩:∃r,(AN st)[i]?=some r:=⟨_,Bv (by lia)⟩;obtain⟨⟨sb,nb,pw2⟩,h2⟩:∃r,(AN st)[i+1]?=some r:=⟨_,Bv hi⟩;obtain⟨c1,c2,c3,c4,c5,c6,c7,c8⟩:=h.runs.pair (i:=i) (by rw[Bk];exact h1) (by rw[Bk];exact h2);subst c1;refine zgS O h1 h2 c2 c3 (by rw[h.size];lia) h.kind h.fail h.all c6 c7 λst' sm=>hQ st' ⟨sm.kind,sm.fail,sm.perm.trans h.perm,sm.all,?_⟩ ?_ λk hk=>sm.out k (by lia)
 .rw[sm.pend];have e:(((AN st).setIfInBounds i (sa,na+nb,pw)).eraseIdxIfInBounds (i+1)).toList=((AN st).toList.set i (sa,na+nb,pw)).eraseIdx (i+1):=by simp
  rw[e];exact c8 _ (λk hk=>sm.out k (by lia)) sm.seg
 .rw[sm.pend];have e:(((AN st).setIfInBounds i (sa,na+nb,pw)).eraseIdxIfInBounds (i+1)).toList=((AN st).toList.set i (sa,na+nb,pw)).eraseIdx (i+1):=by simp
  have e2:=congrArg List.length e;rw[List.length_eraseIdx_of_lt (by rw[List.length_set,AH];exact hi),List.length_set,AH,AH]at e2;lia
theorem sortRuns_spec(O:LtOk M A E s kd S L){st:AJ}{Q:Unit -> AJ -> Prop}(h2 : 2 <= (At st).size)(hk:kindOf st=kd)(hp:AN st = #[])(hf:Cr st=none)(hS:∀(k:Nat) x, (At st)[k]? = some x -> S x)
  (hQ:∀st',(At st').Perm (At st)->Cr st'=none->Seg L (At st') 0 (At st).size->Q () st'):wpS M A E s sortRuns' Q st:=by
 rw[sortRuns'_eq];refine Ag (DY ?_);dsimp only;have pd0:PD kd S L (At st) st 0:=⟨hk,hf,Array.Perm.refl _,hS,by rw[hp];rfl⟩;generalize ha0:At st=a0 at h2 pd0 hQ
 refine Ag (Ch (Br (I:=λx c st'=>∃lo,c=(none,lo)/\(x<=lo∨a0.size<=lo)/\lo<=a0.size/\PD kd S L a0 st' lo)
  (Q:=λc st'=>c=(none,a0.size)/\PD kd S L a0 st' a0.size) ?step ?fin ⟨0,rfl,.inl (Ak _),Ba _,pd0⟩) ?post)
 case fin =>
  rintro c st' ⟨lo,rfl,h3,h4,pd⟩;have:lo=a0.size:=by lia
  subst this;exact⟨rfl,pd⟩
 case step =>
  rintro x c st' _ hx ⟨lo,rfl,h3,h4,pd⟩;dsimp only
  by_cases hge:lo ≥ a0.size
  .rw[if_pos hge];have:lo=a0.size:=by lia
   subst this;exact As ⟨rfl,pd⟩
  .rw[if_neg hge];refine Ag (zf5 O (by lia) (by rw[pd.size];lia) pd.kind pd.all λm st1 sb1 hm1 hm2 sg1=>?_);dsimp only;have pd1:PD kd S L a0 st1 lo:=⟨sb1.kind,by rw[sb1.fail];exact pd.fail,sb1.perm.trans pd.perm,sb1.all,by rw[sb1.pend];exact pd.runs.cong λk _ h5=>sb1.out k (.inl h5)⟩
   by_cases hlt:m<minRun' a0.size a0.size 0
   .rw[if_pos hlt];refine Ag (wpS_lift (CM ⟨rfl,?_⟩));refine Ag (zeD O hm1 (by lia) (by rw[pd1.size];lia) pd1.kind pd1.all sg1 λst2 sb2 sg2=>?_)
    try dsimp only
    rw[if_neg (by decide)];have pdX:PD kd S L a0 st2 lo:=⟨sb2.kind,by rw[sb2.fail];exact pd1.fail,sb2.perm.trans pd1.perm,sb2.all,by rw[sb2.pend];exact pd1.runs.cong λk _ h5=>sb2.out k (.inl h5)⟩;have sgX:=sg2;refine Ag (DY ?_)
    cases hb:(AN st2).back? with
    |none =>
     try dsimp only
     refine Ag (BQ (As ⟨lo+min (a0.size-lo) (minRun' a0.size a0.size 0),rfl,.inl (by lia),by lia,?_⟩));refine⟨pdX.kind,pdX.fail,pdX.perm,pdX.all,?_⟩;show Runs L (At st2) ((AN st2).push (lo,min (a0.size-lo) (minRun' a0.size a0.size 0),0)).toList 0 (lo+min (a0.size-lo) (minRun' a0.size a0.size 0));rw[CW];exact pdX.runs.snoc (by lia) sgX
    |some r =>
     obtain⟨s1,n1,p1⟩:=r
     try dsimp only
     refine Ag (Ch (Br (I:=λy c st3=>c=(none,())/\PD kd S L a0 st3 lo/\Seg L (At st3) lo (min (a0.size-lo) (minRun' a0.size a0.size 0))) (Q:=λc st3=>c=(none,())/\PD kd S L a0 st3 lo/\Seg L (At st3) lo (min (a0.size-lo) (minRun' a0.size a0.size 0))) ?stepI ?finI ⟨rfl,pdX,sgX⟩) ?postI)
     case finI =>
      rintro c st3 hh;exact hh
     case stepI =>
      rintro y c st3 _ _ ⟨rfl,pd3,sg3⟩;refine Ag (DY ?_)
      by_cases hsz:(AN st3).size > 1
      .rw[if_pos hsz];obtain⟨⟨u1,u2,older⟩,hu⟩:∃r,(AN st3)[(AN st3).size-2]?=some r:=⟨_,Bv (by lia)⟩;rw[hu]
       try dsimp only
       by_cases hol:older<=power' a0.size (2*s1+n1) (2*s1+n1+n1+min (a0.size-lo) (minRun' a0.size a0.size 0)) a0.size
       .rw[if_pos hol];exact As ⟨rfl,pd3,sg3⟩
       .rw[if_neg hol];refine Ag (pd3.merge O (by lia) (by lia) λst4 pd4 _ ho=>?_)
        try dsimp only
        rw[if_neg (by decide)];exact As ⟨rfl,pd4,sg3.cong λk h5 _=>ho k h5⟩
      .rw[if_neg hsz];exact As ⟨rfl,pd3,sg3⟩
     case postI =>
      rintro c st3 ⟨rfl,pd3,sg3⟩
      try dsimp only
      refine Ag (BQ (Ag (BQ (As ⟨lo+min (a0.size-lo) (minRun' a0.size a0.size 0),rfl,.inl (by lia),by lia,?_⟩))));refine⟨pd3.kind,pd3.fail,pd3.perm,pd3.all,?_⟩;show Runs L (At st3) (((AN st3).modify ((AN st3).size-1) _).push (lo,min (a0.size-lo) (minRun' a0.size a0.size 0),0)).toList 0 (lo+min (a0.size-lo) (minRun' a0.size a0.size 0));rw[CW,Array.toList_modify];refine Runs.snoc (Runs.power _ _ ?_ pd3.runs) (by lia) sg3;exact λr=>⟨rfl,rfl⟩
   .rw[if_neg hlt];have pdX:=pd1;have sgX:=sg1;refine Ag (DY ?_)
    cases hb:(AN st1).back? with
    |none =>
     try dsimp only
     refine Ag (BQ (As ⟨lo+m,rfl,.inl (by lia),by lia,?_⟩));refine⟨pdX.kind,pdX.fail,pdX.perm,pdX.all,?_⟩;show Runs L (At st1) ((AN st1).push (lo,m,0)).toList 0 (lo+m);rw[CW];exact pdX.runs.snoc (by lia) sgX
    |some r =>
     obtain⟨s1,n1,p1⟩:=r
     try dsimp only
     refine Ag (Ch (Br (I:=λy c st3=>c=(none,())/\PD kd S L a0 st3 lo/\Seg L (At st3) lo (m)) (Q:=λc st3=>c=(none,())/\PD kd S L a0 st3 lo/\Seg L (At st3) lo (m)) ?stepI ?finI ⟨rfl,pdX,sgX⟩) ?postI)
     case finI =>
      rintro c st3 hh;exact hh
     case stepI =>
      rintro y c st3 _ _ ⟨rfl,pd3,sg3⟩;refine Ag (DY ?_)
      by_cases hsz:(AN st3).size > 1
      .rw[if_pos hsz];obtain⟨⟨u1,u2,older⟩,hu⟩:∃r,(AN st3)[(AN st3).size-2]?=some r:=⟨_,Bv (by lia)⟩;rw[hu]
       try dsimp only
       by_cases hol:older<=power' a0.size (2*s1+n1) (2*s1+n1+n1+m) a0.size
       .rw[if_pos hol];exact As ⟨rfl,pd3,sg3⟩
       .rw[if_neg hol];refine Ag (pd3.merge O (by lia) (by lia) λst4 pd4 _ ho=>?_)
        try dsimp only
        rw[if_neg (by decide)];exact As ⟨rfl,pd4,sg3.cong λk h5 _=>ho k h5⟩
      .rw[if_neg hsz];exact As ⟨rfl,pd3,sg3⟩
     case postI =>
      rintro c st3 ⟨rfl,pd3,sg3⟩
      try dsimp only
      refine Ag (BQ (Ag (BQ (As ⟨lo+m,rfl,.inl (by lia),by lia,?_⟩))));refine⟨pd3.kind,pd3.fail,pd3.perm,pd3.all,?_⟩;show Runs L (At st3) (((AN st3).modify ((AN st3).size-1) _).push (lo,m,0)).toList 0 (lo+m);rw[CW,Array.toList_modify];refine Runs.snoc (Runs.power _ _ ?_ pd3.runs) (by lia) sg3;exact λr=>⟨rfl,rfl⟩
 case post =>
  rintro c st1 ⟨rfl,pd1⟩
  try dsimp only
  have hlen:(AN st1).size<=a0.size:=by have:=pd1.runs.le;rw[AH]at this;lia
  refine Ag (Ch (Br (I:=λx c st2=>c=(none,())/\PD kd S L a0 st2 a0.size/\((AN st2).size+x<=a0.size+1))
   (Q:=λc st2=>c=(none,())/\PD kd S L a0 st2 a0.size/\(AN st2).size<=1) ?step ?fin ⟨rfl,pd1,by lia⟩) ?post)
  case fin =>
   rintro c st2 ⟨rfl,pd2,h5⟩;exact⟨rfl,pd2,by lia⟩
  case step =>
   rintro x c st2 _ hx ⟨rfl,pd2,h5⟩;refine Ag (DY ?_)
   try dsimp only
   by_cases hle:(AN st2).size<=1
   .rw[if_pos hle];exact As ⟨rfl,pd2,hle⟩
   .rw[if_neg hle];refine Ag (pd2.merge O (Ak _) ?_ λst3 pd3 hs3 _=>?_)
    .have le':∀(c:Prop) [Decidable c] (p q:Nat),(if c then p else q)<=max p q:=λc _ p q=>by split <;> lia
     have:=le' (Option.any (λx=>decide (x<(AN st2)[(AN st2).size-2+1]?.elim 0 λx=>x.snd.fst)) (if (AN st2).size-2 > 0 then Option.map (λx=>x.snd.fst) (AN st2)[(AN st2).size-2-1]? else none)=true) ((AN st2).size-2-1) ((AN st2).size-2);lia
    .try dsimp only
     rw[if_neg (by decide)];exact As ⟨rfl,pd3,by lia⟩
  case post =>
   rintro c st2 ⟨rfl,pd2,h5⟩;refine As (hQ st2 pd2.perm pd2.fail ?_);have hr:=pd2.runs
   cases hl:(AN st2).toList with
   |nil =>
    rw[hl]at hr;have:0=a0.size:=hr;lia
   |cons r l =>
    have hll:(AN st2).toList.length<=1:=by rw[AH];exact h5
    rw[hl]at hll hr;have:l=[]:=List.length_eq_zero_iff.mp (by simp at hll;simpa using hll);subst this;obtain⟨c1,c2,c3,c4⟩:=hr;have c4':0+r.2.1=a0.size:=c4;rw[c1,show r.2.1=a0.size by lia]at c3;exact c3
end
end TS
namespace L2
open PySem PySem.Spec PyProof.Rows
theorem zgE{α β:Type}{f:α->β}{xs ys:List β}(p:ys.Perm xs):∀{l:List α},xs=l.map f->∃l':List α,l'.Perm l/\ys=l'.map f:=by
 induction p with
 |nil=>intro l h;exact⟨l,List.Perm.refl _,h⟩
 |cons v _ ih =>
  intro l h
  match l,h with
  |x::l,h =>
   injection h with h1 h2;obtain⟨l',p',e⟩:=ih h2;exact⟨x::l',p'.cons x,by rw[e,h1];rfl⟩
 |swap a b r =>
  intro l h
  match l,h with
  |x::y::l,h =>
   injection h with h1 h2;injection h2 with h2 h3;exact⟨y::x::l,List.Perm.swap _ _ _,by rw[h1,h2,h3];rfl⟩
 |trans _ _ ih1 ih2 =>
  intro l h;obtain⟨l1,p1,h1⟩:=ih2 h;obtain⟨l2,p2,h2⟩:=ih1 h1;exact⟨l2,p2.trans p1,h2⟩
section
variable {X:Cx}{pins:List (Addr×Obj)}{σ:St}{H:Hp}{s:Ac}{D st:Addr}{e:Nat}{κV:Nat->List V}{ks:List Addr}{E:Value->Ac->Prop}
noncomputable def Ordd(κ:Nat->List Int)(n:Nat)(p:Array Nat):Prop:=RK.Pm n p/\p.toList.Pairwise λi j=>HT.lexLt (κ j) (κ i)=false
noncomputable def zgV(κ:Nat->List Int)(ks:List Addr):Value->List Int
 |.ref a=>κ (ks.idxOf a)
 |_=>[]
theorem zmK{vs:List Value}{κ : Nat -> List Int}(K:SK X pins σ H s D st e κV ks)(hl:ks.length=vs.length)(h2 : 2 <= vs.length)
  (hcol:∀i j,i<ks.length->j<ks.length->∃n m r q rn rm,κV i=.int n::r/\κV j=.int m::q/\VCols r q rn rm/\κ i=n::rn/\κ j=m::rm) :
  ziJ X (Ordd κ vs.length) (ks.map An) vs E s:=by
 unfold ziJ
 obtain⟨fs,kt,hfl,hfi⟩:=zkb (as:=[]) (vs:=[]) K.inv (ks:=ks) (ns:=(BS ks.length).map λi=>((κ i).headD 0)) (λi a ha=>by
  have hi:i<ks.length:=(Ad.mp ha).1;obtain⟨n,m,r,q,rn,rm,e1,_,_,e2,_⟩:=hcol i i hi hi;refine⟨n,r,?_,?_⟩
  .rw[AF,List.getElem?_range hi,Dk,e2];rfl
  .rw[<- e1];exact K.hk i a ha) (by simp)
 refine W.kat_kind (T:=.type "int") kt (by lia) (λv hv=>?_) rfl ⟨rfl,?_⟩
 .obtain⟨n,t,rfl⟩:=hfi v hv;exact .now
 have hl':(ks.map An).length=vs.length:=by simp[hl]
 have hsz0:((ks.map An).toArray.zip vs.toArray).size=vs.length:=by simp[hl]
 generalize hZ:(ks.map An).toArray.zip vs.toArray=Z at hsz0;have hsz:Z.size=vs.length:=hsz0
 have kap:∀i (hi:i<ks.length),zgV κ ks (An ks[i])=κ i:=λi hi=>by
  have hj:ks.idxOf ks[i]<ks.length:=List.idxOf_lt_length_iff.mpr (Bx hi);have ej:ks[ks.idxOf ks[i]]=ks[i]:=List.getElem_idxOf hj;obtain⟨n,m,r,q,rn,rm,e1,e2,vc,e3,e4⟩:=hcol (ks.idxOf ks[i]) i hj hi;have k1:=K.hk (ks.idxOf ks[i]) ks[i] (by rw[Aa hj,ej]);have k2:=K.hk i ks[i] (Aa hi);have eq:=K.inv.tuple_inj k1 k2;show κ (ks.idxOf ks[i])=κ i;rw[e1,e2]at eq;injection eq with q1 q2;injection q1 with q1;subst q1;subst q2;rw[e3,e4]
  congr 1
  have same:∀{xs:List V} {as bs:List Int},VCols xs xs as bs->as=bs:=λ{xs}=>by
   induction xs with
   |nil=>intro as bs h;cases h;rfl
   |cons x xs ih =>
    intro as bs h
    cases h with
    |cons c h=>cases c <;> rw[ih h]
  exact same vc
 have itm:∀i,i<vs.length->DE Z i=(An (ks.getD i 0),vs.getD i BE):=λi hi=>by
  rw[<- hZ,W.kat_item hl'];have:(ks.map An).getD i BE=An (ks.getD i 0):=by simp[show i<ks.length by lia]
  rw[this]
 have O:TS.LtOk (Au X.prog X.w) X.A.in1.in1 E s (tuples' true) (λx=>∃i,i<ks.length/\x.1=An (ks.getD i 0)) (λx y=>HT.lexLt (zgV κ ks x.1) (zgV κ ks y.1)):=by
  refine⟨λx y hx hy st' Q hk q=>?_,λx y z _ _ _ h1 h2=>?_,λx y _ _ h=>HT.lexLt_asym h⟩
  .obtain⟨i,hi,ex⟩:=hx;obtain⟨j,hj,ey⟩:=hy;have gi:ks.getD i 0=ks[i]:=by simp[hi]
   have gj:ks.getD j 0=ks[j]:=by simp[hj]
   rw[gi]at ex;rw[gj]at ey;rw[ex,ey,kap i hi,kap j hj]at q;rw[lt'_eq];refine Ag (DY ?_);rw[hk,ex,ey];obtain⟨n,m,r,q',rn,rm,e1,e2,vc,e3,e4⟩:=hcol i j hi hj;have k1:=K.hk i ks[i] (Aa hi);have k2:=K.hk j ks[j] (Aa hj);rw[e1]at k1;rw[e2]at k2;obtain⟨its,rv,⟨o,ho,hcl,c,hd⟩,_⟩:=K.inv.tuple k1;obtain⟨its2,rv2,⟨o2,ho2,hcl2,c2,hd2⟩,_⟩:=K.inv.tuple k2;refine Ag (wpS_lift (DS (W.kat_lt ho hd ho2 hd2 ?_)))
   cases rv with
   |cons rx rr =>
    cases rv2 with
    |cons rx2 rr2 =>
     obtain⟨t1,rfl⟩:=rx;obtain⟨t2,rfl⟩:=rx2;have cs:=vc.vals rr rr2
     have hlen:∀{us vs:List Value} {as bs:List Int},RK.Cols us vs as bs->us.length=vs.length:=λc=>by induction c with
      |nil=>rfl
      |cons _ _ ih=>simp[ih]
     simp only[Ar,A4,hlen cs,Cm,decide_false];refine RK.kat_cols0 cs ?_
     rw[e3,e4]at q;exact⟨rfl,As q⟩
  .cases q:HT.lexLt (zgV κ ks z.1) (zgV κ ks x.1) with
   |false=>rfl
   |true =>
    have:=HT.lexLt_of_not_lt_lt h2 q;rw[h1]at this;cases this
 have run:=TS.sortRuns_spec O (st:=SortSt.mk' (tuples' true) Z #[] 7 none) (Q:=λ_ st'=>Cr st'=none/\∃p:Array Nat,Ordd κ vs.length p/\p.size=vs.length/\At st'=p.map (DE Z))
  (by show 2<=Z.size;lia) rfl rfl rfl (λk x hx=>?_) (λst' hp hf hs=>?_)
 .exact BF run (λr s' h=>⟨h.1,h.2⟩) λ_ _ z=>z
 .have hk':k<vs.length:=by rw[<- hsz];exact (A0.mp hx).1
  have hx':Z[k]?=some x:=hx
  have e1:DE Z k=x:=by unfold DE;rw[Array.getD_eq_getD_getElem?,hx'];rfl
  rw[itm k hk']at e1;exact⟨k,by lia,by rw[<- e1]⟩
 .refine⟨hf,?_⟩;have hp':(At st').Perm Z:=hp;have hrng:=W.kas_range Z;rw[hsz]at hrng;obtain⟨l,pl,el⟩:=zgE (Array.perm_iff_toList_perm.mp hp') (l:=BS vs.length) (f:=DE Z) (by have:=congrArg Array.toList hrng;simpa using this.symm);have hll:l.length=vs.length:=by rw[pl.length_eq,List.length_range]
  refine⟨l.toArray,⟨?_,?_⟩,by simpa using hll,?_⟩
  .exact Array.perm_iff_toList_perm.mpr (by simpa using pl)
  .rw[BL];intro i j hi hj hij;have hi':i<l.length:=by simpa using hi
   have hj':j<l.length:=by simpa using hj
   have ai:(At st')[i]?=some (DE Z l[i]):=by rw[<- Bk,el,AF,Aa hi'];rfl
   have aj:(At st')[j]?=some (DE Z l[j]):=by rw[<- Bk,el,AF,Aa hj'];rfl
   have li:l[i]<vs.length:=D9.mp (pl.mem_iff.mp (Bx hi'));have lj:l[j]<vs.length:=D9.mp (pl.mem_iff.mp (Bx hj'));have:=hs i j _ _ (by lia) (by show j<Z.size;lia) (by rw[CF];exact ai) (by rw[CF];exact aj);rw[itm _ li,itm _ lj]at this;have g1:ks.getD l[i] 0=ks[l[i]]'(by lia):=by simp[show l[i]<ks.length by lia]
   have g2:ks.getD l[j] 0=ks[l[j]]'(by lia):=by simp[show l[j]<ks.length by lia]
   simp only[g1,g2]at this;rw[kap _ (by lia),kap _ (by lia)]at this;simpa using this
  .apply Array.toList_inj.mp
   rw[el];simp
end
section
variable {X:Cx}{x:Str}{p pos kp kpos:Pos}{e:Expr}{te:TE}{k:Nat}{f:Addr}{fd:Bz}{ps:List Str}{sp:Sp}{fn:Str}
noncomputable def zmU(K:W.Frag)(te:TE)(sp:Sp):TE:=λσ H Q=>te σ H λv H1=>∃l xs,∃ κV:Nat->List V,∃ κ:Nat->List Int,[v]=[V.ref l]/\SqL K H1 l xs/\xs.length<=1000 /\
 (∀i x H2,xs[i]?=some x->Same H1 H2->sp [x] H2 (λv H'=>Same H2 H'/\∃a,v=.ref a/\SqT K H' a (κV i)) E0) /\
 (∀i j,i<xs.length->j<xs.length->∃n m r q rn rm,κV i=.int n::r/\κV j=.int m::q/\VCols r q rn rm/\κ i=n::rn/\κ j=m::rm)/\∀(p:List Nat) D H',p.Perm (BS xs.length)->p.Pairwise (λi j=>HT.lexLt (κ j) (κ i)=false)->H1 D=none->Same H1 H'->H' D=some (.lst (p.map λi=>xs.getD i .non))->Q (.ref D) H'
theorem zib (F:FnOk X.prog X.w X.K X.mg X.base CX0 k f fd ps sp) (hr:Room (k + 1 + 1) X.A) (hb:Binds X.K fd ps []) (hg:Gl X "sorted") (hm:X.mg "sorted" = none) (hgf:Gl X fn) (hmf:X.mg fn=some (.ref f)) (he:PE X e te)
  (hdb:(fn == ("__debug__" : Str))=false:=by decide) (hse:Bl [e] X.env=[(false,eval e X.env)]:=by rfl) (hh:X.calm=true:=by rfl)
  (hall:(DO pos (CI [⟨some "key",.Name fn kp,kpos⟩] X.env)).all (·.1.isSome)=true:=by rfl) (hkw:(DO pos (CI [⟨some "key",.Name fn kp,kpos⟩] X.env)).any (·.1.isNone)=false:=by rfl)
  (hks:(DO pos (CI [⟨some "key",.Name fn kp,kpos⟩] X.env)).filterMap (·.1)=[Bj "key"]:=by rfl) :
  PE X (.Call (.Name "sorted" p) [e] [⟨some "key",.Name fn kp,kpos⟩] pos) (zmU X.K te sp):=by
 intro pins s σ H Q I h;refine Da (zer I hg hm boot_sorted ?_ (by decide) (by decide));refine callWith_kw (thn (zah he zab (hs:=hse) pos pins s σ H (λvs H1=>∃l xs,∃ κV:Nat->List V,∃ κ:Nat->List Int,vs=[V.ref l]/\SqL X.K H1 l xs/\xs.length<=1000 /\
 (∀i x H2,xs[i]?=some x->Same H1 H2->sp [x] H2 (λv H'=>Same H2 H'/\∃a,v=.ref a/\SqT X.K H' a (κV i)) E0) /\
 (∀i j,i<xs.length->j<xs.length->∃n m r q rn rm,κV i=.int n::r/\κV j=.int m::q/\VCols r q rn rm/\κ i=n::rn/\κ j=m::rm)/\∀(p:List Nat) D H',p.Perm (BS xs.length)->p.Pairwise (λi j=>HT.lexLt (κ j) (κ i)=false)->H1 D=none->Same H1 H'->H' D=some (.lst (p.map λi=>xs.getD i .non))->Q (.ref D) H') I ?_) λus s1 ⟨vs,H1,I1,r,q⟩=>?_) (by rw[hse];rfl) (by rw[hse];rfl) hall hkw
 .show te σ H _;exact h
 .obtain⟨l,xs,κV,κ,rfl,hq,h64,turn,hcol,hQ⟩:=q;obtain⟨u,rfl,ru⟩:=Vals.one r
  cases (show u=An l from ru)
  refine thn (zjI (nm:=some "key") (kpos:=kpos) (zby (v:=.ref f) hgf hmf rfl hdb) zlL pos pins s1 σ H1 (λzs H2=>zs=[.ref f]/\H2=H1) I1 ⟨rfl,rfl⟩) λws s2 ⟨zs,H2,I2,rz,q2⟩=>?_
  obtain⟨rfl,rfl⟩:=q2;obtain⟨u2,rfl,ru2⟩:=Vals.one rz
  cases (show u2=An f from ru2)
  rw[hks];refine zi5 (G:=Ordd κ xs.length) (znp F hr hb turn) hq (λp hp i hi=>?_) (λh2=>⟨Array.Perm.refl _,?_⟩) (λ{vs ks H' s' D st e} r' K' hks h2=>?_) (λp D H' g hp hD hS hH=>hQ p.toList D H' ?_ g.2 hD hS hH) I2
  .have:=hp.1.mem_iff.mp (show i∈p by simpa using hi);simpa using this
  .rw[BL];intro i j hi hj hij;simp at hi hj;lia
  .have hlx:xs.length=vs.length:=r'.length;rw[hlx];exact zmK K' hks h2 λi j hi hj=>hcol i j (by lia) (by lia)
  .have:=Array.perm_iff_toList_perm.mp g.1;simpa using this
end
section
variable {prog:AD}{w:A5}{A:AM}{R:Result->Ac->Prop}{s:Ac}
theorem zdW{elt:Expr}{c0:Comprehension}{target iter:Expr}{ifs:List Expr}{rest:List Comprehension}{scope:Scope}{pos:Pos}{it acc:Value}{env:Env}
  (h0:Co (Au prog w) A (.compLoop (.ListComp elt (c0::⟨target,iter,ifs,0⟩::rest) scope pos) 1 it acc env) R s)
  (h:Ao (Au prog w) A (pyIter it) (λit' s'=>Co (Au prog w) A (.compLoop (.ListComp elt (c0::⟨target,iter,ifs,0⟩::rest) scope pos) 1 it' acc env) R s') (notedBy (Au prog w) A env λx s'=>R (.error x) s') s) :
  Co (Au prog w) A (.compStart (.ListComp elt (c0::⟨target,iter,ifs,0⟩::rest) scope pos) 1 it acc env) R s:=by
 refine codeAny_of_tree ?_
 show Ao _ _ ((compStart (.ListComp elt (c0::⟨target,iter,ifs,0⟩::rest) scope pos) 1 it acc env).onRaise (λx=>do noteFrame x env;standAt theWindowsPlace)) _ _ s;refine wpAny_notedAt ?_
 unfold compStart;show Ao _ _ (ask >>= _) _ _ s;refine Ab (wpAny_askSetting (wpAny_ite ?_));split
 .first
   |exact Ae (And.intro rfl h0)
   |exact Ab (Ae (Ae (And.intro rfl h0)))
 .refine Ab (CM ?_);show Ao _ _ (standAt iter.pos >>= _) _ _ s;exact Ab (CH (Ab (BF h (λit' s' h'=>Ae (And.intro rfl h')) λ_ _ z=>z)))
end
section
variable {X:Cx}{osc:Scope}{N:List Str}{sc:Scope}{N':List Str}{sel:List (Option Nat)}{pos:Pos}{elt kx vx tg iter tg2 iter2:Expr}{ifs ifs2:List Expr}{wi wi2:TI}{g g2:TG}{tt tt2:TT}{te tk tv:TE}
noncomputable def tNest(wi2:TI)(g2:TG)(tb:TS):TS:=λD σ H=>wi2 σ H λJ H1=>zb6 J g2 tb { nx:=D.nx,rt:=λ_ _=>False } σ H1
theorem zmh{Y:Cx}{p:Addr}(hc:Y.calm=true)(hx:Y.xe=λ_ _ => False)(hi2:PI Y tg2 iter2 wi2)(hg2:PG Y tg2 g2)(ht2:PTs Y ifs2 tt2)(he:PE Y elt te)(hs2:∀x, Bi iter2 Y.env x=pure x) :
  PB Y (do
   let x <- eval iter2 Y.env
   standAt iter2.pos
   let x <- Bi iter2 Y.env x
   let _ <- runOwn (.compStart (.ListComp elt [⟨tg,iter,ifs,0⟩,⟨tg2,iter2,ifs2,0⟩] sc pos) 1 (<- DI [x] (pyIter x)) (.ref p) Y.env) Y.env) (tNest wi2 g2 (tIfs tt2 (zb7 p te))):=by
 intro pins s σ H D I h;refine Ab (thn (hi2 pins s σ H _ I h) λv s1 h1=>?_);refine Ab (CH ?_);rw[hs2];refine Ab (Ae ?_);refine Ab (Bg (thn h1 λitv s2 h2=>?_));obtain⟨it,fp,tn,J,H2,e,I2,T,st2,f2,h2⟩:=h2;subst e
 have loop:Co (Au Y.prog Y.w) Y.A (.compLoop (.ListComp elt [⟨tg,iter,ifs,0⟩,⟨tg2,iter2,ifs2,0⟩] sc pos) 1 (.ref it) (.ref p) Y.env) (λr s'=>match r with |.ok f=>Ao (Au Y.prog Y.w) Y.A (pure ()) (λ_ s'=>∃ σ' H',Inv Y pins σ' H' s'/\D.nx σ' H') Y.xe s' |.error e=>cameBackBy (Au Y.prog Y.w) Y.A Y.env Y.xe e s') s2 :=
  zdr (X:=Y) (p:=iter2.pos) (inner:=do let _ <- call (.builtin "list.append") [.ref p,<- eval elt Y.env]) rfl rfl rfl (λB {α t Q E s} h w=>by subst h;exact w) hc hx hg2 ht2 (zjM he) I2 T st2 f2 h2 λfl s' ⟨σ',H',I',_,q⟩=>Ae ⟨σ',H',I',q⟩
 refine Ab (wpAny_runOwn (zdW loop (T.self _ 0 _ _ _ st2 loop)))
theorem zg1{env:Env}{it p:Addr} : compTurn (.ListComp elt [⟨tg, iter, ifs, 0⟩, ⟨tg2, iter2, ifs2, 0⟩] sc pos) 0 (.ref it) (.ref p) env=(do
   standAt iter.pos
   match <- pyNext (.ref it) with
   |none=>pure (.done .next)
   |some v =>
    DW tg (.ref it) v
    Dx tg env v
    let mut ok:=true
    for c in ifs do
     if ok then ok <- isTrue c env (eval c env)
    if ok then
     (do
      let x <- eval iter2 env
      standAt iter2.pos
      let x <- Bi iter2 env x
      let _ <- runOwn (.compStart (.ListComp elt [⟨tg,iter,ifs,0⟩,⟨tg2,iter2,ifs2,0⟩] sc pos) 1 (<- DI [x] (pyIter x)) (.ref p) env) env)
    again (.compLoop (.ListComp elt [⟨tg,iter,ifs,0⟩,⟨tg2,iter2,ifs2,0⟩] sc pos) 0 (.ref it) (.ref p) env)):=by
 unfold compTurn;simp only[bind_assoc,pure_bind];rfl
theorem zfe{it:Addr}{fp:List Addr}{tn:Nat -> Heap -> Prop}{J:It}(T:Turn X.prog X.w X.K tg J fp it tn)(hc:X.calm=true)(hg:InBlk X sc N' λY => PG Y tg g)(ht:InBlk X sc N' λY => PTs Y ifs tt)
  (hi2:InBlk X sc N' λY=>PI Y tg2 iter2 wi2) (hg2:InBlk X sc N' λY=>PG Y tg2 g2) (ht2:InBlk X sc N' λY=>PTs Y ifs2 tt2) (he:InBlk X sc N' λY=>PE Y elt te) (hs2:∀cl C x,Bi iter2 (CV sc cl C X.env) x=pure x) :
  ∀cl C s0 H0 ex p pins s σ H Dn R,Inv (blk X sc cl C N' s0 H0 ex) pins σ H s->tn 0 s.heap->(∀b∈fp,FpOk (blk X sc cl C N' s0 H0 ex) pins H b)->zb6 J g (tIfs tt (tNest wi2 g2 (tIfs tt2 (zb7 p te)))) Dn σ H ->
   (∀fl s',(∃ σ' H',Inv (blk X sc cl C N' s0 H0 ex) pins σ' H' s'/\(∀b∈fp,H' b=none)/\Dn.nx σ' H')->R (.ok fl) s')->Co (Au X.prog X.w) X.A (.compLoop (.ListComp elt [⟨tg,iter,ifs,0⟩,⟨tg2,iter2,ifs2,0⟩] sc pos) 0 (.ref it) (.ref p) (CV sc cl C X.env)) R s :=
 λcl C s0 H0 ex p pins s σ H Dn R I st f W hR =>
  zdr (X:=blk X sc cl C N' s0 H0 ex) (p:=iter.pos) (inner:=do
   let x <- eval iter2 (CV sc cl C X.env)
   standAt iter2.pos
   let x <- Bi iter2 (CV sc cl C X.env) x
   let _ <- runOwn (.compStart (.ListComp elt [⟨tg,iter,ifs,0⟩,⟨tg2,iter2,ifs2,0⟩] sc pos) 1 (<- DI [x] (pyIter x)) (.ref p) (CV sc cl C X.env)) (CV sc cl C X.env))
   rfl rfl zg1 (λB {α t Q E s} h w=>by subst h;exact w) hc rfl (hg _ _ _ _ _) (ht _ _ _ _ _) (zmh (Y:=blk X sc cl C N' s0 H0 ex) hc rfl (hi2 _ _ _ _ _) (hg2 _ _ _ _ _) (ht2 _ _ _ _ _) (he _ _ _ _ _) (hs2 cl C)) I T st f W hR
noncomputable def zl3(wi:TI)(sel:List (Option Nat))(g:TG)(tt:TT)(wi2:TI)(g2:TG)(tt2:TT)(te:TE):TE:=λσ H Q=>wi σ H λJ H1=>∀p,H1 p=none ->
 zb6 J g (tIfs tt (tNest wi2 g2 (tIfs tt2 (zb7 p te)))) { nx:=λ_ H'=>Q (.ref p) H',rt:=λ_ _=>False } (selSt sel σ) (upd H1 p (.lst []))
noncomputable def zl8(wi:TI)(sel:List (Option Nat))(g:TG)(tt:TT)(wi2:TI)(g2:TG)(tt2:TT)(te:TE)(i:Nat):TS:=λD σ H=>wi σ H λJ H1=>∀p,H1 p=none ->
 zb6 J g (tIfs tt (tNest wi2 g2 (tIfs tt2 (zb7 p te)))) { nx:=λ_ H'=>D.nx (σ.set i (some (.ref p))) H',rt:=λ_ _=>False } (selSt sel σ) (upd H1 p (.lst []))
theorem zjK(B:BlkOk osc N sc N' sel)(hi:PI X tg iter wi)(hg:InBlk X sc N' λY => PG Y tg g)(ht:InBlk X sc N' λY => PTs Y ifs tt)(hi2:InBlk X sc N' λY => PI Y tg2 iter2 wi2)(hg2:InBlk X sc N' λY => PG Y tg2 g2)(ht2:InBlk X sc N' λY => PTs Y ifs2 tt2)(he:InBlk X sc N' λY => PE Y elt te)(hs2:∀cl C x, Bi iter2 (CV sc cl C X.env) x=pure x)
  (ho:X.env.scope=osc:=by rfl) (hN:X.N=N:=by rfl) (hc:X.calm=true:=by rfl) (hs:∀x,Bi iter X.env x=pure x:=by intro _;rfl) :
  PE X (.ListComp elt [⟨tg,iter,ifs,0⟩,⟨tg2,iter2,ifs2,0⟩] sc pos) (zl3 wi sel g tt wi2 g2 tt2 te):=by
 intro pins s σ H Q I h;obtain⟨cl,Cl⟩:=zfh I.ok B ho;rw[eval_ListComp];refine BZ (use:=none) rfl hs Cl.run B.kind B.names (thn (hi pins s σ H _ I h) λv s1 h1=>thn h1 λitv s2 h2=>?_);obtain⟨it,fp,tn,J,H2,e,I2,T,st2,f2,h2⟩:=h2;subst e
 refine Bc (zcd (e:=.ListComp elt [⟨tg,iter,ifs,0⟩,⟨tg2,iter2,ifs2,0⟩] sc pos) (inner:=λ_ _=>pure ()) (D:=λp=>{ nx:=λ_ H'=>Q (.ref p) H',rt:=λ_ _=>False }) (tb:=λp=>tNest wi2 g2 (tIfs tt2 (zb7 p te))) (use:=none) B ho hN hc (λacc env R s a b=>De a b)
  (zfe (iter:=iter) (pos:=pos) T hc hg ht hi2 hg2 ht2 he hs2) I2 T st2 f2 zfQ rfl (h2 _ (I2.hok.fresh (Ak _))) (λC H' s' I3 fC hn hq=>?_) s2.toks cl Cl X.xe)
 obtain⟨m,hn⟩:=hn;obtain⟨_,hq⟩:=hq;exact⟨m,hn,λh' hs'=>⟨.ref s2.heap.objs.size,H',I3.let_go fC hs',rfl,hq⟩⟩
theorem zjF{i:Nat}{x:Str}{px spos:Pos}(B:BlkOk osc N sc N' sel)(hnd:X.N.Nodup)(hi':X.N[i]? = some x)(hx:Loc X.env.scope x)(hi:PI X tg iter wi)(hg:InBlk X sc N' λY => PG Y tg g)(ht:InBlk X sc N' λY => PTs Y ifs tt)(hi2:InBlk X sc N' λY => PI Y tg2 iter2 wi2)(hg2:InBlk X sc N' λY => PG Y tg2 g2)(ht2:InBlk X sc N' λY => PTs Y ifs2 tt2)(he:InBlk X sc N' λY => PE Y elt te)(hs2:∀cl C x, Bi iter2 (CV sc cl C X.env) x=pure x)
  (hsw:swapsWith (.ListComp elt [⟨tg,iter,ifs,0⟩,⟨tg2,iter2,ifs2,0⟩] sc pos) (some (.Name x px)) spos.line X.env=pure true:=by rfl)
  (ho:X.env.scope=osc:=by rfl) (hN:X.N=N:=by rfl) (hc:X.calm=true:=by rfl) (hs:∀x,Bi iter X.env x=pure x:=by intro _;rfl)
  (hf:X.fn x=true∨X.env.scope.names.lookup x=some .local:=by first |exact .inl rfl |exact .inr rfl |assumption) :
  PS X (.Assign [.Name x px] (.ListComp elt [⟨tg,iter,ifs,0⟩,⟨tg2,iter2,ifs2,0⟩] sc pos) spos) (zl8 wi sel g tt wi2 g2 tt2 te i):=by
 intro pins s σ H D I h;obtain⟨cl,Cl⟩:=zfh I.ok B ho;rw[exec_Assign_Name_used _ _ _ _ hsw];refine Ab (CH (Ab ?_));show Ao _ X.A (do let _ <- comprehension (.ListComp elt [⟨tg,iter,ifs,0⟩,⟨tg2,iter2,ifs2,0⟩] sc pos) sc X.env _ (newList []) false (eval iter X.env) (some (Dx (.Name x px) X.env))) _ _ s;refine Ab (thn (BZ (use:=some (Dx (.Name x px) X.env)) (Q:=λ_ s'=>SP X pins D .next s') rfl hs Cl.run B.kind B.names (thn (hi pins s σ H _ I h) λv s1 h1=>thn h1 λitv s2 h2=>?_)) λ_ s' hq=>Ae (Ae hq));obtain⟨it,fp,tn,J,H2,e,I2,T,st2,f2,h2⟩:=h2;subst e
 refine Bc (zcd (e:=.ListComp elt [⟨tg,iter,ifs,0⟩,⟨tg2,iter2,ifs2,0⟩] sc pos) (inner:=λ_ _=>pure ()) (D:=λp=>{ nx:=λ_ H'=>D.nx (σ.set i (some (.ref p))) H',rt:=λ_ _=>False }) (tb:=λp=>tNest wi2 g2 (tIfs tt2 (zb7 p te))) (use:=some (Dx (.Name x px) X.env)) B ho hN hc (λacc env R s a b=>De a b)
  (zfe (iter:=iter) (pos:=pos) T hc hg ht hi2 hg2 ht2 he hs2) I2 T st2 f2 zfQ rfl (h2 _ (I2.hok.fresh (Ak _))) (λC H' s' I3 fC hn hq=>?_) s2.toks cl Cl X.xe)
 obtain⟨m,hn⟩:=hn;obtain⟨_,hq⟩:=hq;show Ao _ X.A (Dx (.Name x px) X.env (.ref s2.heap.objs.size)) _ _ _;refine wpAny_assign_Name (zdg I3 hnd hi' hx (v:=.ref s2.heap.objs.size) rfl (λs4 I4 hch=>?_) hf);obtain⟨a,sb,ha⟩:=hch
 have nC:C≠a:=by
  rcases ha with z |z
  .rw[z];exact fC.2.1
  .exact λq=>fC.2.2.2.2.1 x a z q.symm
 refine⟨m,hn.sameBut sb nC,λh' hs'=>⟨_,H',I4.let_go fC hs',hq⟩⟩
end
end L2
namespace RP
noncomputable def mv(i:Nat):Int×Int:=([(1,0),(1,1),(0,1),(-1,1),(-1,0),(-1,-1),(0,-1),(1,-1)]:List (Int×Int)).getD i (0,0)
noncomputable abbrev Cell:=Int×Int
noncomputable def go(c:Cell)(i:Nat):Cell:=(c.1+(mv i).1,c.2+(mv i).2)
structure Edge where
 c:Cell
 w:Nat
 deriving DecidableEq
noncomputable def gap(e:Edge):Cell:=go e.c ((2*e.w+6) % 8)
noncomputable def stepB(C:Cell->Bool)(e:Edge):Option Nat :=
 if C (go e.c ((2*e.w+7) % 8))=true then some ((2*e.w+7) % 8) else if C (go e.c (2*e.w))=true then some (2*e.w) else none
noncomputable def slant:Option Nat->Bool
 |none=>false
 |some s=>s % 2 == 1
noncomputable def edgeB(e:Edge):Option Nat->Edge
 |none=>⟨e.c,(e.w+1) % 4⟩
 |some s=>if s % 2=1 then ⟨go e.c s,(e.w+3) % 4⟩ else ⟨go e.c s,e.w⟩
noncomputable def nxt(C:Cell->Bool)(e:Edge):Edge:=edgeB e (stepB C e)
noncomputable def IsE(C:Cell->Bool)(e:Edge):Prop:=e.w<4/\C e.c=true/\C (gap e)=false
noncomputable def prv(C:Cell->Bool)(f:Edge):Edge :=
 if C (go f.c ((2*f.w+5) % 8))=true then ⟨go f.c ((2*f.w+5) % 8),(f.w+1) % 4⟩
 else if C (go f.c ((2*f.w+4) % 8))=true then ⟨go f.c ((2*f.w+4) % 8),f.w⟩ else ⟨f.c,(f.w+3) % 4⟩
theorem way4{w:Nat}(h:w<4):w=0∨w=1∨w=2∨w=3:=by lia
noncomputable def mvAdd(a b d:Nat):Bool:=(mv a).1+(mv b).1 == (mv d).1 && (mv a).2+(mv b).2 == (mv d).2
noncomputable def mvNil(a b:Nat):Bool:=(mv a).1+(mv b).1 == 0 && (mv a).2+(mv b).2 == 0
theorem go_go{c:Cell}{a b d:Nat}(h:mvAdd a b d=true):go (go c a) b=go c d:=by unfold mvAdd at h;simp only[Bd,beq_iff_eq]at h;unfold go;exact Prod.ext (by show c.1+(mv a).1+(mv b).1=c.1+(mv d).1;lia) (by show c.2+(mv a).2+(mv b).2=c.2+(mv d).2;lia)
theorem zhD{c:Cell}{a b:Nat}(h:mvNil a b=true):go (go c a) b=c:=by unfold mvNil at h;simp only[Bd,beq_iff_eq]at h;unfold go;exact Prod.ext (by show c.1+(mv a).1+(mv b).1=c.1;lia) (by show c.2+(mv a).2+(mv b).2=c.2;lia)
theorem f1:∀w<4,mvAdd ((2*w+7) % 8) ((2*((w+3) % 4)+6) % 8) ((2*w+6) % 8)=true:=by decide
theorem f2:∀w<4,mvAdd (2*w) ((2*w+6) % 8) ((2*w+7) % 8)=true:=by decide
theorem f3:∀w<4,(2*((w+1) % 4)+6) % 8=2*w:=by decide
theorem f4:∀w<4,mvNil ((2*w+7) % 8) ((2*((w+3) % 4)+5) % 8)=true:=by decide
theorem f5:∀w<4,mvAdd (2*w) ((2*w+5) % 8) ((2*w+6) % 8)=true:=by decide
theorem f6:∀w<4,mvNil (2*w) ((2*w+4) % 8)=true:=by decide
theorem f7:∀w<4,(2*((w+1) % 4)+5) % 8=(2*w+7) % 8:=by decide
theorem f8:∀w<4,(2*((w+1) % 4)+4) % 8=(2*w+6) % 8:=by decide
theorem odd7(w:Nat):(2*w+7) % 8 % 2=1:=by lia
theorem zba{C:Cell -> Bool}{e:Edge}(h:IsE C e) :
  (C (go e.c ((2*e.w+7) % 8))=true/\stepB C e=some ((2*e.w+7) % 8)/\nxt C e=⟨go e.c ((2*e.w+7) % 8),(e.w+3) % 4⟩) ∨
  (C (go e.c ((2*e.w+7) % 8))=false/\C (go e.c (2*e.w))=true/\stepB C e=some (2*e.w)/\nxt C e=⟨go e.c (2*e.w),e.w⟩) ∨
  (C (go e.c ((2*e.w+7) % 8))=false/\C (go e.c (2*e.w))=false/\stepB C e=none/\nxt C e=⟨e.c,(e.w+1) % 4⟩):=by
 unfold nxt stepB
 by_cases h1:C (go e.c ((2*e.w+7) % 8))=true
 .left;rw[if_pos h1];exact⟨h1,rfl,by simp only[edgeB];rw[if_pos (odd7 _)]⟩
 .right;have h1':C (go e.c ((2*e.w+7) % 8))=false:=by simpa using h1
  rw[if_neg h1]
  by_cases h2:C (go e.c (2*e.w))=true
  .left;rw[if_pos h2];exact⟨h1',h2,rfl,by simp only[edgeB];rw[if_neg (by lia)]⟩
  .right;rw[if_neg h2];exact⟨h1',by simpa using h2,rfl,rfl⟩
theorem zdL{C:Cell->Bool}{e:Edge}(h:IsE C e):IsE C (nxt C e):=by
 obtain⟨hw,hc,hg⟩:=id h;rcases zba h with⟨h1,_,q⟩ |⟨h1,h2,_,q⟩ |⟨h1,h2,_,q⟩ <;> rw[q]
 .refine⟨B9 _ (by decide),h1,?_⟩;unfold gap;rw[go_go (f1 _ hw)];exact hg
 .refine⟨hw,h2,?_⟩;unfold gap;rw[go_go (f2 _ hw)];exact h1
 .refine⟨B9 _ (by decide),hc,?_⟩;unfold gap;simp only;rw[f3 _ hw];exact h2
theorem zjG{C:Cell->Bool}{e:Edge}(h:IsE C e):prv C (nxt C e)=e:=by
 obtain⟨hw,hc,hg⟩:=id h;unfold gap at hg;rcases zba h with⟨h1,_,q⟩ |⟨h1,h2,_,q⟩ |⟨h1,h2,_,q⟩ <;> rw[q] <;> unfold prv <;> simp only
 .rw[zhD (f4 _ hw),if_pos hc];rw[show ((e.w+3) % 4+1) % 4=e.w by lia]
 .rw[go_go (f5 _ hw),hg,if_neg (by decide),zhD (f6 _ hw),if_pos hc]
 .rw[f7 _ hw,h1,if_neg (by decide),f8 _ hw,hg,if_neg (by decide)];rw[show ((e.w+1) % 4+3) % 4=e.w by lia]
theorem zhz{C:Cell->Bool}{e f:Edge}(he:IsE C e)(hf:IsE C f)(h:nxt C e=nxt C f):e=f:=by rw[<- zjG he,<- zjG hf,h]
noncomputable def Chain(C:Cell->Bool)(b:Edge)(es:List Edge):Prop:=es[0]?=some b/\(∀i e f,es[i]?=some e->es[i+1]?=some f->f=nxt C e)/\(∀e∈es,IsE C e)/\es.Nodup
theorem Chain.start{C:Cell->Bool}{b:Edge}(h:IsE C b):Chain C b [b] :=
 ⟨rfl,λi e f _ h2=>by simp at h2,λe he=>by rw[Aj.mp he];exact h,by simp⟩
theorem Chain.more{C:Cell->Bool}{b l:Edge}{es:List Edge}(h:Chain C b (es++[l]))(hn:nxt C l≠b):Chain C b ((es++[l])++[nxt C l]):=by
 obtain⟨h0,hs,hE,hnd⟩:=h;have hl:(es++[l])[es.length]?=some l:=by simp
 have lE:=hE l (by simp);refine⟨?_,λi e f h1 h2=>?_,λe he=>?_,?_⟩
 .rw[Aw (by simp)];exact h0
 .rcases AY (i+1) (es++[l]).length with hi |hi
  .rw[Aw (by lia)]at h1;rw[Aw hi]at h2;exact hs i e f h1 h2
  .have hi2:=(Ad.mp h2).1;simp at hi2 hi;have hi3:i=es.length:=by lia
   subst hi3;rw[Aw (by simp)]at h1;rw[hl]at h1
   cases h1
   rw[AK (by simp)]at h2;simp at h2;exact h2.symm
 .rcases AQ.mp he with he |he
  .exact hE e he
  .rw[Aj.mp he];exact zdL lE
 .rw[Dt];refine⟨hnd,by simp,λx hx y hy=>?_⟩;rw[Aj.mp hy];intro e;subst e;obtain⟨i,hi,ei⟩:=AE hx;rcases Nat.eq_zero_or_pos i with rfl |hp
  .rw[Aa hi,ei]at h0;exact hn (AT h0)
  .have hi':i-1<(es++[l]).length:=by lia
   have e1:=hs (i-1) ((es++[l])[i-1]) (nxt C l) (Aa hi') (by rw[show i-1+1=i by lia,Aa hi,ei]);have e2:=zhz lE (hE _ (Bx hi')) e1;have e3:es.length=i-1:=(CZ (by simp) hnd).mp (by rw[hl,Aa hi',<- e2]);simp at hi;lia
theorem zax{α:Type} [DecidableEq α]:∀{a b:List α},a.Nodup->(∀x∈a,x∈b)->a.length<=b.length
 |[],_,_,_=>Ba _
 |x::a,b,hn,hs=>by
  have hx:x∈b:=hs x Ax
  have h1:=zax (a:=a) (b:=b.erase x) (BJ.mp hn).2 (λy hy=>by refine (List.mem_erase_of_ne ?_).mpr (hs y (Aq _ hy));intro e;subst e;exact (BJ.mp hn).1 hy)
  rw[List.length_erase_of_mem hx]at h1;have:0<b.length:=List.length_pos_of_mem hx;simp only[A4];lia
noncomputable def sides(cs:List Cell):List Edge:=cs.flatMap λc=>(BS 4).map λw=>⟨c,w⟩
theorem zaT(cs:List Cell):(sides cs).length=4*cs.length:=by
 unfold sides
 induction cs with
 |nil=>rfl
 |cons c r ih=>rw[List.flatMap_cons,Am,ih];simp;lia
theorem zbU{cs:List Cell}{e:Edge}:e∈sides cs ↔ e.c∈cs/\e.w<4:=by
 unfold sides;rw[List.mem_flatMap];constructor
 .rintro⟨c,hc,h⟩;obtain⟨w,hw,rfl⟩:=AV.mp h;exact⟨hc,D9.mp hw⟩
 .rintro⟨hc,hw⟩;exact⟨e.c,hc,AV.mpr ⟨e.w,List.mem_range.mpr hw,rfl⟩⟩
noncomputable def isIn(cs:List Cell)(c:Cell):Bool:=decide (c∈cs)
theorem Chain.short{cs:List Cell}{b:Edge}{es:List Edge}(h:Chain (isIn cs) b es):es.length<=4*cs.length:=by rw[<- zaT];exact zax h.2.2.2 λe he=>zbU.mpr ⟨of_decide_eq_true (h.2.2.1 e he).2.1,(h.2.2.1 e he).1⟩
noncomputable def allE(cs:List Cell):List Edge:=(sides cs).filter λe=>!isIn cs (gap e)
theorem zii{cs:List Cell}{e:Edge}:e∈allE cs ↔ IsE (isIn cs) e:=by
 unfold allE;rw[List.mem_filter,zbU];unfold IsE isIn;constructor
 .rintro⟨⟨h1,h2⟩,h3⟩;exact⟨h2,decide_eq_true h1,by simpa using h3⟩
 .rintro⟨h1,h2,h3⟩;exact⟨⟨of_decide_eq_true h2,h1⟩,by simpa using h3⟩
noncomputable def dx(w:Nat):Int:=if w=0 then 1 else if w=2 then -1 else 0
noncomputable def dy(w:Nat):Int:=if w=1 then 1 else if w=3 then -1 else 0
noncomputable def px(e:Edge):Int:=e.c.1+(if e.w=1∨e.w=2 then 1 else 0)
noncomputable def py(e:Edge):Int:=e.c.2+(if e.w=2∨e.w=3 then 1 else 0)
theorem zjN{C:Cell->Bool}{e:Edge}(h:IsE C e):px (nxt C e)=px e+dx e.w/\py (nxt C e)=py e+dy e.w:=by
 have hw:=h.1
 rcases zba h with⟨_,_,q⟩ |⟨_,_,_,q⟩ |⟨_,_,_,q⟩ <;> rw[q] <;> obtain⟨c,w⟩:=e <;> simp only at hw <;>
  rcases way4 hw with rfl |rfl |rfl |rfl <;> simp[px,py,dx,dy,go,mv] <;> lia
theorem zmQ{C:Cell->Bool}{e:Edge}(h:IsE C e):(nxt C e).w=(e.w+3) % 4∨(nxt C e).w=e.w∨(nxt C e).w=(e.w+1) % 4:=by
 rcases zba h with⟨_,_,q⟩ |⟨_,_,_,q⟩ |⟨_,_,_,q⟩ <;> rw[q]
 .exact .inl rfl
 .exact .inr (.inl rfl)
 .exact .inr (.inr rfl)
noncomputable def Closed(C:Cell->Bool)(b:Edge)(es:List Edge):Prop:=Chain C b es/\∃l,es[es.length-1]?=some l/\nxt C l=b
theorem psum{C:Cell->Bool}{b:Edge}{es:List Edge}(h:Chain C b es):∀i e,es[i]?=some e->px e=px b+((es.take i).map λe=>dx e.w).sum/\py e=py b+((es.take i).map λe=>dy e.w).sum
 | 0,e,he=>by
  have h0:=h.1;rw[he]at h0
  cases h0
  simp
 |i+1,e,he=>by
  have hi:i+1<es.length:=(Ad.mp he).1;have h1:es[i]?=some es[i]:=Aa (by lia)
  obtain⟨a,c⟩:=psum h i _ h1;have hn:=h.2.1 i _ e h1 he;obtain⟨p,q⟩:=zjN (h.2.2.1 _ (Bx (show i<es.length by lia)));rw[<- hn]at p q;rw[DF,h1];simp only[Option.toList_some,A6,A9,List.map_nil,List.sum_append,Do,List.sum_nil];lia
theorem Closed.sums{C:Cell->Bool}{b:Edge}{es:List Edge}(h:Closed C b es):(es.map λe=>dx e.w).sum=0/\(es.map λe=>dy e.w).sum=0:=by
 obtain⟨hc,l,hl,hb⟩:=h;have hlt:=(Ad.mp hl).1;obtain⟨a,c⟩:=psum hc _ l hl;have hlm:=(Ad.mp hl).2;obtain⟨p,q⟩:=zjN (hc.2.2.1 l (by rw[<- hlm];exact Bx _));rw[hb]at p q
 have e:es=es.take (es.length-1)++[l]:=by have:=DF (l:=es) (i:=es.length-1);rw[hl,show es.length-1+1=es.length by lia,AS]at this;simpa using this
 have s1:(es.map λe=>dx e.w).sum=((es.take (es.length-1)).map λe=>dx e.w).sum+dx l.w:=by
  conv=>lhs;rw[e]
  simp
 have s2:(es.map λe=>dy e.w).sum=((es.take (es.length-1)).map λe=>dy e.w).sum+dy l.w:=by
  conv=>lhs;rw[e]
  simp
 lia
theorem ziN{l:List Int}(h:∀x∈l,0<=x):0<=l.sum:=by
 induction l with
 |nil=>simp
 |cons a r ih =>
  have:=h a Ax;have:=ih λx hx=>h x (Aq _ hx)
  simp only[Do];lia
theorem zhU{l:List Int}(h:∀x∈l,0<=x)(hs:l.sum=0):∀x∈l,x=0:=by
 induction l with
 |nil=>intro x hx;cases hx
 |cons a r ih =>
  have h1:=h a Ax;have h2:=ziN λx hx=>h x (Aq _ hx)
  simp only[Do]at hs;intro x hx;rcases AG.mp hx with rfl |hx
  .lia
  .exact ih (λx hx=>h x (Aq _ hx)) (by lia) x hx
theorem zmr(l:List Int):(l.map λx=>-x).sum=-l.sum:=by
 induction l with
 |nil=>rfl
 |cons a r ih=>simp only[A9,Do,ih];lia
theorem zkt(l:List Int)(d:Int)(h:∀x∈l,x=d):l.sum=d*l.length:=by
 induction l with
 |nil=>simp
 |cons a r ih =>
  have h1:=h a Ax;have h2:=ih λx hx=>h x (Aq _ hx)
  simp only[Do,A4,h1,h2];rw[Int.natCast_add,Int.mul_add];lia
theorem Closed.has{C:Cell->Bool}{b:Edge}{es:List Edge}(h:Closed C b es){k:Nat}(hk:k=0∨k=2):∃e∈es,e.w=k:=by
 apply Cf
 intro hno;have hno':∀e∈es,e.w≠k:=λe he z=>hno ⟨e,he,z⟩
 obtain⟨s1,s2⟩:=h.sums;obtain⟨hc,_⟩:=h
 have hpos:0<es.length:=by have:=hc.1;exact (Ad.mp this).1
 have z:∀e∈es,dx e.w=0:=by
  rcases hk with rfl |rfl
  .have := zhU (l := (es.map λe => dx e.w).map λx => -x) (λx hx => by obtain⟨y,hy,rfl⟩:=AV.mp hx;obtain⟨e,he,rfl⟩:=AV.mp hy;have:=hno' e he;unfold dx;rw[if_neg this];split <;> decide) (by rw[zmr,s1];rfl)
   intro e he;have:=this (-(dx e.w)) (AV.mpr ⟨_,AV.mpr ⟨e,he,rfl⟩,rfl⟩);lia
  .have := zhU (l := es.map λe => dx e.w) (λx hx => by obtain⟨e,he,rfl⟩:=AV.mp hx;have:=hno' e he;unfold dx;rw[if_neg this];split <;> decide) s1
   intro e he;exact this _ (AV.mpr ⟨e,he,rfl⟩)
 have odd:∀e∈es,e.w=1∨e.w=3:=λe he=>by
  have h4:=(hc.2.2.1 e he).1;have hz:=z e he;rcases way4 h4 with q |q |q |q
  .rw[q]at hz;exact absurd hz (by decide)
  .exact .inl q
  .rw[q]at hz;exact absurd hz (by decide)
  .exact .inr q
 have same:∀(i:Nat) (e:Edge),es[i]?=some e->e.w=b.w:=by
  intro i
  induction i with
  |zero=>intro e he;have:=hc.1;rw[he]at this;cases this;rfl
  |succ i ih =>
   intro e he;have hi:i+1<es.length:=(Ad.mp he).1;have h1:es[i]?=some es[i]:=Aa (by lia)
   have hn:=hc.2.1 i _ e h1 he;have m1:es[i]∈es:=Bx _;have m2:e∈es:=Ai he;have w1:=ih _ h1;have o1:=odd _ m1;have o2:=odd _ m2;have:=zmQ (hc.2.2.1 _ m1);rw[<- hn]at this;lia
 have all:∀x∈es.map (λe=>dy e.w),x=dy b.w:=λx hx=>by obtain⟨e,he,rfl⟩:=AV.mp hx;obtain⟨i,hi,ei⟩:=AE he;rw[same i e (by rw[Aa hi,ei])]
 have t:=zkt _ _ all;rw[s2,Ap]at t
 have ob:b.w=1∨b.w=3:=by have:=hc.1;exact odd b (Ai this)
 have d1:dy b.w=1∨dy b.w=-1:=by rcases ob with q |q <;> rw[q] <;> decide
 rcases d1 with q |q <;> rw[q]at t <;> lia
end RP
namespace L2
open PySem PySem.Spec PyProof.Rows
structure Fn (P:AD) (w:A5) (K:W.Frag) (mg:Str->Option Value) (base:Heap) (k:Nat) (x:Str) (ps:List Str) (sp:Sp) where
 f:Addr
 fd:Bz
 ok:FnOk P w K mg base CX0 k f fd ps sp
 m:mg x=some (.ref f)
 kp:DN K (.ref f)=true
 b:Binds K fd ps []
structure Df (K:W.Frag) (mg:Str->Option Value) (x:Str) (st:Stmt) (ps:List Str) where
 f:Addr
 fd:Bz
 F:Fun K x x st f fd
 m:mg x=some (.ref f)
 b:Binds K fd ps []
noncomputable def Df.fn{P:AD}{w:A5}{K:W.Frag}{mg:Str->Option Value}{base:Heap}{k:Nat}{x:Str}{st:Stmt}{ps:List Str}{sp:Sp}(d:Df K mg x st ps)(h:FnOk P w K mg base CX0 k d.f d.fd ps sp):Fn P w K mg base k x ps sp :=
 ⟨d.f,d.fd,h,d.m,d.F.kp,d.b⟩
structure Ways (P:AD) (w:A5) (K:W.Frag) (mg:Str->Option Value):Prop where
 ex:∃(B:Addr) (t1 t2 t3 t4:Tok) (n:Nat),mg "BEGIN_WAYS" = some (.ref B)/\K.lookup B=some ⟨.type "dict",none,.dict #[⟨BU w.params "rim",.str "rim" t1,.int 0 t2⟩,⟨BU w.params "hole",.str "hole" t3,.int 2 t4⟩] n,#[]⟩
noncomputable def tWays (ti:TE):TE:=λσ H Q=>ti σ H λy H1=>(y=.str "rim" /\ Q (.int 0) H1)∨(y=.str "hole" /\ Q (.int 2) H1)
theorem zjJ {X:Cx}{i:Expr}{ti:TE}{p pos:Pos}(hg:Gl X "BEGIN_WAYS") (hw:Ways X.prog X.w X.K X.mg) (hi:PE X i ti) (hs:NoSl i:=by exact λ_ _=>rfl):PE X (.Subscript (.Name "BEGIN_WAYS" p) i pos) (tWays ti):=by
 intro pins s σ H Q I h;obtain⟨B,t1,t2,t3,t4,n,hm,hl⟩:=hw.ex;refine zjj PySem.F.slot_dict_getitem.lookup hs (thn ((zby (v:=.ref B) hg hm rfl:PE X (.Name "BEGIN_WAYS" p) _) pins s σ H (λv H1=>v=V.ref B/\H1=H) I ⟨rfl,rfl⟩) λu s1 ⟨x,H1,I1,rx,q1⟩=>?_);obtain⟨rfl,rfl⟩:=q1;obtain rfl:u=An B:=rx;refine thn (hi pins s1 σ H1 _ I1 h) λiv s2 ⟨y,H2,I2,ry,q2⟩=>?_
 have ho:s2.heap.get? B=some _:=I2.kIn B _ hl
 have mo:s2.heap.MapOf (zaE X.prog X.w) B (PySem.findBy (zaE X.prog X.w).is #[⟨BU X.w.params "rim",.str "rim" t1,.int 0 t2⟩,⟨BU X.w.params "hole",.str "hole" t3,.int 2 t4⟩]) :=
  ⟨_,_,_,ho,⟨rfl,rfl,rfl⟩,rfl,λe he=>by
   simp only[List.mem_toArray,List.mem_cons,List.not_mem_nil,or_false]at he;rcases he with rfl |rfl
   .exact⟨.inr "rim",zbT _ _ _ _,rfl⟩
   .exact⟨.inr "hole",zbT _ _ _ _,rfl⟩,λ_=>rfl⟩
 refine⟨⟨_,ho,rfl⟩,?_⟩;rcases q2 with⟨rfl,q⟩ |⟨rfl,q⟩
 .exact wpAny_getItem_of (kV_is (k:=.inr "rim") ry) mo (v:=.int 0 t2) rfl ⟨.int 0,H2,I2.tok _,⟨_,rfl⟩,q⟩
 .exact wpAny_getItem_of (kV_is (k:=.inr "hole") ry) mo (v:=.int 2 t4) rfl ⟨.int 2,H2,I2.tok _,⟨_,rfl⟩,q⟩
section
variable {X:Cx}{K:W.Frag}
theorem zmy(hK:X.K=K:=by rfl):IxR X (rIxT K):=by subst hK;exact zbW
theorem zmj(hu:X.A.units+64<cLine)(hK:X.K=K:=by rfl):OpR X (Bw .NotEq) (rNeD K):=by subst hK;exact ze9 hu
theorem zg5 (hK:X.K=K:=by rfl):CallR X (.builtin "isinstance") (λxs H Q=>∃x T t b,xs=[x,.ty T]/\TyOf K H x t/\Cz K t (.type T)=some b/\Q (.bl b) H):=by subst hK;exact zds
theorem zcE{es:List Expr}{k:Nat}{t:TGs}{n:Nat}{pos:Pos}(hc:X.calm=true)(h:PGs X es t)
  (hn:(DZ es X.env).length=n:=by rfl) (hst:(DZ es X.env).findIdx? (·.1)=none:=by rfl) (hK:X.K=K:=by rfl):PG X (.Tuple es k pos) (gTup K n t):=by
 subst hK;exact zbk hc h hn hst
theorem zkY{tg l:Expr}{tl:TE}(hl:PE X l tl)(hK:X.K=K:=by rfl):PI X tg l (iList K tl):=by subst hK;exact zaz hl
end
theorem zj3 (a b c d:Value):argsOk "min" ⟨[a,b,c,d],[]⟩:=by unfold argsOk;kernel_rfl
section
variable {X:Cx}
theorem zkw (hc:X.calm=true):CallR X (.builtin "min") (λxs H Q=>∃i j k l,xs=[.int i,.int j,.int k,.int l]/\∀n,Q (.int n) H):=by
 intro pins s σ H xs us Q I r h;obtain⟨i,j,k,l,rfl,q⟩:=h
 cases r with
 |cons r1 r =>
 cases r with
 |cons r2 r =>
 cases r with
 |cons r3 r =>
 cases r with
 |cons r4 r =>
 cases r with
 |nil =>
 obtain⟨t1,rfl⟩:=r1;obtain⟨t2,rfl⟩:=r2;obtain⟨t3,rfl⟩:=r3;obtain⟨t4,rfl⟩:=r4;have hh:=I.ok.hd hc;have nm:(toString "min" ++ toString ".loop" : String) = "min.loop":=by decide
 refine call_function_tree F.kind_min F.plain_min F.entry_min (zj3 _ _ _ _) ?_
 show Ao _ X.A.in1 (CD "min" ["key","default"] 0 ⟨[],[]⟩ >>= _) _ _ s;refine Ab (wpAny_of_eq (show CD "min" ["key","default"] 0 ⟨[],[]⟩=pure [none,none] from rfl) ?_);show Ao _ X.A.in1 (newTuple [.int i t1,.int j t2,.int k t3,.int l t4] >>= _) _ _ s;refine Ab (Bc ?_);have hT:(s.heap.push { cls:=.type "tuple",data:=.seq #[.int i t1,.int j t2,.int k t3,.int l t4] }).IsTuple s.heap.objs.size (intItems #[(i,t1),(j,t2),(k,t3),(l,t4)]):=⟨_,AI _ rfl,rfl,0,by simp[intItems]⟩;refine Ab (wpAny_pyIter_tuple hT ?_);refine Ab (Bc ?_);rw[nm];generalize e1:s.heap.push { cls:=.type "tuple",data:=.seq #[.int i t1,.int j t2,.int k t3,.int l t4] }=h1 at hT;have hs1:h1.objs.size=s.heap.objs.size+1:=by rw[<- e1];exact Heap.size_push ..
 have k1:∀b o,s.heap.get? b=some o->h1.get? b=some o:=λb o e=>by rw[<- e1];exact Af _ e
 show Ao (Au X.prog X.w) X.A.in1 (again (.builtin "min.loop" ⟨[.ref h1.objs.size,.none,.ref (h1.push _).objs.size],[]⟩)) _ _ { s with heap:=(h1.push _).push _ };have hs2:∀o:Obj,(h1.push o).objs.size=s.heap.objs.size+2:=λo=>by rw[Heap.size_push,hs1]
 have W:=Walks.tuple (prog:=X.prog) (w:=X.w) (A:=X.A.in1) hh h1.objs.size s.heap.objs.size (by rw[hs1];exact A8 (Nat.lt_succ_self _)) (intItems #[(i,t1),(j,t2),(k,t3),(l,t4)])
 refine Ae ⟨DR F.plain_min_loop _,codeAny_min_loop_first W _ (CmpOf.ints_lt (numAt #[(i,t1),(j,t2),(k,t3),(l,t4)]) (λ_ _=>intItems_at)) _ (λhm=>?_) (by simp[intItems])
  (W.frame _ _ _ ⟨⟨_,AI _ rfl,rfl,rfl⟩,hT.push _⟩ λb _ o e=>Af _ e) (AI _ rfl) λv h' tk hP hk=>?_⟩
 .rw[hs2]at hm;rcases AG.mp hm with z |z
  .rw[hs1]at z;have z':(s.heap.objs.size+2:Nat)=s.heap.objs.size+1:=z;lia
  .have z':(s.heap.objs.size+2:Nat)=s.heap.objs.size:=Aj.mp z;lia
 .obtain⟨t,ht⟩:=intItems_at hP;refine⟨.int _,H,I.kept λb o e=>hk b o (λhm=>?_) ?_ (Af _ (Af _ (k1 b o e))),⟨t,ht⟩,q _⟩
  .have h1':=Ay e;have z:=Aj.mp hm;rw[hs1]at z;subst z;exact absurd h1' (Nat.not_lt_of_le (C7 _))
  .have h1':=Ay e;intro z;rw[hs2]at z;subst z;exact absurd h1' (Nat.not_lt_of_le (Nat.le_add_right _ 2))
noncomputable def rSlTW(K:W.Frag):V->Option Int->Option Int->Hp->VK->Prop:=λx lo hi H Q=>∃a xs,x=.ref a/\SqT K H a xs /\
 ((HT.sIx xs.length 0 lo=0/\HT.sIx xs.length xs.length hi=xs.length)->Q (.ref a) H) /\
 (¬ (HT.sIx xs.length 0 lo=0/\HT.sIx xs.length xs.length hi=xs.length)->∀p,H p=none->Q (.ref p) (upd H p (.tup (cutV xs lo hi))))
end
end L2
namespace HT
open PySem PyProof.Rows
variable {prog:AD}{w:A5}{A:AM}{E:Value->Ac->Prop}{s:Ac}
theorem getItem_tuple_all{t sl:Addr}{items:Array Value}{vl vu:Value}{lo hi:Option Int}{Q:Value -> Ac -> Prop}(ht:IsTup s.heap t items)(hs:s.heap.IsSliceOf sl vl vu .none)(pl:IsPart vl lo)(pu:IsPart vu hi)
  (hw:sIx items.size 0 lo=0/\sIx items.size items.size hi=items.size) (h:Q (.ref t) s):Ao (Au prog w) A (getItem (.ref t) (.ref sl)) Q E s:=by
 obtain⟨os,hos,hcs,hds⟩:=id hs;have hTs:s.TypeIs (.ref sl) "slice":=⟨os,hos,hcs⟩;unfold getItem
 try with_reducible refine Bg ?_
 first |refine Ab (Ae ?_) |skip
 refine Ab (wpAny_sequenceKey ht.typeIs (by decide) ?_)
 refine Ab (C5 (name:=Bj "__getitem__") ht.typeIs BH
  (DJ BH ht.typeIs entry_tuple_getitem ?_ (args_tuple_getitem _ _)))
 show Ao _ _ (Builtin.Tuple.tupleItemsOf (.ref t) >>= _) _ _ s;refine Ab (tupleItemsOf_ ht ?_);refine Ab (wpAny_typeOf hTs ?_);rw[if_pos (by decide)];refine Ab (zcu hs pl pu ?_)
 have hyes:(((sIx items.size 0 lo:Nat):Int) == 0 && (1:Int) == 1 && (sIx items.size items.size hi-sIx items.size 0 lo) == items.size)=true:=by rw[hw.1,hw.2];simp
 show Ao _ _ (if (((sIx items.size 0 lo:Nat):Int) == 0 && (1:Int) == 1 && (sIx items.size items.size hi-sIx items.size 0 lo) == items.size)=true then _ else _) _ _ s;rw[if_pos hyes];refine Ab ?_
 unfold Builtin.Tuple.tupleIsExact;refine Ab (wpAny_typeOf ht.typeIs (Ae ?_));rw[if_pos (by decide)];exact Ab (CM (Ae ⟨_,rfl,Ae h⟩))
end HT
namespace L2
open PySem PySem.Spec PyProof.Rows
section
variable {X:Cx}{K:W.Frag}
theorem zhj:SlR X (rSlTW X.K):=by
 intro pins s σ H x v vl vu lo hi sl Q I rx hs pl pu h;obtain⟨a,xs,rfl,hx,q1,q2⟩:=h
 by_cases hw:HT.sIx xs.length 0 lo=0/\HT.sIx xs.length xs.length hi=xs.length
 .cases rx
  obtain⟨its,r,ht,hz⟩:=I.tuple hx;have hlen:its.toArray.size=xs.length:=by rw[Ar];exact r.length.symm
  refine⟨"tuple",_,BH.lookup,ht.typeIs,?_⟩;exact HT.getItem_tuple_all ht hs pl pu (by rw[hlen];exact hw) ⟨.ref a,H,I,rfl,q1 hw⟩
 .exact zm2 pins s σ H _ v vl vu lo hi sl Q I rx hs pl pu ⟨a,xs,rfl,hx,hw,q2 hw⟩
theorem zkM(hK:X.K=K:=by rfl):SlR X (rSlTW K):=by subst hK;exact zhj
end
section
variable {prog:AD}{w:A5}{K:Type} [DecidableEq K] {knd:HeapKind prog w K}{A:AM}{E:Value->Ac->Prop}{s:Ac}{d a:Addr}{xs:List (K×Addr×Value)}{k:K}{dflt:Value}
theorem zfi{p:Addr×Value}(h:DP xs k=some p):∃j:Nat,xs[j]?=some (k,p):=by
 unfold DP at h;obtain⟨x,hx,e⟩:=BN.mp h;have hm:=List.mem_of_find?_eq_some hx;have hk:=List.find?_some hx;obtain⟨j,hj,ej⟩:=AE hm;have:x.1=k:=by simpa using hk
 exact⟨j,by rw[Aa hj,ej,<- e,<- this]⟩
theorem zlt{p:Addr×Value}{j:Nat}(hn:(xs.map λx=>x.1).Nodup)(h:xs[j]?=some (k,p)):DP xs k=some p:=by
 cases e:DP xs k with
 |none =>
  exfalso;unfold DP at e;have:=List.find?_eq_none.mp (Option.map_eq_none_iff.mp e) _ (Ai h);simp at this
 |some q =>
  obtain⟨i,hi⟩:=zfi e;have hl:=(Ad.mp hi).1;have:=(CZ (i:=i) (j:=j) (by rw[Ap];exact hl) hn).mp (by rw[AF,AF,hi,h];rfl);subst this;rw[hi]at h
  cases h
  rfl
theorem zd8{Q:Value -> Ac -> Prop}(hr:knd.room A)(hk:knd.is s.heap k a)(hD:Dj knd s.heap d xs)(hsz:xs.length <= sizeLine)
  (h1:∀p,DP xs k=some p->Q p.2 { s with toks:=s.toks+knd.draws k })
  (h2:DP xs k=none->∀h',Dj knd h' d (storedH xs k a dflt)->Cn d s.heap h'->Q dflt { s with heap:=h',toks:=s.toks+knd.draws k }) :
  Ao (Au prog w) A (dictSetDefault d (.ref a) dflt) Q E s:=by
 obtain⟨o,es,ep,ho,hx,hd,he,hi,hn⟩:=id hD;unfold dictSetDefault;refine Bg (Ab (knd.pyHash hr hk ?_));refine Ab (wpAny_dictFind_heap (s:={ s with toks:=s.toks+knd.draws k }) hr hk ho hd he hi hn (λhno=>?_) λj p hj=>?_)
 .have hnone:DP xs k=none := by
   cases e:DP xs k with
   |none=>rfl
   |some p=>obtain⟨j,hj⟩:=zfi e;exact absurd hj (hno j p)
  refine Ab (CM ?_);have hes:es.size=xs.length:=by rw[<- AH,he,Ap]
  refine Ab (wpAny_updateDictKeys ho hd (Ae (h2 hnone _ ?_ ⟨?_,λb hb=>AX _ _ (BG hb)⟩)) (by lia) (by simp))
  .have hs:Cn d s.heap (s.heap.update d (Obj.mapDictKeys λx=>x.push ⟨knd.hash k,.ref a,dflt⟩)):=⟨?_,λb hb=>AX _ _ (BG hb)⟩
   .obtain⟨c,dd,dt,sl⟩:=o;simp only at hd;subst hd;refine⟨_,es.push ⟨knd.hash k,.ref a,dflt⟩,ep+1,BI _ ho rfl,hx,rfl,?_,λx hx'=>?_,?_⟩
    .rw[storedH_new hnone,A6,<- he];simp[entryOfKey]
    .rw[storedH_new hnone]at hx';rcases AQ.mp hx' with m |m
     .exact knd.keeps (hi x m) ho rfl hs
     .rw[Aj.mp m];exact knd.keeps hk ho rfl hs
    .rw[storedH_new hnone,A6,Dt];refine⟨hn,by simp,λx hx' y hy e=>?_⟩;simp at hy;subst hy e;obtain⟨⟨k',p⟩,hm,ek⟩:=AV.mp hx';obtain⟨j,hj,ej⟩:=AE hm;simp only at ek;subst ek;exact hno j p (by rw[Aa hj,ej])
   .show (s.heap.update d _).objs.size=_;unfold Heap.update;simp
  .show (s.heap.update d _).objs.size=_;unfold Heap.update;simp
 .have hlt:=(Ad.mp hj).1;have hes:es.size=xs.length:=by rw[<- AH,he,Ap]
  have ee:es[j]?=some ⟨knd.hash k,.ref p.1,p.2⟩:=by rw[<- Bk,he,AF,hj];rfl
  refine Ab (Du ho hd ?_);simp only[ee];refine Ab (CM (Ae ?_));exact h1 p (zlt hn hj)
theorem zdD(knd:HeapKind prog w K)(d a:Addr)(hd:(d == BR)=false)(dflt:Value) :
  MeetsIn prog w (Builtin.«dict.setdefault» ⟨[.ref d,.ref a,dflt],[]⟩) λA R s=>knd.room A.in1/\∃k xs,knd.is s.heap k a/\Dj knd s.heap d xs/\xs.length<=sizeLine /\
   (∀p,DP xs k=some p->R (.ok (.ret p.2)) { s with toks:=s.toks+knd.draws k }) /\
   (DP xs k=none->∀h',Dj knd h' d (storedH xs k a dflt)->Cn d s.heap h'->R (.ok (.ret dflt)) { s with heap:=h',toks:=s.toks+knd.draws k }):=by
 intro A R s h;obtain⟨hr,k,xs,hk,hD,hsz,h1,h2⟩:=h;unfold Builtin.«dict.setdefault» Builtin.Dict.keyAndDefault;have ht:s.TypeIs (.ref d) "dict":=hD.typeIs;refine Ab (Ab (wpAny_notOrdered_dict ht ?_));refine Ab ?_
 show Ao (Au prog w) A.in1 (pure ()) _ _ s;refine Ae ?_
 refine Ab ?_
 show Ao (Au prog w) A.in1 (pure (An d,[An a,dflt])) _ _ s;refine Ae ?_
 show Ao (Au prog w) A.in1 (pure d >>= λx=>pure (x,An a,some dflt)) _ _ s;refine Ab (Ae (Ae ?_));simp only;rw[hd];show Ao (Au prog w) A.in1 (dictSetDefault d (.ref a) dflt >>= λx=>ret x) _ _ s;refine Ab (zd8 hr hk hD hsz (λp e=>Ae (h1 p e)) λe h' hD' hs=>Ae (h2 e h' hD' hs))
noncomputable def zmX(td ty tx:TE):TE:=λσ H Q=>td σ H λx H1=>∃a,x=.ref a/\IsD H1 a/\ty σ H1 λy H2=>tx σ H2 λz H3=>∃kvs k b,H3 a=some (.dT kvs)/\y=.ref b/\H3 b=some (.tup (k.map kV))/\kvs.length<sizeLine /\
 (∀v,valV kvs k=some v->Q v H3)/\(valV kvs k=none->Q z (upd H3 a (.dT (putK kvs k z))))
end
section
variable {X:Cx}{o e f:Expr}{apos cpos:Pos}{td ty tx:TE}
theorem zkZ (hu:X.A.units+1<cLine) (ho:PE X o td) (he:PE X e ty) (hf:PE X f tx) (m:M2 X o "setdefault" apos e f cpos):PE X (.Call (.Attribute o "setdefault" apos) [e,f] [] cpos) (zmX td ty tx):=by
 intro pins s σ H Q I h;refine wpAny_Call_method m.base m.few m.line D4 Cw PySem.F.type_dict_setdefault (thn (ho pins s σ H _ I h) λu s1 ⟨x,H1,I1,rx,a,ex,d,q1⟩=>?_);subst ex;obtain rfl:u=An a:=rx;obtain⟨t1,t2,_⟩:=zkg I1 d;refine⟨t1,t2,?_⟩;rw[m.trees]
 refine Dc rfl (DB (Cj (thn (he pins s1 σ H1 _ I1 q1) λiv s2 ⟨y,H2,I2,ry,q2⟩ =>
  Cj (thn (hf pins s2 σ H2 _ I2 q2) λfv s3 ⟨z,H3,I3,rz,kvs,k,b,eD,ey,eb,hl,k1,k2⟩=>Calls.spliced_nil ?_))))
 subst ey
 cases (show iv=An b from ry)
 obtain⟨zz,hd,xs,rel,dd⟩:=dt_of I3.hok eD
 refine call_meetsIn Cw dd.typeIs PySem.F.entry_dict_setdefault (PySem.F.args_dict_setdefault_3 _ _ _) (zdD (DH (zaE X.prog X.w)) a b hd fv)
  ⟨CK hu,k,xs,zdM I3.hok eb,dd,by rw[<- C0 rel];exact zz,λp ep=>?_,λen h' dd' hs=>?_⟩
 .have rv:=rel.val k;rw[ep]at rv
  cases hv:valV kvs k with
  |none=>rw[hv]at rv;exact Bu rv
  |some v=>rw[hv]at rv;exact⟨v,H3,I3.tok _,rv,k1 v hv⟩
 .have hn:valV kvs k=none := by
   have rv:=(rel.val k).isSome_eq;rw[en]at rv
   cases hv:valV kvs k with
   |none=>rfl
   |some v=>rw[hv]at rv;exact absurd rv (by simp)
  have hz:(putK kvs k z).length<=sizeLine:=by have:=zaP kvs k z;lia
  obtain⟨q,es,ep,hq,h2,h3,h4,_,h5⟩:=dd';refine⟨z,_,?_,rz,k2 hn⟩;refine zdc I3 (by rw[eD];exact Ci) hs ⟨q,hq⟩ ⟨hz,hd,_,(rel.put k eb rz).keeps λc ys ec=>?_,q,es,ep,hq,h2,h3,h4,h5⟩;rw[zai (ne_of ec eD (λz=>nomatch z))];exact ec
end
structure Two (P:AD) (w:A5) (K:W.Frag) (mg:Str->Option Value) (nm:Str) (a b:Int):Prop where
 ex:∃(B:Addr) (t1 t2 t3 t4:Tok) (n:Nat),mg nm=some (.ref B)/\K.lookup B=some ⟨.type "dict",none,.dict #[⟨BU w.params "rim",.str "rim" t1,.int a t2⟩,⟨BU w.params "hole",.str "hole" t3,.int b t4⟩] n,#[]⟩
noncomputable def tTwo (a b:Int) (ti:TE):TE:=λσ H Q=>ti σ H λy H1=>(y=.str "rim" /\ Q (.int a) H1)∨(y=.str "hole" /\ Q (.int b) H1)
theorem zne {X:Cx}{nm:Str}{a b:Int}{i:Expr}{ti:TE}{p pos:Pos}(hg:Gl X nm) (hw:Two X.prog X.w X.K X.mg nm a b) (hi:PE X i ti) (hs:NoSl i:=by exact λ_ _=>rfl) (hdb:(nm == ("__debug__" : Str))=false:=by rfl):PE X (.Subscript (.Name nm p) i pos) (tTwo a b ti):=by
 intro pins s σ H Q I h;obtain⟨B,t1,t2,t3,t4,n,hm,hl⟩:=hw.ex;refine zjj PySem.F.slot_dict_getitem.lookup hs (thn ((zby (v:=.ref B) hg hm rfl (hd:=hdb):PE X (.Name nm p) _) pins s σ H (λv H1=>v=V.ref B/\H1=H) I ⟨rfl,rfl⟩) λu s1 ⟨x,H1,I1,rx,q1⟩=>?_);obtain⟨rfl,rfl⟩:=q1;obtain rfl:u=An B:=rx;refine thn (hi pins s1 σ H1 _ I1 h) λiv s2 ⟨y,H2,I2,ry,q2⟩=>?_
 have ho:s2.heap.get? B=some _:=I2.kIn B _ hl
 have mo:s2.heap.MapOf (zaE X.prog X.w) B (PySem.findBy (zaE X.prog X.w).is #[⟨BU X.w.params "rim",.str "rim" t1,.int a t2⟩,⟨BU X.w.params "hole",.str "hole" t3,.int b t4⟩]) :=
  ⟨_,_,_,ho,⟨rfl,rfl,rfl⟩,rfl,λe he=>by
   simp only[List.mem_toArray,List.mem_cons,List.not_mem_nil,or_false]at he;rcases he with rfl |rfl
   .exact⟨.inr "rim",zbT _ _ _ _,rfl⟩
   .exact⟨.inr "hole",zbT _ _ _ _,rfl⟩,λ_=>rfl⟩
 refine⟨⟨_,ho,rfl⟩,?_⟩;rcases q2 with⟨rfl,q⟩ |⟨rfl,q⟩
 .exact wpAny_getItem_of (kV_is (k:=.inr "rim") ry) mo (v:=.int a t2) rfl ⟨.int a,H2,I2.tok _,⟨_,rfl⟩,q⟩
 .exact wpAny_getItem_of (kV_is (k:=.inr "hole") ry) mo (v:=.int b t4) rfl ⟨.int b,H2,I2.tok _,⟨_,rfl⟩,q⟩
section
variable {X:Cx}
end
end L2
namespace HT
open PySem PyProof.Rows PySem.Spec
variable {prog:AD}{w:A5}{A:AM}{E:Value->Ac->Prop}{s:Ac}
end HT
namespace L2
open PySem PySem.Spec PyProof.Rows
section
variable {X:Cx}{K:W.Frag}
end
end L2
namespace HT
open PySem PyProof.Rows PySem.Spec
end HT
namespace L2
open PySem PySem.Spec PyProof.Rows
section
variable {X:Cx}{K:W.Frag}
end
section
variable {X:Cx}
end
section
variable {X:Cx}{e es:Expr}{te ts:TE}{pos p2:Pos}
end
section
variable {X:Cx}
noncomputable def zhq(K:W.Frag):R2:=λx y H Q=>∃p xs d ds,y=.ref p/\SqL K H p xs/\RD K H x d/\RDs K H xs ds/\Bb d=true/\(∀e∈ds,Bb e=true)/\Q (.bl (!ds.any λe=>Bq e d)) H
theorem zjP(hu:X.A.units+65<cLine):OpR X (Bw .NotIn) (zhq X.K):=by intro pins s σ H x y v u Q I rx ry h;obtain⟨p,xs,d,ds,rfl,hq,hd,hds,sd,sds,q⟩:=h;obtain⟨as,ra⟩:=I.reads hd rx;obtain⟨bs,rb⟩:=I.reads (.lst hq hds) ry;exact SeqAt.notIn_list_reads rb ra (zcI sds) (Dg sd) (Ds sd hu) ⟨.bl _,H,I,rfl,q⟩
end
section
variable {prog:AD}{w:A5}{A:AM}{R:Result->Ac->Prop}{I:Addr}{fp wr:List Addr}{n:Nat}{P:Nat->Value->Prop}{St:Nat->Heap->Prop}{dv:Value}
end
section
variable {X:Cx}{pins:List (Addr×Obj)}{σ:St}{H0:Hp}{s:Ac}{l:Addr}{Q:VK}
end
section
variable {X:Cx}{p pos kpos kp:Pos}{e:Expr}{te:TE}{d:Int}{kj:Nat}
end
end L2
namespace HT
open PySem PyProof.Rows
variable {prog:AD}{w:A5}{A:AM}{E:Value->Ac->Prop}{s:Ac}
end HT
namespace L2
open PySem PySem.Spec PyProof.Rows
section
variable {X:Cx}{e es:Expr}{te ts:TE}{pos p2:Pos}
end
end L2
namespace HT
open PySem PyProof.Rows
section
open PySem.SeqAt
open PySem.AutoSeq1 (wpAny_loadPart')
open PySem.MeetsSeq PySem.MeetsSeq2 PySem.MeetsSeq3
end
section
variable {prog:AD}{w:A5}{A:AM}{E:Value->Ac->Prop}{s:Ac}
end
end HT
namespace L2
open PySem PySem.Spec PyProof.Rows
section
variable {X:Cx}{pos:Pos}
end
section
variable {prog:AD}{w:A5}{A:AM}{E:Value->Ac->Prop}{s:Ac}{it d:Addr}{i ep:Nat}{es:Array DictEntry}{od:Obj}
theorem zj8{Q:Value -> Ac -> Prop}(lo:(d == BR)=false)(g:s.heap.get? d=some od)(x:od.ExactDict)(dat:od.data = .dict es ep)
  (k:Q (.ref s.heap.objs.size) { s with heap:=s.heap.push { cls:=.type "dict_keyiterator",data:=.fields #[.ref d,.int 0 0,.int es.size 0,.int ep 0] } }):Ao (Au prog w) A (pyIter (.ref d)) Q E s:=by
 have ty:s.TypeIs (.ref d) "dict":=⟨od,g,x.1⟩;refine wpAny_pyIter_slot ty PySem.F.slot_dict_iter (DJ PySem.F.slot_dict_iter ty PySem.F.entry_dict_iter ?_ (PySem.F.args_dict_iter_1 _));unfold Builtin.«dict.__iter__» Builtin.Dict.dictSlotNone;refine Ab (Ab (wpAny_notOrdered_dict ty ?_));show Ao (Au prog w) A.in1 (pure (An d)) _ _ s;refine Ae ?_
 show Ao (Au prog w) A.in1 (Builtin.Dict.showsAll d >>= _) _ _ s;unfold Builtin.Dict.showsAll;rw[if_neg (show ¬ (d == BR)=true by rw[lo];decide)];refine Ab (Ae (Ab (Du g dat (Ab (wpAny_dictEpoch g dat (Ab (Bc (Ae ⟨_,rfl,"dict_keyiterator",_,⟨_,AI _ rfl,rfl⟩,PySem.F.slot_dict_keyiterator_next.lookup,?_⟩))))))));simpa[rawInt]using k
theorem zj7{e:DictEntry}{Q:Option Value -> Ac -> Prop}(st:s.heap.IsKeyIter it d i es.size ep)(g:s.heap.get? d=some od)(dat:od.data = .dict es ep)(he:es[i]? = some e)
  (k:∀h',h'.IsKeyIter it d (i+1) es.size ep->Cn it s.heap h'->Q (some e.key) { s with heap:=h' }):Ao (Au prog w) A (pyNext (.ref it)) Q E s:=by
 obtain⟨o,go,oc,odt⟩:=id st;unfold pyNext;refine Ab (DS (C5 (name:=Bj "__next__") st.typeIs B3 (DJ B3 st.typeIs DT ?_ (DL _))));refine Ab (Ae (Ab (Ab ?_)));refine Ab (Cs st.typeIs (Ae (Ab (wpAny_fieldsOf go odt ?_))));simp only[show Builtin.Dict_items.ownsTuple "dict_keyiterator" = false by decide,AZ,if_false];show Ao (Au prog w) _ (if (An d == BE)=true then _ else _) _ _ s;rw[if_neg (show ¬ (An d == BE)=true by simp)];refine Ab (Ae (Ab (Du g dat ?_)));rw[if_neg (show ¬ ((es.size:Int) != (es.size:Int))=true by simp)];refine Ab (Ae (Ab (wpAny_dictEpoch g dat ?_)));rw[if_neg (show ¬ ((ep:Int) != (ep:Int))=true by simp)];refine Ae ?_
 simp only[show ¬ ((i:Int)<0) by lia,if_false,Dv,he];refine Ab (Ab (Cs st.typeIs (Ae ?_)));refine Ab (wpAny_isOneOf_keyiter st.typeIs ?_);show Ao (Au prog w) _ (setField (.ref it) 1 (rawInt ((i:Int)+1)) >>= _) _ _ s;refine Ab (wpAny_setField go odt (by simp) ?_)
 have st':(s.heap.update it (Dp (·.setIfInBounds 1 (rawInt ((i:Int)+1))))).IsKeyIter it d (i+1) es.size ep:=by refine⟨_,BI _ go (Obj.isFreed_of_fields (D2 odt _)),(Obj.cls_mapFields ..).trans oc,?_⟩;rw[D2 odt];simp[rawInt]
 refine Ab (Bg (Ab (wpAny_isOneOf_keyiter (s:={ s with heap:=s.heap.update it (Dp (·.setIfInBounds 1 (rawInt ((i:Int)+1)))) }) st'.typeIs ?_)));show Ao (Au prog w) _ (pure e.key) _ _ _;exact Ae (Ae ⟨_,rfl,Ae (k _ st' (Bt ..))⟩)
theorem zld{Q:Option Value -> Ac -> Prop}(hh:A.handled=none)(st:s.heap.IsKeyIter it d i es.size ep)(g:s.heap.get? d=some od)(dat:od.data = .dict es ep)(he:es.size <= i)
  (k:∀h',Heap.ExtBut it s.heap h'->Q none { s with heap:=h' }):Ao (Au prog w) A (pyNext (.ref it)) Q E s:=by
 obtain⟨o,go,oc,odt⟩:=id st;unfold pyNext;refine Ab (DS (C5 (name:=Bj "__next__") st.typeIs B3 (DJ B3 st.typeIs DT ?_ (DL _))));refine Ab (Ae (Ab (Ab ?_)));refine Ab (Cs st.typeIs (Ae (Ab (wpAny_fieldsOf go odt ?_))));simp only[show Builtin.Dict_items.ownsTuple "dict_keyiterator" = false by decide,AZ,if_false];show Ao (Au prog w) _ (if (An d == BE)=true then _ else _) _ _ s;rw[if_neg (show ¬ (An d == BE)=true by simp)];refine Ab (Ae (Ab (Du g dat ?_)));rw[if_neg (show ¬ ((es.size:Int) != (es.size:Int))=true by simp)];refine Ab (Ae (Ab (wpAny_dictEpoch g dat ?_)));rw[if_neg (show ¬ ((ep:Int) != (ep:Int))=true by simp)];refine Ae ?_
 simp only[show ¬ ((i:Int)<0) by lia,if_false,Dv,Array.getElem?_eq_none he];refine Ab (Ab (Cs st.typeIs (Ae ?_)));show Ao (Au prog w) _ (setField (.ref it) 0 .none >>= _) _ _ s;refine Ab (wpAny_setField go odt (by simp) ?_);show Ao (Au prog w) _ (newExc (.type "StopIteration") [] >>= _) _ _ _;refine Ab ?_
 simp only[newExc,newTuple];refine Ab (Bc ?_ (by size_fits));refine Ab (m:=firstArgMember _ _) (wpAny_of_eq (a:=BE) (by first |rfl | (simp only[firstArgMember];rfl)) (Bc ?_ (by size_fits)));simp only[raiseNew];refine Ab (wpAny_handled ?_);rw[show A.in1.handled=none from hh];refine Ab (Ae (wpAny_throw (?_:Ao _ _ _ _ _ _)));exact Ab (wpAny_isInstance (b:=true) (T:="StopIteration") ⟨_,AI _ rfl,rfl⟩ isSubtype_stop (Ae (k _ (((Bt ..).extBut.push _).push _))))
end
theorem Paired.at'{α β:Type}{F:α->β->Prop}:∀{l:List α}{m:List β},Paired F l m->∀{i:Nat}{x:α},l[i]?=some x->∃y,m[i]?=some y/\F x y
 |_,_,.cons r t,0,x,h=>by cases h;exact⟨_,rfl,r⟩
 |_,_,.cons r t,i+1,x,h=>Paired.at' t h
section
variable {X:Cx}{tg:Expr}
end
theorem zcp{α β:Type}(f:α->β):∀(l:List α) (i:Nat),(l.map f).eraseIdx i=(l.eraseIdx i).map f
 |[],i=>by simp
 |x::l,0=>rfl
 |x::l,i+1=>by rw[A9,D8,D8,A9,zcp f l i]
section
variable {prog:AD}{w:A5}{K:Type} [DecidableEq K] {knd:HeapKind prog w K}{A:AM}{E:Value->Ac->Prop}{s:Ac}{d a:Addr}{xs:List (K×Addr×Value)}{k:K}
theorem zgl{Q:Option DictEntry -> Ac -> Prop}(hr:knd.room A)(hk:knd.is s.heap k a)(hD:Dj knd s.heap d xs)(hsz:xs.length <= sizeLine)
  (h1:DP xs k=none->Q none { s with toks:=s.toks+knd.draws k })
  (h2:∀(j:Nat) p,xs[j]?=some (k,p)->∀h',Dj knd h' d (xs.eraseIdx j)->Cn d s.heap h'->Q (some ⟨knd.hash k,.ref p.1,p.2⟩) { s with heap:=h',toks:=s.toks+knd.draws k }) :
  Ao (Au prog w) A (Builtin.Dict.takeOut d (.ref a)) Q E s:=by
 obtain⟨o,es,ep,ho,hx,hd,he,hi,hn⟩:=id hD;unfold Builtin.Dict.takeOut;refine Bg (Ab (knd.pyHash hr hk ?_));refine Ab (wpAny_dictFind_heap (s:={ s with toks:=s.toks+knd.draws k }) hr hk ho hd he hi hn (λhno=>Ae (h1 (atKey_none_of_get hno))) λj p hj=>?_);have hes:es.size=xs.length:=size_of_entries he;have ee:es[j]?=some ⟨knd.hash k,.ref p.1,p.2⟩:=by rw[entry_at he,hj];rfl
 refine Ab (Du (s:={ s with toks:=s.toks+knd.draws k }) ho hd ?_);rw[ee];refine Ab (wpAny_updateDictKeys (hz:=by lia) (s:={ s with toks:=s.toks+knd.draws k }) ho hd (Ae (h2 j p hj _ ⟨_,_,ep+1,BI _ ho (Obj.isFreed_of_dict (Obj.data_mapDictKeys hd _)),hx.mapDictKeys _,Obj.data_mapDictKeys hd _,?_,?_,?_⟩ (Bt ..))))
 .have:(es.eraseIdxIfInBounds j).toList=es.toList.eraseIdx j:=by simp
  rw[this,he,zcp]
 .intro x hx';exact knd.keeps (hi x (List.mem_of_mem_eraseIdx hx')) ho hd (Bt ..)
 .rw[<- zcp];exact hn.sublist (List.eraseIdx_sublist _ _)
theorem KT.erase{H:Hp}:∀{kvs:List (List Key×V)}{xs:List (List Key×Addr×Value)},KT H kvs xs->(xs.map (·.1)).Nodup->∀{k:List Key}{j:Nat}{p:Addr×Value},xs[j]?=some (k,p)->KT H (dropK kvs k) (xs.eraseIdx j)/\∃v,valV kvs k=some v/\RelV v p.2
 |_,_,.cons (a:=x) (b:=y) (l₁:=l) (l₂:=m) r t,hn,k,0,p,h=>by
  cases h
  have e:x.1=k:=r.1;refine⟨?_,x.2,zbc e,r.2.2⟩;rw[zkn e,List.eraseIdx_cons_zero,ziA λhm=>?_]
  .exact t
  .have e2:l.map (·.1)=m.map (·.1) := by
    clear r hn hm
    induction t with
    |nil=>rfl
    |cons r t ih=>rw[A9,A9,r.1,ih]
   rw[e2]at hm;exact (BJ.mp hn).1 hm
 |_,_,.cons (a:=x) (b:=y) (l₁:=l) (l₂:=m) r t,hn,k,j+1,p,h=>by
  have h':m[j]?=some (k,p):=h;have hn':=BJ.mp hn;have e:¬ x.1=k:=λz=>hn'.1 (AV.mpr ⟨(k,p),Ai h',by rw[<- z];exact r.1⟩)
  obtain⟨i1,v,i2,i3⟩:=KT.erase t hn'.2 h';rw[zg0 e,D8,zbd e];exact⟨.cons r i1,v,i2,i3⟩
end
section
variable {X:Cx}{o e f:Expr}{apos cpos:Pos}{td ty tx:TE}
end
end L2
namespace RP
end RP
namespace L2
open PySem PySem.Spec PyProof.Rows
section
variable {X:Cx}
end
end L2
namespace HT
open PySem PyProof.Rows
variable {prog:AD}{w:A5}{A:AM}{E:Value->Ac->Prop}{s:Ac}
end HT
namespace L2
open PySem PySem.Spec PyProof.Rows
section
variable {X:Cx}{e es:Expr}{te ts:TE}{pos p2:Pos}
end
section
variable {prog:AD}{w:A5}{A:AM}{E:Value->Ac->Prop}{s:Ac}
end
section
variable {X:Cx}
end
section
variable {X:Cx}
end
section
variable {prog:AD}{w:A5}{A:AM}{E:Value->Ac->Prop}{s:Ac}
end
section
variable {X:Cx}{pins:List (Addr×Obj)}{σ:St}
end
section
variable {X:Cx}{l m:Expr}{t:TA}{p p2 pos pos2:Pos}
end
theorem zkB:∀{xs:List V}{us:List Value},xs.length=us.length->(∀(i:Nat) x u,xs[i]?=some x->us[i]?=some u->RelV x u)->Vals xs us
 |[],[],_,_=>.nil
 |x::xs,u::us,h,k=>.cons (k 0 x u rfl rfl) (zkB (by simpa using h) λi y v h1 h2=>k (i+1) y v (by simpa using h1) (by simpa using h2))
 |[],_::_,h,_=>by cases h
 |_::_,[],h,_=>by cases h
section
variable {X:Cx}{a:Expr}{t:TA}{p p2 pos pos2:Pos}
end
section
variable {X:Cx}
end
section
variable {X:Cx}{tg:Expr}
end
section
variable {X:Cx}{pos:Pos}{kx vx:Expr}{tk tv:TE}
end
open AutoSeq1 (wpAny_loadPart')
section
variable {prog:AD}{w:A5}{A:AM}{E:Value->Ac->Prop}{s:Ac}{d:Addr}{ep:Nat}{es:Array DictEntry}{od:Obj}
theorem ziK(hh:A.handled=none)(I d:Addr)(hne:d ≠ I)(dat:od.data = .dict es ep) :
  Walks prog w A I [I,d] [I] es.size (λi v=>∃e,es[i]?=some e/\v=e.key) (λi h=>h.IsKeyIter I d i es.size ep/\h.get? d=some od) where
 sub:=λb hb=>by simp at hb;simp[hb]
 frame:=λi h h' st k=>⟨st.1.at λo e=>k I (by simp) o e,k d (by simp) _ st.2⟩
 item:=λi s Q E hi st hQ=>by
  refine zj7 st.1 st.2 dat (Bv hi) λh' st' sb=>?_
  refine hQ _ h' s.toks ⟨_,Bv hi,rfl⟩ ⟨st',(sb.2 d hne).trans st.2⟩ λb o hb e=>(sb.2 b (λz=>hb (by simp[z]))).trans e
 done:=λs Q E st hQ=>zld hh st.1 st.2 dat (Ak _) λh' eb=>hQ h' s.toks λb o hb e=>eb b o (λz=>hb (by simp[z])) e
 self:=λi s Q E st hQ=>wpAny_pyIter_keyiter st.1 hQ
theorem zkj{Q:Bool->Ac->Prop}(g:s.heap.get? d=some od)(x:od.ExactDict)(h:Q false s):Ao (Au prog w) A (Builtin.List.listLengthHint (.ref d)) Q E s:=by
 have ty:s.TypeIs (.ref d) "dict":=⟨od,g,x.1⟩;unfold Builtin.List.listLengthHint;refine Ab (wpAny_specialOf ty PySem.F.slot_dict_len.lookup ?_);generalize hid:("dict.__len__" : String)=id0
 wp_delta
 rw[show splitId id0=some ("dict","__len__") from by subst hid;decide +kernel];subst hid;refine Ab (wpAny_isInstance (T:="dict") (b:=true) ty (by rw[isSubtype_type];kernel_rfl) ?_);refine wpAny_ite_split (λhab=>absurd hab (by decide)) (λ_=>?_);refine wpAny_ite_split (λ_=>?_) (λhab=>absurd (by decide +kernel) hab);refine Ab (wpAny_typeOf (T:="dict") ty ?_);exact Ae h
theorem zhF{R:Result -> Ac -> Prop}(hh:A.handled=none)(lo:(d == BR)=false)(g:s.heap.get? d=some od)(x:od.ExactDict)(dat:od.data = .dict es ep)(hz:es.size <= 2 ^ 24)
    (S:Addr) (res:Value) (c₀:Nat) (hS:s.heap.get? S=some { cls:=.type "list",data:=.seq #[] c₀ })
    (hR:∀h' tk acc' c',(∀b o,b≠S->s.heap.get? b=some o->h'.get? b=some o)->h'.get? S=some { cls:=.type "list",dict:=none,data:=.seq acc' c',slots:=#[] } ->
      ItemsOf (λi v=>∃e,es[i]?=some e/\v=e.key) acc' es.size->R (.ok (.ret res)) { s with heap:=h',toks:=tk }) :
    Ao (Au prog w) A.in1 (CG (.ref S) (.ref d) res)
      (λfin s'=>match fin with |.done f=>R (.ok f) s' |.again c'=>c'.quiet=true/\Co (Au prog w) A c' R s') (λe s'=>R (.error e) s') s:=by
  have hSr:S≠d:=λe=>by rw[e,g]at hS;have:=x.1;cases hS;exact absurd (show C9 "list" = C9 "dict" from this) (by decide)
  have hSlt:S<s.heap.objs.size:=Ay hS;have hdlt:d<s.heap.objs.size:=Ay g;have hSI:S≠s.heap.objs.size:=A8 hSlt
  have hSf:S ∉ [s.heap.objs.size,d]:=λhm=>by
    rcases AG.mp hm with z |z
    . exact hSI z
    . exact hSr (Aj.mp z)
  have W:=(ziK (prog:=prog) (w:=w) (A:=A.in1) hh s.heap.objs.size d (A8 hdlt) dat).toS
  have key:∀(h:Heap) (c₁ tk:Nat), h.IsKeyIter s.heap.objs.size d 0 es.size ep /\ h.get? d=some od -> (∀b o, b ≠ S -> s.heap.get? b=some o -> h.get? b=some o) ->
      h.get? S=some { cls:=.type "list",data:=.seq #[] c₁ }->Co (Au prog w) A (.builtin "list.extend.loop" ⟨[.ref S,.ref s.heap.objs.size,res],[]⟩) R { s with heap:=h,toks:=tk }:=by
    intro h c₁ tk hit hk hS₁;refine codeAny_extend_loopS W (by rw[sizeLine_eq];lia) S hSf res es.size 0 _ #[] c₁ rfl (Ba _) hit hS₁ (ItemsOf.nil _) λs' acc' c' hm hS' hacc=>?_
    rw[Moved.eq_with hm];refine hR s'.heap s'.toks acc' c' (λb o hb e=>hm.heap b o (λhmem=>?_) (hk b o hb e)) hS' hacc;rcases AG.mp hmem with e' |hmem
    . exact hb e'
    . exact absurd (Ay e) (by rw[Aj.mp hmem];exact Cm _)
  unfold CG;refine Ab (wpAny_typeOf (T:="dict") ⟨od,g,x.1⟩ ?_);have h1:Builtin.List.listSameRef (.ref S) (.ref d)=false:=by simp[Builtin.List.listSameRef,hSr]
  have h2:(C9 "dict" == C9 "list")=false:=by decide
  have h3:(C9 "dict" == C9 "tuple")=false:=by decide
  simp only[h1,h2,h3,Bool.or_false,AZ,if_false];refine Ab (zj8 lo g x dat ?_);refine Ab (Bg (zkj (Af _ g) x ?_));have hit₁:(s.heap.push { cls:=.type "dict_keyiterator",data:=.fields #[.ref d,.int 0 0,.int es.size 0,.int ep 0] }).IsKeyIter s.heap.objs.size d 0 es.size ep:=⟨_,AI _ rfl,rfl,rfl⟩;have hg₁:=Af { cls:=.type "dict_keyiterator",data:=.fields #[.ref d,.int 0 0,.int es.size 0,.int ep 0] } g;have hS₁:=Af { cls:=.type "dict_keyiterator",data:=.fields #[.ref d,.int 0 0,.int es.size 0,.int ep 0] } hS;refine wpAny_ite_split (λ_=>?_) (λhab=>absurd (by decide) hab);refine Ab (CM ?_);refine Ab ?_
  show Ao _ _ (updateSeq S (·.push .none) >>= λ_=>updateSeq S (·.pop)) _ _ _;refine Ab (Dl hS₁ rfl ?_);have hS₂:=BI (AU (·.push BE)) hS₁ rfl;refine Dl (hz:=by seq_fits) hS₂ rfl ?_
  have hS₃:=BI (AU (·.pop)) hS₂ rfl;refine Ae ⟨DR PySem.F.plain_extend_loop _,key _ _ _ ⟨hit₁.at λo e=>?_,?_⟩ (λb o hb e=>?_) hS₃⟩
  . exact (AX _ _ hSI).trans ((AX _ _ hSI).trans e)
  . exact (AX _ _ hSr).trans ((AX _ _ hSr).trans hg₁)
  . exact (AX _ _ (BG hb)).trans ((AX _ _ (BG hb)).trans (Af _ e))
theorem zki{R:Result -> Ac -> Prop}(hh:A.handled=none)(lo:(d == BR)=false)(g:s.heap.get? d=some od)(x:od.ExactDict)(dat:od.data = .dict es ep)(hz:es.size <= 2 ^ 24)
  (S:Addr) (hS:s.heap.get? S=some { cls:=.type "list",data:=.seq #[] })
  (hR:∀h' tk acc' c',(∀b o,b≠S->s.heap.get? b=some o->h'.get? b=some o)->h'.get? S=some { cls:=.type "list",dict:=none,data:=.seq acc' c',slots:=#[] } ->
   ItemsOf (λi v=>∃e,es[i]?=some e/\v=e.key) acc' es.size->R (.ok (.ret .none)) { s with heap:=h',toks:=tk }) :
  Ao (Au prog w) A.in1 (Builtin.«list.__init__» ⟨[.ref S,.ref d],[]⟩)
   (λfin s'=>match fin with |.done f=>R (.ok f) s' |.again c'=>c'.quiet=true/\Co (Au prog w) A c' R s') (λe s'=>R (.error e) s') s:=by
 have hSr:S≠d:=λe=>by rw[e,g]at hS;have:=x.1;cases hS;exact absurd (show C9 "list" = C9 "dict" from this) (by decide)
 show Ao _ _ (do let old <- Builtin.List.listItems (.ref S);Builtin.List.listUpdate (.ref S) (λ_=>#[]);letGo old.toList.reverse;CG (.ref S) (.ref d) .none) _ _ s;refine Ab ?_
 unfold Builtin.List.listItems;refine Ab (wpAny_seqItems hS rfl (Ae ?_));show Ao _ _ (updateSeq S (λ_=>#[]) >>= λ_=>letGo (#[]:Array Value).toList.reverse >>= λ_=>CG (.ref S) (.ref d) .none) _ _ s;refine Ab (Dl hS rfl ?_);have hS₂:=BI (AU (λ_=>(#[]:Array Value))) hS rfl
 have oth:∀b o,b≠S->s.heap.get? b=some o->(s.heap.update S (AU (λ_=>(#[]:Array Value)))).get? b=some o :=
  λb o hb e=>(AX _ _ (BG hb)).trans e
 refine Ab (D7 ?_);refine zhF hh lo (oth d _ (BG hSr) g) x dat hz S .none _ hS₂ λh' tk acc' c' hk hS' hacc=>?_
 exact hR h' tk acc' c' (λb o hb e=>hk b o hb (oth b o hb e)) hS' hacc
theorem zeU{Q:Value -> Ac -> Prop}(hh:A.handled=none)(lo:(d == BR)=false)(g:s.heap.get? d=some od)(x:od.ExactDict)(dat:od.data = .dict es ep)(hz:es.size <= 2 ^ 24)
  (hQ:∀h' tk acc' c',(∀b o,s.heap.get? b=some o->h'.get? b=some o) ->
   h'.get? s.heap.objs.size=some { cls:=.type "list",dict:=none,data:=.seq acc' c',slots:=#[] }->ItemsOf (λi v=>∃e,es[i]?=some e/\v=e.key) acc' es.size->Q (.ref s.heap.objs.size) { s with heap:=h',toks:=tk }) :
  Ao (Au prog w) A (call (.type "list") [.ref d]) Q E s:=by
 refine callType_codes (Q₁:=λobj s₁=>obj=.ref s.heap.objs.size/\s₁={ s with heap:=s.heap.push { cls:=.type "list",data:=.seq #[] } }) PySem.F.called_list (PySem.F.typeCall_list_1 _) PySem.F.entry_list_init
  (code_list_new _ ⟨rfl,rfl⟩) λobj s₁ h₁=>?_
 obtain⟨rfl,rfl⟩:=h₁;have hS:(s.heap.push { cls:=.type "list",data:=.seq #[] }).get? s.heap.objs.size=some { cls:=.type "list",data:=.seq #[] }:=AI _ rfl;refine⟨⟨_,hS,rfl⟩,PySem.F.args_list_init_2 _ _,zki (A:=A.in1) hh lo (Af _ g) x dat hz _ hS λh' tk acc' c' hk hS' hacc=>?_⟩;exact⟨rfl,hQ h' tk acc' c' (λb o e=>hk b o (A8 (Ay e)) (Af _ e)) hS' hacc⟩
end
noncomputable def KeyL(H:Hp)(ts:List V)(kvs:List (List Key×V)):Prop:=ts.length=kvs.length/\∀(i:Nat) t k v,ts[i]?=some t->kvs[i]?=some (k,v)->∃b,t=.ref b/\H b=some (.tup (k.map kV))
section
variable {X:Cx}
theorem zg4 (hh:X.calm=true):CallR X (.type "list") (λxs H Q=>∃a kvs,xs=[.ref a]/\Rd H a (.dT kvs)/\∀l ts,H l=none->KeyL H ts kvs->Q (.ref l) (upd H l (.lst ts))):=by
 intro pins s σ H xs us Q I r h;obtain⟨a,kvs,rfl,e,q⟩:=h;obtain⟨u,rfl,rx⟩:=vals1 r
 cases rx
 obtain⟨z,y,ys,rr,od,es,ep,h1,h2,h3,h4,h5⟩:=(show ObjOk X.prog X.w H s.heap a (.dT kvs) from rd_of I.hok e);have hsz:es.size=kvs.length:=by rw[size_of_entries h4,<- C0 rr]
 have z':=z;rw[sizeLine_eq]at z';refine zeU (show X.A.handled=none from I.ok.hd hh) y h1 h2 h3 (by lia) λh' tk acc c kp g hacc=>?_
 have at_i:∀(i:Nat) (u:Value),acc[i]?=some u->∃b k v,kvs[i]?=some (k,v)/\u=.ref b/\H b=some (.tup (k.map kV)):=λi u hu=>by
  obtain⟨en,he,rfl⟩:=hacc.2 i u hu
  have hi:i<kvs.length:=by have:=(A0.mp he).1;lia
  obtain⟨q',hq,q1,q2,q3⟩:=Paired.at' rr (Aa hi);have he':es[i]?=some (entryOfKey (DH (zaE X.prog X.w)) q'):=by rw[entry_at h4,hq];rfl
  rw[he]at he'
  cases he'
  exact⟨q'.2.1,kvs[i].1,kvs[i].2,Aa hi,rfl,q2⟩
 have hal:acc.size=kvs.length:=by rw[<- hsz];exact hacc.1
 let ts:List V:=acc.toList.map λu=>match u with |.ref b=>V.ref b |_=>V.non
 have hts:ts.length=kvs.length:=by simp[ts,hal]
 have hrel:Vals ts acc.toList:=zkB (by simp[ts]) λi x u hx hu=>by
  rw[AF,hu]at hx
  cases hx
  obtain⟨b,k,v,_,rfl,_⟩:=at_i i u (by simpa using hu);rfl
 have hn:H s.heap.objs.size=none:=I.hok.fresh (Ak _);refine⟨.ref s.heap.objs.size,_,I.laid (t':=tk) (o:=.lst ts) kp (Ak _) ⟨by rw[hts];exact z,acc.toList,c,hrel,by rw[Array.toArray_toList];exact g⟩,rfl,q _ ts hn ⟨hts,λi t k v ht hk=>?_⟩⟩;have hi:i<acc.toList.length:=by have:=(Ad.mp ht).1;simpa[ts]using this
 have hu:acc.toList[i]?=some acc.toList[i]:=Aa hi;obtain⟨b,k',v',hk',hu',hb⟩:=at_i i acc.toList[i] (by simpa using hu);rw[hk]at hk'
 cases hk'
 rw[AF,hu]at ht
 cases ht
 rw[hu'];exact⟨b,rfl,hb⟩
end
section
variable {X:Cx}{es:List Expr}{te:TE}{t:TA}{pos:Pos}
theorem pa_T{l:List Expr}{k:Nat}(ha:PE X (.Tuple l k pos) te)(hr:PA X es t):PA X (.Tuple l k pos::es) (tCons te t):=zah ha hr (by rfl)
theorem pa_C{c:Const}{k:Nat}(ha:PE X (.Constant c k pos) te)(hr:PA X es t):PA X (.Constant c k pos::es) (tCons te t):=zah ha hr (by rfl)
theorem pa_B{a b:Expr}{o:Operator}(ha:PE X (.BinOp a o b pos) te)(hr:PA X es t):PA X (.BinOp a o b pos::es) (tCons te t):=zah ha hr (by rfl)
theorem pa_N{x:Str}(ha:PE X (.Name x pos) te)(hr:PA X es t):PA X (.Name x pos::es) (tCons te t):=zah ha hr (by rfl)
end
theorem zat{i:Nat}{v:V}{σ:St}{H:Hp}{Q:St->Hp->Prop}:gName i v σ H Q=Q (σ.set i (some v)) H:=rfl
theorem znG{i:Nat}{v:V}{u:TS}{D:Ends}{σ:St}{H:Hp}:tSeq (tAsg (tC v) (gName i)) u D σ H=u D (σ.set i (some v)) H:=rfl
section
variable {X:Cx}{tg:Expr}
end
inductive IsC:Expr->V->Prop where
 |int {n:Int} {k:Nat} {p:Pos}:IsC (.Constant (.int n) k p) (.int n)
 |bl {b:Bool} {k:Nat} {p:Pos}:IsC (.Constant (.bool b) k p) (.bl b)
 |neg {n:Int} {k:Nat} {p q:Pos}:IsC (.UnaryOp .USub (.Constant (.int n) k p) q) (.int (-n))
inductive IsPs:List Expr->List (V×V)->Prop where
 |nil:IsPs [] []
 |cons {a b:Expr} {x y:V} {k:Nat} {p:Pos} {es:List Expr} {l:List (V×V)}:IsC a x->IsC b y->IsPs es l->IsPs (.Tuple [a,b] k p::es) ((x,y)::l)
inductive RetPs:List Stmt->List (V×V)->Prop where
 |mk {es:List Expr} {l:List (V×V)} {p q:Pos}:IsPs es l->RetPs [.Return (some (.List es p)) q] l
section
variable {X:Cx}
end
section
variable {X:Cx}
end
section
variable {prog:AD}{w:A5}{A:AM}{E:Value->Ac->Prop}{s:Ac}{T:String}{r d:Addr}{n:Nat}{P:Nat->Value->Prop}{OK:Heap->Prop}
end
section
variable {X:Cx}
end
noncomputable def zmW(td ty tx:TE):TE:=λσ H Q=>td σ H λx H1=>∃a,x=.ref a/\IsD H1 a/\ty σ H1 λy H2=>tx σ H2 λz H3=>∃kvs k,H3 a=some (.dK kvs)/\y=kV k/\kvs.length<sizeLine /\
 (∀v,valV kvs k=some v->Q v H3)/\(valV kvs k=none->Q z (upd H3 a (.dK (putK kvs k z))))
section
variable {X:Cx}{o e f:Expr}{apos cpos:Pos}{td ty tx:TE}
theorem zic (ho:PE X o td) (he:PE X e ty) (hf:PE X f tx) (m:M2 X o "setdefault" apos e f cpos):PE X (.Call (.Attribute o "setdefault" apos) [e,f] [] cpos) (zmW td ty tx):=by
 intro pins s σ H Q I h;refine wpAny_Call_method m.base m.few m.line D4 Cw PySem.F.type_dict_setdefault (thn (ho pins s σ H _ I h) λu s1 ⟨x,H1,I1,rx,a,ex,d,q1⟩=>?_);subst ex;obtain rfl:u=An a:=rx;obtain⟨t1,t2,_⟩:=zkg I1 d;refine⟨t1,t2,?_⟩;rw[m.trees]
 refine Dc rfl (DB (Cj (thn (he pins s1 σ H1 _ I1 q1) λiv s2 ⟨y,H2,I2,ry,q2⟩ =>
  Cj (thn (hf pins s2 σ H2 _ I2 q2) λfv s3 ⟨z,H3,I3,rz,kvs,k,eD,ey,hl,k1,k2⟩=>Calls.spliced_nil ?_))))
 subst ey;obtain⟨zz,hd,vs,rel,dd⟩:=dk_of I3.hok eD
 refine call_meetsIn Cw dd.typeIs PySem.F.entry_dict_setdefault (PySem.F.args_dict_setdefault_3 _ _ _) (PySem.kt_meets_setdefault (zaE X.prog X.w) a (kV_is ry) hd fv)
  ⟨vs,dd,by rw[<- rel.length];exact zz,λp ep=>?_,λen h' dd' hs=>?_⟩
 .have rv:=rel.val k;rw[ep]at rv
  cases hv:valV kvs k with
  |none=>rw[hv]at rv;exact Bu rv
  |some v=>rw[hv]at rv;exact⟨v,H3,I3.tok _,rv,k1 v hv⟩
 .have hn:valV kvs k=none := by
   have rv:=(rel.val k).isSome_eq;rw[en]at rv
   cases hv:valV kvs k with
   |none=>rfl
   |some v=>rw[hv]at rv;exact absurd rv (by simp)
  have hz:(putK kvs k z).length<=sizeLine:=by have:=zaP kvs k z;lia
  have hq:∃q,h'.get? a=some q:=let ⟨q,_,_,hq,_⟩:=dd';⟨q,hq⟩
  exact⟨z,_,zdc I3 (by rw[eD];exact Ci) hs hq (zko hz hd (rel.put k rz) dd'),rz,k2 hn⟩
end
section
variable {X:Cx}{tg:Expr}
end
section
variable {prog:AD}{w:A5}{A:AM}{E:Value->Ac->Prop}{s:Ac}{d it v:Addr}{i ep:Nat}{es:Array DictEntry}{od:Obj}{ok ov:Value}
end
section
variable {X:Cx}
end
end L2
namespace RP
noncomputable def av(w:Nat):Int:=if w=0∨w=1 then 1 else 0
noncomputable def bv(w:Nat):Int:=if w=1∨w=2 then 1 else 0
noncomputable def eU(e:Edge):Int:=px e+py e+av e.w
noncomputable def eV(e:Edge):Int:=py e-px e+bv e.w
noncomputable def tt(C:Cell->Bool)(e:Edge):Int:=match stepB C e with
 |none=>1
 |some s=>if s % 2=1 then -1 else 0
noncomputable def eK(w:Nat):Int:=(if w=1∨w=2 then 1 else 0)+(if w=2∨w=3 then 1 else 0)+av w
noncomputable def eL(w:Nat):Int:=(if w=2∨w=3 then 1 else 0)-(if w=1∨w=2 then 1 else 0)+bv w
theorem e_tab:∀w<4,∀v<4,(eK w-eK v+(eL w-eL v)) % 2≠0∨w=v∨(eK w-eK v-(eL w-eL v)=2*(mv ((2*w+6) % 8)).1/\eK w-eK v+(eL w-eL v)=2*(mv ((2*w+6) % 8)).2):=by decide
theorem eU_of(e:Edge):eU e=e.c.1+e.c.2+eK e.w:=by unfold eU px py eK;lia
theorem eV_of(e:Edge):eV e=e.c.2-e.c.1+eL e.w:=by unfold eV px py eL;lia
theorem e_inj{C:Cell->Bool}{e f:Edge}(he:IsE C e)(hf:IsE C f)(h1:eU e=eU f)(h2:eV e=eV f):e=f:=by
 rw[eU_of,eU_of]at h1;rw[eV_of,eV_of]at h2;have t:=e_tab e.w he.1 f.w hf.1;obtain⟨⟨x,y⟩,w⟩:=e;obtain⟨⟨x',y'⟩,w'⟩:=f;simp only at h1 h2 t;rcases t with z |z |⟨z1,z2⟩
 .exfalso;lia
 .subst z;have a:x=x':=by lia
  have b:y=y':=by lia
  rw[a,b]
 .have g:=he.2.2;have a:x'=x+(mv ((2*w+6) % 8)).1:=by lia
  have b:y'=y+(mv ((2*w+6) % 8)).2:=by lia
  have c:=hf.2.1;rw[a,b]at c;exact absurd (c.symm.trans g) (by decide)
theorem zdq{C:Cell->Bool}{e:Edge}(h:IsE C e):eU (nxt C e)=eU e+(av e.w+av (nxt C e).w-1)/\eV (nxt C e)=eV e+(bv e.w+bv (nxt C e).w-1):=by obtain⟨p,q⟩:=zjN h;unfold eU eV;rw[p,q];have hw:=h.1;generalize (nxt C e).w=w';rcases way4 hw with r |r |r |r <;> rw[r] <;> simp[av,bv,dx,dy] <;> lia
theorem zfn{C:Cell -> Bool}{e:Edge}(h:IsE C e) :
  (tt C e=-1/\(nxt C e).w=(e.w+3) % 4)∨(tt C e=0/\(nxt C e).w=e.w)∨(tt C e=1/\(nxt C e).w=(e.w+1) % 4):=by
 unfold tt;rcases zba h with⟨_,s,q⟩ |⟨_,_,s,q⟩ |⟨_,_,s,q⟩ <;> rw[q,s] <;> simp only
 .left;rw[if_pos (odd7 _)];exact⟨by decide,trivial⟩
 .right;left;rw[if_neg (by lia)];exact⟨by decide,trivial⟩
 .right;right;exact⟨by decide,trivial⟩
theorem c_at{C:Cell->Bool}{a b c d:Int}{v:Bool}(h:C (a,b)=v)(h1:c=a)(h2:d=b):C (c,d)=v:=by subst h1 h2;exact h
theorem ze3{C:Cell -> Bool}{e:Edge}(h:IsE C e)(ht:tt C e=0) :
  C (px e+dx e.w-1,py e+dy e.w-1)=decide (e.w=1∨e.w=2)/\C (px e+dx e.w,py e+dy e.w-1)=decide (e.w=2∨e.w=3):=by
 obtain⟨⟨x,y⟩,w⟩:=e;obtain⟨hw,hc,hg⟩:=id h;rcases zba h with⟨_,s,q⟩ |⟨k1,k2,s,q⟩ |⟨_,_,s,q⟩
 .exfalso;unfold tt at ht;rw[s]at ht;simp only at ht;rw[if_pos (odd7 _)]at ht;exact absurd ht (by decide)
 .simp only at hw hc k1 k2
  rcases way4 hw with rfl |rfl |rfl |rfl <;> simp only[gap,go,mv,px,py,dx,dy]at hg k1 k2 ⊢ <;> simp at hg k1 k2 hc ⊢ <;>
   refine⟨?_,?_⟩ <;> first |exact c_at hg (by lia) (by lia) |exact c_at hc (by lia) (by lia) |exact c_at k1 (by lia) (by lia) |exact c_at k2 (by lia) (by lia)
 .exfalso;unfold tt at ht;rw[s]at ht;exact absurd ht (by decide)
theorem zd3(w:Nat):av w=0∨av w=1:=by unfold av;split <;> simp
theorem ziH(w:Nat):bv w=0∨bv w=1:=by unfold bv;split <;> simp
theorem zf7:∀w<4,∀n,n=(w+3) % 4∨n=(w+1) % 4->(av w=av n/\bv w+bv n=1)∨(av w+av n=1/\bv w=bv n):=by intro w hw n hn;rcases hn with rfl |rfl <;> revert w <;> decide
theorem dx_av:∀w<4,dx w=av w-bv w/\dy w=av w+bv w-1:=by decide
theorem zmt{C:Cell->Bool}{e f:Edge}(he:IsE C e)(hf:IsE C f)(h1:eU e+eU (nxt C e)=eU f+eU (nxt C f))(h2:eV e+eV (nxt C e)=eV f+eV (nxt C f)):e=f:=by
 obtain⟨a1,a2⟩:=zdq he;obtain⟨b1,b2⟩:=zdq hf
 have key:e=f∨(tt C e=0/\tt C f=0/\px e+dx e.w=px f+dx f.w/\py e+dy e.w=py f+dy f.w)∨(eU e=eU (nxt C f)/\eV e=eV (nxt C f)/\e.w≠(nxt C f).w):=by
  rw[a1,b1]at h1;rw[a2,b2]at h2
  have ta:(tt C e=0/\(nxt C e).w=e.w)∨(av e.w=av (nxt C e).w/\bv e.w+bv (nxt C e).w=1)∨(av e.w+av (nxt C e).w=1/\bv e.w=bv (nxt C e).w):=by
   rcases zfn he with⟨_,n⟩ |q |⟨_,n⟩
   .exact .inr (zf7 _ he.1 _ (.inl n))
   .exact .inl q
   .exact .inr (zf7 _ he.1 _ (.inr n))
  have tb:(tt C f=0/\(nxt C f).w=f.w)∨(av f.w=av (nxt C f).w/\bv f.w+bv (nxt C f).w=1)∨(av f.w+av (nxt C f).w=1/\bv f.w=bv (nxt C f).w):=by
   rcases zfn hf with⟨_,n⟩ |q |⟨_,n⟩
   .exact .inr (zf7 _ hf.1 _ (.inl n))
   .exact .inl q
   .exact .inr (zf7 _ hf.1 _ (.inr n))
  have fin:eU e=eU f->eV e=eV f->e=f:=λq1 q2=>e_inj he hf q1 q2
  have dif:∀{g:Nat->Int},g e.w≠g (nxt C f).w->e.w≠(nxt C f).w:=λ{g} q z=>q (by rw[z])
  rw[b1,b2];rcases ta with⟨t1,n1⟩ |⟨p1,p2⟩ |⟨p1,p2⟩ <;> rcases tb with⟨t2,n2⟩ |⟨q1,q2⟩ |⟨q1,q2⟩
  .rw[n1,n2]at h1 h2;have u1:eU e=px e+py e+av e.w:=rfl;have u2:eV e=py e-px e+bv e.w:=rfl;have v1:eU f=px f+py f+av f.w:=rfl;have v2:eV f=py f-px f+bv f.w:=rfl;obtain⟨d1,d2⟩:=dx_av _ he.1;obtain⟨d3,d4⟩:=dx_av _ hf.1;exact .inr (.inl ⟨t1,t2,by lia,by lia⟩)
  .rw[n1]at h1 h2;exfalso;lia
  .rw[n1]at h1 h2;exfalso;lia
  .rw[n2]at h1 h2;exfalso;lia
  .rcases Classical.em (av e.w=av f.w) with z |z
   .exact .inl (fin (by lia) (by lia))
   .have c1:=zd3 e.w;have c2:=zd3 f.w;exact .inr (.inr ⟨by lia,by lia,dif (g:=av) (by lia)⟩)
  .exfalso;lia
  .rw[n2]at h1 h2;exfalso;lia
  .exfalso;lia
  .rcases Classical.em (bv e.w=bv f.w) with z |z
   .exact .inl (fin (by lia) (by lia))
   .have c1:=ziH e.w;have c2:=ziH f.w;exact .inr (.inr ⟨by lia,by lia,dif (g:=bv) (by lia)⟩)
 rcases key with h |⟨t1,t2,q1,q2⟩ |⟨q1,q2,q3⟩
 .exact h
 .obtain⟨c1,c2⟩:=ze3 he t1;obtain⟨d1,d2⟩:=ze3 hf t2;rw[q1,q2]at c1 c2;rw[c1]at d1;rw[c2]at d2;have d1':=decide_eq_decide.mp d1;have d2':=decide_eq_decide.mp d2;have hw:=he.1;have hw':=hf.1;have ww:e.w=f.w:=by lia
  rw[ww]at q1 q2;refine e_inj he hf ?_ ?_ <;> simp only[eU,eV] <;> rw[ww] <;> lia
 .exact absurd (congrArg Edge.w (e_inj he (zdL hf) q1 q2)) q3
noncomputable def cr(x1 y1 x2 y2:Int):Int:=if y1=-1/\y2=0/\0<x2 then 1 else if y1=0/\y2=-1/\0<x1 then -1 else 0
noncomputable def crT(t y1 y2:Int):Int:=if y1=-1/\y2=0 then t else if y1=0/\y2=-1 then -t else 0
theorem zd1(t y:Int):crT t y y=0:=by unfold crT;rw[if_neg (by lia),if_neg (by lia)]
theorem ziD(t y z:Int):crT t y z+crT t z y=0:=by
 unfold crT
 by_cases h:y=-1/\z=0
 .rw[if_pos h,if_neg (by lia),if_pos ⟨h.2,h.1⟩];lia
 .by_cases k:y=0/\z=-1
  .rw[if_neg h,if_pos k,if_pos ⟨k.2,k.1⟩];lia
  .rw[if_neg h,if_neg k,if_neg (by lia),if_neg (by lia)];rfl
theorem cr_T{t x1 y1 x2 y2:Int}(h1:y1=0->(0<x1/\t=1)∨(¬ 0<x1/\t=0))(h2:y2=0->(0<x2/\t=1)∨(¬ 0<x2/\t=0)):cr x1 y1 x2 y2=crT t y1 y2:=by
 unfold cr crT
 by_cases h:y1=-1/\y2=0
 .rcases h2 h.2 with⟨q,r⟩ |⟨q,r⟩
  .rw[if_pos ⟨h.1,h.2,q⟩,if_pos h,r]
  .rw[if_neg (by lia),if_neg (by lia),if_pos h,r]
 .rw[if_neg (λz=>h ⟨z.1,z.2.1⟩),if_neg h]
  by_cases k:y1=0/\y2=-1
  .rcases h1 k.1 with⟨q,r⟩ |⟨q,r⟩
   .rw[if_pos ⟨k.1,k.2,q⟩,if_pos k,r]
   .rw[if_neg (by lia),if_pos k,r];rfl
  .rw[if_neg (λz=>k ⟨z.1,z.2.1⟩),if_neg k]
theorem cr_sq(u v a1 a2 b1 b2:Int)(ha1 : -1 <= a1 /\ a1 <= 1)(ha2 : -1 <= a2 /\ a2 <= 1)(hb1 : -1 <= b1 /\ b1 <= 1)(hb2 : -1 <= b2 /\ b2 <= 1)
  (h00:¬(u=0/\v=0)) (h10:¬(u+a1=0/\v+a2=0)) (h01:¬(u+b1=0/\v+b2=0)) (h11:¬(u+a1+b1=0/\v+a2+b2=0))
  (hc:¬(2*u+a1+b1=0/\2*v+a2+b2=0)) :
  cr u v (u+a1) (v+a2)+cr (u+a1) (v+a2) (u+a1+b1) (v+a2+b2)=cr u v (u+b1) (v+b2)+cr (u+b1) (v+b2) (u+a1+b1) (v+a2+b2):=by
 obtain⟨t,k00,k10,k01,k11⟩:∃t:Int,(v=0->(0<u/\t=1)∨(¬ 0<u/\t=0))/\(v+a2=0->(0<u+a1/\t=1)∨(¬ 0<u+a1/\t=0))/\(v+b2=0->(0<u+b1/\t=1)∨(¬ 0<u+b1/\t=0))/\(v+a2+b2=0->(0<u+a1+b1/\t=1)∨(¬ 0<u+a1+b1/\t=0)):=by
  rcases Classical.em ((v=0/\0<u)∨(v+a2=0/\0<u+a1)∨(v+b2=0/\0<u+b1)∨(v+a2+b2=0/\0<u+a1+b1)) with z |z
  .exact⟨1,λh=>.inl ⟨by lia,rfl⟩,λh=>.inl ⟨by lia,rfl⟩,λh=>.inl ⟨by lia,rfl⟩,λh=>.inl ⟨by lia,rfl⟩⟩
  .exact⟨0,λh=>.inr ⟨by lia,rfl⟩,λh=>.inr ⟨by lia,rfl⟩,λh=>.inr ⟨by lia,rfl⟩,λh=>.inr ⟨by lia,rfl⟩⟩
 rw[cr_T k00 k10,cr_T k10 k11,cr_T k00 k01,cr_T k01 k11];have c:a2=b2∨a2=0∨b2=0∨a2=-b2:=by lia
 rcases c with rfl |rfl |rfl |rfl
 .rfl
 .rw[Int.add_zero,zd1,zd1];lia
 .rw[Int.add_zero,Int.add_zero,zd1,zd1];lia
 .rw[show v+-b2+b2=v by lia,ziD,ziD]
section
variable (U V:Nat->Int)
noncomputable def hH(i j:Nat):Int:=cr (U j-U i) (V j-V i) (U (j+1)-U i) (V (j+1)-V i)
noncomputable def gG(i j:Nat):Int:=cr (U j-U i) (V j-V i) (U j-U (i+1)) (V j-V (i+1))
noncomputable def sE:Nat->Int
 | 0=>0
 |i+1=>sE i+hH U V i (i+1)+gG U V i (i+2)
noncomputable def sF(i:Nat):Nat->Int
 | 0=>sE U V i
 |d+1=>sF i d+hH U V i (i+1+d)
variable {U V}
variable {n:Nat}
theorem zhp(su:∀k, -1 <= U (k + 1)-U k /\ U (k + 1)-U k <= 1)(sv:∀k, -1 <= V (k + 1)-V k /\ V (k + 1)-V k <= 1)
  (hd:∀i j,i<j->j<=n->¬(i=0/\j=n)->¬(U j-U i=0/\V j-V i=0))
  (hm:∀i j,i<j->j<n->¬(U i+U (i+1)=U j+U (j+1)/\V i+V (i+1)=V j+V (j+1))) :
  ∀d i,i+2+d<=n->¬(i=0/\i+2+d=n)->sF U V (i+1) d-sF U V i (d+1)=gG U V i (i+2+d)
 | 0,i,h,hx=>by
  show sE U V (i+1)-(sE U V i+hH U V i (i+1+0))=_;show sE U V i+hH U V i (i+1)+gG U V i (i+2)-(sE U V i+hH U V i (i+1))=gG U V i (i+2);lia
 |d+1,i,h,hx=>by
  have ih:=zhp su sv hd hm d i (by lia) (by lia);show sF U V (i+1) d+hH U V (i+1) (i+1+1+d)-(sF U V i (d+1)+hH U V i (i+1+(d+1)))=gG U V i (i+2+(d+1));have j1:i+1+1+d=i+2+d:=by lia
  have j2:i+1+(d+1)=i+2+d:=by lia
  have j3:i+2+(d+1)=(i+2+d)+1:=by lia
  rw[j1,j2,j3];generalize hj:i+2+d=j at *
  have q:=cr_sq (U j-U i) (V j-V i) (-(U (i+1)-U i)) (-(V (i+1)-V i)) (U (j+1)-U j) (V (j+1)-V j)
   (by have:=su i;lia) (by have:=sv i;lia) (su j) (sv j)
   (hd i j (by lia) (by lia) (by lia))
   (by have:=hd (i+1) j (by lia) (by lia) (by lia);lia)
   (by have:=hd i (j+1) (by lia) (by lia) (by lia);lia)
   (by have:=hd (i+1) (j+1) (by lia) (by lia) (by lia);lia)
   (by have:=hm i j (by lia) (by lia);lia)
  have e1:U j-U i+-(U (i+1)-U i)=U j-U (i+1):=by lia
  have e2:V j-V i+-(V (i+1)-V i)=V j-V (i+1):=by lia
  have e3:U j-U i+(U (j+1)-U j)=U (j+1)-U i:=by lia
  have e4:V j-V i+(V (j+1)-V j)=V (j+1)-V i:=by lia
  have e5:U j-U (i+1)+(U (j+1)-U j)=U (j+1)-U (i+1):=by lia
  have e6:V j-V (i+1)+(V (j+1)-V j)=V (j+1)-V (i+1):=by lia
  rw[e1,e2,e3,e4,e5,e6]at q;have q':gG U V i j+hH U V (i+1) j=hH U V i j+gG U V i (j+1):=q;lia
theorem cr_up{a b c d:Int}(h1:0<=b)(h2:0<=d):cr a b c d=0:=by unfold cr;rw[if_neg (by lia),if_neg (by lia)]
theorem cr_dn{a b c d:Int}(h1:b=0->a<=0)(h2:d=0->c<=0):cr a b c d=0:=by unfold cr;rw[if_neg (by lia),if_neg (by lia)]
theorem zm9(hn : 3 <= n)(su:∀k, -1 <= U (k + 1)-U k /\ U (k + 1)-U k <= 1)(sv:∀k, -1 <= V (k + 1)-V k /\ V (k + 1)-V k <= 1)
  (hd:∀i j,i<j->j<=n->¬(i=0/\j=n)->¬(U j-U i=0/\V j-V i=0))
  (hm:∀i j,i<j->j<n->¬(U i+U (i+1)=U j+U (j+1)/\V i+V (i+1)=V j+V (j+1)))
  (hU:U n=U 0) (hV:V n=V 0) (mV:∀k,k<n->V 0<=V k) (mU:∀k,k<n->V k=V 0->U 0<=U k) :
  sE U V (n-1)=gG U V 0 (n-1)+hH U V 1 (n-1):=by
 have r0:∀d,d+2<=n->sF U V 0 d=0:=by
  intro d
  induction d with
  |zero=>intro _;rfl
  |succ d ih =>
   intro h;show sF U V 0 d+hH U V 0 (0+1+d)=0;rw[ih (by lia)];have:=mV (0+1+d) (by lia);have:=mV (0+1+d+1) (by lia);unfold hH;rw[cr_up (by lia) (by lia)];rfl
 have s1:=zhp su sv hd hm (n-3) 0 (by lia) (by lia);rw[show n-3+1=n-2 by lia,r0 (n-2) (by lia),show 0+2+(n-3)=n-1 by lia]at s1
 have s2:sF U V 1 (n-2)=sF U V 1 (n-3)+hH U V 1 (n-1):=by have:sF U V 1 (n-3+1)=sF U V 1 (n-3)+hH U V 1 (1+1+(n-3)):=rfl;rw[show n-3+1=n-2 by lia,show 1+1+(n-3)=n-1 by lia]at this;exact this
 have r1:∀k,1+k<=n-1->sF U V (1+k) (n-2-k)=sF U V 1 (n-2):=by
  intro k
  induction k with
  |zero=>intro _;rfl
  |succ k ih =>
   intro h;have s:=zhp su sv hd hm (n-3-k) (1+k) (by lia) (by lia);rw[show n-3-k+1=n-2-k by lia,show 1+k+2+(n-3-k)=n by lia,ih (by lia)]at s
   have z:gG U V (1+k) n=0:=by unfold gG;have a1:=mV (1+k) (by lia);have a2:=mU (1+k) (by lia);have b1:=mV (1+k+1) (by lia);have b2:=mU (1+k+1) (by lia);exact cr_dn (by lia) (by lia)
   rw[z]at s;rw[show 1+(k+1)=1+k+1 by lia,show n-2-(k+1)=n-3-k by lia];lia
 have e:=r1 (n-2) (by lia);rw[show 1+(n-2)=n-1 by lia,show n-2-(n-2)=0 by lia]at e;show sF U V (n-1) 0=_;rw[e];have:(0:Nat)+1=1:=rfl;rw[this]at s1;lia
end
noncomputable def crs(x1 y1 x2 y2:Int):Int:=cr x1 y1 (x1+x2) (y1+y2)+cr (x1+x2) (y1+y2) x2 y2
noncomputable def ok8(w i j:Nat):Bool :=
 let w1:=(w+i+3) % 4
 let w2:=(w1+j+3) % 4
 let t:Int:=(i:Int)-1
 let t':Int:=(j:Int)-1
 crs (av w+av w1-1) (bv w+bv w1-1) (av w1+av w2-1) (bv w1+bv w2-1) == (2*((w:Int)+t)-1+t') / 8-(2*(w:Int)-1+t) / 8 &&
 crs (-(av w+av w1-1)) (-(bv w+bv w1-1)) (-(av w1+av w2-1)) (-(bv w1+bv w2-1)) == (2*((w:Int)+t)-1+t'+4) / 8-(2*(w:Int)-1+t+4) / 8
theorem all8:∀w<4,∀i<3,∀j<3,ok8 w i j=true:=by decide
noncomputable def it(C:Cell->Bool)(b:Edge):Nat->Edge
 | 0=>b
 |k+1=>nxt C (it C b k)
theorem Chain.get{C:Cell->Bool}{b:Edge}{es:List Edge}(h:Chain C b es):∀i,i<es.length->es[i]?=some (it C b i)
 | 0,_=>h.1
 |i+1,hi=>by
  have h1:=Chain.get h i (by lia);have:=h.2.1 i _ _ h1 (Aa hi);rw[Aa hi,this];rfl
theorem Closed.pos{C:Cell->Bool}{b:Edge}{es:List Edge}(h:Closed C b es):0<es.length:=(Ad.mp h.1.1).1
theorem Closed.it_len{C:Cell->Bool}{b:Edge}{es:List Edge}(h:Closed C b es):it C b es.length=b:=by
 obtain⟨hc,l,hl,hb⟩:=id h;have hp:=h.pos;have:=hc.get (es.length-1) (by lia);rw[hl]at this
 cases this
 have e:it C b (es.length-1+1)=nxt C (it C b (es.length-1)):=rfl;rw[show es.length-1+1=es.length by lia]at e;rw[e,hb]
theorem it_ok{C:Cell->Bool}{b:Edge}(h:IsE C b):∀k,IsE C (it C b k)
 | 0=>h
 |k+1=>zdL (it_ok h k)
noncomputable def wW(C:Cell->Bool)(b:Edge):Nat->Int
 | 0=>b.w
 |k+1=>wW C b k+tt C (it C b k)
theorem tt_ix{C:Cell->Bool}{e:Edge}(h:IsE C e):∃i:Nat,i<3/\tt C e=(i:Int)-1/\(nxt C e).w=(e.w+i+3) % 4:=by
 have hw:=h.1;rcases zfn h with⟨a,b⟩ |⟨a,b⟩ |⟨a,b⟩
 .exact⟨0,by decide,by rw[a];rfl,by rw[b]⟩
 .exact⟨1,by decide,by rw[a];rfl,by rw[b];lia⟩
 .exact⟨2,by decide,by rw[a];rfl,by rw[b];lia⟩
theorem zgg{C:Cell->Bool}{b:Edge}(h:IsE C b):∀k,wW C b k % 4=((it C b k).w:Int)
 | 0=>by have:=h.1;show (b.w:Int) % 4=b.w;lia
 |k+1=>by
  have ih:=zgg h k;obtain⟨i,hi,e1,e2⟩:=tt_ix (it_ok h k);show (wW C b k+tt C (it C b k)) % 4=((nxt C (it C b k)).w:Int);rw[e1,e2];lia
noncomputable def th(C:Cell->Bool)(b:Edge)(k:Nat):Int:=2*wW C b k-1+tt C (it C b k)
noncomputable def up8(w i:Nat):Bool :=
 let w1:=(w+i+3) % 4
 decide (0<bv w+bv w1-1∨(bv w+bv w1-1=0/\0<=av w+av w1-1)) == decide ((2*(w:Int)-1+((i:Int)-1)) % 8<4) &&
 decide (bv w+bv w1-1<0∨(bv w+bv w1-1=0/\av w+av w1-1<=0)) == decide (4<=(2*(w:Int)-1+((i:Int)-1)) % 8) &&
 !(decide (av w+av w1-1=0/\bv w+bv w1-1=0))
theorem znD:∀w<4,∀i<3,up8 w i=true:=by decide
theorem half{C:Cell -> Bool}{b:Edge}(h:IsE C b)(k:Nat) :
  ((0<eV (it C b (k+1))-eV (it C b k)∨(eV (it C b (k+1))-eV (it C b k)=0/\0<=eU (it C b (k+1))-eU (it C b k))) ↔ th C b k % 8<4) /\
  ((eV (it C b (k+1))-eV (it C b k)<0∨(eV (it C b (k+1))-eV (it C b k)=0/\eU (it C b (k+1))-eU (it C b k)<=0)) ↔ 4<=th C b k % 8) /\
  ¬ (eU (it C b (k+1))-eU (it C b k)=0/\eV (it C b (k+1))-eV (it C b k)=0):=by
 obtain⟨i,hi,e1,e2⟩:=tt_ix (it_ok h k);obtain⟨s1,s2⟩:=zdq (it_ok h k);have q:=znD _ (it_ok h k).1 i hi;have m:=zgg h k;simp only[up8,Bd,beq_iff_eq,decide_eq_decide,Bool.not_eq_true',decide_eq_false_iff_not]at q;rw[<- e2]at q;obtain⟨⟨q1,q2⟩,q3⟩:=q;have t:th C b k % 8=(2*((it C b k).w:Int)-1+((i:Int)-1)) % 8:=by unfold th;rw[e1];lia
 rw[t];have d1:eU (it C b (k+1))-eU (it C b k)=av (it C b k).w+av (nxt C (it C b k)).w-1:=by show eU (nxt C (it C b k))-_=_;lia
 have d2:eV (it C b (k+1))-eV (it C b k)=bv (it C b k).w+bv (nxt C (it C b k)).w-1:=by show eV (nxt C (it C b k))-_=_;lia
 rw[d1,d2];exact⟨q1,q2,q3⟩
theorem sub0{a b:Int}(h:b-a=0):a=b:=by lia
theorem zhV{a b c:Int}(h:a=b+c):a-b=c:=by lia
theorem turn8{C:Cell -> Bool}{b:Edge}(h:IsE C b)(k:Nat) :
  crs (eU (it C b (k+1))-eU (it C b k)) (eV (it C b (k+1))-eV (it C b k)) (eU (it C b (k+2))-eU (it C b (k+1))) (eV (it C b (k+2))-eV (it C b (k+1)))=th C b (k+1) / 8-th C b k / 8 /\
  crs (-(eU (it C b (k+1))-eU (it C b k))) (-(eV (it C b (k+1))-eV (it C b k))) (-(eU (it C b (k+2))-eU (it C b (k+1)))) (-(eV (it C b (k+2))-eV (it C b (k+1))))=(th C b (k+1)+4) / 8-(th C b k+4) / 8:=by
 obtain⟨i,hi,e1,e2⟩:=tt_ix (it_ok h k);obtain⟨j,hj,f1,f2⟩:=tt_ix (it_ok h (k+1));obtain⟨s1,s2⟩:=zdq (it_ok h k);obtain⟨s3,s4⟩:=zdq (it_ok h (k+1));have m:=zgg h k;have q:=all8 _ (it_ok h k).1 i hi j hj;simp only[ok8,Bd,beq_iff_eq]at q;have w1:(it C b (k+1)).w=((it C b k).w+i+3) % 4:=e2;rw[<- w1,<- f2]at q;have wn:wW C b (k+1)=wW C b k+((i:Int)-1):=by show wW C b k+tt C (it C b k)=_;rw[e1]
 have t0:th C b k=2*wW C b k-1+((i:Int)-1):=by unfold th;rw[e1]
 have t1:th C b (k+1)=2*(wW C b k+((i:Int)-1))-1+((j:Int)-1):=by unfold th;rw[f1,wn]
 have d1:eU (it C b (k+1))-eU (it C b k)=av (it C b k).w+av (it C b (k+1)).w-1:=zhV s1;have d2:eV (it C b (k+1))-eV (it C b k)=bv (it C b k).w+bv (it C b (k+1)).w-1:=zhV s2;have d3:eU (it C b (k+2))-eU (it C b (k+1))=av (it C b (k+1)).w+av (nxt C (it C b (k+1))).w-1:=zhV s3;have d4:eV (it C b (k+2))-eV (it C b (k+1))=bv (it C b (k+1)).w+bv (nxt C (it C b (k+1))).w-1:=zhV s4;rw[d1,d2,d3,d4,t0,t1,q.1,q.2];clear q d1 d2 d3 d4 s1 s2 s3 s4 t0 t1 wn w1 f1 f2 e1 e2;generalize wW C b k=W at *;generalize (it C b k).w=w at *;constructor <;> lia
theorem zni:∀w<4,∀i<3,¬ (av w+av ((w+i+3) % 4)=1/\bv w+bv ((w+i+3) % 4)=1):=by decide
theorem zkN{T0 Tm Tn D s:Int}(key:Tm / 8-T0 / 8=(Tn+4) / 8-(Tm+4) / 8)(u0:T0 % 8<4)(um:4<=Tm % 8)(hD:D % 4=0)(hn:Tn=T0+2*D)(hm:Tm=Tn-s)(s1:-2<=s)(s2:s<=2):(D=4/\0<s)∨(D=-4/\s<0):=by
 obtain⟨d,rfl⟩:∃d,D=4*d:=⟨D / 4,by lia⟩;have h1:(Tn+4) / 8=T0 / 8+d:=by lia
 have h2:(Tm+4) / 8=Tm / 8+1:=by lia
 rw[h1,h2]at key;have a1:T0=8*(T0 / 8)+T0 % 8:=by lia
 have a2:Tm=8*(Tm / 8)+Tm % 8:=by lia
 have a3:0<=T0 % 8:=by lia
 have a4:Tm % 8<8:=by lia
 generalize T0 / 8=a at *;generalize Tm / 8=c at *;generalize T0 % 8=r at *;generalize Tm % 8=p at *;clear h1 h2 hD;have:c-a-d=-1∨c-a-d=0:=by lia
 rcases this with z |z
 .exact .inl ⟨by lia,by lia⟩
 .exact .inr ⟨by lia,by lia⟩
theorem Closed.least_sign{C:Cell -> Bool}{b:Edge}{es:List Edge}(h:Closed C b es)
  (hmin:∀f∈es,eV b<=eV f/\(eV f=eV b->eU b<=eU f)):(wW C b es.length-wW C b 0=4/\0<tt C (it C b (es.length-1))+tt C b)∨(wW C b es.length-wW C b 0=-4/\tt C (it C b (es.length-1))+tt C b<0):=by
 have hp:=h.pos;have hE:IsE C b:=h.1.2.2.1 b (Ai h.1.1);have hl:=h.it_len;have get:=h.1.get;have nd:=h.1.2.2.2;generalize hn:es.length=n at *;have mem:∀k,k<n->it C b k∈es:=λk hk=>Ai (get k hk)
 have inj:∀i j,i<j->j<n->it C b i≠it C b j:=λi j hij hj e=>by have:=(CZ (i:=i) (j:=j) (by lia) nd).mp (by rw[get i (by lia),get j hj,e]);lia
 have n3:3<=n:=by
  have h0:=half hE 0;have h1:=half hE 1;have l1:=zgg hE 1;rcases AY n 3 with hlt |hge
  .exfalso;have:n=1∨n=2:=by lia
   rcases this with e |e
   .rw[e]at hl;have z:=h0.2.2;rw[show 0+1=1 from rfl,hl]at z;exact z ⟨by show eU b-eU b=0;lia,by show eV b-eV b=0;lia⟩
   .rw[e]at hl;have a:=(tt_ix (it_ok hE 0));have c:=(tt_ix (it_ok hE 1));obtain⟨s1,s2⟩:=zdq (it_ok hE 0);obtain⟨s3,s4⟩:=zdq (it_ok hE 1);change it C b (1+1)=b at hl;have hl':nxt C (it C b 1)=b:=hl;rw[hl']at s3 s4;have i0:it C b 0=b:=rfl;have i1:nxt C (it C b 0)=it C b 1:=rfl;obtain⟨i,hi,_,e2⟩:=a;rw[i1,i0]at s1 s2 e2;have hw:=hE.1;have hw1:=(it_ok hE 1).1;have x1:av b.w+av (it C b 1).w=1:=by lia
    have x2:bv b.w+bv (it C b 1).w=1:=by lia
    rw[e2]at x1 x2;exact zni _ hw _ hi ⟨x1,x2⟩
  .exact hge
 have key:=zm9 (U:=λk=>eU (it C b k)) (V:=λk=>eV (it C b k)) n3
  (λk=>by obtain⟨s1,_⟩:=zdq (it_ok hE k);show -1<=eU (nxt C (it C b k))-eU (it C b k)/\eU (nxt C (it C b k))-eU (it C b k)<=1;have a:=zd3 (it C b k).w;have c:=zd3 (nxt C (it C b k)).w;lia)
  (λk=>by
   obtain⟨_,s1⟩:=zdq (it_ok hE k);show -1<=eV (nxt C (it C b k))-eV (it C b k)/\eV (nxt C (it C b k))-eV (it C b k)<=1;have a:bv (it C b k).w=0∨bv (it C b k).w=1:=by unfold bv;split <;> simp
   have c:bv (nxt C (it C b k)).w=0∨bv (nxt C (it C b k)).w=1:=by unfold bv;split <;> simp
   lia)
  (λi j hij hj hx z=>by
   have e:=e_inj (it_ok hE i) (it_ok hE j) (sub0 z.1) (sub0 z.2);rcases AY j n with hlt |hge
   .exact inj i j hij hlt e
   .have:j=n:=by lia
    rw[this,hl]at e;exact inj 0 i (by lia) (by lia) e.symm)
  (λi j hij hj z=>inj i j hij hj (zmt (it_ok hE i) (it_ok hE j) z.1 z.2))
  (by show eU (it C b n)=eU b;rw[hl]) (by show eV (it C b n)=eV b;rw[hl])
  (λk hk=>(hmin _ (mem k hk)).1) (λk hk=>(hmin _ (mem k hk)).2)
 have sE_th:∀k,sE (λk=>eU (it C b k)) (λk=>eV (it C b k)) k=th C b k / 8-th C b 0 / 8:=by
  intro k
  induction k with
  |zero=>show (0:Int)=_;lia
  |succ k ih =>
   have q:=(turn8 hE k).1;unfold crs at q;have e1:eU (it C b (k+1))-eU (it C b k)+(eU (it C b (k+2))-eU (it C b (k+1)))=eU (it C b (k+2))-eU (it C b k):=by lia
   have e2:eV (it C b (k+1))-eV (it C b k)+(eV (it C b (k+2))-eV (it C b (k+1)))=eV (it C b (k+2))-eV (it C b k):=by lia
   rw[e1,e2]at q;show sE (λk=>eU (it C b k)) (λk=>eV (it C b k)) k+hH (λk=>eU (it C b k)) (λk=>eV (it C b k)) k (k+1)+gG (λk=>eU (it C b k)) (λk=>eV (it C b k)) k (k+2)=_;rw[ih];unfold hH gG;show th C b k / 8-th C b 0 / 8+cr (eU (it C b (k+1))-eU (it C b k)) (eV (it C b (k+1))-eV (it C b k)) (eU (it C b (k+2))-eU (it C b k)) (eV (it C b (k+2))-eV (it C b k))+cr (eU (it C b (k+2))-eU (it C b k)) (eV (it C b (k+2))-eV (it C b k)) (eU (it C b (k+2))-eU (it C b (k+1))) (eV (it C b (k+2))-eV (it C b (k+1)))=_;lia
 obtain⟨m,rfl⟩:∃m,n=m+1:=⟨n-1,by lia⟩;rw[show m+1-1=m by lia,sE_th]at key;have i2:it C b (m+2)=it C b 1:=by show nxt C (it C b (m+1))=nxt C b;rw[hl]
 have q:=(turn8 hE m).2;rw[i2,hl]at q;unfold crs at q;unfold gG hH at key;simp only at key;rw[hl]at key;have z0:it C b 0=b:=rfl;rw[show 0+1=1 from rfl,z0]at key;have e1:-(eU b-eU (it C b m))+-(eU (it C b 1)-eU b)=eU (it C b m)-eU (it C b 1):=by lia
 have e2:-(eV b-eV (it C b m))+-(eV (it C b 1)-eV b)=eV (it C b m)-eV (it C b 1):=by lia
 have e3:-(eU b-eU (it C b m))=eU (it C b m)-eU b:=by lia
 have e4:-(eV b-eV (it C b m))=eV (it C b m)-eV b:=by lia
 have e5:-(eU (it C b 1)-eU b)=eU b-eU (it C b 1):=by lia
 have e6:-(eV (it C b 1)-eV b)=eV b-eV (it C b 1):=by lia
 rw[e1,e2,e3,e4,e5,e6]at q;rw[q]at key
 have u0:th C b 0 % 8<4:=by
  refine (half hE 0).1.mp ?_
  obtain⟨a,c⟩:=hmin _ (mem 1 (by lia));rw[z0];show 0<eV (it C b 1)-eV b∨(eV (it C b 1)-eV b=0/\0<=eU (it C b 1)-eU b);lia
 have um:4<=th C b m % 8:=by
  refine (half hE m).2.1.mp ?_
  obtain⟨a,c⟩:=hmin _ (mem m (by lia));rw[hl];lia
 have md:=zgg hE (m+1);rw[hl]at md;have w0:wW C b 0=(b.w:Int):=rfl;have wn:wW C b (m+1)=wW C b m+tt C (it C b m):=rfl;have t0:th C b 0=2*wW C b 0-1+tt C b:=rfl;have tm:th C b m=2*wW C b m-1+tt C (it C b m):=rfl;have tn:th C b (m+1)=2*wW C b (m+1)-1+tt C b:=by unfold th;rw[hl]
 obtain⟨i,hi,r1,_⟩:=tt_ix hE;obtain⟨j,hj,r2,_⟩:=tt_ix (it_ok hE m);rw[show m+1-1=m from rfl];exact zkN key u0 um (by lia) (by lia) (by lia) (by lia) (by lia)
theorem Closed.least_turn{C:Cell -> Bool}{b:Edge}{es:List Edge}(h:Closed C b es)
  (hmin:∀f∈es,eV b<=eV f/\(eV f=eV b->eU b<=eU f)):wW C b es.length-wW C b 0=4∨wW C b es.length-wW C b 0=-4 :=
 (h.least_sign hmin).imp And.left And.left
theorem Closed.head{C:Cell->Bool}{b a:Edge}{r:List Edge}(h:Closed C b (a::r)):a=b:=by have:=h.1.1;simpa using this
theorem Closed.rot1{C:Cell->Bool}{b c:Edge}{r:List Edge}(h:Closed C b (b::r))(hc:(r++[b])[0]?=some c):Closed C c (r++[b]):=by
 obtain⟨⟨h0,hs,hE,hn⟩,l,hl,hb⟩:=id h;refine⟨⟨hc,λi e f h1 h2=>?_,λe he=>hE e (by rcases AQ.mp he with m |m;exact Aq _ m;rw[Aj.mp m];exact Ax),?_⟩,?_⟩
 .have hi:=(Ad.mp h2).1;simp only[Am,A4,Cc]at hi;rw[Aw (by lia)]at h1;rcases AY (i+1) r.length with q |q
  .rw[Aw q]at h2;exact hs (i+1) e f (by simpa using h1) (by simpa using h2)
  .have e1:i+1=r.length:=by lia
   rw[AK (by lia),e1]at h2;simp at h2;have e2:(b::r).length-1=i+1:=by simp;lia
   rw[e2]at hl;simp only[C6]at hl;rw[hl]at h1
   cases h1
   rw[hb,h2]
 .rw[Dt];have:=BJ.mp hn;exact⟨this.2,by simp,λx hx y hy e=>by rw[Aj.mp hy]at e;rw[e]at hx;exact this.1 hx⟩
 .refine⟨b,by simp,?_⟩
  cases r with
  |nil =>
   simp at hl hc;subst hc;subst hl;exact hb
  |cons a r =>
   simp at hc;have:=hs 0 b a rfl rfl;rw[<- this,hc]
theorem Closed.rot{C:Cell->Bool}:∀(j:Nat){b e:Edge}{es:List Edge},Closed C b es->es[j]?=some e->Closed C e (es.drop j++es.take j)
 | 0,b,e,es,h,he=>by
  have:=h.1.1;rw[he]at this
  cases this
  simpa using h
 |j+1,b,e,[],h,he=>by simp at he
 |j+1,b,e,a::r,h,he=>by
  have:=h.head;subst this;simp only[C6]at he;have hj:=(Ad.mp he).1;obtain⟨c,hc⟩:∃c,(r++[a])[0]?=some c:=⟨_,Aa (by simp)⟩;have h1:=h.rot1 hc;have h2:=Closed.rot j h1 (by rw[Aw hj];exact he);rw[List.drop_append_of_le_length (by lia),List.take_append_of_le_length (by lia)]at h2;simpa using h2
theorem zlw{C:Cell->Bool}{b:Edge}{es:List Edge}(h:Chain C b es):∀i,i<=es.length->((es.take i).map (tt C)).sum=wW C b i-wW C b 0
 | 0,_=>by simp
 |i+1,hi=>by
  have ih:=zlw h i (by lia);rw[DF,h.get i (by lia)];simp only[Option.toList_some,A6,A9,List.map_nil,List.sum_append,Do,List.sum_nil];rw[ih];show _=wW C b i+tt C (it C b i)-wW C b 0;lia
theorem zeq:∀(es:List Edge),es≠[]->∃b∈es,∀f∈es,eV b<=eV f/\(eV f=eV b->eU b<=eU f)
 |[],h=>absurd rfl h
 |[a],_=>⟨a,by simp,λf hf=>by rw[Aj.mp hf];exact⟨Int.le_refl _,λ_=>Int.le_refl _⟩⟩
 |a::c::r,_=>by
  obtain⟨b,hb,q⟩:=zeq (c::r) (by simp)
  by_cases hl:eV b<eV a∨(eV b=eV a/\eU b<=eU a)
  .refine⟨b,Aq _ hb,λf hf=>?_⟩;rcases AG.mp hf with rfl |hf
   .lia
   .exact q f hf
  .refine⟨a,Ax,λf hf=>?_⟩;rcases AG.mp hf with rfl |hf
   .lia
   .have:=q f hf;lia
theorem zl4(l:List Int)(j:Nat):(l.drop j++l.take j).sum=l.sum:=by
 have:=CP j l;rw[List.sum_append]
 conv=>rhs;rw[<- this,List.sum_append]
 lia
theorem Closed.turning{C:Cell->Bool}{b:Edge}{es:List Edge}(h:Closed C b es):(es.map (tt C)).sum=4∨(es.map (tt C)).sum=-4:=by
 have hp:=h.pos;obtain⟨e,he,q⟩:=zeq es (by intro z;rw[z]at hp;simp at hp);obtain⟨j,hj,ej⟩:=AE he;have h1:=h.rot j (by rw[Aa hj,ej])
 have h2:=h1.least_turn (λf hf=>q f (by
  rcases AQ.mp hf with m |m
  .exact BB m
  .exact B5 m))
 rw[<- zlw h1.1 _ (Ak _),AS,A6,List.map_drop,List.map_take,zl4]at h2;exact h2
theorem zhS(C:Cell->Bool):∀es:List Edge,(es.map (tt C)).sum=((es.filter λe=>(stepB C e).isNone).length:Int)-((es.filter λe=>slant (stepB C e)).length:Int)
 |[]=>rfl
 |e::r=>by
  have ih:=zhS C r
  have q:tt C e=(if (stepB C e).isNone=true then 1 else 0)-(if slant (stepB C e)=true then 1 else 0):=by
   unfold tt
   cases hs:stepB C e with
   |none=>rfl
   |some s =>
    by_cases h:s % 2=1
    .simp[slant,h]
    .have h0:s % 2=0:=by lia
     simp[slant,h0]
  simp only[A9,Do,CJ];rw[q,ih];split <;> split <;> (try simp only[A4]) <;> lia
noncomputable def wc(c:Cell)(e:Edge):Int:=if e.c.2=c.2/\c.1<px e then dy e.w else 0
noncomputable def wd(es:List Edge)(c:Cell):Int:=(es.map (wc c)).sum
inductive Rch (D:Cell->Bool) (S:List Nat) (a:Cell):Cell->Prop where
 |refl:Rch D S a a
 |step {c:Cell} {s:Nat}:Rch D S a c->s∈S->D (go c s)=true->Rch D S a (go c s)
noncomputable abbrev no(C:Cell->Bool):Cell->Bool:=λc=>!C c
structure BoxOf (P:List Cell) (l lo r hi:Int):Prop where
 all:∀c∈P,l<c.1/\c.1<r/\lo<c.2/\c.2<hi
 bot:∃c∈P,c.2=lo+1
noncomputable def inBox(l lo r hi:Int)(c:Cell):Prop:=l<=c.1/\c.1<=r/\lo<=c.2/\c.2<=hi
structure FreeOf (D:Cell->Bool) (P:List Cell) (l lo r hi:Int):Prop where
 iff:∀c,D c=true ↔ (inBox l lo r hi c/\c ∉ P)
section
variable {C D:Cell->Bool}{b:Edge}{es:List Edge}{P:List Cell}{l lo r hi:Int}
end
noncomputable def isUp(y:Int)(e:Edge):Bool:=(e.w == 1 ||e.w == 3) && e.c.2 == y
noncomputable def upr(es:List Edge)(y:Int):List Int:=(es.filter (isUp y)).map px
theorem zfW{y:Int}{e:Edge}:isUp y e=true ↔ (e.w=1∨e.w=3)/\e.c.2=y:=by simp[isUp]
noncomputable def zbg(s:Nat):Nat:=(s+1) / 2 % 4
noncomputable def wayB(s:Nat):Nat:=(zbg s+4-s % 2) % 4
noncomputable def dgo:Nat->List Nat->List (Option Nat)×Nat
 |w,[]=>([],w)
 |w,s::r=>(Ah ((zbg s+4-w) % 4) none++some s::(dgo (wayB s) r).1,(dgo (wayB s) r).2)
noncomputable def zaN(w:Nat)(row:List Nat):Nat:=if row.isEmpty then 4 else (w+4-(dgo w row).2) % 4
noncomputable def deeds(w:Nat)(row:List Nat):List (Option Nat):=(dgo w row).1++Ah (zaN w row) none
theorem zkL{C:Cell->Bool}{e:Edge}(h:IsE C e){s:Nat}(hs:stepB C e=some s):zbg s=e.w/\wayB s=(nxt C e).w/\s<8:=by have hw:=h.1;rcases zba h with⟨_,q,n⟩ |⟨_,_,q,n⟩ |⟨_,_,q,n⟩ <;> rw[n] <;> rw[q]at hs <;> cases hs <;> unfold wayB zbg <;> simp only <;> rcases way4 hw with r |r |r |r <;> rw[r] <;> decide
theorem zih{C:Cell->Bool}{e:Edge}(h:IsE C e)(hs:stepB C e=none):nxt C e=⟨e.c,(e.w+1) % 4⟩:=by
 rcases zba h with⟨_,q,n⟩ |⟨_,_,q,n⟩ |⟨_,_,q,n⟩
 .rw[q]at hs;cases hs
 .rw[q]at hs;cases hs
 .exact n
noncomputable def zlV(C:Cell->Bool)(es:List Edge):Prop:=∀i,¬ ∀m,m<4->∃e,es[i+m]?=some e/\stepB C e=none
theorem zf2{C:Cell -> Bool}{b:Edge}{es:List Edge}(h:Chain C b es)(hE:IsE C b)(nf:zlV C es):∀(n p j w:Nat), es.length-p=n -> p <= es.length -> j <= 3 -> j <= p -> w < 4 -> (∀m, m < j -> ∃e, es[p-1-m]? = some e /\ stepB C e=none) ->
    (it C b p).w=(w+j) % 4->∃t,t<=3/\Ah j none++(es.drop p).map (stepB C)=(dgo w (((es.drop p).map (stepB C)).filterMap id)).1++Ah t none /\
      ((dgo w (((es.drop p).map (stepB C)).filterMap id)).2+t) % 4=(it C b es.length).w/\(dgo w (((es.drop p).map (stepB C)).filterMap id)).2<4
  | 0,p,j,w,hn,hp,hj,hjp,hw,hl,hway=>by
    have e:es.drop p=[]:=List.drop_eq_nil_iff.mpr (by lia);have hpe:p=es.length:=by lia
    rw[e,<- hpe];exact⟨j,hj,by simp[dgo],hway.symm,hw⟩
  |n+1,p,j,w,hn,hp,hj,hjp,hw,hl,hway=>by
    have hlt:p<es.length:=by lia
    have hd:es.drop p=es[p]::es.drop (p+1):=List.drop_eq_getElem_cons hlt;have hg:=h.get p hlt;rw[Aa hlt]at hg;have hg':es[p]=it C b p:=AT hg;have hEp:IsE C (it C b p):=it_ok hE p;rw[hd,hg']
    cases hs:stepB C (it C b p) with
    |none =>
      have hj3:j+1<=3:=by
        rcases AY j 3 with q |q
        . lia
        . exfalso;have j3:j=3:=by lia
          subst j3;refine nf (p-3) λm hm=>?_
          rcases AY m 3 with a |a
          . obtain⟨e,h1,h2⟩:=hl (2-m) (by lia);exact⟨e,by rw[<- h1];congr 1;lia,h2⟩
          . have:m=3:=by lia
            subst this;exact⟨_,by rw[show p-3+3=p by lia,Aa hlt,hg'],hs⟩
      have hnx:=zih hEp hs
      obtain⟨t, t3, q1, q2, q3⟩ := zf2 h hE nf n (p + 1) (j + 1) w (by lia) (by lia) hj3 (by lia) hw (λm hm => by
          cases m with
          |zero=>exact⟨_,by rw[show p+1-1-0=p by lia,Aa hlt,hg'],hs⟩
          |succ m =>
            obtain⟨e,h1,h2⟩:=hl m (by lia);exact⟨e,by rw[<- h1];congr 1;lia,h2⟩) (by
          show (nxt C (it C b p)).w=_;rw[hnx];simp only;rw[hway];lia)
      refine⟨t,t3,?_,?_,?_⟩
      . simp only[A9,hs];rw[show (none::(es.drop (p+1)).map (stepB C)).filterMap id=((es.drop (p+1)).map (stepB C)).filterMap id from rfl,<- q1,DG];simp
      . simp only[A9,hs];exact q2
      . simp only[A9,hs];exact q3
    |some s =>
      obtain⟨w1,w2,_⟩:=zkL hEp hs;have hwB:wayB s<4:=B9 _ (by decide)
      obtain⟨t, t3, q1, q2, q3⟩ := zf2 h hE nf n (p + 1) 0 (wayB s) (by lia) (by lia) (by lia) (by lia) hwB (λm hm => by lia) (by
          show (nxt C (it C b p)).w=_;rw[w2,Nat.add_zero];have:=(zdL hEp).1;lia)
      refine⟨t,t3,?_,?_,?_⟩
      . simp only[A9,hs];rw[show (some s::(es.drop (p+1)).map (stepB C)).filterMap id=s::((es.drop (p+1)).map (stepB C)).filterMap id from rfl];show _=(Ah ((zbg s+4-w) % 4) none++some s::(dgo (wayB s) _).1)++Ah t none;have hk:(zbg s+4-w) % 4=j:=by rw[w1,hway];lia
        rw[hk];have q1':(es.drop (p+1)).map (stepB C)=(dgo (wayB s) (((es.drop (p+1)).map (stepB C)).filterMap id)).1++Ah t none:=by simpa using q1
        rw[AL,List.cons_append,<- q1']
      . simp only[A9,hs];exact q2
      . simp only[A9,hs];exact q3
theorem zfV{C:Cell->Bool}{b:Edge}(hE:IsE C b){i:Nat}:∀m,(∀q,q<m->stepB C (it C b (i+q))=none)->it C b (i+m)=⟨(it C b i).c,((it C b i).w+m) % 4⟩
 | 0,_=>by
  have:=(it_ok hE i).1;show it C b i=_;rw[Nat.add_zero,Nat.mod_eq_of_lt this]
 |m+1,h=>by
  have ih:=zfV hE m λq hq=>h q (by lia)
  show nxt C (it C b (i+m))=_;rw[zih (it_ok hE (i+m)) (h m (by lia)),ih];simp only[Edge.mk.injEq,true_and];lia
theorem Closed.deeds{C:Cell->Bool}{b:Edge}{es:List Edge}(h:Closed C b es):es.map (stepB C)=RP.deeds b.w ((es.map (stepB C)).filterMap id):=by
 have hE:IsE C b:=h.1.2.2.1 b (Ai h.1.1);have hp:=h.pos;have hl:=h.it_len
 have four:∀i,(∀m,m<4->∃e,es[i+m]?=some e/\stepB C e=none)->i=0/\es.length=4:=λi hi=>by
  have hi3:i+3<es.length:=by obtain⟨e,h1,_⟩:=hi 3 (by decide);exact (Ad.mp h1).1
  have st:∀q,q<4->stepB C (it C b (i+q))=none:=λq hq=>by
   obtain⟨e,h1,h2⟩:=hi q hq;rw[h.1.get (i+q) (by lia)]at h1
   cases h1;exact h2
  have e4:=zfV hE 4 st
  have e4':it C b (i+4)=it C b i:=by rw[e4];have:=(it_ok hE i).1;rw[show ((it C b i).w+4) % 4=(it C b i).w by lia]
  rcases AY (i+4) es.length with q |q
  .exfalso;have:=(CZ (i:=i) (j:=i+4) (by lia) h.1.2.2.2).mp (by rw[h.1.get i (by lia),h.1.get (i+4) q,e4']);lia
  .have hn:es.length=i+4:=by lia
   rw[<- hn,hl]at e4';have:=(CZ (i:=0) (j:=i) (by lia) h.1.2.2.2).mp (by rw[h.1.get 0 hp,h.1.get i (by lia),<- e4'];rfl);lia
 by_cases hr:(es.map (stepB C)).filterMap id=[]
 .have all:∀i, i < es.length -> stepB C (it C b i)=none := λi hi => by
   have hg:=h.1.get i hi
   cases hs:stepB C (it C b i) with
   |none=>rfl
   |some s =>
    exfalso;have:s∈(es.map (stepB C)).filterMap id:=List.mem_filterMap.mpr ⟨some s,AV.mpr ⟨_,Ai hg,hs⟩,rfl⟩;rw[hr]at this;cases this
  have hn4:es.length=4:=by
   have el:=zfV hE (i:=0) es.length (λq hq=>by rw[CF];exact all q hq);rw[CF,hl]at el;have ew:=congrArg Edge.w el;have hw:=hE.1;change b.w=(b.w+es.length) % 4 at ew;have h4:4<=es.length:=by lia
   refine (four 0 λm hm=>⟨it C b m,?_,all m (by lia)⟩).2;rw[CF];exact h.1.get m (by lia)
  rw[hr];show _=(dgo b.w []).1++Ah 4 none
  apply List.ext_getElem?
  intro i;rcases AY i 4 with q |q
  .rw[AF,h.1.get i (by lia),Dk,all i (by lia)];show _=(Ah 4 (none:Option Nat))[i]?;rw[List.getElem?_replicate,if_pos q]
  .rw[Dq (by rw[Ap];lia),Dq (by simp[dgo];lia)]
 .have nf:zlV C es := λi hi => by
   obtain⟨_,h4⟩:=four i hi;have hi0:=(four i hi).1;subst hi0
   apply hr
   apply List.filterMap_eq_nil_iff.mpr
   intro o ho;obtain⟨e,he,rfl⟩:=AV.mp ho;obtain⟨j,hj,ej⟩:=AE he;obtain⟨f,h1,h2⟩:=hi j (by lia);rw[CF,Aa hj,ej]at h1
   cases h1
   exact h2
  obtain⟨t,t3,q1,q2,q3⟩:=zf2 h.1 hE nf es.length 0 0 b.w (by lia) (by lia) (by lia) (by lia) hE.1 (λm hm=>by lia) (by
   show b.w=_;have:=hE.1;lia)
  rw[List.drop_zero]at q1 q2 q3;rw[hl]at q2
  have ht:zaN b.w ((es.map (stepB C)).filterMap id)=t:=by unfold zaN;rw[if_neg (by simpa using hr)];have:=hE.1;lia
  unfold RP.deeds;rw[ht];simpa using q1
end RP
namespace L2
open PySem PySem.Spec PyProof.Rows
section
variable {prog:AD}{w:A5}{K:Type} [DecidableEq K]
theorem zi2(knd:HeapKind prog w K)(d a:Addr) :
  MeetsIn prog w (Builtin.«dict.__delitem__» ⟨[.ref d,.ref a],[]⟩) λA R s=>knd.room A.in1/\∃k xs,knd.is s.heap k a/\Dj knd s.heap d xs/\xs.length<=sizeLine/\DP xs k≠none /\
   (∀(j:Nat) p,xs[j]?=some (k,p)->∀h',Dj knd h' d (xs.eraseIdx j)->Cn d s.heap h'->R (.ok (.ret .none)) { s with heap:=h',toks:=s.toks+knd.draws k }):=by
 intro A R s h;obtain⟨hr,k,xs,hk,hD,hsz,hne,h1⟩:=h;unfold Builtin.«dict.__delitem__» Builtin.Dict.dictSlotArgs;refine Ab (Ab (wpAny_notOrdered_dict hD.typeIs ?_));show Ao (Au prog w) A.in1 (pure (An d,An a)) _ _ s;refine Ae ?_
 show Ao _ _ (Builtin.Dict.takeOut d (.ref a) >>= _) _ _ s;refine Ab (zgl hr hk hD hsz (λe=>absurd e hne) λj p hj h' hD' hs=>?_);exact Ab (D7 (Ae (h1 j p hj h' hD' hs)))
end
section
variable {X:Cx}{o i:Expr}{pos pos':Pos}{td ty:TE}
noncomputable def zlH(td ty:TE):TS:=λD σ H=>td σ H λx H1=>ty σ H1 λy H2=>∃a kvs k b,x=.ref a/\H2 a=some (.dT kvs)/\y=.ref b/\H2 b=some (.tup (k.map kV))/\(valV kvs k).isSome=true/\D.nx σ (upd H2 a (.dT (dropK kvs k)))
theorem zkV(hu:X.A.units+1<cLine)(ho:PE X o td)(hi:PE X i ty):PS X (.Delete [.Subscript o i pos'] pos) (zlH td ty):=by
 intro pins s σ H D I h;refine wpAny_Delete (wpAny_deleteEach_cons (wpAny_delete_Subscript (thn (ho pins s σ H _ I h) λu s1 ⟨x,H1,I1,rx,q1⟩=>thn (hi pins s1 σ H1 _ I1 q1) λiv s2 ⟨y,H2,I2,ry,a,kvs,k,b,ex,eD,ey,eb,hv,q2⟩=>?_)));subst ex ey;obtain rfl:u=An a:=rx
 cases (show iv=An b from ry)
 obtain⟨zz,hd,xs,rel,dd⟩:=dt_of I2.hok eD
 have hne:DP xs k≠none:=λen=>by
  have rv:=(rel.val k).isSome_eq;rw[en,hv]at rv
  cases rv
 refine wpAny_delItem_slot dd.typeIs (by decide) PySem.F.slot_dict_delitem (call_meetsIn PySem.F.slot_dict_delitem dd.typeIs PySem.F.entry_dict_delitem (PySem.F.args_dict_delitem_2 _ _) (zi2 (DH (zaE X.prog X.w)) a b)
  ⟨CK hu,k,xs,zdM I2.hok eb,dd,by rw[<- C0 rel];exact zz,hne,λj p hj h' dd' hs=>?_⟩)
 obtain⟨_,_,_,_,_,_,_,_,hn⟩:=dd;obtain⟨i1,v,i2,i3⟩:=KT.erase rel hn hj;obtain⟨q,es,ep,hq,h2,h3,h4,_,h5⟩:=dd';refine wpAny_deleteEach_nil ⟨σ,_,?_,q2⟩;refine zdc I2 (by rw[eD];exact Ci) hs ⟨q,hq⟩ ⟨A3 (zlo kvs k) zz,hd,_,i1.keeps λc ys ec=>?_,q,es,ep,hq,h2,h3,h4,h5⟩;rw[zai (ne_of ec eD (λz=>nomatch z))];exact ec
end
section
variable {X:Cx}{osc:Scope}{N:List Str}{sc:Scope}{N':List Str}{sel:List (Option Nat)}{pos:Pos}{kx vx tg iter:Expr}{ifs:List Expr}{wi:TI}{g:TG}{tt:TT}{tk tv:TE}
noncomputable def zna(wi:TI)(sel:List (Option Nat))(g:TG)(tt:TT)(tk tv:TE)(i:Nat):TS:=λD σ H=>wi σ H λJ H1=>∀p,H1 p=none ->
 zb6 J g (tIfs tt (ze2 p tk tv)) { nx:=λ_ H'=>D.nx (σ.set i (some (.ref p))) H',rt:=λ_ _=>False } (selSt sel σ) (upd H1 p (.dT []))
theorem zkW{i:Nat}{x:Str}{px spos:Pos}(hu:X.A.units + 1 < cLine)(B:BlkOk osc N sc N' sel)(hnd:X.N.Nodup)(hi':X.N[i]? = some x)(hx:Loc X.env.scope x)(hi:PI X tg iter wi)(hg:InBlk X sc N' λY => PG Y tg g)(ht:InBlk X sc N' λY => PTs Y ifs tt)(hk:InBlk X sc N' λY => PE Y kx tk)(hv:InBlk X sc N' λY => PE Y vx tv)
  (hsw:swapsWith (.DictComp kx vx [⟨tg,iter,ifs,0⟩] sc pos) (some (.Name x px)) spos.line X.env=pure true:=by rfl)
  (ho:X.env.scope=osc:=by rfl) (hN:X.N=N:=by rfl) (hc:X.calm=true:=by rfl) (hs:∀x,Bi iter X.env x=pure x:=by intro _;rfl)
  (hf:X.fn x=true∨X.env.scope.names.lookup x=some .local:=by first |exact .inl rfl |exact .inr rfl |assumption) :
  PS X (.Assign [.Name x px] (.DictComp kx vx [⟨tg,iter,ifs,0⟩] sc pos) spos) (zna wi sel g tt tk tv i):=by
 intro pins s σ H D I h;obtain⟨cl,Cl⟩:=zfh I.ok B ho;rw[exec_Assign_Name_used _ _ _ _ hsw];refine Ab (CH (Ab ?_));show Ao _ X.A (do let _ <- comprehension (.DictComp kx vx [⟨tg,iter,ifs,0⟩] sc pos) sc X.env _ newDict false (eval iter X.env) (some (Dx (.Name x px) X.env))) _ _ s;refine Ab (thn (BZ (use:=some (Dx (.Name x px) X.env)) (Q:=λ_ s'=>SP X pins D .next s') rfl hs Cl.run B.kind B.names (thn (hi pins s σ H _ I h) λv s1 h1=>thn h1 λitv s2 h2=>?_)) λ_ s' hq=>Ae (Ae hq));obtain⟨it,fp,tn,J,H2,e,I2,T,st2,f2,h2⟩:=h2;subst e
 refine Bc (zcd (e:=.DictComp kx vx [⟨tg,iter,ifs,0⟩] sc pos) (inner:=λ_ _=>pure ()) (D:=λp=>{ nx:=λ_ H'=>D.nx (σ.set i (some (.ref p))) H',rt:=λ_ _=>False }) (tb:=λp=>ze2 p tk tv) (use:=some (Dx (.Name x px) X.env)) B ho hN hc (λacc env R s a b=>codeAny_compStart_dict a b)
  (zfg (iter:=iter) (pos:=pos) hu T hc hg ht hk hv) I2 T st2 f2 (zf1 s2.heap I2.big) rfl (h2 _ (I2.hok.fresh (Ak _))) (λC H' s' I3 fC hn hq=>?_) s2.toks cl Cl X.xe)
 obtain⟨m,hn⟩:=hn;obtain⟨_,hq⟩:=hq;show Ao _ X.A (Dx (.Name x px) X.env (.ref s2.heap.objs.size)) _ _ _;refine wpAny_assign_Name (zdg I3 hnd hi' hx (v:=.ref s2.heap.objs.size) rfl (λs4 I4 hch=>?_) hf);obtain⟨a,sb,ha⟩:=hch
 have nC:C≠a:=by
  rcases ha with z |z
  .rw[z];exact fC.2.1
  .exact λq=>fC.2.2.2.2.1 x a z q.symm
 refine⟨m,hn.sameBut sb nC,λh' hs'=>⟨_,H',I4.let_go fC hs',hq⟩⟩
end
theorem zcS{X:Cx}{K:W.Frag}(hu:X.A.units+65<cLine)(hK:X.K=K:=by rfl):OpR X (Bw .NotIn) (zhq K):=by subst hK;exact zjP hu
end L2
namespace HT
open PySem PyProof.Rows PySem.Spec
end HT
namespace L2
open PySem PySem.Spec PyProof.Rows
section
variable {X:Cx}{K:W.Frag}
end
open PySem
theorem sC{N P:List Str}{sc:Scope}(a:sc.kind = .function := by rfl)(b:sc.isCoroutine=false := by rfl)(c:sc.isGenerator=false := by rfl)(d:N.Nodup := by decide +kernel)(e:N.take P.length=P := by rfl)
  (f:∀x∈P,sc.names.lookup x=some .local∨sc.names.lookup x=some .cell:=by decide +kernel) (g:∀y∈sc.names,y.2≠.free:=by decide +kernel):FnScope N P sc:=⟨a,b,c,d,e,f,g⟩
section
variable {X:Cx}{k j:Nat}{x:Str}{ps:List Str}{sp:Sp}{e:Expr}{es:List Expr}{t:TA}{te:TE}{p pos pos':Pos}
theorem pC (g:Fn X.prog X.w X.K X.mg X.base k x ps sp) (hr:Room j X.A) (ha:PA X (e :: es) t) (hj:k <= j := by decide) (hg:Gl X x := by rfl) (hdb:(x == ("__debug__" : Str))=false := by decide)
  (he:Bl (e::es) X.env=(false,eval e X.env)::Bl es X.env:=by rfl) (hpl:(backTo pos (Bl es X.env)).any (·.1)=false:=by rfl):PE X (.Call (.Name x p) (e::es) [] pos) (tCall sp [] E0 t) :=
 zjL g.ok (hr.mono hj) hg g.m g.kp g.b .nil pass0 ha hdb he hpl
theorem nG(i:Nat)(hN:X.N.Nodup)(hi:X.N[i]?=some x:=by rfl)(hx:Loc X.env.scope x:=by exact Or.inl rfl)(hf:X.fn x=true∨X.env.scope.names.lookup x=some .local:=by first |exact .inl rfl |exact .inr rfl |assumption):PG X (.Name x pos) (gName i) :=
 zmf hN hi hx hf
theorem sE(i:Nat)(hN:X.N.Nodup)(he:PE X e te)(hi:X.N[i]? = some x := by rfl)(hx:Loc X.env.scope x := by exact Or.inl rfl)(hs:swapsWith e (some (.Name x pos')) pos.line X.env=pure false := by rfl)
  (hf:X.fn x=true∨X.env.scope.names.lookup x=some .local:=by first |exact .inl rfl |exact .inr rfl |assumption):PS X (.Assign [.Name x pos'] e pos) (tAsg te (gName i)) :=
 zh9 hN hi hx he hs hf
end
theorem bO{osc:Scope}{N:List Str}{sc:Scope}{N':List Str}{sel:List (Option Nat)}(a:sc.kind = .function := by rfl)(b:∀y ∈ sc.names, y.2 ≠ .cell := by decide +kernel)(c:∀y ∈ sc.names, y.2 = .local -> sc.names.lookup y.1=some .local := by decide +kernel)
  (d:∀y∈sc.names,y.2=.free->osc.names.lookup y.1=some .cell∨osc.names.lookup y.1=some .free:=by decide +kernel) (e:sel.length=N'.length:=by rfl) (f:∀p∈sel.zip N',∀i∈p.1,N[i]?=some p.2/\sc.names.lookup p.2=some .free:=by decide +kernel):BlkOk osc N sc N' sel:=⟨a,b,c,d,e,f⟩
section
variable {K:W.Frag}{x qual:Str}{st:Stmt}{f:Addr}{fd:Bz}
theorem Fun.b1{p0:Str}(F:Fun K x qual st f fd)(h:∀(kV doc pm:Value) (an:Option Addr) (cdv ct a0:Value),Dz (Db x qual (za2 st) (zaS st) (zad st) .none kV doc pm an cdv ct) ⟨[a0],[]⟩=pure [(p0,a0)]:=by intros;rfl):Binds K fd [p0] [] :=
 F.binds λkV doc pm an cdv ct us hl=>match us,hl with |[a0],_=>h kV doc pm an cdv ct a0
theorem Fun.b2{p0 p1:Str}(F:Fun K x qual st f fd)(h:∀(kV doc pm:Value) (an:Option Addr) (cdv ct a0 a1:Value),Dz (Db x qual (za2 st) (zaS st) (zad st) .none kV doc pm an cdv ct) ⟨[a0,a1],[]⟩=pure [(p0,a0),(p1,a1)]:=by intros;rfl):Binds K fd [p0,p1] [] :=
 F.binds λkV doc pm an cdv ct us hl=>match us,hl with |[a0,a1],_=>h kV doc pm an cdv ct a0 a1
theorem Fun.b3{p0 p1 p2:Str}(F:Fun K x qual st f fd)(h:∀(kV doc pm:Value) (an:Option Addr) (cdv ct a0 a1 a2:Value),Dz (Db x qual (za2 st) (zaS st) (zad st) .none kV doc pm an cdv ct) ⟨[a0,a1,a2],[]⟩=pure [(p0,a0),(p1,a1),(p2,a2)]:=by intros;rfl):Binds K fd [p0,p1,p2] [] :=
 F.binds λkV doc pm an cdv ct us hl=>match us,hl with |[a0,a1,a2],_=>h kV doc pm an cdv ct a0 a1 a2
theorem Fun.b4{p0 p1 p2 p3:Str}(F:Fun K x qual st f fd)(h:∀(kV doc pm:Value) (an:Option Addr) (cdv ct a0 a1 a2 a3:Value),Dz (Db x qual (za2 st) (zaS st) (zad st) .none kV doc pm an cdv ct) ⟨[a0,a1,a2,a3],[]⟩=pure [(p0,a0),(p1,a1),(p2,a2),(p3,a3)]:=by intros;rfl):Binds K fd [p0,p1,p2,p3] [] :=
 F.binds λkV doc pm an cdv ct us hl=>match us,hl with |[a0,a1,a2,a3],_=>h kV doc pm an cdv ct a0 a1 a2 a3
theorem Fun.b6{p0 p1 p2 p3 p4 p5:Str}(F:Fun K x qual st f fd)(h:∀(kV doc pm:Value) (an:Option Addr) (cdv ct a0 a1 a2 a3 a4 a5:Value),Dz (Db x qual (za2 st) (zaS st) (zad st) .none kV doc pm an cdv ct) ⟨[a0,a1,a2,a3,a4,a5],[]⟩=pure [(p0,a0),(p1,a1),(p2,a2),(p3,a3),(p4,a4),(p5,a5)]:=by intros;rfl):Binds K fd [p0,p1,p2,p3,p4,p5] [] :=
 F.binds λkV doc pm an cdv ct us hl=>match us,hl with |[a0,a1,a2,a3,a4,a5],_=>h kV doc pm an cdv ct a0 a1 a2 a3 a4 a5
end
noncomputable def DA(K:W.Frag)(x:Str)(st:Stmt):Prop:=∃(f:Addr) (od an:Option Addr) (sl:Array (Option Value)) (oc kV dc pm cd ct:Value),BW K Az x=some (some (.ref f)) /\
 K.lookup f=some ⟨oc,od,.func (Db x x (za2 st) (zaS st) (zad st) .none kV dc pm an cd ct),sl⟩/\W.codeIn K cd x=true/\DN K (.ref f)=true
section
variable {K:W.Frag}{mg:Str->Option Value}{h:Heap}{x:Str}{st:Stmt}
theorem DA.mk{f:Addr}{od an:Option Addr}{sl:Array (Option Value)}{oc kV dc pm cd ct:Value}(a:BW K Az x=some (some (.ref f)))
  (l:K.lookup f=some ⟨oc,od,.func (Db x x (za2 st) (zaS st) (zad st) .none kV dc pm an cd ct),sl⟩) (c:W.codeIn K cd x=true) (k:DN K (.ref f)=true):DA K x st :=
 ⟨f,od,an,sl,oc,kV,dc,pm,cd,ct,a,l,c,k⟩
theorem DA.d1{p0:Str}(D:DA K x st)(X:K.In h)(G:h.Ns Az mg)(hb:∀(kV doc pm:Value) (an:Option Addr) (cdv ct a0:Value),Dz (Db x x (za2 st) (zaS st) (zad st) .none kV doc pm an cdv ct) ⟨[a0],[]⟩=pure [(p0,a0)]:=by intros;rfl):Nonempty (Df K mg x st [p0]):=by obtain⟨f,od,an,sl,oc,kV,dc,pm,cd,ct,a,l,c,k⟩:=D;exact⟨⟨f,_,zcG l c k,Cq X G a,(zcG l c k).b1 hb⟩⟩
theorem DA.d2{p0 p1:Str}(D:DA K x st)(X:K.In h)(G:h.Ns Az mg)(hb:∀(kV doc pm:Value) (an:Option Addr) (cdv ct a0 a1:Value),Dz (Db x x (za2 st) (zaS st) (zad st) .none kV doc pm an cdv ct) ⟨[a0,a1],[]⟩=pure [(p0,a0),(p1,a1)]:=by intros;rfl):Nonempty (Df K mg x st [p0,p1]):=by obtain⟨f,od,an,sl,oc,kV,dc,pm,cd,ct,a,l,c,k⟩:=D;exact⟨⟨f,_,zcG l c k,Cq X G a,(zcG l c k).b2 hb⟩⟩
theorem DA.d3{p0 p1 p2:Str}(D:DA K x st)(X:K.In h)(G:h.Ns Az mg)(hb:∀(kV doc pm:Value) (an:Option Addr) (cdv ct a0 a1 a2:Value),Dz (Db x x (za2 st) (zaS st) (zad st) .none kV doc pm an cdv ct) ⟨[a0,a1,a2],[]⟩=pure [(p0,a0),(p1,a1),(p2,a2)]:=by intros;rfl):Nonempty (Df K mg x st [p0,p1,p2]):=by obtain⟨f,od,an,sl,oc,kV,dc,pm,cd,ct,a,l,c,k⟩:=D;exact⟨⟨f,_,zcG l c k,Cq X G a,(zcG l c k).b3 hb⟩⟩
theorem DA.d4{p0 p1 p2 p3:Str}(D:DA K x st)(X:K.In h)(G:h.Ns Az mg)(hb:∀(kV doc pm:Value) (an:Option Addr) (cdv ct a0 a1 a2 a3:Value),Dz (Db x x (za2 st) (zaS st) (zad st) .none kV doc pm an cdv ct) ⟨[a0,a1,a2,a3],[]⟩=pure [(p0,a0),(p1,a1),(p2,a2),(p3,a3)]:=by intros;rfl):Nonempty (Df K mg x st [p0,p1,p2,p3]):=by obtain⟨f,od,an,sl,oc,kV,dc,pm,cd,ct,a,l,c,k⟩:=D;exact⟨⟨f,_,zcG l c k,Cq X G a,(zcG l c k).b4 hb⟩⟩
theorem DA.d6{p0 p1 p2 p3 p4 p5:Str}(D:DA K x st)(X:K.In h)(G:h.Ns Az mg)(hb:∀(kV doc pm:Value) (an:Option Addr) (cdv ct a0 a1 a2 a3 a4 a5:Value),Dz (Db x x (za2 st) (zaS st) (zad st) .none kV doc pm an cdv ct) ⟨[a0,a1,a2,a3,a4,a5],[]⟩=pure [(p0,a0),(p1,a1),(p2,a2),(p3,a3),(p4,a4),(p5,a5)]:=by intros;rfl):Nonempty (Df K mg x st [p0,p1,p2,p3,p4,p5]):=by obtain⟨f,od,an,sl,oc,kV,dc,pm,cd,ct,a,l,c,k⟩:=D;exact⟨⟨f,_,zcG l c k,Cq X G a,(zcG l c k).b6 hb⟩⟩
end
open PySem PyProof.Rows
section
variable {X:Cx}{pos:Pos}
end
structure Fly (B:Heap) (l:List Env) (e:Addr) (o:Obj) (vs:Array Value) (fl:Value) (h:Heap):Prop where
 stay:B.StaysIn h
 new:B.get? e=none
 fr:h.FunFrames B l
 tb:∃T oT ts,h.get? e=some { o with data:=.fields (vs.setIfInBounds 1 (.ref T)) }/\1<vs.size/\B.get? T=none/\T≠e/\h.get? T=some oT/\oT.data=.fields ts/\ts[3]?=some fl
section
variable {M:DM}{A:AM}{E:Value->Ac->Prop}{s:Ac}{B:Heap}{env:Env}{outer l:List Env}{L e:Addr}{o:Obj}{vs us:Array Value}{fl:Value}{Q:Unit->Ac->Prop}
theorem zfb{h:Heap}{c b:Addr}{u v:Obj}{ts:Array Value}(hc:h.get? c=some u)(hd:u.data=.fields ts)(hb:h.get? b=some v)(hn:∀ws,v.data≠.fields ws):b≠c:=by
 rintro rfl;rw[hc]at hb
 cases hb
 exact hn _ hd
theorem zhA{b c:Addr}{u:Obj}(hb:B.get? b=some u)(hc:B.get? c=none):b≠c:=by
 rintro rfl;rw[hc]at hb
 cases hb
theorem zfa{head:Value}{had:Bool}(hfr:A.frames=some (env :: outer))(hl:s.heap.FunFrames B (env :: outer))(hf:env.frame=some L)(he:s.heap.get? e=some { o with data := .fields us })(hkb:B.StaysIn s.heap)(hen:B.get? e=none)
  (hsz:1<us.size) (huv:∀x,us.setIfInBounds 1 x=vs.setIfInBounds 1 x) (h:∀h',Fly B (env::outer) e o vs (rawInt L) h'->s.heap.UpToSlots h'->Q () { s with heap:=h' }) :
  Ao M A (do let a <- frameOf env;let pl <- entryPlaceOf L had;let b <- EntryCells.newEntry head a .none (rawInt L) .none pl;setField (.ref e) 1 b) Q E s:=by
 have hes:e ∉ (env::outer).filterMap (·.frame):=λz=>by obtain⟨_,v,hv,hn⟩:=hl.mem z;exact zfb he rfl hv hn rfl
 refine Ab (wpAny_frameOf_fun hfr hl hf λh1 k1=>?_);refine Ab (wpAny_entryPlaceOf λpl hpl=>?_);unfold EntryCells.newEntry newFields;refine Ab (Bc ?_ (hpl.sizeOk5 _ _ _ _ _));have e1:h1.get? e=some { o with data:=.fields us }:=(k1.2.1 e hes).trans he;have b1:B.StaysIn h1:=λb u q=>(k1.2.1 b λz=>by rw[(hl.mem z).1]at q;cases q).trans (hkb b u q)
 generalize hT:({ cls:=.type "traceback",data:=.fields ([head,.ref L,.none,rawInt L,.none]++(if pl.isEmpty then Ah 6 BE else pl)).toArray }:Obj)=oT;have hTd:oT.data=.fields ([head,.ref L,.none,rawInt L,.none]++(if pl.isEmpty then Ah 6 BE else pl)).toArray:=by rw[<- hT]
 have hTf:oT.isFreed=false:=by rw[<- hT];rfl
 have ne:h1.objs.size≠e:=Nat.ne_of_gt (Ay e1);refine wpAny_setField (Af _ e1) rfl hsz ?_
 have up:∀b u,b≠e->h1.get? b=some u->((h1.push oT).update e (Dp (·.setIfInBounds 1 (An h1.objs.size)))).get? b=some u:=λb u z q=>by rw[AX _ _ (BG z)];exact Af _ q
 have sl:∀b u,s.heap.get? b=some u->(∀ws,u.data≠.fields ws)->∃x,((h1.push oT).update e (Dp (·.setIfInBounds 1 (An h1.objs.size)))).get? b=some { u with slots:=x }:=λb u q n=>by obtain⟨x,hx⟩:=k1.2.2 b u q;exact⟨x,up b _ (zfb he rfl q n) hx⟩
 refine h _ ⟨λb u q=>up b u (zhA q hen) (b1 b u q),hen,hl.of_keeps λb u q n=>?_,⟨h1.objs.size,oT,_,?_,?_,b1.fresh,ne,?_,hTd,?_⟩⟩ sl
 .obtain⟨x,hx⟩:=sl b u q n;exact⟨_,hx,rfl⟩
 .rw[<- huv];exact BI _ (Af _ e1) rfl
 .have:=congrArg Array.size (huv BE);simp only[Array.size_setIfInBounds]at this;lia
 .exact (AX _ _ (BG ne)).trans (AI h1 hTf)
 .first | (simp;done) | (rcases hpl with rfl |⟨_,_,_,_,_,_,_,rfl⟩ <;> simp)
theorem ziZ(hfr:A.frames=some (env :: outer))(hl:s.heap.FunFrames B (env :: outer))(hf:env.frame=some L)(he:s.heap.get? e=some { o with data := .fields vs })(hkb:B.StaysIn s.heap)(hen:B.get? e=none)(h1:vs[1]? = some .none)
  (h:∀h',Fly B (env::outer) e o vs (rawInt L) h'->s.heap.UpToSlots h'->Q () { s with heap:=h' }):Ao M A (noteFrame (.ref e) env) Q E s:=by
 unfold noteFrame;simp only[hf];refine Ab (D5 he rfl h1 ?_);rw[if_neg (by decide)];exact zfa hfr hl hf he hkb hen (A0.mp h1).1 (λ_=>rfl) h
theorem zjX(hfr:A.frames=some (env :: outer))(hf:env.frame=some L)(F:Fly B (env :: outer) e o vs .none s.heap)
  (h:∀h',Fly B (env::outer) e o vs (rawInt L) h'->s.heap.UpToSlots h'->Q () { s with heap:=h' }):Ao M A (noteFrame (.ref e) env) Q E s:=by
 obtain⟨T,oT,ts,he,hz,nT,Te,hT,hd,h3⟩:=F.tb;unfold noteFrame;simp only[hf];refine Ab (D5 he rfl (x:=.ref T) (by simp[hz]) ?_);rw[if_pos (show (An T != BE)=true from by simp)];refine Ab (D5 hT hd h3 ?_);rw[if_neg (by simp[rawInt])];refine Ab (wpAny_setField hT hd (A0.mp h3).1 ?_);have ot:∀b,b≠T->(s.heap.update T (Dp (·.setIfInBounds 3 BE))).get? b=s.heap.get? b:=λb z=>AX _ _ (BG z)
 refine zfa (s:={ s with heap:=s.heap.update T (Dp (·.setIfInBounds 3 BE)) }) hfr (F.fr.of_keeps λb u q n=>⟨u,(ot b (zfb hT hd q n)).trans q,rfl⟩) hf ((ot e (BG Te)).trans he)
  (λb u q=>(ot b (zhA q nT)).trans (F.stay b u q)) F.new (by simpa using hz) (λx=>by simp) λh' x1 x2=>h h' x1 λb u q n=>x2 b u ((ot b (zfb hT hd q n)).trans q) n
theorem zdE(F:Fly B l e o vs fl s.heap)(h:∀h',Fly B l e o vs .none h'->s.heap.UpToSlots h'->Q () { s with heap:=h' }):Ao M A (setFlight (.ref e) none) Q E s:=by
 obtain⟨T,oT,ts,he,hz,nT,Te,hT,hd,h3⟩:=F.tb;have z3:3<ts.size:=(A0.mp h3).1;have ot:∀b,b≠T->(s.heap.update T (Dp (·.setIfInBounds 3 ((none:Option Addr).elim BE λf=>rawInt f)))).get? b=s.heap.get? b:=λb z=>AX _ _ (BG z)
 unfold setFlight;refine Ab (D5 he rfl (x:=.ref T) (by simp[hz]) ?_);rw[if_pos (show (An T != BE)=true from by simp)]
 refine wpAny_setField hT hd z3 (h _ ⟨λb u q=>(ot b (zhA q nT)).trans (F.stay b u q),F.new,F.fr.of_keeps λb u q n=>⟨u,(ot b (zfb hT hd q n)).trans q,rfl⟩,T,_,_,(ot e (BG Te)).trans he,hz,nT,Te,
  BI _ hT (Obj.isFreed_of_fields (D2 hd _)),D2 hd _,by simp[z3]⟩ λb u q n=>⟨u.slots,(ot b (zfb hT hd q n)).trans q⟩)
theorem Fly.out(F:Fly B (env::outer) e o vs fl s.heap):Fly B outer e o vs fl s.heap:=⟨F.stay,F.new,F.fr.2.2,F.tb⟩
theorem zhC(hfr:A.frames=some (env :: outer))(hl:s.heap.FunFrames B (env :: outer))(hf:env.frame=some L)(he:s.heap.get? e=some { o with data := .fields vs })(hkb:B.StaysIn s.heap)(hen:B.get? e=none)(h1:vs[1]? = some .none)
  (h:∀h',Fly B outer e o vs .none h'->s.heap.UpToSlots h'->Q () { s with heap:=h' }):Ao M A (leaving env (.ref e)) Q E s:=by
 unfold leaving;refine Ab (ziZ hfr hl hf he hkb hen h1 λh' x1 x2=>?_);exact zdE (s:={ s with heap:=h' }) x1 λh2 y1 y2=>h h2 (Fly.out (s:={ s with heap:=h2 }) y1) (x2.trans y2)
end
noncomputable def CX1(P:AD)(w:A5):CXT:=λouter H s E e s'=>∃(a:Addr) (H':Hp) (B:Heap) (o:Obj) (vs:Array Value),e=.ref a/\s'.os=s.os/\AllBare s'.gens/\Fly B outer a o vs .none s'.heap/\s.heap.get? a=none/\H' a=none /\
 (∀h2,B.StaysIn h2->s'.heap.UpToSlots h2->Un (frs outer) [] H H' s.heap h2/\HOk P w H' h2)/\E o.cls o.dict H'
section
variable {P:AD}{w:A5}{K:W.Frag}{mg:Str->Option Value}{base:Heap}{N:List Str}{qual:Str}{scope:Scope}{f:Addr}{cd:Value}{A:AM}{outer:List Env}{s0:Ac}{H0:Hp}{E:XK}
 {pins:List (Addr×Obj)} {σ:St} {H:Hp} {s:Ac} {e:Addr} {o:Obj} {vs:Array Value}
theorem xe_of(I:Inv (cxOf (CX1 P w) P w K mg base N qual scope f cd A outer s0 H0 E) pins σ H s)(he:s.heap.get? e=some { o with data := .fields vs })(h1:vs[1]? = some .none)(hn:H e=none)(hnew:s0.heap.get? e=none)(h:E o.cls o.dict H) :
  (cxOf (CX1 P w) P w K mg base N qual scope f cd A outer s0 H0 E).xe (.ref e) s:=by
 let X:=cxOf (CX1 P w) P w K mg base N qual scope f cd A outer s0 H0 E
 have hfs:∀b∈frs X.stack,H b=none:=I.stkFree
 have nin:∀b,b<s0.heap.objs.size->b ∉ frs outer->b≠e->b ∉ e::frs X.stack:=λb hb h2 h3 z=>by
  rcases AG.mp z with z |z
  .exact h3 z
  .rcases AG.mp (show b∈s0.heap.objs.size::frs outer from z) with z |z
   .exact absurd hb (by rw[z];exact Cm _)
   .exact h2 z
 have ne0:∀b u,s0.heap.get? b=some u->b≠e:=λb u q z=>by rw[z,hnew]at q;cases q
 refine zhC (B:=W.hideAll s.heap (e::frs X.stack)) (show _=some (X.env::outer) from I.ok.frames) (W.funFrames_hide I.stack λen hen a ha=>Aq _ (List.mem_filterMap.mpr ⟨en,hen,ha⟩)) rfl he (λb u q=>W.of_hideAll _ q) (W.hideAll_none _ (.head _)) h1 λh' x1 x2=>?_
 refine⟨e,H,_,o,vs,rfl,I.os,I.bare,x1,hnew,hn,λh2 k1 k2=>?_,h⟩;have st:∀b u,s.heap.get? b=some u->b ∉ e::frs X.stack->h2.get? b=some u:=λb u q z=>k1 b u (W.hideAll_get _ q z)
 have sl:∀b u,b∈frs outer->s0.heap.get? b=some u->∃x,h2.get? b=some { u with slots:=x }:=λb u hb q=>by obtain⟨_,v,hv,hd⟩:=I.ok.funs.mem hb;obtain rfl:v=u:=AT (hv.symm.trans q);obtain⟨x,hx⟩:=I.base.slot b v q (I.ok.frf b hb) hb (by simp[cxOf]);obtain⟨y,hy⟩:=(x2.trans k2) b _ hx hd;exact⟨y,hy⟩
 refine⟨⟨λb u q n hb _=>st b u (I.base.keep b u q n hb (by simp[cxOf])) (nin b (Ay q) hb (ne0 b u q)),λb u q n hb _=>sl b u hb q,λb u q n _=>I.base.free b u q n (by simp[cxOf]),λb u q _=>?_,I.base.tups,I.base.frzs,I.base.tbls⟩,λb u q=>?_⟩
 .by_cases hb:b∈frs outer
  .obtain⟨x,hx⟩:=sl b u hb q;exact⟨_,hx⟩
  .obtain⟨v,hv⟩:=I.base.there b u q (by simp[cxOf]);exact⟨v,st b v hv (nin b (Ay q) hb (ne0 b u q))⟩
 .refine (I.hok b u q).stay (λc v hc r=>st c v r λz=>?_) (λ_ r=>r) λ_ _ r=>r
  have hH:H c≠none:=by
   rcases hc with rfl |hc
   .rw[q];simp
   .rw[hc];simp
  rcases AG.mp z with z |z
  .rw[z]at hH;exact hH hn
  .exact hH (hfs c z)
end
theorem ObjOk.ex{P:AD}{w:A5}{H:Hp}{h:Heap}{a:Addr}{o:HO}(x:ObjOk P w H h a o):∃u,h.get? a=some u:=by
 cases o with
 |lst xs=>obtain⟨_,_,_,_,e⟩:=x;exact⟨_,e⟩
 |tup xs=>obtain⟨_,_,_,u,e,_⟩:=x;exact⟨_,e⟩
 |dK kvs=>obtain⟨_,_,_,_,o,_,_,e,_⟩:=x;exact⟨_,e⟩
 |dT kvs=>obtain⟨_,_,_,_,o,_,_,e,_⟩:=x;exact⟨_,e⟩
 |set S n=>obtain⟨o,_,_,_,e,_⟩:=x;exact⟨_,e⟩
 |ins C dx fs=>obtain⟨_,_,_,e,_⟩:=x;exact⟨_,e⟩
 |own y=>exact x
 |xd fs=>obtain⟨_,⟨_,_,_,e,_⟩,_⟩:=x;exact⟨_,e⟩
 |rng lo hi=>obtain⟨_,_,_,e⟩:=x;exact⟨_,e⟩
 |frz ob u=>exact⟨_,x.1⟩
 |tbl ps=>exact⟨_,x⟩
 |met f y=>exact⟨_,x⟩
 |ext φ=>exact x.2.1
theorem HOk.gone{P:AD}{w:A5}{H:Hp}{h:Heap}{a:Addr}(x:HOk P w H h)(e:h.get? a=none):H a=none:=by
 cases q:H a with
 |none=>rfl
 |some o =>
  obtain⟨u,hu⟩:=(x a o q).ex;rw[e]at hu
  cases hu
theorem znt{K:W.Frag}{h:Heap}{C:Addr}{bB:List Value}{nw:String}(X:K.In h)(q:W.excIn K C bB nw=true) :
  ∃bm N nm qn bs hd sn sub ab col dd k0 k1 k2 k3 k5 mN,h.get? C=some (excClassObj nm qn C N bs bm hd sn sub ab col dd k0 k1 k2 k3 k5 nw)/\h.Ns N mN/\mN "__init__" = none/\OwnTail h bB bm:=by
 unfold W.excIn at q;split at q
 .rename_i dd c sl ho
  split at q
  .rename_i D bm k0 k1 k2 k3 n k5 hm hs
   simp only[Bd,beq_iff_eq,Bool.not_eq_true']at q;obtain⟨⟨⟨⟨⟨q1,q2⟩,q3⟩,q4⟩,q5⟩,q6⟩:=q
   cases q1
   cases q2
   have h0:=X _ _ ho
   cases c with
   |mk nm bs mro ns qn hd sn sub ab col del =>
    cases hm
    cases q3
    cases sl with
    |mk l =>
     cases hs
     exact⟨bm,ns,nm,qn,bs,hd,sn,sub,ab,col,dd,k0,k1,k2,k3,k5,_,h0,.of_isNs (W.isNs_of_in X q5),W.nsMap_none_of_in X q5 q6,W.tail_of_in X q4⟩
  .cases q
 .cases q
section
variable {P:AD}{w:A5}{K:W.Frag}{mg:Str->Option Value}{base:Heap}{N:List Str}{qual:Str}{scope:Scope}{f:Addr}{cd:Value}{A:AM}{outer:List Env}{s0:Ac}{H0:Hp}{E:XK}
theorem zgC{x:Str}{C:Addr}{np cpos pos:Pos}{Bn nw it:String}{bB:List Value}(FB:ExcBaseFacts Bn nw it bB)(hq:W.excIn K C bB nw=true)
  (hg:Gl (cxOf (CX1 P w) P w K mg base N qual scope f cd A outer s0 H0 E) x) (hm:mg x=some (.ref C)) (hd:(x == ("__debug__" : Str))=false:=by decide) :
  PS (cxOf (CX1 P w) P w K mg base N qual scope f cd A outer s0 H0 E) (.Raise (some (.Call (.Name x np) [] [] cpos)) none pos) (λ_ _ H=>E (.ref C) none H):=by
 intro pins s σ H D I h;obtain⟨bm,ns,nm,qn,bs,hdd,sn,sub,ab,col,dd,k0,k1,k2,k3,k5,mN,hC,hN,hni,T⟩:=znt I.kIn hq
 refine wpAny_Raise_call_subT (C:=C) (nm:=nm) (q:=qn) (N:=ns) (bs:=bs) (bm:=bm) (hdct:=hdd) (sn:=sn) (sub:=sub) (ab:=ab) (col:=col) (dd:=dd) (k0:=k0) (k1:=k1) (k2:=k2) (k3:=k3) (k5:=k5)
  FB (mN:=mN) (T.hasType FB.hasBase) (I.ok.hd rfl) rfl hni (zfU I hg hm ⟨rfl,?_⟩ hd)
 refine PyProof.Rows.evalArgs_empty ⟨rfl,Ba _,hC,hN,T,λh' e hx=>?_⟩;obtain⟨t,he,_,_⟩:=hx.there
 exact xe_of (o:={ cls:=.ref C,data:=.fields #[.ref t,.none,.none,.none,.bool false,.none] }) (I.kept (t':=s.toks) hx.keeps) he rfl (I.hok.gone hx.new) (by
  cases q:s0.heap.get? e with
  |none=>rfl
  |some u =>
   obtain⟨v,hv⟩:=I.base.there e u q (by simp[cxOf]);rw[hx.new]at hv
   cases hv) h
end
noncomputable abbrev Cx.pinned(X:Cx)(pins:List (Addr×Obj)):Cx:={ X with pn:=X.pn++pins }
noncomputable abbrev Cx.tried(X:Cx)(pins:List (Addr×Obj))(E:XK):Cx:={ X with pn:=X.pn++pins,xe:=λe s'=>∃ps σ H s,Inv (X.pinned pins) ps σ H s/\CX1 X.prog X.w X.stack H s E e s' }
noncomputable abbrev Cx.held(X:Cx)(a:Addr):Cx:={ X with A:=X.A.mark (some (.ref a)),calm:=false,xe:=λ_ _=>False }
noncomputable def excO(a:Addr)(c:Value)(d:Option Addr):HO:=.ext λh=>∃u,h.get? a=some u/\u.cls=c/\u.dict=d/\∃vs,u.data=.fields vs
noncomputable def Ends.drop(D:Ends)(i:Nat):Ends:={ nx:=λσ H=>D.nx (σ.set i none) H,rt:=D.rt,bk:=λσ H=>D.bk (σ.set i none) H,ct:=λσ H=>D.ct (σ.set i none) H }
section
variable {X:Cx}{pins:List (Addr×Obj)}{σ:St}{H:Hp}{s:Ac}{E:XK}
theorem Cx.Ok.pinned(ok:X.Ok):(X.pinned pins).Ok:=⟨ok.mod,ok.kind,ok.glob,ok.blt,ok.above,ok.inj,ok.has,ok.cab,ok.hd,ok.frames,ok.stk,ok.exf,ok.bs,ok.bsz,ok.noex,ok.exfs,ok.funs,ok.frf⟩
theorem Cx.Ok.unpinned(ok:(X.pinned pins).Ok):X.Ok:=⟨ok.mod,ok.kind,ok.glob,ok.blt,ok.above,ok.inj,ok.has,ok.cab,ok.hd,ok.frames,ok.stk,ok.exf,ok.bs,ok.bsz,ok.noex,ok.exfs,ok.funs,ok.frf⟩
theorem Inv.unpnd{ps:List (Addr×Obj)}(I:Inv (X.pinned pins) ps σ H s):Inv X pins σ H s:=⟨I.ok.unpinned,I.os,I.bare,I.base,I.loc,I.cell,I.free,I.freeC,λp hp=>I.pin p (B4 _ hp),I.hok,I.len⟩
theorem Inv.tried(I:Inv X pins σ H s):Inv (X.tried pins E) [] σ H s:=⟨I.ok.pinned.wish _,I.os,I.bare,I.base,I.loc,I.cell,I.free,I.freeC,λp hp=>I.pin p (by simpa using hp),I.hok,I.len⟩
theorem Inv.untried{ps:List (Addr×Obj)}(I:Inv (X.tried pins E) ps σ H s):Inv (X.pinned pins) ps σ H s:=Inv.unwish (X:=X.pinned pins) I
theorem SP.untried{D:Ends}{f:Flow}{ps:List (Addr×Obj)}(h:SP (X.tried pins E) ps D f s):SP X pins D f s:=by
 cases f with
 |next=>obtain⟨σ',H',I,q⟩:=h;exact⟨σ',H',I.untried.unpnd,q⟩
 |brk=>obtain⟨σ',H',I,q⟩:=h;exact⟨σ',H',I.untried.unpnd,q⟩
 |cont=>obtain⟨σ',H',I,q⟩:=h;exact⟨σ',H',I.untried.unpnd,q⟩
 |ret u=>obtain⟨v,σ',H',I,r,q⟩:=h;exact⟨v,σ',H',I.untried.unpnd,r,q⟩
theorem passT{E1:XK}(hi:∀c d H',E1 c d H'->E c d H'):zha (CX1 X.prog X.w) (X.tried pins E) E1:=by rintro ps σ H s e s' I ⟨a,H',B,o,vs,q1,q2,q3,q4,q5,q6,q7,h⟩;exact⟨ps,σ,H,s,I.untried,a,H',B,o,vs,q1,q2,q3,q4,q5,q6,q7,hi _ _ _ h⟩
theorem Inv.held{a:Addr}(I:Inv X pins σ H s):Inv (X.held a) pins σ H s :=
 ⟨⟨I.ok.mod,I.ok.kind,I.ok.glob,I.ok.blt,I.ok.above,I.ok.inj,I.ok.has,I.ok.cab,(λz=>nomatch z),I.ok.frames,I.ok.stk,I.ok.exf,I.ok.bs,I.ok.bsz,I.ok.noex,I.ok.exfs,I.ok.funs,I.ok.frf⟩,I.os,I.bare,I.base,I.loc,I.cell,I.free,I.freeC,I.pin,I.hok,I.len⟩
theorem Inv.unheld{a:Addr}(ok:X.Ok)(I:Inv (X.held a) pins σ H s):Inv X pins σ H s:=⟨ok,I.os,I.bare,I.base,I.loc,I.cell,I.free,I.freeC,I.pin,I.hok,I.len⟩
theorem Inv.track{a:Addr}{u:HO}{σ2:St}{H2:Hp}{s2:Ac}(I:Inv X pins σ H s)(I2:Inv X pins σ2 H2 s2)(hex:X.ex=[])(hn:H a=none)(h2:s2.heap.get? a=none)(new:ObjOk X.prog X.w (upd H a u) s.heap a u):Inv X pins σ (upd H a u) s:=by
 have na:∀b v,s2.heap.get? b=some v->b≠a:=λb v q z=>by rw[z,h2]at q;cases q
 have n0:∀b v,X.s₀.heap.get? b=some v->b≠a:=λb v q=>by obtain⟨x,hx⟩:=I2.base.there b v q (by rw[hex];simp);exact na b x hx
 have nH:∀b v,H b=some v->b≠a:=λb v q z=>by rw[z,hn]at q;cases q
 have nL:X.env.locals≠a:=by obtain⟨m,⟨v,_,_,q,_⟩,_⟩:=I2.loc;exact na _ v q
 have B:=I.base;refine⟨I.ok,I.os,I.bare,⟨B.keep,B.slot,λb v q z hx=>?_,B.there,λb xs q=>?_,λb v w q=>?_,λb ps q=>?_⟩,I.loc,I.cell,?_,λx c q=>?_,λp hp=>?_,λb v q=>?_,I.len⟩
 .rw[zai (n0 b v q)];exact B.free b v q z hx
 .have:=B.tups b xs q;rw[zai (nH _ _ this)];exact this
 .have:=B.frzs b v w q;rw[zai (nH _ _ this)];exact this
 .obtain⟨more,this⟩:=B.tbls b ps q;exact⟨more,by rw[zai (nH _ _ this)];exact this⟩
 .rw[zai nL];exact I.free
 .obtain⟨_,v,hv,_⟩:=I2.cell x c q;rw[zai (na c v hv)];exact I.freeC x c q
 .obtain⟨q1,q2,q3⟩:=I.pin p hp;refine⟨q1,?_,q3⟩;rw[zai (na _ _ (I2.pin p hp).1)];exact q2
 .by_cases hb:b=a
  .subst hb;rw[zaa]at q;cases q;exact new
  .rw[zai hb]at q;exact (I.hok b v q).stay (λ_ _ _ r=>r) (λc r=>by rw[zai (nH _ _ r)];exact r) λc xs r=>by rw[zai (nH _ _ r)];exact r
theorem zk4{M:DM}{A:AM}{Ex:Value -> Ac -> Prop}{i:Nat}{n:Str}{pos:Pos}{Q:Unit -> Ac -> Prop}(I:Inv X pins σ H s)(hN:X.N.Nodup)(hi:X.N[i]? = some n)(hl:X.env.scope.names.lookup n=some .local)
  (h:∀s',Inv X pins (σ.set i none) H s'->Q () s'):Ao M A (do bindName X.env n .none;unbindBehindTheSuite X.env n pos) Q Ex s:=by
 obtain⟨m,hn,hv⟩:=id I.loc;have hp:(X.env.scope.kind == .class || (X.env.scope.kind == .module && X.env.locals != X.env.globals))=false:=by rw[I.ok.kind];rfl
 refine wpAny_nameGoes_keeps hl hn hp λh' v hn' hs=>?_
 have ab:∀b u,X.s₀.heap.get? b=some u->b≠X.env.locals:=λb u q=>A8 (A7 (Ay q) I.ok.above)
 have cne:=I.cne;refine h _ ⟨I.ok,I.os,I.bare,⟨λb u q z hb hx=>(hs.2 b (ab b u q)).trans (I.base.keep b u q z hb hx),λb u q z hb hx=>?_,I.base.free,λb u q hx=>?_,I.base.tups,I.base.frzs,I.base.tbls⟩,⟨_,hn',λj y v' e1 e2 e3=>?_⟩,λy c q=>?_,I.free,I.freeC,λp hp=>?_,λb u q=>?_,by simpa using I.len⟩
 .obtain⟨x,hx⟩:=I.base.slot b u q z hb hx;exact⟨x,(hs.2 b (ab b u q)).trans hx⟩
 .obtain⟨x,hx⟩:=I.base.there b u q hx;exact⟨x,(hs.2 b (ab b u q)).trans hx⟩
 .have hj:j ≠ i := by
   rintro rfl;have hz:j<σ.length:=by rw[I.len];exact (Ad.mp hi).1
   rw[List.getElem?_set_self hz]at e2
   cases e2
  rw[List.getElem?_set_ne (BG hj)]at e2;obtain⟨u,r,q⟩:=hv j y v' e1 e2 e3;refine⟨u,r,?_⟩;rcases q with⟨k,q⟩ |⟨k,c,q,z⟩
  .have:y≠n:=λz=>hj (zfL hN e1 (z ▸ hi))
   exact .inl ⟨k,by simp[this,q]⟩
  .exact .inr ⟨k,c,q,z.sameBut hs (cne y c q)⟩
 .obtain⟨x,hx⟩:=I.cell y c q;exact⟨x,hx.sameBut hs (cne y c q)⟩
 .obtain⟨q1,q2,q3,q4,q5⟩:=I.pin p hp;exact⟨(hs.2 p.1 q3).trans q1,q2,q3,q4,q5⟩
 .refine (I.hok b u q).stay (λc v hc r=>(hs.2 c ?_).trans r) (λ_ r=>r) λ_ _ r=>r
  rintro rfl;rcases hc with rfl |hc
  .rw[I.free]at q;cases q
  .rw[I.free]at hc;cases hc
end
noncomputable def tTryE(i k:Nat)(E:XK)(tb ts:TS):TS:=λD σ H=>tb D σ H/\∀(c:Value) (d:Option Addr) (H':Hp) (a:Addr) (σ':St),E c d H'->H' a=none->σ'.length=k->ts (D.drop i) (σ'.set i (some (.ref a))) (upd H' a (excO a c d))
section
variable {X:Cx}
theorem zme{body suite:List Stmt}{b0:Stmt}{n tn:Str}{i:Nat}{T:Addr}{E:XK}{tb ts:TS}{np hpos pos:Pos}(hex:X.ex = [])(hst:X.stack=X.env :: X.outer)(hfm:X.env.frame=some X.env.locals)(hb:∀pins, PSs (X.tried pins E) body tb)(hs:∀a, PSs (X.held a) (b0 :: suite) ts)
  (hg:Gl X tn) (hm:X.mg tn=some (.ref T)) (hE:∀c d H,E c d H->W.exmOne X.K c (.ref T)=some true) (hN:X.N.Nodup) (hi:X.N[i]?=some n) (hl:X.env.scope.names.lookup n=some .local) (hdb:(tn == ("__debug__" : Str))=false:=by decide) :
  PS X (.Try body [.ExceptHandler (some (.Name tn np)) (some n) (b0::suite) hpos] [] [] pos) (tTryE i X.N.length E tb ts):=by
 rintro pins s σ H D I ⟨hb0,hs0⟩;refine wpAny_Try_except (BF (hb pins [] s σ H D I.tried hb0) (λf s1 q=>?_) ?_)
 .cases f with
  |next=>exact DV q.untried
  |_=>exact q.untried
 rintro e s1 ⟨ps,σ',H1,s2,I1,a,H',B,o,vs,rfl,os,bare,F,hnew,hn,st,hE0⟩;rw[hst]at F;have J:=I1.unpnd;refine zjX (by rw[<- hst];exact I.ok.frames) hfm F λh4 F4 k4=>?_
 refine zdE (s:={ s1 with heap:=h4 }) F4 λh5 F5 k5=>?_
 have at5:∀h5,B.StaysIn h5->s1.heap.UpToSlots h5->Inv X pins σ' H' { s1 with heap:=h5 }:=λh5 z1 z2=>by obtain⟨un,hok⟩:=st h5 z1 z2;exact J.call' (s':={ s1 with heap:=h5 }) (ch:=[]) os un hok bare (λb z=>absurd z (by simp))
 have J5:=at5 h5 F5.stay (k4.trans k5);obtain⟨T5,_,_,e5,_⟩:=id F5.tb;refine wpAny_handleBy_cons (codeAny_handlers_test (zfU (X:=X.held a) J5.held hg hm ?_ hdb)) (by intro q;cases q);refine (W.exm_one J5.kIn ((W.Looks.ld e5).andThen .now) (hE _ _ _ hE0)).here ?_
 refine codeAny_handlers_suite_as ?_
 refine zdE (s:={ s1 with heap:=h5 }) F5 λh6 F6 k6=>?_
 have J6:=at5 h6 F6.stay ((k4.trans k5).trans k6);obtain⟨T6,_,_,e6,_⟩:=id F6.tb
 have J6':Inv (X.held a) pins σ' (upd H' a (excO a o.cls o.dict)) { s1 with heap:=h6 } :=
  (J6.track (u:=excO a o.cls o.dict) J hex hn hnew ⟨⟨_,e6,rfl,rfl,_,rfl⟩,⟨_,e6⟩,λh1 h2 ⟨u,hu,q⟩ k=>⟨u,k u hu,q⟩⟩).held
 refine zdX (X:=X.held a) (v:=.ref a) J6' hN hi (.inl hl) rfl (λs7 J7=>?_) (.inr hl);refine BF (hs a pins s7 _ _ (D.drop i) J7 (hs0 _ _ _ a σ' hE0 hn J.len)) (λfl s8 q=>?_) (λ_ _ z=>Bu z);have go:∀{σ2:St} {H2:Hp} (Q:Unit->Ac->Prop),Inv (X.held a) pins σ2 H2 s8->(∀s',Inv X pins (σ2.set i none) H2 s'->Q () s')->Ao (Au X.prog X.w) X.A (do bindName X.env n .none;unbindBehindTheSuite X.env n hpos) Q X.xe s8:=λQ I8 k=>zk4 (Inv.unheld I.ok I8) hN hi hl k
 cases fl with
 |next=>obtain⟨σ2,H2,I8,q⟩:=q;exact go _ I8 λs' I9=>⟨_,_,I9,q⟩
 |brk=>obtain⟨σ2,H2,I8,q⟩:=q;exact go _ I8 λs' I9=>⟨_,_,I9,q⟩
 |cont=>obtain⟨σ2,H2,I8,q⟩:=q;exact go _ I8 λs' I9=>⟨_,_,I9,q⟩
 |ret u=>obtain⟨v,σ2,H2,I8,r,q⟩:=q;exact go _ I8 λs' I9=>⟨v,_,_,I9,r,q⟩
end
section
variable {prog:AD}{w:A5}{A:AM}{E:Value->Ac->Prop}{s:Ac}{K:W.Frag}{a D:Addr}{u:Obj}{od:Option Obj}
theorem zmF {M:DM}{nv:Value}{Q:Unit->Ac->Prop}(L:W.Looks M s.heap (isInstance (.ref a) (.type "BaseException")) true) (h:Q () s):Ao M A (checkBuiltinCall "BaseException.__getattribute__" ⟨[.ref a,nv],[]⟩) Q E s:=by
 have k1:builtinKind "BaseException.__getattribute__" = some .slot:=by decide +kernel
 have k2:splitId "BaseException.__getattribute__" = some ("BaseException","__getattribute__"):=by decide +kernel
 have k3:=PySem.F.args_bexc_ga (.ref a) nv;obtain⟨hh,g,d,t,os⟩:=s;simp only[checkBuiltinCall,k1,k2];refine Ab (L.at ?_)
 repeat (first |assumption |wp_step)
theorem znr (X:K.In s.heap) (I:W.InstAt s.heap a u D od) (hb:W.subIn K (.ref D) (.type "BaseException")=some true){nv:Value}{R:Result -> Ac -> Prop}
  (h:Ao (Au prog w) A.in1 (Builtin.«object.__getattribute__» ⟨[.ref a,nv],[]⟩) (λf s'=>match f with |.done r=>R (.ok r) s' |_=>False) (λe s'=>R (.error e) s') s) :
  Co (Au prog w) A (.call (.builtin "BaseException.__getattribute__") ⟨[.ref a,nv],[]⟩) R s:=by
 refine codeAny_call_builtin PySem.F.attr_ValueError.ga.plain PySem.F.entry_bexc_ga (zmF (I.type.andThen (W.looks_subIn X hb)) (BF h (λf s' z=>?_) λ_ _ z=>z))
 cases f with
 |done r=>exact z
 |again c=>exact z.elim
theorem zmE (X:K.In s.heap) (I:W.InstAt s.heap a u D od) (hf:W.findObj K D od "__class__" = some (.bind (.builtin "getset_descriptor.__get__") (.builtin "object.__class__"))) (hm:W.mroIn K D (.type "object")=some true){tk:Tok}{Q:Fin -> Ac -> Prop}
  (h:Q (.done (.ret (.ref D))) s):Ao (Au prog w) A (Builtin.«object.__getattribute__» ⟨[.ref a,.str "__class__" tk],[]⟩) Q E s:=by
 have L0:=I.type (M:=Au prog w);have L1:=W.looks_find (M:=Au prog w) X I hf;refine Ab (Ae (Ab (Ae (Ab (L0.here (Ab (L1.here ?_)))))));show Ao _ _ (DI [Value.builtin "object.__class__"] (call (.builtin "getset_descriptor.__get__") [.builtin "object.__class__",.ref a,.ref D]) >>= ret) _ _ _;exact Ab (Bg (wpAny_call (W.class_get X I hm (Ae h))))
theorem zns (X:K.In s.heap) (I:W.InstAt s.heap a u D od) (hga:Cy K (.ref D) "__getattribute__" = some (some (.builtin "BaseException.__getattribute__"))) (hgb:Cy K (.ref D) "__getattr__" = some none)
  (hb:W.subIn K (.ref D) (.type "BaseException")=some true) (hf:W.findObj K D od "__class__" = some (.bind (.builtin "getset_descriptor.__get__") (.builtin "object.__class__"))) (hm:W.mroIn K D (.type "object")=some true) {Q:Option Value->Ac->Prop}
  (h:Q (some (.ref D)) { s with toks:=s.toks+1 }):Ao (Au prog w) A (getAttr? (.ref a) "__class__") Q E s:=by
 obtain⟨hh,g,d,t,os⟩:=s;have L0:=I.type (M:=Au prog w);have L1:=W.looks_findIn (M:=Au prog w) X hga;have L2:=W.looks_findIn (M:=Au prog w) X hgb;unfold getAttr? getAttrBy? getAttrBy;refine Ab (wpAny_mkText (Ab (DS (Bg (Ab (L0.at (Ab (L1.at ?_))))))));show Ao _ _ (getAttrByItsOwn (.ref a) _ (.ref D) (.builtin "BaseException.__getattribute__") false false) _ _ _;unfold getAttrByItsOwn;refine Ab (show Ao _ _ (typeLookup (.ref D) "__getattr__") _ _ _ from L2.at ?_);refine Ab (DS (Bg ?_));show Ao _ _ (boundAndCalled (.builtin "BaseException.__getattribute__") (.ref a) _) _ _ _;unfold boundAndCalled;refine Ab (wpAny_of_eq (PySem.F.attr_ValueError.ga.bind _) ?_);refine wpAny_call (znr (s:=⟨hh,g,d,t+1,os⟩) X I hb (zmE (s:=⟨hh,g,d,t+1,os⟩) X I hf hm ?_));exact W.handed_on rfl (Ae h)
end
structure ExcC (K:W.Frag) (D:Addr):Prop where
 hga:Cy K (.ref D) "__getattribute__" = some (some (.builtin "BaseException.__getattribute__"))
 hgb:Cy K (.ref D) "__getattr__" = some none
 hb:W.subIn K (.ref D) (.type "BaseException")=some true
 hd:W.hasDictIn K D=true
 ha:Cy K (.ref D) "__class__" = some (some (.builtin "object.__class__"))
 hn:W.specialIn K (.builtin "object.__class__") "__get__" = some (some (.builtin "getset_descriptor.__get__"))
 ht:W.takesIn K (.builtin "object.__class__")=some true
 hm:W.mroIn K D (.type "object")=some true
noncomputable def ExcAt(a D:Addr)(h:Heap):Prop:=∃u,h.get? a=some u/\u.cls=.ref D/\u.dict=none/\∃vs,u.data=.fields vs
theorem zim{K:W.Frag}{a D:Addr}(C:ExcC K D):W.KitX K (.ref a) (.ref D) (ExcAt a D) where
 ty:=λM h _ ⟨u,hu,hc,_⟩=>hc ▸ (W.Looks.ld hu).andThen .now
 it:=λM h X _=>by
  obtain⟨cd,hc,_⟩:=W.any_some C.hd;unfold W.clsIn at hc;split at hc
  .rename_i ho
   intro A' Q' E' s' k q;unfold isType loadHead;exact Ab (wpAny_loadPart (k _ _ (X _ _ ho)) (Ae q))
  .cases hc
 ne:=λh tp dd its n sl X htp=>by
  obtain⟨cd,hc,_⟩:=W.any_some C.hd;refine Bool.eq_false_iff.mpr λq=>?_
  cases Value.ref.inj (beq_iff_eq.mp q)
  unfold W.clsIn at hc;split at hc
  .rename_i ho
   cases (X _ _ ho).symm.trans htp
  .cases hc
 ca:=λ{prog w A E Q s} X p k=>by
  obtain⟨u,hu,hc,hd,vs,hv⟩:=p;have I:W.InstAt s.heap a u D none:=⟨hu,hc,by unfold W.notCls;rw[hv],by rw[hd];exact trivial⟩
  have hf:W.findObj K D none "__class__" = some (.bind (.builtin "getset_descriptor.__get__") (.builtin "object.__class__")):=by obtain⟨cd,q,_⟩:=W.any_some C.hd;have e1:=C.ha;have e2:=C.hn;have e3:=C.ht;simp[W.findObj,q,e1,e2,e3]
  exact zns X I C.hga C.hgb C.hb hf C.hm k
theorem zkz {X:Cx}:CallR X (.builtin "isinstance") (λxs H Q=>∃a D c v b,xs=[.ref a,c]/\H a=some (excO a (.ref D) none)/\RelV c v/\(∀u,RelV c u->u=v)/\ExcC X.K D/\Cz X.K (.ref D) v=some b/\Q (.bl b) H):=by
 intro pins s σ H xs us Q I r h;obtain⟨a,D,c,v,b,rfl,ha,rc,un,C,hk,q⟩:=h;obtain⟨u1,u2,rfl,r1,r2⟩:=Vals.two r
 cases r1
 cases un _ r2
 obtain⟨z,_⟩:=I.hok a _ ha;exact C4 (zim C) I.kIn z hk (λz=>nomatch z) λtk=>⟨.bl b,H,I.tok tk,rfl,q⟩
theorem zdG {X:Cx}{K:W.Frag}(hK:X.K=K:=by rfl):CallR X (.builtin "isinstance") (λxs H Q=>∃a D c v b,xs=[.ref a,c]/\H a=some (excO a (.ref D) none)/\RelV c v/\(∀u,RelV c u->u=v)/\ExcC K D/\Cz K (.ref D) v=some b/\Q (.bl b) H):=by subst hK;exact zkz
theorem PS.nox{X:Cx}{st:Stmt}{t:TS}(h:PS X.nox st t):PS X st t:=λpins s σ H D I hw=>BF (h pins s σ H D (I.wish _) hw) (λ_ _ q=>q.unwish) λ_ _ z=>Bu z
section
variable {P:AD}{w:A5}{K:W.Frag}{mg:Str->Option Value}{base:Heap}
structure FnX (P:AD) (w:A5) (K:W.Frag) (mg:Str->Option Value) (base:Heap) (k:Nat) (x:Str) (ps:List Str) (sp:Sp) where
 f:Addr
 fd:Bz
 ok:FnOk P w K mg base (CX1 P w) k f fd ps sp
 m:mg x=some (.ref f)
 kp:DN K (.ref f)=true
 b:Binds K fd ps []
noncomputable def Df.fnX{k:Nat}{x:Str}{st:Stmt}{ps:List Str}{sp:Sp}(d:Df K mg x st ps)(h:FnOk P w K mg base (CX1 P w) k d.f d.fd ps sp):FnX P w K mg base k x ps sp:=⟨d.f,d.fd,h,d.m,d.F.kp,d.b⟩
theorem Fun.okX{x qual:Str}{st:Stmt}{f:Addr}{fd:Bz}{N ps:List Str}{k:Nat}{sp:Sp}(F:Fun K x qual st f fd)(S:FnScope N ps (zad st))(len:∀vs H Q E, sp vs H Q E -> vs.length=ps.length)
  (hb:∀(cdv:Value) (A:AM) (outer:List Env) (s:Ac) (H:Hp) (vs:List V) (Q:VK) (E:XK),Room k (A.deeper (envOfC qual (zad st) s.heap.objs.size f cdv))->sp vs H Q E ->
   ∃t,PSs (cxOf (CX1 P w) P w K mg base N qual (zad st) f cdv A outer s H E) (zaS st) t/\t { nx:=λ_ H'=>Q .non H',rt:=Q } (start N vs) H):FnOk P w K mg base (CX1 P w) (k+1) f fd ps sp:=by
 obtain⟨oc,od,kV,doc,pm,an,cdv,ct,osl,rfl,lk,hcd⟩:=F.ex;exact fn_of lk hcd S len λA outer s H vs Q E hr hsp=>hb cdv A outer s H vs Q E hr hsp
end
section
variable {X:Cx}{k j:Nat}{x:Str}{ps:List Str}{sp:Sp}{E:XK}{p pos:Pos}{e:Expr}{es:List Expr}{t:TA}
theorem pCX (g:FnX X.prog X.w X.K X.mg X.base k x ps sp) (hr:Room j X.A) (hx:zha (CX1 X.prog X.w) X E) (ha:PA X (e :: es) t) (hj:k <= j := by decide) (hg:Gl X x := by rfl) (hdb:(x == ("__debug__" : Str))=false := by decide)
  (he:Bl (e::es) X.env=(false,eval e X.env)::Bl es X.env:=by rfl) (hpl:(backTo pos (Bl es X.env)).any (·.1)=false:=by rfl):PE X (.Call (.Name x p) (e::es) [] pos) (tCall sp [] E t) :=
 zjL g.ok (hr.mono hj) hg g.m g.kp g.b .nil hx ha hdb he hpl
end
section
variable {prog:AD}{w:A5}{A:AM}{E:Value->Ac->Prop}{h:Heap}{g:Array GenState}{d:Drawn}{t:Nat}{os:OsState}
variable {nm q:Str}{C N f:Addr}{bs bm bmB:List Value}{hdct:Bool}{sn:List Str}{sub:List Value}{ab:Bool}{col:Option Bool}{dd:Option Addr}{k0 k1 k2 k3 k5:Option Value}{B newId initId:String}
end
noncomputable def overX(bm:List Value):List Value->Bool
 |.ref _::r=>overX bm r
 |l=>l == bm
noncomputable abbrev bmV:List Value:=[.type "ValueError",.type "Exception",.type "BaseException",.type "object"]
section
variable {prog:AD}{w:A5}{A:AM}{R:Result->Ac->Prop}{E:Value->Ac->Prop}{s:Ac}{K:W.Frag}{x C:Addr}{ox:Obj}{od:Option Obj}
end
section
variable {prog:AD}{w:A5}{A:AM}{E:Value->Ac->Prop}{s:Ac}{K:W.Frag}{x C dx:Addr}
end
noncomputable def xdO(d:Addr)(fs:List (Str×V)):HO:=.ext λh=>∃mA,h.Ns1 d mA/\(∀f,RelO (fs.lookup f) (mA f))/\PySem.Within mA (fs.map (·.1))
noncomputable def exN(e C t:Addr)(d:Option Addr):HO:=.ext λh=>h.get? e=some { cls:=.ref C,dict:=d,data:=.fields #[.ref t,.none,.none,.none,.bool false,.none] }
structure ExS (K:W.Frag) (C:Addr):Prop where
 cl:(W.clsIn K C).any (λcd=>cd.hasDict && overX bmV cd.mro)=true
 m:W.mroIn K C (.type "object")=some true
 s:Cy K (.ref C) "__setattr__" = some (some (.builtin "object.__setattr__"))
section
variable {X:Cx}{pins:List (Addr×Obj)}{σ:St}{H:Hp}{s:Ac}{a C t:Addr}{f:Str}{A:AM}{E:Value->Ac->Prop}
end
section
variable {X:Cx}{o value:Expr}{f:Str}{pos pos':Pos}{ta tv:TE}
end
noncomputable def znu(K:W.Frag)(C:Addr)(bB:List Value)(nw:String)(f:Addr):Bool:=match K.lookup C with
 |some ⟨.type "type",_,.cls c,⟨[_,_,_,_,k4,_]⟩⟩=>k4 == some (.builtin nw) && !c.hasDel && c.mro.head? == some (.ref C) && W.tailIn K bB c.mro.tail && W.nsOkIn K c.ns && BW K c.ns "__init__" == some (some (.ref f))
 |_=>false
structure MkX (K:W.Frag) (C f:Addr) (bB:List Value) (nw:String):Prop where
 ex:znu K C bB nw f=true
 fn:W.isFn K (.ref f)=true
 kp:DN K (.ref C)=true
section
variable {X:Cx}{C f:Addr}{k:Nat}{fd:Bz}{ps:List Str}{sp:Sp}{E:XK}{Bn nw it:String}{bB:List Value}{CX:CXT}{x:Str}{p pos:Pos}{e:Expr}{es:List Expr}{t:TA}
end
noncomputable def drop(H:Hp)(a:Addr):Hp:=λb=>if b=a then none else H b
section
variable {M:DM}{A:AM}{E:Value->Ac->Prop}{s:Ac}{env:Env}
variable {nm q:Str}{C N:Addr}{bs bm:List Value}{hdct:Bool}{sn:List Str}{sub:List Value}{ab:Bool}{col:Option Bool}{dd:Option Addr}{k0 k1 k2 k3 k5:Option Value}{newId:String}
end
section
variable {X:Cx}{pins:List (Addr×Obj)}{σ:St}{H:Hp}{s:Ac}
end
section
variable {P:AD}{w:A5}{K:W.Frag}{mg:Str->Option Value}{base:Heap}{N:List Str}{qual:Str}{scope:Scope}{f:Addr}{cd:Value}{A:AM}{outer:List Env}{s0:Ac}{H0:Hp}{E:XK}
end
noncomputable def spI(C:Addr)(fs:List Str):Sp:=λvs H Q _=>∃x t ws,vs=.ref x::ws/\ws.length=fs.length/\H x=some (exN x C t none)/\∀d,H d=none->d≠x->Q .non (upd (upd H x (exN x C t (some d))) d (xdO d (fs.zip ws)))
structure ExA (P:AD) (w:A5) (K:W.Frag) (mg:Str->Option Value) (base:Heap) (x:Str) (C:Addr) (fs:List Str) where
 f:Addr
 fd:Bz
 ps:List Str
 B:String
 nw:String
 it:String
 bB:List Value
 FB:ExcBaseFacts B nw it bB
 M:MkX K C f bB nw
 ok:FnOk P w K mg base (CX1 P w) 1 f fd ps (spI C fs)
 b:Binds K fd ps []
 m:mg x=some (.ref C)
 z:fs.length<=1000
section
variable {P:AD}{w:A5}{K:W.Frag}{mg:Str->Option Value}{base:Heap}{N:List Str}{qual:Str}{scope:Scope}{f:Addr}{cd:Value}{A:AM}{outer:List Env}{s0:Ac}{H0:Hp}{E:XK}
end
section
variable {prog:AD}{w:A5}{A:AM}{E:Value->Ac->Prop}{s:Ac}{K:W.Frag}{a D d:Addr}{u:Obj}{od:Option Obj}
end
section
variable {X:Cx}{pins:List (Addr×Obj)}{σ:St}{H:Hp}{s:Ac}{a D d:Addr}{fs:List (Str×V)}
end
theorem zgh:∀{cs:List Addr}{its:List Value},Vals (cs.map V.ref) its->its=cs.map An
 |[],[],_=>rfl
 |c::cs,u::its,h=>by
  cases h with
  |cons r1 r2 =>
   cases r1
   rw[zgh r2];rfl
theorem zi6 {X:Cx}{K:W.Frag}(hK:X.K=K:=by rfl):CallR X (.builtin "isinstance") (λxs H Q=>∃(a D tp:Addr) (cs:List Addr) (b:Bool),xs=[.ref a,.ref tp]/\H a=some (excO a (.ref D) none)/\SqT K H tp (cs.map V.ref)/\ExcC K D/\W.kitAny K (.ref D) (cs.map An)=some b/\Q (.bl b) H):=by
 subst hK;intro pins s σ H xs us Q I r h;obtain⟨a,D,tp,cs,b,rfl,ha,ht,C,hk,q⟩:=h;obtain⟨u1,u2,rfl,r1,r2⟩:=Vals.two r
 cases r1
 cases r2
 obtain⟨z,_⟩:=I.hok a _ ha;obtain⟨its,hv,T,_⟩:=I.tuple ht;have:=zgh hv;subst this;obtain⟨⟨oc,dd,da,sl⟩,hg,rfl,n,rfl⟩:=T;exact W.kia_tup (zim C) I.kIn z hg hk (λz=>nomatch z) λtk=>⟨.bl b,H,I.tok tk,rfl,q⟩
open PySem RP
theorem zhR{es:List Edge}{e:Edge}(y:Int):upr (es++[e]) y=if isUp y e=true then upr es y++[px e] else upr es y:=by
 unfold upr;rw[D3,A6]
 by_cases h:isUp y e=true
 .simp[h]
 .simp[h]
structure UD (H0 H:Hp) (a:Addr) (es:List Edge) (kvs:List (Key×V)) (B:Int->Addr):Prop where
 dict:H a=some (.dK kvs)
 new:H0 a=none
 same:Same H0 H
 len:kvs.length<=es.length
 nd:(kvs.map (·.1)).Nodup
 keys:∀k∈kvs.map (·.1),∃y,k=C8 y/\upr es y≠[]
 at_:∀y,upr es y≠[]->valV kvs (.inl y)=some (.ref (B y))/\H (B y)=some (.lst ((upr es y).map V.int))/\H0 (B y)=none/\B y≠a
 inj:∀y z,upr es y≠[]->upr es z≠[]->B y=B z->y=z
 no:∀y,upr es y=[]->valV kvs (.inl y)=none
theorem UD.start{H0:Hp}{a:Addr}(h:H0 a=none):UD H0 (upd H0 a (.dK [])) a [] [] λ_=>0 where
 dict:=zaa
 new:=h
 same:=λb u e=>by rw[zai (zal e h)];exact e
 len:=Ak _
 nd:=.nil
 keys:=λ_ h=>(nomatch h)
 at_:=λy h=>absurd rfl h
 inj:=λy z h=>absurd rfl h
 no:=λ_ _=>rfl
variable {H0 H:Hp}{a z:Addr}{es:List Edge}{e:Edge}{kvs:List (Key×V)}{B:Int->Addr}
theorem UD.skip(h:UD H0 H a es kvs B)(hw:¬ (e.w=1∨e.w=3)):UD H0 H a (es++[e]) kvs B:=by
 have u:∀y,upr (es++[e]) y=upr es y:=λy=>by rw[zhR,if_neg (λq=>hw (zfW.mp q).1)]
 exact⟨h.dict,h.new,h.same,by rw[Am];exact Nat.le_succ_of_le h.len,h.nd,λk hk=>by obtain⟨y,q,r⟩:=h.keys k hk;exact⟨y,q,by rw[u];exact r⟩,
  λy hy=>by rw[u]at hy ⊢;exact h.at_ y hy,λy z hy hz=>h.inj y z (by rwa [u]at hy) (by rwa [u]at hz),λy hy=>h.no y (by rwa [u]at hy)⟩
theorem zjf(hw:e.w=1∨e.w=3)(y:Int):upr (es++[e]) y=if y=e.c.2 then upr es y++[px e] else upr es y:=by
 rw[zhR]
 by_cases q:y=e.c.2
 .rw[if_pos (zfW.mpr ⟨hw,q.symm⟩),if_pos q]
 .rw[if_neg (λz=>q (zfW.mp z).2.symm),if_neg q]
theorem UD.more(h:UD H0 H a es kvs B)(hw:e.w=1 ∨ e.w=3)(hz:H z=none)(hy:upr es e.c.2 ≠ []) :
  UD H0 (upd (upd H z (.lst [])) (B e.c.2) (.lst ((upr es e.c.2).map V.int++[.int (px e)]))) a (es++[e]) kvs B:=by
 obtain⟨a1,a2,a3,a4⟩:=h.at_ _ hy;have u:=zjf (es:=es) hw;have nz:∀{b o},H b=some o->b≠z:=λq w=>by rw[w,hz]at q;cases q
 have ne:∀y,upr (es++[e]) y≠[] ↔ upr es y≠[]:=λy=>by
  rw[u]
  by_cases q:y=e.c.2
  .subst q;simp[hy]
  .simp[q]
 refine⟨?_,h.new,λb o q=>?_,by rw[Am];exact Nat.le_succ_of_le h.len,h.nd,λk hk=>?_,λy hy'=>?_,λy z' h1 h2=>h.inj y z' ((ne y).mp h1) ((ne z').mp h2),λy hy'=>h.no y ?_⟩
 .rw[zai a4.symm,zai (nz h.dict)];exact h.dict
 .have q':=h.same b o q;rw[zai (zal q a3),zai (nz q')];exact q'
 .obtain⟨y,q,r⟩:=h.keys k hk;exact⟨y,q,(ne y).mpr r⟩
 .obtain⟨b1,b2,b3,b4⟩:=h.at_ y ((ne y).mp hy');refine⟨b1,?_,b3,b4⟩;rw[u]
  by_cases q:y=e.c.2
  .subst q;rw[if_pos rfl,zaa,A6];rfl
  .rw[if_neg q,zai (λw=>q (h.inj y _ ((ne y).mp hy') hy w)),zai (nz b2)];exact b2
 .exact Cf λw=>(ne y).mpr w hy'
theorem UD.first(h:UD H0 H a es kvs B)(hw:e.w=1 ∨ e.w=3)(hz:H z=none)(hy:upr es e.c.2 = []) :
  UD H0 (upd (upd (upd H z (.lst [])) a (.dK (putK kvs (.inl e.c.2) (.ref z)))) z (.lst ([]++[.int (px e)]))) a (es++[e]) (putK kvs (.inl e.c.2) (.ref z)) λy=>if y=e.c.2 then z else B y:=by
 have u:=zjf (es:=es) hw;have nz:∀{b o},H b=some o->b≠z:=λq w=>by rw[w,hz]at q;cases q
 have haz:a≠z:=nz h.dict;have hv:=h.no _ hy
 have ne:∀y,upr (es++[e]) y≠[] ↔ y=e.c.2∨upr es y≠[]:=λy=>by
  rw[u]
  by_cases q:y=e.c.2
  .subst q;simp
  .simp[q]
 refine⟨?_,h.new,λb o q=>?_,?_,zms _ h.nd hv,λk hk=>?_,λy hy'=>?_,λy z' h1 h2 q=>?_,λy hy'=>?_⟩
 .rw[zai haz,zaa]
 .have q':=h.same b o q;rw[zai (nz q'),zai (zal q h.new),zai (nz q')];exact q'
 .have:=zaP kvs (C8 e.c.2) (V.ref z);have:=h.len;rw[Am];simp only[A4,Cc];lia
 .rw[zfy _ hv,A6]at hk;rcases AQ.mp hk with hk |hk
  .obtain⟨y,q,r⟩:=h.keys k hk;exact⟨y,q,(ne y).mpr (.inr r)⟩
  .exact⟨e.c.2,Aj.mp hk,(ne _).mpr (.inl rfl)⟩
 .by_cases q:y=e.c.2
  .subst q;refine⟨by rw[zcM,if_pos rfl,if_pos rfl],?_,?_,?_⟩
   .rw[if_pos rfl,zaa,u,if_pos rfl,hy];rfl
   .rw[if_pos rfl];exact h.same.free hz
   .rw[if_pos rfl];exact haz.symm
  .obtain⟨b1,b2,b3,b4⟩:=h.at_ y (((ne y).mp hy').resolve_left q);rw[if_neg q];refine⟨by rw[zcM,if_neg (λw=>q (Dw w))];exact b1,?_,b3,b4⟩;rw[zai (nz b2),zai b4,zai (nz b2),u,if_neg q];exact b2
 .by_cases q1:y=e.c.2 <;> by_cases q2:z'=e.c.2 <;> simp only[q1,q2,if_true,if_false]at q
  .rw[q1,q2]
  .exact absurd q.symm (nz (h.at_ z' (((ne z').mp h2).resolve_left q2)).2.1)
  .exact absurd q (nz (h.at_ y (((ne y).mp h1).resolve_left q1)).2.1)
  .exact h.inj y z' (((ne y).mp h1).resolve_left q1) (((ne z').mp h2).resolve_left q2) q
 .have q:y≠e.c.2:=λw=>(ne y).mpr (.inl w) hy'
  rw[zcM,if_neg (λw=>q (Dw w))];exact h.no y (Cf λw=>(ne y).mpr (.inr w) hy')
end L2
namespace RP
theorem gapE1(c:Cell):gap ⟨c,1⟩=(c.1+1,c.2):=by unfold gap go mv;simp
theorem gapE3(c:Cell):gap ⟨c,3⟩=(c.1-1,c.2):=by unfold gap go mv;simp;lia
noncomputable def upL(y x:Int)(e:Edge):Bool:=decide (e.c.2=y) && ((decide (e.w=1) && decide (e.c.1+1<=x)) || (decide (e.w=3) && decide (e.c.1<=x)))
theorem ziE{es:List Edge}(nd:es.Nodup)(e0:Edge):(es.filter λe=>decide (e=e0)).length=if e0∈es then 1 else 0:=by
 induction es with
 |nil=>rfl
 |cons a l ih =>
  have hn:=BJ.mp nd;have ih:=ih hn.2
  by_cases h:a=e0
  .subst h;rw[List.filter_cons_of_pos (by simp),A4,ih,if_neg hn.1,if_pos Ax]
  .rw[List.filter_cons_of_neg (by simpa using h),ih]
   by_cases hm:e0∈l
   .rw[if_pos hm,if_pos (Aq _ hm)]
   .rw[if_neg hm,if_neg (λz=>(AG.mp z).elim (λq=>h q.symm) hm)]
theorem zdb{p q r:Edge->Bool}:∀{es:List Edge},(∀e∈es,p e=(q e ||r e))->(∀e∈es,¬ (q e=true/\r e=true))->(es.filter p).length=(es.filter q).length+(es.filter r).length
 |[],_,_=>rfl
 |e::l,h1,h2=>by
  have ih:=zdb (p:=p) (q:=q) (r:=r) (es:=l) (λe he=>h1 e (Aq _ he)) (λe he=>h2 e (Aq _ he));have a:=h1 e Ax;have b:=h2 e Ax;rw[CJ,CJ,CJ,a]
  cases hq:q e <;> cases hr:r e
  .simp only[Bool.or_self,AZ,if_false];exact ih
  .simp only[Bool.false_or,if_true,AZ,if_false,A4];lia
  .simp only[Bool.or_false,if_true,AZ,if_false,A4];lia
  .exact absurd ⟨hq,hr⟩ b
theorem zjg{C:Cell -> Bool}{es:List Edge}(nd:es.Nodup)(all:∀e, e ∈ es ↔ IsE C e){y x0:Int}(h0:∀x, x <= x0 -> C (x, y)=false) :
  ∀n:Nat,((es.filter (upL y (x0+n))).length % 2=1 ↔ C (x0+n,y)=true)
 | 0=>by
  have:es.filter (upL y (x0+(0:Nat)))=[]:=by
   rw[List.filter_eq_nil_iff];intro e he hu;have hE:=(all e).mp he;unfold upL at hu;simp only[Bd,Bool.or_eq_true,decide_eq_true_eq]at hu;obtain⟨hy,h |h⟩:=hu
   .have:=h0 e.c.1 (by lia);rw[<- hy]at this;rw[show (e.c.1,e.c.2)=e.c from rfl,hE.2.1]at this
    cases this
   .have:=h0 e.c.1 (by lia);rw[<- hy]at this;rw[show (e.c.1,e.c.2)=e.c from rfl,hE.2.1]at this
    cases this
  rw[this,h0 _ (by lia)];simp
 |n+1=>by
  have ih:=zjg nd all h0 n;have c1:=ziE nd ⟨(x0+n,y),1⟩;have c3:=ziE nd ⟨(x0+n+1,y),3⟩
  have m1:(⟨(x0+n,y),1⟩:Edge)∈es ↔ C (x0+n,y)=true/\C (x0+n+1,y)=false:=by rw[all];unfold IsE;rw[gapE1];exact⟨λz=>z.2,λz=>⟨(by show 1<4;decide),z⟩⟩
  have m3:(⟨(x0+n+1,y),3⟩:Edge)∈es ↔ C (x0+n+1,y)=true/\C (x0+n,y)=false:=by rw[all];unfold IsE;rw[gapE3];show _/\_/\C (x0+n+1-1,y)=false ↔ _;rw[show x0+(n:Int)+1-1=x0+n by lia];exact⟨λz=>z.2,λz=>⟨(by show 3<4;decide),z⟩⟩
  have e1:(es.filter (upL y (x0+(n+1:Nat)))).length=(es.filter (upL y (x0+n))).length+(es.filter λe=>decide (e=⟨(x0+n,y),1⟩) ||decide (e=⟨(x0+n+1,y),3⟩)).length:=by
   refine zdb (λe he=>?_) (λe he h=>?_)
   .have hw:=((all e).mp he).1;obtain⟨⟨a,b⟩,w⟩:=e;simp only at hw;unfold upL;rw[Cu];simp only[Bd,Bool.or_eq_true,decide_eq_true_eq,Edge.mk.injEq,Prod.mk.injEq];lia
   .obtain⟨⟨a,b⟩,w⟩:=e;unfold upL at h;simp only[Bd,Bool.or_eq_true,decide_eq_true_eq,Edge.mk.injEq,Prod.mk.injEq]at h;lia
  have e2:(es.filter λe=>decide (e=⟨(x0+n,y),1⟩) ||decide (e=⟨(x0+n+1,y),3⟩)).length=(es.filter λe=>decide (e=(⟨(x0+n,y),1⟩:Edge))).length+(es.filter λe=>decide (e=(⟨(x0+n+1,y),3⟩:Edge))).length :=
   zdb (λe _=>rfl) (λe _ h=>by have a:=of_decide_eq_true h.1;have b:=of_decide_eq_true h.2;rw[a]at b;have:=congrArg Edge.w b;simp at this)
  rw[e1,e2,c1,c3,show x0+((n+1:Nat):Int)=x0+n+1 by lia]
  cases h1:C (x0+n,y) <;> cases h2:C (x0+n+1,y)
  .rw[h1]at ih;rw[if_neg (λz=>by rw[m1,h1]at z;cases z.1),if_neg (λz=>by rw[m3,h2]at z;cases z.1)];simp only[AZ,iff_false]at ih ⊢;lia
  .rw[h1]at ih;rw[if_neg (λz=>by rw[m1,h1]at z;cases z.1),if_pos (m3.mpr ⟨h2,h1⟩)];simp only[AZ,iff_false]at ih ⊢;simp only[iff_true];lia
  .rw[h1]at ih;rw[if_pos (m1.mpr ⟨h1,h2⟩),if_neg (λz=>by rw[m3,h2]at z;cases z.1)];simp only[iff_true]at ih;simp only[AZ,iff_false];lia
  .rw[h1]at ih;rw[if_neg (λz=>by rw[m1,h2]at z;cases z.2),if_neg (λz=>by rw[m3,h1]at z;cases z.2)];simp only[iff_true]at ih ⊢;lia
theorem zd2{cs:List Cell}{es:List Edge}(nd:es.Nodup)(all:∀e,e∈es ↔ IsE (isIn cs) e)(x y:Int):(es.filter (upL y x)).length % 2=1 ↔ isIn cs (x,y)=true:=by
 have low:∀l:List Cell,∃x0:Int,x0<=x/\∀c∈l,x0<c.1:=by
  intro l
  induction l with
  |nil=>exact⟨x,Int.le_refl _,λc h=>by cases h⟩
  |cons a l ih =>
   obtain⟨x0,h1,h2⟩:=ih;refine⟨min x0 (a.1-1),by lia,λc hc=>?_⟩;rcases AG.mp hc with z |z
   .rw[z];lia
   .have:=h2 c z;lia
 obtain⟨x0,h1,h2⟩:=low cs
 have h0:∀z,z<=x0->isIn cs (z,y)=false:=λz hz=>by
  unfold isIn;refine decide_eq_false λhm=>?_
  have:=h2 _ hm;simp only at this;lia
 have:=zjg nd all h0 (x-x0).toNat
 rw[show x0+((x-x0).toNat:Int)=x by lia]at this;exact this
noncomputable def facE(e:Edge):Edge:=⟨gap e,(e.w+2) % 4⟩
theorem zlm:∀w<4,mvNil ((2*w+6) % 8) ((2*((w+2) % 4)+6) % 8)=true:=by decide
theorem zfY{e:Edge}(h:e.w<4):gap (facE e)=e.c:=by unfold facE gap;exact zhD (zlm _ h)
theorem zdp{e:Edge}(h:e.w<4):facE (facE e)=e:=by
 obtain⟨c,w⟩:=e;have:=zfY (e:=⟨c,w⟩) h;show (⟨gap (facE ⟨c,w⟩),((w+2) % 4+2) % 4⟩:Edge)=_;rw[this];simp only at h
 congr 1
 lia
theorem zmD(e:Edge):(facE e).w<4:=B9 _ (by decide)
theorem zhE:∀w<4,¬ ((mv ((2*w+6) % 8)).1=0/\(mv ((2*w+6) % 8)).2=0):=by decide
theorem zeu{e:Edge}(h:e.w<4):gap e≠e.c:=λz=>by unfold gap go at z;have h1:=congrArg Prod.fst z;have h2:=congrArg Prod.snd z;simp only at h1 h2;exact zhE _ h ⟨by lia,by lia⟩
noncomputable def chg(C:Cell->Bool)(c:Cell)(b:Bool)(x:Cell):Bool:=if x=c then b else C x
theorem zg2(C:Cell->Bool)(c:Cell)(b:Bool):chg C c b c=b:=by unfold chg;rw[if_pos rfl]
theorem zcH{C:Cell->Bool}{c x:Cell}(b:Bool)(h:x≠c):chg C c b x=C x:=by unfold chg;rw[if_neg h]
theorem zdo{C:Cell->Bool}{e:Edge}(h:e.w<4):IsE C (facE e) ↔ C (gap e)=true/\C e.c=false:=by unfold IsE;rw[zfY h];exact⟨λz=>z.2,λz=>⟨zmD e,z⟩⟩
theorem zmd{C:Cell -> Bool}{c:Cell}(hc:C c=false)(e:Edge) :
  IsE (chg C c true) e ↔ (IsE C e/\∀w,w<4->e≠facE ⟨c,w⟩)∨∃w,w<4/\e=⟨c,w⟩/\¬ IsE C (facE ⟨c,w⟩):=by
 by_cases he:e.c=c
 .constructor
  .rintro⟨h1,h2,h3⟩;refine .inr ⟨e.w,h1,by rw[<- he],?_⟩;have e1:(⟨c,e.w⟩:Edge)=e:=by rw[<- he]
   rw[e1,zdo h1];rintro⟨z,_⟩;rw[zcH _ (by rw[<- he];exact zeu h1),z]at h3
   cases h3
  .rintro (⟨⟨_,h2,_⟩,_⟩ |⟨w,hw,rfl,hn⟩)
   .rw[he,hc]at h2;cases h2
   .refine⟨hw,zg2 _ _ _,?_⟩;rw[zcH _ (zeu (e:=⟨c,w⟩) hw)];rw[zdo (e:=⟨c,w⟩) hw]at hn
    cases z:C (gap ⟨c,w⟩) with
    |false=>rfl
    |true=>exact absurd ⟨z,hc⟩ hn
 .constructor
  .rintro⟨h1,h2,h3⟩;rw[zcH _ he]at h2;have hg:gap e≠c:=λz=>by rw[z,zg2]at h3;cases h3
   rw[zcH _ hg]at h3;refine .inl ⟨⟨h1,h2,h3⟩,λw hw z=>hg ?_⟩;rw[z,zfY (e:=⟨c,w⟩) hw]
  .rintro (⟨⟨h1,h2,h3⟩,hn⟩ |⟨w,hw,rfl,_⟩)
   .have hg:gap e ≠ c := λz => by
     refine hn ((e.w+2) % 4) (B9 _ (by decide)) ?_
     have:=zdp h1;unfold facE at this;rw[z]at this;exact this.symm
    exact⟨h1,by rw[zcH _ he];exact h2,by rw[zcH _ hg];exact h3⟩
   .exact absurd rfl he
theorem zkK{C:Cell -> Bool}{c:Cell}(hc:C c=true)(e:Edge) :
  IsE (chg C c false) e ↔ (IsE C e/\∀w,w<4->e≠⟨c,w⟩)∨∃w,w<4/\e=facE ⟨c,w⟩/\¬ IsE C ⟨c,w⟩:=by
 constructor
 .rintro⟨h1,h2,h3⟩;have he:e.c≠c:=λz=>by rw[z,zg2]at h2;cases h2
  rw[zcH _ he]at h2
  by_cases hg:gap e=c
  .have e1:facE e=⟨c,(e.w+2) % 4⟩:=by unfold facE;rw[hg]
   refine .inr ⟨(e.w+2) % 4,B9 _ (by decide),by rw[<- e1,zdp h1],λz=>?_⟩;rw[<- e1,zdo h1]at z;rw[h2]at z
   cases z.2
  .rw[zcH _ hg]at h3;exact .inl ⟨⟨h1,h2,h3⟩,λw hw z=>he (by rw[z])⟩
 .rintro (⟨⟨h1,h2,h3⟩,hn⟩ |⟨w,hw,rfl,hn⟩)
  .have he:e.c≠c:=λz=>hn e.w h1 (by rw[<- z])
   have hg:gap e≠c:=λz=>by rw[z,hc]at h3;cases h3
   exact⟨h1,by rw[zcH _ he];exact h2,by rw[zcH _ hg];exact h3⟩
  .have hgc:gap ⟨c,w⟩≠c:=zeu (e:=⟨c,w⟩) hw;rw[zdo (e:=⟨c,w⟩) hw,zcH _ hgc,zg2];refine⟨?_,rfl⟩
   cases z:C (gap ⟨c,w⟩) with
   |true=>rfl
   |false=>exact absurd ⟨hw,hc,z⟩ hn
theorem zjk{C B:Cell->Bool}(hB:∀x,B x=true ↔ ∃e,IsE C e/\e.c=x){e:Edge}(he:IsE C e):stepB B e=stepB C e:=by
 have sub:∀x,C x=false->B x=false:=λx hx=>by
  cases z:B x with
  |false=>rfl
  |true =>
   obtain⟨f,h1,h2⟩:=(hB x).mp z;rw[<- h2,h1.2.1]at hx
   cases hx
 have hn:=zdL he;rcases zba he with⟨q1,q2,q3⟩ |⟨q0,q1,q2,q3⟩ |⟨q0,q1,q2,q3⟩
 .rw[q3]at hn;have:B (go e.c ((2*e.w+7) % 8))=true:=(hB _).mpr ⟨_,hn,rfl⟩;rw[q2];unfold stepB;rw[if_pos this]
 .rw[q3]at hn;have:B (go e.c (2*e.w))=true:=(hB _).mpr ⟨_,hn,rfl⟩;rw[q2];unfold stepB;rw[if_neg (by rw[sub _ q0];decide),if_pos this]
 .rw[q2];unfold stepB;rw[if_neg (by rw[sub _ q0];decide),if_neg (by rw[sub _ q1];decide)]
theorem zmz{C B:Cell->Bool}(hB:∀x,B x=true ↔ ∃e,IsE C e/\e.c=x){e:Edge}(he:IsE C e):IsE B e:=by
 refine⟨he.1,(hB _).mpr ⟨e,he,rfl⟩,?_⟩
 cases z:B (gap e) with
 |false=>rfl
 |true =>
  obtain⟨f,h1,h2⟩:=(hB _).mp z;have:=he.2.2;rw[<- h2,h1.2.1]at this
  cases this
theorem zhH{C B:Cell->Bool}{b:Edge}{es:List Edge}(h:Closed B b es)(hb:IsE C b)(hs:∀e,IsE C e->stepB B e=stepB C e):Closed C b es/\∀e∈es,IsE C e:=by
 obtain⟨hc,l,hl,hlb⟩:=h
 have all:∀(i:Nat) e,es[i]?=some e->IsE C e:=by
  intro i
  induction i with
  |zero =>
   intro e he;have:=hc.1;rw[he]at this
   cases this
   exact hb
  |succ i ih =>
   intro e he;have hi:i<es.length:=by have:=(Ad.mp he).1;lia
   have h1:=ih _ (Aa hi);have h2:=hc.2.1 i _ e (Aa hi) he;rw[h2];unfold nxt;rw[hs _ h1];exact zdL h1
 have mem:∀e∈es,IsE C e:=λe he=>by obtain⟨i,hi,rfl⟩:=AE he;exact all i _ (Aa hi)
 have nx:∀e∈es,nxt C e=nxt B e:=λe he=>by unfold nxt;rw[hs e (mem e he)]
 refine⟨⟨⟨hc.1,λi e f h1 h2=>?_,mem,hc.2.2.2⟩,l,hl,?_⟩,mem⟩
 .rw[nx e (Ai h1)];exact hc.2.1 i e f h1 h2
 .rw[nx l (Ai hl)];exact hlb
end RP
namespace RR
open PySem L2
noncomputable def top(i:Nat):Stmt:=PySem.Challenge.pw_rimsteps_k61_cells_put_and_taken.main.body.getD i (.Pass ⟨0,0,0,0⟩)
noncomputable abbrev zcA:Stmt:=top 12
noncomputable abbrev zhf:List Str:=["cell"]
theorem zfv:FnScope zhf ["cell"] (zad zcA):=sC
noncomputable abbrev zcn:Stmt:=top 13
noncomputable abbrev zge:List Str:=["picture","at"]
theorem zcZ:FnScope zge ["picture"] (zad zcn):=sC
noncomputable abbrev zjz:Stmt:=top 14
noncomputable abbrev znE:List Str:=["x","y","step","right","up"]
theorem zhl:FnScope znE ["x","y","step"] (zad zjz):=sC
noncomputable abbrev zbY:Stmt:=top 15
noncomputable abbrev zdP:List Str:=["picture"]
theorem zfu:FnScope zdP ["picture"] (zad zbY):=sC
noncomputable abbrev zcy:Stmt:=top 17
noncomputable abbrev zhd:List Str:=["edge","x","y","way"]
theorem zbI:FnScope zhd ["edge"] (zad zcy):=sC
noncomputable abbrev zck:Stmt:=top 18
noncomputable abbrev zgb:List Str:=["edge","x","y"]
theorem zbZ:FnScope zgb ["edge"] (zad zck):=sC
noncomputable abbrev zbQ:Stmt:=top 19
noncomputable abbrev zdf:List Str:=["picture","table","edges"]
theorem zcv:FnScope zdf ["picture"] (zad zbQ):=sC
noncomputable abbrev zbP:Stmt:=top 20
noncomputable abbrev zeE:List Str:=["way"]
theorem zdR:FnScope zeE ["way"] (zad zbP):=sC
noncomputable abbrev zcx:Stmt:=top 21
noncomputable abbrev zhc:List Str:=["way"]
theorem zft:FnScope zhc ["way"] (zad zcx):=sC
noncomputable abbrev zch:Stmt:=top 22
noncomputable abbrev zf8:List Str:=["table","edge","x","y","way","step"]
theorem za7:FnScope zf8 ["table","edge"] (zad zch):=sC
noncomputable abbrev zdx:Stmt:=top 23
noncomputable abbrev zi9:List Str:=["step"]
theorem zhk:FnScope zi9 ["step"] (zad zdx):=sC
noncomputable abbrev zcl:Stmt:=top 24
noncomputable abbrev zgc:List Str:=["edge","step","x","y","way","new_x","new_y"]
theorem zaZ:FnScope zgc ["edge","step"] (zad zcl):=sC
noncomputable abbrev zc4:Stmt:=top 27
noncomputable abbrev zhJ:List Str:=["table","begin","step","walk","edge"]
theorem zbj:FnScope zhJ ["table","begin"] (zad zc4):=sC
noncomputable abbrev zaM:Stmt:=top 28
noncomputable abbrev zbt:List Str:=["walk","lefts","slants"]
theorem zbe:FnScope zbt ["walk"] (zad zaM):=sC
noncomputable abbrev zbf:Stmt:=top 29
noncomputable abbrev zde:List Str:=["walk","lefts","slants"]
theorem za6:FnScope zde ["walk"] (zad zbf):=sC
noncomputable abbrev zeg:Stmt:=top 30
noncomputable abbrev zkF:List Str:=["walk"]
theorem ziQ:FnScope zkF ["walk"] (zad zeg):=sC
noncomputable abbrev zcR:Stmt:=top 31
noncomputable abbrev zfk:List Str:=["walk","sort"]
theorem zhn:FnScope zfk ["walk","sort"] (zad zcR):=sC
noncomputable abbrev zbM:Stmt:=top 32
noncomputable abbrev zdH:List Str:=["walk","sort","begin","at","row"]
theorem zbO:FnScope zdH ["walk"] (zad zbM):=sC
noncomputable abbrev zci:Stmt:=top 33
noncomputable abbrev zf9:List Str:=["one","sort","x","y","row"]
theorem za8:FnScope zf9 ["one"] (zad zci):=sC
noncomputable abbrev zb1:Stmt:=top 34
noncomputable abbrev zeW:List Str:=["table","edges","walked","told","begin","walk","edge","step"]
theorem zaI:FnScope zeW ["table","edges"] (zad zb1):=sC
noncomputable abbrev zfw:Stmt:=top 35
noncomputable abbrev zlv:List Str:=["picture"]
theorem zjy:FnScope zlv ["picture"] (zad zfw):=sC
noncomputable abbrev zcB:Stmt:=top 38
noncomputable abbrev zhg:List Str:=["one","sort","x","y","row"]
theorem zbm:FnScope zhg ["one"] (zad zcB):=sC
noncomputable abbrev zed:Stmt:=top 39
noncomputable abbrev zkC:List Str:=["step"]
theorem ziP:FnScope zkC ["step"] (zad zed):=sC
noncomputable abbrev zcm:Stmt:=top 40
noncomputable abbrev zgd:List Str:=["begin_way","row","way","deeds","step","lefts"]
theorem za0:FnScope zgd ["begin_way","row"] (zad zcm):=sC
noncomputable abbrev zef:Stmt:=top 41
noncomputable abbrev zkE:List Str:=["begin","deeds","walk","edge","deed"]
theorem zb8:FnScope zkE ["begin","deeds"] (zad zef):=sC
noncomputable abbrev zcw:Stmt:=top 42
noncomputable abbrev zhb:List Str:=["begin","row"]
theorem zfs:FnScope zhb ["begin","row"] (zad zcw):=sC
noncomputable abbrev zb0:Stmt:=top 43
noncomputable abbrev zeV:List Str:=["edge","step","x","y","way","behind","seen"]
theorem zaR:FnScope zeV ["edge","step"] (zad zb0):=sC
noncomputable abbrev zcj:Stmt:=top 44
noncomputable abbrev zga:List Str:=["walk","known","steps_gone","edge","step","cell","inside"]
theorem zaF:FnScope zga ["walk"] (zad zcj):=sC
noncomputable abbrev zcz:Stmt:=top 45
noncomputable abbrev zhe:List Str:=["walk","edge","step"]
theorem zcg:FnScope zhe ["walk"] (zad zcz):=sC
noncomputable abbrev zc5:Stmt:=top 46
noncomputable abbrev zhK:List Str:=["walk","sort"]
theorem zgy:FnScope zhK ["walk","sort"] (zad zc5):=sC
noncomputable abbrev zee:Stmt:=top 47
noncomputable abbrev zkD:List Str:=["one","sort","x","y","row","begin","walk","at"]
theorem zbi:FnScope zkD ["one"] (zad zee):=sC
noncomputable abbrev zcQ:Stmt:=top 48
noncomputable abbrev zfj:List Str:=["one"]
theorem zhm:FnScope zfj ["one"] (zad zcQ):=sC
noncomputable abbrev zdw:Stmt:=top 50
noncomputable abbrev zi8:List Str:=["edges","places","x","y","way"]
theorem zbN:FnScope zi8 ["edges"] (zad zdw):=sC
noncomputable abbrev zbK:Stmt:=top 52
noncomputable abbrev zcr:List Str:=["places","x","y","passed"]
theorem zcY:FnScope zcr ["places","x","y"] (zad zbK):=sC
noncomputable abbrev zbA:Stmt:=top 54
noncomputable abbrev zc3:List Str:=["some"]
theorem zea:FnScope zc3 ["some"] (zad zbA):=sC
noncomputable abbrev zeh:Stmt:=top 55
noncomputable abbrev zkG:List Str:=["edges","x","y"]
theorem ziR:FnScope zkG ["edges","x","y"] (zad zeh):=sC
noncomputable abbrev zbn:Stmt:=top 56
noncomputable abbrev zbX:List Str:=["edges","x","y","inside","kept","way","edge","old","new"]
theorem zaJ:FnScope zbX ["edges","x","y","inside"] (zad zbn):=sC
noncomputable abbrev zaD:Stmt:=top 57
noncomputable abbrev zaY:List Str:=["some","edges","told"]
theorem zb9:FnScope zaY ["some","edges"] (zad zaD):=sC
noncomputable abbrev s_put:Stmt:=top 58
noncomputable abbrev N_put:List Str:=["some","x","y","edges"]
theorem zlG:FnScope N_put ["some","x","y"] (zad s_put):=sC
noncomputable abbrev zho:Stmt:=top 59
noncomputable abbrev zmP:List Str:=["some","x","y","edges"]
theorem zh4:FnScope zmP ["some","x","y"] (zad zho):=sC
noncomputable abbrev zb3:Stmt:=top 61
noncomputable abbrev zeY:List Str:=["_law_script","_law_k"]
theorem zec:FnScope zeY ["_law_script","_law_k"] (zad zb3):=sC
noncomputable abbrev zc6:Stmt:=top 62
noncomputable abbrev zhL:List Str:=["_law_pen","_law_base","_law_rest","_law_number"]
theorem zbC:FnScope zhL ["_law_pen","_law_base"] (zad zc6):=sC
noncomputable abbrev zdy:Stmt:=top 63
noncomputable abbrev zja:List Str:=["_law_pen","_law_way"]
theorem zeb:FnScope zja ["_law_pen"] (zad zdy):=sC
noncomputable abbrev zbR:Stmt:=top 64
noncomputable abbrev zeF:List Str:=["_law_pen","_law_way","_law_x","_law_y","_law_wide","_law_high"]
theorem zdS:FnScope zeF ["_law_pen","_law_way","_law_x","_law_y","_law_wide","_law_high"] (zad zbR):=sC
noncomputable abbrev zb2:Stmt:=top 65
noncomputable abbrev zeX:List Str:=["_law_pen","_law_most","_law_wide","_law_high","_law_way","_law_dx","_law_dy","_law_found","_law_y","_law_x"]
theorem zaw:FnScope zeX ["_law_pen","_law_most"] (zad zb2):=sC
noncomputable abbrev zc7:Stmt:=top 66
noncomputable abbrev zhM:List Str:=["_law_cell"]
theorem zgz:FnScope zhM ["_law_cell"] (zad zc7):=sC
noncomputable abbrev zbo:Stmt:=top 67
noncomputable abbrev zcL:List Str:=["_law_found"]
theorem zdT:FnScope zcL ["_law_found"] (zad zbo):=sC
noncomputable abbrev za5:Stmt:=top 68
noncomputable abbrev zce:List Str:=["_law_found"]
theorem zdk:FnScope zce ["_law_found"] (zad za5):=sC
noncomputable abbrev zbL:Stmt:=top 69
noncomputable abbrev zcs:List Str:=["_law_deed","_law_some","_law_x","_law_y","_law_found","_law_heard","e","_law_kinds"]
theorem zaC:FnScope zcs ["_law_deed","_law_some","_law_x","_law_y"] (zad zbL):=sC
noncomputable abbrev zcC:Stmt:=top 70
noncomputable abbrev zdQ:List Str:=["_law_pen","_law_cells","_law_way","_law_x","_law_y"]
theorem zbJ:FnScope zdQ ["_law_pen","_law_cells"] (zad zcC):=sC
noncomputable abbrev zaU:Stmt:=top 71
noncomputable abbrev zbl:List Str:=["_law_some","_law_cells","_law_x","_law_y","_law_deed","_law_other","_law_held","_law_refused","_law_left","_law_due","_law_found","_law_went"]
theorem zaB:FnScope zbl ["_law_some","_law_cells","_law_x","_law_y"] (zad zaU):=sC
noncomputable abbrev s_law:Stmt:=top 72
noncomputable abbrev N_law:List Str:=["_law_script","_law_pen","_law_cells","_law_k","_law_x","_law_y"]
theorem zd9:FnScope N_law ["_law_script"] (zad s_law):=sC
open PySem L2 RP
noncomputable def cellT(c:Cell):List V:=[.int c.1,.int c.2]
noncomputable def edgeT(e:Edge):List V:=[.int e.c.1,.int e.c.2,.int e.w]
noncomputable def sv:Option Nat->V
 |none=>.non
 |some s=>.int s
noncomputable def Tab(H:Hp)(t:Addr)(C:Cell->Bool):Prop:=∃kvs:List (List Key×V),H t=some (.dT kvs)/\∀c:Cell,(valV kvs [C8 c.1,C8 c.2]).isSome=C c
theorem Tab.same{H H':Hp}{t:Addr}{C:Cell->Bool}(h:Tab H t C)(s:Same H H'):Tab H' t C:=let ⟨kvs,e,q⟩:=h;⟨kvs,s _ _ e,q⟩
theorem Same.up{H:Hp}{p:Addr}{o:HO}(h:H p=none):Same H (upd H p o):=λb u e=>by rw[zai (zal e h)];exact e
structure Txt (P:AD) (w:A5) (K:W.Frag) (mg:Str->Option Value):Prop where
 moves:∃M,mg "MOVES" = some (.ref M)/\∀H,∃ms:List Addr,SqT K H M (ms.map V.ref)/\ms.length=8/\∀(i:Nat) a,ms[i]?=some a->SqT K H a [.int (mv i).1,.int (mv i).2]
 ways:Ways P w K mg
 more:Two P w K mg "MORE_LEFTS" 4 (-4)
 nabs:mg "abs" = none
 nmax:mg "max" = none
 nany:mg "any" = none
 nrange:mg "range" = none
 nlen:mg "len" = none
 nmin:mg "min" = none
 nsorted:mg "sorted" = none
 ntuple:mg "tuple" = none
 nint:mg "int" = none
 nbool:mg "bool" = none
 nstr:mg "str" = none
 nall:mg "all" = none
 nisinstance:mg "isinstance" = none
 nlist:mg "list" = none
 nsum:mg "sum" = none
 nenumerate:mg "enumerate" = none
 nzip:mg "zip" = none
 nValueError:mg "ValueError" = none
theorem two:2<=sizeLine:=by decide
theorem three:3<=sizeLine:=by decide
section
variable {P:AD}{w:A5}{K:W.Frag}{mg:Str->Option Value}{base:Heap}
noncomputable def zd5(K:W.Frag):Sp:=λvs H Q _=>∃(a:Addr) (x y:Int) (r:List V),vs=[.ref a]/\SqT K H a (.int x::.int y::r)/\∀(p:Addr) (H':Hp),H p=none->Same H H'->H' p=some (.tup [.int y,.int x])->Q (.ref p) H'
theorem zfJ (d:Df K mg "cell_order" zcA ["cell"]):FnOk P w K mg base CX0 1 d.f d.fd ["cell"] (zd5 K):=by
 refine d.F.ok zfv (λvs H Q E h=>?_) (λcdv A outer s H vs Q E hr h=>?_)
 .obtain⟨a,x,y,r,rfl,_⟩:=h;rfl
 .obtain⟨a,x,y,r,rfl,hq,k⟩:=h;refine⟨_,(zae (zaj (zas (zah (pe_ix zbW (pv 0) zaf (λ_ _=>rfl)) (zah (pe_ix zbW (pv 0) zaf (λ_ _=>rfl)) zab))))),?_⟩;refine⟨_,rfl,a,_,_,_,rfl,rfl,hq,zay (j:=1) rfl,_,rfl,a,_,_,_,rfl,rfl,hq,zay (j:=0) rfl,two,λp hp=>?_⟩;exact k p _ hp (Same.up hp) zaa
noncomputable def zgp:Sp:=λvs H Q _=>∃(c:Cell) (i:Nat),vs=[.int c.1,.int c.2,.int i]/\i<8/\∀(p:Addr) (H':Hp),H p=none->Same H H'->H' p=some (.tup (cellT (go c i)))->Q (.ref p) H'
theorem zmn (T:Txt P w K mg) (d:Df K mg "gone" zjz ["x","y","step"]):FnOk P w K mg base CX0 1 d.f d.fd ["x","y","step"] zgp:=by
 refine d.F.ok zhl (λvs H Q E h=>?_) (λcdv A outer s H vs Q E hr h=>?_)
 .obtain⟨c,i,rfl,_⟩:=h;rfl
 .obtain⟨c,i,rfl,hi,k⟩:=h;obtain⟨M,hM,hms⟩:=T.moves;obtain⟨ms,hq,hl,hm⟩:=hms H
  refine⟨_,(zac (zbD (pe_ix zbW (zby (v:=.ref M) rfl hM rfl) (pv 2) (λ_ _=>rfl)) (zbk (by rfl) (zag (nG 3 zhl.nd) (zag (nG 4 zhl.nd) zaA))))
   (zae (zaj (zas (pa_B (pe_op za3 (pv 0) (pv 3)) (pa_B (pe_op za3 (pv 1) (pv 4)) zab)))))),?_⟩
  have hi':i<ms.length:=by lia
  have e1:ms[i]?=some ms[i]:=by simp[hi']
  refine⟨_,rfl,M,_,(i:Int),.ref ms[i],rfl,rfl,hq,zay (by simp[hi']),ms[i],_,rfl,hm i _ e1,rfl,_,_,rfl,_,_,rfl,rfl,?_⟩;refine⟨_,rfl,_,rfl,_,_,rfl,rfl,_,rfl,_,rfl,_,_,rfl,rfl,two,λp hp=>?_⟩;exact k p _ hp (Same.up hp) zaa
noncomputable def zdt:Sp:=λvs H Q _=>∃w:Nat,vs=[.int w]/\w<4/\Q (.int (2*w:Nat)) H
theorem zdU (d:Df K mg "straight_step" zbP ["way"]):FnOk P w K mg base CX0 1 d.f d.fd ["way"] zdt:=by
 refine d.F.ok zdR (λvs H Q E h=>?_) (λcdv A outer s H vs Q E hr h=>?_)
 .obtain⟨w,rfl,_⟩:=h;rfl
 .obtain⟨w,rfl,hw,k⟩:=h;refine⟨_,(zae (zaj (pe_op zc0 zaf (pv 0)))),?_⟩;refine⟨_,rfl,_,_,rfl,rfl,.inl ⟨by decide,by decide⟩,?_⟩;have e:(2*(w:Int))=((2*w:Nat):Int):=by lia
  show Q (.int (2*(w:Int))) H;rw[e];exact k
noncomputable def zhh:Sp:=λvs H Q _=>∃w:Nat,vs=[.int w]/\w<4/\Q (.int ((2*w+7) % 8:Nat)) H
theorem zfE (d:Df K mg "slant_step" zcx ["way"]):FnOk P w K mg base CX0 1 d.f d.fd ["way"] zhh:=by
 refine d.F.ok zft (λvs H Q E h=>?_) (λcdv A outer s H vs Q E hr h=>?_)
 .obtain⟨w,rfl,_⟩:=h;rfl
 .obtain⟨w,rfl,hw,k⟩:=h;refine⟨_,(zae (zaj (pe_op zbr (pe_op za3 (pe_op zc0 zaf (pv 0)) zaf) zaf))),?_⟩;refine⟨_,rfl,_,_,rfl,rfl,.inl ⟨by decide,by decide⟩,_,_,rfl,rfl,_,_,rfl,rfl,(by show (0:Int)<8;decide),?_⟩;have e:(2*(w:Int)+7) % 8=(((2*w+7) % 8:Nat):Int):=by lia
  show Q (.int ((2*(w:Int)+7) % 8)) H;rw[e];exact k
noncomputable def zdi:Sp:=λvs H Q _=>∃o:Option Nat,vs=[sv o]/\Q (.bl (slant o)) H
theorem zhw (d:Df K mg "is_slant" zdx ["step"]):FnOk P w K mg base CX0 1 d.f d.fd ["step"] zdi:=by
 refine d.F.ok zhk (λvs H Q E h=>?_) (λcdv A outer s H vs Q E hr h=>?_)
 .obtain⟨o,rfl,_⟩:=h;rfl
 .obtain⟨o,rfl,k⟩:=h;refine⟨_,(zae (zaj (zie (zbq zfC (pv 0) zbp (zan _)) (zgF (zbq op_eq (pe_op zbr (pv 0) zaf) zaf (zan _)))))),?_⟩
  cases o with
  |none=>exact⟨_,rfl,rfl,false,rfl,iteF k⟩
  |some n =>
   refine⟨_,rfl,rfl,true,rfl,iteT ⟨_,rfl,_,_,rfl,rfl,(by show (0:Int)<2;decide),rfl,?_⟩⟩
   have e:decide (V.int ((n:Int) % 2)=V.int 1)=slant (some n):=by
    show _=(n % 2 == 1)
    by_cases q:n % 2=1
    .rw[decide_eq_true (by rw[show (n:Int) % 2=1 by lia]),q];rfl
    .rw[decide_eq_false (λz=>by injection z with z;lia)];simp[q]
   rw[<- e]at k;exact k
noncomputable def spGap(K:W.Frag):Sp:=λvs H Q _=>∃(a:Addr) (e:Edge),vs=[.ref a]/\SqT K H a (edgeT e)/\e.w<4/\∀(p:Addr) (H':Hp),H p=none->Same H H'->H' p=some (.tup (cellT (gap e)))->Q (.ref p) H'
theorem zfG (g_gone:Fn P w K mg base 1 "gone" ["x","y","step"] zgp) (d:Df K mg "gap_beside" zcy ["edge"]):FnOk P w K mg base CX0 2 d.f d.fd ["edge"] (spGap K):=by
 refine d.F.ok zbI (λvs H Q E h=>?_) (λcdv A outer s H vs Q E hr h=>?_)
 .obtain⟨a,e,rfl,_⟩:=h;rfl
 .obtain⟨a,e,rfl,hq,hw,k⟩:=h
  refine⟨_,(zac (zbD (pv 0) (zbk (by rfl) (zag (nG 1 zbI.nd) (zag (nG 2 zbI.nd) (zag (nG 3 zbI.nd) zaA)))))
   (zae (zaj (pC g_gone hr (pa_N (pv 1) (pa_N (pv 2) (pa_B (pe_op zbr (pe_op za3 (pe_op zc0 zaf (pv 3)) zaf) zaf) zab))))))),?_⟩
  refine⟨_,rfl,a,_,rfl,hq,rfl,_,_,rfl,_,_,rfl,_,_,rfl,rfl,?_⟩;have e6:(2*(e.w:Int)+6) % 8=(((2*e.w+6) % 8:Nat):Int):=by lia
  refine⟨_,rfl,_,rfl,_,rfl,_,_,rfl,rfl,.inl ⟨by decide,by decide⟩,_,_,rfl,rfl,_,_,rfl,rfl,(by show (0:Int)<8;decide),e.c,(2*e.w+6) % 8,(by rw[<- e6];rfl),by lia,λp H' hp hS hH=>k p H' hp hS hH⟩
theorem iteN{b:Bool}{A B:Prop}(h:b=false)(q:B):if b=true then A else B:=by subst h;exact iteF q
theorem iteY{b:Bool}{A B:Prop}(h:b=true)(q:A):if b=true then A else B:=by subst h;exact iteT q
theorem zcP{tb:TS}{D:Ends}{σ:St}{H:Hp}(h:tb D σ H):tIfs (λ_ H Q=>Q true H) tb D σ H:=by
 show if true=true then tb D σ H else D.nx σ H
 exact iteT h
theorem gN{j:Nat}{v:V}{σ:St}{H:Hp}{tb:TS}{D:Ends}(h:tb D (σ.set j (some v)) H):gName j v σ H λσ2 H2=>tIfs (λ_ H Q=>Q true H) tb D σ2 H2:=zcP h
noncomputable def LR{α:Type}(K:W.Frag)(H:Hp)(a:Addr)(l:List α)(R:α->V->Hp->Prop):Prop:=∃vs:List V,SqL K H a vs/\vs.length=l.length/\∀(i:Nat) x v,l[i]?=some x->vs[i]?=some v->R x v H
noncomputable def cR(c:Cell)(v:V)(H:Hp):Prop:=∃b,v=.ref b/\H b=some (.tup (cellT c))
noncomputable def eR(e:Edge)(v:V)(H:Hp):Prop:=∃b,v=.ref b/\H b=some (.tup (edgeT e))
noncomputable def wR(q:Edge×Option Nat)(v:V)(H:Hp):Prop:=∃A b,v=.ref A/\H A=some (.tup [.ref b,sv q.2])/\H b=some (.tup (edgeT q.1))
theorem cR.same{c:Cell}{v:V}{H H':Hp}(h:cR c v H)(s:Same H H'):cR c v H':=let ⟨b,e,q⟩:=h;⟨b,e,s _ _ q⟩
theorem eR.same{c:Edge}{v:V}{H H':Hp}(h:eR c v H)(s:Same H H'):eR c v H':=let ⟨b,e,q⟩:=h;⟨b,e,s _ _ q⟩
theorem wR.same{c:Edge×Option Nat}{v:V}{H H':Hp}(h:wR c v H)(s:Same H H'):wR c v H':=let ⟨A,b,e,q,r⟩:=h;⟨A,b,e,s _ _ q,s _ _ r⟩
theorem LR.same{α:Type}{K:W.Frag}{H H':Hp}{a:Addr}{l:List α}{R:α->V->Hp->Prop}(h:LR K H a l R)(s:Same H H')(m:∀x v,R x v H->R x v H'):LR K H' a l R :=
 let ⟨vs,q,n,r⟩:=h;⟨vs,s.seq q,n,λi x v h1 h2=>m x v (r i x v h1 h2)⟩
theorem zbE{α:Type}{l:List α}{i:Nat}{x c:α}(h:l[i]?=some x):c∈l.take (i+1) ↔ c∈l.take i∨c=x:=by rw[DF,h,List.mem_append];exact⟨λz=>z.elim .inl λz=>.inr (Aj.mp z),λz=>z.elim .inl λz=>.inr (List.mem_singleton.mpr z)⟩
noncomputable def InOrd(cs:List Cell):Prop:=∀(i:Nat) c d,cs[i]?=some c->cs[i+1]?=some d->HT.lexLt [c.2,c.1] [d.2,d.1]=true
noncomputable def spAsk(K:W.Frag):Sp:=λvs H Q _=>∃(a:Addr) (cs:List Cell),vs=[.ref a]/\LR K H a cs cR/\InOrd cs/\cs.length<=1000/\∀H',Same H H'->Q (.bl true) H'
theorem zeP (T:Txt P w K mg) (g_cell_order:Fn P w K mg base 1 "cell_order" ["cell"] (zd5 K)) (d:Df K mg "ask_picture" zcn ["picture"]):FnOk P w K mg base CX0 2 d.f d.fd ["picture"] (spAsk K):=by
 refine d.F.ok zcZ (λvs H Q E h=>?_) (λcdv A outer s H vs Q E hr h=>?_)
 .obtain⟨a,cs,rfl,_⟩:=h;rfl
 .obtain⟨a,cs,rfl,⟨ws,hq,hn,hc⟩,ho,hlen,k⟩:=h;have hu0:=hr.units0
  refine⟨_,(zac (zcb By rfl (zgD (by rfl) T.nrange (pa_C zaf (zah (zap zaO (by rfl) T.nlen (by rfl) (pa_N (pv 0) zab)) zab))) (nG 1 zcZ.nd)
   (zae (ps_if (zam (zng hu0) (pC g_cell_order hr (zah (pe_ix zaQ (pv 0) (pv 1) (λ_ _=>rfl)) zab)) (pC g_cell_order hr (zah (pe_ix zaQ (pv 0) (pe_op zbv (pv 1) zaf) (λ_ _=>rfl)) zab)) (zan _))
   (zae zfz)
   zaq)))
   (zae (zaj pe_bl))),?_⟩
  refine⟨_,rfl,a,_,rfl,.inl hq,_,_,rfl,⟨by decide,by decide,by lia,by lia⟩,?_⟩;refine zcc (lo:=1) (n:=((ws.length:Int)-1).toNat) (λi σ H2=>∃o,σ=[some (.ref a),o]/\Same H H2) ⟨_,rfl,Same.refl _⟩ ?_ ?_
  .rintro i σ H2 hi ⟨o,rfl,s2⟩;have h1:i+1<ws.length:=by lia
   have v1:ws[i+1]?=some ws[i+1]:=Aa h1;have v0:ws[i]?=some ws[i]:=Aa (by lia)
   have c1:cs[i+1]?=some cs[i+1]:=Aa (by lia)
   have c0:cs[i]?=some cs[i]:=Aa (by lia)
   obtain⟨b1,e1,q1⟩:=hc (i+1) _ _ c1 v1;obtain⟨b0,e0,q0⟩:=hc i _ _ c0 v0;refine⟨_,rfl,_,rfl,a,_,_,_,rfl,rfl,s2.seq hq,(by rw[show (1:Int)+(i:Int)=((i+1:Nat):Int) by lia];exact zay v1),b1,_,_,[],(by rw[e1];rfl),SqT.of (s2 _ _ q1),λp1 H3 hp1 s3 f1=>?_⟩;refine⟨_,rfl,_,rfl,_,_,rfl,rfl,a,_,_,_,rfl,rfl,(s2.trans s3).seq hq,(by rw[show (1:Int)+(i:Int)-1=(i:Int) by lia];exact zay v0),b0,_,_,[],(by rw[e0];rfl),SqT.of ((s2.trans s3) _ _ q0),λp0 H4 hp0 s4 f0=>?_⟩;refine⟨p1,p0,[cs[i+1].2,cs[i+1].1],[cs[i].2,cs[i].1],rfl,rfl,SqT.of (s4 _ _ f1),SqT.of f0,_,rfl,iteN ?_ ?_⟩
   .rw[HT.lexLe_eq,ho i _ _ c0 c1];rfl
   .exact⟨_,rfl,(s2.trans s3).trans s4⟩
  .rintro σ H2 ⟨o,rfl,s2⟩;exact k H2 s2
noncomputable def kC(c:Cell):List Key:=[C8 c.1,C8 c.2]
theorem zkc{c d:Cell}:kC c=kC d ↔ c=d:=by
 constructor
 .intro h;unfold kC at h;injection h with h1 h2;injection h2 with h2 _;exact Prod.ext (Dw h1) (Dw h2)
 .rintro rfl;rfl
noncomputable def zfo(K:W.Frag):Sp:=λvs H Q _=>∃(a:Addr) (cs:List Cell),vs=[.ref a]/\LR K H a cs cR/\cs.length<=1000/\∀t H',H t=none->Same H H'->Tab H' t (isIn cs)->Q (.ref t) H'
theorem zfI (d:Df K mg "cell_table" zbY ["picture"]):FnOk P w K mg base CX0 1 d.f d.fd ["picture"] (zfo K):=by
 refine d.F.ok zfu (λvs H Q E h=>?_) (λcdv A outer s H vs Q E hr h=>?_)
 .obtain⟨a,cs,rfl,_⟩:=h;rfl
 .obtain⟨a,cs,rfl,⟨ws,hq,hn,hc⟩,hlen,k⟩:=h;have hu1:=hu_of hr;have nb0:(["cell"]:List Str).Nodup:=by decide +kernel
  refine⟨_,(zae (zaj (zk2 hu1 (osc:=zad zbY) (N:=zdP) (N':=["cell"]) (sel:=[none]) bO (zaz (pv 0)) (λ_ _ _ _ _=>(nG 0 nb0)) (λ_ _ _ _ _=>zbH) (λ_ _ _ _ _=>(pv 0)) (λ_ _ _ _ _=>pe_bl)))),?_⟩;refine⟨_,rfl,a,rfl,⟨_,hq⟩,λp hp=>?_⟩
  refine zau (K:=K) (a:=a) (xs:=ws) (λi σ H2=>∃o,σ=[o]/\Same H H2/\∃kvs,H2 p=some (.dT kvs)/\kvs.length<=i/\∀c:Cell,(valV kvs (kC c)).isSome=decide (c∈cs.take i))
   ⟨_,rfl,Same.up hp,[],zaa,Ak _,λc=>by simp[valV]⟩ (λi σ H2 _ ⟨_,_,s2,_⟩=>s2.seq hq) ?_ ?_
  .rintro i v σ H2 hi ⟨o,rfl,s2,kvs,e2,hl,hv⟩;have hil:i<ws.length:=(Ad.mp hi).1;have ci:cs[i]?=some cs[i]:=Aa (by lia)
   obtain⟨b,rfl,q⟩:=hc i _ _ ci hi;refine gN ?_
   refine⟨_,rfl,_,.inr ⟨kvs,kC cs[i],b,e2,rfl,s2 _ _ q,zak (by lia),rfl⟩,_,rfl,λz o e=>?_,_,zaa,?_,λc=>?_⟩
   .rw[zai (zal e hp)];exact s2 z o e
   .exact A3 (zaP _ _ _) (by lia)
   .rw[zcM]
    by_cases e:c=cs[i]
    .rw[if_pos (zkc.mpr e),decide_eq_true ((zbE ci).mpr (.inr e))];rfl
    .rw[if_neg (λz=>e (zkc.mp z)),hv];exact decide_eq_decide.mpr ⟨λz=>(zbE ci).mpr (.inl z),λz=>((zbE ci).mp z).resolve_right e⟩
  .rintro σ H2 ⟨o,rfl,s2,kvs,e2,hl,hv⟩;refine k p H2 hp s2 ⟨kvs,e2,λc=>?_⟩;show (valV kvs (kC c)).isSome=isIn cs c;rw[hv,hn,AS];rfl
noncomputable def zjm(K:W.Frag):Sp:=λvs H Q _=>∃(t a:Addr) (C:Cell->Bool) (e:Edge),vs=[.ref t,.ref a]/\Tab H t C/\SqT K H a (edgeT e)/\e.w<4/\∀H',Same H H'->Q (sv (stepB C e)) H'
theorem zeG (g_gone:Fn P w K mg base 1 "gone" ["x", "y", "step"] zgp) (g_slant_step:Fn P w K mg base 1 "slant_step" ["way"] zhh) (g_straight_step:Fn P w K mg base 1 "straight_step" ["way"] zdt)
  (d:Df K mg "step_behind" zch ["table","edge"]):FnOk P w K mg base CX0 2 d.f d.fd ["table","edge"] (zjm K):=by
 refine d.F.ok za7 (λvs H Q E h=>?_) (λcdv A outer s H vs Q E hr h=>?_)
 .obtain⟨t,a,C,e,rfl,_⟩:=h;rfl
 .obtain⟨t,a,C,e,rfl,⟨kvs,ht,hC⟩,hq,hw,k⟩:=h;have hu1:=hu_of hr
  refine⟨_,(zac (zbD (pv 1) (zbk (by rfl) (zag (nG 2 za7.nd) (zag (nG 3 za7.nd) (zag (nG 4 za7.nd) zaA)))))
   (zac (zcb By rfl (zia (zas (zah (pC g_slant_step hr (pa_N (pv 4) zab)) (zah (pC g_straight_step hr (pa_N (pv 4) zab)) zab)))) (nG 5 za7.nd)
   (zae (ps_if (zh8 (zlN hu1 (pC g_gone hr (pa_N (pv 2) (pa_N (pv 3) (pa_N (pv 5) zab)))) (pv 0)))
   (zae (zaj (pv 5)))
   zaq)))
   (zae (zaj zbp)))),?_⟩
  refine⟨_,rfl,a,_,rfl,hq,rfl,_,_,rfl,_,_,rfl,_,_,rfl,rfl,?_⟩;refine⟨_,rfl,e.w,rfl,hw,_,rfl,e.w,rfl,hw,two,λp hp=>⟨p,rfl,⟨_,SqT.of zaa⟩,?_⟩⟩
  refine zfZ (K:=K) (a:=p) (xs:=[.int ((2*e.w+7) % 8:Nat),.int (2*e.w:Nat)]) (λi σ H2=>∃o,σ=[some (.ref t),some (.ref a),some (.int e.c.1),some (.int e.c.2),some (.int e.w),o]/\Same (upd H p (.tup [.int ((2*e.w+7) % 8:Nat),.int (2*e.w:Nat)])) H2/\(1<=i->C (go e.c ((2*e.w+7) % 8))=false)/\(2<=i->C (go e.c (2*e.w))=false))
   ⟨_,rfl,Same.refl _,λh=>absurd h (by decide),λh=>absurd h (by decide)⟩ (λi σ H2 _ ⟨_,_,s2,_⟩=>s2.seqT (SqT.of zaa)) ?_ ?_
  .rintro i v σ H2 hi ⟨o,rfl,s2,n1,n2⟩;have sH:Same H H2:=(Same.up hp).trans s2
   match i,hi with
   | 0,hi =>
    cases hi
    refine⟨_,rfl,_,rfl,_,rfl,e.c,(2*e.w+7) % 8,rfl,by lia,λp1 H3 hp1 s3 f1=>?_⟩;refine⟨_,rfl,t,_,rfl,.inr ⟨kvs,kC (go e.c ((2*e.w+7) % 8)),p1,Rd.of ((sH.trans s3) _ _ ht),rfl,f1,rfl⟩,_,rfl,?_⟩;have hv:=hC (go e.c ((2*e.w+7) % 8));change (valV kvs (kC (go e.c ((2*e.w+7) % 8)))).isSome=_ at hv;rw[hv];refine ite2 (λhy=>?_) (λhn=>?_)
    .refine⟨_,rfl,?_⟩;have:=k H3 (sH.trans s3);unfold stepB at this;rw[if_pos hy]at this;exact this
    .exact⟨_,rfl,s2.trans s3,λ_=>by simpa using hn,λh=>absurd h (by decide)⟩
   | 1,hi =>
    cases hi
    refine⟨_,rfl,_,rfl,_,rfl,e.c,2*e.w,rfl,by lia,λp1 H3 hp1 s3 f1=>?_⟩;refine⟨_,rfl,t,_,rfl,.inr ⟨kvs,kC (go e.c (2*e.w)),p1,Rd.of ((sH.trans s3) _ _ ht),rfl,f1,rfl⟩,_,rfl,?_⟩;have hv:=hC (go e.c (2*e.w));change (valV kvs (kC (go e.c (2*e.w)))).isSome=_ at hv;rw[hv];have h1:=n1 (by decide);refine ite2 (λhy=>?_) (λhn=>?_)
    .refine⟨_,rfl,?_⟩;have:=k H3 (sH.trans s3);unfold stepB at this;rw[h1,if_neg (by decide),if_pos hy]at this;exact this
    .exact⟨_,rfl,s2.trans s3,λ_=>h1,λ_=>by simpa using hn⟩
   |i+2,hi=>simp at hi
  .rintro σ H2 ⟨o,rfl,s2,n1,n2⟩;have:=k H2 ((Same.up hp).trans s2);unfold stepB at this;rw[n1 (by simp),n2 (by simp),if_neg (by decide),if_neg (by decide)]at this;exact this
noncomputable def zd6(K:W.Frag):Sp:=λvs H Q _=>∃(a:Addr) (e:Edge) (o:Option Nat),vs=[.ref a,sv o]/\SqT K H a (edgeT e)/\e.w<4/\(∀s,o=some s->s<8)/\∀(p:Addr) (H':Hp),H p=none->Same H H'->H' p=some (.tup (edgeT (edgeB e o)))->Q (.ref p) H'
theorem zeN (g_gone:Fn P w K mg base 1 "gone" ["x", "y", "step"] zgp) (g_is_slant:Fn P w K mg base 1 "is_slant" ["step"] zdi)
  (d:Df K mg "edge_behind" zcl ["edge","step"]):FnOk P w K mg base CX0 2 d.f d.fd ["edge","step"] (zd6 K):=by
 refine d.F.ok zaZ (λvs H Q E h=>?_) (λcdv A outer s H vs Q E hr h=>?_)
 .obtain⟨a,e,o,rfl,_⟩:=h;rfl
 .obtain⟨a,e,o,rfl,hq,hw,ho,k⟩:=h
  refine⟨_,(zac (zbD (pv 0) (zbk (by rfl) (zag (nG 2 zaZ.nd) (zag (nG 3 zaZ.nd) (zag (nG 4 zaZ.nd) zaA)))))
   (zac (ps_if (zam zgJ (pv 1) zbp (zan _))
   (zae (zaj (zas (pa_N (pv 2) (pa_N (pv 3) (pa_B (pe_op zbr (pe_op za3 (pv 4) zaf) zaf) zab))))))
   zaq)
   (zac (zbD (pC g_gone hr (pa_N (pv 2) (pa_N (pv 3) (pa_N (pv 1) zab)))) (zbk (by rfl) (zag (nG 5 zaZ.nd) (zag (nG 6 zaZ.nd) zaA))))
   (zac (ps_if (zca (pC g_is_slant hr (pa_N (pv 1) zab)))
   (zae (zaj (zas (pa_N (pv 5) (pa_N (pv 6) (pa_B (pe_op zbr (pe_op za3 (pv 4) zaf) zaf) zab))))))
   zaq)
   (zae (zaj (zas (pa_N (pv 5) (pa_N (pv 6) (pa_N (pv 4) zab)))))))))),?_⟩
  refine⟨_,rfl,a,_,rfl,hq,rfl,_,_,rfl,_,_,rfl,_,_,rfl,rfl,?_⟩
  cases o with
  |none =>
   refine⟨_,rfl,rfl,true,rfl,iteT ?_⟩;refine⟨_,rfl,_,rfl,_,rfl,_,_,rfl,rfl,_,_,rfl,rfl,(by show (0:Int)<4;decide),three,λp hp=>k p _ hp (Same.up hp) ?_⟩;rw[zaa];have e1:((e.w:Int)+1) % 4=(((e.w+1) % 4:Nat):Int):=by lia
   show some (HO.tup [.int e.c.1,.int e.c.2,.int (((e.w:Int)+1) % 4)])=_;rw[e1];rfl
  |some n =>
   refine⟨_,rfl,rfl,false,rfl,iteF ?_⟩;refine⟨_,rfl,_,rfl,_,rfl,e.c,n,rfl,ho n rfl,λp1 H1 hp1 s1 f1=>?_⟩;refine⟨p1,_,rfl,SqT.of f1,rfl,_,_,rfl,_,_,rfl,rfl,?_⟩;refine⟨_,rfl,some n,rfl,_,rfl,?_⟩;refine ite2 (λhs=>?_) (λhs=>?_)
   .refine⟨_,rfl,_,rfl,_,rfl,_,_,rfl,rfl,_,_,rfl,rfl,(by show (0:Int)<4;decide),three,λp hp=>k p _ (s1.free hp) (s1.trans (Same.up hp)) ?_⟩;rw[zaa];have e1:((e.w:Int)+3) % 4=(((e.w+3) % 4:Nat):Int):=by lia
    have hn:n % 2=1:=by simpa[slant]using hs
    show some (HO.tup [.int (go e.c n).1,.int (go e.c n).2,.int (((e.w:Int)+3) % 4)])=_;rw[e1];unfold edgeB;simp only[if_pos hn];rfl
   .refine⟨_,rfl,_,rfl,_,rfl,three,λp hp=>k p _ (s1.free hp) (s1.trans (Same.up hp)) ?_⟩;rw[zaa];have hn:¬ n % 2=1:=by simpa[slant]using hs
    unfold edgeB;simp only[if_neg hn];rfl
noncomputable def KT(H H':Hp):Prop:=∀b xs,H b=some (.tup xs)->H' b=some (.tup xs)
theorem KT.refl(H:Hp):KT H H:=λ_ _ h=>h
theorem KT.trans{H H1 H2:Hp}(a:KT H H1)(b:KT H1 H2):KT H H2:=λc o h=>b c o (a c o h)
theorem KT.of{H H':Hp}(s:Same H H'):KT H H':=λb xs e=>s b _ e
theorem KT.up{H:Hp}{p:Addr}{o:HO}(h:H p=none):KT H (upd H p o):=KT.of (Same.up h)
theorem KT.lst{H:Hp}{p:Addr}{xs:List V}{o:HO}(h:H p=some (.lst xs)):KT H (upd H p o):=λb ys e=>by rw[zai (ne_of e h (λz=>nomatch z))];exact e
theorem cR.kt{c:Cell}{v:V}{H H':Hp}(h:cR c v H)(s:KT H H'):cR c v H':=let ⟨b,e,q⟩:=h;⟨b,e,s _ _ q⟩
theorem eR.kt{c:Edge}{v:V}{H H':Hp}(h:eR c v H)(s:KT H H'):eR c v H':=let ⟨b,e,q⟩:=h;⟨b,e,s _ _ q⟩
theorem wR.kt{c:Edge×Option Nat}{v:V}{H H':Hp}(h:wR c v H)(s:KT H H'):wR c v H':=let ⟨A,b,e,q,r⟩:=h;⟨A,b,e,s _ _ q,s _ _ r⟩
noncomputable def VR{α:Type}(vs:List V)(l:List α)(R:α->V->Hp->Prop)(H:Hp):Prop:=vs.length=l.length/\∀(i:Nat) x v,l[i]?=some x->vs[i]?=some v->R x v H
theorem VR.nil{α:Type}{R:α->V->Hp->Prop}{H:Hp}:VR [] ([]:List α) R H:=⟨rfl,λi x v h=>by simp at h⟩
theorem VR.snoc{α:Type}{vs:List V}{l:List α}{R:α->V->Hp->Prop}{H H':Hp}{x:α}{v:V}(h:VR vs l R H)(m:∀x v,R x v H->R x v H')(hx:R x v H'):VR (vs++[v]) (l++[x]) R H':=by
 refine⟨by simp[h.1],λi y u h1 h2=>?_⟩;rcases AY i l.length with hi |hi
 .rw[Aw hi]at h1;rw[Aw (by rw[h.1];exact hi)]at h2;exact m _ _ (h.2 i y u h1 h2)
 .rw[AK hi]at h1;rw[AK (by rw[h.1];exact hi)]at h2
  have hz:i-l.length=0:=by have:=(Ad.mp h1).1;simp at this;lia
  rw[hz]at h1;rw[h.1,hz]at h2
  cases h1;cases h2
  exact hx
theorem VR.mono{α:Type}{vs:List V}{l:List α}{R:α->V->Hp->Prop}{H H':Hp}(h:VR vs l R H)(m:∀x v,R x v H->R x v H'):VR vs l R H':=⟨h.1,λi x v h1 h2=>m _ _ (h.2 i x v h1 h2)⟩
theorem VR.at{α:Type}{vs:List V}{l:List α}{R:α->V->Hp->Prop}{H:Hp}(h:VR vs l R H){i:Nat}{v:V}(hv:vs[i]?=some v):∃x,l[i]?=some x/\R x v H:=by
 have hi:i<l.length:=by rw[<- h.1];exact (Ad.mp hv).1
 exact⟨l[i],Aa hi,h.2 i _ v (Aa hi) hv⟩
theorem zar{H H2:Hp}{p:Addr}{o:HO}(hp:H p=none)(s:Same H H2):Same H (upd H2 p o):=λz u e=>by rw[zai (zal e hp)];exact s z u e
theorem ziO(cs:List Cell)(c:Cell):sides (cs++[c])=sides cs++(BS 4).map λw=>⟨c,w⟩:=by unfold sides;simp[List.flatMap_append]
theorem zaH{α:Type}{l:List α}{i:Nat}{x:α}(h:l[i]?=some x):l.take (i+1)=l.take i++[x]:=by rw[DF,h];rfl
theorem zev{α:Type}(p:α->Bool)(l:List α)(x:α):(l++[x]).filter p=l.filter p++(if p x=true then [x] else []):=by rw[D3];congr 1;simp[CJ]
noncomputable def zlF(K:W.Frag):Sp:=λvs H Q _=>∃(a:Addr) (cs:List Cell),vs=[.ref a]/\LR K H a cs cR/\cs.length<=120/\∀p H' es,H p=none->Same H H'->H' p=some (.lst es)->VR es (allE cs) eR H'->Q (.ref p) H'
theorem zgP (T:Txt P w K mg) (g_cell_table:Fn P w K mg base 1 "cell_table" ["picture"] (zfo K)) (g_gap_beside:Fn P w K mg base 2 "gap_beside" ["edge"] (spGap K))
  (d:Df K mg "all_edges" zbQ ["picture"]):FnOk P w K mg base CX0 3 d.f d.fd ["picture"] (zlF K):=by
 refine d.F.ok zcv (λvs H Q E h=>?_) (λcdv A outer s H vs Q E hr h=>?_)
 .obtain⟨a,cs,rfl,_⟩:=h;rfl
 .obtain⟨a,cs,rfl,hLR,hlen,k⟩:=h;obtain⟨ws,hq,hn,hc⟩:=id hLR;have hu1:=hu_of hr;have nb0:(["x","y","way"]:List Str).Nodup:=by decide +kernel
  have nb1:(["edge","table"]:List Str).Nodup:=by decide +kernel
  refine⟨_,(zac (zh9 (i:=1) zcv.nd (by rfl) (Or.inr rfl) (pC g_cell_table hr (pa_N (pv 0) zab)))
   (zac (zjF (i:=2) (osc:=zad zbQ) (N:=zdf) (N':=["x","y","way"]) (sel:=[none,none,none]) bO zcv.nd (by rfl) (Or.inl rfl) (zaz (pv 0)) (λ_ _ _ _ _=>(zcE (K:=K) (n:=2) (by rfl) (zag (nG 0 nb0) (zag (nG 1 nb0) zaA)))) (λ_ _ _ _ _=>zbH) (λ_ _ _ _ _=>(zdl (by rfl) T.nrange (pa_C zaf zab))) (λ_ _ _ _ _=>(nG 2 nb0)) (λ_ _ _ _ _=>zbH) (λ_ _ _ _ _=>(zas (pa_N (pv 0) (pa_N (pv 1) (pa_N (pv 2) zab))))) (λ_ _ _=>rfl))
   (zae (zaj (zaW (osc:=zad zbQ) (N:=zdf) (N':=["edge","table"]) (sel:=[none,some 1]) bO (zaz (pv 2)) (λ_ _ _ _ _=>(nG 0 nb1)) (λ_ _ _ _ _=>zbG (zh8 (zgG hu1 (pC g_gap_beside hr (pa_N (pv 0) zab)) (pv 1)))) (λ_ _ _ _ _=>(pv 0))))))),?_⟩
  refine⟨_,rfl,a,cs,rfl,hLR,by lia,λt H1 ht s1 tab=>?_⟩;obtain⟨kvs,et,hC⟩:=tab;refine⟨_,rfl,a,rfl,⟨_,s1.seq hq⟩,λp hp=>?_⟩
  refine zau (K:=K) (a:=a) (xs:=ws) (λi σ H2=>∃o1 o2 o3,σ=[o1,o2,o3]/\Same H1 H2/\∃es,H2 p=some (.lst es)/\VR es (sides (cs.take i)) eR H2)
   ⟨_,_,_,rfl,Same.up hp,[],zaa,VR.nil⟩ (λi σ H2 _ ⟨_,_,_,_,s2,_⟩=>(s1.trans s2).seq hq) ?_ ?_
  .rintro i v σ H2 hi ⟨o1,o2,o3,rfl,s2,es,e2,hv⟩;have hil:i<ws.length:=(Ad.mp hi).1;have ci:cs[i]?=some cs[i]:=Aa (by lia)
   obtain⟨b,rfl,qb⟩:=hc i _ _ ci hi;refine⟨b,_,rfl,SqT.of ((s1.trans s2) _ _ qb),rfl,_,_,rfl,_,_,rfl,rfl,?_⟩;refine zcP ?_
   refine⟨4,rfl,by decide,by decide,?_⟩
   refine zcc (lo:=0) (n:=4) (λj σ H3=>∃o,σ=[some (.int cs[i].1),some (.int cs[i].2),o]/\Same H1 H3/\∃es,H3 p=some (.lst es)/\VR es (sides (cs.take i)++(BS j).map λw=>⟨cs[i],w⟩) eR H3)
    ⟨_,rfl,s2,es,e2,by simpa using hv⟩ ?_ ?_
   .rintro j σ H3 hj ⟨o,rfl,s3,es3,e3,hv3⟩
    have hl3:es3.length<=1000:=by rw[hv3.1,Am,zaT,AR,Ap,List.length_range];lia
    refine gN ?_
    refine⟨_,rfl,_,rfl,_,rfl,three,λq hq'=>⟨es3,?_,zak hl3,_,rfl,zar hp (s3.trans (Same.up hq')),_,zaa,?_⟩⟩
    .rw[zai (zal e3 hq')];exact e3
    .rw[List.range_succ,A6,<- AL];have hpq:p≠q:=zal e3 hq';have k2:KT (upd H3 q (.tup [.int cs[i].1,.int cs[i].2,.int (0+(j:Int))])) (upd (upd H3 q (.tup [.int cs[i].1,.int cs[i].2,.int (0+(j:Int))])) p (.lst (es3++[.ref q]))):=KT.lst (xs:=es3) (by rw[zai hpq];exact e3);refine hv3.snoc (λx v hx=>hx.kt ((KT.up hq').trans k2)) ⟨q,rfl,k2 _ _ ?_⟩;rw[zaa];show some (HO.tup [.int cs[i].1,.int cs[i].2,.int (0+(j:Int))])=some (HO.tup [.int cs[i].1,.int cs[i].2,.int (j:Int)]);rw[Int.zero_add]
   .rintro σ H3 ⟨o,rfl,s3,es3,e3,hv3⟩;exact⟨_,_,_,rfl,s3,es3,e3,by rw[zaH ci,ziO];exact hv3⟩
  .rintro σ H2 ⟨o1,o2,o3,rfl,s2,es,e2,hv⟩;rw[hn,AS]at hv;have hles:es.length<=1000:=by rw[hv.1,zaT];lia
   refine⟨_,rfl,p,rfl,⟨_,SqL.of e2⟩,λp2 hp2=>?_⟩
   refine zau (K:=K) (a:=p) (xs:=es) (λi σ H3=>∃o,σ=[o,some (.ref t)]/\Same H2 H3/\∃es3,H3 p2=some (.lst es3)/\VR es3 (((sides cs).take i).filter λe=>!isIn cs (gap e)) eR H3)
    ⟨_,rfl,Same.up hp2,[],zaa,VR.nil⟩ (λi σ H3 _ ⟨_,_,s3,_⟩=>s3.seq (SqL.of e2)) ?_ ?_
   .rintro i v σ H3 hi ⟨o,rfl,s3,es3,e3,hv3⟩;obtain⟨e,he,b,rfl,qb⟩:=hv.at hi;have hw4:e.w<4:=(zbU.mp (Ai he)).2
    have hl3:es3.length<=1000:=by have h1:=AO (λe=>!isIn cs (gap e)) ((sides cs).take i);rw[hv3.1];rw[AR,zaT]at h1;lia
    refine⟨_,rfl,b,e,rfl,SqT.of (s3 _ _ qb),hw4,λp3 H4 hp3 s4 f4=>?_⟩;refine⟨_,rfl,t,_,rfl,.inr ⟨kvs,kC (gap e),p3,Rd.of ((s2.trans (s3.trans s4)) _ _ et),rfl,f4,rfl⟩,_,rfl,?_⟩;have hcv:=hC (gap e);change (valV kvs (kC (gap e))).isSome=_ at hcv;rw[hcv,zaH he,zev];refine ite2 (λhy=>?_) (λhn'=>?_)
    .refine⟨_,rfl,es3,s4 _ _ e3,zak hl3,_,rfl,zar hp2 (s3.trans s4),_,zaa,?_⟩;rw[if_pos hy];have k2:KT H4 (upd H4 p2 (.lst (es3++[.ref b]))):=KT.lst (s4 _ _ e3);exact hv3.snoc (λx v hx=>hx.kt ((KT.of s4).trans k2)) ⟨b,rfl,k2 _ _ ((s3.trans s4) _ _ qb)⟩
    .refine⟨_,rfl,s3.trans s4,es3,s4 _ _ e3,?_⟩;rw[if_neg hn',Bf];exact hv3.mono λx v hx=>hx.kt (KT.of s4)
   .rintro σ H3 ⟨o,rfl,s3,es3,e3,hv3⟩;rw[hv.1,AS]at hv3;exact k p2 H3 es3 (s1.free (s2.free hp2)) (s1.trans (s2.trans s3)) e3 hv3
noncomputable def eI(e:Edge):List Int:=[e.c.1,e.c.2,(e.w:Int)]
theorem ziy{e f:Edge}:eI e=eI f ↔ e=f:=by
 constructor
 .intro h;obtain⟨⟨x,y⟩,w⟩:=e;obtain⟨⟨x',y'⟩,w'⟩:=f;unfold eI at h;injection h with h1 h2;injection h2 with h2 h3;injection h3 with h3 _;simp only at h1 h2 h3;have:w=w':=by lia
  subst h1 h2 this;rfl
 .rintro rfl;rfl
theorem zcD{K:W.Frag}{H:Hp}{b:Addr}{e:Edge}(h:H b=some (.tup (edgeT e))):RD K H (.ref b) (tI (eI e)):=.tup (SqT.of h) (RDs.ints (eI e))
theorem zdh{C:Cell->Bool}{e:Edge}(hw:e.w<4):∀s,stepB C e=some s->s<8:=by
 intro s h;unfold stepB at h;split at h
 .cases h;lia
 .split at h
  .cases h;lia
  .cases h
noncomputable def wk(C:Cell->Bool)(es:List Edge):List (Edge×Option Nat):=es.map λe=>(e,stepB C e)
theorem zlY(C:Cell->Bool)(es:List Edge)(e:Edge):wk C (es++[e])=wk C es++[(e,stepB C e)]:=by unfold wk;simp
theorem zbB(C:Cell->Bool)(es:List Edge):(wk C es).length=es.length:=by unfold wk;simp
noncomputable def zj4:Option HO->Nat
 |some (.lst ws)=>ws.length
 |_=>0
noncomputable def zlz(K:W.Frag):Sp:=λvs H Q _=>∃(t a:Addr) (cs:List Cell) (b:Edge),vs=[.ref t,.ref a]/\Tab H t (isIn cs)/\H a=some (.tup (edgeT b))/\IsE (isIn cs) b/\cs.length<=120 /\
 ∀p H' ws es,H p=none->Same H H'->H' p=some (.lst ws)->VR ws (wk (isIn cs) es) wR H'->Closed (isIn cs) b es->Q (.ref p) H'
theorem zgL (g_step_behind:Fn P w K mg base 2 "step_behind" ["table", "edge"] (zjm K)) (g_edge_behind:Fn P w K mg base 2 "edge_behind" ["edge", "step"] (zd6 K))
  (d:Df K mg "walk_from" zc4 ["table","begin"]):FnOk P w K mg base CX0 3 d.f d.fd ["table","begin"] (zlz K):=by
 refine d.F.ok zbj (λvs H Q E h=>?_) (λcdv A outer s H vs Q E hr h=>?_)
 .obtain⟨t,a,cs,b,rfl,_⟩:=h;rfl
 .obtain⟨t,a,cs,b,rfl,tab,ha,hb,hlen,k⟩:=h;have hu64:=hr.units
  refine⟨_,(zac (sE 2 zbj.nd (pC g_step_behind hr (pa_N (pv 0) (pa_N (pv 1) zab))))
   (zac (sE 3 zbj.nd (zaV (pa_T (zas (pa_N (pv 1) (pa_N (pv 2) zab))) zab)))
   (zac (sE 4 zbj.nd (pC g_edge_behind hr (pa_N (pv 1) (pa_N (pv 2) zab))))
   (zac (zkU By (zam (ze9 hu64) (pv 4) (pv 1) (zan _))
   (zac (sE 2 zbj.nd (pC g_step_behind hr (pa_N (pv 0) (pa_N (pv 4) zab))))
   (zac (zbS (pe_bm Bh Bm Bo zbb (pv 3) (pa_T (zas (pa_N (pv 4) (pa_N (pv 2) zab))) zab)))
   (zae (sE 4 zbj.nd (pC g_edge_behind hr (pa_N (pv 4) (pa_N (pv 2) zab))))))))
   (zae (zaj (pv 3))))))),?_⟩
  refine⟨_,rfl,_,rfl,t,a,isIn cs,b,rfl,tab,SqT.of ha,hb.1,λH1 s1=>?_⟩;refine⟨_,rfl,_,rfl,two,λq hq=>⟨(by show 1<=sizeLine;decide),λp hp=>?_⟩⟩;have hpq:p≠q:=λz=>by subst z;rw[zaa]at hp;cases hp
  have hp1:H1 p=none:=by rw[zai hpq]at hp;exact hp
  have s2:Same H1 (upd (upd H1 q (.tup [.ref a,sv (stepB (isIn cs) b)])) p (.lst [.ref q])):=zar hp1 (Same.up hq);refine⟨_,rfl,_,rfl,a,b,stepB (isIn cs) b,rfl,SqT.of (s2 _ _ (s1 _ _ ha)),hb.1,zdh hb.1,λr H3 hr3 s3 f3=>?_⟩;have s03:Same H H3:=s1.trans (s2.trans s3);have hp0:H p=none:=s1.free hp1
  refine zkH (λσ H4=>∃ws es l o re,σ=[some (.ref t),some (.ref a),some o,some (.ref p),some (.ref re)]/\Same H H4/\H4 p=some (.lst ws)/\VR ws (wk (isIn cs) (es++[l])) wR H4/\Chain (isIn cs) b (es++[l])/\H4 re=some (.tup (edgeT (nxt (isIn cs) l))))
   (λ_ H4=>4*cs.length+1-zj4 (H4 p)) ?_ ?_ ?_
  .refine⟨[.ref q],[],b,_,r,rfl,s03,s3 _ _ zaa,⟨rfl,λi x v h1 h2=>?_⟩,Chain.start hb,f3⟩
   match i,h1,h2 with
   | 0,h1,h2 =>
    cases h1;cases h2
    refine⟨q,a,rfl,s3 _ _ ?_,s03 _ _ ha⟩;rw[zai (BG hpq),zaa]
   |i+1,h1,h2=>simp at h2
  .rintro σ H4 ⟨ws,es,l,o,re,rfl,s4,e4,hv,hch,er⟩;have hw4:(nxt (isIn cs) l).w<4:=(zdL (hch.2.2.1 l (by simp))).1;refine⟨_,rfl,_,rfl,_,_,zcD er,zcD (s4 _ _ ha),zaL _,zaL _,_,rfl,?_⟩;rw[zc1]
   by_cases hne:nxt (isIn cs) l=b
   .rw[decide_eq_true (ziy.mpr hne)];refine iteF ?_
    refine⟨_,rfl,k p H4 ws (es++[l]) hp0 s4 e4 hv ⟨hch,l,?_,hne⟩⟩;simp
   .rw[decide_eq_false (λz=>hne (ziy.mp z))];refine iteT ?_
    have hch2:=hch.more hne;have hsh:=hch2.short;have hl4:ws.length=(es++[l]).length:=by rw[hv.1,zbB]
    have hl5:ws.length+1<=4*cs.length:=by rw[hl4];rw[Am,BP]at hsh;exact hsh
    refine⟨_,rfl,_,rfl,t,re,isIn cs,nxt (isIn cs) l,rfl,tab.same s4,SqT.of er,hw4,λH5 s5=>?_⟩;refine⟨_,rfl,.inl ⟨rfl,_,SqL.of (s5 _ _ e4)⟩,_,rfl,_,rfl,two,λq5 hq5=>?_⟩;have e5:=s5 _ _ e4;have hp5:p≠q5:=zal e5 hq5;refine⟨p,ws,_,rfl,rfl,(by rw[zai hp5];exact e5),zak (by lia),?_⟩;have k5:KT H5 (upd (upd H5 q5 (.tup [.ref re,sv (stepB (isIn cs) (nxt (isIn cs) l))])) p (.lst (ws++[.ref q5]))):=(KT.up hq5).trans (KT.lst (xs:=ws) (by rw[zai hp5];exact e5));have e6:upd (upd H5 q5 (.tup [.ref re,sv (stepB (isIn cs) (nxt (isIn cs) l))])) p (.lst (ws++[.ref q5])) re=some (.tup (edgeT (nxt (isIn cs) l))):=k5 _ _ (s5 _ _ er);have s6:Same H (upd (upd H5 q5 (.tup [.ref re,sv (stepB (isIn cs) (nxt (isIn cs) l))])) p (.lst (ws++[.ref q5]))):=zar hp0 ((s4.trans s5).trans (Same.up hq5));refine⟨_,rfl,_,rfl,re,nxt (isIn cs) l,_,rfl,SqT.of e6,hw4,zdh hw4,λr7 H7 hr7 s7 f7=>?_⟩;have e7:=s7 _ _ zaa;refine⟨⟨ws++[.ref q5],es++[l],nxt (isIn cs) l,_,r7,rfl,s6.trans s7,e7,?_,hch2,f7⟩,?_⟩
    .rw[zlY];refine hv.snoc (λx v hx=>hx.kt ((KT.of s5).trans (k5.trans (KT.of s7)))) ⟨q5,re,rfl,s7 _ _ ?_,s7 _ _ e6⟩;rw[zai (BG hp5),zaa]
    .show 4*cs.length+1-zj4 (H7 p)<4*cs.length+1-zj4 (H4 p);rw[e7,e4];show 4*cs.length+1-(ws++[V.ref q5]).length<4*cs.length+1-ws.length;rw[Am,BP];lia
  .rintro σ H4 Q1 Q2 hQ ⟨v,h1,v2,h2,dd,ee,r1,r2,x1,x2,kk,h3,q⟩;exact⟨v,h1,v2,h2,dd,ee,r1,r2,x1,x2,kk,h3,hQ _ _ q⟩
noncomputable abbrev Wk:=List (Edge×Option Nat)
noncomputable def nL(W:Wk):Nat:=(W.filter λq=>q.2.isNone).length
noncomputable def nS(W:Wk):Nat:=(W.filter λq=>slant q.2).length
theorem zly(o:Option Nat):decide (sv o=V.non)=o.isNone:=by cases o <;> simp[sv]
theorem zda{α:Type}{p:α->Bool}{l:List α}{i:Nat}{x:α}(h:l[i]?=some x):((l.take (i+1)).filter p)=(l.take i).filter p++(if p x=true then [x] else []):=by rw[zaH h,zev]
theorem LR.vr{α:Type}{K:W.Frag}{H:Hp}{a:Addr}{l:List α}{R:α->V->Hp->Prop}(h:LR K H a l R):∃vs,SqL K H a vs/\VR vs l R H:=let ⟨vs,q,n,r⟩:=h;⟨vs,q,n,r⟩
theorem LR.of{α:Type}{K:W.Frag}{H:Hp}{a:Addr}{vs:List V}{l:List α}{R:α->V->Hp->Prop}(e:H a=some (.lst vs))(h:VR vs l R H):LR K H a l R:=⟨vs,SqL.of e,h.1,h.2⟩
noncomputable def zjq(K:W.Frag):Sp:=λvs H Q _=>∃(a:Addr) (W:Wk),vs=[.ref a]/\LR K H a W wR/\W.length<=500/\∀p H',H p=none->Same H H'->H' p=some (.tup [.int (nL W),.int (nS W)])->Q (.ref p) H'
theorem zc9 (T:Txt P w K mg) (g_is_slant:Fn P w K mg base 1 "is_slant" ["step"] zdi) (d:Df K mg "lefts_and_slants" zaM ["walk"]):FnOk P w K mg base CX0 2 d.f d.fd ["walk"] (zjq K):=by
 refine d.F.ok zbe (λvs H Q E h=>?_) (λcdv A outer s H vs Q E hr h=>?_)
 .obtain⟨a,W,rfl,_⟩:=h;rfl
 .obtain⟨a,W,rfl,hLR,hlen,k⟩:=h;obtain⟨ws,hq,hv⟩:=hLR.vr;have nb0:(["edge","step"]:List Str).Nodup:=by decide +kernel
  have nb1:(["edge","step"]:List Str).Nodup:=by decide +kernel
  refine⟨_,(zac (sE 1 zbe.nd (zap zaO (by rfl) T.nlen (by rfl) (zah (zaW (osc:=zad zaM) (N:=zbt) (N':=["edge","step"]) (sel:=[none,none]) bO (zaz (pv 0)) (λ_ _ _ _ _=>(zcE (K:=K) (n:=2) (by rfl) (zag (nG 0 nb0) (zag (nG 1 nb0) zaA)))) (λ_ _ _ _ _=>zbG (zam zgJ (pv 1) zbp (zan _))) (λ_ _ _ _ _=>(pv 1))) zab)))
   (zac (sE 2 zbe.nd (zap zaO (by rfl) T.nlen (by rfl) (zah (zaW (osc:=zad zaM) (N:=zbt) (N':=["edge","step"]) (sel:=[none,none]) bO (zaz (pv 0)) (λ_ _ _ _ _=>(zcE (K:=K) (n:=2) (by rfl) (zag (nG 0 nb1) (zag (nG 1 nb1) zaA)))) (λ_ _ _ _ _=>zbG (zca (pC g_is_slant hr (pa_N (pv 1) zab)))) (λ_ _ _ _ _=>(pv 1))) zab)))
   (zae (zaj (zas (pa_N (pv 1) (pa_N (pv 2) zab))))))),?_⟩
  refine⟨_,rfl,a,rfl,⟨_,hq⟩,λp hp=>?_⟩
  refine zau (K:=K) (a:=a) (xs:=ws) (λi σ H2=>∃o1 o2,σ=[o1,o2]/\Same H H2/\∃ss:List V,H2 p=some (.lst ss)/\ss.length=((W.take i).filter λq=>q.2.isNone).length)
   ⟨_,_,rfl,Same.up hp,[],zaa,rfl⟩ (λi σ H2 _ ⟨_,_,_,s2,_⟩=>s2.seq hq) ?_ ?_
  .rintro i v σ H2 hi ⟨o1,o2,rfl,s2,ss,e2,hl⟩;obtain⟨⟨e,st⟩,he,B,b,rfl,q1,q2⟩:=hv.at hi
   have hl2:ss.length<=1000:=by have:=AO (λq:Edge×Option Nat=>q.2.isNone) (W.take i);rw[AR]at this;lia
   refine⟨B,_,rfl,SqT.of (s2 _ _ q1),rfl,_,_,rfl,_,_,rfl,rfl,?_⟩;refine⟨_,rfl,rfl,_,rfl,?_⟩;rw[zly];rw[zda he]at *;refine ite2 (λhy=>?_) (λhn=>?_)
   .refine⟨_,rfl,ss,e2,zak hl2,_,_,rfl,zar hp s2,_,zaa,?_⟩;rw[if_pos hy,Am,Am,hl];rfl
   .exact⟨_,_,rfl,s2,ss,e2,by rw[if_neg hn,Bf];exact hl⟩
  .rintro σ H2 ⟨o1,o2,rfl,s2,ss,e2,hl⟩;refine⟨p,_,rfl,.inl (SqL.of e2),?_⟩;refine⟨_,rfl,a,rfl,⟨_,s2.seq hq⟩,λp2 hp2=>?_⟩
   refine zau (K:=K) (a:=a) (xs:=ws) (λi σ H3=>∃o1 o2,σ=[o1,o2]/\Same H2 H3/\∃s3:List V,H3 p2=some (.lst s3)/\s3.length=((W.take i).filter λq=>slant q.2).length)
    ⟨_,_,rfl,Same.up hp2,[],zaa,rfl⟩ (λi σ H3 _ ⟨_,_,_,s3,_⟩=>(s2.trans s3).seq hq) ?_ ?_
   .rintro i v σ H3 hi ⟨o1,o2,rfl,s3,ss3,e3,hl3⟩;obtain⟨⟨e,st⟩,he,B,b,rfl,q1,q2⟩:=hv.at hi
    have hl2:ss3.length<=1000:=by have:=AO (λq:Edge×Option Nat=>slant q.2) (W.take i);rw[AR]at this;lia
    refine⟨B,_,rfl,SqT.of ((s2.trans s3) _ _ q1),rfl,_,_,rfl,_,_,rfl,rfl,?_⟩;refine⟨_,rfl,st,rfl,_,rfl,?_⟩;rw[zda he]at *;refine ite2 (λhy=>?_) (λhn=>?_)
    .refine⟨_,rfl,ss3,e3,zak hl2,_,_,rfl,zar hp2 s3,_,zaa,?_⟩;rw[if_pos hy,Am,Am,hl3];rfl
    .exact⟨_,_,rfl,s3,ss3,e3,by rw[if_neg hn,Bf];exact hl3⟩
   .rintro σ H3 ⟨o1,o2,rfl,s3,ss3,e3,hl3⟩;refine⟨p2,_,rfl,.inl (SqL.of e3),?_⟩;refine⟨_,rfl,_,rfl,two,λp4 hp4=>k p4 _ (s2.free (s3.free hp4)) ((s2.trans s3).trans (Same.up hp4)) ?_⟩;rw[hv.1,AS]at hl hl3;rw[zaa,hl,hl3];rfl
noncomputable def zjp(K:W.Frag):Sp:=λvs H Q _=>∃(a:Addr) (W:Wk),vs=[.ref a]/\LR K H a W wR/\W.length<=500/\∀H',Same H H'->Q (.int ((nL W:Int)-nS W)) H'
theorem zcX (g_lefts_and_slants:Fn P w K mg base 2 "lefts_and_slants" ["walk"] (zjq K)) (d:Df K mg "lefts_less_slants" zbf ["walk"]):FnOk P w K mg base CX0 3 d.f d.fd ["walk"] (zjp K):=by
 refine d.F.ok za6 (λvs H Q E h=>?_) (λcdv A outer s H vs Q E hr h=>?_)
 .obtain⟨a,W,rfl,_⟩:=h;rfl
 .obtain⟨a,W,rfl,hLR,hlen,k⟩:=h
  refine⟨_,(zac (zbD (pC g_lefts_and_slants hr (pa_N (pv 0) zab)) (zbk (by rfl) (zag (nG 1 za6.nd) (zag (nG 2 za6.nd) zaA))))
   (zae (zaj (pe_op zbv (pv 1) (pv 2))))),?_⟩
  refine⟨_,rfl,a,W,rfl,hLR,hlen,λp H1 hp s1 f1=>?_⟩;refine⟨p,_,rfl,SqT.of f1,rfl,_,_,rfl,_,_,rfl,rfl,?_⟩;exact⟨_,rfl,_,rfl,_,_,rfl,rfl,k H1 s1⟩
noncomputable def sortS (W:Wk):Str:=if nS W<nL W then "rim" else "hole"
noncomputable def zlB(K:W.Frag):Sp:=λvs H Q _=>∃(a:Addr) (W:Wk),vs=[.ref a]/\LR K H a W wR/\W.length<=500/\∀H',Same H H'->Q (.str (sortS W)) H'
theorem ziW (g_lefts_less_slants:Fn P w K mg base 3 "lefts_less_slants" ["walk"] (zjp K)) (d:Df K mg "sort_of" zeg ["walk"]):FnOk P w K mg base CX0 4 d.f d.fd ["walk"] (zlB K):=by
 refine d.F.ok ziQ (λvs H Q E h=>?_) (λcdv A outer s H vs Q E hr h=>?_)
 .obtain⟨a,W,rfl,_⟩:=h;rfl
 .obtain⟨a,W,rfl,hLR,hlen,k⟩:=h;refine⟨_,(zae (zaj (zdY (zam op_gt (pC g_lefts_less_slants hr (pa_N (pv 0) zab)) zaf (zan _)) zbu zbu))),?_⟩;refine⟨_,rfl,a,W,rfl,hLR,hlen,λH1 s1=>?_⟩;refine⟨_,_,rfl,rfl,_,rfl,?_⟩;have h1:=k H1 s1;unfold sortS at h1
  by_cases hlt:nS W<nL W
  .rw[if_pos hlt]at h1;exact iteY (decide_eq_true (by lia)) h1
  .rw[if_neg hlt]at h1;exact iteN (decide_eq_false (by lia)) h1
noncomputable def kOf (s:Str):Nat:=if s = "rim" then 0 else 2
noncomputable def zct(W:Wk)(s:Str)(e:Edge):Prop:=e∈W.map (·.1)/\e.w=kOf s/\∀f∈W.map (·.1),f.w=kOf s->HT.lexLt [f.c.2,f.c.1] [e.c.2,e.c.1]=false
noncomputable def zhi (K:W.Frag):Sp:=λvs H Q _=>∃(a:Addr) (W:Wk) (s:Str),vs=[.ref a,.str s]/\(s = "rim" ∨ s = "hole")/\LR K H a W wR/\W.length<=500/\(∃e∈W.map (·.1),e.w=kOf s) /\
 ∀b e H',Same H H'->H' b=some (.tup (edgeT e))->zct W s e->Q (.ref b) H'
theorem zhy (T:Txt P w K mg) (g_cell_order:Fn P w K mg base 1 "cell_order" ["cell"] (zd5 K)) (d:Df K mg "begin_of" zcR ["walk","sort"]):FnOk P w K mg base CX0 3 d.f d.fd ["walk","sort"] (zhi K):=by
  refine d.F.ok zhn (λvs H Q E h=>?_) (λcdv A outer s H vs Q E hr h=>?_)
  . obtain⟨a,W,s,rfl,_⟩:=h;rfl
  . obtain⟨a,W,so,rfl,hso,hLR,hlen,hex,k⟩:=h;obtain⟨ws,hq,hv⟩:=hLR.vr;have nb0:(["edge","step","sort"]:List Str).Nodup:=by decide +kernel
    refine⟨_,(zae (zaj (zmg g_cell_order.ok (hr.mono (by decide)) g_cell_order.b (by rfl) T.nmin (by rfl) g_cell_order.m (zaW (osc:=zad zcR) (N:=zfk) (N':=["edge","step","sort"]) (sel:=[none,none,some 1]) bO (zaz (pv 0)) (λ_ _ _ _ _=>(zcE (K:=K) (n:=2) (by rfl) (zag (nG 0 nb0) (zag (nG 1 nb0) zaA)))) (λ_ _ _ _ _=>zbG (zam op_eq (pe_ix (zmy (K:=K)) (pv 0) zaf (λ_ _=>rfl)) (zjJ (by rfl) T.ways (pv 2)) (zan _))) (λ_ _ _ _ _=>(pv 0)))))),?_⟩;refine⟨_,rfl,a,rfl,⟨_,hq⟩,λp hp=>?_⟩
    refine zau (K:=K) (a:=a) (xs:=ws) (λi σ H2=>∃o1 o2,σ=[o1,o2,some (.str so)]/\Same H H2/\∃es:List V,H2 p=some (.lst es)/\VR es (((W.take i).filter λq=>q.1.w == kOf so).map (·.1)) eR H2)
      ⟨_,_,rfl,Same.up hp,[],zaa,VR.nil⟩ (λi σ H2 _ ⟨_,_,_,s2,_⟩=>s2.seq hq) ?_ ?_
    . rintro i v σ H2 hi ⟨o1,o2,rfl,s2,es,e2,hl⟩;obtain⟨⟨e,st⟩,he,B,b,rfl,q1,q2⟩:=hv.at hi
      have hl2:es.length<=1000:=by have:=AO (λq:Edge×Option Nat=>q.1.w == kOf so) (W.take i);rw[hl.1,Ap];rw[AR]at this;lia
      have fin:∀kk:Int, kk=(kOf so:Int) -> (if decide (V.int (e.w:Int)=V.int kk)=true then zb7 p (tVar 0) { nx := λσ H2 => ∃o1 o2, σ = [o1, o2, some (V.str so)] /\ Same H H2 /\ ∃es, H2 p=some (.lst es) /\ VR es (List.map (λx => x.fst) (List.filter (λq => q.1.w == kOf so) (List.take (i + 1) W))) eR H2, rt := λ_ _ => False } [some (.ref b), some (sv st), some (.str so)] H2
          else (∃o1 o2,[some (.ref b),some (sv st),some (V.str so)]=[o1,o2,some (V.str so)]/\Same H H2/\∃es,H2 p=some (.lst es)/\VR es (List.map (λx=>x.fst) (List.filter (λq=>q.1.w == kOf so) (List.take (i+1) W))) eR H2)):=λkk hk=>by
        have hd:decide (V.int (e.w:Int)=V.int kk)=(e.w == kOf so):=by
          subst hk
          by_cases q:e.w=kOf so
          . rw[q];simp
          . rw[decide_eq_false (λz=>q (by injection z with z;lia))];simp[q]
        rw[hd,zda he];refine ite2 (λhy=>?_) (λhn=>?_)
        . refine⟨_,rfl,es,e2,zak hl2,_,_,rfl,zar hp s2,_,zaa,?_⟩;rw[if_pos hy,A6];have k2:KT H2 (upd H2 p (.lst (es++[.ref b]))):=KT.lst e2;exact hl.snoc (λx v hx=>hx.kt k2) ⟨b,rfl,k2 _ _ (s2 _ _ q2)⟩
        . exact⟨_,_,rfl,s2,es,e2,by rw[if_neg hn,Bf];exact hl⟩
      refine⟨B,_,rfl,SqT.of (s2 _ _ q1),rfl,_,_,rfl,_,_,rfl,rfl,?_⟩;rcases hso with z |z
      . have f0:=fin 0 (by rw[z];rfl);exact⟨_,rfl,b,_,_,_,rfl,rfl,SqT.of (s2 _ _ q2),zay (j:=2) rfl,_,rfl,.inl ⟨by rw[z],rfl,_,rfl,f0⟩⟩
      . have f2:=fin 2 (by rw[z];rfl);exact⟨_,rfl,b,_,_,_,rfl,rfl,SqT.of (s2 _ _ q2),zay (j:=2) rfl,_,rfl,.inr ⟨by rw[z],rfl,_,rfl,f2⟩⟩
    . rintro σ H2 ⟨o1,o2,rfl,s2,es,e2,hl⟩;rw[hv.1,AS]at hl;obtain⟨L,hL⟩:∃L,L=((W.filter λq=>q.1.w == kOf so).map (·.1)):=⟨_,rfl⟩;rw[<- hL]at hl
      have memL:∀f,f∈L ↔ f∈W.map (·.1)/\f.w=kOf so:=λf=>by
        rw[hL];constructor
        . intro h;obtain⟨q,hq1,rfl⟩:=AV.mp h;obtain⟨h1,h2⟩:=Cb.mp hq1;exact⟨AV.mpr ⟨q,h1,rfl⟩,by simpa using h2⟩
        . rintro⟨h1,h2⟩;obtain⟨q,hq1,rfl⟩:=AV.mp h1;exact AV.mpr ⟨q,List.mem_filter.mpr ⟨hq1,by simpa using h2⟩,rfl⟩
      have hpos:0<es.length:=by obtain⟨f,h1,h2⟩:=hex;rw[hl.1];exact List.length_pos_of_mem ((memL f).mpr ⟨h1,h2⟩)
      have kap:∀(i:Nat) e,L[i]?=some e->(λi=>(L[i]?.map λe:Edge=>[e.c.2,e.c.1]).getD []) i=[e.c.2,e.c.1]:=λi e h=>by simp only[h];rfl
      refine⟨p,es,λi=>(L[i]?.map λe:Edge=>[e.c.2,e.c.1]).getD [],rfl,SqL.of e2,hpos,λi x H3 hx s3=>?_,λi x H3 hx hle s3=>?_⟩
      . obtain⟨e,he,b,rfl,q⟩:=hl.at hx;refine⟨b,e.c.1,e.c.2,_,rfl,SqT.of (s3 _ _ q),λp4 H4 hp4 s4 f4=>⟨s4,p4,rfl,SqT.of ?_⟩⟩;rw[kap i e he];exact f4
      . obtain⟨e,he,b,rfl,q⟩:=hl.at hx;have hm:=(memL e).mp (Ai he);refine k b e H3 (s2.trans s3) (s3 _ _ q) ⟨hm.1,hm.2,λf h1 h2=>?_⟩;obtain⟨j,hj,ej⟩:=AE ((memL f).mpr ⟨h1,h2⟩);have hj':L[j]?=some f:=by rw[Aa hj,ej]
        have:=(hle j (by rw[hl.1];exact hj)).1;rw[kap j f hj',kap i e he]at this;exact this
theorem zjA(n d j:Nat):HT.sIx n d (some (j:Int))=min j n:=by show (if (j:Int)<0 then ((j:Int)+(n:Int)).toNat else min (j:Int).toNat n)=min j n;rw[if_neg (by lia),Dv]
theorem zlq(xs:List V){j:Nat}(h:j<=xs.length):cutV xs (some (j:Int)) none=xs.drop j:=by unfold cutV;rw[zjA,Nat.min_eq_left h];exact Di (by rw[List.length_drop];exact Ak _)
theorem znz(xs:List V){j:Nat}(h:j<=xs.length):cutV xs none (some (j:Int))=xs.take j:=by unfold cutV;rw[zjA,Nat.min_eq_left h];rfl
theorem VR.rot{α:Type}{vs:List V}{l:List α}{R:α->V->Hp->Prop}{H:Hp}(h:VR vs l R H)(j:Nat):VR (vs.drop j++vs.take j) (l.drop j++l.take j) R H:=by
 refine⟨by simp[h.1],λi x v h1 h2=>?_⟩;have hd:(vs.drop j).length=(l.drop j).length:=by simp[h.1]
 rcases AY i (l.drop j).length with hi |hi
 .rw[Aw hi,D1]at h1;rw[Aw (by lia),D1]at h2;exact h.2 _ x v h1 h2
 .rw[AK hi]at h1;rw[AK (by lia),hd]at h2;rw[List.getElem?_take]at h1 h2;split at h1
  .rw[if_pos (by assumption)]at h2;exact h.2 _ x v h1 h2
  .cases h1
theorem ziu{α:Type} [DecidableEq α]{x:α}:∀{l:List α},x∈l->∃j:Nat,l[j]?=some x/\∀(m:Nat) y,m<j->l[m]?=some y->y≠x
 |[],h=>by cases h
 |a::l,h=>by
  by_cases e:a=x
  .exact⟨0,by rw[e];rfl,λm y hm=>absurd hm (Nat.not_lt_zero _)⟩
  .obtain⟨j,h1,h2⟩:=ziu ((AG.mp h).resolve_left (BG e));refine⟨j+1,by simpa using h1,λm y hm hy=>?_⟩
   match m,hm,hy with
   | 0,_,hy=>cases hy;exact e
   |m+1,hm,hy=>exact h2 m y (by lia) (by simpa using hy)
theorem zgA{K:W.Frag}{H:Hp}:∀{vs:List V}{l:List Edge},VR vs l eR H->RDs K H vs (l.map λe=>tI (eI e))
 |[],[],_=>.nil
 |[],_::_,h=>by have:=h.1;cases this
 |_::_,[],h=>by have:=h.1;cases this
 |v::vs,e::l,h=>by
  obtain⟨b,rfl,q⟩:=h.2 0 e v rfl rfl;exact .cons (zcD q) (zgA ⟨by simpa using h.1,λi x u h1 h2=>h.2 (i+1) x u (by simpa using h1) (by simpa using h2)⟩)
structure Rnd where
 so:Str
 x:Int
 y:Int
 row:List Nat
 deriving DecidableEq
noncomputable def rowV(row:List Nat):List V:=row.map λn:Nat=>V.int (n:Int)
noncomputable def rR(r:Rnd)(v:V)(H:Hp):Prop:=∃a b,v=.ref a/\H a=some (.tup [.str r.so,.int r.x,.int r.y,.ref b])/\H b=some (.tup (rowV r.row))
theorem rR.kt{r:Rnd}{v:V}{H H':Hp}(h:rR r v H)(s:KT H H'):rR r v H':=let ⟨a,b,e,q1,q2⟩:=h;⟨a,b,e,s _ _ q1,s _ _ q2⟩
noncomputable def IsRnd(W:Wk)(r:Rnd):Prop:=r.so=sortS W/\∃(j:Nat) (e:Edge),(W.map (·.1))[j]?=some e/\zct W (sortS W) e/\r.x=e.c.1/\r.y=e.c.2/\r.row=(W.drop j++W.take j).filterMap (·.2)
theorem zdj (W:Wk):sortS W = "rim" ∨ sortS W = "hole":=by unfold sortS;split <;> simp
noncomputable def zgm(K:W.Frag):Sp:=λvs H Q _=>∃(a:Addr) (W:Wk),vs=[.ref a]/\LR K H a W wR/\W.length<=500/\(∃e∈W.map (·.1),e.w=0)/\(∃e∈W.map (·.1),e.w=2) /\
 ∀v H' r,Same H H'->rR r v H'->IsRnd W r->Q v H'
theorem zht (T:Txt P w K mg) (g_sort_of:Fn P w K mg base 4 "sort_of" ["walk"] (zlB K)) (g_begin_of:Fn P w K mg base 3 "begin_of" ["walk", "sort"] (zhi K))
  (d:Df K mg "round_of" zbM ["walk"]):FnOk P w K mg base CX0 5 d.f d.fd ["walk"] (zgm K):=by
 refine d.F.ok zbO (λvs H Q E h=>?_) (λcdv A outer s H vs Q E hr h=>?_)
 .obtain⟨a,W,rfl,_⟩:=h;rfl
 .obtain⟨a,W,rfl,hLR,hlen,h0,h2,k⟩:=h;obtain⟨ws,hq,hv⟩:=hLR.vr;have hun:=hr.un;have hu65:(A.deeper (PyProof.Rows.envOfC (Bj "round_of") (zad zbM) s.heap.objs.size d.f cdv)).units+65<cLine:=by lia
  have nb0:(["edge","step"]:List Str).Nodup:=by decide +kernel
  have nb1:(["edge","step"]:List Str).Nodup:=by decide +kernel
  refine⟨_,(zac (sE 1 zbO.nd (pC g_sort_of hr (pa_N (pv 0) zab)))
   (zac (sE 2 zbO.nd (pC g_begin_of hr (pa_N (pv 0) (pa_N (pv 1) zab))))
   (zac (sE 3 zbO.nd (pe_bm Bh PySem.F.slot_list_index PySem.F.type_list_index (zj0 hu65) (zaW (osc:=zad zbM) (N:=zdH) (N':=["edge","step"]) (sel:=[none,none]) bO (zaz (pv 0)) (λ_ _ _ _ _=>(zcE (K:=K) (n:=2) (by rfl) (zag (nG 0 nb0) (zag (nG 1 nb0) zaA)))) (λ_ _ _ _ _=>zbH) (λ_ _ _ _ _=>(pv 0))) (pa_N (pv 2) zab)))
   (zac (sE 4 zbO.nd (za9 zf6 (by rfl) T.ntuple (by rfl) (zah (zaW (osc:=zad zbM) (N:=zdH) (N':=["edge","step"]) (sel:=[none,none]) bO (zaz (pe_op zgK (zdm zjv (pv 0) (zdA (pv 3)) zfB) (zdm zjv (pv 0) zfB (zdA (pv 3))))) (λ_ _ _ _ _=>(zcE (K:=K) (n:=2) (by rfl) (zag (nG 0 nb1) (zag (nG 1 nb1) zaA)))) (λ_ _ _ _ _=>zbG (zam zfC (pv 1) zbp (zan _))) (λ_ _ _ _ _=>(pv 1))) zab)))
   (zae (zaj (zas (pa_N (pv 1) (zah (pe_ix zbW (pv 2) zaf (λ_ _=>rfl)) (zah (pe_ix zbW (pv 2) zaf (λ_ _=>rfl)) (pa_N (pv 4) zab))))))))))),?_⟩
  refine⟨_,rfl,a,W,rfl,hLR,hlen,λH1 s1=>?_⟩
  have hex:∃e∈W.map (·.1),e.w=kOf (sortS W):=by
   rcases zdj W with z |z <;> rw[z]
   .exact h0
   .exact h2
  refine⟨_,rfl,_,rfl,a,W,sortS W,rfl,zdj W,hLR.same s1 (λx v hx=>hx.same s1),hlen,hex,λb e H2 s2 hb hbg=>?_⟩;have s12:=s1.trans s2;refine⟨_,rfl,a,rfl,⟨_,s12.seq hq⟩,λp hp=>?_⟩
  refine zau (K:=K) (a:=a) (xs:=ws) (λi σ H3=>∃o1 o2,σ=[o1,o2]/\Same H2 H3/\∃es:List V,H3 p=some (.lst es)/\VR es ((W.take i).map (·.1)) eR H3)
   ⟨_,_,rfl,Same.up hp,[],zaa,VR.nil⟩ (λi σ H3 _ ⟨_,_,_,s3,_⟩=>(s12.trans s3).seq hq) ?_ ?_
  .rintro i v σ H3 hi ⟨o1,o2,rfl,s3,es,e3,hl⟩;obtain⟨⟨f,st⟩,he,B,bb,rfl,q1,q2⟩:=hv.at hi;have hl2:es.length<=1000:=by rw[hl.1,Ap,AR];lia
   refine⟨B,_,rfl,SqT.of ((s12.trans s3) _ _ q1),rfl,_,_,rfl,_,_,rfl,rfl,?_⟩;refine zcP ?_
   refine⟨_,rfl,es,e3,zak hl2,_,_,rfl,zar hp s3,_,zaa,?_⟩;rw[zaH he,A6];have k2:KT H3 (upd H3 p (.lst (es++[.ref bb]))):=KT.lst e3;exact hl.snoc (λx v hx=>hx.kt k2) ⟨bb,rfl,k2 _ _ ((s12.trans s3) _ _ q2)⟩
  .rintro σ H3 ⟨o1,o2,rfl,s3,es,e3,hl⟩;rw[hv.1,AS]at hl;obtain⟨j,hj,hjm⟩:=ziu hbg.1;have hjl:j<W.length:=by have:=(Ad.mp hj).1;simpa using this
   have s13:=s12.trans s3;refine⟨.inl ⟨rfl,_,SqL.of e3⟩,_,rfl,p,es,_,_,_,j,_,rfl,rfl,SqL.of e3,zcD (s3 _ _ hb),zgA hl,zaL _,(λz hz=>by obtain⟨f,_,rfl⟩:=AV.mp hz;exact zaL _),(by rw[AF,hj];rfl),(by rw[zc1];exact decide_eq_true rfl),(λm z hm hz=>?_),?_⟩
   .rw[AF]at hz;obtain⟨f,hf,rfl⟩:=BN.mp hz;rw[zc1];exact decide_eq_false (λq=>hjm m f hm hf (ziy.mp q))
   have hwl:j<=ws.length:=by rw[hv.1];lia
   refine⟨_,rfl,_,rfl,_,rfl,a,ws,rfl,s13.seq hq,λp4 hp4=>?_⟩;rw[zlq ws hwl];have s4:=Same.up (o:=.lst (ws.drop j)) hp4;refine⟨_,rfl,_,rfl,_,rfl,a,ws,rfl,(s13.trans s4).seq hq,λp5 hp5=>?_⟩;rw[znz ws hwl];have s5:=Same.up (o:=.lst (ws.take j)) hp5;refine⟨p4,p5,_,_,rfl,rfl,s5 _ _ zaa,zaa,B6 (zak (by simp[hv.1];lia)),λp6 hp6=>?_⟩;have s6:=Same.up (o:=.lst (ws.drop j++ws.take j)) hp6;have s16:=s13.trans (s4.trans (s5.trans s6));have e6:upd (upd (upd H3 p4 (.lst (ws.drop j))) p5 (.lst (ws.take j))) p6 (.lst (ws.drop j++ws.take j)) p6=some (.lst (ws.drop j++ws.take j)):=zaa;have b6:=(s4.trans (s5.trans s6)) _ _ (s3 _ _ hb);generalize upd (upd (upd H3 p4 (.lst (ws.drop j))) p5 (.lst (ws.take j))) p6 (.lst (ws.drop j++ws.take j))=H6 at s16 e6 b6 ⊢;have hv6:=hv.rot j;have hWl:(W.drop j++W.take j).length<=500:=by simp;lia
   generalize hW6:W.drop j++W.take j=W6 at hv6 hWl;generalize ws.drop j++ws.take j=ws6 at hv6 e6;refine⟨p6,rfl,⟨_,SqL.of e6⟩,λp7 hp7=>?_⟩
   refine zau (K:=K) (a:=p6) (xs:=ws6) (λi σ H7=>∃o1 o2,σ=[o1,o2]/\Same H6 H7/\H7 p7=some (.lst (rowV ((W6.take i).filterMap (·.2)))))
    ⟨_,_,rfl,Same.up hp7,zaa⟩ (λi σ H7 _ ⟨_,_,_,s7,_⟩=>s7.seq (SqL.of e6)) ?_ ?_
   .rintro i v σ H7 hi ⟨o1,o2,rfl,s7,e7⟩;obtain⟨⟨f,st⟩,he,B,bb,rfl,q1,q2⟩:=hv6.at hi
    have hl2:(rowV ((W6.take i).filterMap (·.2))).length<=1000:=by unfold rowV;rw[Ap];have:=DU (λq:Edge×Option Nat=>q.2) (W6.take i);rw[AR]at this;lia
    refine⟨B,_,rfl,SqT.of ((s16.trans s7) _ _ q1),rfl,_,_,rfl,_,_,rfl,rfl,?_⟩;refine⟨_,rfl,rfl,_,rfl,?_⟩;rw[zly,zaH he,List.filterMap_append]
    cases st with
    |none=>exact iteF ⟨_,_,rfl,s7,by simpa using e7⟩
    |some n =>
     refine iteT ⟨_,rfl,_,e7,zak hl2,_,_,rfl,zar hp7 s7,?_⟩;rw[zaa];simp[rowV,sv]
   .rintro σ H7 ⟨o1,o2,rfl,s7,e7⟩;rw[hv6.1,AS]at e7;refine⟨p7,_,rfl,.inl ⟨SqL.of e7,λp8 hp8=>?_⟩⟩;have s8:=Same.up (o:=.tup (rowV (W6.filterMap (·.2)))) hp8;have b8:=s8 _ _ (s7 _ _ b6);refine⟨_,rfl,_,rfl,b,_,_,_,rfl,rfl,SqT.of b8,zay (j:=0) rfl,_,rfl,b,_,_,_,rfl,rfl,SqT.of b8,zay (j:=1) rfl,_,rfl,(by show 4<=sizeLine;decide),λp9 hp9=>?_⟩;refine k _ _ ⟨sortS W,e.c.1,e.c.2,W6.filterMap (·.2)⟩ ((s16.trans (s7.trans s8)).trans (Same.up hp9)) ⟨p9,p8,rfl,zaa,Same.up hp9 _ _ zaa⟩ ⟨rfl,j,e,hj,hbg,rfl,rfl,?_⟩;rw[<- hW6]
noncomputable def keyV (r:Rnd):List V:=[.int r.y,.int r.x,.bl (decide (V.str r.so=V.str "hole"))]
noncomputable def zdJ(K:W.Frag):Sp:=λvs H Q _=>∃(v:V) (r:Rnd),vs=[v]/\rR r v H/\∀p H',H p=none->Same H H'->H' p=some (.tup (keyV r))->Q (.ref p) H'
theorem zeH (d:Df K mg "round_order" zci ["one"]):FnOk P w K mg base CX0 1 d.f d.fd ["one"] (zdJ K):=by
 refine d.F.ok za8 (λvs H Q E h=>?_) (λcdv A outer s H vs Q E hr h=>?_)
 .obtain⟨v,r,rfl,_⟩:=h;rfl
 .obtain⟨v,r,rfl,⟨a,b,rfl,q1,q2⟩,k⟩:=h
  refine⟨_,(zac (zbD (pv 0) (zbk (by rfl) (zag (nG 1 za8.nd) (zag (nG 2 za8.nd) (zag (nG 3 za8.nd) (zag (nG 4 za8.nd) zaA))))))
   (zae (zaj (zas (pa_N (pv 3) (pa_N (pv 2) (zah (zbq op_eq (pv 1) zbu (zan _)) zab))))))),?_⟩
  refine⟨_,rfl,a,_,rfl,SqT.of q1,rfl,_,_,rfl,_,_,rfl,_,_,rfl,_,_,rfl,rfl,?_⟩;refine⟨_,rfl,_,rfl,_,rfl,rfl,three,λp hp=>k p _ hp (Same.up hp) zaa⟩
theorem VR.cons{α:Type}{v:V}{vs:List V}{x:α}{l:List α}{R:α->V->Hp->Prop}{H:Hp}:VR (v::vs) (x::l) R H ↔ R x v H/\VR vs l R H:=by
 constructor
 .intro h;exact⟨h.2 0 x v rfl rfl,by simpa using h.1,λi y u h1 h2=>h.2 (i+1) y u (by simpa using h1) (by simpa using h2)⟩
 .rintro⟨h1,h2⟩;refine⟨by simp[h2.1],λi y u e1 e2=>?_⟩
  match i,e1,e2 with
  | 0,e1,e2=>cases e1;cases e2;exact h1
  |i+1,e1,e2=>exact h2.2 i y u (by simpa using e1) (by simpa using e2)
noncomputable def kE(e:Edge):List Key:=[C8 e.c.1,C8 e.c.2,C8 (e.w:Int)]
theorem zio{e f:Edge}:kE e=kE f ↔ e=f:=by
 constructor
 .intro h;refine ziy.mp ?_
  unfold kE at h;injection h with h1 h2;injection h2 with h2 h3;injection h3 with h3 _;unfold eI;rw[Dw h1,Dw h2,Dw h3]
 .rintro rfl;rfl
theorem _root_.RP.Closed.back{C:Cell->Bool}{b x:Edge}{es:List Edge}(h:Closed C b es)(hx:IsE C x)(hm:nxt C x∈es):x∈es:=by
 obtain⟨⟨h0,hs,hE,hnd⟩,l,hl,hb⟩:=h;obtain⟨i,hi,ei⟩:=AE hm;have hlm:l∈es:=Ai hl;rcases Nat.eq_zero_or_pos i with rfl |hp
 .rw[Aa hi,ei]at h0;have e:=AT h0;rw[<- hb]at e;rw[zhz hx (hE l hlm) e];exact hlm
 .have hi':i-1<es.length:=by lia
  have e1:=hs (i-1) es[i-1] (nxt C x) (Aa hi') (by rw[show i-1+1=i by lia,Aa hi,ei]);rw[zhz hx (hE _ (Bx hi')) e1];exact Bx hi'
theorem _root_.RP.Closed.apart{C:Cell->Bool}{b:Edge}{es done:List Edge}(h:Closed C b es)(hd:∀x,IsE C x->nxt C x∈done->x∈done)(hb:b ∉ done):∀e∈es,e ∉ done:=by
 obtain⟨⟨h0,hs,hE,hnd⟩,_⟩:=h
 have key:∀(i:Nat) e,es[i]?=some e->e ∉ done:=by
  intro i
  induction i with
  |zero=>intro e he;rw[he]at h0;cases h0;exact hb
  |succ i ih =>
   intro e he hm;have hi:i+1<es.length:=(Ad.mp he).1;have h1:es[i]?=some es[i]:=Aa (by lia)
   have hn:=hs i _ e h1 he;rw[hn]at hm;exact ih _ h1 (hd _ (hE _ (Bx _)) hm)
 intro e he;obtain⟨i,hi,ei⟩:=AE he;exact key i e (by rw[Aa hi,ei])
structure Part (C:Cell->Bool) (ESS:List (List Edge)) (R:List Rnd):Prop where
 len:R.length=ESS.length
 each:∀(i:Nat) es r,ESS[i]?=some es->R[i]?=some r->(∃b,Closed C b es)/\IsRnd (wk C es) r
 nd:ESS.flatten.Nodup
theorem Part.closed{C:Cell->Bool}{ESS:List (List Edge)}{R:List Rnd}(h:Part C ESS R):∀es∈ESS,∃b,Closed C b es:=λes he=>by
 obtain⟨i,hi,ei⟩:=AE he;have hr:i<R.length:=by rw[h.len];exact hi
 exact (h.each i es R[i] (by rw[Aa hi,ei]) (Aa hr)).1
theorem Part.isE{C:Cell->Bool}{ESS:List (List Edge)}{R:List Rnd}(h:Part C ESS R):∀e∈ESS.flatten,IsE C e:=λe he=>by obtain⟨es,h1,h2⟩:=Ea.mp he;obtain⟨b,hc⟩:=h.closed es h1;exact hc.1.2.2.1 e h2
theorem Part.back{C:Cell->Bool}{ESS:List (List Edge)}{R:List Rnd}(h:Part C ESS R):∀x,IsE C x->nxt C x∈ESS.flatten->x∈ESS.flatten:=λx hx hm=>by obtain⟨es,h1,h2⟩:=Ea.mp hm;obtain⟨b,hc⟩:=h.closed es h1;exact List.mem_flatten.mpr ⟨es,h1,hc.back hx h2⟩
theorem Part.nil{C:Cell->Bool}:Part C [] []:=⟨rfl,λi es r h=>by simp at h,by simp⟩
theorem Part.snoc{C:Cell->Bool}{ESS:List (List Edge)}{R:List Rnd}{b:Edge}{es:List Edge}{r:Rnd}(h:Part C ESS R)(hc:Closed C b es)(hr:IsRnd (wk C es) r)(hb:b ∉ ESS.flatten):Part C (ESS++[es]) (R++[r]):=by
 refine⟨by simp[h.len],λi fs q h1 h2=>?_,?_⟩
 .rcases AY i ESS.length with hi |hi
  .rw[Aw hi]at h1;rw[Aw (by rw[h.len];exact hi)]at h2;exact h.each i fs q h1 h2
  .rw[AK hi]at h1;rw[AK (by rw[h.len];exact hi)]at h2
   have hz:i-ESS.length=0:=by have:=(Ad.mp h1).1;simp at this;lia
   rw[hz]at h1;rw[h.len,hz]at h2
   cases h1;cases h2
   exact⟨⟨b,hc⟩,hr⟩
 .have ap:=hc.apart h.back hb;rw[Ca,Dt];refine⟨h.nd,by simpa using hc.1.2.2.2,λx hx y hy e=>?_⟩;subst e;exact ap x (by simpa using hy) hx
theorem zil{p:Edge->Bool}:∀(ESS:List (List Edge)),(∀es∈ESS,∃e∈es,p e=true)->ESS.length<=(ESS.flatten.filter p).length
 |[],_=>Ba _
 |es::r,h=>by
  have ih:=zil r λes he=>h es (Aq _ he)
  obtain⟨e,he,hp⟩:=h es Ax;rw[BA,D3,Am,A4];have:0<(es.filter p).length:=List.length_pos_of_mem (List.mem_filter.mpr ⟨he,hp⟩);lia
theorem Part.few{cs:List Cell}{ESS:List (List Edge)}{R:List Rnd}(h:Part (isIn cs) ESS R):R.length<=cs.length:=by
 rw[h.len];refine A3 (zil (p:=λe=>e.w == 0) ESS λes he=>?_) ?_
 .obtain⟨b,hc⟩:=h.closed es he;obtain⟨e,h1,h2⟩:=hc.has (k:=0) (.inl rfl);exact⟨e,h1,by simpa using h2⟩
 .rw[<- Ap (f:=λc:Cell=>(⟨c,0⟩:Edge)) (as:=cs)];refine zax (List.Pairwise.filter _ h.nd) λe he=>?_
  obtain⟨h1,h2⟩:=Cb.mp he;have hE:=h.isE e h1;refine AV.mpr ⟨e.c,of_decide_eq_true hE.2.1,?_⟩;obtain⟨c,w⟩:=e;simp only at h2 ⊢;have:w=0:=by simpa using h2
  rw[this]
theorem Part.small{cs:List Cell}{ESS:List (List Edge)}{R:List Rnd}(h:Part (isIn cs) ESS R):ESS.flatten.length<=4*cs.length:=by rw[<- zaT];exact zax h.nd λe he=>zbU.mpr ⟨of_decide_eq_true (h.isE e he).2.1,(h.isE e he).1⟩
noncomputable def keyI (r:Rnd):List Int:=[r.y,r.x,PyProof.Rows.b2i (decide (V.str r.so=V.str "hole"))]
noncomputable def Whole(cs:List Cell)(R:List Rnd):Prop:=∃ESS,Part (isIn cs) ESS R/\∀e,e∈ESS.flatten ↔ IsE (isIn cs) e
noncomputable def zfp(K:W.Frag):Sp:=λvs H Q _=>∃(a:Addr) (cs:List Cell),vs=[.ref a]/\LR K H a cs cR/\InOrd cs/\cs.length<=120 /\
 ∀p H' rs R R0,H p=none->Same H H'->H' p=some (.lst rs)->VR rs R rR H'->R.Perm R0->R.Pairwise (λr q=>HT.lexLt (keyI q) (keyI r)=false)->Whole cs R0->Q (.ref p) H'
noncomputable def Along(cs:List Cell)(L:List Edge)(R:List Rnd):Prop:=∃ESS,Part (isIn cs) ESS R/\(∀e∈L,e∈ESS.flatten)/\∀es∈ESS,∃b∈L,Closed (isIn cs) b es
noncomputable def zcf(K:W.Frag):Sp:=λvs H Q _=>∃(t pe:Addr) (cs:List Cell) (es:List V) (L:List Edge),vs=[.ref t,.ref pe]/\Tab H t (isIn cs)/\H pe=some (.lst es)/\VR es L eR H/\(∀e∈L,IsE (isIn cs) e)/\cs.length<=120 /\
 ∀p H' rs R R0,H p=none->Same H H'->H' p=some (.lst rs)->VR rs R rR H'->R.Perm R0->R.Pairwise (λr q=>HT.lexLt (keyI q) (keyI r)=false)->Along cs L R0->Q (.ref p) H'
theorem zel(T:Txt P w K mg)
    (g_walk_from:Fn P w K mg base 3 "walk_from" ["table","begin"] (zlz K)) (g_round_of:Fn P w K mg base 5 "round_of" ["walk"] (zgm K)) (g_round_order:Fn P w K mg base 1 "round_order" ["one"] (zdJ K))
    (d:Df K mg "rounds_along" zb1 ["table","edges"]):FnOk P w K mg base CX0 6 d.f d.fd ["table","edges"] (zcf K):=by
  refine d.F.ok zaI (λvs H Q E h=>?_) (λcdv A outer s H2 vs Q E hr h=>?_)
  . obtain⟨t,pe,cs,es,L,rfl,_⟩:=h;rfl
  . obtain⟨t,pe,cs,es,L,rfl,tab,epe,hvpe,hLE,hlen,k⟩:=h;have hu1:=hu_of hr
    refine⟨_,(zac (sE 2 zaI.nd zid)
      (zac (sE 3 zaI.nd (zaV zab))
      (zac (zcb By rfl (zaz (pv 1)) (nG 4 zaI.nd)
      (zae (ps_if (zh8 (zgG hu1 (pv 4) (pv 2)))
      (zac (sE 5 zaI.nd (pC g_walk_from hr (pa_N (pv 0) (pa_N (pv 4) zab))))
      (zac (zcb By rfl (zaz (pv 5)) (zbk (by rfl) (zag (nG 6 zaI.nd) (zag (nG 7 zaI.nd) zaA)))
      (zae (zjE hu1 (pv 2) (pv 6) pe_bl rfl)))
      (zae (zbS (pe_bm Bh Bm Bo zbb (pv 3) (zah (pC g_round_of hr (pa_N (pv 5) zab)) zab))))))
      zaq)))
      (zae (zaj (zib g_round_order.ok (hr.mono (by decide)) g_round_order.b (by rfl) T.nsorted (by rfl) g_round_order.m (pv 3))))))),?_⟩
    refine λdd hdd=>⟨(by show 0<=sizeLine;decide),λp hp=>?_⟩
    have hpd:p≠dd:=λz=>by subst z;rw[zaa]at hp;cases hp
    have s4:Same H2 (upd (upd H2 dd (.dT [])) p (.lst [])):=(Same.up hdd).trans (Same.up hp);have d4:upd (upd H2 dd (.dT [])) p (.lst []) dd=some (.dT []):=by rw[zai (BG hpd),zaa]
    have p4:upd (upd H2 dd (.dT [])) p (.lst []) p=some (.lst []):=zaa;have n2:H2 dd=none:=hdd;have n2p:H2 p=none:=by rw[zai hpd]at hp;exact hp
    generalize upd (upd H2 dd (.dT [])) p (.lst [])=H5 at s4 d4 p4;have s15:Same H2 H5:=s4;have e5:=s4 _ _ epe;have hv5:=hvpe.mono λx v hx=>hx.same s4
    refine⟨_,rfl,pe,rfl,⟨_,SqL.of e5⟩,?_⟩;have hped:pe≠dd:=zal epe n2;have hpep:pe≠p:=zal epe n2p
    refine zau (K := K) (a := pe) (xs := es) (λi σ H6 => ∃o4 o5 o6 o7, σ = [some (.ref t), some (.ref pe), some (.ref dd), some (.ref p), o4, o5, o6, o7] /\ Same H2 H6 /\ H6 pe=some (.lst es) /\ KT H5 H6 /\
        ∃kvs rs ESS R,H6 dd=some (.dT kvs)/\H6 p=some (.lst rs)/\VR rs R rR H6/\Part (isIn cs) ESS R/\(∀e,(valV kvs (kE e)).isSome=decide (e∈ESS.flatten))/\kvs.length<=ESS.flatten.length/\(∀e∈L.take i,e∈ESS.flatten)/\∀es∈ESS,∃b∈L,Closed (isIn cs) b es)
      ⟨_,_,_,_,rfl,s15,e5,KT.refl _,[],[],[],[],d4,p4,VR.nil,Part.nil,(λe=>by simp[valV]),Ak _,(λe he=>by simp at he),(λe he=>by simp at he)⟩ (λi σ H6 _ ⟨_,_,_,_,_,_,e6,_⟩=>SqL.of e6) ?_ ?_
    . rintro i v σ H6 hi ⟨o4,o5,o6,o7,rfl,s6,e6,kt6,kvs,rs,ESS,R,d6,p6,hR,hP,hkv,hkl,hall,hbe⟩;obtain⟨e,he,b,rfl,qb⟩:=hv5.at hi;have hE:IsE (isIn cs) e:=hLE e (Ai he);have qb6:=kt6 _ _ qb;refine⟨_,rfl,_,rfl,dd,_,rfl,.inr ⟨kvs,kE e,b,Rd.of d6,rfl,qb6,rfl⟩,_,rfl,?_⟩;rw[hkv]
      by_cases hin:e∈ESS.flatten
      . rw[decide_eq_true hin];refine iteF ⟨_,_,_,_,rfl,s6,e6,kt6,kvs,rs,ESS,R,d6,p6,hR,hP,hkv,hkl,λf hf=>?_,hbe⟩;rcases (zbE he).mp hf with z |z
        . exact hall f z
        . rw[z];exact hin
      . rw[decide_eq_false hin];refine iteT ?_
        have tab6:=tab.same s6;refine⟨_,rfl,_,rfl,t,b,cs,e,rfl,tab6,qb6,hE,by lia,λpw H7 ws fs hpw s7 e7 hv7 hcl=>?_⟩;have hfs:fs.length<=4*cs.length:=hcl.1.short;have hap:=hcl.apart hP.back hin;have d7:=s7 _ _ d6;have hdw:dd≠pw:=λz=>by subst z;rw[d6]at hpw;cases hpw
        have hws:ws.length=fs.length:=by rw[hv7.1,zbB]
        refine⟨_,rfl,pw,rfl,⟨_,SqL.of e7⟩,?_⟩
        refine zau (K := K) (a := pw) (xs := ws) (λj σ H8 => ∃o6 o7, σ = [some (.ref t), some (.ref pe), some (.ref dd), some (.ref p), some (.ref b), some (.ref pw), o6, o7] /\ (∀z o, z ≠ dd -> H7 z=some o -> H8 z=some o) /\
            ∃kv8,H8 dd=some (.dT kv8)/\(∀f,(valV kv8 (kE f)).isSome=decide (f∈ESS.flatten∨f∈fs.take j))/\kv8.length<=ESS.flatten.length+j)
          ⟨_,_,rfl,(λz o _ h=>h),kvs,d7,(λf=>by rw[hkv];simp),by lia⟩ (λj σ H8 _ ⟨_,_,_,k8,_⟩=>SqL.of (k8 _ _ (BG hdw) e7)) ?_ ?_
        . rintro j u σ H8 hj ⟨o6,o7,rfl,k8,kv8,d8,hk8,hl8⟩;obtain⟨⟨f,st⟩,hf,B,bb,rfl,q1,q2⟩:=hv7.at hj
          have hf':fs[j]?=some f:=by
            unfold wk at hf;rw[AF]at hf;obtain⟨g,hg,eg⟩:=BN.mp hf
            cases eg
            exact hg
          have nB:B≠dd:=ne_of q1 d7 (λz=>nomatch z);have nb:bb≠dd:=ne_of q2 d7 (λz=>nomatch z);refine⟨B,_,rfl,SqT.of (k8 _ _ nB q1),rfl,_,_,rfl,_,_,rfl,rfl,?_⟩;have hjl:j<fs.length:=by rw[<- hws];exact (Ad.mp hj).1
          have hsm:=hP.small;refine⟨_,rfl,_,rfl,dd,_,rfl,.inr ⟨kv8,kE f,bb,d8,rfl,k8 _ _ nb q2,zak (by lia),rfl⟩,?_⟩;refine⟨_,_,rfl,(λz o hz h=>by rw[zai hz];exact k8 z o hz h),_,zaa,(λg=>?_),A3 (zaP _ _ _) (by lia)⟩;rw[zcM]
          by_cases eg:g=f
          . rw[if_pos (zio.mpr eg),decide_eq_true (.inr ((zbE hf').mpr (.inr eg)))];rfl
          . rw[if_neg (λz=>eg (zio.mp z)),hk8];refine decide_eq_decide.mpr ⟨λz=>z.imp id λq=>(zbE hf').mpr (.inl q),λz=>z.imp id λq=>((zbE hf').mp q).resolve_right eg⟩
        . rintro σ H8 ⟨o6,o7,rfl,k8,kv8,d8,hk8,hl8⟩;rw[hws,AS]at hk8;have hdp:p≠dd:=hpd;have p8:=k8 _ _ hdp (s7 _ _ p6);have kt8:KT H7 H8:=λz xs h=>k8 z _ (ne_of h d7 (λq=>nomatch q)) h
          have w8:H8 pw=some (.lst ws):=k8 _ _ (BG hdw) e7;have hrl:rs.length<=120:=by rw[hR.1];exact A3 hP.few hlen
          have hh:∀kk,kk=0∨kk=2->∃x∈(wk (isIn cs) fs).map (·.1),x.w=kk:=λkk hkk=>by obtain⟨x,h1,h2⟩:=hcl.has hkk;exact⟨x,by unfold wk;rw[List.map_map];simpa using h1,h2⟩
          refine⟨_,rfl,.inl ⟨rfl,_,SqL.of p8⟩,_,rfl,pw,wk (isIn cs) fs,rfl,LR.of w8 (hv7.mono λx v hx=>hx.kt kt8),(by rw[zbB];lia),hh 0 (.inl rfl),hh 2 (.inr rfl),λvr H9 r s9 hr9 hrn=>?_⟩;have p9:=s9 _ _ p8;refine⟨p,rs,_,rfl,rfl,p9,zak (by lia),?_⟩;have kt9:KT H9 (upd H9 p (.lst (rs++[vr]))):=KT.lst p9;have ktA:KT H6 (upd H9 p (.lst (rs++[vr]))):=(KT.of s7).trans (kt8.trans ((KT.of s9).trans kt9));refine⟨_,_,_,_,rfl,(λz o h=>?_),?_,kt6.trans ktA,kv8,rs++[vr],ESS++[fs],R++[r],?_,zaa,hR.snoc (λx v hx=>hx.kt ktA) (hr9.kt kt9),hP.snoc hcl hrn hin,(λf=>?_),?_,(λf hf=>?_),(λfs' hfs'=>?_)⟩
          . rw[zai (zal h n2p)];exact s9 _ _ (k8 _ _ (zal h n2) (s7 _ _ (s6 _ _ h)))
          . rw[zai hpep];exact s9 _ _ (k8 _ _ hped (s7 _ _ e6))
          . rw[zai (BG hpd)];exact s9 _ _ d8
          . rw[hk8];refine decide_eq_decide.mpr ?_
            rw[Ca,List.mem_append];simp
          . rw[Ca,Am,show [fs].flatten=fs by simp];lia
          . rw[Ca,List.mem_append];rcases (zbE he).mp hf with z |z
            . exact .inl (hall f z)
            . rw[z];refine .inr ?_
              have:=hcl.1.1;simpa using Ai this
          . rcases AQ.mp hfs' with z |z
            . exact hbe fs' z
            . rw[Aj.mp z];exact⟨e,Ai he,hcl⟩
    . rintro σ H6 ⟨o4,o5,o6,o7,rfl,s6,e6,kt6,kvs,rs,ESS,R,d6,p6,hR,hP,hkv,hkl,hall,hbe⟩;rw[hv5.1,AS]at hall;have hrl:rs.length<=120:=by rw[hR.1];exact A3 hP.few hlen
      have ge:∀(i:Nat) r,R[i]?=some r->R.getD i ⟨"",0,0,[]⟩=r:=λi r h=>by simp only[BK,h,Option.getD_some]
      refine⟨_,rfl,p,rs,λi=>keyV (R.getD i ⟨"",0,0,[]⟩),λi=>keyI (R.getD i ⟨"",0,0,[]⟩),rfl,SqL.of p6,by lia,λi x H7 hx s7=>?_,
        λi j hi hj=>⟨_,_,_,_,_,_,rfl,rfl,.cons (.int _ _) (.cons (.bl _ _) .nil),rfl,rfl⟩,λpp D H7 hpm hpo hD s7 f7=>?_⟩
      . obtain⟨r,hr',hx'⟩:=hR.at hx;refine⟨x,r,rfl,hx'.kt (KT.of s7),λq H8 hq s8 f8=>⟨s8,q,rfl,SqT.of ?_⟩⟩;show H8 q=some (HO.tup (keyV (R.getD i ⟨"",0,0,[]⟩)));rw[ge i r hr'];exact f8
      . have hpl:pp.length=R.length:=by rw[hpm.length_eq,List.length_range,hR.1]
        have hlt:∀i∈pp,i<R.length:=λi hi=>by have:=D9.mp (hpm.mem_iff.mp hi);rw[hR.1]at this;exact this
        have hRR:(pp.map λi=>R.getD i ⟨"",0,0,[]⟩).Perm R:=by
          have h1:=hpm.map λi=>R.getD i (⟨"",0,0,[]⟩:Rnd)
          rw[hR.1]at h1
          have h2:((BS R.length).map λi=>R.getD i (⟨"",0,0,[]⟩:Rnd))=R:=by
            apply List.ext_getElem
            . simp
            . intro i a b;simp[show i<R.length by simpa using a]
          rw[h2]at h1;exact h1
        have vR:VR (pp.map λi=>rs.getD i V.non) (pp.map λi=>R.getD i ⟨"",0,0,[]⟩) rR H7:=by
          refine⟨by simp,λi r v h1 h2=>?_⟩;rw[AF]at h1 h2;obtain⟨a,ha,rfl⟩:=BN.mp h1;rw[ha]at h2
          cases h2
          have hal:=hlt a (Ai ha);have hal2:a<rs.length:=by rw[hR.1];exact hal
          have e1:R.getD a ⟨"",0,0,[]⟩=R[a]:=by simp[hal]
          have e2:rs.getD a V.non=rs[a]:=by simp[hal2]
          rw[e1];show rR R[a] (rs.getD a V.non) H7;rw[e2];exact (hR.2 a _ _ (Aa hal) (Aa hal2)).kt (KT.of s7)
        refine k D H7 _ _ R (s6.free hD) (s6.trans s7) f7 vR hRR ?_ ⟨ESS,hP,hall,hbe⟩
        rw[List.pairwise_map];exact hpo
theorem zjV (T:Txt P w K mg) (g_ask_picture:Fn P w K mg base 2 "ask_picture" ["picture"] (spAsk K)) (g_cell_table:Fn P w K mg base 1 "cell_table" ["picture"] (zfo K)) (g_all_edges:Fn P w K mg base 3 "all_edges" ["picture"] (zlF K))
  (g_rounds_along:Fn P w K mg base 6 "rounds_along" ["table","edges"] (zcf K))
  (d:Df K mg "rounds" zfw ["picture"]):FnOk P w K mg base CX0 7 d.f d.fd ["picture"] (zfp K):=by
 refine d.F.ok zjy (λvs H Q E h=>?_) (λcdv A outer s H vs Q E hr h=>?_)
 .obtain⟨a,cs,rfl,_⟩:=h;rfl
 .obtain⟨a,cs,rfl,hLR,hord,hlen,k⟩:=h;have hu1:=hu_of hr
  refine⟨_,(zac (zbS (pC g_ask_picture hr (pa_N (pv 0) zab)))
   (zae (zaj (pC g_rounds_along hr (zah (pC g_cell_table hr (pa_N (pv 0) zab)) (zah (pC g_all_edges hr (pa_N (pv 0) zab)) zab)))))),?_⟩
  refine⟨_,rfl,a,cs,rfl,hLR,hord,by lia,λH1 s1=>?_⟩;have hLR1:=hLR.same s1 λx v hx=>hx.same s1
  refine⟨_,rfl,a,cs,rfl,hLR1,by lia,λt H2 ht s2 tab=>?_⟩;refine⟨_,rfl,a,cs,rfl,hLR1.same s2 (λx v hx=>hx.same s2),by lia,λpe H5 es hpe s5 e5 hv5=>?_⟩;refine⟨t,pe,cs,es,allE cs,rfl,tab.same s5,e5,hv5,(λe he=>zii.mp he),hlen,λp H' rs R R0 hp sp f1 f2 f3 f4 f5=>?_⟩;obtain⟨ESS,g1,g2,_⟩:=f5;exact k p H' rs R R0 (s1.free (s2.free (s5.free hp))) (s1.trans (s2.trans (s5.trans sp))) f1 f2 f3 f4 ⟨ESS,g1,λe=>⟨g1.isE e,λh=>g2 e (zii.mpr h)⟩⟩
theorem _root_.RP.Closed.uniq{C:Cell->Bool}{b:Edge}{es fs:List Edge}(h:Closed C b es)(k:Closed C b fs):es=fs:=by
 have lt:∀{es fs:List Edge},Closed C b es->Closed C b fs->¬ es.length<fs.length:=λ{es fs} h k hl=>by have e:=h.it_len;have hp:=h.pos;have g1:=k.1.get es.length hl;have g2:=k.1.get 0 (by lia);rw[e]at g1;have:=(CZ (i:=es.length) (j:=0) hl k.1.2.2.2).mp (by rw[g1,g2];rfl);lia
 have hl:es.length=fs.length:=by have:=lt h k;have:=lt k h;lia
 apply List.ext_getElem?
 intro i;rcases AY i es.length with hi |hi
 .rw[h.1.get i hi,k.1.get i (by lia)]
 .rw[Dq hi,Dq (by lia)]
theorem zfx{α:Type}(l:List α)(j:Nat):(l.drop j++l.take j).Perm l:=by have:=CQ (l₁:=l.drop j) (l₂:=l.take j);rw[CP]at this;exact this
theorem _root_.RP.Closed.share{C:Cell -> Bool}{b c e:Edge}{es fs:List Edge}(h:Closed C b es)(k:Closed C c fs)(h1:e ∈ es)(h2:e ∈ fs) :
  ∃i j,es[i]?=some e/\fs[j]?=some e/\es.drop i++es.take i=fs.drop j++fs.take j:=by
 obtain⟨i,hi,ei⟩:=AE h1;obtain⟨j,hj,ej⟩:=AE h2;have a1:es[i]?=some e:=by rw[Aa hi,ei]
 have a2:fs[j]?=some e:=by rw[Aa hj,ej]
 exact⟨i,j,a1,a2,(h.rot i a1).uniq (k.rot j a2)⟩
theorem _root_.RP.Closed.perm{C:Cell->Bool}{b c e:Edge}{es fs:List Edge}(h:Closed C b es)(k:Closed C c fs)(h1:e∈es)(h2:e∈fs):es.Perm fs:=by obtain⟨i,j,_,_,q⟩:=h.share k h1 h2;exact (zfx es i).symm.trans (q ▸ zfx fs j)
theorem zdI{C:Cell->Bool}(es:List Edge):(wk C es).map (·.1)=es:=by unfold wk;rw[List.map_map];exact List.map_id' _
theorem ze6{C:Cell->Bool}{es fs:List Edge}(p:es.Perm fs):sortS (wk C es)=sortS (wk C fs):=by have q:(wk C es).Perm (wk C fs):=p.map _;unfold sortS nL nS;have a:=(q.filter λq=>q.2.isNone).length_eq;have b:=(q.filter λq=>slant q.2).length_eq;rw[a,b]
theorem lex2{a b c d:Int}(h1:HT.lexLt [a,b] [c,d]=false)(h2:HT.lexLt [c,d] [a,b]=false):a=c/\b=d:=by have:=HT.lexLt_total h1 h2;simpa using this
theorem zct.one{W W':Wk}{s:Str}{e f:Edge}(p:(W.map (·.1)).Perm (W'.map (·.1)))(h:zct W s e)(k:zct W' s f):e=f:=by obtain⟨h1,h2,h3⟩:=h;obtain⟨k1,k2,k3⟩:=k;have a:=h3 f (p.mem_iff.mpr k1) k2;have b:=k3 e (p.mem_iff.mp h1) h2;obtain⟨q1,q2⟩:=lex2 a b;obtain⟨⟨x,y⟩,w⟩:=e;obtain⟨⟨x',y'⟩,w'⟩:=f;simp only at q1 q2 h2 k2;rw[h2,k2,q1,q2]
theorem IsRnd.one{C:Cell->Bool}{b c e:Edge}{es fs:List Edge}{r q:Rnd}(h:Closed C b es)(k:Closed C c fs)(h1:e∈es)(h2:e∈fs)(hr:IsRnd (wk C es) r)(hq:IsRnd (wk C fs) q):r=q:=by
 have p:=h.perm k h1 h2;obtain⟨r0,i,f,rf,rb,rx,ry,rr⟩:=hr;obtain⟨q0,j,g,qg,qb,qx,qy,qr⟩:=hq;have ss:=ze6 (C:=C) p;rw[<- ss]at qb;have fg:f=g:=rb.one (by rw[zdI,zdI];exact p) qb;subst fg;rw[zdI]at rf qg;have e1:=(h.rot i rf).uniq (k.rot j qg)
 have e2:(wk C es).drop i++(wk C es).take i=(wk C fs).drop j++(wk C fs).take j:=by unfold wk;rw[<- List.map_drop,<- List.map_take,<- A6,e1,A6,List.map_drop,List.map_take]
 obtain⟨a1,a2,a3,a4⟩:=r;obtain⟨b1,b2,b3,b4⟩:=q;simp only at r0 rx ry rr q0 qx qy qr;rw[r0,q0,rx,ry,rr,qx,qy,qr,ss,e2]
noncomputable def begE(r:Rnd):Edge:=⟨(r.x,r.y),kOf r.so⟩
theorem IsRnd.beg {C:Cell->Bool}{es:List Edge}{r:Rnd}(h:IsRnd (wk C es) r):begE r∈es/\(r.so = "rim" ∨ r.so = "hole"):=by
 obtain⟨r0,i,f,rf,⟨rb,rw',_⟩,rx,ry,rr⟩:=h;rw[zdI]at rb;refine⟨?_,by rw[r0];exact zdj _⟩
 have:begE r=f:=by obtain⟨⟨x,y⟩,w⟩:=f;unfold begE;rw[rx,ry,r0];simp only at rw' ⊢;rw[rw']
 rw[this];exact rb
theorem Part.got{C:Cell->Bool}{ESS:List (List Edge)}{R:List Rnd}(h:Part C ESS R){i:Nat}{r:Rnd}(hr:R[i]?=some r):∃es b,ESS[i]?=some es/\Closed C b es/\IsRnd (wk C es) r:=by have hi:=(Ad.mp hr).1;rw[h.len]at hi;obtain⟨⟨b,hb⟩,q⟩:=h.each i _ r (Aa hi) hr;exact⟨_,b,Aa hi,hb,q⟩
theorem zll{α:Type}{L:List (List α)}(h:L.flatten.Nodup):∀{i j:Nat}{a b:List α}{x:α},L[i]?=some a->L[j]?=some b->x∈a->x∈b->i=j:=by
 induction L with
 |nil=>intro i j a b x h1;simp at h1
 |cons l r ih =>
  rw[BA,Dt]at h;obtain⟨_,h2,h3⟩:=h;intro i j a b x h1 h4 xa xb
  cases i with
  |zero =>
   cases j with
   |zero=>rfl
   |succ j =>
    simp only[List.getElem?_cons_zero,Option.some.injEq,C6]at h1 h4;subst h1;exact absurd rfl (h3 x xa x (List.mem_flatten.mpr ⟨b,Ai h4,xb⟩))
  |succ i =>
   cases j with
   |zero =>
    simp only[List.getElem?_cons_zero,Option.some.injEq,C6]at h1 h4;subst h4;exact absurd rfl (h3 x xb x (List.mem_flatten.mpr ⟨a,Ai h1,xa⟩))
   |succ j =>
    have:=ih h2 (i:=i) (j:=j) (by simpa using h1) (by simpa using h4) xa xb;rw[this]
theorem Part.beg_inj{C:Cell->Bool}{ESS:List (List Edge)}{R:List Rnd}(h:Part C ESS R){i j:Nat}{r q:Rnd}(hr:R[i]?=some r)(hq:R[j]?=some q)(e:begE r=begE q):i=j:=by obtain⟨es,b,h1,h2,h3⟩:=h.got hr;obtain⟨fs,c,k1,k2,k3⟩:=h.got hq;exact zll h.nd h1 k1 h3.beg.1 (e ▸ k3.beg.1)
theorem Part.so {C:Cell->Bool}{ESS:List (List Edge)}{R:List Rnd}(h:Part C ESS R){r:Rnd}(hr:r∈R):r.so = "rim" ∨ r.so = "hole":=by obtain⟨i,hi,ei⟩:=AE hr;obtain⟨es,b,h1,h2,h3⟩:=h.got (by rw[Aa hi,ei]);exact h3.beg.2
theorem Whole.mem{cs:List Cell}{R S:List Rnd}(h:Whole cs R)(k:Whole cs S){r:Rnd}(hr:r∈R):r∈S:=by
 obtain⟨E,h1,h2⟩:=h;obtain⟨F,k1,k2⟩:=k;obtain⟨i,hi,ei⟩:=AE hr;obtain⟨es,b,a1,a2,a3⟩:=h1.got (by rw[Aa hi,ei]);have m:=a3.beg.1;obtain⟨fs,f1,f2⟩:=Ea.mp ((k2 _).mpr (a2.1.2.2.1 _ m));obtain⟨j,hj,ej⟩:=AE f1;have hjs:j<S.length:=by rw[k1.len];exact hj
 obtain⟨⟨c,hc⟩,q⟩:=k1.each j fs S[j] (by rw[Aa hj,ej]) (Aa hjs);rw[IsRnd.one a2 hc m f2 a3 q];exact Bx _
theorem zmx {r q:Rnd}(hr:r.so = "rim" ∨ r.so = "hole") (hq:q.so = "rim" ∨ q.so = "hole") (h:keyI r=keyI q):begE r=begE q:=by obtain⟨a1,a2,a3,a4⟩:=r;obtain⟨b1,b2,b3,b4⟩:=q;simp only[keyI,List.cons.injEq,and_true]at h;obtain⟨h1,h2,h3⟩:=h;subst h1 h2;unfold begE;simp only at hr hq h3 ⊢;have n:decide (V.str "rim" = V.str "hole")=false:=decide_eq_false (by decide);have y:decide (V.str "hole" = V.str "hole")=true:=decide_eq_true rfl;rcases hr with rfl |rfl <;> rcases hq with rfl |rfl <;> first |rfl | (rw[n,y]at h3;exact absurd h3 (by decide))
theorem zmw{r q:Rnd}(h1:HT.lexLt (keyI r) (keyI q)=false)(h2:HT.lexLt (keyI q) (keyI r)=false):keyI r=keyI q:=HT.lexLt_total h1 h2
noncomputable abbrev InKey(R:List Rnd):Prop:=R.Pairwise (λr q=>HT.lexLt (keyI q) (keyI r)=false)
theorem InKey.one:∀{R S:List Rnd},InKey R->InKey S->(∀r,r∈R ↔ r∈S)->R.Nodup->S.Nodup->(∀r∈R,∀q∈R,keyI r=keyI q->r=q)->R=S
  |[],[],_,_,_,_,_,_=>rfl
  |[],q::S,_,_,h,_,_,_=>by have:=(h q).mpr Ax;cases this
  |r::R,[],_,_,h,_,_,_=>by have:=(h r).mp Ax;cases this
  |r::R,q::S,h1,h2,h,n1,n2,kj=>by
    obtain⟨a1,a2⟩:=Dh.mp h1;obtain⟨b1,b2⟩:=Dh.mp h2
    have e:r=q:=by
      rcases AG.mp ((h r).mp Ax) with z |z
      . exact z
      rcases AG.mp ((h q).mpr Ax) with y |y
      . exact y.symm
      . exact kj r Ax q (Aq _ y) (zmw (b1 r z) (a1 q y))
    subst e;have m1:=BJ.mp n1;have m2:=BJ.mp n2
    rw[InKey.one a2 b2 (λx => ⟨λhx => by
        rcases AG.mp ((h x).mp (Aq _ hx)) with z |z
        . rw[z]at hx;exact absurd hx m1.1
        . exact z,λhx=>by
        rcases AG.mp ((h x).mpr (Aq _ hx)) with z |z
        . rw[z]at hx;exact absurd hx m2.1
        . exact z⟩) m1.2 m2.2 λx hx y hy=>kj x (Aq _ hx) y (Aq _ hy)]
theorem Part.nodup{C:Cell->Bool}{ESS:List (List Edge)}{R:List Rnd}(h:Part C ESS R):R.Nodup:=by unfold List.Nodup;rw[BL];intro i j hi hj hij e;have:=h.beg_inj (i:=i) (j:=j) (r:=R[j]) (q:=R[j]) (by rw[Aa hi,e]) (Aa hj) rfl;lia
theorem Part.key_inj{C:Cell->Bool}{ESS:List (List Edge)}{R:List Rnd}(h:Part C ESS R):∀r∈R,∀q∈R,keyI r=keyI q->r=q:=by intro r hr q hq e;have be:=zmx (h.so hr) (h.so hq) e;obtain⟨i,hi,ei⟩:=AE hr;obtain⟨j,hj,ej⟩:=AE hq;have:=h.beg_inj (i:=i) (j:=j) (by rw[Aa hi,ei]) (by rw[Aa hj,ej]) be;subst this;rw[<- ei,<- ej]
theorem Whole.one{cs:List Cell}{R R0 S S0:List Rnd}(p:R.Perm R0)(q:S.Perm S0)(hR:InKey R)(hS:InKey S)(h:Whole cs R0)(k:Whole cs S0):R=S:=by
 obtain⟨E,h1,h2⟩:=id h;obtain⟨F,k1,k2⟩:=id k;refine InKey.one hR hS (λr=>⟨λm=>q.mem_iff.mpr (h.mem k (p.mem_iff.mp m)),λm=>p.mem_iff.mpr (k.mem h (q.mem_iff.mp m))⟩) (p.nodup_iff.mpr h1.nodup) (q.nodup_iff.mpr k1.nodup) ?_
 exact λr hr q hq=>h1.key_inj r (p.mem_iff.mp hr) q (p.mem_iff.mp hq)
theorem ziB(s:Nat):∀(l:List Nat) (w:Nat),dgo w (l++[s])=((dgo w l).1++(Ah ((zbg s+4-(dgo w l).2) % 4) none++[some s]),wayB s)
 |[],w=>by simp[dgo]
 |a::l,w=>by
  have ih:=ziB s l (wayB a);show (Ah ((zbg a+4-w) % 4) none++some a::(dgo (wayB a) (l++[s])).1,(dgo (wayB a) (l++[s])).2)=_;rw[ih];show _=((Ah ((zbg a+4-w) % 4) none++some a::(dgo (wayB a) l).1)++_,_);simp;rfl
theorem zf3:∀(l:List Nat) (w:Nat),(dgo w l).1.length<=4*l.length
 |[],w=>by simp[dgo]
 |a::l,w=>by
  have ih:=zf3 l (wayB a);show (Ah ((zbg a+4-w) % 4) none++some a::(dgo (wayB a) l).1).length<=_;have:(zbg a+4-w) % 4<4:=B9 _ (by decide);simp only[Am,Cg,A4];lia
theorem zhG:∀(l:List Nat) (w:Nat),w<4->(dgo w l).2<4
 |[],w,h=>h
 |a::l,w,h=>zhG l (wayB a) (B9 _ (by decide))
theorem zjc(s:Nat):zbg s<4:=B9 _ (by decide)
theorem zit(n:Nat):(Ah n [V.non]).flatten=(Ah n (none:Option Nat)).map sv:=by
 induction n with
 |zero=>rfl
 |succ n ih=>rw[CB,BA,ih];rfl
theorem zbh{n:Nat}(h:n<=5000):n<sizeLine:=Nat.lt_of_le_of_lt h (by decide)
theorem zlO:1<=sizeLine:=by decide
noncomputable def zgr:Sp:=λvs H Q _=>∃(v:V) (r:Rnd),vs=[v]/\rR r v H/\(r.so = "rim" ∨ r.so = "hole")/\∀p H',H p=none->Same H H'->H' p=some (.tup (edgeT (begE r)))->Q (.ref p) H'
theorem zfK (T:Txt P w K mg) (d:Df K mg "begin_edge" zcB ["one"]):FnOk P w K mg base CX0 1 d.f d.fd ["one"] zgr:=by
 refine d.F.ok zbm (λvs H Q E h=>?_) (λcdv A outer s H vs Q E hr h=>?_)
 .obtain⟨v,r,rfl,_⟩:=h;rfl
 .obtain⟨v,r,rfl,⟨a,b,rfl,q1,q2⟩,hso,k⟩:=h
  refine⟨_,(zac (zbD (pv 0) (zbk (by rfl) (zag (nG 1 zbm.nd) (zag (nG 2 zbm.nd) (zag (nG 3 zbm.nd) (zag (nG 4 zbm.nd) zaA))))))
   (zae (zaj (zas (pa_N (pv 2) (pa_N (pv 3) (zah (zjJ (by rfl) T.ways (pv 1)) zab))))))),?_⟩
  refine⟨_,rfl,a,_,rfl,SqT.of q1,rfl,_,_,rfl,_,_,rfl,_,_,rfl,_,_,rfl,rfl,?_⟩;refine⟨_,rfl,_,rfl,_,rfl,?_⟩;rcases hso with e |e
  .refine .inl ⟨by rw[e],three,λp hp=>k p _ hp (Same.up hp) ?_⟩;rw[zaa];unfold begE edgeT kOf;simp only[e];rfl
  .refine .inr ⟨by rw[e],three,λp hp=>k p _ hp (Same.up hp) ?_⟩;rw[zaa];unfold begE edgeT kOf;simp only[e];rfl
noncomputable def zhW:Sp:=λvs H Q _=>∃s:Nat,vs=[.int s]/\Q (.int (zbg s:Nat)) H
theorem ziT (d:Df K mg "way_for" zed ["step"]):FnOk P w K mg base CX0 1 d.f d.fd ["step"] zhW:=by
 refine d.F.ok ziP (λvs H Q E h=>?_) (λcdv A outer s H vs Q E hr h=>?_)
 .obtain⟨s,rfl,_⟩:=h;rfl
 .obtain⟨t,rfl,k⟩:=h;refine⟨_,(zae (zaj (pe_op zbr (pe_op zjR (pe_op za3 (pv 0) zaf) zaf) zaf))),?_⟩;refine⟨_,rfl,_,_,rfl,rfl,_,_,rfl,rfl,⟨by decide,by decide⟩,_,_,rfl,rfl,(by show (0:Int)<4;decide),?_⟩;have e:((t:Int)+1) / 2 % 4=(zbg t:Nat):=by unfold zbg;lia
  show Q (V.int (((t:Int)+1) / 2 % 4)) H;rw[e];exact k
noncomputable def zjt(K:W.Frag):Sp:=λvs H Q _=>∃(wn:Nat) (b:Addr) (row:List Nat),vs=[.int (wn:Int),.ref b]/\wn<4/\SqT K H b (rowV row)/\row.length<=500 /\
 ∀p H',H p=none->Same H H'->H' p=some (.lst ((deeds wn row).map sv))->Q (.ref p) H'
theorem zeO (g_way_for:Fn P w K mg base 1 "way_for" ["step"] zhW) (d:Df K mg "deeds_along" zcm ["begin_way","row"]):FnOk P w K mg base CX0 2 d.f d.fd ["begin_way","row"] (zjt K):=by
 refine d.F.ok za0 (λvs H Q E h=>?_) (λcdv A outer s H vs Q E hr h=>?_)
 .obtain⟨wn,b,row,rfl,_⟩:=h;rfl
 .obtain⟨wn,b,row,rfl,hw,hq,hlen,k⟩:=h
  refine⟨_,(zac (sE 2 za0.nd (pv 0))
   (zac (sE 3 za0.nd (zaV zab))
   (zac (zcb By rfl (zia (pv 1)) (nG 4 za0.nd)
   (zac (zbS (pe_bm Bh PySem.F.slot_list_extend PySem.F.type_list_extend zj1 (pv 3) (pa_B (pe_op zjO (zaV (pa_C zbp zab)) (pe_op zbr (pe_op zbv (pC g_way_for hr (pa_N (pv 4) zab)) (pv 2)) zaf)) zab)))
   (zac (zbS (pe_bm Bh Bm Bo zbb (pv 3) (pa_N (pv 4) zab)))
   (zae (sE 2 za0.nd (pe_op zbr (pe_op zbv (pC g_way_for hr (pa_N (pv 4) zab)) (pe_op zbr (pv 4) zaf)) zaf))))))
   (zac (sE 5 za0.nd (zdY (zkT (pv 1) (λ_=>rfl)) (pe_op zbr (pe_op zbv (pv 0) (pv 2)) zaf) zaf))
   (zae (zaj (pe_op zgK (pv 3) (pe_op zjO (zaV (pa_C zbp zab)) (pv 5))))))))),?_⟩
  refine⟨_,rfl,(by show 0<=sizeLine;decide),λp hp=>?_⟩;have s0:Same H (upd H p (.lst [])):=Same.up hp;have e0:upd H p (.lst []) p=some (.lst []):=zaa;generalize upd H p (.lst [])=H0 at s0 e0;refine⟨_,rfl,b,rfl,⟨_,s0.seqT hq⟩,?_⟩;have hrl:(rowV row).length=row.length:=by unfold rowV;exact Ap _
  refine zfZ (K:=K) (a:=b) (xs:=rowV row) (λi σ H1=>∃o4 o5,σ=[some (.int (wn:Int)),some (.ref b),some (.int ((dgo wn (row.take i)).2:Nat)),some (.ref p),o4,o5]/\Same H H1/\H1 p=some (.lst ((dgo wn (row.take i)).1.map sv)))
   ⟨_,_,rfl,s0,e0⟩ (λi σ H1 _ ⟨_,_,_,s1,_⟩=>s1.seqT hq) ?_ ?_
  .rintro i v σ H1 hi ⟨o4,o5,rfl,s1,e1⟩;have hi':i<row.length:=by rw[<- hrl];exact (Ad.mp hi).1
   unfold rowV at hi;rw[AF,Aa hi']at hi
   cases hi
   have hdl:=zf3 (row.take i) wn;rw[AR]at hdl;have hdw:=zhG (row.take i) wn hw;have hwf:=zjc row[i];have hn:=ziB row[i] (row.take i) wn;rw[<- zaH (Aa hi')]at hn;refine⟨_,rfl,.inl ⟨rfl,_,SqL.of e1⟩,zlO,λl hl=>?_⟩;have s2:Same H1 (upd H1 l (.lst [.non])):=Same.up hl;have e2:upd H1 l (.lst [.non]) l=some (.lst [.non]):=zaa;generalize upd H1 l (.lst [.non])=H2 at s2 e2;refine⟨_,rfl,row[i],rfl,?_⟩;refine⟨_,rfl,_,_,rfl,rfl,_,_,rfl,rfl,(by show (0:Int)<4;decide),?_⟩;have ek:(((zbg row[i]:Nat):Int)-((dgo wn (row.take i)).2:Nat)) % 4=(((zbg row[i]+4-(dgo wn (row.take i)).2) % 4:Nat):Int):=by lia
   have k4:(zbg row[i]+4-(dgo wn (row.take i)).2) % 4<4:=B9 _ (by decide);generalize hk:(zbg row[i]+4-(dgo wn (row.take i)).2) % 4=kk at *;refine⟨l,(kk:Int),_,rfl,congrArg V.int ek,e2,by lia,by lia,(B6 (zak (by simp;lia))),λq hq'=>?_⟩;rw[Dv,zit];have s3:Same H2 (upd H2 q (.lst ((Ah kk (none:Option Nat)).map sv))):=Same.up hq';have e3:upd H2 q (.lst ((Ah kk (none:Option Nat)).map sv)) q=some (.lst ((Ah kk (none:Option Nat)).map sv)):=zaa;have hpq:p≠q:=λz=>by subst z;rw[s2 _ _ e1]at hq';cases hq'
   generalize upd H2 q (.lst ((Ah kk (none:Option Nat)).map sv))=H3 at s3 e3;have e13:=s3 _ _ (s2 _ _ e1);refine⟨p,q,_,_,rfl,rfl,e13,e3,?_,?_⟩
   .simp only[Ap,Cg];exact B6 (zbh (by lia))
   have hp2:H p=none:=hp;have s4:Same H (upd H3 p (.lst ((dgo wn (row.take i)).1.map sv++(Ah kk (none:Option Nat)).map sv))):=zar hp2 (s1.trans (s2.trans s3));have e4:upd H3 p (.lst ((dgo wn (row.take i)).1.map sv++(Ah kk (none:Option Nat)).map sv)) p=some (.lst ((dgo wn (row.take i)).1.map sv++(Ah kk (none:Option Nat)).map sv)):=zaa;generalize upd H3 p (.lst ((dgo wn (row.take i)).1.map sv++(Ah kk (none:Option Nat)).map sv))=H4 at s4 e4;refine⟨_,rfl,.inl ⟨rfl,_,SqL.of e4⟩,_,rfl,p,_,_,rfl,rfl,e4,?_,?_⟩
   .simp only[Am,Ap,Cg];exact zbh (by lia)
   have s5:Same H (upd H4 p (.lst (((dgo wn (row.take i)).1.map sv++(Ah kk (none:Option Nat)).map sv)++[V.int (row[i]:Nat)]))):=zar hp2 s4
   have e5:upd H4 p (.lst (((dgo wn (row.take i)).1.map sv++(Ah kk (none:Option Nat)).map sv)++[V.int (row[i]:Nat)])) p=some (.lst ((dgo wn (row.take (i+1))).1.map sv)):=by rw[zaa,hn];simp[sv]
   generalize upd H4 p (.lst (((dgo wn (row.take i)).1.map sv++(Ah kk (none:Option Nat)).map sv)++[V.int (row[i]:Nat)]))=H5 at s5 e5;refine⟨_,rfl,row[i],rfl,?_⟩;refine⟨_,rfl,_,_,rfl,rfl,(by show (0:Int)<2;decide),_,_,rfl,rfl,_,_,rfl,rfl,(by show (0:Int)<4;decide),?_⟩
   have ew:(((zbg row[i]:Nat):Int)-(row[i]:Int) % 2) % 4=((dgo wn (row.take (i+1))).2:Nat):=by rw[hn];show _=((wayB row[i]:Nat):Int);unfold wayB;lia
   refine⟨some (V.int (row[i]:Nat)),o5,?_,s5,e5⟩;exact congrArg (λz:Int=>[some (V.int (wn:Int)),some (V.ref b),some (V.int z),some (V.ref p),some (V.int (row[i]:Nat)),o5]) ew
  .rintro σ H1 ⟨o4,o5,rfl,s1,e1⟩;rw[hrl,AS]at e1;rw[hrl,AS];have hdl:=zf3 row wn;have hdw:=zhG row wn hw
   have fin:∀z:Int,z=(zaN wn row:Nat)->tRet (tOp rCat (tVar 3) (tOp rRep (tLst (tCons (tC .non) tNil)) (tVar 5))) { nx:=λ_ H'=>Q .non H',rt:=Q } [some (.int (wn:Int)),some (.ref b),some (.int ((dgo wn row).2:Nat)),some (.ref p),o4,some (.int z)] H1:=λz hz=>by
    have hll:zaN wn row<=4:=by
     unfold zaN;split
     .decide
     .exact B6 (B9 _ (by decide))
    refine⟨_,rfl,zlO,λl hl=>?_⟩;have s2:Same H1 (upd H1 l (.lst [.non])):=Same.up hl;have e2:upd H1 l (.lst [.non]) l=some (.lst [.non]):=zaa;generalize upd H1 l (.lst [.non])=H2 at s2 e2;subst hz;refine⟨_,rfl,l,_,_,rfl,rfl,e2,by lia,by lia,(B6 (zak (by simp;lia))),λq hq'=>?_⟩;rw[Dv,zit];have s3:Same H2 (upd H2 q (.lst ((Ah (zaN wn row) (none:Option Nat)).map sv))):=Same.up hq';have e3:upd H2 q (.lst ((Ah (zaN wn row) (none:Option Nat)).map sv)) q=some (.lst ((Ah (zaN wn row) (none:Option Nat)).map sv)):=zaa;generalize upd H2 q (.lst ((Ah (zaN wn row) (none:Option Nat)).map sv))=H3 at s3 e3;refine⟨p,q,_,_,rfl,rfl,s3 _ _ (s2 _ _ e1),e3,?_,λx hx=>?_⟩
    .simp only[Ap,Cg];exact B6 (zbh (by lia))
    .have s13:=s1.trans (s2.trans s3);refine k x _ (s13.free hx) (s13.trans (Same.up hx)) ?_
     rw[zaa];unfold deeds;rw[A6]
   refine⟨_,rfl,_,.inr (.inl ⟨_,s1.seqT hq,rfl⟩),?_⟩
   by_cases he:row=[]
   .exact iteN (by rw[he];rfl) (fin 4 (by rw[he];rfl))
   .refine iteY (by cases row with |nil=>exact absurd rfl he |cons x r=>rfl) ⟨_,rfl,_,rfl,_,_,rfl,rfl,_,_,rfl,rfl,(by show (0:Int)<4;decide),fin _ ?_⟩
    have hl:zaN wn row=(wn+4-(dgo wn row).2) % 4:=by unfold zaN;rw[if_neg (by simpa using he)]
    rw[hl];lia
noncomputable def wby:Edge->List (Option Nat)->List (Edge×Option Nat)
 |_,[]=>[]
 |e,d::r=>(e,d)::wby (edgeB e d) r
noncomputable def eAt:Edge->List (Option Nat)->Edge
 |e,[]=>e
 |e,d::r=>eAt (edgeB e d) r
theorem ziz(d:Option Nat):∀(l:List (Option Nat)) (e:Edge),eAt e (l++[d])=edgeB (eAt e l) d
 |[],_=>rfl
 |_::l,e=>ziz d l _
theorem zhN(d:Option Nat):∀(l:List (Option Nat)) (e:Edge),wby e (l++[d])=wby e l++[(eAt e l,d)]
 |[],_=>rfl
 |a::l,e=>by
  show (e,a)::wby (edgeB e a) (l++[d])=_;rw[zhN d l];rfl
theorem ze0:∀(l:List (Option Nat)) (e:Edge),(wby e l).length=l.length
 |[],_=>rfl
 |a::l,e=>by show (wby (edgeB e a) l).length+1=_;rw[ze0 l];rfl
theorem zln{e:Edge}{o:Option Nat}(h:e.w<4):(edgeB e o).w<4:=by
 unfold edgeB
 cases o with
 |none=>exact B9 _ (by decide)
 |some s=>simp only;split <;> simp only <;> lia
theorem zlR:∀(l:List (Option Nat)){e:Edge},e.w<4->(eAt e l).w<4
 |[],_,h=>h
 |_::l,_,h=>zlR l (zln h)
theorem zgf{C:Cell->Bool}:∀(es:List Edge){b:Edge},es[0]?=some b∨es=[]->(∀i e f,es[i]?=some e->es[i+1]?=some f->f=nxt C e)->wby b (es.map (stepB C))=wk C es
 |[],_,_,_=>rfl
 |e::r,b,h0,hs=>by
  have hb:e=b:=by rcases h0 with h |h;simpa using h;cases h
  subst hb;show (e,stepB C e)::wby (nxt C e) (r.map (stepB C))=(e,stepB C e)::wk C r;rw[zgf r (b:=nxt C e) ?_ λi x y h1 h2=>hs (i+1) x y (by simpa using h1) (by simpa using h2)]
  cases r with
  |nil=>exact .inr rfl
  |cons f r=>exact .inl (by have:=hs 0 e f rfl rfl;rw[<- this];rfl)
noncomputable def zhY(K:W.Frag):Sp:=λvs H Q _=>∃(a l:Addr) (b:Edge) (ds:List (Option Nat)),vs=[.ref a,.ref l]/\H a=some (.tup (edgeT b))/\b.w<4/\H l=some (.lst (ds.map sv))/\(∀s,some s∈ds->s<8)/\ds.length<=3000 /\
 ∀p H' ws,H p=none->Same H H'->H' p=some (.lst ws)->VR ws (wby b ds) wR H'->Q (.ref p) H'
theorem ziV (g_edge_behind:Fn P w K mg base 2 "edge_behind" ["edge","step"] (zd6 K)) (d:Df K mg "walk_by" zef ["begin","deeds"]):FnOk P w K mg base CX0 3 d.f d.fd ["begin","deeds"] (zhY K):=by
 refine d.F.ok zb8 (λvs H Q E h=>?_) (λcdv A outer s H vs Q E hr h=>?_)
 .obtain⟨a,l,b,ds,rfl,_⟩:=h;rfl
 .obtain⟨a,l,b,ds,rfl,ha,hb,hl,h8,hlen,k⟩:=h
  refine⟨_,(zac (sE 2 zb8.nd (zaV zab))
   (zac (sE 3 zb8.nd (pv 0))
   (zac (zcb By rfl (zaz (pv 1)) (nG 4 zb8.nd)
   (zac (zbS (pe_bm Bh Bm Bo zbb (pv 2) (pa_T (zas (pa_N (pv 3) (pa_N (pv 4) zab))) zab)))
   (zae (sE 3 zb8.nd (pC g_edge_behind hr (pa_N (pv 3) (pa_N (pv 4) zab)))))))
   (zae (zaj (pv 2)))))),?_⟩
  refine⟨(by show 0<=sizeLine;decide),λp hp=>?_⟩;have s0:Same H (upd H p (.lst [])):=Same.up hp;have e0:upd H p (.lst []) p=some (.lst []):=zaa;generalize upd H p (.lst [])=H0 at s0 e0;refine⟨_,rfl,_,rfl,l,rfl,⟨_,SqL.of (s0 _ _ hl)⟩,?_⟩
  refine zau (K:=K) (a:=l) (xs:=ds.map sv) (λi σ H1=>∃(c:Addr) (o4:Option V) (ws:List V),σ=[some (.ref a),some (.ref l),some (.ref p),some (.ref c),o4]/\Same H H1/\H1 c=some (.tup (edgeT (eAt b (ds.take i))))/\H1 p=some (.lst ws)/\VR ws (wby b (ds.take i)) wR H1)
   ⟨a,_,[],rfl,s0,s0 _ _ ha,e0,VR.nil⟩ (λi σ H1 _ ⟨_,_,_,_,s1,_⟩=>SqL.of (s1 _ _ hl)) ?_ ?_
  .rintro i v σ H1 hi ⟨c,o4,ws,rfl,s1,hc,e1,hv⟩;have hi':i<ds.length:=by have:=(Ad.mp hi).1;rwa [Ap]at this
   rw[AF,Aa hi']at hi
   cases hi
   have tk:=zaH (Aa hi');have wl:ws.length<=3000:=by rw[hv.1,ze0,AR];lia
   refine⟨_,rfl,.inl ⟨rfl,_,SqL.of e1⟩,_,rfl,_,rfl,two,λt ht=>?_⟩;have s2:Same H1 (upd H1 t (.tup [.ref c,sv ds[i]])):=Same.up ht;have e2:upd H1 t (.tup [.ref c,sv ds[i]]) t=some (.tup [.ref c,sv ds[i]]):=zaa;generalize upd H1 t (.tup [.ref c,sv ds[i]])=H2 at s2 e2;have e12:=s2 _ _ e1;refine⟨p,ws,_,rfl,rfl,e12,zbh (by lia),?_⟩;have kt3:KT H2 (upd H2 p (.lst (ws++[.ref t]))):=KT.lst e12;have s3:Same H (upd H2 p (.lst (ws++[.ref t]))):=zar hp (s1.trans s2);have e3:upd H2 p (.lst (ws++[.ref t])) p=some (.lst (ws++[.ref t])):=zaa;generalize upd H2 p (.lst (ws++[.ref t]))=H3 at kt3 s3 e3;have hc3:=kt3 _ _ (s2 _ _ hc);refine⟨_,rfl,_,rfl,c,eAt b (ds.take i),ds[i],rfl,SqT.of hc3,zlR _ hb,λz hz=>h8 z (hz ▸ Bx _),λq H4 hq s4 e4=>?_⟩;refine⟨q,_,ws++[.ref t],rfl,s3.trans s4,?_,s4 _ _ e3,?_⟩
   .rw[tk,ziz];exact e4
   .rw[tk,zhN];exact hv.snoc (λx v h=>((h.kt (KT.of s2)).kt kt3).kt (KT.of s4)) ⟨t,c,rfl,s4 _ _ (kt3 _ _ e2),s4 _ _ hc3⟩
  .rintro σ H1 ⟨c,o4,ws,rfl,s1,hc,e1,hv⟩;rw[Ap,AS]at hv;exact⟨_,rfl,k p H1 ws hp s1 e1 hv⟩
noncomputable def zd4(K:W.Frag):Sp:=λvs H Q _=>∃(a b:Addr) (e:Edge) (row:List Nat),vs=[.ref a,.ref b]/\H a=some (.tup (edgeT e))/\e.w<4/\SqT K H b (rowV row)/\row.length<=500/\(∀s,some s∈deeds e.w row->s<8) /\
 ∀p H' ws,H p=none->Same H H'->H' p=some (.lst ws)->VR ws (wby e (deeds e.w row)) wR H'->Q (.ref p) H'
theorem zfD (g_walk_by:Fn P w K mg base 3 "walk_by" ["begin","deeds"] (zhY K)) (g_deeds_along:Fn P w K mg base 2 "deeds_along" ["begin_way","row"] (zjt K)) (d:Df K mg "walk_along" zcw ["begin","row"]):FnOk P w K mg base CX0 4 d.f d.fd ["begin","row"] (zd4 K):=by
 refine d.F.ok zfs (λvs H Q E h=>?_) (λcdv A outer s H vs Q E hr h=>?_)
 .obtain⟨a,b,e,row,rfl,_⟩:=h;rfl
 .obtain⟨a,b,e,row,rfl,ha,hw,hq,hlen,h8,k⟩:=h;refine⟨_,(zae (zaj (pC g_walk_by hr (pa_N (pv 0) (zah (pC g_deeds_along hr (zah (pe_ix zbW (pv 0) zaf (λ_ _=>rfl)) (pa_N (pv 1) zab))) zab))))),?_⟩;refine⟨_,rfl,_,rfl,a,_,_,_,rfl,rfl,SqT.of ha,zay (j:=2) rfl,_,rfl,e.w,b,row,rfl,hw,hq,hlen,λp H1 hp s1 e1=>?_⟩
  have hd:(deeds e.w row).length<=3000:=by
   unfold deeds;have:=zf3 row e.w
   have:zaN e.w row<=4:=by
    unfold zaN;split
    .decide
    .exact B6 (B9 _ (by decide))
   simp only[Am,Cg];lia
  exact⟨a,p,e,_,rfl,s1 _ _ ha,hw,e1,h8,hd,λq H2 ws hq2 s2 e2 hv=>k q H2 ws (s1.free hq2) (s1.trans s2) e2 hv⟩
noncomputable def sR(q:Cell×Bool)(v:V)(H:Hp):Prop:=∃A b,v=.ref A/\H A=some (.tup [.ref b,.bl q.2])/\H b=some (.tup (cellT q.1))
theorem sR.kt{q:Cell×Bool}{v:V}{H H':Hp}(h:sR q v H)(s:KT H H'):sR q v H':=let ⟨A,b,e,q1,q2⟩:=h;⟨A,b,e,s _ _ q1,s _ _ q2⟩
noncomputable def zlC(K:W.Frag):Sp:=λvs H Q _=>∃(a:Addr) (C:Cell->Bool) (e:Edge),vs=[.ref a,sv (stepB C e)]/\H a=some (.tup (edgeT e))/\IsE C e /\
 ∀p H' ss L,H p=none->Same H H'->H' p=some (.lst ss)->VR ss L sR H'->(∀q∈L,C q.1=q.2)->L.length<=6->Q (.ref p) H'
theorem zek (g_edge_behind:Fn P w K mg base 2 "edge_behind" ["edge", "step"] (zd6 K)) (g_gap_beside:Fn P w K mg base 2 "gap_beside" ["edge"] (spGap K)) (g_is_slant:Fn P w K mg base 1 "is_slant" ["step"] zdi)
  (g_gone:Fn P w K mg base 1 "gone" ["x","y","step"] zgp) (g_slant_step:Fn P w K mg base 1 "slant_step" ["way"] zhh) (g_straight_step:Fn P w K mg base 1 "straight_step" ["way"] zdt)
  (d:Df K mg "seen_between" zb0 ["edge","step"]):FnOk P w K mg base CX0 3 d.f d.fd ["edge","step"] (zlC K):=by
 refine d.F.ok zaR (λvs H Q E h=>?_) (λcdv A outer s H vs Q E hr h=>?_)
 .obtain⟨a,C,e,rfl,_⟩:=h;rfl
 .obtain⟨a,C,e,rfl,ha,hE,k⟩:=h
  refine⟨_,(zac (zbD (pv 0) (zbk (by rfl) (zag (nG 2 zaR.nd) (zag (nG 3 zaR.nd) (zag (nG 4 zaR.nd) zaA)))))
   (zac (sE 5 zaR.nd (pC g_edge_behind hr (pa_N (pv 0) (pa_N (pv 1) zab))))
   (zac (sE 6 zaR.nd (zaV (pa_T (zas (pa_T (zas (pa_N (pv 2) (pa_N (pv 3) zab))) (pa_C pe_bl zab))) (pa_T (zas (zah (pC g_gap_beside hr (pa_N (pv 0) zab)) (pa_C pe_bl zab))) (pa_T (zas (zah (zdm zhj (pv 5) zfB (zdA zaf)) (pa_C pe_bl zab))) (pa_T (zas (zah (pC g_gap_beside hr (pa_N (pv 5) zab)) (pa_C pe_bl zab))) zab))))))
   (zac (ps_if (zej (zca (pC g_is_slant hr (pa_N (pv 1) zab))))
   (zae (zbS (pe_bm Bh Bm Bo zbb (pv 6) (pa_T (zas (zah (pC g_gone hr (pa_N (pv 2) (pa_N (pv 3) (zah (pC g_slant_step hr (pa_N (pv 4) zab)) zab)))) (pa_C pe_bl zab))) zab))))
   zaq)
   (zac (ps_if (zam zgJ (pv 1) zbp (zan _))
   (zae (zbS (pe_bm Bh Bm Bo zbb (pv 6) (pa_T (zas (zah (pC g_gone hr (pa_N (pv 2) (pa_N (pv 3) (zah (pC g_straight_step hr (pa_N (pv 4) zab)) zab)))) (pa_C pe_bl zab))) zab))))
   zaq)
   (zae (zaj (pv 6)))))))),?_⟩
  have hw:=hE.1;have hN:=zdL hE;refine⟨_,rfl,a,_,rfl,SqT.of ha,rfl,_,_,rfl,_,_,rfl,_,_,rfl,rfl,?_⟩;refine⟨_,rfl,_,rfl,a,e,stepB C e,rfl,SqT.of ha,hw,zdh hw,λp1 H1 hp1 s1 e1=>?_⟩;change H1 p1=some (.tup (edgeT (nxt C e))) at e1;refine⟨_,rfl,_,rfl,two,λt1 ht1=>⟨two,λt2 ht2=>?_⟩⟩;have s2:Same H1 (upd (upd H1 t1 (.tup [.int e.c.1,.int e.c.2])) t2 (.tup [.ref t1,.bl true])):=(Same.up ht1).trans (Same.up ht2);have r1:sR (e.c,true) (.ref t2) (upd (upd H1 t1 (.tup [.int e.c.1,.int e.c.2])) t2 (.tup [.ref t1,.bl true])):=⟨t2,t1,rfl,zaa,by rw[zai (λz=>by subst z;rw[zaa]at ht2;cases ht2),zaa];rfl⟩;generalize upd (upd H1 t1 (.tup [.int e.c.1,.int e.c.2])) t2 (.tup [.ref t1,.bl true])=H2 at s2 r1;refine⟨_,rfl,a,e,rfl,SqT.of ((s1.trans s2) _ _ ha),hw,λp3 H3 hp3 s3 e3=>⟨two,λt3 ht3=>?_⟩⟩;have s4:Same H3 (upd H3 t3 (.tup [.ref p3,.bl false])):=Same.up ht3;have r2:sR (gap e,false) (.ref t3) (upd H3 t3 (.tup [.ref p3,.bl false])):=⟨t3,p3,rfl,zaa,s4 _ _ e3⟩;generalize upd H3 t3 (.tup [.ref p3,.bl false])=H4 at s4 r2;have s14:=s2.trans (s3.trans s4);have e14:=s14 _ _ e1;have hs1:HT.sIx 3 3 (some 2)=2:=by decide
  refine⟨_,rfl,_,rfl,p1,_,rfl,SqT.of e14,λhx=>absurd (show (3:Nat)=2 from hx.2.symm.trans hs1) (by decide),λ_ t5 ht5=>⟨two,λt6 ht6=>?_⟩⟩;have ec:cutV (edgeT (nxt C e)) none (some 2)=cellT (nxt C e).c:=rfl;have s6:Same H4 (upd (upd H4 t5 (.tup (cutV (edgeT (nxt C e)) none (some 2)))) t6 (.tup [.ref t5,.bl true])):=(Same.up ht5).trans (Same.up ht6);have r3:sR ((nxt C e).c,true) (.ref t6) (upd (upd H4 t5 (.tup (cutV (edgeT (nxt C e)) none (some 2)))) t6 (.tup [.ref t5,.bl true])):=⟨t6,t5,rfl,zaa,by rw[zai (λz=>by subst z;rw[zaa]at ht6;cases ht6),zaa,ec]⟩;generalize upd (upd H4 t5 (.tup (cutV (edgeT (nxt C e)) none (some 2)))) t6 (.tup [.ref t5,.bl true])=H6 at s6 r3;refine⟨_,rfl,p1,nxt C e,rfl,SqT.of (s6 _ _ e14),hN.1,λp7 H7 hp7 s7 e7=>⟨two,λt7 ht7=>?_⟩⟩;have s8:Same H7 (upd H7 t7 (.tup [.ref p7,.bl false])):=Same.up ht7;have r4:sR (gap (nxt C e),false) (.ref t7) (upd H7 t7 (.tup [.ref p7,.bl false])):=⟨t7,p7,rfl,zaa,s8 _ _ e7⟩;generalize upd H7 t7 (.tup [.ref p7,.bl false])=H8 at s8 r4;refine⟨(by show 4<=sizeLine;decide),λl hl=>?_⟩;have s48:=s6.trans (s7.trans s8);have s28:=s3.trans (s4.trans s48);have s08:=s1.trans (s2.trans s28);have kl:KT H8 (upd H8 l (.lst [.ref t2,.ref t3,.ref t6,.ref t7])):=KT.up hl;have sl:Same H (upd H8 l (.lst [.ref t2,.ref t3,.ref t6,.ref t7])):=s08.trans (Same.up hl);have el:upd H8 l (.lst [.ref t2,.ref t3,.ref t6,.ref t7]) l=some (.lst [.ref t2,.ref t3,.ref t6,.ref t7]):=zaa;have hl0:H l=none:=s08.free hl
  have hv:VR [.ref t2,.ref t3,.ref t6,.ref t7] [(e.c,true),(gap e,false),((nxt C e).c,true),(gap (nxt C e),false)] sR (upd H8 l (.lst [.ref t2,.ref t3,.ref t6,.ref t7])) :=
   VR.cons.mpr ⟨(r1.kt (KT.of s28)).kt kl,VR.cons.mpr ⟨(r2.kt (KT.of s48)).kt kl,VR.cons.mpr ⟨(r3.kt (KT.of (s7.trans s8))).kt kl,VR.cons.mpr ⟨r4.kt kl,VR.nil⟩⟩⟩⟩
  generalize upd H8 l (.lst [.ref t2,.ref t3,.ref t6,.ref t7])=H9 at kl sl el hv
  have hL:∀q∈[(e.c,true),(gap e,false),((nxt C e).c,true),(gap (nxt C e),false)],C q.1=q.2:=by
   intro q hq;simp only[List.mem_cons,List.not_mem_nil,or_false]at hq;rcases hq with rfl |rfl |rfl |rfl
   .exact hE.2.1
   .exact hE.2.2
   .exact hN.2.1
   .exact hN.2.2
  rcases zba hE with⟨c1,hs,_⟩ |⟨c1,c2,hs,_⟩ |⟨c1,c2,hs,_⟩ <;> rw[hs]
  .refine⟨_,rfl,some ((2*e.w+7) % 8),rfl,_,rfl,?_⟩;have:slant (some ((2*e.w+7) % 8))=true:=by show ((2*e.w+7) % 8 % 2 == 1)=true;rw[odd7];rfl
   rw[this];refine iteF ?_
   refine⟨_,rfl,rfl,_,rfl,iteF ?_⟩;exact⟨_,rfl,k l H9 _ _ hl0 sl el hv hL (by show 4<=6;decide)⟩
  .refine⟨_,rfl,some (2*e.w),rfl,_,rfl,?_⟩;have:slant (some (2*e.w))=false:=by show ((2*e.w) % 2 == 1)=false;rw[show 2*e.w % 2=0 by lia];rfl
   rw[this];refine iteT ?_
   refine⟨_,rfl,.inl ⟨rfl,_,SqL.of el⟩,_,rfl,_,rfl,_,rfl,e.w,rfl,hw,e.c,(2*e.w+7) % 8,rfl,B9 _ (by decide),λp10 H10 hp10 s10 e10=>⟨two,λt11 ht11=>?_⟩⟩;have s11:Same H10 (upd H10 t11 (.tup [.ref p10,.bl false])):=Same.up ht11;have r5:sR (go e.c ((2*e.w+7) % 8),false) (.ref t11) (upd H10 t11 (.tup [.ref p10,.bl false])):=⟨t11,p10,rfl,zaa,s11 _ _ e10⟩;generalize upd H10 t11 (.tup [.ref p10,.bl false])=H11 at s11 r5;have el11:=(s10.trans s11) _ _ el;refine⟨l,_,_,rfl,rfl,el11,zbh (by show 4<=5000;decide),?_⟩;have kt12:KT H11 (upd H11 l (.lst ([.ref t2,.ref t3,.ref t6,.ref t7]++[.ref t11]))):=KT.lst el11;have s12:Same H (upd H11 l (.lst ([.ref t2,.ref t3,.ref t6,.ref t7]++[.ref t11]))):=zar hl0 (sl.trans (s10.trans s11));have e12:upd H11 l (.lst ([.ref t2,.ref t3,.ref t6,.ref t7]++[.ref t11])) l=some (.lst ([.ref t2,.ref t3,.ref t6,.ref t7]++[.ref t11])):=zaa;have hv12:=hv.snoc (λx v h=>(h.kt (KT.of (s10.trans s11))).kt kt12) (r5.kt kt12);generalize upd H11 l (.lst ([.ref t2,.ref t3,.ref t6,.ref t7]++[.ref t11]))=H12 at kt12 s12 e12 hv12;refine⟨_,rfl,rfl,_,rfl,iteF ?_⟩;refine⟨_,rfl,k l H12 _ _ hl0 s12 e12 hv12 (λq hq=>?_) (by show 5<=6;decide)⟩;rcases AQ.mp hq with m |m
   .exact hL q m
   .rw[Aj.mp m];exact c1
  .refine⟨_,rfl,none,rfl,_,rfl,iteT ?_⟩;refine⟨_,rfl,.inl ⟨rfl,_,SqL.of el⟩,_,rfl,_,rfl,_,rfl,e.w,rfl,hw,e.c,(2*e.w+7) % 8,rfl,B9 _ (by decide),λp10 H10 hp10 s10 e10=>⟨two,λt11 ht11=>?_⟩⟩;have s11:Same H10 (upd H10 t11 (.tup [.ref p10,.bl false])):=Same.up ht11;have r5:sR (go e.c ((2*e.w+7) % 8),false) (.ref t11) (upd H10 t11 (.tup [.ref p10,.bl false])):=⟨t11,p10,rfl,zaa,s11 _ _ e10⟩;generalize upd H10 t11 (.tup [.ref p10,.bl false])=H11 at s11 r5;have el11:=(s10.trans s11) _ _ el;refine⟨l,_,_,rfl,rfl,el11,zbh (by show 4<=5000;decide),?_⟩;have kt12:KT H11 (upd H11 l (.lst ([.ref t2,.ref t3,.ref t6,.ref t7]++[.ref t11]))):=KT.lst el11;have s12:Same H (upd H11 l (.lst ([.ref t2,.ref t3,.ref t6,.ref t7]++[.ref t11]))):=zar hl0 (sl.trans (s10.trans s11));have e12:upd H11 l (.lst ([.ref t2,.ref t3,.ref t6,.ref t7]++[.ref t11])) l=some (.lst ([.ref t2,.ref t3,.ref t6,.ref t7]++[.ref t11])):=zaa;have hv12:=hv.snoc (λx v h=>(h.kt (KT.of (s10.trans s11))).kt kt12) (r5.kt kt12);generalize upd H11 l (.lst ([.ref t2,.ref t3,.ref t6,.ref t7]++[.ref t11]))=H12 at kt12 s12 e12 hv12;refine⟨_,rfl,rfl,_,rfl,iteT ?_⟩;refine⟨_,rfl,.inl ⟨rfl,_,SqL.of e12⟩,_,rfl,_,rfl,_,rfl,e.w,rfl,hw,e.c,2*e.w,rfl,by lia,λp13 H13 hp13 s13 e13=>⟨two,λt14 ht14=>?_⟩⟩;have s14':Same H13 (upd H13 t14 (.tup [.ref p13,.bl false])):=Same.up ht14;have r6:sR (go e.c (2*e.w),false) (.ref t14) (upd H13 t14 (.tup [.ref p13,.bl false])):=⟨t14,p13,rfl,zaa,s14' _ _ e13⟩;generalize upd H13 t14 (.tup [.ref p13,.bl false])=H14 at s14' r6;have e14':=(s13.trans s14') _ _ e12;refine⟨l,_,_,rfl,rfl,e14',zbh (by show 5<=5000;decide),?_⟩;have kt15:KT H14 (upd H14 l (.lst (([.ref t2,.ref t3,.ref t6,.ref t7]++[.ref t11])++[.ref t14]))):=KT.lst e14';have s15:Same H (upd H14 l (.lst (([.ref t2,.ref t3,.ref t6,.ref t7]++[.ref t11])++[.ref t14]))):=zar hl0 (s12.trans (s13.trans s14'));have e15:upd H14 l (.lst (([.ref t2,.ref t3,.ref t6,.ref t7]++[.ref t11])++[.ref t14])) l=some (.lst (([.ref t2,.ref t3,.ref t6,.ref t7]++[.ref t11])++[.ref t14])):=zaa;have hv15:=hv12.snoc (λx v h=>(h.kt (KT.of (s13.trans s14'))).kt kt15) (r6.kt kt15);refine⟨_,rfl,k l _ _ _ hl0 s15 e15 hv15 (λq hq=>?_) (by show 6<=6;decide)⟩;rcases AQ.mp hq with m |m
   .rcases AQ.mp m with m |m
    .exact hL q m
    .rw[Aj.mp m];exact c1
   .rw[Aj.mp m];exact c2
noncomputable def Known(C:Cell->Bool)(kvs:List (List Key×V)):Prop:=∀c v,valV kvs (kC c)=some v->v=.bl (C c)
noncomputable def ze5(K:W.Frag):Sp:=λvs H Q _=>∃(a:Addr) (C:Cell->Bool) (es:List Edge),vs=[.ref a]/\LR K H a (wk C es) wR/\(∀e∈es,IsE C e)/\es.length<=500/\∀H',Same H H'->Q .non H'
theorem zeL (g_seen_between:Fn P w K mg base 3 "seen_between" ["edge","step"] (zlC K)) (d:Df K mg "gainsaid_at" zcj ["walk"]):FnOk P w K mg base CX0 4 d.f d.fd ["walk"] (ze5 K):=by
 refine d.F.ok zaF (λvs H Q E h=>?_) (λcdv A outer s H vs Q E hr h=>?_)
 .obtain⟨a,C,es,rfl,_⟩:=h;rfl
 .obtain⟨a,C,es,rfl,hLR,hE,hlen,k⟩:=h;have hu1:=hu_of hr
  refine⟨_,(zac (sE 1 zaF.nd zid)
   (zac (sE 2 zaF.nd zaf)
   (zac (zcb By rfl (zaz (pv 0)) (zbk (by rfl) (zag (nG 3 zaF.nd) (zag (nG 4 zaF.nd) zaA)))
   (zac (zcb By rfl (zaz (pC g_seen_between hr (pa_N (pv 3) (pa_N (pv 4) zab)))) (zbk (by rfl) (zag (nG 5 zaF.nd) (zag (nG 6 zaF.nd) zaA)))
   (zae (ps_if (zam op_ne (zkZ hu1 (pv 1) (pv 5) (pv 6) ⟨rfl,rfl,rfl,rfl⟩) (pv 6) (zan _))
   (zae (zaj (pv 2)))
   zaq)))
   (zae (ps_if (zam zfC (pv 4) zbp (zan _))
   (zae (znc (i:=2) zaF.nd (by rfl) (Or.inl rfl) zaf znq))
   zaq))))
   (zae (zaj zbp))))),?_⟩
  obtain⟨ws,hq,hv⟩:=hLR.vr;have hwl:ws.length=es.length:=by rw[hv.1,zbB]
  refine λdd hdd=>?_
  have s0:Same H (upd H dd (.dT [])):=Same.up hdd;have d0:upd H dd (.dT []) dd=some (.dT []):=zaa;generalize upd H dd (.dT [])=H0 at s0 d0;refine⟨_,rfl,a,rfl,⟨_,s0.seq hq⟩,?_⟩
  refine zau (K:=K) (a:=a) (xs:=ws) (λi σ H1=>∃(n:Int) (o3 o4 o5 o6:Option V) (kvs:List (List Key×V)),σ=[some (.ref a),some (.ref dd),some (.int n),o3,o4,o5,o6]/\Same H H1/\H1 dd=some (.dT kvs)/\Known C kvs/\kvs.length<=6*i)
   ⟨_,_,_,_,_,[],rfl,s0,d0,(λc v h=>by cases h),Ba _⟩ (λi σ H1 _ ⟨_,_,_,_,_,_,_,s1,_⟩=>s1.seq hq) ?_ ?_
  .rintro i v σ H1 hi ⟨n,o3,o4,o5,o6,kvs,rfl,s1,d1,hk,hkl⟩;obtain⟨⟨e,st⟩,he,B,b,rfl,q1,q2⟩:=hv.at hi;have hi':i<es.length:=by rw[<- hwl];exact (Ad.mp hi).1
   have he':es[i]?=some e/\st=stepB C e:=by
    unfold wk at he;rw[AF]at he;obtain⟨g,hg,eg⟩:=BN.mp he
    cases eg
    exact⟨hg,rfl⟩
   obtain⟨he1,rfl⟩:=he';have hEe:=hE e (Ai he1);refine⟨B,_,rfl,SqT.of (s1 _ _ q1),rfl,_,_,rfl,_,_,rfl,rfl,?_⟩;refine⟨_,rfl,_,rfl,b,C,e,rfl,s1 _ _ q2,hEe,λp H2 ss L hp s2 e2 hs2 hL hLl=>?_⟩;have hpd:p≠dd:=λz=>by subst z;rw[d1]at hp;cases hp
   have d2:=s2 _ _ d1;refine⟨p,rfl,⟨_,SqL.of e2⟩,?_⟩
   refine zau (K:=K) (a:=p) (xs:=ss) (λj σ H3=>∃(o5 o6:Option V) (kv3:List (List Key×V)),σ=[some (.ref a),some (.ref dd),some (.int n),some (.ref b),some (sv (stepB C e)),o5,o6]/\(∀z o,z≠dd->H2 z=some o->H3 z=some o)/\H3 dd=some (.dT kv3)/\Known C kv3/\kv3.length<=6*i+j)
    ⟨_,_,kvs,rfl,(λz o _ h=>h),d2,hk,by lia⟩ (λj σ H3 _ ⟨_,_,_,_,k3,_⟩=>SqL.of (k3 _ _ hpd e2)) ?_ ?_
   .rintro j u σ H3 hj ⟨o5,o6,kv3,rfl,k3,d3,hk3,hl3⟩;obtain⟨⟨c,t⟩,hq',A2,b2,rfl,r1,r2⟩:=hs2.at hj;have hjl:j<L.length:=by rw[<- hs2.1];exact (Ad.mp hj).1
    have hct:C c=t:=hL _ (Ai hq');have nA:A2≠dd:=ne_of r1 d2 (λz=>nomatch z);have nb:b2≠dd:=ne_of r2 d2 (λz=>nomatch z);refine⟨A2,_,rfl,SqT.of (k3 _ _ nA r1),rfl,_,_,rfl,_,_,rfl,rfl,?_⟩;refine⟨_,rfl,dd,rfl,.inr ⟨_,Rd.of d3⟩,_,rfl,_,rfl,kv3,kC c,b2,d3,rfl,k3 _ _ nb r2,zbh (by lia),λv hv'=>?_,λhn=>?_⟩
    .have hv2:v=.bl t:=by rw[hk3 c v hv',hct]
     subst hv2;refine⟨_,rfl,rfl,_,rfl,iteN (by simp) ?_⟩;exact⟨_,_,kv3,rfl,k3,d3,hk3,by lia⟩
    .refine⟨_,rfl,rfl,_,rfl,iteN (by simp) ?_⟩;refine⟨_,_,putK kv3 (kC c) (.bl t),rfl,(λz o hz h=>by rw[zai hz];exact k3 z o hz h),zaa,(λc' v' hv'=>?_),A3 (zaP _ _ _) (by lia)⟩;rw[zcM]at hv'
     by_cases ec:c'=c
     .subst ec;rw[if_pos rfl]at hv'
      cases hv'
      rw[hct]
     .rw[if_neg (λz=>ec (zkc.mp z))]at hv';exact hk3 c' v' hv'
   .rintro σ H3 ⟨o5,o6,kv3,rfl,k3,d3,hk3,hl3⟩;have s3:Same H H3:=λz o h=>k3 z o (zal h hdd) (s2 _ _ (s1 _ _ h))
    have hl4:kv3.length<=6*(i+1):=by have:=hs2.1;lia
    cases hst:stepB C e with
    |none =>
     refine⟨_,rfl,rfl,_,rfl,iteF ?_⟩;exact⟨_,_,_,_,_,kv3,rfl,s3,d3,hk3,hl4⟩
    |some z =>
     refine⟨_,rfl,rfl,_,rfl,iteT ?_⟩;refine⟨_,rfl,_,_,rfl,rfl,?_⟩;exact⟨_,_,_,_,_,kv3,rfl,s3,d3,hk3,hl4⟩
  .rintro σ H1 ⟨n,o3,o4,o5,o6,kvs,rfl,s1,d1,hk,hkl⟩;exact k H1 s1
theorem zlu{α:Type}{xs:List α}(h:0<xs.length):atI xs (-1)=xs[xs.length-1]?:=by unfold atI ixN;rw[if_neg (by decide),if_pos (by lia)];show xs[((-1:Int)+xs.length).toNat]?=_;rw[show ((-1:Int)+xs.length).toNat=xs.length-1 by lia]
noncomputable def zju(K:W.Frag):Sp:=λvs H Q _=>∃(a:Addr) (C:Cell->Bool) (b:Edge) (es:List Edge),vs=[.ref a]/\LR K H a (wk C es) wR/\Closed C b es/\es.length<=500/\∀H',Same H H'->Q (.bl true) H'
theorem zfH (g_edge_behind:Fn P w K mg base 2 "edge_behind" ["edge","step"] (zd6 K)) (d:Df K mg "comes_back" zcz ["walk"]):FnOk P w K mg base CX0 3 d.f d.fd ["walk"] (zju K):=by
 refine d.F.ok zcg (λvs H Q E h=>?_) (λcdv A outer s H vs Q E hr h=>?_)
 .obtain⟨a,C,b,es,rfl,_⟩:=h;rfl
 .obtain⟨a,C,b,es,rfl,hLR,hcl,hlen,k⟩:=h;have hu64:=hr.units
  refine⟨_,(zac (zbD (pe_ix zaQ (pv 0) (pe_un zmR zaf) (λ_ _=>rfl)) (zbk (by rfl) (zag (nG 1 zcg.nd) (zag (nG 2 zcg.nd) zaA))))
   (zae (zaj (zbq (zjS hu64) (pC g_edge_behind hr (pa_N (pv 1) (pa_N (pv 2) zab))) (pe_ix zbW (pe_ix zaQ (pv 0) zaf (λ_ _=>rfl)) zaf (λ_ _=>rfl)) (zan _))))),?_⟩
  obtain⟨ws,hq,hv⟩:=hLR.vr;have hwl:ws.length=es.length:=by rw[hv.1,zbB]
  have hp:=hcl.pos;obtain⟨hch,l,hl,hb⟩:=id hcl;obtain⟨v1,hv1⟩:∃v,ws[ws.length-1]?=some v:=⟨_,Aa (by lia)⟩;obtain⟨⟨e1,st1⟩,he1,B1,b1,rfl,q1,q2⟩:=hv.at hv1;obtain⟨v0,hv0⟩:∃v,ws[0]?=some v:=⟨_,Aa (by lia)⟩;obtain⟨⟨e0,st0⟩,he0,B0,b0,rfl,r1,r2⟩:=hv.at hv0
  have h1:e1=l/\st1=stepB C l:=by
   unfold wk at he1;rw[hwl,AF,hl]at he1
   cases he1;exact⟨rfl,rfl⟩
  obtain⟨rfl,rfl⟩:=h1
  have h0:e0=b:=by
   unfold wk at he0;rw[AF,hch.1]at he0
   cases he0;rfl
  subst h0;have hEl:IsE C e1:=hch.2.2.1 e1 (Ai hl);refine⟨_,rfl,_,rfl,a,ws,_,_,rfl,rfl,hq,(zlu (by lia)).trans hv1,?_⟩;refine⟨B1,_,rfl,SqT.of q1,rfl,_,_,rfl,_,_,rfl,rfl,?_⟩;refine⟨_,rfl,_,rfl,b1,e1,stepB C e1,rfl,SqT.of q2,hEl.1,zdh hEl.1,λp H1 hp1 s1 f1=>?_⟩;refine⟨_,rfl,a,ws,_,_,rfl,rfl,s1.seq hq,(zay (j:=0) hv0),B0,_,_,_,rfl,rfl,SqT.of (s1 _ _ r1),zay (j:=0) rfl,?_⟩;refine⟨_,_,zcD f1,zcD (s1 _ _ r2),zaL _,zaL _,?_⟩;rw[zc1,decide_eq_true (by show eI (nxt C e1)=eI e0;rw[hb])];exact k H1 s1
theorem nL_wk(C:Cell->Bool)(es:List Edge):nL (wk C es)=(es.filter λe=>(stepB C e).isNone).length:=by unfold nL wk;rw[List.filter_map,Ap];rfl
theorem nS_wk(C:Cell->Bool)(es:List Edge):nS (wk C es)=(es.filter λe=>slant (stepB C e)).length:=by unfold nS wk;rw[List.filter_map,Ap];rfl
theorem zl0{C:Cell->Bool}{b:Edge}{es:List Edge}(h:Closed C b es):(nL (wk C es):Int)-nS (wk C es)=4∨(nL (wk C es):Int)-nS (wk C es)=-4:=by rw[nL_wk,nS_wk,<- zhS];exact h.turning
noncomputable def ze4(K:W.Frag):Sp:=λvs H Q _=>∃(a:Addr) (C:Cell->Bool) (b:Edge) (es:List Edge),vs=[.ref a,.str (sortS (wk C es))]/\LR K H a (wk C es) wR/\Closed C b es/\es.length<=500/\∀H',Same H H'->Q (.bl true) H'
theorem zgO (T:Txt P w K mg) (g_comes_back:Fn P w K mg base 3 "comes_back" ["walk"] (zju K)) (g_lefts_less_slants:Fn P w K mg base 3 "lefts_less_slants" ["walk"] (zjp K)) (d:Df K mg "is_closed" zc5 ["walk","sort"]):FnOk P w K mg base CX0 4 d.f d.fd ["walk","sort"] (ze4 K):=by
 refine d.F.ok zgy (λvs H Q E h=>?_) (λcdv A outer s H vs Q E hr h=>?_)
 .obtain⟨a,C,b,es,rfl,_⟩:=h;rfl
 .obtain⟨a,C,b,es,rfl,hLR,hcl,hlen,k⟩:=h;refine⟨_,(zae (zaj (zie (pC g_comes_back hr (pa_N (pv 0) zab)) (zgF (zbq op_eq (pC g_lefts_less_slants hr (pa_N (pv 0) zab)) (zne (by rfl) T.more (pv 1)) (zan _)))))),?_⟩;refine⟨_,rfl,a,C,b,es,rfl,hLR,hcl,hlen,λH1 s1=>⟨_,rfl,iteT ?_⟩⟩;refine⟨_,rfl,a,wk C es,rfl,hLR.same s1 (λx v h=>h.same s1),by rw[zbB];lia,λH2 s2=>⟨_,rfl,?_⟩⟩;rcases zl0 hcl with t |t
  .refine .inl ⟨?_,rfl,?_⟩
   .unfold sortS;rw[if_pos (by lia)]
   .rw[t,decide_eq_true rfl];exact k H2 (s1.trans s2)
  .refine .inr ⟨?_,rfl,?_⟩
   .unfold sortS;rw[if_neg (by lia)]
   .rw[t,decide_eq_true rfl];exact k H2 (s1.trans s2)
theorem IsRnd.walk{C:Cell -> Bool}{b:Edge}{es:List Edge}{r:Rnd}(h:Closed C b es)(k:IsRnd (wk C es) r) :
  ∃es',Closed C (begE r) es'/\es'.Perm es/\r.row=(es'.map (stepB C)).filterMap id/\zct (wk C es') r.so (begE r)/\r.so=sortS (wk C es')/\IsRnd (wk C es') r:=by
 obtain⟨r0,j,f,rf,⟨rb,rw',rl⟩,rx,ry,rr⟩:=id k;rw[zdI]at rf rb rl
 have ef:begE r=f:=by obtain⟨⟨x,y⟩,w⟩:=f;unfold begE;rw[rx,ry,r0];simp only at rw' ⊢;rw[rw']
 have h1:=h.rot j rf;have pm:=zfx es j;have ss:=ze6 (C:=C) pm
 have hrow:r.row=((es.drop j++es.take j).map (stepB C)).filterMap id:=by rw[rr];unfold wk;rw[<- List.map_drop,<- List.map_take,<- A6,Dd,Dd];rfl
 have hb:zct (wk C (es.drop j++es.take j)) r.so f:=⟨by rw[zdI];exact pm.mem_iff.mpr rb,by rw[rw',r0],λg hg hw=>by rw[zdI]at hg;exact rl g (pm.mem_iff.mp hg) (by rw[hw,r0])⟩
 rw[ef];refine⟨_,h1,pm,hrow,hb,by rw[r0,ss],by rw[r0,ss],0,f,by rw[zdI];exact h1.1.1,by rw[ss,<- r0];exact hb,rx,ry,?_⟩;rw[hrow,List.drop_zero,List.take_zero,Bf];unfold wk;rw[Dd,Dd];rfl
noncomputable def zhX(K:W.Frag):Sp:=λvs H Q _=>∃(v:V) (r:Rnd) (C:Cell->Bool) (es:List Edge),vs=[v]/\rR r v H/\Closed C (begE r) es/\r.row=(es.map (stepB C)).filterMap id/\zct (wk C es) r.so (begE r)/\r.so=sortS (wk C es)/\es.length<=500 /\
 ∀p H' ws,H p=none->Same H H'->H' p=some (.lst ws)->VR ws (wk C es) wR H'->Q (.ref p) H'
theorem ziU (g_begin_edge:Fn P w K mg base 1 "begin_edge" ["one"] zgr) (g_walk_along:Fn P w K mg base 4 "walk_along" ["begin", "row"] (zd4 K)) (g_gainsaid_at:Fn P w K mg base 4 "gainsaid_at" ["walk"] (ze5 K))
  (g_is_closed:Fn P w K mg base 4 "is_closed" ["walk","sort"] (ze4 K)) (g_begin_of:Fn P w K mg base 3 "begin_of" ["walk","sort"] (zhi K)) (d:Df K mg "walk_of" zee ["one"]):FnOk P w K mg base CX0 5 d.f d.fd ["one"] (zhX K):=by
 refine d.F.ok zbi (λvs H Q E h=>?_) (λcdv A outer s H vs Q E hr h=>?_)
 .obtain⟨v,r,C,es,rfl,_⟩:=h;rfl
 .obtain⟨v,r,C,es,rfl,hv,hcl,hrow,hbg,hso,hlen,k⟩:=h;have hu64:=hr.units
  refine⟨_,(zac (zbD (pv 0) (zbk (by rfl) (zag (nG 1 zbi.nd) (zag (nG 2 zbi.nd) (zag (nG 3 zbi.nd) (zag (nG 4 zbi.nd) zaA))))))
   (zac (sE 5 zbi.nd (pC g_begin_edge hr (pa_N (pv 0) zab)))
   (zac (sE 6 zbi.nd (pC g_walk_along hr (pa_N (pv 5) (pa_N (pv 4) zab))))
   (zac (sE 7 zbi.nd (pC g_gainsaid_at hr (pa_N (pv 6) zab)))
   (zac (ps_if (zam zfC (pv 7) zbp (zan _))
   (zae zfz)
   zaq)
   (zac (ps_if (pw_or (zej (zca (pC g_is_closed hr (pa_N (pv 6) (pa_N (pv 1) zab))))) (zgB (zam (ze9 hu64) (pC g_begin_of hr (pa_N (pv 6) (pa_N (pv 1) zab))) (pv 5) (zan _)))).pt
   (zae zfz)
   zaq)
   (zae (zaj (pv 6))))))))),?_⟩
  obtain⟨a,b,rfl,q1,q2⟩:=id hv;have hE:IsE C (begE r):=hcl.1.2.2.1 _ (Ai hcl.1.1);have so2:r.so = "rim" ∨ r.so = "hole":=by rw[hso];exact zdj _
  have hrl:r.row.length<=500:=by rw[hrow];exact A3 (DU _ _) (by rw[Ap];exact hlen)
  have hdd:deeds (begE r).w r.row=es.map (stepB C):=by rw[hrow];exact hcl.deeds.symm
  refine⟨_,rfl,a,_,rfl,SqT.of q1,rfl,_,_,rfl,_,_,rfl,_,_,rfl,_,_,rfl,rfl,?_⟩;refine⟨_,rfl,.ref a,r,rfl,hv,so2,λp1 H1 hp1 s1 e1=>?_⟩;refine⟨_,rfl,_,rfl,p1,b,begE r,r.row,rfl,e1,hE.1,SqT.of (s1 _ _ q2),hrl,(λz hz=>?_),λp H2 ws hp s2 e2 hw=>?_⟩
  .rw[hdd]at hz;obtain⟨e,he,ez⟩:=AV.mp hz;exact zdh (hcl.1.2.2.1 e he).1 z ez
  rw[hdd,zgf es (.inl hcl.1.1) hcl.1.2.1]at hw;have lr:LR K H2 p (wk C es) wR:=LR.of e2 hw;refine⟨_,rfl,p,C,es,rfl,lr,hcl.1.2.2.1,hlen,λH3 s3=>?_⟩;refine⟨_,rfl,rfl,_,rfl,iteF ?_⟩;have lr3:=lr.same s3 (λx v h=>h.same s3);refine⟨_,rfl,_,rfl,p,C,begE r,es,(by rw[<- hso];rfl),lr3,hcl,hlen,λH4 s4=>⟨_,rfl,iteF ?_⟩⟩;have lr4:=lr3.same s4 (λx v h=>h.same s4);refine⟨_,rfl,_,rfl,p,wk C es,r.so,rfl,so2,lr4,by rw[zbB];lia,⟨begE r,hbg.1,hbg.2.1⟩,λb5 e5 H5 s5 f5 ib=>?_⟩;have ee:e5=begE r:=ib.one (List.Perm.refl _) hbg;subst ee;have s25:=s3.trans (s4.trans s5);refine⟨_,rfl,_,_,zcD f5,zcD ((s2.trans s25) _ _ e1),zaL _,zaL _,_,rfl,iteN (by rw[zc1,decide_eq_true rfl];rfl) ?_⟩;refine⟨_,rfl,k p H5 ws (s1.free hp) (s1.trans (s2.trans s25)) (s25 _ _ e2) (hw.mono λx v h=>h.same s25)⟩
noncomputable def rowI(row:List Nat):List Int:=row.map λn:Nat=>(n:Int)
noncomputable def dR(r:Rnd):PyData:=.tuple [.str r.so,.int r.x,.int r.y,tI (rowI r.row)]
theorem zlJ(row:List Nat):rowV row=(rowI row).map V.int:=by unfold rowV rowI;rw[List.map_map];rfl
theorem zkP{a b:List Nat}(h:rowI a=rowI b):a=b:=by unfold rowI at h;exact List.map_inj_right (f:=λn:Nat=>(n:Int)) (λx y e=>by lia) |>.mp h
theorem zh5{K:W.Frag}{H:Hp}{r:Rnd}{v:V}(h:rR r v H):RD K H v (dR r):=by obtain⟨a,b,rfl,q1,q2⟩:=h;refine .tup (SqT.of q1) (.cons (.str _) (.cons (.int _) (.cons (.int _) (.cons (.tup (SqT.of q2) ?_) .nil))));rw[zlJ];exact RDs.ints _
theorem zkm(r q:Rnd):Bq (dR r) (dR q)=decide (r=q):=by
 show ((r.so == q.so) && ((r.x == q.x) && ((r.y == q.y) && (Bq (tI (rowI r.row)) (tI (rowI q.row)) && true))))=_;rw[zc1,Bool.and_true];obtain⟨a,b,c,d⟩:=r;obtain⟨a',b',c',d'⟩:=q;simp only
 by_cases h1:a=a'
 .by_cases h2:b=b'
  .by_cases h3:c=c'
   .by_cases h4:d=d'
    .subst h1 h2 h3 h4;simp
    .have:¬ rowI d=rowI d':=λz=>h4 (zkP z)
     simp[h4,this]
   .simp[h3]
  .simp[h2]
 .have:(a == a')=false:=by rw[beq_eq_false_iff_ne];exact h1
  rw[this];simp[h1]
noncomputable abbrev SoOk (r:Rnd):Prop:=r.so = "rim" ∨ r.so = "hole"
theorem zg3{r:Rnd}(h:SoOk r):CL (dR r)=true:=by have:=zaL (rowI r.row);unfold Bb at this;rw[Bd]at this;show (PyData.strOk r.so && (true && (true && (CL (tI (rowI r.row)) && true))))=true;rw[this.1];rcases h with h |h <;> rw[h] <;> decide +kernel
theorem ziC(ns:List Int):B8 (tI ns)=1:=by unfold tI;rw[B8,zcq]
theorem zf4(r:Rnd):B8 (dR r)=2:=by show B8 (.tuple [.str r.so,.int r.x,.int r.y,tI (rowI r.row)])=2;rw[B8];show max 0 (max 0 (max 0 (max (B8 (tI (rowI r.row))) 0)))+1=2;rw[ziC];rfl
theorem zgv{r:Rnd}(h:SoOk r):Bb (dR r)=true:=by unfold Bb;rw[zg3 h,zf4];rfl
noncomputable def lR(R:List Rnd):PyData:=.list (R.map dR)
theorem zgZ:∀R S:List Rnd,DQ (R.map dR) (S.map dR)=decide (R=S)
 |[],[]=>rfl
 |[],_::_=>rfl
 |_::_,[]=>rfl
 |r::R,q::S=>by
  show (Bq (dR r) (dR q) && DQ (R.map dR) (S.map dR))=_;rw[zgZ R S,zkm]
  by_cases e:r=q
  .subst e;by_cases e2:R=S <;> simp[e2]
  .simp[e]
theorem ziw(R S:List Rnd):Bq (lR R) (lR S)=decide (R=S):=zgZ R S
theorem zbF:∀R:List Rnd,(∀r∈R,SoOk r)->BY (R.map dR)=true
 |[],_=>rfl
 |r::R,h=>by show (CL (dR r) && BY (R.map dR))=true;rw[zg3 (h r Ax),zbF R λq hq=>h q (Aq _ hq)];rfl
theorem zez:∀R:List Rnd,Cd (R.map dR)<=2
 |[]=>Ba _
 |r::R=>by show max (B8 (dR r)) (Cd (R.map dR))<=2;rw[zf4];have:=zez R;lia
theorem zgu{R:List Rnd}(h:∀r∈R,SoOk r):Bb (lR R)=true:=by unfold Bb lR;rw[CL,zbF R h,B8];have:=zez R;simp only[Bool.true_and,decide_eq_true_eq];lia
theorem zdz{K:W.Frag}{H:Hp}:∀{vs:List V}{R:List Rnd},VR vs R rR H->RDs K H vs (R.map dR)
 |[],[],_=>.nil
 |[],_::_,h=>by have:=h.1;cases this
 |_::_,[],h=>by have:=h.1;cases this
 |v::vs,r::R,h=>by
  obtain⟨h1,h2⟩:=VR.cons.mp h;exact .cons (zh5 h1) (zdz h2)
theorem za4{K:W.Frag}{H:Hp}{a:Addr}{vs:List V}{R:List Rnd}(e:SqL K H a vs)(h:VR vs R rR H):RD K H (.ref a) (lR R):=.lst e (zdz h)
theorem Whole.few{cs:List Cell}{R:List Rnd}(h:Whole cs R):R.length<=cs.length:=let ⟨_,hP,_⟩:=h;hP.few
structure Can (C:Cell->Bool) (es:List Edge) (r:Rnd):Prop where
 cl:Closed C (begE r) es
 row:r.row=(es.map (stepB C)).filterMap id
 bg:zct (wk C es) r.so (begE r)
 so:r.so=sortS (wk C es)
inductive Al {α β:Type} (P:α->β->Prop):List α->List β->Prop where
 |nil:Al P [] []
 |cons {a:α} {b:β} {l:List α} {m:List β}:P a b->Al P l m->Al P (a::l) (b::m)
theorem Al.of{α β:Type}{P:α->β->Prop}:∀{l:List α}{m:List β},l.length=m.length->(∀(i:Nat) a b,m[i]?=some b->l[i]?=some a->P a b)->Al P l m
 |[],[],_,_=>.nil
 |[],_::_,h,_=>by cases h
 |_::_,[],h,_=>by cases h
 |a::l,b::m,h,q=>.cons (q 0 a b rfl rfl) (Al.of (by simpa using h) λi x y h1 h2=>q (i+1) x y (by simpa using h1) (by simpa using h2))
theorem Al.length{α β:Type}{P:α->β->Prop}{l:List α}{m:List β}(h:Al P l m):l.length=m.length:=by
 induction h with
 |nil=>rfl
 |cons _ _ ih=>simp[ih]
theorem Al.at{α β:Type}{P:α->β->Prop}{l:List α}{m:List β}(h:Al P l m):∀{i:Nat}{a:α}{b:β},m[i]?=some b->l[i]?=some a->P a b:=by
 induction h with
 |nil=>intro i a b h1;simp at h1
 |cons p _ ih =>
  intro i a b h1 h2
  cases i with
  |zero=>simp at h1 h2;subst h1 h2;exact p
  |succ i=>exact ih (by simpa using h1) (by simpa using h2)
theorem Al.perm{α β:Type}{P:α->β->Prop}{l' l:List α}(p:l'.Perm l):∀{m:List β},Al P l m->∃m',m'.Perm m/\Al P l' m':=by
 induction p with
 |nil=>intro m h;exact⟨m,.refl _,h⟩
 |cons a _ ih =>
  intro m h
  cases h with
  |cons p t =>
   obtain⟨m',q,r⟩:=ih t;exact⟨_::m',q.cons _,.cons p r⟩
 |swap a b l =>
  intro m h
  cases h with
  |cons p t =>
   cases t with
   |cons p2 t2=>exact⟨_::_::_,.swap _ _ _,.cons p2 (.cons p t2)⟩
 |trans _ _ ih1 ih2 =>
  intro m h;obtain⟨m1,q1,r1⟩:=ih2 h;obtain⟨m2,q2,r2⟩:=ih1 r1;exact⟨m2,q2.trans q1,r2⟩
theorem Al.bind{α γ:Type}{P Q:α->List γ->Prop}(f:∀a b,P a b->∃c,Q a c/\c.Perm b){l:List α}{m:List (List γ)}(h:Al P l m):∃m',Al Q l m'/\m'.flatten.Perm m.flatten:=by
 induction h with
 |nil=>exact⟨[],.nil,.refl _⟩
 |cons p _ ih =>
  obtain⟨c,q1,q2⟩:=f _ _ p;obtain⟨m',r1,r2⟩:=ih;exact⟨c::m',.cons q1 r1,by rw[BA,BA];exact q2.append r2⟩
theorem zgY{γ:Type}{a b:List (List γ)}(p:a.Perm b):a.flatten.Perm b.flatten:=by
 induction p with
 |nil=>exact .refl _
 |cons x _ ih=>rw[BA,BA];exact ih.append_left _
 |swap x y l =>
  simp only[BA];rw[<- AL,<- AL];exact List.perm_append_comm.append_right _
 |trans _ _ i1 i2=>exact i1.trans i2
structure Cans (C:Cell->Bool) (ESS:List (List Edge)) (R:List Rnd):Prop where
 al:Al (λr es=>Can C es r) R ESS
 nd:ESS.flatten.Nodup
 all:∀e,e∈ESS.flatten ↔ IsE C e
theorem Whole.cans{cs:List Cell}{R R0:List Rnd}(p:R.Perm R0)(h:Whole cs R0):∃ESS,Cans (isIn cs) ESS R:=by
 obtain⟨E,h1,h2⟩:=h;have a1:Al (λr es=>(∃b,Closed (isIn cs) b es)/\IsRnd (wk (isIn cs) es) r) R0 E:=Al.of h1.len λi r es e1 e2=>h1.each i es r e1 e2
 obtain⟨F,q1,a2⟩:=a1.perm p
 obtain⟨G,a3,q2⟩:=Al.bind (Q:=λr es=>Can (isIn cs) es r) (λr es ⟨⟨b,hb⟩,hr⟩=>by obtain⟨es',k1,k2,k3,k4,k5,_⟩:=IsRnd.walk hb hr;exact⟨es',⟨k1,k3,k4,k5⟩,k2⟩) a2
 have pm:=q2.trans (zgY q1);exact⟨G,a3,pm.nodup_iff.mpr h1.nd,λe=>by rw[pm.mem_iff];exact h2 e⟩
theorem Cans.so{C:Cell->Bool}{ESS:List (List Edge)}{R:List Rnd}(h:Cans C ESS R){i:Nat}{r:Rnd}(hr:R[i]?=some r):∃es,ESS[i]?=some es/\Can C es r:=by have hi:=(Ad.mp hr).1;rw[h.al.length]at hi;exact⟨_,Aa hi,h.al.at (Aa hi) hr⟩
inductive Lnk (C:Cell->Bool):Edge->List Edge->Prop where
 |one (e:Edge):Lnk C e []
 |more {e:Edge} {es:List Edge}:Lnk C (nxt C e) es->Lnk C e (nxt C e::es)
structure Box where
 (a b c d:Int)
theorem VR.app{α:Type}{vs ws:List V}{l m:List α}{R:α->V->Hp->Prop}{H:Hp}(h:VR vs l R H)(k:VR ws m R H):VR (vs++ws) (l++m) R H:=by
 refine⟨by rw[Am,Am,h.1,k.1],λi x v h1 h2=>?_⟩
 by_cases hi:i<l.length
 .rw[Aw hi]at h1;rw[Aw (by rw[h.1];exact hi)]at h2;exact h.2 i x v h1 h2
 .rw[AK (by lia)]at h1;rw[AK (by rw[h.1];lia),h.1]at h2;exact k.2 _ x v h1 h2
noncomputable def lT(l:List (List Int)):PyData:=.list (l.map tI)
theorem zdO:∀l:List (List Int),BY (l.map tI)=true
 |[]=>rfl
 |x::l=>by
  have:=zaL x;unfold Bb at this;rw[Bd]at this;show (CL (tI x) && BY (l.map tI))=true;rw[this.1,zdO l];rfl
theorem zey:∀l:List (List Int),Cd (l.map tI)<=1
 |[]=>Ba _
 |x::l=>by show max (B8 (tI x)) (Cd (l.map tI))<=1;rw[ziC];have:=zey l;lia
theorem zgt(l:List (List Int)):Bb (lT l)=true:=by unfold Bb lT;rw[CL,zdO l,B8];have:=zey l;simp only[Bool.true_and,decide_eq_true_eq];lia
noncomputable def cI(c:Cell):List Int:=[c.1,c.2]
theorem zei{K:W.Frag}{H:Hp}:∀{vs:List V}{cs:List Cell},VR vs cs cR H->RDs K H vs ((cs.map cI).map tI)
 |[],[],_=>.nil
 |[],_::_,h=>by have:=h.1;cases this
 |_::_,[],h=>by have:=h.1;cases this
 |v::vs,r::R,h=>by
  obtain⟨⟨b,rfl,q⟩,h2⟩:=VR.cons.mp h;exact .cons (.tup (SqT.of q) (RDs.ints (cI r))) (zei h2)
theorem zh6{K:W.Frag}{H:Hp}{a:Addr}{vs:List V}{cs:List Cell}(e:SqL K H a vs)(h:VR vs cs cR H):RD K H (.ref a) (lT (cs.map cI)):=.lst e (zei h)
noncomputable def zgq(K:W.Frag):Sp:=λvs H Q _=>∃(v:V) (r:Rnd) (C:Cell->Bool) (es:List Edge),vs=[v]/\rR r v H/\Can C es r/\es.length<=480/\∀p H' us,H p=none->Same H H'->H' p=some (.lst us)->VR us es eR H'->Q (.ref p) H'
theorem zhx (g_walk_of:Fn P w K mg base 5 "walk_of" ["one"] (zhX K)) (d:Df K mg "edges_of" zcQ ["one"]):FnOk P w K mg base CX0 6 d.f d.fd ["one"] (zgq K):=by
 refine d.F.ok zhm (λvs H Q E h=>?_) (λcdv A outer s H vs Q E hr h=>?_)
 .obtain⟨v,r,C,es,rfl,_⟩:=h;rfl
 .obtain⟨v,r,C,es,rfl,hv,hc,hlen,k⟩:=h;have nb0:(["edge","step"]:List Str).Nodup:=by decide +kernel
  refine⟨_,(zae (zaj (zaW (osc:=zad zcQ) (N:=zfj) (N':=["edge","step"]) (sel:=[none,none]) bO (zaz (pC g_walk_of hr (pa_N (pv 0) zab))) (λ_ _ _ _ _=>(zcE (K:=K) (n:=2) (by rfl) (zag (nG 0 nb0) (zag (nG 1 nb0) zaA)))) (λ_ _ _ _ _=>zbH) (λ_ _ _ _ _=>(pv 0))))),?_⟩;refine⟨_,rfl,v,r,C,es,rfl,hv,hc.cl,hc.row,hc.bg,hc.so,by lia,λp H1 ws hp s1 e1 hw=>?_⟩;refine⟨p,rfl,⟨_,SqL.of e1⟩,λg hg=>?_⟩;have wl:ws.length=es.length:=by rw[hw.1,zbB]
  refine zau (K:=K) (a:=p) (xs:=ws) (λj σ H2=>∃o0 o1,σ=[o0,o1]/\Same H1 H2/\∃zs,H2 g=some (.lst zs)/\VR zs (es.take j) eR H2)
   ⟨_,_,rfl,Same.up hg,[],zaa,VR.nil⟩ (λj σ H2 _ ⟨_,_,_,s2,_⟩=>SqL.of (s2 _ _ e1)) ?_ ?_
  .rintro j u σ H2 hj ⟨o0,o1,rfl,s2,zs,e2,hz⟩;have hjl:j<ws.length:=(Ad.mp hj).1;obtain⟨⟨f,st⟩,he,B,bb,rfl,q1,q2⟩:=hw.at hj
   have hf:es[j]?=some f:=by
    unfold wk at he;rw[AF]at he;obtain⟨y,hy,ey⟩:=BN.mp he
    cases ey;exact hy
   have hl3:zs.length<=480:=by rw[hz.1,AR];lia
   refine⟨B,_,rfl,SqT.of (s2 _ _ q1),rfl,_,_,rfl,_,_,rfl,rfl,?_⟩;refine zcP ?_
   refine⟨_,rfl,zs,e2,zak (by lia),_,_,rfl,zar hg s2,_,zaa,?_⟩;rw[zaH hf];exact hz.snoc (λx v h=>h.kt (KT.lst e2)) ⟨bb,rfl,KT.lst e2 _ _ (s2 _ _ q2)⟩
  .rintro σ H2 ⟨o0,o1,rfl,s2,zs,e2,hz⟩;rw[wl,AS]at hz;exact k g H2 zs (s1.free hg) (s1.trans s2) e2 hz
noncomputable def spUp(K:W.Frag):Sp:=λvs H Q _=>∃(p:Addr) (us:List V) (es:List Edge),vs=[.ref p]/\H p=some (.lst us)/\VR us es eR H/\es.length<=480/\∀a H' kvs B,UD H H' a es kvs B->Q (.ref a) H'
theorem zhs (T:Txt P w K mg) (d:Df K mg "uprights" zdw ["edges"]):FnOk P w K mg base CX0 1 d.f d.fd ["edges"] (spUp K):=by
 refine d.F.ok zbN (λvs H Q E h=>?_) (λcdv A outer s H vs Q E hr h=>?_)
 .obtain⟨p,us,es,rfl,_⟩:=h;rfl
 .obtain⟨p,us,es,rfl,hp,hw,hlen,k⟩:=h
  refine⟨_,(zac (sE 1 zbN.nd zk0)
   (zac (zcb By rfl (zaz (pv 0)) (zbk (by rfl) (zag (nG 2 zbN.nd) (zag (nG 3 zbN.nd) (zag (nG 4 zbN.nd) zaA))))
   (zae (ps_if (zam op_eq (pv 4) zaf (zan _))
   (zae (zbS (pe_bm Bh Bm Bo zbb (zic (pv 1) (pv 3) (zaV zab) ⟨rfl,rfl,rfl,rfl⟩) (pa_B (pe_op za3 (pv 2) zaf) zab))))
   (zae (ps_if (zam op_eq (pv 4) zaf (zan _))
   (zae (zbS (pe_bm Bh Bm Bo zbb (zic (pv 1) (pv 3) (zaV zab) ⟨rfl,rfl,rfl,rfl⟩) (pa_N (pv 2) zab))))
   zaq)))))
   (zae (zaj (pv 1))))),?_⟩
  intro a ha;have U0:=UD.start ha;refine⟨_,rfl,p,rfl,⟨_,SqL.of (U0.same _ _ hp)⟩,?_⟩
  refine zau (K:=K) (a:=p) (xs:=us) (λj σ H2=>∃o2 o3 o4 kvs B,σ=[some (.ref p),some (.ref a),o2,o3,o4]/\UD H H2 a (es.take j) kvs B)
   ⟨_,_,_,_,_,rfl,U0⟩ (λj σ H2 _ ⟨_,_,_,_,_,_,U⟩=>SqL.of (U.same _ _ hp)) ?_ ?_
  .rintro j u σ H2 hj ⟨o2,o3,o4,kvs,B,rfl,U⟩;obtain⟨f,hf,bf,rfl,qf⟩:=hw.at hj;have hjl:j<es.length:=(Ad.mp hf).1;have hkl:kvs.length<=480:=by have:=U.len;rw[AR]at this;lia
   have hul:∀y,(upr (es.take j) y).length<=480:=λy=>by have h1:=AO (isUp y) (es.take j);have h2:=List.length_take_le j es;unfold upr;rw[Ap];lia
   refine⟨bf,_,rfl,SqT.of (U.same _ _ qf),rfl,_,_,rfl,_,_,rfl,_,_,rfl,rfl,?_⟩;refine⟨_,rfl,rfl,_,rfl,?_⟩;rw[zaH hf];refine ite2 (λhy=>?_) (λhn=>?_)
   .have hw1:f.w=1 := by have:=of_decide_eq_true hy;injection this with this;lia
    have hpx:V.int (px f)=V.int (f.c.1+1):=by simp[px,hw1]
    refine⟨_,rfl,a,rfl,.inl ⟨kvs,.inl U.dict⟩,_,rfl,Ba _,λz hz=>?_⟩;have nz:∀{b o},H2 b=some o->b≠z:=λq w=>by rw[w,hz]at q;cases q
    refine⟨kvs,.inl f.c.2,by rw[zai (nz U.dict)];exact U.dict,rfl,zak (by lia),λv hv=>?_,λhv=>?_⟩
    .by_cases hy:upr (es.take j) f.c.2=[]
     .rw[U.no _ hy]at hv;cases hv
     .obtain⟨b1,b2,b3,b4⟩:=U.at_ _ hy;rw[b1]at hv
      cases hv
      have e3:upd H2 z (.lst []) (B f.c.2)=some (.lst ((upr (es.take j) f.c.2).map V.int)):=by rw[zai (nz b2)];exact b2
      have U':=U.more (Or.inl hw1) hz hy;rw[hpx]at U';exact⟨.inl ⟨rfl,_,SqL.of e3⟩,_,rfl,_,_,rfl,rfl,_,_,_,rfl,rfl,e3,zak (by rw[Ap];have:=hul f.c.2;lia),_,_,_,kvs,B,rfl,U'⟩
    .have hy:upr (es.take j) f.c.2=[]:=Cf λhy=>by rw[(U.at_ _ hy).1]at hv;cases hv
     have e3:upd (upd H2 z (.lst [])) a (.dK (putK kvs (.inl f.c.2) (.ref z))) z=some (.lst []):=by rw[zai (nz U.dict).symm];exact zaa
     have U':=U.first (Or.inl hw1) hz hy;rw[hpx]at U';exact⟨.inl ⟨rfl,_,SqL.of e3⟩,_,rfl,_,_,rfl,rfl,_,_,_,rfl,rfl,e3,zak (by simp),_,_,_,_,_,rfl,U'⟩
   .have hw1:f.w≠1:=λz=>hn (by rw[z];rfl)
    refine⟨_,rfl,rfl,_,rfl,?_⟩;refine ite2 (λhy=>?_) (λhn3=>?_)
    .have hw1:f.w=3 := by have:=of_decide_eq_true hy;injection this with this;lia
     have hpx:V.int (px f)=V.int f.c.1:=by simp[px,hw1]
     refine⟨_,rfl,a,rfl,.inl ⟨kvs,.inl U.dict⟩,_,rfl,Ba _,λz hz=>?_⟩;have nz:∀{b o},H2 b=some o->b≠z:=λq w=>by rw[w,hz]at q;cases q
     refine⟨kvs,.inl f.c.2,by rw[zai (nz U.dict)];exact U.dict,rfl,zak (by lia),λv hv=>?_,λhv=>?_⟩
     .by_cases hy:upr (es.take j) f.c.2=[]
      .rw[U.no _ hy]at hv;cases hv
      .obtain⟨b1,b2,b3,b4⟩:=U.at_ _ hy;rw[b1]at hv
       cases hv
       have e3:upd H2 z (.lst []) (B f.c.2)=some (.lst ((upr (es.take j) f.c.2).map V.int)):=by rw[zai (nz b2)];exact b2
       have U':=U.more (Or.inr hw1) hz hy;rw[hpx]at U';exact⟨.inl ⟨rfl,_,SqL.of e3⟩,_,rfl,_,_,_,rfl,rfl,e3,zak (by rw[Ap];have:=hul f.c.2;lia),_,_,_,kvs,B,rfl,U'⟩
     .have hy:upr (es.take j) f.c.2=[]:=Cf λhy=>by rw[(U.at_ _ hy).1]at hv;cases hv
      have e3:upd (upd H2 z (.lst [])) a (.dK (putK kvs (.inl f.c.2) (.ref z))) z=some (.lst []):=by rw[zai (nz U.dict).symm];exact zaa
      have U':=U.first (Or.inr hw1) hz hy;rw[hpx]at U';exact⟨.inl ⟨rfl,_,SqL.of e3⟩,_,rfl,_,_,_,rfl,rfl,e3,zak (by simp),_,_,_,_,_,rfl,U'⟩
    .have hw3:f.w≠3:=λz=>hn3 (by rw[z];rfl)
     exact⟨_,_,_,kvs,B,rfl,U.skip (λz=>z.elim hw1 hw3)⟩
  .rintro σ H2 ⟨o2,o3,o4,kvs,B,rfl,U⟩;rw[show us.length=es.length from hw.1,AS]at U;exact⟨_,rfl,k a H2 kvs B U⟩
noncomputable def Boxed(m:Nat)(cs:List Cell):Prop:=∃(x y:Int) (w h:Nat),w*h<=m/\∀c∈cs,x<=c.1/\c.1<x+w/\y<=c.2/\c.2<y+h
noncomputable def apart(o:Cell)(k:Int)(c:Cell):Cell:=(o.1+(c.1-o.1)*k,o.2+(c.2-o.2)*k)
noncomputable def znF(H:Hp)(p:Addr)(t:Int):Prop:=∃c:Int,H p=some (.lst [.int c,.int t])/\0<=t/\t<2 ^ 40
theorem cpow{i j:Int}(h:0<=j/\j<=1000000/\i.natAbs<2 ^ 64):CPow i j:=h
noncomputable def zh0(K:W.Frag):Sp:=λvs H Q _=>∃(a:Addr) (ns:List Int) (k:Nat),vs=[.ref a,.int k]/\SqL K H a (ns.map V.int)/\∀n,Q (.int n) H
theorem zeK (T:Txt P w K mg) (d:Df K mg "_law_cell_at" zb3 ["_law_script","_law_k"]):FnOk P w K mg base CX0 1 d.f d.fd ["_law_script","_law_k"] (zh0 K):=by
 refine d.F.ok zec (λvs H Q E h=>?_) (λcdv A outer s H vs Q E hr h=>?_)
 .obtain⟨a,ns,k,rfl,_⟩:=h;rfl
 .obtain⟨a,ns,i,rfl,hq,k⟩:=h
  refine⟨_,(zac (ps_if (zam op_lt (pv 1) (zap zaO (by rfl) T.nlen (by rfl) (pa_N (pv 0) zab)) (zan _))
   (zae (zaj (pe_ix zaQ (pv 0) (pv 1) (λ_ _=>rfl))))
   zaq)
   (zae (zaj zaf))),?_⟩
  refine⟨_,rfl,_,rfl,a,_,rfl,.inl hq,_,_,rfl,rfl,_,rfl,?_⟩;refine ite2 (λhy=>?_) (λhn=>k 0)
  have hlt:i<ns.length:=by have:=of_decide_eq_true hy;rw[Ap]at this;lia
  exact⟨_,rfl,_,rfl,a,_,_,_,rfl,rfl,hq,zay (v:=.int ns[i]) (by simp[hlt]),k _⟩
noncomputable def zlA:Sp:=λvs H Q _=>∃(p:Addr) (t b:Int),vs=[.ref p,.int b]/\znF H p t/\0<b/\b.natAbs.log2<9000/\∀(n c:Int),0<=n->n<b->Q (.int n) (upd H p (.lst [.int c,.int (t+1)]))
theorem zhu (T:Txt P w K mg) (d:Df K mg "_law_take" zc6 ["_law_pen","_law_base"]):FnOk P w K mg base CX0 1 d.f d.fd ["_law_pen","_law_base"] zlA:=by
 refine d.F.ok zbC (λvs H Q E h=>?_) (λcdv A outer s H vs Q E hr h=>?_)
 .obtain⟨p,t,b,rfl,_⟩:=h;rfl
 .obtain⟨p,t,b,rfl,⟨c,hp,ht0,ht1⟩,hb,hlog,k⟩:=h
  refine⟨_,(zac (zbD (pe_op za3 (pe_ix zaQ (pv 0) zaf (λ_ _=>rfl)) zaf) (zlM (pv 0) zaf zh2))
   (zac (ps_if (zam op_ge (zap ziG (by rfl) T.nabs (by rfl) (zah (pe_ix zaQ (pv 0) zaf (λ_ _=>rfl)) zab)) (pe_op zgH zaf zaf) (zan _))
   (zac (sE 2 zbC.nd (pe_op zbv (zap ziG (by rfl) T.nabs (by rfl) (zah (pe_ix zaQ (pv 0) zaf (λ_ _=>rfl)) zab)) (pe_op zgH zaf zaf)))
   (zac (zbD (pe_op za3 (pe_op zgH zaf zaf) (pe_op zif (pv 2) (pv 1))) (zlM (pv 0) zaf zh2))
   (zae (zaj (pe_op zbr (pv 2) (pv 1))))))
   zaq)
   (zac (sE 3 zbC.nd (pe_op za3 (pe_op zc0 (pe_op zbr (pe_ix zaQ (pv 0) zaf (λ_ _=>rfl)) zaf) zaf) (pe_op zc0 (pe_op zc0 zaf (pe_ix zaQ (pv 0) zaf (λ_ _=>rfl))) (pe_ix zaQ (pv 0) zaf (λ_ _=>rfl)))))
   (zac (sE 3 zbC.nd (pe_op zbr (pe_op za3 (pe_op za3 (pv 3) (pe_op zc0 zaf (pe_ix zaQ (pv 0) zaf (λ_ _=>rfl)))) zaf) zaf))
   (zac (sE 3 zbC.nd (pe_op zbr (pe_op za3 (pe_op za3 (pe_op zc0 (pv 3) (pv 3)) (pe_op zc0 zaf (pv 3))) (pe_ix zaQ (pv 0) zaf (λ_ _=>rfl))) zaf))
   (zae (zaj (pe_op zbr (pe_op zjR (pv 3) zaf) (pv 1))))))))),?_⟩
  refine⟨_,rfl,p,_,_,_,rfl,rfl,SqL.of hp,zay (j:=1) rfl,_,_,rfl,rfl,_,rfl,p,_,_,1,rfl,rfl,hp,rfl,?_⟩;have h1:upd H p (.lst [.int c,.int (t+1)]) p=some (.lst [.int c,.int (t+1)]):=zaa;have hmod:∀z:Int,0<=z % b/\z % b<b:=λz=>⟨Int.emod_nonneg _ (by lia),Int.emod_lt_of_pos _ hb⟩
  refine⟨_,rfl,p,_,_,_,rfl,rfl,SqL.of h1,zay (j:=0) rfl,c,rfl,_,_,rfl,rfl,(by refine cpow ?_;decide),_,_,rfl,rfl,_,rfl,?_⟩;refine ite2 (λ_=>?_) (λ_=>?_)
  .refine⟨_,rfl,p,_,_,_,rfl,rfl,SqL.of h1,zay (j:=0) rfl,c,rfl,_,_,rfl,rfl,(by refine cpow ?_;decide),_,_,rfl,rfl,?_⟩;refine⟨_,_,rfl,rfl,(by refine cpow ?_;decide),_,rfl,_,rfl,_,_,rfl,rfl,⟨hb,hlog⟩,_,_,rfl,rfl,_,rfl,p,_,_,0,rfl,rfl,h1,rfl,?_⟩;refine⟨_,rfl,_,rfl,_,_,rfl,rfl,hb,?_⟩;rw[zlZ];exact k _ _ (hmod _).1 (hmod _).2
  .refine⟨_, rfl, p, _, _, _, rfl, rfl, SqL.of h1, zay (j := 0) rfl, _, _, rfl, rfl, (by show (0:Int) < 2147483647; decide), _, _, rfl, rfl, .inr ⟨by decide, by decide⟩,
    _,rfl,p,_,_,_,rfl,rfl,SqL.of h1,zay (j:=1) rfl,_,_,rfl,rfl,.inl ⟨by decide,by decide⟩,_,rfl,p,_,_,_,rfl,rfl,SqL.of h1,zay (j:=1) rfl,_,_,rfl,rfl,.inr ⟨by lia,by lia⟩,_,_,rfl,rfl,?_⟩
   refine⟨_,rfl,_,rfl,p,_,_,_,rfl,rfl,SqL.of h1,zay (j:=1) rfl,_,_,rfl,rfl,.inl ⟨by decide,by decide⟩,_,_,rfl,rfl,_,_,rfl,rfl,_,_,rfl,rfl,(by show (0:Int)<2147483629;decide),?_⟩
   refine⟨_,rfl,_,rfl,_,_,rfl,rfl,.inl ⟨Int.lt_of_lt_of_le (show (-(2 ^ 64):Int)<0 by decide) (Int.emod_nonneg _ (by decide)),Int.lt_trans (Int.emod_lt_of_pos _ (by decide)) (by decide)⟩,_,rfl,_,_,rfl,rfl,.inl ⟨by decide,by decide⟩,_,_,rfl,rfl,
    _,rfl,p,_,_,_,rfl,rfl,SqL.of h1,zay (j:=1) rfl,_,_,rfl,rfl,_,_,rfl,rfl,(by show (0:Int)<2147483587;decide),?_⟩
   refine⟨_,rfl,_,_,rfl,rfl,⟨by decide,by decide⟩,_,rfl,_,_,rfl,rfl,hb,?_⟩;exact k _ _ (hmod _).1 (hmod _).2
noncomputable def HasB(H:Hp)(p:Addr)(n:Nat):Prop:=∃c t:Int,H p=some (.lst [.int c,.int t])/\0<=t/\t+n<2 ^ 40
theorem HasB.le{H:Hp}{p:Addr}{n m:Nat}(h:HasB H p n)(hm:m<=n):HasB H p m:=let ⟨c,t,e,a,b⟩:=h;⟨c,t,e,a,by lia⟩
theorem HasB.same{H H':Hp}{p:Addr}{n:Nat}(h:HasB H p n)(s:Same H H'):HasB H' p n:=let ⟨c,t,e,a,b⟩:=h;⟨c,t,s _ _ e,a,b⟩
noncomputable def But(H H':Hp)(p:Addr):Prop:=∀z o,z≠p->H z=some o->H' z=some o
theorem But.refl(H:Hp)(p:Addr):But H H p:=λ_ _ _ h=>h
theorem But.trans{H H1 H2:Hp}{p:Addr}(a:But H H1 p)(b:But H1 H2 p):But H H2 p:=λz o hz h=>b z o hz (a z o hz h)
theorem But.of{H H1:Hp}{p:Addr}(a:Same H H1):But H H1 p:=λz o _ h=>a z o h
theorem But.free{H H1:Hp}{p q:Addr}{n:Nat}(a:But H H1 p)(h:HasB H p n)(hq:H1 q=none)(hp:HasB H1 p 0):H q=none:=by
 obtain⟨c,t,e,_⟩:=hp;have hne:q≠p:=λz=>by subst z;rw[e]at hq;cases hq
 cases x:H q with
 |none=>rfl
 |some o=>rw[a q o hne x]at hq;cases hq
theorem But.kt{H H1:Hp}{p:Addr}{n:Nat}(a:But H H1 p)(h:HasB H p n):KT H H1:=λb xs e=>by obtain⟨c,t,ep,_⟩:=h;exact a b _ (ne_of e ep (λz=>nomatch z)) e
theorem zkJ{A:Prop}{D:Int->Hp->Prop}(C:Int->Hp->Prop)(g:(∀n H1,D n H1->C n H1)->A)(h:∀n H1,D n H1->C n H1):A:=g h
theorem zaK{b:Int}(h0:0<b)(h:b<=1000):b.natAbs.log2<9000:=by refine (Nat.log2_lt (by lia)).mpr (A7 (show b.natAbs<2 ^ 10 by lia) (Nat.pow_le_pow_right (by decide) (by decide)))
noncomputable def spTk:Sp:=λvs H Q _=>∃(p:Addr) (n:Nat) (b:Int),vs=[.ref p,.int b]/\HasB H p (n+1)/\0<b/\b.natAbs.log2<9000/\∀(r:Int) (H':Hp),0<=r->r<b->But H H' p->HasB H' p n->Q (.int r) H'
theorem tk_of {f:Addr}{fd:Bz}(h:FnOk P w K mg base CX0 1 f fd ["_law_pen","_law_base"] zlA):FnOk P w K mg base CX0 1 f fd ["_law_pen","_law_base"] spTk:=by
 refine h.imp λvs H Q E h=>?_
 obtain⟨p,n,b,rfl,⟨c,t,e,h0,h1⟩,hb,hl,k⟩:=h;refine⟨p,t,b,rfl,⟨c,e,h0,by lia⟩,hb,hl,λr c' h2 h3=>k r _ h2 h3 (λz o hz h=>by rw[zai hz];exact h) ⟨c',t+1,zaa,by lia,by lia⟩⟩
noncomputable abbrev Tk (P:AD) (w:A5) (K:W.Frag) (mg:Str->Option Value) (base:Heap):=Fn P w K mg base 1 "_law_take" ["_law_pen","_law_base"] spTk
noncomputable def spFar:Sp:=λvs H Q _=>∃(p:Addr) (n:Nat),vs=[.ref p]/\HasB H p (n+3)/\∀(r:Int) (H':Hp),-(2 ^ 104)<r/\r<2 ^ 104->But H H' p->HasB H' p n->Q (.int r) H'
theorem atI3{a b c:V}{n:Int}(h0:0<=n)(h3:n<3):∃v,atI [a,b,c] n=some v/\(v=a∨v=b∨v=c):=by
 have:n=0∨n=1∨n=2:=by lia
 rcases this with rfl |rfl |rfl
 .exact⟨a,rfl,.inl rfl⟩
 .exact⟨b,rfl,.inr (.inl rfl)⟩
 .exact⟨c,rfl,.inr (.inr rfl)⟩
theorem ziX (g__law_take:Tk P w K mg base) (d:Df K mg "_law_far" zdy ["_law_pen"]):FnOk P w K mg base CX0 2 d.f d.fd ["_law_pen"] spFar:=by
 refine d.F.ok zeb (λvs H Q E h=>?_) (λcdv A outer s H vs Q E hr h=>?_)
 .obtain⟨p,n,rfl,_⟩:=h;rfl
 .obtain⟨p,n,rfl,hp,k⟩:=h
  refine⟨_,(zac (sE 1 zeb.nd (pC g__law_take hr (pa_N (pv 0) (pa_C zaf zab))))
   (zac (ps_if (zam op_lt (pv 1) zaf (zan _))
   (zae (zaj (pe_ix zaQ (zaV (pa_C zaf (pa_B (pe_op zbv (pC g__law_take hr (pa_N (pv 0) (pa_C zaf zab))) zaf) (pa_B (pe_op zbv (pC g__law_take hr (pa_N (pv 0) (pa_C zaf zab))) zaf) zab)))) (pv 1) (λ_ _=>rfl))))
   zaq)
   (zae (zaj (pe_op za3 (pe_op zbv (pC g__law_take hr (pa_N (pv 0) (pa_B (pe_op zbv (pe_op zc0 zaf (pe_op zgH zaf zaf)) zaf) zab))) (pe_op zgH zaf zaf)) zaf))))),?_⟩
  refine⟨_,rfl,p,n+2,4,rfl,hp,by decide,zaK (by decide) (by decide),λr H1 h0 h4 b1 p1=>?_⟩;refine⟨_,rfl,_,_,rfl,rfl,_,rfl,?_⟩;refine ite2 (λhy=>?_) (λhn=>?_)
  .have h3:r<3:=of_decide_eq_true hy;refine⟨_,rfl,p,n+1,41,rfl,p1,by decide,zaK (by decide) (by decide),λr2 H2 x1 x2 b2 p2=>⟨_,_,rfl,rfl,?_⟩⟩;refine⟨_,rfl,p,n,2000001,rfl,p2,by decide,by decide +kernel,λr3 H3 y1 y2 b3 p3=>⟨_,_,rfl,rfl,three,λl hl=>?_⟩⟩;obtain⟨v,hv,hor⟩:=atI3 (a:=.int 0) (b:=.int (r2-20)) (c:=.int (r3-1000000)) h0 h3;refine⟨_,rfl,l,_,_,v,rfl,rfl,SqL.of zaa,hv,?_⟩;have fin:∀z:Int,-(2 ^ 104)<z/\z<2 ^ 104->Q (.int z) (upd H3 l (.lst [.int 0,.int (r2-20),.int (r3-1000000)])):=λz hz=>k z _ hz ((b1.trans (b2.trans b3)).trans (But.of (Same.up hl))) (p3.same (Same.up hl))
   rcases hor with z |z |z <;> rw[z] <;> exact fin _ (by lia)
  .refine⟨_,rfl,_,_,rfl,rfl,(by refine cpow ?_;decide),_,_,rfl,rfl,.inl ⟨by decide,by decide⟩,_,_,rfl,rfl,p,n+1,_,rfl,p1,(by decide),(by decide +kernel),λr2 H2 x1 x2 b2 p2=>?_⟩;refine⟨_,_,rfl,rfl,(by refine cpow ?_;decide),_,_,rfl,rfl,_,_,rfl,rfl,?_⟩;refine k _ _ ?_ (b1.trans b2) (p2.le (by lia))
   have x2':r2<2*10 ^ 30-799:=x2;show -(2 ^ 104)<r2-10 ^ 30+400/\r2-10 ^ 30+400<2 ^ 104;lia
noncomputable def zjl:Sp:=λvs H Q _=>∃(p:Addr) (n:Nat) (way x y wd hg:Int),vs=[.ref p,.int way,.int x,.int y,.int wd,.int hg]/\0<=way/\HasB H p (n+1)/\∀(b:Bool) (H':Hp),But H H' p->HasB H' p n->Q (.bl b) H'
theorem zem (T:Txt P w K mg) (g__law_take:Tk P w K mg base) (d:Df K mg "_law_is_there" zbR ["_law_pen", "_law_way", "_law_x", "_law_y", "_law_wide", "_law_high"]) :
  FnOk P w K mg base CX0 2 d.f d.fd ["_law_pen","_law_way","_law_x","_law_y","_law_wide","_law_high"] zjl:=by
 refine d.F.ok zdS (λvs H Q E h=>?_) (λcdv A outer s H vs Q E hr h=>?_)
 .obtain⟨p,n,way,x,y,wd,hg,rfl,_⟩:=h;rfl
 .obtain⟨p,n,way,x,y,wd,hg,rfl,hw,hp,k⟩:=h
  refine⟨_,(zac (ps_if (zam op_eq (pv 1) zaf (zan _))
   (zae (zaj pe_bl))
   zaq)
   (zac (ps_if (zam op_lt (pv 1) zaf (zan _))
   (zae (zaj (zbq op_lt (pC g__law_take hr (pa_N (pv 0) (zah (pe_ix zaQ (zaV (pa_C zaf (pa_C zaf (pa_C zaf zab)))) (pe_op zbv (pv 1) zaf) (λ_ _=>rfl)) zab))) (pe_ix zaQ (zaV (pa_C zaf (pa_C zaf (pa_C zaf zab)))) (pe_op zbv (pv 1) zaf) (λ_ _=>rfl)) (zan _))))
   zaq)
   (zac (ps_if (zam op_eq (pv 1) zaf (zan _))
   (zae (zaj (zbq op_eq (pe_op zbr (zap (zkw rfl) (by rfl) T.nmin (by rfl) (pa_N (pv 2) (pa_N (pv 3) (pa_B (pe_op zbv (pe_op zbv (pv 4) zaf) (pv 2)) (pa_B (pe_op zbv (pe_op zbv (pv 5) zaf) (pv 3)) zab))))) zaf) zaf (zan _))))
   zaq)
   (zae (zaj (pe_or (zbq op_eq (pe_op zbr (pe_op za3 (pv 2) (pv 3)) zaf) zaf (zan _)) (zgF (zbq op_eq (pC g__law_take hr (pa_N (pv 0) (pa_C zaf zab))) zaf (zan _))))))))),?_⟩
  have fin:∀b,Q (.bl b) H:=λb=>k b H (But.refl _ _) (hp.le (by lia))
  refine⟨_,rfl,rfl,_,rfl,?_⟩;refine ite2 (λ_=>fin _) (λhn0=>?_);refine⟨_,rfl,_,_,rfl,rfl,_,rfl,?_⟩;refine ite2 (λhy=>?_) (λ_=>?_)
  .have h4:way<4:=of_decide_eq_true hy;have hne:way≠0:=λz=>hn0 (by rw[z];rfl)
   refine⟨_,rfl,three,λl hl=>?_⟩;obtain⟨v,hv,hor⟩:=atI3 (a:=V.int 2) (b:=V.int 5) (c:=V.int 4) (n:=way-1) (by lia) (by lia)
   obtain⟨bb,rfl,hb0,hb1⟩:∃bb:Int,v=.int bb/\0<bb/\bb<=1000:=by
    rcases hor with z |z |z
    .exact⟨2,z,by decide,by decide⟩
    .exact⟨5,z,by decide,by decide⟩
    .exact⟨4,z,by decide,by decide⟩
   refine⟨_,rfl,_,_,rfl,rfl,l,_,_,_,rfl,rfl,SqL.of zaa,hv,p,n,bb,rfl,hp.same (Same.up hl),hb0,zaK hb0 hb1,λr H1 _ _ b1 p1=>?_⟩;refine⟨three,λl2 hl2=>?_⟩;obtain⟨v2,hv2,hor2⟩:=atI3 (a:=V.int 1) (b:=V.int 4) (c:=V.int 1) (n:=way-1) (by lia) (by lia)
   obtain⟨b2,rfl⟩:∃bb:Int,v2=.int bb:=by
    rcases hor2 with z |z |z
    .exact⟨1,z⟩
    .exact⟨4,z⟩
    .exact⟨1,z⟩
   refine⟨_,rfl,_,_,rfl,rfl,l2,_,_,_,rfl,rfl,SqL.of zaa,hv2,_,_,rfl,rfl,?_⟩;exact k _ _ (((But.of (Same.up hl)).trans b1).trans (But.of (Same.up hl2))) (p1.same (Same.up hl2))
  .refine⟨_,rfl,rfl,_,rfl,?_⟩;refine ite2 (λ_=>?_) (λ_=>?_)
   .refine⟨_,rfl,_,rfl,_,rfl,_,_,rfl,rfl,_,rfl,_,_,rfl,rfl,_,rfl,_,_,rfl,rfl,_,rfl,_,_,rfl,rfl,_,_,_,_,rfl,λz=>⟨_,_,rfl,rfl,(by show (0:Int)<2;decide),rfl,fin _⟩⟩
   .refine⟨_,rfl,_,rfl,_,_,rfl,rfl,_,_,rfl,rfl,(by show (0:Int)<2;decide),rfl,_,rfl,?_⟩;refine ite2 (λ_=>fin _) (λ_=>?_);refine⟨_,rfl,p,n,6,rfl,hp,by decide,zaK (by decide) (by decide),λr H1 _ _ b1 p1=>⟨rfl,k _ _ b1 p1⟩⟩
noncomputable def Bef(cs:List Cell)(x y:Int):Prop:=∀c∈cs,c.2<y∨(c.2=y/\c.1<x)
theorem InOrd.snoc{cs:List Cell}{x y:Int}(h:InOrd cs)(b:Bef cs x y):InOrd (cs++[(x,y)]):=λi c e h1 h2=>by
 have hi:i+1<(cs++[(x,y)]).length:=(Ad.mp h2).1;rw[Am,BP]at hi;rw[Aw (by lia)]at h1;rcases AY (i+1) cs.length with hl |hl
 .rw[Aw hl]at h2;exact h i c e h1 h2
 .rw[AK hl,show i+1-cs.length=0 by lia]at h2
  cases h2
  have hb:=b c (Ai h1);rw[HT.lexLt_cons];rcases hb with z |⟨z1,z2⟩
  .rw[if_neg (by lia)];exact decide_eq_true z
  .rw[if_pos z1,HT.lexLt_cons,if_neg (by lia)];exact decide_eq_true z2
noncomputable def CellB(c:Cell):Prop:=(-(2 ^ 105)<c.1/\c.1<2 ^ 105)/\-(2 ^ 105)<c.2/\c.2<2 ^ 105
noncomputable def zgn(K:W.Frag):Sp:=λvs H Q _=>∃(p:Addr) (n m:Nat),vs=[.ref p,.int m]/\HasB H p (n+(20+m))/\1<=m/\m<=200 /\
 ∀(a:Addr) (cs:List Cell) (H':Hp),H a=none->But H H' p->HasB H' p n->(∃vs,H' a=some (.lst vs)/\VR vs cs cR H')->InOrd cs->Boxed m cs->cs.length<=m->(∀c∈cs,CellB c)->Q (.ref a) H'
theorem zeJ (T:Txt P w K mg) (g__law_take:Tk P w K mg base) (g__law_far:Fn P w K mg base 2 "_law_far" ["_law_pen"] spFar)
    (g__law_is_there:Fn P w K mg base 2 "_law_is_there" ["_law_pen","_law_way","_law_x","_law_y","_law_wide","_law_high"] zjl) (d:Df K mg "_law_picture" zb2 ["_law_pen","_law_most"]) :
    FnOk P w K mg base CX0 3 d.f d.fd ["_law_pen","_law_most"] (zgn K):=by
  refine d.F.ok zaw (λvs H Q E h=>?_) (λcdv A outer s H vs Q E hr h=>?_)
  . obtain⟨p,n,m,rfl,_⟩:=h;rfl
  . obtain⟨p,n,m,rfl,hp,hm1,hm,k⟩:=h
    refine⟨_,(zac (sE 2 zaw.nd (pe_op za3 zaf (pC g__law_take hr (pa_N (pv 0) (zah (zdY (zam op_gt (pv 1) zaf (zan _)) (pe_ix zaQ (zaV (pa_C zaf (pa_N (pv 1) zab))) (za9 zcK (by rfl) T.nint (by rfl) (zah (zbq op_eq (pC g__law_take hr (pa_N (pv 0) (pa_C zaf zab))) zaf (zan _)) zab)) (λ_ _=>rfl)) (pv 1)) zab)))))
      (zac (sE 3 zaw.nd (pe_op za3 zaf (pC g__law_take hr (pa_N (pv 0) (pa_B (pe_op zif (pv 1) (pv 2)) zab)))))
      (zac (sE 4 zaw.nd (pC g__law_take hr (pa_N (pv 0) (pa_C zaf zab))))
      (zac (sE 5 zaw.nd (pC g__law_far hr (pa_N (pv 0) zab)))
      (zac (sE 6 zaw.nd (pC g__law_far hr (pa_N (pv 0) zab)))
      (zac (sE 7 zaw.nd (zaV zab))
      (zac (zcb By rfl (zdl (by rfl) T.nrange (pa_N (pv 3) zab)) (nG 8 zaw.nd)
      (zae (zcb By rfl (zdl (by rfl) T.nrange (pa_N (pv 2) zab)) (nG 9 zaw.nd)
      (zae (ps_if (zca (pC g__law_is_there hr (pa_N (pv 0) (pa_N (pv 4) (pa_N (pv 9) (pa_N (pv 8) (pa_N (pv 2) (pa_N (pv 3) zab))))))))
      (zae (zbS (pe_bm Bh Bm Bo zbb (pv 7) (pa_T (zas (pa_B (pe_op za3 (pv 9) (pv 5)) (pa_B (pe_op za3 (pv 8) (pv 6)) zab))) zab))))
      zaq)))))
      (zae (zaj (pv 7)))))))))),?_⟩
    refine zkJ (D:=λr H1=>0<=r/\r<m/\But H H1 p/\HasB H1 p (n+(18+m))) ?C (λshare=>?g) ?h
    case g =>
      refine⟨_,rfl,_,rfl,_,_,rfl,rfl,_,rfl,?_⟩;refine ite2 (λhy=>?_) (λhn=>?_)
      . have h12:(12:Int)<m:=of_decide_eq_true hy;refine⟨_,rfl,two,λl hl=>?_⟩;refine⟨_,rfl,p,n+(19+m),4,rfl,(hp.same (Same.up hl)).le (by lia),by decide,zaK (by decide) (by decide),λr H1 _ _ b1 p1=>?_⟩;refine⟨rfl,.inr ⟨_,rfl,?_⟩⟩;obtain⟨c0,t0,e0,_⟩:=hp;have hlp:l≠p:=λz=>by subst z;rw[e0]at hl;cases hl
        have l1:H1 l=some (.lst [.int 12,.int m]):=b1 _ _ hlp zaa
        obtain⟨v,hv,bb,rfl,hb0,hb1⟩:∃v,atI [V.int 12,V.int (m:Int)] (if decide (V.int r=V.int 0)=true then 1 else 0)=some v/\∃bb:Int,v=.int bb/\0<bb/\bb<=m:=by
          by_cases hz:decide (V.int r=V.int 0)=true
          . rw[if_pos hz];exact⟨_,rfl,m,rfl,by lia,by lia⟩
          . rw[if_neg hz];exact⟨_,rfl,12,rfl,by decide,by lia⟩
        refine⟨l,_,_,_,rfl,rfl,SqL.of l1,hv,p,n+(18+m),bb,rfl,p1.le (by lia),hb0,zaK hb0 (by lia),λr2 H2 h0 h2 b2 p2=>?_⟩;exact share r2 H2 ⟨h0,by lia,((But.of (Same.up hl)).trans b1).trans b2,p2⟩
      . refine⟨_,rfl,p,n+(18+m),m,rfl,hp.le (by lia),by lia,zaK (by lia) (by lia),λr2 H2 h0 h2 b2 p2=>?_⟩;exact share r2 H2 ⟨h0,h2,b2,p2⟩
    case h =>
      rintro r H1 ⟨h0,hrm,b1,p1⟩;refine⟨_,_,rfl,rfl,?_⟩;have hwd:0<1+r:=by lia
      obtain⟨W,hW⟩:∃W:Nat,(1+r:Int)=W:=⟨(1+r).toNat,by lia⟩;have hq1:1<=(m:Int) / (1+r):=Int.le_ediv_of_mul_le hwd (by lia);have hq2:(m:Int) / (1+r)<=m:=Int.ediv_le_self _ (by lia);have hq3:(1+r)*((m:Int) / (1+r))<=m:=Int.mul_ediv_self_le (by lia);refine⟨_,rfl,_,rfl,_,rfl,_,_,rfl,rfl,⟨hwd,zaK hwd (by lia)⟩,p,n+(17+m),_,rfl,p1.le (by lia),by lia,zaK (by lia) (by lia),λr2 H2 h20 h2 b2 p2=>⟨_,_,rfl,rfl,?_⟩⟩;obtain⟨G,hG⟩:∃G:Nat,(1+r2:Int)=G:=⟨(1+r2).toNat,by lia⟩
      have hWG:W*G<=m:=by
        have h1:(1+r)*(1+r2)<=(1+r)*((m:Int) / (1+r)):=Int.mul_le_mul_of_nonneg_left (by lia) (by lia);rw[hW,hG]at h1;rw[hW]at hq3
        have h2:((W*G:Nat):Int)<=m:=by rw[Int.natCast_mul];lia
        lia
      refine⟨_,rfl,p,n+(16+m),6,rfl,p2.le (by lia),by decide,zaK (by decide) (by decide),λr3 H3 h30 _ b3 p3=>?_⟩;refine⟨_,rfl,p,n+(13+m),rfl,p3.le (by lia),λdx H4 fx b4 p4=>?_⟩;refine⟨_,rfl,p,n+(10+m),rfl,p4.le (by lia),λdy H5 fy b5 p5=>?_⟩;refine⟨(by show 0<=sizeLine;decide),λq hq=>?_⟩;have b05:But H H5 p:=b1.trans (b2.trans (b3.trans (b4.trans b5)));have hq0:H q=none:=b05.free hp hq (p5.le (by lia))
      have hqp:q≠p:=λz=>by obtain⟨c0,t0,e0,_⟩:=hp;subst z;rw[e0]at hq0;cases hq0
      refine⟨_,rfl,1+r2,rfl,by lia,by lia,?_⟩;have hGn:(1+r2:Int).toNat=G:=by lia
      have hWn:(1+r:Int).toNat=W:=by lia
      rw[hGn]
      refine zcc (lo := 0) (n := G) (λi σ H6 => ∃o8 o9 cs vs, σ = [some (.ref p), some (.int m), some (.int (1 + r)), some (.int (1 + r2)), some (.int r3), some (.int dx), some (.int dy), some (.ref q), o8, o9] /\ But H H6 p /\ HasB H6 p (n + (m-W * i)) /\
          H6 q=some (.lst vs)/\VR vs cs cR H6/\InOrd cs/\(cs.length<=W*i/\(∀c∈cs,dx<=c.1/\c.1<dx+W/\dy<=c.2))/\Bef cs dx (dy+i))
        ⟨_,_,[],[],rfl,b05.trans (But.of (Same.up hq)),(p5.same (Same.up hq)).le (by lia),zaa,VR.nil,(λi c e h=>by simp at h),⟨Ba _,λc hc=>by cases hc⟩,(λc hc=>by cases hc)⟩ ?_ ?_
      . rintro i σ H6 hi ⟨o8,o9,cs,vs,rfl,b6,p6,q6,hv,ho,hl,hbf⟩;have hWi:W*i+W<=W*G:=by rw[<- Nat.mul_succ];exact Nat.mul_le_mul_left _ hi
        refine⟨_,rfl,1+r,rfl,by lia,by lia,?_⟩;rw[hWn]
        refine zcc (lo := 0) (n := W) (λj σ H7 => ∃o9 cs vs, σ = [some (.ref p), some (.int m), some (.int (1 + r)), some (.int (1 + r2)), some (.int r3), some (.int dx), some (.int dy), some (.ref q), some (.int (0 + (i:Int))), o9] /\ But H H7 p /\ HasB H7 p (n + (m-(W * i + j))) /\
            H7 q=some (.lst vs)/\VR vs cs cR H7/\InOrd cs/\(cs.length<=W*i+j/\(∀c∈cs,dx<=c.1/\c.1<dx+W/\dy<=c.2))/\Bef cs (dx+j) (dy+i))
          ⟨_,cs,vs,rfl,b6,p6,q6,hv,ho,hl,by simpa using hbf⟩ ?_ ?_
        . rintro j σ H7 hj ⟨o9,cs,vs,rfl,b7,p7,q7,hv,ho,⟨hl,hbox⟩,hbf⟩;refine⟨_,rfl,_,rfl,_,rfl,_,rfl,_,rfl,_,rfl,p,n+(m-(W*i+j+1)),_,_,_,_,_,rfl,h30,p7.le (by lia),λb H8 b8 p8=>⟨_,rfl,?_⟩⟩;have q8:=b8 _ _ hqp q7;have kt8:=b8.kt p7;refine ite2 (λ_=>?_) (λ_=>?_)
          . have hvl:vs.length<=1000:=by rw[hv.1];lia
            refine⟨_,rfl,.inl ⟨rfl,_,SqL.of q8⟩,_,rfl,_,rfl,_,_,rfl,rfl,_,rfl,_,rfl,_,_,rfl,rfl,two,λa ha=>?_⟩;have haq:q≠a:=zal q8 ha;refine⟨q,vs,_,rfl,rfl,(by rw[zai haq];exact q8),zak hvl,?_⟩
            have hap:a≠p:=λz=>by obtain⟨c0,t0,e0,_⟩:=p8;subst z;rw[e0]at ha;cases ha
            obtain⟨nc,hnc⟩:∃nc:Cell,nc=(dx+(j:Int),dy+(i:Int)):=⟨_,rfl⟩
            have hcell:[V.int (0+(j:Int)+dx),V.int (0+(i:Int)+dy)]=cellT nc:=by rw[hnc];unfold cellT;rw[show 0+(j:Int)+dx=dx+j by lia,show 0+(i:Int)+dy=dy+i by lia]
            rw[hcell];have k2:KT (upd H8 a (.tup (cellT nc))) (upd (upd H8 a (.tup (cellT nc))) q (.lst (vs++[.ref a]))):=KT.lst (xs:=vs) (by rw[zai haq];exact q8);refine⟨_,cs++[nc],vs++[.ref a],rfl,(λz o hz h=>?_),?_,zaa,?_,?_,?_,?_⟩
            . rw[zai (zal h hq0)];exact Same.up ha _ _ (b8 _ _ hz (b7 _ _ hz h))
            . obtain⟨c0,t0,e0,h1,h2⟩:=p8;refine⟨c0,t0,?_,h1,by lia⟩;rw[zai (BG hqp),zai (BG hap)];exact e0
            . exact hv.snoc (λx v hx=>hx.kt (kt8.trans ((KT.up ha).trans k2))) ⟨a,rfl,k2 _ _ zaa⟩
            . rw[hnc];exact ho.snoc hbf
            . refine⟨by rw[Am,BP];lia,λc hc=>?_⟩;rcases AQ.mp hc with z |z
              . exact hbox c z
              . rw[Aj.mp z,hnc];exact⟨by show dx<=dx+(j:Int);lia,by show dx+(j:Int)<dx+(W:Int);lia,by show dy<=dy+(i:Int);lia⟩
            . intro c hc;rcases AQ.mp hc with z |z
              . rcases hbf c z with y |⟨y1,y2⟩
                . exact .inl y
                . exact .inr ⟨y1,by lia⟩
              . rw[Aj.mp z,hnc];exact .inr ⟨rfl,by show dx+(j:Int)<dx+((j+1:Nat):Int);lia⟩
          . refine⟨_,cs,vs,rfl,b7.trans b8,p8.le (by lia),q8,hv.mono λx v hx=>hx.kt kt8,ho,⟨by lia,hbox⟩,λc hc=>?_⟩;rcases hbf c hc with y |⟨y1,y2⟩
            . exact .inl y
            . exact .inr ⟨y1,by lia⟩
        . rintro σ H7 ⟨o9,cs,vs,rfl,b7,p7,q7,hv,ho,⟨hl,hbox⟩,hbf⟩;refine⟨_,_,cs,vs,rfl,b7,?_,q7,hv,ho,⟨by rw[Nat.mul_succ];exact hl,hbox⟩,λc hc=>?_⟩
          . rw[Nat.mul_succ];exact p7
          . rcases hbf c hc with y |⟨y1,y2⟩
            . exact .inl (by lia)
            . exact .inl (by lia)
      . rintro σ H6 ⟨o8,o9,cs,vs,rfl,b6,p6,q6,hv,ho,⟨hl,hbox⟩,hbf⟩
        have hcell:∀c∈cs,dx<=c.1/\c.1<dx+W/\dy<=c.2/\c.2<dy+G:=λc hc=>by
          obtain⟨x1,x2,x3⟩:=hbox c hc;refine⟨x1,x2,x3,?_⟩;rcases hbf c hc with y |⟨y1,y2⟩
          . exact y
          . lia
        refine⟨_,rfl,k q cs H6 hq0 b6 (p6.le (by lia)) ⟨_,q6,hv⟩ ho ⟨dx,dy,W,G,hWG,hcell⟩ (by lia) λc hc=>?_⟩;obtain⟨x1,x2,x3,x4⟩:=hcell c hc;have hW2:W<=200:=by lia
        have hG2:G<=200:=by lia
        unfold CellB;lia
theorem zje(es:List Edge)(y x:Int):((upr es y).filter λp=>decide (p<=x)).length=(es.filter (upL y x)).length:=by
 unfold upr;rw[List.filter_map,Ap,List.filter_filter]
 congr 1
 refine List.filter_congr λe _=>?_
 rw[Cu];unfold upL isUp px;simp only[Function.comp,Bd,Bool.or_eq_true,decide_eq_true_eq,beq_iff_eq];constructor
 .rintro⟨h1,h2⟩;rcases h2.1 with z |z
  .rw[if_pos (.inl z)]at h1;exact⟨h2.2,.inl ⟨z,h1⟩⟩
  .rw[if_neg (by lia)]at h1;exact⟨h2.2,.inr ⟨z,by lia⟩⟩
 .rintro⟨h1,⟨z,h2⟩ |⟨z,h2⟩⟩
  .rw[if_pos (.inl z)];exact⟨h2,.inl z,h1⟩
  .rw[if_neg (by lia)];exact⟨by lia,.inr z,h1⟩
theorem zew{α:Type}(p:α->Bool){l:List α}{j:Nat}{x:α}(h:l[j]?=some x):(l.take (j+1)).filter p=(l.take j).filter p++(if p x=true then [x] else []):=by
 rw[zaH h,D3]
 congr 1
 cases z:p x <;> simp[z]
noncomputable def zlE:Sp:=λvs H Q _=>∃(a:Addr) (x y:Int) (H0:Hp) (es:List Edge) (kvs:List (Key×V)) (B:Int->Addr),vs=[.ref a,.int x,.int y]/\UD H0 H a es kvs B/\es.length<=480/\∀H',Same H H'->Q (.bl (decide ((es.filter (upL y x)).length % 2=1))) H'
theorem zeI (T:Txt P w K mg) (d:Df K mg "lies_within" zbK ["places","x","y"]):FnOk P w K mg base CX0 1 d.f d.fd ["places","x","y"] zlE:=by
 refine d.F.ok zcY (λvs H Q E h=>?_) (λcdv A outer s H vs Q E hr h=>?_)
 .obtain⟨a,x,y,H0,es,kvs,B,rfl,_⟩:=h;rfl
 .obtain⟨a,x,y,H0,es,kvs,B,rfl,U,hlen,k⟩:=h;have hu1:=hu_of hr;have nb0:(["place","x"]:List Str).Nodup:=by decide +kernel
  refine⟨_,(zac (zfA (i:=3) (osc:=zad zbK) (N:=zcr) (N':=["place","x"]) (sel:=[none,some 1]) bO zcY.nd (by rfl) (Or.inl rfl) (zaz (zk1 hu1 (pv 0) (pv 2) (zaV zab) ⟨rfl,rfl,rfl,rfl⟩)) (λ_ _ _ _ _=>(nG 0 nb0)) (λ_ _ _ _ _=>zbG (zam op_le (pv 0) (pv 1) (zan _))) (λ_ _ _ _ _=>(pv 0)))
   (zae (zaj (zbq op_eq (pe_op zbr (zap zaO (by rfl) T.nlen (by rfl) (pa_N (pv 3) zab)) zaf) zaf (zan _))))),?_⟩
  have hσ:L2.start zcr [.ref a,.int x,.int y]=[some (.ref a),some (.int x),some (.int y),none]:=rfl;rw[hσ];refine⟨_,rfl,a,rfl,.inl ⟨kvs,.inl U.dict⟩,_,rfl,Ba _,λz hz=>?_⟩;have s1:=Same.up (o:=.lst []) hz;have e1:upd H z (.lst []) z=some (.lst []):=zaa;generalize upd H z (.lst [])=H1 at s1 e1 ⊢
  obtain⟨o,l,hDG,hol,hl⟩:∃o l,DGet H1 a (.int y) o/\o.getD (.ref z)=.ref l/\H1 l=some (.lst ((upr es y).map V.int)):=by
   by_cases hy:upr es y=[]
   .exact⟨none,z,.inl ⟨kvs,.inl y,.inl (s1 _ _ U.dict),rfl,(U.no _ hy).symm⟩,rfl,by rw[hy];exact e1⟩
   .obtain⟨b1,b2,b3,b4⟩:=U.at_ _ hy;exact⟨some (.ref (B y)),B y,.inl ⟨kvs,.inl y,.inl (s1 _ _ U.dict),rfl,b1.symm⟩,rfl,s1 _ _ b2⟩
  refine⟨o,hDG,l,hol,⟨_,SqL.of hl⟩,λg hg=>?_⟩
  have hul:(upr es y).length<=480:=by unfold upr;rw[Ap];exact A3 (AO _ _) hlen
  have eml:((upr es y).map V.int).length=(upr es y).length:=Ap _;refine zau (K:=K) (a:=l) (xs:=(upr es y).map V.int) (λj σ H2=>∃o,σ=[o,some (.int x)]/\Same H1 H2/\H2 g=some (.lst ((((upr es y).take j).filter λp=>decide (p<=x)).map V.int))) ⟨_,rfl,Same.up hg,zaa⟩ (λj σ H2 _ ⟨_,_,s2,_⟩=>SqL.of (s2 _ _ hl)) ?_ ?_
  .rintro j v σ H2 hj ⟨o,rfl,s2,e2⟩;have hjl:j<(upr es y).length:=by have:=(Ad.mp hj).1;rw[eml]at this;exact this
   rw[AF,Aa hjl]at hj
   cases hj
   simp only[zat,AA,AB];refine⟨_,rfl,_,rfl,_,_,rfl,rfl,_,rfl,?_⟩;rw[zew _ (Aa hjl)];refine ite2 (λhy=>?_) (λhn=>?_)
   .rw[if_pos hy];refine⟨_,rfl,_,e2,zak ?_,_,rfl,zar hg s2,?_⟩
    .rw[Ap];have:=AO (λp=>decide (p<=x)) ((upr es y).take j);rw[AR]at this;lia
    .rw[zaa,A6];rfl
   .rw[if_neg hn,Bf];exact⟨_,rfl,s2,e2⟩
  .rintro σ H2 ⟨o,rfl,s2,e2⟩;rw[eml,AS]at e2;simp only[zat,AA,AB];refine⟨_,rfl,g,_,rfl,.inl (SqL.of e2),_,_,rfl,rfl,(by show (0:Int)<2;decide),rfl,?_⟩;have hq:=k H2 (s1.trans s2)
   have e3:decide (V.int ((((((upr es y).filter λp=>decide (p<=x)).map V.int).length:Nat):Int) % 2)=V.int 1)=decide ((es.filter (upL y x)).length % 2=1):=by
    rw[Ap,zje];refine decide_eq_decide.mpr ⟨λq=>?_,λq=>?_⟩
    .injection q with q;lia
    .congr 1;lia
   rw[<- e3]at hq;exact hq
noncomputable def zdu(K:W.Frag):Sp:=λvs H Q _=>∃(a:Addr) (us:List V) (R:List Rnd) (cs:List Cell) (ESS:List (List Edge)),vs=[.ref a]/\H a=some (.lst us)/\VR us R rR H/\Cans (isIn cs) ESS R/\cs.length<=120 /\
 ∀p H' ws,H p=none->Same H H'->H' p=some (.lst ws)->VR ws ESS.flatten eR H'->Q (.ref p) H'
theorem zeo (g_edges_of:Fn P w K mg base 6 "edges_of" ["one"] (zgq K)) (d:Df K mg "edges_of_all" zbA ["some"]):FnOk P w K mg base CX0 7 d.f d.fd ["some"] (zdu K):=by
 refine d.F.ok zea (λvs H Q E h=>?_) (λcdv A outer s H vs Q E hr h=>?_)
 .obtain⟨a,us,R,cs,ESS,rfl,_⟩:=h;rfl
 .obtain⟨a,us,R,cs,ESS,rfl,ha,hv,hc,hcl,k⟩:=h;have nb0:(["one","edge"]:List Str).Nodup:=by decide +kernel
  refine⟨_,(zae (zaj (zjK (osc:=zad zbA) (N:=zc3) (N':=["one","edge"]) (sel:=[none,none]) bO (zaz (pv 0)) (λ_ _ _ _ _=>(nG 0 nb0)) (λ_ _ _ _ _=>zbH) (λ_ _ _ _ _=>(zkY (K:=K) (pC g_edges_of hr (pa_N (pv 0) zab)))) (λ_ _ _ _ _=>(nG 1 nb0)) (λ_ _ _ _ _=>zbH) (λ_ _ _ _ _=>(pv 1)) (λ_ _ _=>rfl)))),?_⟩;have hER:=hc.al.length
  have hsm:ESS.flatten.length<=480:=by
   rw[show (480:Nat)=4*120 from rfl];refine A3 ?_ (Nat.mul_le_mul_left 4 hcl)
   rw[<- zaT];exact zax hc.nd λe he=>zbU.mpr ⟨of_decide_eq_true ((hc.all e).mp he).2.1,((hc.all e).mp he).1⟩
  refine⟨_,rfl,a,rfl,⟨_,SqL.of ha⟩,λg hg=>?_⟩;refine zau (K:=K) (a:=a) (xs:=us) (λj σ H2=>∃o0 o1 zs,σ=[o0,o1]/\Same H H2/\H2 g=some (.lst zs)/\VR zs (ESS.take j).flatten eR H2) ⟨_,_,[],rfl,Same.up hg,zaa,VR.nil⟩ (λj σ H2 _ ⟨_,_,_,_,s2,_⟩=>SqL.of (s2 _ _ ha)) ?_ ?_
  .rintro j v σ H2 hj ⟨o0,o1,zs,rfl,s2,e2,hz⟩;obtain⟨r,hr',hrv⟩:=hv.at hj;obtain⟨es,hes,hcan⟩:=hc.so hr';simp only[zat,AA,AB];refine zcP ?_
   have hesl:es.length<=480:=by have:=hcan.cl.1.short;lia
   have sub:(ESS.take j).flatten.length+es.length<=480:=by
    have e1:(ESS.take (j+1)).flatten=(ESS.take j).flatten++es:=by rw[zaH hes,Ca];simp
    have e2:ESS.flatten=(ESS.take (j+1)).flatten++(ESS.drop (j+1)).flatten:=by rw[<- Ca,CP]
    have e3:=congrArg List.length e2;rw[Am,e1,Am]at e3;lia
   refine⟨_,rfl,v,r,isIn cs,es,rfl,rR.kt hrv (KT.of s2),hcan,hesl,λpe H3 ws hpe s3 e3 hw=>?_⟩;refine⟨pe,rfl,⟨_,SqL.of e3⟩,?_⟩;have s23:=s2.trans s3;have hgp:g≠pe:=λq=>by rw[<- q,e2]at hpe;cases hpe
   have hpe0:H pe=none:=s2.free hpe;refine zau (K:=K) (a:=pe) (xs:=ws) (λi σ H4=>∃o1 zs',σ=[some v,o1]/\(∀b o,b≠g->H3 b=some o->H4 b=some o)/\H4 g=some (.lst zs')/\VR zs' ((ESS.take j).flatten++es.take i) eR H4) ⟨_,zs,rfl,(λb o _ h=>h),s3 _ _ e2,by rw[List.take_zero,Bf];exact hz.mono λx v h=>h.kt (KT.of s3)⟩ (λi σ H4 _ ⟨_,_,_,b4,_⟩=>SqL.of (b4 _ _ (BG hgp) e3)) ?_ ?_
   .rintro i u σ H4 hi ⟨o1,zs',rfl,b4,e4,hz4⟩;obtain⟨f,hf,bf,rfl,qf⟩:=hw.at hi;simp only[zat,AA,AB];refine zcP ?_
    have hil:i<es.length:=(Ad.mp hf).1
    have hzl:zs'.length<=480:=by rw[hz4.1,Am,AR];lia
    refine⟨_,rfl,zs',e4,zak (by lia),_,_,rfl,(λb o hb h=>by rw[zai hb];exact b4 b o hb h),zaa,?_⟩;rw[zaH hf,<- AL];have ktg:KT H4 (upd H4 g (.lst (zs'++[.ref bf]))):=KT.lst e4;refine hz4.snoc (λx v h=>h.kt ktg) ⟨bf,rfl,ktg _ _ (b4 _ _ (λq=>by rw[q,s3 _ _ e2]at qf;cases qf) qf)⟩
   .rintro σ H4 ⟨o1,zs',rfl,b4,e4,hz4⟩;rw[hw.1,AS]at hz4;refine⟨_,_,zs',rfl,(λb o h=>b4 b o (zal h hg) (s23 _ _ h)),e4,?_⟩;rw[zaH hes,Ca];simpa using hz4
  .rintro σ H2 ⟨o0,o1,zs,rfl,s2,e2,hz⟩;rw[hv.1,hER,AS]at hz;exact k g H2 zs hg s2 e2 hz
noncomputable def spFac:Sp:=λvs H Q _=>∃(b:Addr) (e:Edge),vs=[.ref b]/\H b=some (.tup (edgeT e))/\e.w<4/\∀p H',H p=none->Same H H'->H' p=some (.tup (edgeT (facE e)))->Q (.ref p) H'
theorem zeM (g_gap_beside:Fn P w K mg base 2 "gap_beside" ["edge"] (spGap K)) (d:Df K mg "edge_facing" zck ["edge"]):FnOk P w K mg base CX0 3 d.f d.fd ["edge"] spFac:=by
 refine d.F.ok zbZ (λvs H Q E h=>?_) (λcdv A outer s H vs Q E hr h=>?_)
 .obtain⟨b,e,rfl,_⟩:=h;rfl
 .obtain⟨b,e,rfl,hb,hw,k⟩:=h
  refine⟨_,(zac (zbD (pC g_gap_beside hr (pa_N (pv 0) zab)) (zbk (by rfl) (zag (nG 1 zbZ.nd) (zag (nG 2 zbZ.nd) zaA))))
   (zae (zaj (zas (pa_N (pv 1) (pa_N (pv 2) (pa_B (pe_op zbr (pe_op za3 (pe_ix zbW (pv 0) zaf (λ_ _=>rfl)) zaf) zaf) zab))))))),?_⟩
  refine⟨_,rfl,b,e,rfl,SqT.of hb,hw,λp H1 hp s1 e1=>?_⟩;refine⟨p,_,rfl,SqT.of e1,rfl,_,_,rfl,_,_,rfl,rfl,?_⟩;refine⟨_,rfl,_,rfl,_,rfl,b,_,_,_,rfl,rfl,SqT.of (s1 _ _ hb),zay (j:=2) rfl,_,_,rfl,rfl,_,_,rfl,rfl,(by show (0:Int)<4;decide),three,λq hq=>?_⟩;refine k q _ (s1.free hq) (s1.trans (Same.up hq)) ?_
  rw[zaa];show some (HO.tup [V.int (gap e).1,V.int (gap e).2,V.int (((e.w:Int)+2) % 4)])=some (HO.tup [V.int (gap e).1,V.int (gap e).2,V.int (((e.w+2) % 4:Nat):Int)]);rw[show (((e.w:Int)+2) % 4)=(((e.w+2) % 4:Nat):Int) by lia]
noncomputable def dE(L:List Edge):List (List Key×V):=L.map λe=>(kE e,.bl true)
theorem zhP(L:List Edge)(e:Edge):(valV (dE L) (kE e)).isSome=decide (e∈L):=by
 unfold valV dE;rw[Option.isSome_map]
 induction L with
 |nil=>simp
 |cons a L ih =>
  rw[A9,CU]
  by_cases h:a=e
  .subst h;simp
  .have:decide (kE a=kE e)=false:=decide_eq_false λz=>h (zio.mp z)
   rw[this];simp only;rw[ih];refine decide_eq_decide.mpr ⟨λz=>Aq _ z,λz=>(AG.mp z).resolve_left λq=>h q.symm⟩
theorem zlK{L:List Edge}{e:Edge}(h:e ∉ L):putK (dE L) (kE e) (.bl true)=dE (L++[e]):=by
 have:valV (dE L) (kE e)=none:=by
  have:=zhP L e;rw[decide_eq_false h]at this
  cases z:valV (dE L) (kE e) with
  |none=>rfl
  |some v=>rw[z]at this;cases this
 rw[zfy _ this];unfold dE;rw[A6];rfl
theorem zmH(L:List Edge)(e:Edge):dropK (dE L) (kE e)=dE (L.filter λf=>decide (f≠e)):=by
 unfold dropK dE;rw[List.filter_map]
 congr 1
 refine List.filter_congr λf _=>?_
 show decide (kE f≠kE e)=decide (f≠e);exact decide_eq_decide.mpr ⟨λz q=>z (by rw[q]),λz q=>z (zio.mp q)⟩
noncomputable def oldE(c:Cell)(b:Bool)(w:Nat):Edge:=if b=true then facE ⟨c,w⟩ else ⟨c,w⟩
noncomputable def newE(c:Cell)(b:Bool)(w:Nat):Edge:=if b=true then ⟨c,w⟩ else facE ⟨c,w⟩
theorem ziv{e f:Edge}(he:e.w<4)(hf:f.w<4)(h:facE e=facE f):e=f:=by rw[<- zdp he,h,zdp hf]
theorem zml{c:Cell}{b:Bool}{v w:Nat}(hv:v<4)(hw:w<4)(h:oldE c b v=oldE c b w):v=w:=by
 unfold oldE at h
 cases b
 .simp only[AZ,if_false]at h;exact congrArg Edge.w h
 .simp only[if_true]at h;exact congrArg Edge.w (ziv hv hw h)
theorem zmq{c:Cell}{b:Bool}{v w:Nat}(hv:v<4)(hw:w<4)(h:newE c b v=newE c b w):v=w:=by
 unfold newE at h
 cases b
 .simp only[AZ,if_false]at h;exact congrArg Edge.w (ziv hv hw h)
 .simp only[if_true]at h;exact congrArg Edge.w h
theorem zjT{c:Cell}{b:Bool}{v w:Nat}(hv:v<4)(hw:w<4):oldE c b v≠newE c b w:=λh=>by
 unfold oldE newE at h
 cases b
 .simp only[AZ,if_false]at h;exact zeu (e:=⟨c,w⟩) hw (congrArg Edge.c h).symm
 .simp only[if_true]at h;exact zeu (e:=⟨c,v⟩) hv (congrArg Edge.c h)
noncomputable def Chg(c:Cell)(b:Bool)(es:List Edge)(i:Nat)(L:List Edge):Prop:=L.Nodup/\∀e,e∈L ↔ (e∈es/\∀w,w<i->e≠oldE c b w)∨∃w,w<i/\e=newE c b w/\oldE c b w ∉ es
theorem Chg.start{c:Cell}{b:Bool}{es:List Edge}(h:es.Nodup):Chg c b es 0 es:=⟨h,λe=>⟨λz=>.inl ⟨z,λw hw=>by lia⟩,λz=>by
 rcases z with z |⟨w,hw,_⟩
 .exact z.1
 .lia⟩⟩
theorem Chg.old{c:Cell}{b:Bool}{es L:List Edge}{i:Nat}(h:Chg c b es i L)(hi:i<4):oldE c b i∈L ↔ oldE c b i∈es:=by
 rw[h.2];constructor
 .rintro (z |⟨w,hw,z,_⟩)
  .exact z.1
  .exact absurd z (zjT hi (by lia))
 .intro z;exact .inl ⟨z,λw hw q=>by have:=zml hi (by lia) q;lia⟩
theorem Chg.drop{c:Cell}{b:Bool}{es L:List Edge}{i:Nat}(h:Chg c b es i L)(hi:i<4)(ho:oldE c b i∈es):Chg c b es (i+1) (L.filter λf=>decide (f≠oldE c b i)):=by
 refine⟨h.1.filter _,λe=>?_⟩;rw[List.mem_filter,decide_eq_true_iff,h.2];constructor
 .rintro⟨z |⟨w,hw,z,hn⟩,hne⟩
  .refine .inl ⟨z.1,λw hw=>?_⟩;rcases AY w i with q |q
   .exact z.2 w q
   .have:w=i:=by lia
    rw[this];exact hne
  .exact .inr ⟨w,by lia,z,hn⟩
 .rintro (z |⟨w,hw,z,hn⟩)
  .exact⟨.inl ⟨z.1,λw hw=>z.2 w (by lia)⟩,z.2 i (by lia)⟩
  .have hwi:w≠i:=λq=>by rw[q]at hn;exact hn ho
   refine⟨.inr ⟨w,by lia,z,hn⟩,λq=>?_⟩;rw[z]at q;exact zjT hi (by lia) q.symm
theorem Chg.put{c:Cell}{b:Bool}{es L:List Edge}{i:Nat}(h:Chg c b es i L)(hi:i<4)(ho:oldE c b i ∉ es)(hn:∀w,w<4->newE c b w ∉ es):newE c b i ∉ L/\Chg c b es (i+1) (L++[newE c b i]):=by
 have hnot:newE c b i ∉ L:=λz=>by
  rcases (h.2 _).mp z with q |⟨w,hw,q,_⟩
  .exact hn i hi q.1
  .have:=zmq hi (by lia) q;lia
 refine⟨hnot,List.nodup_append.mpr ⟨h.1,by simp,λa ha b' hb' q=>?_⟩,λe=>?_⟩
 .rw[Aj.mp hb']at q;rw[q]at ha;exact hnot ha
 .rw[List.mem_append,List.mem_singleton,h.2];constructor
  .rintro ((z |⟨w,hw,z,hn'⟩) |z)
   .refine .inl ⟨z.1,λw hw=>?_⟩;rcases AY w i with q |q
    .exact z.2 w q
    .have:w=i:=by lia
     rw[this];exact λq=>ho (by rw[<- q];exact z.1)
   .exact .inr ⟨w,by lia,z,hn'⟩
   .exact .inr ⟨i,by lia,z,ho⟩
  .rintro (z |⟨w,hw,z,hn'⟩)
   .exact .inl (.inl ⟨z.1,λw hw=>z.2 w (by lia)⟩)
   .rcases AY w i with q |q
    .exact .inl (.inr ⟨w,q,z,hn'⟩)
    .have:w=i:=by lia
     rw[this]at z;exact .inr z
theorem zjw{D:Ends}{H H3:Hp}{dd ro rn:Addr}{x y:Int}{b:Bool}{i:Nat}{es L:List Edge}{o0 o1 o2 o3 o5 o6:Option V}(hdd:H dd=none)(s3:Same H H3)(e3:H3 dd=some (.dT (dE L)))(hC:Chg (x, y) b es i L)(hi:i < 4)(hLl:L.length <= 480 + i)(hnew:∀w, w < 4 -> newE (x, y) b w ∉ es)
  (eo:H3 ro=some (.tup (edgeT (oldE (x,y) b i)))) (en:H3 rn=some (.tup (edgeT (newE (x,y) b i))))
  (k:∀H' L',Same H H'->H' dd=some (.dT (dE L'))->Chg (x,y) b es (i+1) L'->L'.length<=480+(i+1)->D.nx [o0,o1,o2,o3,some (.ref dd),o5,o6,some (.ref ro),some (.ref rn)] H') :
  tIfS (tB (tDIn (tVar 7) (tVar 4))) (zlH (tVar 4) (tVar 7)) (sDPut (tVar 4) (tVar 8) (tC (V.bl true))) D [o0,o1,o2,o3,some (.ref dd),o5,o6,some (.ref ro),some (.ref rn)] H3:=by
 refine⟨_,rfl,_,rfl,dd,_,rfl,.inr ⟨_,kE (oldE (x,y) b i),ro,Rd.of e3,rfl,eo,rfl⟩,_,rfl,?_⟩;have sm:∀kvs,Same H (upd H3 dd (.dT kvs)):=λkvs z o e=>by rw[zai (zal e hdd)];exact s3 z o e
 refine ite2 (λhy=>?_) (λhn=>?_)
 .rw[zhP]at hy;have hin:=(hC.old hi).mp (of_decide_eq_true hy);refine⟨_,rfl,_,rfl,dd,_,kE (oldE (x,y) b i),ro,rfl,e3,rfl,eo,by rw[zhP];exact hy,?_⟩;rw[zmH];exact k _ _ (sm _) zaa (hC.drop hi hin) (A3 (AO _ _) (by lia))
 .rw[zhP]at hn;have hno:oldE (x,y) b i ∉ es:=λz=>hn (decide_eq_true ((hC.old hi).mpr z))
  obtain⟨h1,h2⟩:=hC.put hi hno hnew;refine⟨_,rfl,_,rfl,dd,_,rfl,.inr ⟨_,kE (newE (x,y) b i),rn,e3,rfl,en,zak (by unfold dE;rw[Ap];lia),rfl⟩,?_⟩;rw[zlK h1];exact k _ _ (sm _) zaa h2 (by rw[Am,BP];lia)
noncomputable def zfq(K:W.Frag):Sp:=λvs H Q _=>∃(p:Addr) (us:List V) (es:List Edge) (x y:Int),vs=[.ref p,.int x,.int y]/\H p=some (.lst us)/\VR us es eR H/\es.length<=480/\∀H',Same H H'->Q (.bl (decide ((es.filter (upL y x)).length % 2=1))) H'
theorem ziY (g_lies_within:Fn P w K mg base 1 "lies_within" ["places","x","y"] zlE) (g_uprights:Fn P w K mg base 1 "uprights" ["edges"] (spUp K)) (d:Df K mg "is_cell" zeh ["edges","x","y"]):FnOk P w K mg base CX0 2 d.f d.fd ["edges","x","y"] (zfq K):=by
 refine d.F.ok ziR (λvs H Q E h=>?_) (λcdv A outer s H vs Q E hr h=>?_)
 .obtain⟨p,us,es,x,y,rfl,_⟩:=h;rfl
 .obtain⟨p,us,es,x,y,rfl,hp,hv,hl,k⟩:=h;refine⟨_,(zae (zaj (pC g_lies_within hr (zah (pC g_uprights hr (pa_N (pv 0) zab)) (pa_N (pv 1) (pa_N (pv 2) zab)))))),?_⟩;refine⟨_,rfl,p,us,es,rfl,hp,hv,hl,λa H1 kvs B U=>?_⟩;exact⟨_,rfl,_,rfl,a,x,y,H,es,kvs,B,rfl,U,hl,λH2 s2=>k H2 (U.same.trans s2)⟩
noncomputable def zjr:Sp:=λvs H Q _=>∃(p:Addr) (us:List V) (es:List Edge) (x y:Int) (b:Bool),vs=[.ref p,.int x,.int y,.bl b]/\H p=some (.lst us)/\VR us es eR H/\es.Nodup/\es.length<=480/\(∀w,w<4->newE (x,y) b w ∉ es) /\
 ∀q H' ws L,H q=none->Same H H'->H' q=some (.lst ws)->VR ws L eR H'->Chg (x,y) b es 4 L->Q (.ref q) H'
theorem zdV (T:Txt P w K mg) (g_edge_facing:Fn P w K mg base 3 "edge_facing" ["edge"] spFac) (d:Df K mg "edges_changed" zbn ["edges","x","y","inside"]):FnOk P w K mg base CX0 4 d.f d.fd ["edges","x","y","inside"] zjr:=by
 refine d.F.ok zaJ (λvs H Q E h=>?_) (λcdv A outer s H vs Q E hr h=>?_)
 .obtain⟨p,us,es,x,y,b,rfl,_⟩:=h;rfl
 .obtain⟨p,us,es,x,y,b,rfl,hp,hv,hnd,hl,hnew,k⟩:=h;have hu1:=hu_of hr;have nb0:(["edge"]:List Str).Nodup:=by decide +kernel
  refine⟨_,(zac (zkW (i:=4) hu1 (osc:=zad zbn) (N:=zbX) (N':=["edge"]) (sel:=[none]) bO zaJ.nd (by rfl) (Or.inl rfl) (zaz (pv 0)) (λ_ _ _ _ _=>(nG 0 nb0)) (λ_ _ _ _ _=>zbH) (λ_ _ _ _ _=>(pv 0)) (λ_ _ _ _ _=>pe_bl))
   (zac (zcb By rfl (zdl (by rfl) T.nrange (pa_C zaf zab)) (nG 5 zaJ.nd)
   (zac (sE 6 zaJ.nd (zas (pa_N (pv 1) (pa_N (pv 2) (pa_N (pv 5) zab)))))
   (zac (zbD (zdY (zca (pv 3)) (zas (zah (pC g_edge_facing hr (pa_N (pv 6) zab)) (pa_N (pv 6) zab))) (zas (pa_N (pv 6) (zah (pC g_edge_facing hr (pa_N (pv 6) zab)) zab)))) (zbk (by rfl) (zag (nG 7 zaJ.nd) (zag (nG 8 zaJ.nd) zaA))))
   (zae (ps_if (zh8 (zlN hu1 (pv 7) (pv 4)))
   (zae (zkV hu1 (pv 4) (pv 7)))
   (zae (zjE hu1 (pv 4) (pv 8) pe_bl rfl)))))))
   (zae (zaj (za9 (zg4 rfl) (by rfl) T.nlist (by rfl) (pa_N (pv 4) zab)))))),?_⟩
  have hσ:L2.start zbX [.ref p,.int x,.int y,.bl b]=[some (.ref p),some (.int x),some (.int y),some (.bl b),none,none,none,none,none]:=rfl;rw[hσ];refine⟨_,rfl,p,rfl,⟨_,SqL.of hp⟩,λdd hdd=>?_⟩;refine zau (K:=K) (a:=p) (xs:=us) (λi σ H2=>∃o,σ=[o]/\Same H H2/\H2 dd=some (.dT (dE (es.take i)))) ⟨_,rfl,Same.up hdd,zaa⟩ (λi σ H2 _ ⟨_,_,s2,_⟩=>SqL.of (s2 _ _ hp)) ?_ ?_
  .rintro i v σ H2 hi ⟨o,rfl,s2,e2⟩;obtain⟨f,hf,bf,rfl,qf⟩:=hv.at hi;have hil:i<es.length:=(Ad.mp hf).1;refine gN ?_
   have hnot:f ∉ es.take i:=λz=>by
    obtain⟨j,hj,ej⟩:=AE z;rw[AR]at hj;rw[List.getElem_take]at ej;have h1:es[i]=f:=by rw[Aa hil]at hf;exact AT hf
    have:=BL.mp hnd j i (by lia) hil (by lia);rw[ej,h1]at this;exact this rfl
   refine⟨_,rfl,_,.inr ⟨_,kE f,bf,e2,rfl,s2 _ _ qf,zak (by unfold dE;rw[Ap,AR];lia),rfl⟩,_,rfl,(λz o e=>by rw[zai (zal e hdd)];exact s2 z o e),?_⟩;rw[zaa,zlK hnot,zaH hf]
  .rintro σ H2 ⟨o,rfl,s2,e2⟩;rw[hv.1,AS]at e2;simp only[zat,AA,AB];refine⟨4,rfl,by decide,by decide,?_⟩;refine zcc (lo:=0) (n:=(4:Int).toNat) (λi σ H3=>∃o5 o6 o7 o8 L,σ=[some (.ref p),some (.int x),some (.int y),some (.bl b),some (.ref dd),o5,o6,o7,o8]/\Same H H3/\H3 dd=some (.dT (dE L))/\Chg (x,y) b es i L/\L.length<=480+i) ⟨_,_,_,_,es,rfl,s2,e2,Chg.start hnd,by lia⟩ ?_ ?_
   .rintro i σ H3 hi ⟨o5,o6,o7,o8,L,rfl,s3,e3,hC,hLl⟩;have hi4:i<4:=hi;simp only[zat,AA,AB];refine⟨_,rfl,_,rfl,_,rfl,three,λt ht=>?_⟩;have s4:=Same.up (o:=.tup [.int x,.int y,.int (0+(i:Int))]) ht;have e4:upd H3 t (.tup [.int x,.int y,.int (0+(i:Int))]) t=some (.tup (edgeT ⟨(x,y),i⟩)):=by rw[zaa,Int.zero_add];rfl
    generalize upd H3 t (.tup [.int x,.int y,.int (0+(i:Int))])=H4 at s4 e4 ⊢;simp only[zat,AA,AB]
    cases b with
    |true =>
     refine⟨_,rfl,_,rfl,iteT ?_⟩;refine⟨_,rfl,t,⟨(x,y),i⟩,rfl,e4,hi4,λpf H5 hpf s5 e5=>⟨_,rfl,two,λtp htp=>?_⟩⟩;have s6:=Same.up (o:=.tup [.ref pf,.ref t]) htp;have e6:upd H5 tp (.tup [.ref pf,.ref t]) tp=some (.tup [.ref pf,.ref t]):=zaa;generalize upd H5 tp (.tup [.ref pf,.ref t])=H6 at s6 e6 ⊢;refine⟨tp,_,rfl,SqT.of e6,rfl,_,_,rfl,_,_,rfl,rfl,?_⟩;simp only[zat,AA,AB];have s36:=s4.trans (s5.trans s6);refine zjw (i:=i) (b:=true) hdd (s3.trans s36) (s36 _ _ e3) hC hi4 hLl hnew (s6 _ _ e5) ((s5.trans s6) _ _ e4) λH7 L' s7 e7 hC' hl'=>?_
     exact⟨_,_,_,_,L',rfl,s7,e7,hC',hl'⟩
    |false =>
     refine⟨_,rfl,_,rfl,iteF ?_⟩;refine⟨_,rfl,_,rfl,t,⟨(x,y),i⟩,rfl,e4,hi4,λpf H5 hpf s5 e5=>⟨two,λtp htp=>?_⟩⟩;have s6:=Same.up (o:=.tup [.ref t,.ref pf]) htp;have e6:upd H5 tp (.tup [.ref t,.ref pf]) tp=some (.tup [.ref t,.ref pf]):=zaa;generalize upd H5 tp (.tup [.ref t,.ref pf])=H6 at s6 e6 ⊢;refine⟨tp,_,rfl,SqT.of e6,rfl,_,_,rfl,_,_,rfl,rfl,?_⟩;simp only[zat,AA,AB];have s36:=s4.trans (s5.trans s6);refine zjw (i:=i) (b:=false) hdd (s3.trans s36) (s36 _ _ e3) hC hi4 hLl hnew ((s5.trans s6) _ _ e4) (s6 _ _ e5) λH7 L' s7 e7 hC' hl'=>?_
     exact⟨_,_,_,_,L',rfl,s7,e7,hC',hl'⟩
   .rintro σ H3 ⟨o5,o6,o7,o8,L,rfl,s3,e3,hC,hLl⟩;refine⟨_,rfl,dd,_,rfl,Rd.of e3,λq ts hq hK=>?_⟩;have sq:=Same.up (o:=.lst ts) hq;refine k q _ ts L (s3.free hq) (s3.trans sq) zaa ?_ hC;have hkl:(dE L).length=L.length:=Ap _;refine⟨by rw[hK.1,hkl],λi e v h1 h2=>?_⟩;have h3:(dE L)[i]?=some (kE e,.bl true):=by unfold dE;rw[AF,h1];rfl
    obtain⟨bb,rfl,hb⟩:=hK.2 i v _ _ h2 h3;exact⟨bb,rfl,sq _ _ hb⟩
structure Rds (cs:List Cell) (R:List Rnd):Prop where
 ord:InKey R
 ex:∃R0,R.Perm R0/\Whole cs R0
theorem Rds.one{cs:List Cell}{R S:List Rnd}(h:Rds cs R)(k:Rds cs S):R=S:=by obtain⟨R0,p,h1⟩:=h.ex;obtain⟨S0,q,k1⟩:=k.ex;exact Whole.one p q h.ord k.ord h1 k1
theorem Whole.congr{cs ds:List Cell}{R:List Rnd}(e:isIn cs=isIn ds)(h:Whole cs R):Whole ds R:=by unfold Whole at h ⊢;rw[<- e];exact h
theorem Rds.congr{cs ds:List Cell}{R:List Rnd}(e:isIn cs=isIn ds)(h:Rds cs R):Rds ds R:=⟨h.ord,let ⟨R0,p,w⟩:=h.ex;⟨R0,p,w.congr e⟩⟩
theorem Rds.cans{cs:List Cell}{R:List Rnd}(h:Rds cs R):∃ESS,Cans (isIn cs) ESS R:=let ⟨_,p,w⟩:=h.ex;w.cans p
theorem Rds.few{cs:List Cell}{R:List Rnd}(h:Rds cs R):R.length<=cs.length:=by obtain⟨R0,p,w⟩:=h.ex;rw[p.length_eq];exact w.few
theorem Rds.so{cs:List Cell}{R:List Rnd}(h:Rds cs R):∀r∈R,SoOk r:=λr hr=>by obtain⟨ESS,hc⟩:=h.cans;obtain⟨i,hi,rfl⟩:=AE hr;obtain⟨es,_,hcan⟩:=hc.so (Aa hi);rw[SoOk,hcan.so];exact zdj _
theorem Along.whole{cs bs:List Cell}{L:List Edge}{R:List Rnd}(hL:∀e,e∈L ↔ IsE (isIn cs) e)(hB:∀x,isIn bs x=true ↔ ∃e,IsE (isIn cs) e/\e.c=x)(h:Along bs L R):Whole cs R:=by
 obtain⟨ESS,hP,h1,h2⟩:=h;have st:∀e,IsE (isIn cs) e->stepB (isIn bs) e=stepB (isIn cs) e:=λe he=>zjk hB he
 have cl:∀es∈ESS,∃b,Closed (isIn cs) b es/\∀e∈es,IsE (isIn cs) e:=λes he=>by obtain⟨b,hb,hc⟩:=h2 es he;exact⟨b,zhH hc ((hL b).mp hb) st⟩
 refine⟨ESS,⟨hP.len,λi es r e1 e2=>?_,hP.nd⟩,λe=>⟨λz=>?_,λz=>h1 e ((hL e).mpr z)⟩⟩
 .obtain⟨b,c1,c2⟩:=cl es (Ai e1);refine⟨⟨b,c1⟩,?_⟩
  have:wk (isIn bs) es=wk (isIn cs) es:=by unfold wk;exact List.map_congr_left λe he=>by rw[st e (c2 e he)]
  rw[<- this];exact (hP.each i es r e1 e2).2
 .obtain⟨es,m1,m2⟩:=Ea.mp z;obtain⟨b,_,c2⟩:=cl es m1;exact c2 e m2
noncomputable def ChgR(H:Hp)(t:Addr)(R R':List Rnd):Prop:=∃pt pw pc ts vs us,H t=some (.tup [.ref pt,.ref pw,.ref pc])/\H pt=some (.lst ts)/\VR ts R' rR H/\H pw=some (.lst vs)/\VR vs (R.filter λr=>decide (r ∉ R')) rR H/\H pc=some (.lst us)/\VR us (R'.filter λr=>decide (r ∉ R)) rR H
theorem zcT{σ : St}{H:Hp}{Q:VK}{a b:Addr}{us vs:List V}{R S:List Rnd}{ia ib:Nat}(ha:H a=some (.lst us))(hb:H b=some (.lst vs))(hu:VR us R rR H)(hv:VR vs S rR H)(hR:∀r ∈ R, SoOk r)(hS:∀r ∈ S, SoOk r)(hl:R.length <= 120)(h1 : σ[ia]? = some (some (.ref a)))(h2 : σ[ib]? = some (some (.ref b)))
  (k:∀p H' ws,H p=none->Same H H'->H' p=some (.lst ws)->VR ws (R.filter λr=>decide (r ∉ S)) rR H'->Q (.ref p) H') :
  zhT (iList K (tVar ia)) [none,some ib] (gName 0) (tTest (tOp (zhq K) (tVar 0) (tVar 1))) (tVar 0) σ H Q:=by
 refine⟨_,h1,a,rfl,⟨_,SqL.of ha⟩,λg hg=>?_⟩;refine zau (K:=K) (a:=a) (xs:=us) (λj σ H2=>∃o ws,σ=[o,some (.ref b)]/\Same H H2/\H2 g=some (.lst ws)/\VR ws ((R.take j).filter λr=>decide (r ∉ S)) rR H2) ⟨none,[],by simp[selSt,h2],Same.up hg,zaa,VR.nil⟩ (λj σ H2 _ ⟨_,_,_,s2,_⟩=>SqL.of (s2 _ _ ha)) ?_ ?_
 .rintro j v σ H2 hj ⟨o,ws,rfl,s2,e2,hw⟩;obtain⟨r,hr,hrv⟩:=hu.at hj;have hjl:j<R.length:=(Ad.mp hr).1;simp only[zat,AA,AB]
  have hany:(!(S.map dR).any λe=>Bq e (dR r))=decide (r ∉ S):=by
   rw[List.any_map]
   by_cases hm:r∈S
   .rw[decide_eq_false (λq=>q hm)];rw[List.any_eq_true.mpr ⟨r,hm,by show Bq (dR r) (dR r)=true;rw[zkm];exact decide_eq_true rfl⟩];rfl
   .rw[decide_eq_true hm]
    have:(S.any ((λe=>Bq e (dR r)) ∘ dR))=false:=by rw[List.any_eq_false];intro q hq z;have:Bq (dR q) (dR r)=true:=z;rw[zkm]at this;rw[of_decide_eq_true this]at hq;exact hm hq
    rw[this];rfl
  refine⟨_,rfl,_,rfl,b,vs,dR r,S.map dR,rfl,SqL.of (s2 _ _ hb),zh5 (rR.kt hrv (KT.of s2)),zdz (hv.mono λx v h=>rR.kt h (KT.of s2)),zgv (hR r (Ai hr)),?_,_,rfl,?_⟩
  .intro e he;obtain⟨q,hq,rfl⟩:=AV.mp he;exact zgv (hS q hq)
  rw[hany,zew _ hr];refine ite2 (λhy=>?_) (λhn=>?_)
  .rw[if_pos hy];refine⟨_,rfl,ws,e2,zak ?_,_,_,rfl,zar hg s2,zaa,?_⟩
   .rw[hw.1];have:=AO (λr=>decide (r ∉ S)) (R.take j);rw[AR]at this;lia
   .exact hw.snoc (λx v h=>rR.kt h (KT.lst e2)) (rR.kt (rR.kt hrv (KT.of s2)) (KT.lst e2))
  .rw[if_neg hn,Bf];exact⟨_,ws,rfl,s2,e2,hw⟩
 .rintro σ H2 ⟨o,ws,rfl,s2,e2,hw⟩;rw[hu.1,AS]at hw;exact k g H2 ws hg s2 e2 hw
noncomputable def zjo(K:W.Frag):Sp:=λvs H Q _=>∃(a p:Addr) (us ws:List V) (R:List Rnd) (L:List Edge) (cs:List Cell),vs=[.ref a,.ref p]/\H a=some (.lst us)/\VR us R rR H/\(∀r∈R,SoOk r)/\R.length<=120/\H p=some (.lst ws)/\VR ws L eR H/\L.length<=490/\(∀e,e∈L ↔ IsE (isIn cs) e)/\cs.length<=120 /\
 ∀t R' H',Same H H'->ChgR H' t R R'->Rds cs R'->Q (.ref t) H'
theorem zdB (T:Txt P w K mg) (g_rounds_along:Fn P w K mg base 6 "rounds_along" ["table","edges"] (zcf K)) (g_cell_table:Fn P w K mg base 1 "cell_table" ["picture"] (zfo K)) (d:Df K mg "rounds_changed" zaD ["some","edges"]):FnOk P w K mg base CX0 7 d.f d.fd ["some","edges"] (zjo K):=by
 refine d.F.ok zb9 (λvs H Q E h=>?_) (λcdv A outer s H vs Q E hr h=>?_)
 .obtain⟨a,p,us,ws,R,L,cs,rfl,_⟩:=h;rfl
 .obtain⟨a,p,us,ws,R,L,cs,rfl,ha,hv,hso,hRl,hp,hw,hLl,hL,hcl,k⟩:=h;have hu65:(A.deeper (PyProof.Rows.envOfC (Bj "rounds_changed") (zad zaD) s.heap.objs.size d.f cdv)).units+65<cLine:=by have:=hr.un;lia
  have nb0:(["edge"]:List Str).Nodup:=by decide +kernel
  have nb1:(["one","some"]:List Str).Nodup:=by decide +kernel
  have nb2:(["one","told"]:List Str).Nodup:=by decide +kernel
  refine⟨_,(zac (zh9 (i:=2) zb9.nd (by rfl) (Or.inr rfl) (pC g_rounds_along hr (zah (pC g_cell_table hr (zah (zaW (osc:=zad zaD) (N:=zaY) (N':=["edge"]) (sel:=[none]) bO (zaz (pv 1)) (λ_ _ _ _ _=>(nG 0 nb0)) (λ_ _ _ _ _=>zbH) (λ_ _ _ _ _=>(zdm (zkM (K:=K)) (pv 0) zfB (zdA zaf)))) zab)) (pa_N (pv 1) zab))))
   (zae (zaj (zas (pa_N (pv 2) (zah (zaW (osc:=zad zaD) (N:=zaY) (N':=["one","told"]) (sel:=[none,some 2]) bO (zaz (pv 0)) (λ_ _ _ _ _=>(nG 0 nb2)) (λ_ _ _ _ _=>zbG (zam (zcS (K:=K) hu65) (pv 0) (pv 1) rfl)) (λ_ _ _ _ _=>(pv 0))) (zah (zaW (osc:=zad zaD) (N:=zaY) (N':=["one","some"]) (sel:=[none,some 0]) bO (zaz (pv 2)) (λ_ _ _ _ _=>(nG 0 nb1)) (λ_ _ _ _ _=>zbG (zam (zcS (K:=K) hu65) (pv 0) (pv 1) rfl)) (λ_ _ _ _ _=>(pv 0))) zab))))))),?_⟩
  have hσ:L2.start zaY [.ref a,.ref p]=[some (.ref a),some (.ref p),none]:=rfl;rw[hσ];refine⟨_,rfl,p,rfl,⟨_,SqL.of hp⟩,λg hg=>?_⟩;refine zau (K:=K) (a:=p) (xs:=ws) (λj σ H2=>∃o zs,σ=[o]/\Same H H2/\H2 g=some (.lst zs)/\VR zs ((L.map (·.c)).take j) cR H2) ⟨_,[],rfl,Same.up hg,zaa,VR.nil⟩ (λj σ H2 _ ⟨_,_,_,s2,_⟩=>SqL.of (s2 _ _ hp)) ?_ ?_
  .rintro j v σ H2 hj ⟨o,zs,rfl,s2,e2,hz⟩;obtain⟨f,hf,bf,rfl,qf⟩:=hw.at hj;have hjl:j<L.length:=(Ad.mp hf).1;have hfc:(L.map (·.c))[j]?=some f.c:=by rw[AF,hf];rfl
   refine gN ?_
   refine⟨_,rfl,_,rfl,bf,_,rfl,SqT.of (s2 _ _ qf),(λhw=>absurd (show HT.sIx 3 3 (some 2)=3 from hw.2) (by decide)),λ_ t ht=>?_⟩;have hcut:cutV (edgeT f) none (some 2)=cellT f.c:=rfl;rw[hcut];have s3:=Same.up (o:=.tup (cellT f.c)) ht;have e3:upd H2 t (.tup (cellT f.c)) t=some (.tup (cellT f.c)):=zaa;generalize upd H2 t (.tup (cellT f.c))=H3 at s3 e3 ⊢;have e23:=s3 _ _ e2;have ktg:KT H3 (upd H3 g (.lst (zs++[.ref t]))):=KT.lst e23;refine⟨zs,e23,zak (by rw[hz.1,AR,Ap];lia),_,_,rfl,zar hg (s2.trans s3),zaa,?_⟩;rw[zaH hfc];exact hz.snoc (λx v h=>(h.kt (KT.of s3)).kt ktg) ⟨t,rfl,ktg _ _ e3⟩
  .rintro σ H2 ⟨o,zs,rfl,s2,e2,hz⟩;have hml:(L.map (·.c)).length=L.length:=Ap _;rw[hw.1,<- hml,AS]at hz;refine⟨g,L.map (·.c),rfl,LR.of e2 hz,by lia,λt H3 ht s3 tab=>?_⟩
   have ebs:isIn (L.map (·.c))=isIn (cs.filter λc=>decide (c∈L.map (·.c))):=by
    funext c
    unfold isIn;refine decide_eq_decide.mpr ?_
    rw[List.mem_filter,decide_eq_true_iff];refine⟨λz=>⟨?_,z⟩,λz=>z.2⟩;obtain⟨e,he,rfl⟩:=AV.mp z;exact of_decide_eq_true ((hL e).mp he).2.1
   have hB:∀x,isIn (cs.filter λc=>decide (c∈L.map (·.c))) x=true ↔ ∃e,IsE (isIn cs) e/\e.c=x:=λx=>by rw[<- ebs];unfold isIn;rw[decide_eq_true_iff,List.mem_map];exact⟨λ⟨e,he,q⟩=>⟨e,(hL e).mp he,q⟩,λ⟨e,he,q⟩=>⟨e,(hL e).mpr he,q⟩⟩
   rw[ebs]at tab;have hbl:(cs.filter λc=>decide (c∈L.map (·.c))).length<=120:=A3 (AO _ _) hcl;generalize (cs.filter λc=>decide (c∈L.map (·.c)))=bs at tab hB hbl;have s03:=s2.trans s3;refine⟨_,rfl,t,p,bs,ws,L,rfl,tab,s03 _ _ hp,hw.mono (λx v h=>h.same s03),(λe he=>zmz hB ((hL e).mp he)),hbl,λpr H4 rs R' R0 hpr s4 e4 hv4 hpm hord hAl=>?_⟩;have hRds:Rds cs R':=⟨hord,R0,hpm,hAl.whole hL hB⟩;have s04:=s03.trans s4;simp only[zat,AA,AB];have hR'l:R'.length<=120:=A3 hRds.few hcl;refine⟨_,rfl,zcT (K:=K) (ia:=0) (ib:=2) (s04 _ _ ha) e4 (hv.mono λx v h=>rR.kt h (KT.of s04)) hv4 hso hRds.so hRl rfl rfl λpw H5 vs5 hpw s5 e5 hv5=>?_⟩;refine zcT (K:=K) (ia:=2) (ib:=0) (s5 _ _ e4) ((s04.trans s5) _ _ ha) (hv4.mono λx v h=>rR.kt h (KT.of s5)) (hv.mono λx v h=>rR.kt h (KT.of (s04.trans s5))) hRds.so hso hR'l rfl rfl λpc H6 vs6 hpc s6 e6 hv6=>?_
   refine⟨(by show 3<=sizeLine;decide),λt7 ht7=>?_⟩;have s7:=Same.up (o:=.tup [.ref pr,.ref pw,.ref pc]) ht7;refine k t7 R' _ (s04.trans (s5.trans (s6.trans s7))) ⟨pr,pw,pc,rs,vs5,vs6,zaa,(s5.trans (s6.trans s7)) _ _ e4,hv4.mono λx v h=>rR.kt h (KT.of (s5.trans (s6.trans s7))),(s6.trans s7) _ _ e5,hv5.mono λx v h=>rR.kt h (KT.of (s6.trans s7)),s7 _ _ e6,hv6.mono λx v h=>rR.kt h (KT.of s7)⟩ hRds
theorem zfX(cs:List Cell)(c:Cell):isIn (cs++[c])=chg (isIn cs) c true:=by
 funext x
 unfold isIn chg
 by_cases h:x=c
 .rw[if_pos h,h];simp
 .rw[if_neg h];simp[h]
theorem zes(cs:List Cell)(c:Cell):isIn (cs.filter λx=>decide (x≠c))=chg (isIn cs) c false:=by
 funext x
 unfold isIn chg
 by_cases h:x=c
 .rw[if_pos h,h];simp
 .rw[if_neg h];simp[h]
theorem zmL{cs:List Cell}{c:Cell}{es L:List Edge}(hc:isIn cs c=false)(hE:∀e,e∈es ↔ IsE (isIn cs) e)(h:Chg c true es 4 L):∀e,e∈L ↔ IsE (isIn (cs++[c])) e:=λe=>by rw[zfX,zmd hc,h.2];unfold oldE newE;simp only[if_true,hE]
theorem zlr{cs:List Cell}{c:Cell}{es L:List Edge}(hc:isIn cs c=true)(hE:∀e,e∈es ↔ IsE (isIn cs) e)(h:Chg c false es 4 L):∀e,e∈L ↔ IsE (isIn (cs.filter λx=>decide (x≠c))) e:=λe=>by rw[zes,zkK hc,h.2];unfold oldE newE;simp only[AZ,if_false,hE]
theorem zmp{cs:List Cell}{c:Cell}{es:List Edge}(hc:isIn cs c=false)(hE:∀e,e∈es ↔ IsE (isIn cs) e):∀w,w<4->newE c true w ∉ es:=λw hw z=>by
 have:=((hE _).mp z).2.1;have e:(newE c true w).c=c:=rfl;rw[e,hc]at this
 cases this
theorem zk3{cs:List Cell}{c:Cell}{es:List Edge}(hc:isIn cs c=true)(hE:∀e,e∈es ↔ IsE (isIn cs) e):∀w,w<4->newE c false w ∉ es:=λw hw z=>by
 have h1:=(hE _).mp z;have e:newE c false w=facE ⟨c,w⟩:=rfl;rw[e,zdo hw,hc]at h1
 cases h1.2
theorem Cans.small{cs:List Cell}{ESS:List (List Edge)}{R:List Rnd}(hc:Cans (isIn cs) ESS R):ESS.flatten.length<=4*cs.length:=by rw[<- zaT];exact zax hc.nd λe he=>zbU.mpr ⟨of_decide_eq_true ((hc.all e).mp he).2.1,((hc.all e).mp he).1⟩
theorem zlP{cs:List Cell}{L:List Edge}(nd:L.Nodup)(h:∀e,e∈L ↔ IsE (isIn cs) e):L.length<=4*cs.length:=by rw[<- zaT];exact zax nd λe he=>zbU.mpr ⟨of_decide_eq_true ((h e).mp he).2.1,((h e).mp he).1⟩
noncomputable def zlD(C:Addr):Sp:=λvs H Q E=>∃(a:Addr) (us:List V) (R:List Rnd) (cs:List Cell) (x y:Int),vs=[.ref a,.int x,.int y]/\H a=some (.lst us)/\VR us R rR H/\Rds cs R/\cs.length<=119 /\
 (isIn cs (x,y)=true->∀H',Same H H'->E (.ref C) none H') /\
 (isIn cs (x,y)=false->∀t R' H',Same H H'->ChgR H' t R R'->Rds (cs++[(x,y)]) R'->Q (.ref t) H')
theorem zmm (T:Txt P w K mg){c_Twice:Addr}(m_Twice:mg "Twice" = some (.ref c_Twice)) (e_Twice:W.excIn K c_Twice [.type "ValueError", .type "Exception", .type "BaseException", .type "object"] "ValueError.__new__" = true) (g_edges_of_all:Fn P w K mg base 7 "edges_of_all" ["some"] (zdu K)) (g_is_cell:Fn P w K mg base 2 "is_cell" ["edges", "x", "y"] (zfq K)) (g_edges_changed:Fn P w K mg base 4 "edges_changed" ["edges", "x", "y", "inside"] zjr) (g_rounds_changed:Fn P w K mg base 7 "rounds_changed" ["some", "edges"] (zjo K))
  (d:Df K mg "put" s_put ["some","x","y"]):FnOk P w K mg base (CX1 P w) 8 d.f d.fd ["some","x","y"] (zlD c_Twice):=by
 refine d.F.okX zlG (λvs H Q E h=>?_) (λcdv A outer s H vs Q E hr h=>?_)
 .obtain⟨a,us,R,cs,x,y,rfl,_⟩:=h;rfl
 .obtain⟨a,us,R,cs,x,y,rfl,ha,hv,hR,hcl,kx,k⟩:=h
  refine⟨_,(zac (PS.nox (sE 3 zlG.nd (pC g_edges_of_all hr (pa_N (pv 0) zab))))
   (zac (ps_if (PT.nox (zca (pC g_is_cell hr (pa_N (pv 3) (pa_N (pv 1) (pa_N (pv 2) zab)))))) (zae (zgC PySem.F.excBase_ValueError e_Twice (by rfl) m_Twice)) zaq)
   (zae (PS.nox (zaj (pC g_rounds_changed hr (pa_N (pv 0) (zah (pC g_edges_changed hr (pa_N (pv 3) (pa_N (pv 1) (pa_N (pv 2) (pa_C pe_bl zab))))) zab)))))))),?_⟩
  obtain⟨ESS,hcans⟩:=hR.cans;have hsm:=hcans.small;refine⟨_,rfl,a,us,R,cs,ESS,rfl,ha,hv,hcans,by lia,λp H1 ws hp s1 e1 hw=>?_⟩;simp only[zat];refine⟨_,rfl,_,rfl,_,rfl,p,ws,ESS.flatten,x,y,rfl,e1,hw,by lia,λH2 s2=>⟨_,rfl,?_⟩⟩
  cases hc:isIn cs (x,y) with
  |true=>exact iteY (decide_eq_true (by rw[zd2 hcans.nd hcans.all x y,hc])) (kx hc H2 (s1.trans s2))
  |false =>
  refine iteN ?_ ?_
  .refine decide_eq_false λz=>?_
   rw[zd2 hcans.nd hcans.all x y,hc]at z
   cases z
  refine⟨_,rfl,_,rfl,_,rfl,_,rfl,p,ws,ESS.flatten,x,y,true,rfl,s2 _ _ e1,hw.mono (λx v h=>h.same s2),hcans.nd,by lia,zmp hc hcans.all,λq H3 ws3 L hq s3 e3 hw3 hC=>?_⟩;have hLE:=zmL hc hcans.all hC;have s03:=s1.trans (s2.trans s3);have hL4:=zlP hC.1 hLE;rw[Am,BP]at hL4;refine⟨a,q,us,ws3,R,L,cs++[(x,y)],rfl,s03 _ _ ha,hv.mono (λx v h=>rR.kt h (KT.of s03)),hR.so,by have:=hR.few;lia,e3,hw3,by lia,hLE,by rw[Am,BP];lia,λt R' H4 s4 hCR hRds=>?_⟩;exact k hc t R' H4 (s03.trans s4) hCR hRds
noncomputable def zhZ(C:Addr):Sp:=λvs H Q E=>∃(a:Addr) (us:List V) (R:List Rnd) (cs:List Cell) (x y:Int),vs=[.ref a,.int x,.int y]/\H a=some (.lst us)/\VR us R rR H/\Rds cs R/\cs.length<=120 /\
 (isIn cs (x,y)=false->∀H',Same H H'->E (.ref C) none H') /\
 (isIn cs (x,y)=true->∀t R' H',Same H H'->ChgR H' t R R'->Rds (cs.filter λc=>decide (c≠(x,y))) R'->Q (.ref t) H')
theorem zjU (T:Txt P w K mg){c_NoCell:Addr}(m_NoCell:mg "NoCell" = some (.ref c_NoCell)) (e_NoCell:W.excIn K c_NoCell [.type "ValueError", .type "Exception", .type "BaseException", .type "object"] "ValueError.__new__" = true) (g_edges_of_all:Fn P w K mg base 7 "edges_of_all" ["some"] (zdu K)) (g_is_cell:Fn P w K mg base 2 "is_cell" ["edges", "x", "y"] (zfq K)) (g_edges_changed:Fn P w K mg base 4 "edges_changed" ["edges", "x", "y", "inside"] zjr) (g_rounds_changed:Fn P w K mg base 7 "rounds_changed" ["some", "edges"] (zjo K))
  (d:Df K mg "taken" zho ["some","x","y"]):FnOk P w K mg base (CX1 P w) 8 d.f d.fd ["some","x","y"] (zhZ c_NoCell):=by
 refine d.F.okX zh4 (λvs H Q E h=>?_) (λcdv A outer s H vs Q E hr h=>?_)
 .obtain⟨a,us,R,cs,x,y,rfl,_⟩:=h;rfl
 .obtain⟨a,us,R,cs,x,y,rfl,ha,hv,hR,hcl,kx,k⟩:=h
  refine⟨_,(zac (PS.nox (sE 3 zh4.nd (pC g_edges_of_all hr (pa_N (pv 0) zab))))
   (zac (ps_if (PT.nox (zej (zca (pC g_is_cell hr (pa_N (pv 3) (pa_N (pv 1) (pa_N (pv 2) zab))))))) (zae (zgC PySem.F.excBase_ValueError e_NoCell (by rfl) m_NoCell)) zaq)
   (zae (PS.nox (zaj (pC g_rounds_changed hr (pa_N (pv 0) (zah (pC g_edges_changed hr (pa_N (pv 3) (pa_N (pv 1) (pa_N (pv 2) (pa_C pe_bl zab))))) zab)))))))),?_⟩
  obtain⟨ESS,hcans⟩:=hR.cans;have hsm:=hcans.small;refine⟨_,rfl,a,us,R,cs,ESS,rfl,ha,hv,hcans,by lia,λp H1 ws hp s1 e1 hw=>?_⟩;simp only[zat];refine⟨_,rfl,_,rfl,_,rfl,p,ws,ESS.flatten,x,y,rfl,e1,hw,by lia,λH2 s2=>⟨_,rfl,?_⟩⟩
  cases hc:isIn cs (x,y) with
  |false =>
   have hd:decide ((ESS.flatten.filter (upL y x)).length % 2=1)=false:=decide_eq_false λz=>by
    rw[zd2 hcans.nd hcans.all x y,hc]at z
    cases z
   exact iteY (by rw[hd];rfl) (kx hc H2 (s1.trans s2))
  |true =>
  refine iteN ?_ ?_
  .have:decide ((ESS.flatten.filter (upL y x)).length % 2=1)=true:=decide_eq_true ((zd2 hcans.nd hcans.all x y).mpr hc);rw[this];rfl
  refine⟨_,rfl,_,rfl,_,rfl,_,rfl,p,ws,ESS.flatten,x,y,false,rfl,s2 _ _ e1,hw.mono (λx v h=>h.same s2),hcans.nd,by lia,zk3 hc hcans.all,λq H3 ws3 L hq s3 e3 hw3 hC=>?_⟩;have hLE:=zlr hc hcans.all hC;have s03:=s1.trans (s2.trans s3);have hL4:=zlP hC.1 hLE;have hfl:=AO (λc=>decide (c≠(x,y))) cs;refine⟨a,q,us,ws3,R,L,cs.filter λc=>decide (c≠(x,y)),rfl,s03 _ _ ha,hv.mono (λx v h=>rR.kt h (KT.of s03)),hR.so,by have:=hR.few;lia,e3,hw3,A3 hL4 (A3 (Nat.mul_le_mul_left 4 (AO _ _)) (by lia)),hLE,A3 (AO _ _) hcl,λt R' H4 s4 hCR hRds=>?_⟩;exact k hc t R' H4 (s03.trans s4) hCR hRds
noncomputable def deedC(b:Bool)(cs:List Cell)(c:Cell):List Cell:=if b=true then cs++[c] else cs.filter λx=>decide (x≠c)
structure ExcK (K:W.Frag) (C cT cN cRE:Addr) (os:List Addr) (t n:Bool):Prop where
 cC:ExcC K C
 xR:W.exmOne K (.ref C) (.ref cRE)=some true
 kT:Cz K (.ref C) (.ref cT)=some t
 kN:Cz K (.ref C) (.ref cN)=some n
 kO:W.kitAny K (.ref C) (os.map An)=some false
 kV:Cz K (.ref C) (.type "ValueError")=some true
noncomputable def zh1:Sp:=λvs H Q _=>∃(b:Bool) (a:Addr) (us:List V) (R:List Rnd) (cs:List Cell) (x y:Int),vs=[.str (if b=true then "put" else "take"),.ref a,.int x,.int y]/\H a=some (.lst us)/\VR us R rR H/\Rds cs R/\cs.length<=119 /\
 (isIn cs (x,y)=b->∀p H',H p=none->Same H H'->H' p=some (.lst [.str (if b=true then "twice" else "none"),.str "value"])->Q (.ref p) H') /\
 (isIn cs (x,y)=!b->∀t R' H',Same H H'->ChgR H' t R R'->Rds (deedC b cs (x,y)) R'->Q (.ref t) H')
theorem zfF (T:Txt P w K mg){c_Twice c_NoCell c_NoPicture c_NoRound c_NoRounds c_NoRow c_NoText c_TooWide c_RimError:Addr}(m_Twice:mg "Twice" = some (.ref c_Twice)) (m_NoCell:mg "NoCell" = some (.ref c_NoCell)) (m_NoPicture:mg "NoPicture" = some (.ref c_NoPicture)) (m_NoRound:mg "NoRound" = some (.ref c_NoRound)) (m_NoRounds:mg "NoRounds" = some (.ref c_NoRounds)) (m_NoRow:mg "NoRow" = some (.ref c_NoRow)) (m_NoText:mg "NoText" = some (.ref c_NoText)) (m_TooWide:mg "TooWide" = some (.ref c_TooWide)) (m_RimError:mg "RimError" = some (.ref c_RimError))
  (XT:ExcK K c_Twice c_Twice c_NoCell c_RimError [c_NoPicture,c_NoRound,c_NoRounds,c_NoRow,c_NoText,c_TooWide] true false) (XN:ExcK K c_NoCell c_Twice c_NoCell c_RimError [c_NoPicture,c_NoRound,c_NoRounds,c_NoRow,c_NoText,c_TooWide] false true)
  (g_put:FnX P w K mg base 8 "put" ["some","x","y"] (zlD c_Twice)) (g_taken:FnX P w K mg base 8 "taken" ["some","x","y"] (zhZ c_NoCell))
  (d:Df K mg "_law_caught" zbL ["_law_deed","_law_some","_law_x","_law_y"]):FnOk P w K mg base CX0 9 d.f d.fd ["_law_deed","_law_some","_law_x","_law_y"] zh1:=by
 refine d.F.ok zaC (λvs H Q E h=>?_) (λcdv A outer s H vs Q E hr h=>?_)
 .obtain⟨b,a,us,R,cs,x,y,rfl,_⟩:=h;rfl
 .obtain⟨b,a,us,R,cs,x,y,rfl,ha,hv,hR,hcl,kx,k⟩:=h
  let ex:XK:=λc o H'=>c=.ref (if b=true then c_Twice else c_NoCell)/\o=none/\Same H H'/\isIn cs (x,y)=b
  have hex:∀c o H',ex c o H'->W.exmOne K c (.ref c_RimError)=some true:=λc o H' z=>by
   rw[z.1]
   cases b with
   |true=>exact XT.xR
   |false=>exact XN.xR
  have nb0:(["_law_word","_law_so"]:List Str).Nodup:=by decide +kernel
  refine⟨_,(zac (sE 4 zaC.nd zbp)
   (zac (sE 5 zaC.nd zbp)
   (zac (zme (E:=ex) (i:=6) rfl rfl rfl (λpins=>(zae (ps_if (zam op_eq (pv 0) zbu (zan _))
   (zae (sE 4 zaC.nd (pCX g_put hr (passT (λ_ _ _ h=>h)) (pa_N (pv 1) (pa_N (pv 2) (pa_N (pv 3) zab))))))
   (zae (sE 4 zaC.nd (pCX g_taken hr (passT (λ_ _ _ h=>h)) (pa_N (pv 1) (pa_N (pv 2) (pa_N (pv 3) zab)))))))))
   (λa=>(zae (sE 5 zaC.nd (pv 6)))) (by rfl) m_RimError hex zaC.nd (by rfl) (by rfl))
   (zac (ps_if (zam zgJ (pv 5) zbp (zan _))
   (zae (zaj (pv 4)))
   zaq)
   (zac (sE 7 zaC.nd (zaV (pa_T (zas (pa_C zbu (zah (zap (zdG (K:=K)) (by rfl) T.nisinstance (by rfl) (pa_N (pv 5) (pa_N (zby (v:=.ref c_Twice) (by rfl) m_Twice rfl) zab))) zab))) (pa_T (zas (pa_C zbu (zah (zap (zdG (K:=K)) (by rfl) T.nisinstance (by rfl) (pa_N (pv 5) (pa_N (zby (v:=.ref c_NoCell) (by rfl) m_NoCell rfl) zab))) zab))) zab))))
   (zac (sE 7 zaC.nd (pe_op zgK (pv 7) (zaV (pa_T (zas (pa_C zbu (zah (zap (zi6 (K:=K)) (by rfl) T.nisinstance (by rfl) (pa_N (pv 5) (pa_T (zas (pa_N (zby (v:=.ref c_NoPicture) (by rfl) m_NoPicture rfl) (pa_N (zby (v:=.ref c_NoRound) (by rfl) m_NoRound rfl) (pa_N (zby (v:=.ref c_NoRounds) (by rfl) m_NoRounds rfl) (pa_N (zby (v:=.ref c_NoRow) (by rfl) m_NoRow rfl) (pa_N (zby (v:=.ref c_NoText) (by rfl) m_NoText rfl) (pa_N (zby (v:=.ref c_TooWide) (by rfl) m_TooWide rfl) zab))))))) zab))) zab))) zab))))
   (zae (zaj (pe_op zgK (zaW (osc:=zad zbL) (N:=zcs) (N':=["_law_word","_law_so"]) (sel:=[none,none]) bO (zaz (pv 7)) (λ_ _ _ _ _=>(zcE (K:=K) (n:=2) (by rfl) (zag (nG 0 nb0) (zag (nG 1 nb0) zaA)))) (λ_ _ _ _ _=>zbG (zca (pv 1))) (λ_ _ _ _ _=>(pv 0))) (pe_op zjO (zaV (pa_C zbu zab)) (za9 zcK (by rfl) T.nint (by rfl) (zah (zap (zdG (K:=K)) (by rfl) T.nisinstance (by rfl) (pa_N (pv 5) (pa_N (zc8 (v:=.ty "ValueError") (by rfl) T.nValueError (by rfl) rfl) zab))) zab)))))))))))),?_⟩
  have hσ:L2.start zcs [.str (if b=true then "put" else "take"),.ref a,.int x,.int y]=[some (.str (if b=true then "put" else "take")),some (.ref a),some (.int x),some (.int y),none,none,none,none]:=rfl;rw[hσ];simp only[zat,AA,AB];refine⟨?_,?_⟩
  .cases b with
   |true =>
    refine⟨_,rfl,rfl,_,rfl,iteY (by decide) ?_⟩;refine⟨_,rfl,_,rfl,_,rfl,a,us,R,cs,x,y,rfl,ha,hv,hR,hcl,λhc H1 s1=>⟨rfl,rfl,s1,hc⟩,λhc t R' H1 s1 hCR hRds=>?_⟩;refine⟨_,rfl,rfl,_,rfl,iteY (by decide) ?_⟩;exact⟨_,rfl,k hc t R' H1 s1 hCR hRds⟩
   |false =>
    refine⟨_,rfl,rfl,_,rfl,iteN (by decide) ?_⟩;refine⟨_,rfl,_,rfl,_,rfl,a,us,R,cs,x,y,rfl,ha,hv,hR,by lia,λhc H1 s1=>⟨rfl,rfl,s1,hc⟩,λhc t R' H1 s1 hCR hRds=>?_⟩;refine⟨_,rfl,rfl,_,rfl,iteY (by decide) ?_⟩;exact⟨_,rfl,k hc t R' H1 s1 hCR hRds⟩
  .rintro c o H1 e σ' ⟨rfl,rfl,s1,hc⟩ hb hl
   obtain⟨x0,x1,x2,x3,x4,x5,x6,x7,rfl⟩:∃x0 x1 x2 x3 x4 x5 x6 x7,σ'=[x0,x1,x2,x3,x4,x5,x6,x7]:=by
    match σ',hl with
    |[x0,x1,x2,x3,x4,x5,x6,x7],_=>exact⟨_,_,_,_,_,_,_,_,rfl⟩
   have XC:ExcK K (if b=true then c_Twice else c_NoCell) c_Twice c_NoCell c_RimError [c_NoPicture,c_NoRound,c_NoRounds,c_NoRow,c_NoText,c_TooWide] b (!b):=by
    cases b with
    |true=>exact XT
    |false=>exact XN
   have kx:=kx hc;clear hex;generalize (if b=true then c_Twice else c_NoCell)=C at XC ⊢;have s2:Same H1 (upd H1 e (excO e (.ref C) none)):=Same.up hb;have hx:upd H1 e (excO e (.ref C) none) e=some (excO e (.ref C) none):=zaa;generalize upd H1 e (excO e (.ref C) none)=H2 at s2 hx ⊢;have s02:=s1.trans s2;refine⟨_,rfl,_,rfl,rfl,_,rfl,iteN (by rfl) ?_⟩;refine⟨_,rfl,e,C,.ref c_Twice,_,b,rfl,hx,rfl,λu z=>z,XC.cC,XC.kT,two,λt3 ht3=>?_⟩;have s3:=Same.up (o:=.tup [.str "twice",.bl b]) ht3;have e3:upd H2 t3 (.tup [.str "twice",.bl b]) t3=some (.tup [.str "twice",.bl b]):=zaa;generalize upd H2 t3 (.tup [.str "twice",.bl b])=H3 at s3 e3 ⊢;refine⟨_,rfl,e,C,.ref c_NoCell,_,!b,rfl,s3 _ _ hx,rfl,λu z=>z,XC.cC,XC.kN,two,λt4 ht4=>?_⟩;have s4:=Same.up (o:=.tup [.str "none",.bl (!b)]) ht4;have e4:upd H3 t4 (.tup [.str "none",.bl (!b)]) t4=some (.tup [.str "none",.bl (!b)]):=zaa;generalize upd H3 t4 (.tup [.str "none",.bl (!b)])=H4 at s4 e4 ⊢;have s34:=s3.trans s4;refine⟨two,λl5 hl5=>?_⟩;have s5:=Same.up (o:=.lst [.ref t3,.ref t4]) hl5;have e5:upd H4 l5 (.lst [.ref t3,.ref t4]) l5=some (.lst [.ref t3,.ref t4]):=zaa;generalize upd H4 l5 (.lst [.ref t3,.ref t4])=H5 at s5 e5 ⊢;refine⟨_,rfl,_,rfl,(by show 6<=sizeLine;decide),λt6 ht6=>?_⟩;have s6:=Same.up (o:=.tup [.ref c_NoPicture,.ref c_NoRound,.ref c_NoRounds,.ref c_NoRow,.ref c_NoText,.ref c_TooWide]) ht6;have e6:upd H5 t6 (.tup [.ref c_NoPicture,.ref c_NoRound,.ref c_NoRounds,.ref c_NoRow,.ref c_NoText,.ref c_TooWide]) t6=some (.tup [.ref c_NoPicture,.ref c_NoRound,.ref c_NoRounds,.ref c_NoRow,.ref c_NoText,.ref c_TooWide]):=zaa;generalize upd H5 t6 (.tup [.ref c_NoPicture,.ref c_NoRound,.ref c_NoRounds,.ref c_NoRow,.ref c_NoText,.ref c_TooWide])=H6 at s6 e6 ⊢;have s36:=s34.trans (s5.trans s6);refine⟨e,C,t6,[c_NoPicture,c_NoRound,c_NoRounds,c_NoRow,c_NoText,c_TooWide],false,rfl,s36 _ _ hx,SqT.of e6,XC.cC,XC.kO,two,λt7 ht7=>?_⟩;have s7:=Same.up (o:=.tup [.str "other",.bl false]) ht7;have e7:upd H6 t7 (.tup [.str "other",.bl false]) t7=some (.tup [.str "other",.bl false]):=zaa;generalize upd H6 t7 (.tup [.str "other",.bl false])=H7 at s7 e7 ⊢;refine⟨(by show 1<=sizeLine;decide),λl8 hl8=>?_⟩;have s8:=Same.up (o:=.lst [.ref t7]) hl8;have e8:upd H7 l8 (.lst [.ref t7]) l8=some (.lst [.ref t7]):=zaa;generalize upd H7 l8 (.lst [.ref t7])=H8 at s8 e8 ⊢;have s68:=s7.trans s8;refine⟨l5,l8,_,_,rfl,rfl,(s6.trans s68) _ _ e5,e8,(by show 3<=sizeLine;decide),λl9 hl9=>?_⟩;have s9:=Same.up (o:=.lst [.ref t3,.ref t4,.ref t7]) hl9;have e9:upd H8 l9 (.lst [.ref t3,.ref t4,.ref t7]) l9=some (.lst [.ref t3,.ref t4,.ref t7]):=zaa;rw[show ([V.ref t3,V.ref t4]++[V.ref t7])=[V.ref t3,V.ref t4,V.ref t7] from rfl];generalize upd H8 l9 (.lst [.ref t3,.ref t4,.ref t7])=H9 at s9 e9 ⊢;have s49:=s5.trans (s6.trans (s68.trans s9));have h3:=(s4.trans s49) _ _ e3;have h4:=s49 _ _ e4;have h7:=(s8.trans s9) _ _ e7;have hx9:=(s3.trans (s4.trans s49)) _ _ hx;have s09:=s02.trans (s3.trans (s4.trans s49));refine⟨_,rfl,l9,rfl,⟨_,SqL.of e9⟩,λg hg=>?_⟩;refine zau (K:=K) (a:=l9) (xs:=[.ref t3,.ref t4,.ref t7]) (λj σ H5=>∃o o',σ=[o,o']/\Same H9 H5/\H5 g=some (.lst (if j=0 then [] else if j=1 then (if b=true then [.str "twice"] else []) else [.str (if b=true then "twice" else "none")]))) ⟨_,_,rfl,Same.up hg,zaa⟩ (λj σ H5 _ ⟨_,_,_,s5,_⟩=>SqL.of (s5 _ _ e9)) ?_ ?_
   .rintro j v σ H5 hj ⟨o,o',rfl,s5',e5'⟩
    match j,hj with
    | 0,hj =>
     cases hj
     refine⟨t3,_,rfl,SqT.of (s5' _ _ h3),rfl,_,_,rfl,_,_,rfl,rfl,_,rfl,_,rfl,?_⟩
     cases b with
     |true=>refine iteT ?_;exact⟨_,rfl,_,e5',(by decide +kernel),_,_,rfl,zar hg s5',zaa⟩
     |false=>refine iteF ?_;exact⟨_,_,rfl,s5',e5'⟩
    | 1,hj =>
     cases hj
     refine⟨t4,_,rfl,SqT.of (s5' _ _ h4),rfl,_,_,rfl,_,_,rfl,rfl,_,rfl,_,rfl,?_⟩
     cases b with
     |true=>refine iteF ?_;exact⟨_,_,rfl,s5',e5'⟩
     |false=>refine iteT ?_;exact⟨_,rfl,_,e5',(by decide +kernel),_,_,rfl,zar hg s5',zaa⟩
    | 2,hj =>
     cases hj
     refine⟨t7,_,rfl,SqT.of (s5' _ _ h7),rfl,_,_,rfl,_,_,rfl,rfl,_,rfl,_,rfl,?_⟩;refine iteF ?_
     exact⟨_,_,rfl,s5',e5'⟩
   .rintro σ H10 ⟨o,o',rfl,s10,e10⟩;refine⟨(by show 1<=sizeLine;decide),λl11 hl11=>?_⟩;have s11:=Same.up (o:=.lst [.str "value"]) hl11;have e11:upd H10 l11 (.lst [.str "value"]) l11=some (.lst [.str "value"]):=zaa;generalize upd H10 l11 (.lst [.str "value"])=H11 at s11 e11 ⊢;refine⟨_,rfl,e,C,.ty "ValueError",_,true,rfl,(s10.trans s11) _ _ hx9,rfl,λu z=>z,XC.cC,XC.kV,.inr ⟨_,rfl,?_⟩⟩;refine⟨l11,1,_,rfl,rfl,e11,by decide,by decide,(by show 1<=sizeLine;decide),λl12 hl12=>?_⟩;have s12:=Same.up (o:=.lst [.str "value"]) hl12;have e12:upd H11 l12 (.lst [.str "value"]) l12=some (.lst [.str "value"]):=zaa;rw[show (Ah (1:Int).toNat [V.str "value"]).flatten=[V.str "value"] from rfl];generalize upd H11 l12 (.lst [.str "value"])=H12 at s12 e12 ⊢;refine⟨g,l12,_,_,rfl,rfl,(s11.trans s12) _ _ e10,e12,(by show 2<=sizeLine;decide),λl13 hl13=>?_⟩;exact kx l13 _ ((s09.trans (s10.trans (s11.trans s12))).free hl13) ((s09.trans (s10.trans (s11.trans s12))).trans (Same.up hl13)) zaa
theorem zls{K:W.Frag}{H:Hp}{Q:VK}{a b:Addr}{xs ys:List V}(hx:SqT K H a xs)(hy:SqT K H b ys)(hne:xs ≠ [])(hl:xs.length + ys.length <= sizeLine)(h:∀c H', Same H H' -> SqT K H' c (xs ++ ys) -> Q (.ref c) H') :
  rCatT K (.ref a) (.ref b) H Q :=
 ⟨a,b,xs,ys,rfl,rfl,hx,hy,hne,hl,λz=>h a H (Same.refl _) (by rw[z,Bf];exact hx),λ_ p hp=>h p _ (Same.up hp) (SqT.of zaa)⟩
noncomputable def zgo:Sp:=λvs H Q _=>∃(v:V) (r:Rnd),vs=[v]/\rR r v H/\SoOk r/\r.row.length<=500/\∀H',Same H H'->Q (.bl true) H'
theorem zen (T:Txt P w K mg) (d:Df K mg "_law_is_round" zbo ["_law_found"]):FnOk P w K mg base CX0 1 d.f d.fd ["_law_found"] zgo:=by
 refine d.F.ok zdT (λvs H Q E h=>?_) (λcdv A outer s H vs Q E hr h=>?_)
 .obtain⟨v,r,rfl,_⟩:=h;rfl
 .obtain⟨v,r,rfl,⟨a,b,rfl,q1,q2⟩,hso,hlen,k⟩:=h;have hu1:=hu_of hr;have nb0:(["_law_one"]:List Str).Nodup:=by decide +kernel
  refine⟨_,(zac (ps_if (pw_or (zej (zca (zap zds (by rfl) T.nisinstance (by rfl) (pa_N (pv 0) (pa_N (zc8 (v:=.ty "tuple") (by rfl) T.ntuple (by rfl) rfl) zab))))) (pw_or (zam op_ne (zap zaO (by rfl) T.nlen (by rfl) (pa_N (pv 0) zab)) zaf (zan _)) (zgB (zam zgI (pe_ix zbW (pv 0) zaf (λ_ _=>rfl)) (zas (pa_C zbu (pa_C zbu zab))) rfl)))).pt
   (zae (zaj pe_bl))
   zaq)
   (zac (ps_if (zej (zca (zap zds (by rfl) T.nisinstance (by rfl) (zah (pe_ix zbW (pv 0) zaf (λ_ _=>rfl)) (pa_N (zc8 (v:=.ty "tuple") (by rfl) T.ntuple (by rfl) rfl) zab)))))
   (zae (zaj pe_bl))
   zaq)
   (zae (zaj (zap (zeC rfl) (by rfl) T.nall (by rfl) (zah (zaW (osc:=zad zbo) (N:=zcL) (N':=["_law_one"]) (sel:=[none]) bO (zia (pe_op zmk (zdm zhj (pv 0) (zdA zaf) (zdA zaf)) (pe_ix zbW (pv 0) zaf (λ_ _=>rfl)))) (λ_ _ _ _ _=>(nG 0 nb0)) (λ_ _ _ _ _=>zbH) (λ_ _ _ _ _=>(zie (zap (zg5 (K:=K)) (by rfl) T.nisinstance (by rfl) (pa_N (pv 0) (pa_N (zc8 (v:=.ty "int") (by rfl) T.nint (by rfl) rfl) zab))) (zgF (znf (zap (zg5 (K:=K)) (by rfl) T.nisinstance (by rfl) (pa_N (pv 0) (pa_N (zc8 (v:=.ty "bool") (by rfl) T.nbool (by rfl) rfl) zab)))))))) zab)))))),?_⟩
  refine⟨_,rfl,.ref a,"tuple",_,true,rfl,.tup q1,zdn _ _,_,rfl,?_⟩;refine iteF ?_
  refine⟨_,rfl,a,_,rfl,.inr (SqT.of q1),?_⟩;refine⟨rfl,_,rfl,iteN rfl ?_⟩;refine⟨_,rfl,a,_,_,_,rfl,rfl,SqT.of q1,zay (j:=0) rfl,two,λp hp=>⟨p,_,rfl,.inr (SqT.of zaa),rfl,rfl,_,rfl,iteN ?_ ?_⟩⟩
  .rcases hso with e |e <;> rw[e] <;> decide +kernel
  have s1:=Same.up (o:=.tup [.str "rim",.str "hole"]) hp;generalize upd H p (.tup [.str "rim",.str "hole"])=H1 at s1;have r1:=s1 _ _ q1;have r2:=s1 _ _ q2;refine⟨_,rfl,a,_,_,_,rfl,rfl,SqT.of r1,zay (j:=3) rfl,.ref b,"tuple",_,true,rfl,.tup r2,zdn _ _,_,rfl,iteF ?_⟩;have hs1:HT.sIx 4 0 (some 1)=1:=by decide
  refine⟨_,rfl,_,rfl,_,rfl,a,_,rfl,SqT.of r1,λhw=>absurd (hw.1.symm.trans hs1) (by decide),λ_ p2 hp2=>?_⟩;have ec:cutV [V.str r.so,V.int r.x,V.int r.y,V.ref b] (some 1) (some 3)=[V.int r.x,V.int r.y]:=rfl;have s2:=Same.up (o:=.tup (cutV [V.str r.so,V.int r.x,V.int r.y,V.ref b] (some 1) (some 3))) hp2;have t2:upd H1 p2 (.tup (cutV [V.str r.so,V.int r.x,V.int r.y,V.ref b] (some 1) (some 3))) p2=some (.tup [V.int r.x,V.int r.y]):=by rw[zaa,ec]
  generalize upd H1 p2 (.tup (cutV [V.str r.so,V.int r.x,V.int r.y,V.ref b] (some 1) (some 3)))=H2 at s2 t2;have hrv:(rowV r.row).length=r.row.length:=by unfold rowV;exact Ap _
  refine⟨_,rfl,a,_,_,_,rfl,rfl,SqT.of (s2 _ _ r1),zay (j:=3) rfl,zls (SqT.of t2) (SqT.of (s2 _ _ r2)) (by simp) (B6 (zak (by rw[hrv];show 2+r.row.length<=1000;lia))) λc H3 s3 hc=>⟨c,rfl,⟨_,hc⟩,λq hq=>?_⟩⟩;have hall:([V.int r.x,V.int r.y]++rowV r.row)=([r.x,r.y]++rowI r.row).map V.int:=by rw[zlJ];rfl
  have hll:([r.x,r.y]++rowI r.row).length<=502:=by unfold rowI;simp;lia
  rw[hall]at hc;generalize [r.x,r.y]++rowI r.row=ns at hc hll
  refine zfZ (K:=K) (a:=c) (xs:=ns.map V.int) (λj σ H9=>∃o,σ=[o]/\Same H3 H9/\H9 q=some (.lst ((Ah j true).map V.bl)))
   ⟨_,rfl,Same.up hq,zaa⟩ (λj σ H9 _ ⟨_,_,s9,_⟩=>s9.seqT hc) ?_ ?_
  .rintro j v σ H9 hj ⟨o,rfl,s9,e9⟩;have hjl:j<(ns.map V.int).length:=(Ad.mp hj).1;rw[Ap]at hjl;rw[AF]at hj;obtain⟨n,hn,rfl⟩:=BN.mp hj;refine gN ?_
   refine⟨_,rfl,.int n,"int",_,true,rfl,.int n,zdn _ _,_,rfl,iteT ?_⟩;refine⟨_,rfl,.int n,"bool",_,false,rfl,.int n,zgU _,_,rfl,?_⟩;refine⟨_,e9,zak (by simp;lia),_,rfl,zar hq s9,?_⟩;rw[zaa,DG,A6];rfl
  .rintro σ H9 ⟨o,rfl,s9,e9⟩;refine⟨q,Ah (ns.map V.int).length true,rfl,SqL.of e9,?_⟩;rw[show (Ah (ns.map V.int).length true).all id=true by simp];exact k H9 (s1.trans (s2.trans (s3.trans s9)))
noncomputable def zd7(K:W.Frag):Sp:=λvs H Q _=>∃(a:Addr) (rs:List V) (R:List Rnd),vs=[.ref a]/\H a=some (.lst rs)/\VR rs R rR H/\(∀r∈R,SoOk r/\r.row.length<=500)/\R.length<=500/\∀H',Same H H'->Q (.bl true) H'
theorem zdC (T:Txt P w K mg) (g__law_is_round:Fn P w K mg base 1 "_law_is_round" ["_law_found"] zgo) (d:Df K mg "_law_are_rounds" za5 ["_law_found"]):FnOk P w K mg base CX0 2 d.f d.fd ["_law_found"] (zd7 K):=by
 refine d.F.ok zdk (λvs H Q E h=>?_) (λcdv A outer s H vs Q E hr h=>?_)
 .obtain⟨a,rs,R,rfl,_⟩:=h;rfl
 .obtain⟨a,rs,R,rfl,hL,hR,hso,hlen,k⟩:=h;have hu1:=hu_of hr;have nb0:(["_law_one"]:List Str).Nodup:=by decide +kernel
  refine⟨_,(zae (zaj (zie (zap zds (by rfl) T.nisinstance (by rfl) (pa_N (pv 0) (pa_N (zc8 (v:=.ty "list") (by rfl) T.nlist (by rfl) rfl) zab))) (zgF (zap (zeC rfl) (by rfl) T.nall (by rfl) (zah (zaW (osc:=zad za5) (N:=zce) (N':=["_law_one"]) (sel:=[none]) bO (zaz (pv 0)) (λ_ _ _ _ _=>(nG 0 nb0)) (λ_ _ _ _ _=>zbH) (λ_ _ _ _ _=>(pC g__law_is_round hr (pa_N (pv 0) zab)))) zab)))))),?_⟩;refine⟨_,rfl,.ref a,"list",_,true,rfl,.lst hL,zdn _ _,_,rfl,iteT ?_⟩;refine⟨_,rfl,a,rfl,⟨_,SqL.of hL⟩,λq hq=>?_⟩
  refine zau (K:=K) (a:=a) (xs:=rs) (λj σ H9=>∃o,σ=[o]/\Same H H9/\H9 q=some (.lst ((Ah j true).map V.bl)))
   ⟨_,rfl,Same.up hq,zaa⟩ (λj σ H9 _ ⟨_,_,s9,_⟩=>s9.seq (SqL.of hL)) ?_ ?_
  .rintro j v σ H9 hj ⟨o,rfl,s9,e9⟩;have hjl:j<rs.length:=(Ad.mp hj).1;rw[hR.1]at hjl;obtain⟨r,hr',hx⟩:=hR.at hj;obtain⟨h1,h2⟩:=hso r (Ai hr');refine gN ?_
   refine⟨_,rfl,v,r,rfl,hx.kt (KT.of s9),h1,h2,λH10 s10=>?_⟩;refine⟨_,s10 _ _ e9,zak (by simp;lia),_,rfl,zar hq (s9.trans s10),?_⟩;rw[zaa,DG,A6];rfl
  .rintro σ H9 ⟨o,rfl,s9,e9⟩;refine⟨q,Ah rs.length true,rfl,SqL.of e9,?_⟩;rw[show (Ah rs.length true).all id=true by simp];exact k H9 s9
theorem zkf{a b:List Cell}(p:a.Perm b)(c:Cell):isIn a c=isIn b c:=decide_eq_decide.mpr p.mem_iff
noncomputable abbrev rank(c:Cell):List Int:=[c.2,c.1]
theorem zkS{a b:Cell}(h:rank a=rank b):a=b:=by simp only[rank,List.cons.injEq,and_true]at h;exact Prod.ext h.2 h.1
theorem InOrd.pw{cs:List Cell}(h:InOrd cs):cs.Pairwise λa b=>HT.lexLt (rank a) (rank b)=true:=by
 induction cs with
 |nil=>exact .nil
 |cons a r ih =>
  have ih':=ih λi c d h1 h2=>h (i+1) c d (by simpa using h1) (by simpa using h2)
  refine List.pairwise_cons.mpr ⟨λb hb=>?_,ih'⟩
  cases r with
  |nil=>cases hb
  |cons c r =>
   have h0:HT.lexLt (rank a) (rank c)=true:=h 0 a c rfl rfl;rcases AG.mp hb with rfl |hb
   .exact h0
   .exact HT.lexLt_trans h0 ((Dh.mp ih').1 b hb)
theorem InOrd.nodup{cs:List Cell}(h:InOrd cs):cs.Nodup:=h.pw.imp λ{a b} q e=>by subst e;rw[HT.lexLt_irrefl]at q;cases q
theorem InOrd.ofPw{cs:List Cell}(hs:cs.Pairwise λa b=>HT.lexLt (rank a) (rank b)=true):InOrd cs:=by intro i c d h1 h2;have hi:=(Ad.mp h1).1;have hj:=(Ad.mp h2).1;have e1:=(Ad.mp h1).2;have e2:=(Ad.mp h2).2;have a:=BL.mp hs i (i+1) hi hj (by lia);rw[e1,e2]at a;exact a
theorem InOrd.of{cs:List Cell}(hs:cs.Pairwise λa b=>HT.lexLt (rank b) (rank a)=false)(hn:cs.Nodup):InOrd cs:=by
 refine InOrd.ofPw ((hs.and hn).imp λ{c d} ⟨a,b⟩=>?_)
 cases q:HT.lexLt (rank c) (rank d) with
 |true=>rfl
 |false=>exact absurd (zkS (HT.lexLt_total q a)) b
theorem InOrd.filter{cs:List Cell}(h:InOrd cs)(f:Cell->Bool):InOrd (cs.filter f):=.ofPw (h.pw.filter f)
theorem zhv (d:Df K mg "_law_rank" zc7 ["_law_cell"]):FnOk P w K mg base CX0 1 d.f d.fd ["_law_cell"] (zd5 K):=by
 refine d.F.ok zgz (λvs H Q E h=>?_) (λcdv A outer s H vs Q E hr h=>?_)
 .obtain⟨a,x,y,r,rfl,_⟩:=h;rfl
 .obtain⟨a,x,y,r,rfl,hq,k⟩:=h;refine⟨_,(zae (zaj (zas (zah (pe_ix zbW (pv 0) zaf (λ_ _=>rfl)) (zah (pe_ix zbW (pv 0) zaf (λ_ _=>rfl)) zab))))),?_⟩;refine⟨_,rfl,a,_,_,_,rfl,rfl,hq,zay (j:=1) rfl,_,rfl,a,_,_,_,rfl,rfl,hq,zay (j:=0) rfl,two,λp hp=>k p _ hp (Same.up hp) zaa⟩
theorem zdN:∀cs ds:List Cell,DQ ((cs.map cI).map tI) ((ds.map cI).map tI)=decide (cs=ds)
 |[],[]=>rfl
 |[],_::_=>rfl
 |_::_,[]=>rfl
 |x::l,y::m=>by
  show (Bq (tI (cI x)) (tI (cI y)) && DQ ((l.map cI).map tI) ((m.map cI).map tI))=_;rw[zdN l m,zc1]
  have hx:decide (cI x=cI y)=decide (x=y):=decide_eq_decide.mpr ⟨λh=>by unfold cI at h;injection h with h1 h2;injection h2 with h2 _;exact Prod.ext h1 h2,λh=>by rw[h]⟩
  rw[hx]
  by_cases h1:x=y <;> by_cases h2:l=m <;> simp[h1,h2]
theorem eqv2(cs ds:List Cell):Bq (lT (cs.map cI)) (lT (ds.map cI))=decide (cs=ds):=zdN cs ds
noncomputable def zjs:Sp:=λvs H Q _=>∃(p a:Addr) (ts:List V) (cs:List Cell),vs=[.ref p,.ref a]/\HasB H p 100/\a≠p/\H a=some (.lst ts)/\VR ts cs cR H/\cs.length<=120 /\
 ∀(x y:Int) t H',But H H' p->H' t=some (.tup [.int x,.int y])->Q (.ref t) H'
theorem zgN (T:Txt P w K mg) (g__law_take:Tk P w K mg base) (g__law_far:Fn P w K mg base 2 "_law_far" ["_law_pen"] spFar) (d:Df K mg "_law_drawn" zcC ["_law_pen","_law_cells"]):FnOk P w K mg base CX0 3 d.f d.fd ["_law_pen","_law_cells"] zjs:=by
 refine d.F.ok zbJ (λvs H Q E h=>?_) (λcdv A outer s H vs Q E hr h=>?_)
 .obtain⟨p,a,ts,cs,rfl,_⟩:=h;rfl
 .obtain⟨p,a,ts,cs,rfl,hp,hne,ha,hv,hl,k⟩:=h;have hu64:=hr.units
  refine⟨_,(zac (sE 2 zbJ.nd (pC g__law_take hr (pa_N (pv 0) (pa_C zaf zab))))
   (zac (ps_if (pw_or (zam (zjS hu64) (pv 1) (zaV zab) (zan _)) (zgB (zam op_eq (pv 2) zaf (zan _)))).pt
   (zae (zaj (zas (zah (pC g__law_far hr (pa_N (pv 0) zab)) (zah (pC g__law_far hr (pa_N (pv 0) zab)) zab)))))
   zaq)
   (zac (zbD (pe_ix zaQ (pv 1) (pC g__law_take hr (pa_N (pv 0) (zah (zap zaO (by rfl) T.nlen (by rfl) (pa_N (pv 1) zab)) zab))) (λ_ _=>rfl)) (zbk (by rfl) (zag (nG 3 zbJ.nd) (zag (nG 4 zbJ.nd) zaA))))
   (zac (ps_if (zam op_eq (pv 2) zaf (zan _))
   (zae (zaj (zas (pa_N (pv 3) (pa_N (pv 4) zab)))))
   zaq)
   (zae (zaj (zas (pa_B (pe_op zbv (pe_op za3 (pv 3) (pC g__law_take hr (pa_N (pv 0) (pa_C zaf zab)))) zaf) (pa_B (pe_op zbv (pe_op za3 (pv 4) (pC g__law_take hr (pa_N (pv 0) (pa_C zaf zab)))) zaf) zab))))))))),?_⟩
  refine⟨_,rfl,p,99,4,rfl,hp,by decide,zaK (by decide) (by decide),λr H1 _ _ b1 p1=>?_⟩;have hσ:(L2.start zdQ [.ref p,.ref a]).set 2 (some (V.int r))=[some (.ref p),some (.ref a),some (.int r),none,none]:=rfl;simp only[zat];rw[hσ];have e1:=b1 _ _ hne ha;have v1:VR ts cs cR H1:=hv.mono λx v h=>h.kt (b1.kt hp)
  refine⟨_,rfl,(by show 0<=sizeLine;decide),λl2 hl2=>?_⟩;have s2:=Same.up (o:=.lst []) hl2;have e2:upd H1 l2 (.lst []) l2=some (.lst []):=zaa;generalize upd H1 l2 (.lst [])=H2 at s2 e2 ⊢;have p2:=p1.same s2;have b2:But H H2 p:=b1.trans (But.of s2);have v2:VR ts cs cR H2:=v1.mono λx v h=>h.kt (KT.of s2)
  have far:∀D:Ends,D.rt=Q->tRet (tTup (tCons (tCall spFar [] E0 (tCons (tVar 0) tNil)) (tCons (tCall spFar [] E0 (tCons (tVar 0) tNil)) tNil))) D [some (.ref p),some (.ref a),some (.int r),none,none] H2:=λD hD=>by refine⟨_,rfl,p,96,rfl,p2.le (by decide),λr3 H3 _ b3 p3=>?_⟩;refine⟨_,rfl,p,93,rfl,p3,λr4 H4 _ b4 p4=>?_⟩;refine⟨two,λt5 ht5=>?_⟩;show D.rt _ _;rw[hD];exact k r3 r4 t5 _ (b2.trans (b3.trans (b4.trans (But.of (Same.up ht5))))) zaa
  refine⟨lT (cs.map cI),lT (([]:List Cell).map cI),zh6 (SqL.of (s2 _ _ e1)) v2,zh6 (SqL.of e2) VR.nil,zgt _,zgt _,_,rfl,?_⟩;rw[eqv2]
  by_cases hz:cs=[]
  .exact iteY (decide_eq_true hz) (far _ rfl)
  refine iteN (decide_eq_false hz) ?_
  refine⟨_,rfl,rfl,_,rfl,?_⟩;refine ite2 (λ_=>far _ rfl) (λ_=>?_);have hl0:0<cs.length:=List.length_pos_iff.mpr hz;have htl:ts.length=cs.length:=v2.1;refine⟨_,rfl,_,rfl,_,rfl,a,ts,rfl,.inl (SqL.of (s2 _ _ e1)),p,98,(ts.length:Int),rfl,p2,by lia,zaK (by lia) (by lia),λr6 H6 r60 r61 b6 p6=>?_⟩;obtain⟨n6,rfl⟩:=Int.eq_ofNat_of_zero_le r60;have hn6:n6<ts.length:=by lia
  obtain⟨c6,hc6,hcv⟩:=v2.at (Aa hn6);obtain⟨b,hbe,hb⟩:=hcv;obtain⟨x,y⟩:=c6;refine⟨a,ts,_,_,rfl,rfl,SqL.of (b6 _ _ hne (s2 _ _ e1)),zay (by rw[Aa hn6,hbe]),b,[.int x,.int y],rfl,SqT.of (b6.kt p2 _ _ hb),rfl,_,_,rfl,_,_,rfl,rfl,?_⟩;have b06:=b2.trans b6;refine⟨_,rfl,rfl,_,rfl,?_⟩;refine ite2 (λ_=>?_) (λ_=>?_)
  .refine⟨_,rfl,_,rfl,two,λt7 ht7=>?_⟩;exact k x y t7 _ (b06.trans (But.of (Same.up ht7))) zaa
  .refine⟨_,rfl,_,rfl,p,97,5,rfl,p6.le (by lia),by decide,zaK (by decide) (by decide),λr7 H7 _ _ b7 p7=>⟨_,_,rfl,rfl,_,_,rfl,rfl,?_⟩⟩;refine⟨_,rfl,_,rfl,p,96,5,rfl,p7,by decide,zaK (by decide) (by decide),λr8 H8 _ _ b8 p8=>⟨_,_,rfl,rfl,_,_,rfl,rfl,two,λt9 ht9=>?_⟩⟩;exact k _ _ t9 _ (b06.trans (b7.trans (b8.trans (But.of (Same.up ht9))))) zaa
noncomputable def d3R(A B C:List Rnd):PyData:=.tuple [lR A,lR B,lR C]
theorem znv(A B C:List Rnd):Bq (d3R A B C) (d3R A B C)=true:=by show (Bq (lR A) (lR A) && (Bq (lR B) (lR B) && (Bq (lR C) (lR C) && true)))=true;rw[ziw,ziw,ziw,decide_eq_true rfl,decide_eq_true rfl,decide_eq_true rfl];rfl
theorem zgw{A B C:List Rnd}(hA:∀r∈A,SoOk r)(hB:∀r∈B,SoOk r)(hC:∀r∈C,SoOk r):Bb (d3R A B C)=true:=by
 have dp:∀R:List Rnd,Cd (R.map dR)<=2:=λR=>by
  induction R with
  |nil=>exact Ba _
  |cons r R ih =>
   rw[A9,Cd,zf4];lia
 unfold Bb d3R lR;rw[Bd,decide_eq_true_iff];refine⟨?_,?_⟩
 .simp only[CL,BY,zbF _ hA,zbF _ hB,zbF _ hC,Bool.and_self]
 .have h1:=dp A;have h2:=dp B;have h3:=dp C;simp only[B8,Cd];lia
theorem Rds.row{cs:List Cell}{R:List Rnd}(h:Rds cs R)(hcl:cs.length<=120):∀r∈R,r.row.length<=480:=λr hr=>by obtain⟨ESS,hc⟩:=h.cans;obtain⟨i,hi,rfl⟩:=AE hr;obtain⟨es,_,hcan⟩:=hc.so (Aa hi);have h1:=hcan.cl.1.short;rw[hcan.row];have h2:=DU id (es.map (stepB (isIn cs)));rw[Ap]at h2;lia
theorem zlU{a b:Cell}(h:cI a=cI b):a=b:=by unfold cI at h;injection h with h1 h2;injection h2 with h2 _;exact Prod.ext h1 h2
theorem zle(cs:List Cell)(c:Cell):(((cs.map cI).map tI).any λe=>Bq e (tI (cI c)))=isIn cs c:=by
 rw[Cu];constructor
 .intro h;obtain⟨e,he,e1⟩:=List.any_eq_true.mp h;obtain⟨l,hl,rfl⟩:=AV.mp he;obtain⟨d,hd,rfl⟩:=AV.mp hl;rw[zc1]at e1;have:=zlU (of_decide_eq_true e1);subst this;exact decide_eq_true hd
 .intro h;have hm:c∈cs:=of_decide_eq_true h;exact List.any_eq_true.mpr ⟨_,AV.mpr ⟨_,AV.mpr ⟨_,hm,rfl⟩,rfl⟩,by rw[zc1];exact decide_eq_true rfl⟩
theorem zgx(cs:List Cell):∀e∈(cs.map cI).map tI,Bb e=true:=λe he=>by obtain⟨l,_,rfl⟩:=AV.mp he;exact zaL l
noncomputable def wRef (i:Bool):List V:=[.str (if i=true then "twice" else "none"),.str "value"]
noncomputable def dRef (i:Bool):PyData:=.list [.str (if i=true then "twice" else "none"),.str "value"]
theorem zjD{K:W.Frag}{H:Hp}{p:Addr}{i:Bool}(h:H p=some (.lst (wRef i))):RD K H (.ref p) (dRef i):=.lst (SqL.of h) (.cons (.str _) (.cons (.str _) .nil))
theorem zdv(i:Bool):Bb (dRef i)=true:=by cases i <;> decide +kernel
theorem zmG(i:Bool):Bq (dRef i) (dRef i)=true:=by cases i <;> decide +kernel
theorem atI_b{a b:V}(i:Bool):atI [a,b] (if i=true then 1 else 0)=some (if i=true then b else a):=by cases i <;> rfl
theorem zmI(b:Bool)(cs:List Cell)(c:Cell):isIn (deedC b cs c)=chg (isIn cs) c b:=by
 unfold deedC
 cases b with
 |true=>rw[if_pos rfl];exact zfX cs c
 |false=>rw[if_neg (by decide)];exact zes cs c
theorem zjh{A:Prop}{D:Addr->Hp->Prop}(C:Addr->Hp->Prop)(g:(∀n H1,D n H1->C n H1)->A)(h:∀n H1,D n H1->C n H1):A:=g h
theorem asgN{e:TE}{i:Nat}{u:TS}{D:Ends}{σ:St}{H:Hp}(h:e σ H λx H1=>u D (σ.set i (some x)) H1):tSeq (tAsg e (gName i)) u D σ H:=h
theorem cmpN{wi:TI}{sel:List (Option Nat)}{g:TG}{tt:TT}{te:TE}{i:Nat}{u:TS}{D:Ends}{σ:St}{H:Hp}(h:zhT wi sel g tt te σ H λv H'=>u D (σ.set i (some v)) H'):tSeq (zlI wi sel g tt te i) u D σ H:=h
theorem zjY{t:TS}{D:Ends}{σ:St}{H:Hp}(h:t D σ H):tNext { D with nx:=t D } σ H:=h
theorem zmC{K:W.Frag}{e1 e2:TE}{b1 b2 b3:TS}{D:Ends}{σ:St}{H:Hp}(h:e1 σ H λx H1=>e2 σ H1 λy H2=>rNeD K x y H2 λv H3=>∃k,v=.bl k/\if k=true then b1 { D with nx:=b3 D } σ H3 else b2 { D with nx:=b3 D } σ H3):tSeq (tIfS (tTest (tOp (rNeD K) e1 e2)) b1 b2) b3 D σ H:=h
theorem in_ix{K:W.Frag}{a b:Str}{σ : St}{H:Hp}{Q:VK}{th:Addr}{ts:List V}{cs:List Cell}{x y:Int}{i:Bool}(hi:isIn cs (x, y)=i)(hth:H th=some (.lst ts))(ht:VR ts cs cR H)(h1 : σ[1]? = some (some (.ref th)))(h2 : σ[2]? = some (some (.int x)))(h3 : σ[3]? = some (some (.int y)))
  (k:∀H',Same H H'->Q (.str (if i=true then b else a)) H') :
  tOp (rIxL K) (tLst (tCons (tC (.str a)) (tCons (tC (.str b)) tNil))) (tCB (λxs H Q=>(∃i,xs=[V.int i]/\Q (V.int i) H)∨∃k,xs=[V.bl k]/\Q (V.int (if k=true then 1 else 0)) H) (tCons (tOp (rInD K) (tTup (tCons (tVar 2) (tCons (tVar 3) tNil))) (tVar 1)) tNil)) σ H Q:=by
 refine⟨two,λl1 hl1=>?_⟩;have s1:=Same.up (o:=.lst [.str a,.str b]) hl1;have e1:upd H l1 (.lst [.str a,.str b]) l1=some (.lst [.str a,.str b]):=zaa;generalize upd H l1 (.lst [.str a,.str b])=H1 at s1 e1 ⊢;refine⟨_,h2,_,h3,two,λt2 ht2=>?_⟩;have s2:=Same.up (o:=.tup [.int x,.int y]) ht2;have e2:upd H1 t2 (.tup [.int x,.int y]) t2=some (.tup [.int x,.int y]):=zaa;generalize upd H1 t2 (.tup [.int x,.int y])=H2 at s2 e2 ⊢;have s02:=s1.trans s2;refine⟨_,h1,th,ts,tI (cI (x,y)),(cs.map cI).map tI,rfl,SqL.of (s02 _ _ hth),.tup (SqT.of e2) (RDs.ints (cI (x,y))),zei (ht.mono λx v h=>h.kt (KT.of s02)),zaL _,zgx cs,.inr ⟨_,rfl,?_⟩⟩;rw[zle,hi];refine⟨l1,_,_,_,rfl,rfl,SqL.of (s2 _ _ e1),atI_b i,?_⟩;have:=k H2 s02
 cases i <;> exact this
theorem zj6{K:W.Frag}{σ : St}{H:Hp}{Q:VK}{th:Addr}{ts:List V}{cs:List Cell}{x y:Int}(hth:H th=some (.lst ts))(ht:VR ts cs cR H)(hcl:cs.length <= 120)(h1 : σ[1]? = some (some (.ref th)))(h2 : σ[2]? = some (some (.int x)))(h3 : σ[3]? = some (some (.int y)))
  (k:∀g H' ws,H g=none->Same H H'->H' g=some (.lst ws)->VR ws (cs.filter λc=>decide (c≠(x,y))) cR H'->Q (.ref g) H') :
  zhT (iList K (tVar 1)) [none,some 2,some 3] (gName 0) (tTest (tOp (rNeD K) (tVar 0) (tTup (tCons (tVar 1) (tCons (tVar 2) tNil))))) (tVar 0) σ H Q:=by
 refine⟨_,h1,th,rfl,⟨_,SqL.of hth⟩,λg hg=>?_⟩;have uc:∀{l:List V} {X:List Cell} {H1 H5:Hp},Same H1 H5->VR l X cR H1->VR l X cR H5:=λs h=>h.mono λx v q=>q.kt (KT.of s)
 refine zau (K:=K) (a:=th) (xs:=ts) (λj σ H5=>∃o ws,σ=[o,some (.int x),some (.int y)]/\Same H H5/\H5 g=some (.lst ws)/\VR ws ((cs.take j).filter λc=>decide (c≠(x,y))) cR H5) ⟨none,[],by simp[selSt,h2,h3],Same.up hg,zaa,VR.nil⟩ (λj σ H5 _ ⟨_,_,_,s5,_⟩=>SqL.of (s5 _ _ hth)) ?_ ?_
 .rintro j v σ H5 hj ⟨o,ws,rfl,s5,e5,hw⟩;obtain⟨c,hcj,hcv⟩:=ht.at hj;have hjl:j<cs.length:=(Ad.mp hcj).1;simp only[zat,AA,AB];refine⟨_,rfl,_,rfl,_,rfl,(by show 2<=sizeLine;decide),λt6 ht6=>?_⟩;have s6:=Same.up (o:=.tup [.int x,.int y]) ht6;have e6:upd H5 t6 (.tup [.int x,.int y]) t6=some (.tup [.int x,.int y]):=zaa;generalize upd H5 t6 (.tup [.int x,.int y])=H6 at s6 e6 ⊢;have s46:=s5.trans s6;have hcv6:cR c v H6:=hcv.kt (KT.of s46);obtain⟨b,rfl,hb⟩:=hcv6;refine⟨tI (cI c),tI (cI (x,y)),.tup (SqT.of hb) (RDs.ints (cI c)),.tup (SqT.of e6) (RDs.ints (cI (x,y))),zaL _,zaL _,_,rfl,?_⟩
  have hne':(!PyData.eqv (tI (cI c)) (tI (cI (x,y))))=decide (c≠(x,y)):=by
   rw[zc1]
   by_cases z:c=(x,y)
   .rw[decide_eq_true (by rw[z]),decide_eq_false (λq=>q z)];rfl
   .rw[decide_eq_false (λq=>z (zlU q)),decide_eq_true z];rfl
  rw[hne',zew _ hcj];refine ite2 (λhy=>?_) (λhn=>?_)
  .rw[if_pos hy];refine⟨_,rfl,ws,s6 _ _ e5,zak ?_,_,_,rfl,zar hg s46,zaa,?_⟩
   .rw[hw.1];have:=AO (λc=>decide (c≠(x,y))) (cs.take j);rw[AR]at this;lia
   .exact (uc s6 hw).snoc (λx v h=>h.kt (KT.lst (s6 _ _ e5))) (cR.kt ⟨b,rfl,hb⟩ (KT.lst (s6 _ _ e5)))
  .rw[if_neg hn,Bf];exact⟨_,ws,rfl,s46,s6 _ _ e5,uc s6 hw⟩
 .rintro σ H5 ⟨o,ws,rfl,s5,e5,hw⟩;rw[ht.1,AS]at hw;exact k g H5 ws hg s5 e5 hw
noncomputable def zjn(K:W.Frag):Sp:=λvs H Q _=>∃(a th:Addr) (us ts:List V) (R:List Rnd) (cs:List Cell) (x y:Int),vs=[.ref a,.ref th,.int x,.int y]/\H a=some (.lst us)/\VR us R rR H/\Rds cs R/\cs.length<=118/\InOrd cs/\H th=some (.lst ts)/\VR ts cs cR H /\
 ∀p ts' ds H',H p=none->Same H H'->H' p=some (.lst ts')->VR ts' ds cR H'->InOrd ds->ds.length<=cs.length+1->Q (.ref p) H'
theorem zgM (T:Txt P w K mg) (g__law_caught:Fn P w K mg base 9 "_law_caught" ["_law_deed", "_law_some", "_law_x", "_law_y"] zh1) (g__law_rank:Fn P w K mg base 1 "_law_rank" ["_law_cell"] (zd5 K)) (g_rounds:Fn P w K mg base 7 "rounds" ["picture"] (zfp K)) (g__law_are_rounds:Fn P w K mg base 2 "_law_are_rounds" ["_law_found"] (zd7 K))
  (d:Df K mg "_law_right" zaU ["_law_some","_law_cells","_law_x","_law_y"]):FnOk P w K mg base CX0 10 d.f d.fd ["_law_some","_law_cells","_law_x","_law_y"] (zjn K):=by
 refine d.F.ok zaB (λvs H Q E h=>?_) (λcdv A outer s H vs Q E hr h=>?_)
 .obtain⟨a,th,us,ts,R,cs,x,y,rfl,_⟩:=h;rfl
 .obtain⟨a,th,us,ts,R,cs,x,y,rfl,ha,hv,hR,hcl,hord,hth,ht,k⟩:=h;have hu64:=hr.units;have hu65:(A.deeper (PyProof.Rows.envOfC (Bj "_law_right") (zad zaU) s.heap.objs.size d.f cdv)).units+65<cLine:=by have:=hr.un;lia
  have nb0:(["_law_cell","_law_x","_law_y"]:List Str).Nodup:=by decide +kernel
  have nb1:(["_law_one"]:List Str).Nodup:=by decide +kernel
  have nb2:(["_law_one","_law_due"]:List Str).Nodup:=by decide +kernel
  have nb3:(["_law_one","_law_some"]:List Str).Nodup:=by decide +kernel
  refine⟨_,(zac (sE 4 zaB.nd (pe_ix zaQ (zaV (pa_C zbu (pa_C zbu zab))) (za9 zcK (by rfl) T.nint (by rfl) (zah (zbq (zjQ hu65) (zas (pa_N (pv 2) (pa_N (pv 3) zab))) (pv 1) rfl) zab)) (λ_ _=>rfl)))
   (zac (sE 5 zaB.nd (pe_ix zaQ (zaV (pa_C zbu (pa_C zbu zab))) (za9 zcK (by rfl) T.nint (by rfl) (zah (zbq (zjQ hu65) (zas (pa_N (pv 2) (pa_N (pv 3) zab))) (pv 1) rfl) zab)) (λ_ _=>rfl)))
   (zac (sE 6 zaB.nd (za9 zcJ (by rfl) T.nlist (by rfl) (pa_N (pv 0) zab)))
   (zac (sE 7 zaB.nd (zaV (zah (pe_ix zaQ (zaV (pa_C zbu (pa_C zbu zab))) (za9 zcK (by rfl) T.nint (by rfl) (zah (zbq (zjQ hu65) (zas (pa_N (pv 2) (pa_N (pv 3) zab))) (pv 1) rfl) zab)) (λ_ _=>rfl)) (pa_C zbu zab))))
   (zac (ps_if (zam (ze9 hu64) (pC g__law_caught hr (pa_N (pv 5) (pa_N (pv 0) (pa_N (pv 2) (pa_N (pv 3) zab))))) (pv 7) (zan _))
   (zae (zaj zbp))
   zaq)
   (zac (zfA (i:=8) (osc:=zad zaU) (N:=zbl) (N':=["_law_cell","_law_x","_law_y"]) (sel:=[none,some 2,some 3]) bO zaB.nd (by rfl) (Or.inl rfl) (zaz (pv 1)) (λ_ _ _ _ _=>(nG 0 nb0)) (λ_ _ _ _ _=>zbG (zam (zmj (K:=K) hu64) (pv 0) (zas (pa_N (pv 1) (pa_N (pv 2) zab))) (zan _))) (λ_ _ _ _ _=>(pv 0)))
   (zac (ps_if (zam op_eq (pv 4) zbu (zan _))
   (zae (sE 8 zaB.nd (zib g__law_rank.ok (hr.mono (by decide)) g__law_rank.b (by rfl) T.nsorted (by rfl) g__law_rank.m (pe_op zgK (pv 1) (zaV (pa_T (zas (pa_N (pv 2) (pa_N (pv 3) zab))) zab))))))
   zaq)
   (zac (zh9 (i:=9) zaB.nd (by rfl) (Or.inr rfl) (pC g_rounds hr (zah (za9 zcJ (by rfl) T.nlist (by rfl) (pa_N (pv 8) zab)) zab)))
   (zac (sE 10 zaB.nd (pC g__law_caught hr (pa_N (pv 4) (pa_N (pv 0) (pa_N (pv 2) (pa_N (pv 3) zab))))))
   (zac (ps_if (pw_or (zej (zca (zap zds (by rfl) T.nisinstance (by rfl) (pa_N (pv 10) (pa_N (zc8 (v:=.ty "tuple") (by rfl) T.ntuple (by rfl) rfl) zab))))) (pw_or (zam op_ne (zap zaO (by rfl) T.nlen (by rfl) (pa_N (pv 10) zab)) zaf (zan _)) (zgB (zej (zca (zap (zeC rfl) (by rfl) T.nall (by rfl) (zah (zaW (osc:=zad zaU) (N:=zbl) (N':=["_law_one"]) (sel:=[none]) bO (zia (pv 10)) (λ_ _ _ _ _=>(nG 0 nb1)) (λ_ _ _ _ _=>zbH) (λ_ _ _ _ _=>(pC g__law_are_rounds hr (pa_N (pv 0) zab)))) zab))))))).pt
   (zae (zaj zbp))
   zaq)
   (zac (zfA (i:=11) (osc:=zad zaU) (N:=zbl) (N':=["_law_one","_law_due"]) (sel:=[none,some 9]) bO zaB.nd (by rfl) (Or.inl rfl) (zaz (pv 0)) (λ_ _ _ _ _=>(nG 0 nb2)) (λ_ _ _ _ _=>zbG (zam (zcS (K:=K) hu65) (pv 0) (pv 1) rfl)) (λ_ _ _ _ _=>(pv 0)))
   (zac (ps_if (zam (ze9 hu64) (pv 10) (zas (pa_N (pv 9) (pa_N (pv 11) (zah (zaW (osc:=zad zaU) (N:=zbl) (N':=["_law_one","_law_some"]) (sel:=[none,some 0]) bO (zaz (pv 9)) (λ_ _ _ _ _=>(nG 0 nb3)) (λ_ _ _ _ _=>zbG (zam (zcS (K:=K) hu65) (pv 0) (pv 1) rfl)) (λ_ _ _ _ _=>(pv 0))) zab)))) (zan _))
   (zae (zaj zbp))
   zaq)
   (zac (ps_if (pw_or (zam (ze9 hu64) (pv 0) (pv 6) (zan _)) (zgB (zam (zjS hu64) (pC g__law_caught hr (pa_N (pv 5) (zah (pe_ix zbW (pv 10) zaf (λ_ _=>rfl)) (pa_N (pv 2) (pa_N (pv 3) zab))))) (pv 7) (zan _)))).pt
   (zae (zaj zbp))
   zaq)
   (zae (zaj (pv 8)))))))))))))))),?_⟩
  have hσ:L2.start zbl [.ref a,.ref th,.int x,.int y]=[some (.ref a),some (.ref th),some (.int x),some (.int y),none,none,none,none,none,none,none,none]:=rfl;rw[hσ];have up:∀{l:List V} {X:List Rnd} {H1 H5:Hp},Same H1 H5->VR l X rR H1->VR l X rR H5:=λs h=>h.mono λx v q=>rR.kt q (KT.of s)
  have uc:∀{l:List V} {X:List Cell} {H1 H5:Hp},Same H1 H5->VR l X cR H1->VR l X cR H5:=λs h=>h.mono λx v q=>q.kt (KT.of s)
  obtain⟨i,hi⟩:∃i,isIn cs (x,y)=i:=⟨_,rfl⟩;refine asgN (in_ix (K:=K) hi hth ht rfl rfl rfl λH1 s1=>?_);simp only[AA,AB];refine asgN (in_ix (K:=K) hi (s1 _ _ hth) (uc s1 ht) rfl rfl rfl λH2 s2=>?_);simp only[AA,AB];have s02:=s1.trans s2;refine asgN ⟨_,rfl,a,us,rfl,.inl (SqL.of (s02 _ _ ha)),λl3 hl3=>?_⟩;have s3:=Same.up (o:=.lst us) hl3;have e3:upd H2 l3 (.lst us) l3=some (.lst us):=zaa;generalize upd H2 l3 (.lst us)=H3 at s3 e3 ⊢;have s03:=s02.trans s3;simp only[AA,AB];refine asgN (in_ix (K:=K) hi (s03 _ _ hth) (uc s03 ht) rfl rfl rfl λH4 s4=>⟨two,λl4 hl4=>?_⟩);have s4':=Same.up (o:=.lst (wRef i)) hl4;have e4:upd H4 l4 (.lst (wRef i)) l4=some (.lst (wRef i)):=zaa;have hw4:([V.str (if i=true then Bj "twice" else Bj "none"),V.str (Bj "value")])=wRef i:=rfl;rw[hw4];generalize upd H4 l4 (.lst (wRef i))=H5 at s4' e4 ⊢;have s35:=s4.trans s4';have s05:=s03.trans s35;simp only[AA,AB];have hdd:(if i=true then Bj "take" else Bj "put")=if (!i)=true then Bj "put" else Bj "take":=by cases i <;> rfl
  rw[hdd];refine⟨_,rfl,_,rfl,_,rfl,_,rfl,i,a,us,R,cs,x,y,rfl,s05 _ _ ha,up s05 hv,hR,by lia,λ_ p6 H6 hp6 s6 e6=>?_,λhh=>by rw[hi]at hh;cases i <;> cases hh⟩;refine⟨_,rfl,dRef i,dRef i,zjD e6,zjD (s6 _ _ e4),zdv i,zdv i,_,rfl,iteN (by rw[zmG];rfl) ?_⟩;have s06:=s05.trans s6;refine zjY (cmpN (zj6 (K:=K) (s06 _ _ hth) (uc s06 ht) (by lia) rfl rfl rfl λg7 H7 ws7 hg7 s7 e7 v7=>?_));simp only[AA,AB];have s07:=s06.trans s7;refine zjh (D:=λp8 H8=>Same H7 H8/\H p8=none/\∃ws ds,H8 p8=some (.lst ws)/\VR ws ds cR H8/\InOrd ds/\ds.length<=cs.length+1/\isIn ds=chg (isIn cs) (x,y) (!i)) ?C (λshare=>?g) ?h
  case g =>
   refine⟨_,rfl,rfl,_,rfl,?_⟩
   by_cases hb:i=false
   .refine iteY (by rw[hb];decide) ?_
    refine⟨_,rfl,_,rfl,_,rfl,two,λt8 ht8=>?_⟩;have s8:=Same.up (o:=.tup [.int x,.int y]) ht8;have e8:upd H7 t8 (.tup [.int x,.int y]) t8=some (.tup [.int x,.int y]):=zaa;generalize upd H7 t8 (.tup [.int x,.int y])=H8 at s8 e8 ⊢;refine⟨(by show 1<=sizeLine;decide),λl9 hl9=>?_⟩;have s9:=Same.up (o:=.lst [.ref t8]) hl9;have e9:upd H8 l9 (.lst [.ref t8]) l9=some (.lst [.ref t8]):=zaa;generalize upd H8 l9 (.lst [.ref t8])=H9 at s9 e9 ⊢;have s79:=s8.trans s9;have s09:=s07.trans s79;refine⟨th,l9,ts,[.ref t8],rfl,rfl,s09 _ _ hth,e9,B6 (zak (by rw[ht.1];show cs.length+1<=1000;lia)),λl10 hl10=>?_⟩;have s10:=Same.up (o:=.lst (ts++[.ref t8])) hl10;have e10:upd H9 l10 (.lst (ts++[.ref t8])) l10=some (.lst (ts++[.ref t8])):=zaa;generalize upd H9 l10 (.lst (ts++[.ref t8]))=H10 at s10 e10 ⊢;have s0:=s09.trans s10;have hw:VR (ts++[.ref t8]) (cs++[((x,y):Cell)]) cR H10:=(uc s0 ht).app (VR.cons.mpr ⟨⟨t8,rfl,s10 _ _ (s9 _ _ e8)⟩,VR.nil⟩);have hnm:((x,y):Cell) ∉ cs:=of_decide_eq_false (hi.trans hb);have nd:(cs++[((x,y):Cell)]).Nodup:=List.nodup_append.mpr ⟨hord.nodup,List.nodup_cons.mpr ⟨by simp,List.nodup_nil⟩,λa ha b hb e=>hnm (by rw[Aj.mp hb]at e;rw[<- e];exact ha)⟩;have hlW:(ts++[V.ref t8]).length=cs.length+1:=by rw[hw.1,Am];rfl
    have hin:=zfX cs (x,y);have hcl1:(cs++[((x,y):Cell)]).length=cs.length+1:=by rw[Am];rfl
    generalize cs++[((x,y):Cell)]=S at hw nd hin hcl1;generalize ts++[V.ref t8]=ws at hw e10 hlW;have ge:∀(i:Nat) r,S[i]?=some r->S.getD i (0,0)=r:=λi r h=>by simp only[BK,h,Option.getD_some]
    refine⟨l10,ws,λi=>[.int (S.getD i (0,0)).2,.int (S.getD i (0,0)).1],λi=>rank (S.getD i (0,0)),rfl,SqL.of e10,by lia,λi x H7 hx s7=>?_,
     λi j hi hj=>⟨_,_,_,_,_,_,rfl,rfl,.cons (.int _ _) .nil,rfl,rfl⟩,λpp D H7 hpm hpo hD s7 f7=>?_⟩
    .obtain⟨r,hr',c,rfl,hx'⟩:=hw.at hx;refine⟨c,r.1,r.2,[],rfl,SqT.of (s7 _ _ hx'),λp8 H8 hp8 s8 f8=>⟨s8,p8,rfl,SqT.of ?_⟩⟩;show H8 p8=some (HO.tup [.int (S.getD i (0,0)).2,.int (S.getD i (0,0)).1]);rw[ge i r hr'];exact f8
    .have hlt:∀i ∈ pp, i < S.length := λi hi => by have:=D9.mp (hpm.mem_iff.mp hi);rw[hw.1]at this;exact this
     have hRR:(pp.map λi=>S.getD i (0,0)).Perm S:=by
      have h1:=hpm.map λi=>S.getD i ((0,0):Cell)
      rw[hw.1]at h1
      have h2:((BS S.length).map λi=>S.getD i ((0,0):Cell))=S:=by
       apply List.ext_getElem
       .simp
       .intro i a b;simp[show i<S.length by simpa using a]
      rw[h2]at h1;exact h1
     have vR:VR (pp.map λi=>ws.getD i V.non) (pp.map λi=>S.getD i (0,0)) cR H7:=by
      refine⟨by simp,λi r v h1 h2=>?_⟩;rw[AF]at h1 h2;obtain⟨a,ha,rfl⟩:=BN.mp h1;rw[ha]at h2
      cases h2
      have hal:=hlt a (Ai ha);have hal2:a<ws.length:=by rw[hw.1];exact hal
      have e1:S.getD a (0,0)=S[a]:=by simp[hal]
      have e2:ws.getD a V.non=ws[a]:=by simp[hal2]
      rw[e1];show cR S[a] (ws.getD a V.non) H7;rw[e2];exact (hw.2 a _ _ (Aa hal) (Aa hal2)).kt (KT.of s7)
     refine share D H7 ⟨s79.trans (s10.trans s7),s0.free hD,_,_,f7,vR,InOrd.of ?_ (hRR.nodup_iff.mpr nd),by rw[hRR.length_eq];lia,?_⟩
     .rw[List.pairwise_map];exact hpo
     .rw[hb,show (!false)=true from rfl,<- hin];funext c;exact zkf hRR c
   .have hb:=Bool.not_eq_false _ |>.mp hb;refine iteN (by rw[hb];decide) ?_
    exact share g7 H7 ⟨Same.refl _,s06.free hg7,ws7,_,e7,v7,hord.filter _,by have:=AO (λc=>decide (c≠(x,y))) cs;lia,by rw[hb];exact zes cs (x,y)⟩
  case h =>
   rintro p8 H8 ⟨s8,hp8,ws8,ds,e8,v8,hod,hdl,hin⟩;simp only[zat,AA,AB];have s08:=s07.trans s8;refine⟨_,rfl,p8,ws8,rfl,.inl (SqL.of e8),λl9 hl9=>?_⟩;have s9:=Same.up (o:=.lst ws8) hl9;have e9:upd H8 l9 (.lst ws8) l9=some (.lst ws8):=zaa;generalize upd H8 l9 (.lst ws8)=H9 at s9 e9 ⊢;refine⟨l9,ds,rfl,⟨ws8,SqL.of e9,uc s9 v8⟩,hod,by lia,λpr H10 rv R' R0 hpr s10 e10 hvr hpm hkey hwh=>?_⟩;have hR':Rds ds R':=⟨hkey,R0,hpm,hwh⟩;have s810:=s9.trans s10;have s010:=s08.trans s810;simp only[zat,AA,AB];refine⟨_,rfl,_,rfl,_,rfl,_,rfl,!i,a,us,R,cs,x,y,rfl,s010 _ _ ha,up s010 hv,hR,by lia,λhh=>(by rw[hi]at hh;cases i <;> cases hh),λ_ t11 R2 H11 s11 hCR hRd=>?_⟩;have e2:R2=R':=Rds.one (hRd.congr (by rw[zmI,hin])) hR';subst e2;simp only[zat,AA,AB];have s011:=s010.trans s11;obtain⟨pt,pw,pc,ts',vs,ws,f0,ept,vt,epw,vw,epc,vc⟩:=hCR;refine⟨_,rfl,.ref t11,"tuple",_,true,rfl,.tup f0,zdn _ _,_,rfl,iteF ?_⟩;refine⟨_,rfl,t11,_,rfl,.inr (SqT.of f0),?_⟩;refine⟨rfl,_,rfl,iteN rfl ?_⟩;have so1:=hR.so;have so2:=hR'.so;have lR1:=hR.few;have lR2:=hR'.few;have rw1:=hR.row (by lia);have rw2:=hR'.row (by lia);have soW:∀r∈R.filter (λr=>decide (r ∉ R2)),SoOk r:=λr hr=>so1 r (Cb.mp hr).1
   have soC:∀r∈R2.filter (λr=>decide (r ∉ R)),SoOk r:=λr hr=>so2 r (Cb.mp hr).1
   have lW:=AO (λr=>decide (r ∉ R2)) R;have lC:=AO (λr=>decide (r ∉ R)) R2
   have hall:∀v∈[V.ref pt,V.ref pw,V.ref pc],∃q rs X,v=.ref q/\H11 q=some (.lst rs)/\VR rs X rR H11/\(∀r∈X,SoOk r/\r.row.length<=500)/\X.length<=500:=by
    intro v hv;rcases AG.mp hv with rfl |hv
    .exact⟨pt,ts',R2,rfl,ept,vt,λr hr=>⟨so2 r hr,by have:=rw2 r hr;lia⟩,by lia⟩
    rcases AG.mp hv with rfl |hv
    .exact⟨pw,vs,_,rfl,epw,vw,λr hr=>⟨soW r hr,by have:=rw1 r (Cb.mp hr).1;lia⟩,by lia⟩
    .rw[Aj.mp hv];exact⟨pc,ws,_,rfl,epc,vc,λr hr=>⟨soC r hr,by have:=rw2 r (Cb.mp hr).1;lia⟩,by lia⟩
   refine⟨_,rfl,t11,rfl,⟨_,SqT.of f0⟩,λg12 hg12=>?_⟩
   refine zfZ (K:=K) (a:=t11) (xs:=[V.ref pt,V.ref pw,V.ref pc]) (λj σ H9=>∃o,σ=[o]/\Same H11 H9/\H9 g12=some (.lst ((Ah j true).map V.bl)))
    ⟨_,rfl,Same.up hg12,zaa⟩ (λj σ H9 _ ⟨_,_,s9,_⟩=>s9.seqT (SqT.of f0)) ?_ ?_
   .rintro j v σ H9 hj ⟨o,rfl,s9,e9⟩;have hjl:j<3:=(Ad.mp hj).1;obtain⟨q,rs,X,rfl,eq,vq,hso,hXl⟩:=hall v (Ai hj);refine gN ?_
    refine⟨_,rfl,q,rs,X,rfl,s9 _ _ eq,up s9 vq,hso,hXl,λH10 s10=>?_⟩;refine⟨_,s10 _ _ e9,zak (by simp;lia),_,rfl,zar hg12 (s9.trans s10),?_⟩;rw[zaa,DG,A6];rfl
   .rintro σ H12 ⟨o,rfl,s12,e12⟩;refine⟨g12,Ah 3 true,rfl,SqL.of e12,_,rfl,?_⟩;refine iteF ?_
    have s012:=s011.trans s12;have e10':=(s11.trans s12) _ _ e10;have hvr':VR rv R2 rR H12:=up (s11.trans s12) hvr;refine zjY (cmpN (zcT (K:=K) (ia:=0) (ib:=9) (s012 _ _ ha) e10' (up s012 hv) hvr' so1 so2 (by lia) rfl rfl λp13 H13 ws13 hp13 s13 e13 v13=>?_));simp only[AA,AB];refine zmC ⟨_,rfl,_,rfl,_,rfl,zcT (K:=K) (ia:=9) (ib:=0) (s13 _ _ e10') ((s012.trans s13) _ _ ha) (up s13 hvr') (up (s012.trans s13) hv) so2 so1 (by lia) rfl rfl λp14 H14 ws14 hp14 s14 e14 v14=>⟨(by show 3<=sizeLine;decide),λt15 ht15=>?_⟩⟩;have s15:=Same.up (o:=.tup [.ref pr,.ref p13,.ref p14]) ht15;have e15:upd H14 t15 (.tup [.ref pr,.ref p13,.ref p14]) t15=some (.tup [.ref pr,.ref p13,.ref p14]):=zaa;generalize upd H14 t15 (.tup [.ref pr,.ref p13,.ref p14])=H15 at s15 e15 ⊢;have s1215:=s13.trans (s14.trans s15);have s1115:=s12.trans s1215;have s015:=s012.trans s1215;have dd:Bb (d3R R2 (R.filter λr=>decide (r ∉ R2)) (R2.filter λr=>decide (r ∉ R)))=true:=zgw so2 soW soC
    refine⟨d3R R2 (R.filter λr=>decide (r ∉ R2)) (R2.filter λr=>decide (r ∉ R)),d3R R2 (R.filter λr=>decide (r ∉ R2)) (R2.filter λr=>decide (r ∉ R)),
     .tup (SqT.of (s1115 _ _ f0)) (.cons (za4 (SqL.of (s1115 _ _ ept)) (up s1115 vt)) (.cons (za4 (SqL.of (s1115 _ _ epw)) (up s1115 vw)) (.cons (za4 (SqL.of (s1115 _ _ epc)) (up s1115 vc)) .nil))),
     .tup (SqT.of e15) (.cons (za4 (SqL.of (s1215 _ _ e10')) (up s1215 hvr')) (.cons (za4 (SqL.of ((s14.trans s15) _ _ e13)) (up (s14.trans s15) v13)) (.cons (za4 (SqL.of (s15 _ _ e14)) (up s15 v14)) .nil))),dd,dd,_,rfl,iteN (by rw[znv];rfl) ?_⟩
    have s315:=s35.trans (s6.trans (s7.trans (s8.trans (s810.trans (s11.trans s1115)))));refine⟨_,rfl,_,rfl,lR R,lR R,za4 (SqL.of (s015 _ _ ha)) (up s015 hv),za4 (SqL.of (s315 _ _ e3)) (up s015 hv),zgu so1,zgu so1,_,rfl,iteN (by rw[ziw,decide_eq_true rfl];rfl) ?_⟩;refine⟨_,rfl,_,rfl,t11,_,_,_,rfl,rfl,SqT.of (s1115 _ _ f0),zay (j:=0) rfl,_,rfl,_,rfl,i,pt,ts',R2,ds,x,y,rfl,s1115 _ _ ept,up s1115 vt,hR',by lia,λhh=>(by rw[hin,zg2]at hh;cases i <;> cases hh),λ_ t16 R3 H16 s16 hCR3 hRd3=>?_⟩;obtain⟨q1,q2,q3,us1,us2,us3,g0,g1,g2,g3,g4,g5,g6⟩:=hCR3;have s016:=s015.trans s16;have s416:=s6.trans (s7.trans (s8.trans (s810.trans (s11.trans (s1115.trans s16)))));have soW3:∀r∈R2.filter (λr=>decide (r ∉ R3)),SoOk r:=λr hr=>so2 r (Cb.mp hr).1
    have so3:=hRd3.so;have soC3:∀r∈R3.filter (λr=>decide (r ∉ R2)),SoOk r:=λr hr=>so3 r (Cb.mp hr).1
    refine⟨_,rfl,d3R R3 (R2.filter λr=>decide (r ∉ R3)) (R3.filter λr=>decide (r ∉ R2)),dRef i,.tup (SqT.of g0) (.cons (za4 (SqL.of g1) g2) (.cons (za4 (SqL.of g3) g4) (.cons (za4 (SqL.of g5) g6) .nil))),zjD (s416 _ _ e4),zgw so3 soW3 soC3,zdv i,_,rfl,iteN rfl ?_⟩;have s816:=s810.trans (s11.trans (s1115.trans s16));exact⟨_,rfl,k p8 ws8 ds H16 hp8 s016 (s816 _ _ e8) (uc s816 v8) hod hdl⟩
noncomputable def spLaw(K:W.Frag):Sp:=λvs H Q _=>∃(a:Addr) (ns:List Int),vs=[.ref a]/\SqL K H a (ns.map V.int)/\ns.length<=63/\∀H',Q (.bl true) H'
theorem znh (T:Txt P w K mg) (g__law_cell_at:Fn P w K mg base 1 "_law_cell_at" ["_law_script", "_law_k"] (zh0 K)) (g__law_picture:Fn P w K mg base 3 "_law_picture" ["_law_pen", "_law_most"] (zgn K)) (g_rounds:Fn P w K mg base 7 "rounds" ["picture"] (zfp K)) (g__law_drawn:Fn P w K mg base 3 "_law_drawn" ["_law_pen", "_law_cells"] zjs)
  (g__law_right:Fn P w K mg base 10 "_law_right" ["_law_some","_law_cells","_law_x","_law_y"] (zjn K))
  (d:Df K mg "law" s_law ["_law_script"]):FnOk P w K mg base CX0 11 d.f d.fd ["_law_script"] (spLaw K):=by
 refine d.F.ok zd9 (λvs H Q E h=>?_) (λcdv A outer s H vs Q E hr h=>?_)
 .obtain⟨a,ns,rfl,_⟩:=h;rfl
 .obtain⟨a,ns,rfl,hS,hlen,k⟩:=h;have hu64:=hr.units
  refine⟨_,(zac (sE 1 zd9.nd (zaV (zah (pC g__law_cell_at hr (pa_N (pv 0) (pa_C zaf zab))) (pa_C zaf zab))))
   (zac (sE 2 zd9.nd (pC g__law_picture hr (pa_N (pv 1) (pa_C zaf zab))))
   (zac (zcb By rfl (zgD (by rfl) T.nrange (pa_C zaf (zah (zap (zky rfl) (by rfl) T.nmax (by rfl) (pa_C zaf (zah (zap (zkx rfl) (by rfl) T.nmin (by rfl) (pa_C zaf (zah (zap zaO (by rfl) T.nlen (by rfl) (pa_N (pv 0) zab)) zab))) zab))) zab))) (nG 3 zd9.nd)
   (zac (zbD (pC g__law_drawn hr (zah (zaV (zah (pC g__law_cell_at hr (pa_N (pv 0) (pa_N (pv 3) zab))) (pa_C zaf zab))) (pa_N (pv 2) zab))) (zbk (by rfl) (zag (nG 4 zd9.nd) (zag (nG 5 zd9.nd) zaA))))
   (zac (sE 2 zd9.nd (pC g__law_right hr (zah (pC g_rounds hr (zah (za9 zcJ (by rfl) T.nlist (by rfl) (pa_N (pv 2) zab)) zab)) (pa_N (pv 2) (pa_N (pv 4) (pa_N (pv 5) zab))))))
   (zae (ps_if (zam zgJ (pv 2) zbp (zan _))
   (zae (zaj pe_bl))
   zaq)))))
   (zae (zaj pe_bl))))),?_⟩
  have hσ:L2.start N_law [.ref a]=[some (.ref a),none,none,none,none,none]:=rfl;rw[hσ];refine⟨_,rfl,a,ns,0,rfl,hS,λc=>⟨two,λp hp=>?_⟩⟩;have sp:Same H (upd H p (.lst [.int c,.int 0])):=Same.up hp;have pen0:HasB (upd H p (.lst [.int c,.int 0])) p 200000:=⟨c,0,zaa,by decide,by decide⟩;generalize upd H p (.lst [.int c,.int 0])=H1 at sp pen0 ⊢;simp only[zat,AA,AB];refine⟨_,rfl,p,1000,100,rfl,pen0.le (by lia),by decide,by decide,λap cs H2 hap b2 p2 hLR hord hbox hcl hcB=>?_⟩;have s2:Same H H2:=λz o h=>b2 z o (zal h hp) (sp z o h)
  obtain⟨tv,e2,hv2⟩:=hLR;simp only[zat,AA,AB];refine⟨_,rfl,a,_,rfl,.inl (s2.seq hS),?_⟩;have uc:∀{l:List V} {X:List Cell} {H1 H5:Hp},Same H1 H5->VR l X cR H1->VR l X cR H5:=λs h=>h.mono λx v q=>q.kt (KT.of s)
  refine⟨_,_,rfl,_,_,rfl,_,_,rfl,⟨by decide,by decide,?_,?_⟩,?_⟩
  .split
   .split <;> lia
   .decide
  .split
   .split <;> lia
   .decide
  refine zcc (lo:=1) (λi σ H5=>∃pc ts ds o3 o4 o5,σ=[some (.ref a),some (.ref p),some (.ref pc),o3,o4,o5]/\Same H H5/\H5 pc=some (.lst ts)/\VR ts ds cR H5/\InOrd ds/\ds.length<=100+i) ⟨ap,tv,cs,_,_,_,rfl,s2,e2,hv2,hord,hcl⟩ ?_ ?_
  .rintro i σ H5 hi ⟨pc,ts,ds,o3,o4,o5,rfl,s5,e5,v5,ho5,hl5⟩
   have hi8:i<8:=by have:i<((if (if ((ns.map V.int).length:Int)<9 then ((ns.map V.int).length:Int) else 9) > 3 then (if ((ns.map V.int).length:Int)<9 then ((ns.map V.int).length:Int) else 9) else 3)-1).toNat:=hi;generalize ((ns.map V.int).length:Int)=L at this;split at this <;> split at this <;> lia
   simp only[zat,AA,AB];refine⟨_,rfl,_,rfl,a,ns,i+1,(by rw[show ((1:Int)+(i:Int))=((i+1:Nat):Int) by lia];rfl),s5.seq hS,λc=>⟨two,λq hq=>?_⟩⟩;have s6:=Same.up (o:=.lst [.int c,.int 0]) hq;have pen6:HasB (upd H5 q (.lst [.int c,.int 0])) q 100:=⟨c,0,zaa,by decide,by decide⟩;generalize upd H5 q (.lst [.int c,.int 0])=H6 at s6 pen6 ⊢;have hne:pc≠q:=λz=>by rw[z,hq]at e5;cases e5
   refine⟨_,rfl,q,pc,ts,ds,rfl,pen6,hne,s6 _ _ e5,uc s6 v5,by lia,λx y t7 H7 b7 e7=>?_⟩;have s7:Same H5 H7:=λz o h=>b7 z o (zal h hq) (s6 z o h)
   refine⟨t7,[.int x,.int y],rfl,SqT.of e7,rfl,_,_,rfl,_,_,rfl,rfl,?_⟩;simp only[zat,AA,AB];refine⟨_,rfl,pc,ts,rfl,.inl (SqL.of (s7 _ _ e5)),λl8 hl8=>?_⟩;have s8:=Same.up (o:=.lst ts) hl8;have e8:upd H7 l8 (.lst ts) l8=some (.lst ts):=zaa;generalize upd H7 l8 (.lst ts)=H8 at s8 e8 ⊢;refine⟨l8,ds,rfl,⟨ts,SqL.of e8,uc (s7.trans s8) v5⟩,ho5,by lia,λpr H9 rv R R0 hpr s9 e9 hvr hpm hkey hwh=>?_⟩;have s59:=s7.trans (s8.trans s9);refine⟨_,rfl,_,rfl,_,rfl,pr,pc,rv,ts,R,ds,x,y,rfl,e9,hvr,⟨hkey,R0,hpm,hwh⟩,by lia,ho5,s59 _ _ e5,uc s59 v5,λp10 ts' ds' H10 hp10 s10 e10 v10 ho10 hl10=>?_⟩;simp only[zat,AA,AB];refine⟨_,rfl,rfl,_,rfl,iteN rfl ?_⟩;exact⟨p10,ts',ds',_,_,_,rfl,s5.trans (s59.trans s10),e10,v10,ho10,by lia⟩
  .rintro σ H5 ⟨pc,ts,ds,o3,o4,o5,rfl,s5,e5,v5,ho5,hl5⟩;exact k H5
end
theorem all_mk {l:W.OpenLaw}{w:A5}{K:W.Frag}{h:Heap}{mg:Str -> Option Value}{fa:Addr}(X:K.In h) (G:h.Ns Az mg) (hfa:mg "law" = some (.ref fa)){fx51:Addr}{od51 an51:Option Addr}{sl51:Array (Option Value)}{oc51 kV51 dc51 pm51 ct51 cd51:Value}
  (h0:DA K "cell_order" zcA)
  (h1:DA K "ask_picture" zcn)
  (h2:DA K "gone" zjz)
  (h3:DA K "cell_table" zbY)
  (h4:DA K "gap_beside" zcy)
  (h5:DA K "edge_facing" zck)
  (h6:DA K "all_edges" zbQ)
  (h7:DA K "straight_step" zbP)
  (h8:DA K "slant_step" zcx)
  (h9:DA K "step_behind" zch)
  (h10:DA K "is_slant" zdx)
  (h11:DA K "edge_behind" zcl)
  (h12:DA K "walk_from" zc4)
  (h13:DA K "lefts_and_slants" zaM)
  (h14:DA K "lefts_less_slants" zbf)
  (h15:DA K "sort_of" zeg)
  (h16:DA K "begin_of" zcR)
  (h17:DA K "round_of" zbM)
  (h18:DA K "round_order" zci)
  (h19:DA K "rounds_along" zb1)
  (h20:DA K "rounds" zfw)
  (h21:DA K "begin_edge" zcB)
  (h22:DA K "way_for" zed)
  (h23:DA K "deeds_along" zcm)
  (h24:DA K "walk_by" zef)
  (h25:DA K "walk_along" zcw)
  (h26:DA K "seen_between" zb0)
  (h27:DA K "gainsaid_at" zcj)
  (h28:DA K "comes_back" zcz)
  (h29:DA K "is_closed" zc5)
  (h30:DA K "walk_of" zee)
  (h31:DA K "edges_of" zcQ)
  (h32:DA K "uprights" zdw)
  (h33:DA K "lies_within" zbK)
  (h34:DA K "edges_of_all" zbA)
  (h35:DA K "is_cell" zeh)
  (h36:DA K "edges_changed" zbn)
  (h37:DA K "rounds_changed" zaD)
  (h38:DA K "put" s_put)
  (h39:DA K "taken" zho)
  (h40:DA K "_law_cell_at" zb3)
  (h41:DA K "_law_take" zc6)
  (h42:DA K "_law_far" zdy)
  (h43:DA K "_law_is_there" zbR)
  (h44:DA K "_law_picture" zb2)
  (h45:DA K "_law_rank" zc7)
  (h46:DA K "_law_is_round" zbo)
  (h47:DA K "_law_are_rounds" za5)
  (h48:DA K "_law_caught" zbL)
  (h49:DA K "_law_drawn" zcC)
  (h50:DA K "_law_right" zaU)
  (a51:BW K Az "law" = some (some (.ref fx51))) (l51:K.lookup fx51=some ⟨oc51,od51,.func (Db "law" "law" (za2 s_law) (zaS s_law) (zad s_law) .none kV51 dc51 pm51 an51 cd51 ct51),sl51⟩) (c51:W.codeIn K cd51 "law" = true) (k51:DN K (.ref fx51)=true)
  {M m0 m1 m2 m3 m4 m5 m6 m7:Addr}{odM:Option Addr}{nM:Nat}{slM:Array (Option Value)}
  (aM:BW K Az "MOVES" = some (some (.ref M))) (lM:K.lookup M=some ⟨.type "tuple",odM,.seq #[.ref m0,.ref m1,.ref m2,.ref m3,.ref m4,.ref m5,.ref m6,.ref m7] nM,slM⟩)
  {odm0:Option Addr}{nm0:Nat}{slm0:Array (Option Value)}{tm0 um0:Tok} (x0:K.lookup m0=some ⟨.type "tuple",odm0,.seq #[.int (1) tm0,.int (0) um0] nm0,slm0⟩)
  {odm1:Option Addr}{nm1:Nat}{slm1:Array (Option Value)}{tm1 um1:Tok} (x1:K.lookup m1=some ⟨.type "tuple",odm1,.seq #[.int (1) tm1,.int (1) um1] nm1,slm1⟩)
  {odm2:Option Addr}{nm2:Nat}{slm2:Array (Option Value)}{tm2 um2:Tok} (x2:K.lookup m2=some ⟨.type "tuple",odm2,.seq #[.int (0) tm2,.int (1) um2] nm2,slm2⟩)
  {odm3:Option Addr}{nm3:Nat}{slm3:Array (Option Value)}{tm3 um3:Tok} (x3:K.lookup m3=some ⟨.type "tuple",odm3,.seq #[.int (-1) tm3,.int (1) um3] nm3,slm3⟩)
  {odm4:Option Addr}{nm4:Nat}{slm4:Array (Option Value)}{tm4 um4:Tok} (x4:K.lookup m4=some ⟨.type "tuple",odm4,.seq #[.int (-1) tm4,.int (0) um4] nm4,slm4⟩)
  {odm5:Option Addr}{nm5:Nat}{slm5:Array (Option Value)}{tm5 um5:Tok} (x5:K.lookup m5=some ⟨.type "tuple",odm5,.seq #[.int (-1) tm5,.int (-1) um5] nm5,slm5⟩)
  {odm6:Option Addr}{nm6:Nat}{slm6:Array (Option Value)}{tm6 um6:Tok} (x6:K.lookup m6=some ⟨.type "tuple",odm6,.seq #[.int (0) tm6,.int (-1) um6] nm6,slm6⟩)
  {odm7:Option Addr}{nm7:Nat}{slm7:Array (Option Value)}{tm7 um7:Tok} (x7:K.lookup m7=some ⟨.type "tuple",odm7,.seq #[.int (1) tm7,.int (-1) um7] nm7,slm7⟩)
  {B:Addr}{t1 t2 t3 t4:Tok}{nB:Nat} (aB:BW K Az "BEGIN_WAYS" = some (some (.ref B))) (lB:K.lookup B=some ⟨.type "dict",none,.dict #[⟨BU w.params "rim",.str "rim" t1,.int 0 t2⟩,⟨BU w.params "hole",.str "hole" t3,.int 2 t4⟩] nB,#[]⟩)
  {B2:Addr}{u1 u2 u3 u4:Tok}{nB2:Nat} (aB2:BW K Az "MORE_LEFTS" = some (some (.ref B2))) (lB2:K.lookup B2=some ⟨.type "dict",none,.dict #[⟨BU w.params "rim",.str "rim" u1,.int 4 u2⟩,⟨BU w.params "hole",.str "hole" u3,.int (-4) u4⟩] nB2,#[]⟩)
  {cTwice cNoCell cNoPicture cNoRound cNoRounds cNoRow cNoText cTooWide cRimError:Addr} (xnTwice:BW K Az "Twice" = some (some (.ref cTwice))) (xnNoCell:BW K Az "NoCell" = some (some (.ref cNoCell))) (xnNoPicture:BW K Az "NoPicture" = some (some (.ref cNoPicture))) (xnNoRound:BW K Az "NoRound" = some (some (.ref cNoRound))) (xnNoRounds:BW K Az "NoRounds" = some (some (.ref cNoRounds))) (xnNoRow:BW K Az "NoRow" = some (some (.ref cNoRow))) (xnNoText:BW K Az "NoText" = some (some (.ref cNoText))) (xnTooWide:BW K Az "TooWide" = some (some (.ref cTooWide))) (xnRimError:BW K Az "RimError" = some (some (.ref cRimError)))
  (xeTwice:W.excIn K cTwice [.type "ValueError",.type "Exception",.type "BaseException",.type "object"] "ValueError.__new__" = true) (xaTwice:Cy K (.ref cTwice) "__getattribute__" = some (some (.builtin "BaseException.__getattribute__"))) (xbTwice:Cy K (.ref cTwice) "__getattr__" = some none) (xcTwice:W.subIn K (.ref cTwice) (.type "BaseException")=some true) (xdTwice:W.hasDictIn K cTwice=true) (xfTwice:Cy K (.ref cTwice) "__class__" = some (some (.builtin "object.__class__"))) (xgTwice:W.mroIn K cTwice (.type "object")=some true)
  (xRTwice:W.exmOne K (.ref cTwice) (.ref cRimError)=some true) (xTTwice:Cz K (.ref cTwice) (.ref cTwice)=some true) (xNTwice:Cz K (.ref cTwice) (.ref cNoCell)=some false) (xOTwice:W.kitAny K (.ref cTwice) [.ref cNoPicture,.ref cNoRound,.ref cNoRounds,.ref cNoRow,.ref cNoText,.ref cTooWide]=some false) (xVTwice:Cz K (.ref cTwice) (.type "ValueError")=some true)
  (xeNoCell:W.excIn K cNoCell [.type "ValueError",.type "Exception",.type "BaseException",.type "object"] "ValueError.__new__" = true) (xaNoCell:Cy K (.ref cNoCell) "__getattribute__" = some (some (.builtin "BaseException.__getattribute__"))) (xbNoCell:Cy K (.ref cNoCell) "__getattr__" = some none) (xcNoCell:W.subIn K (.ref cNoCell) (.type "BaseException")=some true) (xdNoCell:W.hasDictIn K cNoCell=true) (xfNoCell:Cy K (.ref cNoCell) "__class__" = some (some (.builtin "object.__class__"))) (xgNoCell:W.mroIn K cNoCell (.type "object")=some true)
  (xRNoCell:W.exmOne K (.ref cNoCell) (.ref cRimError)=some true) (xTNoCell:Cz K (.ref cNoCell) (.ref cTwice)=some false) (xNNoCell:Cz K (.ref cNoCell) (.ref cNoCell)=some true) (xONoCell:W.kitAny K (.ref cNoCell) [.ref cNoPicture,.ref cNoRound,.ref cNoRounds,.ref cNoRow,.ref cNoText,.ref cTooWide]=some false) (xVNoCell:Cz K (.ref cNoCell) (.type "ValueError")=some true)
  (xC4:W.specialIn K (.builtin "object.__class__") "__get__" = some (some (.builtin "getset_descriptor.__get__"))) (xC5:W.takesIn K (.builtin "object.__class__")=some true)
  (z_abs:BW K Az "abs" = some none)
  (z_max:BW K Az "max" = some none)
  (z_any:BW K Az "any" = some none)
  (z_range:BW K Az "range" = some none)
  (z_len:BW K Az "len" = some none)
  (z_min:BW K Az "min" = some none)
  (z_sorted:BW K Az "sorted" = some none)
  (z_tuple:BW K Az "tuple" = some none)
  (z_int:BW K Az "int" = some none)
  (z_bool:BW K Az "bool" = some none)
  (z_str:BW K Az "str" = some none)
  (z_all:BW K Az "all" = some none)
  (z_isinstance:BW K Az "isinstance" = some none)
  (z_list:BW K Az "list" = some none)
  (z_sum:BW K Az "sum" = some none)
  (z_enumerate:BW K Az "enumerate" = some none)
  (z_zip:BW K Az "zip" = some none)
  (z_ValueError:BW K Az "ValueError" = some none) :
  ∃fd:Bz,(∀(s:Ac) (v:Value),BindsTo s fd ⟨[v],[]⟩ [("_law_script",v)])/\∀base:Heap,K.In base->base.Ns Az mg->FnOk l.prog w K mg base CX0 11 fa fd ["_law_script"] (spLaw K):=by
 have e:=hfa.symm.trans (Cq X G a51)
 cases e
 have moves:∃M,mg "MOVES" = some (.ref M)/\∀H,∃ms:List Addr,SqT K H M (ms.map V.ref)/\ms.length=8/\∀(i:Nat) a,ms[i]?=some a->SqT K H a [.int (mv i).1,.int (mv i).2]:=by
  refine⟨M,Cq X G aM,λH=>⟨[m0,m1,m2,m3,m4,m5,m6,m7],.inr ⟨_,_,_,lM,rfl,rfl,(by show 8<=sizeLine;decide),.cons rfl (.cons rfl (.cons rfl (.cons rfl (.cons rfl (.cons rfl (.cons rfl (.cons rfl .nil)))))))⟩,rfl,λi a e=>?_⟩⟩
  match i,e with
  | 0,e=>cases e;exact .inr ⟨_,_,_,x0,rfl,rfl,(by show 2<=sizeLine;decide),.cons ⟨_,rfl⟩ (.cons ⟨_,rfl⟩ .nil)⟩
  | 1,e=>cases e;exact .inr ⟨_,_,_,x1,rfl,rfl,(by show 2<=sizeLine;decide),.cons ⟨_,rfl⟩ (.cons ⟨_,rfl⟩ .nil)⟩
  | 2,e=>cases e;exact .inr ⟨_,_,_,x2,rfl,rfl,(by show 2<=sizeLine;decide),.cons ⟨_,rfl⟩ (.cons ⟨_,rfl⟩ .nil)⟩
  | 3,e=>cases e;exact .inr ⟨_,_,_,x3,rfl,rfl,(by show 2<=sizeLine;decide),.cons ⟨_,rfl⟩ (.cons ⟨_,rfl⟩ .nil)⟩
  | 4,e=>cases e;exact .inr ⟨_,_,_,x4,rfl,rfl,(by show 2<=sizeLine;decide),.cons ⟨_,rfl⟩ (.cons ⟨_,rfl⟩ .nil)⟩
  | 5,e=>cases e;exact .inr ⟨_,_,_,x5,rfl,rfl,(by show 2<=sizeLine;decide),.cons ⟨_,rfl⟩ (.cons ⟨_,rfl⟩ .nil)⟩
  | 6,e=>cases e;exact .inr ⟨_,_,_,x6,rfl,rfl,(by show 2<=sizeLine;decide),.cons ⟨_,rfl⟩ (.cons ⟨_,rfl⟩ .nil)⟩
  | 7,e=>cases e;exact .inr ⟨_,_,_,x7,rfl,rfl,(by show 2<=sizeLine;decide),.cons ⟨_,rfl⟩ (.cons ⟨_,rfl⟩ .nil)⟩
  |i+8,e=>exact absurd (Ad.mp e).1 (by simp)
 have ways:Ways l.prog w K mg:=⟨⟨B,t1,t2,t3,t4,nB,Cq X G aB,lB⟩⟩;have T:Txt l.prog w K mg:={ moves:=moves,ways:=ways,more:=⟨⟨B2,u1,u2,u3,u4,nB2,Cq X G aB2,lB2⟩⟩,nabs:=BC X G z_abs,nmax:=BC X G z_max,nany:=BC X G z_any,nrange:=BC X G z_range,nlen:=BC X G z_len,nmin:=BC X G z_min,nsorted:=BC X G z_sorted,ntuple:=BC X G z_tuple,nint:=BC X G z_int,nbool:=BC X G z_bool,nstr:=BC X G z_str,nall:=BC X G z_all,nisinstance:=BC X G z_isinstance,nlist:=BC X G z_list,nsum:=BC X G z_sum,nenumerate:=BC X G z_enumerate,nzip:=BC X G z_zip,nValueError:=BC X G z_ValueError };obtain⟨d'0⟩:=h0.d1 X G (p0:="cell");obtain⟨d'1⟩:=h1.d1 X G (p0:="picture");obtain⟨d'2⟩:=h2.d3 X G (p0:="x") (p1:="y") (p2:="step");obtain⟨d'3⟩:=h3.d1 X G (p0:="picture");obtain⟨d'4⟩:=h4.d1 X G (p0:="edge");obtain⟨d'5⟩:=h5.d1 X G (p0:="edge");obtain⟨d'6⟩:=h6.d1 X G (p0:="picture");obtain⟨d'7⟩:=h7.d1 X G (p0:="way");obtain⟨d'8⟩:=h8.d1 X G (p0:="way");obtain⟨d'9⟩:=h9.d2 X G (p0:="table") (p1:="edge");obtain⟨d'a⟩:=h10.d1 X G (p0:="step");obtain⟨d'b⟩:=h11.d2 X G (p0:="edge") (p1:="step");obtain⟨d'c⟩:=h12.d2 X G (p0:="table") (p1:="begin");obtain⟨d'd⟩:=h13.d1 X G (p0:="walk");obtain⟨d'e⟩:=h14.d1 X G (p0:="walk");obtain⟨d'f⟩:=h15.d1 X G (p0:="walk");obtain⟨d'10⟩:=h16.d2 X G (p0:="walk") (p1:="sort");obtain⟨d'11⟩:=h17.d1 X G (p0:="walk");obtain⟨d'12⟩:=h18.d1 X G (p0:="one");obtain⟨d'13⟩:=h19.d2 X G (p0:="table") (p1:="edges");obtain⟨d'14⟩:=h20.d1 X G (p0:="picture");obtain⟨d'15⟩:=h21.d1 X G (p0:="one");obtain⟨d'16⟩:=h22.d1 X G (p0:="step");obtain⟨d'17⟩:=h23.d2 X G (p0:="begin_way") (p1:="row");obtain⟨d'18⟩:=h24.d2 X G (p0:="begin") (p1:="deeds");obtain⟨d'19⟩:=h25.d2 X G (p0:="begin") (p1:="row");obtain⟨d'1a⟩:=h26.d2 X G (p0:="edge") (p1:="step");obtain⟨d'1b⟩:=h27.d1 X G (p0:="walk");obtain⟨d'1c⟩:=h28.d1 X G (p0:="walk");obtain⟨d'1d⟩:=h29.d2 X G (p0:="walk") (p1:="sort");obtain⟨d'1e⟩:=h30.d1 X G (p0:="one");obtain⟨d'1f⟩:=h31.d1 X G (p0:="one");obtain⟨d'20⟩:=h32.d1 X G (p0:="edges");obtain⟨d'21⟩:=h33.d3 X G (p0:="places") (p1:="x") (p2:="y");obtain⟨d'22⟩:=h34.d1 X G (p0:="some");obtain⟨d'23⟩:=h35.d3 X G (p0:="edges") (p1:="x") (p2:="y");obtain⟨d'24⟩:=h36.d4 X G (p0:="edges") (p1:="x") (p2:="y") (p3:="inside");obtain⟨d'25⟩:=h37.d2 X G (p0:="some") (p1:="edges");obtain⟨d'26⟩:=h38.d3 X G (p0:="some") (p1:="x") (p2:="y");obtain⟨d'27⟩:=h39.d3 X G (p0:="some") (p1:="x") (p2:="y");obtain⟨d'28⟩:=h40.d2 X G (p0:="_law_script") (p1:="_law_k");obtain⟨d'29⟩:=h41.d2 X G (p0:="_law_pen") (p1:="_law_base");obtain⟨d'2a⟩:=h42.d1 X G (p0:="_law_pen");obtain⟨d'2b⟩:=h43.d6 X G (p0:="_law_pen") (p1:="_law_way") (p2:="_law_x") (p3:="_law_y") (p4:="_law_wide") (p5:="_law_high");obtain⟨d'2c⟩:=h44.d2 X G (p0:="_law_pen") (p1:="_law_most");obtain⟨d'2d⟩:=h45.d1 X G (p0:="_law_cell");obtain⟨d'2e⟩:=h46.d1 X G (p0:="_law_found");obtain⟨d'2f⟩:=h47.d1 X G (p0:="_law_found");obtain⟨d'30⟩:=h48.d4 X G (p0:="_law_deed") (p1:="_law_some") (p2:="_law_x") (p3:="_law_y");obtain⟨d'31⟩:=h49.d2 X G (p0:="_law_pen") (p1:="_law_cells");obtain⟨d'32⟩:=h50.d4 X G (p0:="_law_some") (p1:="_law_cells") (p2:="_law_x") (p3:="_law_y");have F51:=zcG (st:=s_law) l51 c51 k51;have b51:=F51.b1 (p0:="_law_script");refine⟨Db "law" "law" (za2 s_law) (zaS s_law) (zad s_law) .none kV51 dc51 pm51 an51 cd51 ct51,λs v=>.of_eq rfl,λbase _ _=>?_⟩;have fn:∀{k:Nat}{x:Str}{s:Stmt}{ps:List Str}{sp:Sp} (d:Df K mg x s ps),FnOk l.prog w K mg base CX0 k d.f d.fd ps sp->Fn l.prog w K mg base k x ps sp:=λd h=>d.fn h
 have hXT:ExcK K cTwice cTwice cNoCell cRimError [cNoPicture,cNoRound,cNoRounds,cNoRow,cNoText,cTooWide] true false:=⟨⟨xaTwice,xbTwice,xcTwice,xdTwice,xfTwice,xC4,xC5,xgTwice⟩,xRTwice,xTTwice,xNTwice,xOTwice,xVTwice⟩;have hXN:ExcK K cNoCell cTwice cNoCell cRimError [cNoPicture,cNoRound,cNoRounds,cNoRow,cNoText,cTooWide] false true:=⟨⟨xaNoCell,xbNoCell,xcNoCell,xdNoCell,xfNoCell,xC4,xC5,xgNoCell⟩,xRNoCell,xTNoCell,xNNoCell,xONoCell,xVNoCell⟩;have g'33:=fn d'0 (zfJ d'0);have g'34:=fn d'2 (zmn T d'2);have g'35:=fn d'7 (zdU d'7);have g'36:=fn d'8 (zfE d'8);have g'37:=fn d'a (zhw d'a);have g'38:=fn d'4 (zfG g'34 d'4);have g'39:=fn d'1 (zeP T g'33 d'1);have g'3a:=fn d'3 (zfI d'3);have g'3b:=fn d'9 (zeG g'34 g'36 g'35 d'9);have g'3c:=fn d'b (zeN g'34 g'37 d'b);have g'3d:=fn d'6 (zgP T g'3a g'38 d'6);have g'3e:=fn d'c (zgL g'3b g'3c d'c);have g'3f:=fn d'd (zc9 T g'37 d'd);have g'40:=fn d'e (zcX g'3f d'e);have g'41:=fn d'f (ziW g'40 d'f);have g'42:=fn d'10 (zhy T g'33 d'10);have g'43:=fn d'11 (zht T g'41 g'42 d'11);have g'44:=fn d'12 (zeH d'12);have g'45:=fn d'13 (zel T g'3e g'43 g'44 d'13);have g'46:=fn d'14 (zjV T g'39 g'3a g'3d g'45 d'14);have g'47:=fn d'15 (zfK T d'15);have g'48:=fn d'16 (ziT d'16);have g'49:=fn d'17 (zeO g'48 d'17);have g'4a:=fn d'18 (ziV g'3c d'18);have g'4b:=fn d'19 (zfD g'4a g'49 d'19);have g'4c:=fn d'1a (zek g'3c g'38 g'37 g'34 g'36 g'35 d'1a);have g'4d:=fn d'1b (zeL g'4c d'1b);have g'4e:=fn d'1c (zfH g'3c d'1c);have g'4f:=fn d'1d (zgO T g'4e g'40 d'1d);have g'50:=fn d'1e (ziU g'47 g'4b g'4d g'4f g'42 d'1e);have g'51:=fn d'1f (zhx g'50 d'1f);have g'52:=fn d'20 (zhs T d'20);have g'53:=fn d'21 (zeI T d'21);have g'54:=fn d'22 (zeo g'51 d'22);have g'55:=fn d'5 (zeM g'38 d'5);have g'56:=fn d'23 (ziY g'53 g'52 d'23);have g'57:=fn d'24 (zdV T g'55 d'24);have g'58:=fn d'25 (zdB T g'45 g'3a d'25);have g'59:=d'26.fnX (zmm (base:=base) T (Cq X G xnTwice) xeTwice g'54 g'56 g'57 g'58 d'26);have g'5a:=d'27.fnX (zjU (base:=base) T (Cq X G xnNoCell) xeNoCell g'54 g'56 g'57 g'58 d'27);have g'5b:=fn d'28 (zeK T d'28);have g'5c:=fn d'29 (tk_of (zhu T d'29));have g'5d:=fn d'2a (ziX g'5c d'2a);have g'5e:=fn d'2b (zem T g'5c d'2b);have g'5f:=fn d'2c (zeJ T g'5c g'5d g'5e d'2c);have g'60:=fn d'2d (zhv d'2d);have g'61:=fn d'2e (zen T d'2e);have g'62:=fn d'2f (zdC T g'61 d'2f);have g'63:=fn d'31 (zgN T g'5c g'5d d'31);have g'64:=fn d'30 (zfF T (Cq X G xnTwice) (Cq X G xnNoCell) (Cq X G xnNoPicture) (Cq X G xnNoRound) (Cq X G xnNoRounds) (Cq X G xnNoRow) (Cq X G xnNoText) (Cq X G xnTooWide) (Cq X G xnRimError) hXT hXN g'59 g'5a d'30);have g'65:=fn d'32 (zgM T g'64 g'60 g'46 g'62 d'32);exact znh T g'5b g'5f g'46 g'63 g'65 ⟨_,_,F51,Cq X G a51,b51⟩
theorem walk{l:W.OpenLaw}{q:AD}{loose:List Str}{XP:(Str -> Option Value) -> Heap -> Prop}{YP:A5 -> Heap -> Prop}{d:DefRec}{K:Params -> W.Frag}(hn:l.most=some 63)(hdf:d.params.defaults = [])
  (hY:∀(w:A5) (h:Heap),YP w h->(K w.params).In h)
  (F:∀(w:A5) (mg:Str->Option Value) (fa:Addr) (h:Heap),(K w.params).In h->h.Ns Az mg->mg d.name=some (.ref fa) ->
   ∃fd:Bz,(∀(s:Ac) (u:Value),BindsTo s fd ⟨[u],[]⟩ [("_law_script",u)])/\∀base:Heap,(K w.params).In base->base.Ns Az mg->FnOk l.prog w (K w.params) mg base CX0 11 fa fd ["_law_script"] (spLaw (K w.params))) :
  W.WalkO q loose XP YP l.row.toRowW d [] (λf vs=>PySem.call f vs) :=
 L2.walk_of (n:=63) (k:=11) (x:="_law_script") (CX:=λ_=>CX0) (sp:=λw=>spLaw (K w.params)) hn (by decide) hdf ⟨rfl,by decide,by decide,rfl⟩ hY F (λ_ _ a ns hl _ hS=>⟨a,ns,rfl,hS,hl,λ_=>rfl⟩) λ_ _ _ _ _ z=>z
end RR
namespace PySem.W.Fast
noncomputable def tw8433185351385433077:=()
noncomputable def tw1362810717119043999:=()
noncomputable def tw8406815394944964022:=()
noncomputable def tw12568710818723152837:=()
noncomputable def tw3190312292970106024:=()
noncomputable def tw5306516016864066009:=()
noncomputable def tw7893849145239745898:=()
noncomputable def tw12466668043457981005:=()
noncomputable def tw16652379845147056605:=()
noncomputable def tw10076732168329767246:=()
noncomputable def tw14153575949770522712:=()
noncomputable def tw5181988316481398807:=()
noncomputable def tw2113998651110413340:=()
noncomputable def tw3413434314873309636:=()
noncomputable def tw10740412658615132539:=()
noncomputable def tw9247122918319044227:=()
noncomputable def tw10047308189390022748:=()
noncomputable def tw17586473729214328760:=()
noncomputable def tw6949223976395343650:=()
noncomputable def tw4812266463527811393:=()
noncomputable def tw16122733210414199422:=()
noncomputable def tw7576030880522519946:=()
noncomputable def tw18299625216890464444:=()
noncomputable def tw4830891966394975637:=()
noncomputable def tw14484139706192686995:=()
noncomputable def tw8887003328565174813:=()
noncomputable def tw15699877600033214607:=()
noncomputable def tw11720583796847679875:=()
noncomputable def tw17748692288044301498:=()
noncomputable def tw10663300296615711328:=()
noncomputable def tw16235058411312518656:=()
noncomputable def tw12075653692622030842:=()
noncomputable def tw1798600770408822014:=()
noncomputable def tw4369926398394547167:=()
noncomputable def tw11500384276540634665:=()
noncomputable def tw6494504613588674032:=()
noncomputable def tw6948890586749075661:=()
noncomputable def tw12974389048415618230:=()
noncomputable def tw11937164896429320821:=()
noncomputable def tw15731505057036705943:=()
noncomputable def tw1212620236540152699:=()
noncomputable def tw3384849266050282269:=()
noncomputable def tw5475283282102068351:=()
noncomputable def tw5288558148482869058:=()
noncomputable def tw17516978602083730840:=()
noncomputable def tw15536239235134542312:=()
noncomputable def tw7335041964260789543:=()
noncomputable def tw7801099438701697923:=()
noncomputable def tw5505833601976018563:=()
noncomputable def tw3623974095183483078:=()
noncomputable def tw12813610901686745597:=()
noncomputable def tw16084052464419074149:=()
noncomputable def tw17605124489746401928:=()
noncomputable def tw805306732796637534:=()
noncomputable def tw6981282281169253702:=()
noncomputable def tw483548063700820548:=()
noncomputable def tw3346287322255607849:=()
noncomputable def tw11075954668296479426:=()
noncomputable def tw9972576795231957350:=()
noncomputable def tw994430943972419891:=()
noncomputable def tw8200692321602360769:=()
noncomputable def tw12301242909183939902:=()
noncomputable def tw9396435471599195120:=()
noncomputable def tw11629875027134327056:=()
noncomputable def tw3825487437391841862:=()
noncomputable def tw17068200122606891142:=()
noncomputable def tw6518115830692196186:=()
noncomputable def tw12300122655165276622:=()
noncomputable def tw8984640954578119248:=()
noncomputable def tw13025828620002246878:=()
noncomputable def tw10955323445871091966:=()
noncomputable def tw16835030901841245093:=()
noncomputable def tw17041623511490497590:=()
noncomputable def tw14346579786229595725:=()
noncomputable def tw15861429348001900140:=()
noncomputable def tw358577625576144531:=()
noncomputable def tw5348177156092208527:=()
noncomputable def tw10267211343323591973:=()
noncomputable def tw8663007034932264006:=()
noncomputable def tw14877106938932456161:=()
noncomputable def tw17674237894587373307:=()
noncomputable def tw16128022156082273043:=()
noncomputable def tw16389257543391635722:=()
noncomputable def tw10727993126264909612:=()
noncomputable def tw18124583100333508904:=()
noncomputable def tw8699922589919642507:=()
noncomputable def tw16765018831369461596:=()
noncomputable def tw1016870115046392769:=()
noncomputable def tw6638302659713851966:=()
noncomputable def tw8183498012553210634:=()
noncomputable def tw5883589638590102401:=()
noncomputable def tw9316162718348705262:=()
noncomputable def tw17707760563772746881:=()
noncomputable def tw9667633342691116762:=()
noncomputable def tw12784578916133997660:=()
noncomputable def tw11303428092603078368:=()
noncomputable def tw1027282090331388720:=()
noncomputable def tw6335115077366165568:=()
noncomputable def tw17711483575301273969:=()
noncomputable def tw10192939140409776150:=()
noncomputable def tw18241920064195287553:=()
noncomputable def tw12692628550420537845:=()
noncomputable def tw17692386802694761258:=()
noncomputable def tw16721641709234060546:=()
noncomputable def tw13204819390282176786:=()
noncomputable def tw2541851076996385419:=()
noncomputable def tw10700711132327536105:=()
noncomputable def tw13994277724951212026:=()
noncomputable def tw6456209253569372031:=()
noncomputable def tw14449644557308184314:=()
noncomputable def tw15921058598117229043:=()
noncomputable def tw16770976894306669840:=()
noncomputable def tw5627241565812473997:=()
noncomputable def tw10588354922835983747:=()
noncomputable def tw12333151505478771878:=()
noncomputable def tw10361003126643422786:=()
noncomputable def tw18219364044649211122:=()
noncomputable def tw6213180592454635669:=()
noncomputable def tw13530524633385502842:=()
noncomputable def tw14855475604415465985:=()
noncomputable def tw2900978889549523612:=()
noncomputable def tw10021575907299674876:=()
noncomputable def tw3849370362866374922:=()
noncomputable def tw4977425802151853528:=()
noncomputable def tw4690436700369201340:=()
noncomputable def tw14595546682578153213:=()
noncomputable def tw1901461612316104918:=()
noncomputable def tw6958905170211722450:=()
noncomputable def tw1689174897428761015:=()
noncomputable def tw9882354650417135162:=()
noncomputable def tw7703417174206694164:=()
noncomputable def tw110117264858366995:=()
noncomputable def tw17955865275005823249:=()
noncomputable def tw7359355679206700761:=()
noncomputable def tw11455672365731996831:=()
noncomputable def tw8405438767509818899:=()
noncomputable def tw18092556321724377492:=()
noncomputable def tw10550466997206696224:=()
noncomputable def tw16624949156085077259:=()
noncomputable def tw16460790569327890751:=()
noncomputable def tw3193916041738636994:=()
noncomputable def tw2855947016779066839:=()
noncomputable def tw17564958181337735096:=()
noncomputable def tw10954603524650374817:=()
noncomputable def tw8187945995405096897:=()
noncomputable def tw7933898902787165457:=()
noncomputable def tw17651659911526168266:=()
noncomputable def tw324757807946112813:=()
noncomputable def tw4030577640474739133:=()
noncomputable def tw17056276683942392270:=()
noncomputable def tw17941462150451253000:=()
noncomputable def tw17709509200705558754:=()
noncomputable def tw9051453115219902852:=()
noncomputable def tw16701561683871496523:=()
noncomputable def tw13367518020305481107:=()
noncomputable def tw16017828160952543653:=()
noncomputable def tw14438636176820118906:=()
noncomputable def tw9233910881088325708:=()
noncomputable def tw13977027131446187921:=()
noncomputable def tw2580114430059224238:=()
noncomputable def tw2556251834944934582:=()
noncomputable def tw7019987582341823205:=()
noncomputable def tw4162210309202033903:=()
noncomputable def tw14453110423403016307:=()
noncomputable def tw1126437976780127614:=()
noncomputable def tw10806997161221353315:=()
noncomputable def tw18298912191895008979:=()
noncomputable def tw16529080631900356153:=()
noncomputable def tw2927758323995970195:=()
noncomputable def tw14393021137904121791:=()
noncomputable def tw6716257901462344113:=()
noncomputable def tw1299729245585550542:=()
noncomputable def tw11095906201969574308:=()
noncomputable def tw6735465291440132877:=()
noncomputable def tw2812371070969871083:=()
noncomputable def tw11777762814408946280:=()
noncomputable def tw62521378981356136:=()
noncomputable def tw16485274952886368125:=()
noncomputable def tw14989475394643936214:=()
noncomputable def tw9202161953778603312:=()
noncomputable def tw5708995919892666802:=()
noncomputable def tw264701448275118707:=()
noncomputable def tw18398750047249207942:=()
noncomputable def tw12149664014460424594:=()
noncomputable def tw9900665822776912748:=()
noncomputable def tw11201784031863512839:=()
noncomputable def tw10065599590097245763:=()
noncomputable def tw1301420535104916910:=()
noncomputable def tw6226853173722419685:=()
noncomputable def tw10757695353639778066:=()
noncomputable def tw7325878578300496888:=()
noncomputable def tw16069890652722297712:=()
noncomputable def tw6490228007154432981:=()
noncomputable def tw12820797023186553867:=()
noncomputable def tw6934990446303896015:=()
noncomputable def tw1871879855712316140:=()
noncomputable def tw16901148766038777494:=()
noncomputable def tw18047653014864736366:=()
noncomputable def tw13244213894099622963:=()
noncomputable def tw4740921705559712786:=()
noncomputable def tw5785244195744114295:=()
noncomputable def tw2224430335911040530:=()
noncomputable def tw11778433148346516486:=()
noncomputable def tw15594965516958359851:=()
noncomputable def tw3867186527361453067:=()
noncomputable def tw14220347079108100596:=()
noncomputable def tw17993679996765657770:=()
noncomputable def tw15085971901762559046:=()
noncomputable def tw16069069624077493339:=()
noncomputable def tw14325436841787953845:=()
noncomputable def tw4347018694712040189:=()
noncomputable def tw15417184966885945792:=()
noncomputable def tw1779712484799419402:=()
noncomputable def tw2372474002179489644:=()
noncomputable def tw14031412070731805050:=()
noncomputable def tw5961431643801079588:=()
noncomputable def tw13227484404498061054:=()
noncomputable def tw15407600946801068396:=()
noncomputable def tw572312413177854497:=()
noncomputable def tw1036282588448397653:=()
noncomputable def tw13056879592956357652:=()
noncomputable def tw2980426561834200266:=()
noncomputable def tw13440361775819991774:=()
noncomputable def tw2502357966763834002:=()
noncomputable def tw12076853802901289527:=()
noncomputable def tw5219721646058749055:=()
noncomputable def tw256415382751844615:=()
noncomputable def tw3395183152678892190:=()
noncomputable def tw18316423899537338668:=()
noncomputable def tw1725560689293614479:=()
noncomputable def tw10230461478117362676:=()
noncomputable def tw6971642184177526911:=()
noncomputable def tw12980644153800622991:=()
noncomputable def tw261844146035662278:=()
noncomputable def tw3315442094050656067:=()
noncomputable def tw18026601300873928160:=()
noncomputable def tw9926002170084674533:=()
noncomputable def tw17904520815597459166:=()
noncomputable def tw5249452402392868210:=()
noncomputable def tw6366380992660161115:=()
noncomputable def tw14553244640897030427:=()
noncomputable def tw5976482317368500819:=()
noncomputable def tw2478016881463793235:=()
noncomputable def tw11238300631146911139:=()
noncomputable def tw13033933455779588123:=()
noncomputable def tw18288950730677181691:=()
noncomputable def tw3196328457250805495:=()
noncomputable def tw2184567545217955407:=()
noncomputable def tw5412937186645378174:=()
noncomputable def tw3104731324905616317:=()
noncomputable def tw6578838631314492102:=()
noncomputable def tw10711368932136321957:=()
noncomputable def tw10053807084094999926:=()
noncomputable def tw4911829527655250576:=()
noncomputable def tw17829482745305532608:=()
noncomputable def tw10750222224405899840:=()
noncomputable def tw3427249044652305099:=()
noncomputable def tw15429936502134486071:=()
noncomputable def tw15435180075393061013:=()
noncomputable def tw2185519598261194536:=()
noncomputable def tw11110753052949737710:=()
noncomputable def tw12055298333645923214:=()
noncomputable def tw3080496668433803356:=()
noncomputable def tw18067418230570510881:=()
noncomputable def tw14820376020218832046:=()
noncomputable def tw3241213039368887743:=()
noncomputable def tw16429379553435074852:=()
noncomputable def tw13222839933330117273:=()
noncomputable def tw8181615473500586043:=()
noncomputable def tw13498099410321217726:=()
noncomputable def tw13405028606794022331:=()
noncomputable def tw5501723397775133321:=()
noncomputable def tw2966599161852486707:=()
noncomputable def tw16517000394337604284:=()
noncomputable def tw15351053488881644032:=()
noncomputable def tw4866535992319266689:=()
noncomputable def tw870049051602258407:=()
noncomputable def tw8076518215772130113:=()
noncomputable def tw11721084360874217601:=()
noncomputable def tw13375461649851711931:=()
noncomputable def tw8923044727861085096:=()
noncomputable def tw16298295247847533027:=()
noncomputable def tw13706303286179612498:=()
noncomputable def tw13699632710688999572:=()
noncomputable def tw7071847400358829262:=()
noncomputable def tw5804229948371763398:=()
noncomputable def tw13562729943725175448:=()
noncomputable def tw10931308616581815623:=()
noncomputable def tw15307241006893507307:=()
noncomputable def tw3131617162783359675:=()
noncomputable def tw13990129711980809070:=()
noncomputable def tw9248305140013469859:=()
noncomputable def tw1098996632702508693:=()
noncomputable def tw12361609108073193426:=()
noncomputable def tw9869156586017770352:=()
noncomputable def tw1910725867136186132:=()
noncomputable def tw5359017000350022271:=()
noncomputable def tw1997225349986009389:=()
noncomputable def tw16420724373546656570:=()
noncomputable def tw14491794111960881471:=()
noncomputable def tw15934190035867741405:=()
noncomputable def tw4506213314040275906:=()
noncomputable def tw4631885604669990522:=()
noncomputable def tw9309848252653793401:=()
noncomputable def tw2952867570908463560:=()
noncomputable def tw9361387005118098198:=()
noncomputable def tw5947166682150257:=()
noncomputable def tw7562085830387069150:=()
noncomputable def tw14777420173687098914:=()
noncomputable def tw11875363800475443844:=()
noncomputable def tw8435766735655561887:=()
noncomputable def tw8044280136298706493:=()
noncomputable def tw10608690256794268576:=()
noncomputable def tw4760916617142848090:=()
noncomputable def tw13038324211450358450:=()
noncomputable def tw373286303833871285:=()
noncomputable def tw5488845637338498816:=()
noncomputable def tw5574723900067628218:=()
noncomputable def tw11517153090240244906:=()
noncomputable def tw12639516393959872115:=()
noncomputable def tw78931128318289090:=()
noncomputable def tw5888403677502490306:=()
noncomputable def tw11541114394849922977:=()
noncomputable def tw1957638618255842995:=()
noncomputable def tw10931023793977901683:=()
noncomputable def tw8537045522024671134:=()
noncomputable def tw1967780932589727028:=()
noncomputable def tw3114715380867780115:=()
noncomputable def tw17416755083962289035:=()
noncomputable def tw10310991015061382811:=()
noncomputable def tw6886374249646690326:=()
noncomputable def tw6988634429744853171:=()
noncomputable def tw7185883279183592057:=()
noncomputable def tw14062097033455376701:=()
noncomputable def tw13276039353344101701:=()
noncomputable def tw11375440460844351198:=()
noncomputable def tw17146007591476834549:=()
noncomputable def tw15082088235246481168:=()
noncomputable def tw13065351474860170789:=()
noncomputable def tw17344024856560434632:=()
noncomputable def tw14740540318883856372:=()
noncomputable def tw14043326384593837792:=()
noncomputable def tw1591337243268133998:=()
noncomputable def tw17864695064100724195:=()
noncomputable def tw12044141501137052635:=()
noncomputable def tw18163766869725201822:=()
noncomputable def tw6333178641391569831:=()
noncomputable def tw3296867701048943222:=()
noncomputable def tw14840921016216361180:=()
noncomputable def tw4040003286386996933:=()
noncomputable def tw17424686279892454562:=()
noncomputable def tw8787123882164732854:=()
noncomputable def tw13513964022845299556:=()
noncomputable def tw5327314405724538128:=()
noncomputable def tw5683789672736049636:=()
noncomputable def tw16986383030184366316:=()
noncomputable def tw11892022932684849176:=()
noncomputable def tw7762439176379568396:=()
noncomputable def tw5868878754148275728:=()
noncomputable def tw18102551231601519717:=()
noncomputable def tw1779550464756712809:=()
noncomputable def tw9331408923584657882:=()
noncomputable def tw1033180059084961291:=()
noncomputable def tw4944305705501226344:=()
noncomputable def tw4939362418266092671:=()
noncomputable def tw12354997326016656161:=()
noncomputable def tw8599147654342370622:=()
end PySem.W.Fast
open PySem PySem.W PyProof.Rows
set_option maxRecDepth 100000 in
set_option maxHeartbeats 0 in
theorem PySem.Challenge.cw_rimsteps_k61_cells_put_and_taken_holds : PySem.Challenge.rw_rimsteps_k61_cells_put_and_taken.Holds := by
 w_on;o_law;k_head;(case hw=>w_witness2)
 k_fill
 refine RR.walk (l:=PySem.Challenge.rw_rimsteps_k61_cells_put_and_taken) rfl rfl (λw h Y=>W.kIn_of Y) ?F
 case F =>
  intro w mg fa h KX G hmg
  refine' RR.all_mk KX G hmg (.mk ?a0 ?l0 ?c0 ?k0) (.mk ?a1 ?l1 ?c1 ?k1) (.mk ?a2 ?l2 ?c2 ?k2) (.mk ?a3 ?l3 ?c3 ?k3) (.mk ?a4 ?l4 ?c4 ?k4) (.mk ?a5 ?l5 ?c5 ?k5) (.mk ?a6 ?l6 ?c6 ?k6) (.mk ?a7 ?l7 ?c7 ?k7) (.mk ?a8 ?l8 ?c8 ?k8) (.mk ?a9 ?l9 ?c9 ?k9) (.mk ?a10 ?l10 ?c10 ?k10) (.mk ?a11 ?l11 ?c11 ?k11) (.mk ?a12 ?l12 ?c12 ?k12) (.mk ?a13 ?l13 ?c13 ?k13) (.mk ?a14 ?l14 ?c14 ?k14) (.mk ?a15 ?l15 ?c15 ?k15) (.mk ?a16 ?l16 ?c16 ?k16) (.mk ?a17 ?l17 ?c17 ?k17) (.mk ?a18 ?l18 ?c18 ?k18) (.mk ?a19 ?l19 ?c19 ?k19) (.mk ?a20 ?l20 ?c20 ?k20) (.mk ?a21 ?l21 ?c21 ?k21) (.mk ?a22 ?l22 ?c22 ?k22) (.mk ?a23 ?l23 ?c23 ?k23) (.mk ?a24 ?l24 ?c24 ?k24) (.mk ?a25 ?l25 ?c25 ?k25) (.mk ?a26 ?l26 ?c26 ?k26) (.mk ?a27 ?l27 ?c27 ?k27) (.mk ?a28 ?l28 ?c28 ?k28) (.mk ?a29 ?l29 ?c29 ?k29) (.mk ?a30 ?l30 ?c30 ?k30) (.mk ?a31 ?l31 ?c31 ?k31) (.mk ?a32 ?l32 ?c32 ?k32) (.mk ?a33 ?l33 ?c33 ?k33) (.mk ?a34 ?l34 ?c34 ?k34) (.mk ?a35 ?l35 ?c35 ?k35) (.mk ?a36 ?l36 ?c36 ?k36) (.mk ?a37 ?l37 ?c37 ?k37) (.mk ?a38 ?l38 ?c38 ?k38) (.mk ?a39 ?l39 ?c39 ?k39) (.mk ?a40 ?l40 ?c40 ?k40) (.mk ?a41 ?l41 ?c41 ?k41) (.mk ?a42 ?l42 ?c42 ?k42) (.mk ?a43 ?l43 ?c43 ?k43) (.mk ?a44 ?l44 ?c44 ?k44) (.mk ?a45 ?l45 ?c45 ?k45) (.mk ?a46 ?l46 ?c46 ?k46) (.mk ?a47 ?l47 ?c47 ?k47) (.mk ?a48 ?l48 ?c48 ?k48) (.mk ?a49 ?l49 ?c49 ?k49) (.mk ?a50 ?l50 ?c50 ?k50) ?a51 ?l51 ?c51 ?k51 ?aM ?lM ?x0 ?x1 ?x2 ?x3 ?x4 ?x5 ?x6 ?x7 ?aB ?lB ?aB2 ?lB2 ?xnTwice ?xnNoCell ?xnNoPicture ?xnNoRound ?xnNoRounds ?xnNoRow ?xnNoText ?xnTooWide ?xnRimError ?xeTwice ?xaTwice ?xbTwice ?xcTwice ?xdTwice ?xfTwice ?xgTwice ?xRTwice ?xTTwice ?xNTwice ?xOTwice ?xVTwice ?xeNoCell ?xaNoCell ?xbNoCell ?xcNoCell ?xdNoCell ?xfNoCell ?xgNoCell ?xRNoCell ?xTNoCell ?xNNoCell ?xONoCell ?xVNoCell ?xC4 ?xC5 ?z_abs ?z_max ?z_any ?z_range ?z_len ?z_min ?z_sorted ?z_tuple ?z_int ?z_bool ?z_str ?z_all ?z_isinstance ?z_list ?z_sum ?z_enumerate ?z_zip ?z_ValueError
  (case a0=>k_is)
  (case l0=>k_is)
  (case c0=>k_is)
  (case k0=>k_is)
  (case a1=>k_is)
  (case l1=>k_is)
  (case c1=>k_is)
  (case k1=>k_is)
  (case a2=>k_is)
  (case l2=>k_is)
  (case c2=>k_is)
  (case k2=>k_is)
  (case a3=>k_is)
  (case l3=>k_is)
  (case c3=>k_is)
  (case k3=>k_is)
  (case a4=>k_is)
  (case l4=>k_is)
  (case c4=>k_is)
  (case k4=>k_is)
  (case a5=>k_is)
  (case l5=>k_is)
  (case c5=>k_is)
  (case k5=>k_is)
  (case a6=>k_is)
  (case l6=>k_is)
  (case c6=>k_is)
  (case k6=>k_is)
  (case a7=>k_is)
  (case l7=>k_is)
  (case c7=>k_is)
  (case k7=>k_is)
  (case a8=>k_is)
  (case l8=>k_is)
  (case c8=>k_is)
  (case k8=>k_is)
  (case a9=>k_is)
  (case l9=>k_is)
  (case c9=>k_is)
  (case k9=>k_is)
  (case a10=>k_is)
  (case l10=>k_is)
  (case c10=>k_is)
  (case k10=>k_is)
  (case a11=>k_is)
  (case l11=>k_is)
  (case c11=>k_is)
  (case k11=>k_is)
  (case a12=>k_is)
  (case l12=>k_is)
  (case c12=>k_is)
  (case k12=>k_is)
  (case a13=>k_is)
  (case l13=>k_is)
  (case c13=>k_is)
  (case k13=>k_is)
  (case a14=>k_is)
  (case l14=>k_is)
  (case c14=>k_is)
  (case k14=>k_is)
  (case a15=>k_is)
  (case l15=>k_is)
  (case c15=>k_is)
  (case k15=>k_is)
  (case a16=>k_is)
  (case l16=>k_is)
  (case c16=>k_is)
  (case k16=>k_is)
  (case a17=>k_is)
  (case l17=>k_is)
  (case c17=>k_is)
  (case k17=>k_is)
  (case a18=>k_is)
  (case l18=>k_is)
  (case c18=>k_is)
  (case k18=>k_is)
  (case a19=>k_is)
  (case l19=>k_is)
  (case c19=>k_is)
  (case k19=>k_is)
  (case a20=>k_is)
  (case l20=>k_is)
  (case c20=>k_is)
  (case k20=>k_is)
  (case a21=>k_is)
  (case l21=>k_is)
  (case c21=>k_is)
  (case k21=>k_is)
  (case a22=>k_is)
  (case l22=>k_is)
  (case c22=>k_is)
  (case k22=>k_is)
  (case a23=>k_is)
  (case l23=>k_is)
  (case c23=>k_is)
  (case k23=>k_is)
  (case a24=>k_is)
  (case l24=>k_is)
  (case c24=>k_is)
  (case k24=>k_is)
  (case a25=>k_is)
  (case l25=>k_is)
  (case c25=>k_is)
  (case k25=>k_is)
  (case a26=>k_is)
  (case l26=>k_is)
  (case c26=>k_is)
  (case k26=>k_is)
  (case a27=>k_is)
  (case l27=>k_is)
  (case c27=>k_is)
  (case k27=>k_is)
  (case a28=>k_is)
  (case l28=>k_is)
  (case c28=>k_is)
  (case k28=>k_is)
  (case a29=>k_is)
  (case l29=>k_is)
  (case c29=>k_is)
  (case k29=>k_is)
  (case a30=>k_is)
  (case l30=>k_is)
  (case c30=>k_is)
  (case k30=>k_is)
  (case a31=>k_is)
  (case l31=>k_is)
  (case c31=>k_is)
  (case k31=>k_is)
  (case a32=>k_is)
  (case l32=>k_is)
  (case c32=>k_is)
  (case k32=>k_is)
  (case a33=>k_is)
  (case l33=>k_is)
  (case c33=>k_is)
  (case k33=>k_is)
  (case a34=>k_is)
  (case l34=>k_is)
  (case c34=>k_is)
  (case k34=>k_is)
  (case a35=>k_is)
  (case l35=>k_is)
  (case c35=>k_is)
  (case k35=>k_is)
  (case a36=>k_is)
  (case l36=>k_is)
  (case c36=>k_is)
  (case k36=>k_is)
  (case a37=>k_is)
  (case l37=>k_is)
  (case c37=>k_is)
  (case k37=>k_is)
  (case a38=>k_is)
  (case l38=>k_is)
  (case c38=>k_is)
  (case k38=>k_is)
  (case a39=>k_is)
  (case l39=>k_is)
  (case c39=>k_is)
  (case k39=>k_is)
  (case a40=>k_is)
  (case l40=>k_is)
  (case c40=>k_is)
  (case k40=>k_is)
  (case a41=>k_is)
  (case l41=>k_is)
  (case c41=>k_is)
  (case k41=>k_is)
  (case a42=>k_is)
  (case l42=>k_is)
  (case c42=>k_is)
  (case k42=>k_is)
  (case a43=>k_is)
  (case l43=>k_is)
  (case c43=>k_is)
  (case k43=>k_is)
  (case a44=>k_is)
  (case l44=>k_is)
  (case c44=>k_is)
  (case k44=>k_is)
  (case a45=>k_is)
  (case l45=>k_is)
  (case c45=>k_is)
  (case k45=>k_is)
  (case a46=>k_is)
  (case l46=>k_is)
  (case c46=>k_is)
  (case k46=>k_is)
  (case a47=>k_is)
  (case l47=>k_is)
  (case c47=>k_is)
  (case k47=>k_is)
  (case a48=>k_is)
  (case l48=>k_is)
  (case c48=>k_is)
  (case k48=>k_is)
  (case a49=>k_is)
  (case l49=>k_is)
  (case c49=>k_is)
  (case k49=>k_is)
  (case a50=>k_is)
  (case l50=>k_is)
  (case c50=>k_is)
  (case k50=>k_is)
  (case a51=>k_is)
  (case l51=>k_is)
  (case c51=>k_is)
  (case k51=>k_is)
  (case aM=>k_is)
  (case lM=>k_is)
  (case x0=>k_is)
  (case x1=>k_is)
  (case x2=>k_is)
  (case x3=>k_is)
  (case x4=>k_is)
  (case x5=>k_is)
  (case x6=>k_is)
  (case x7=>k_is)
  (case aB=>k_is)
  (case lB=>k_is)
  (case aB2=>k_is)
  (case lB2=>k_is)
  (case xnTwice=>k_is)
  (case xnNoCell=>k_is)
  (case xnNoPicture=>k_is)
  (case xnNoRound=>k_is)
  (case xnNoRounds=>k_is)
  (case xnNoRow=>k_is)
  (case xnNoText=>k_is)
  (case xnTooWide=>k_is)
  (case xnRimError=>k_is)
  (case xeTwice=>k_exc)
  (case xaTwice=>k_is)
  (case xbTwice=>k_is)
  (case xcTwice=>k_is)
  (case xdTwice=>k_is)
  (case xfTwice=>k_is)
  (case xgTwice=>k_is)
  (case xRTwice=>exact rfl)
  (case xTTwice=>exact rfl)
  (case xNTwice=>exact rfl)
  (case xOTwice=>exact rfl)
  (case xVTwice=>exact rfl)
  (case xeNoCell=>k_exc)
  (case xaNoCell=>k_is)
  (case xbNoCell=>k_is)
  (case xcNoCell=>k_is)
  (case xdNoCell=>k_is)
  (case xfNoCell=>k_is)
  (case xgNoCell=>k_is)
  (case xRNoCell=>exact rfl)
  (case xTNoCell=>exact rfl)
  (case xNNoCell=>exact rfl)
  (case xONoCell=>exact rfl)
  (case xVNoCell=>exact rfl)
  (case xC4=>k_is)
  (case xC5=>k_is)
  (case z_abs=>k_is)
  (case z_max=>k_is)
  (case z_any=>k_is)
  (case z_range=>k_is)
  (case z_len=>k_is)
  (case z_min=>k_is)
  (case z_sorted=>k_is)
  (case z_tuple=>k_is)
  (case z_int=>k_is)
  (case z_bool=>k_is)
  (case z_str=>k_is)
  (case z_all=>k_is)
  (case z_isinstance=>k_is)
  (case z_list=>k_is)
  (case z_sum=>k_is)
  (case z_enumerate=>k_is)
  (case z_zip=>k_is)
  (case z_ValueError=>k_is)

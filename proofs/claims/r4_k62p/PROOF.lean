import PyProof.Rows.All
import Wide.All
import OpenK.AllK
import Wide.FinOn
import Lean
import PyProof.EqAt
import PyProof.EqKinds
import PyProof.TupleCall
import PySem.Challenge.RW_rimsteps_k62_rounds_that_stay
set_option Elab.async false
set_option linter.all false
set_option maxRecDepth 100000
open List renaming getElem?_eq_getElem → Aa,getElem?_eq_some_iff → Ad,mem_singleton → Ah,mem_of_getElem? → Aj,length_append → Ak,mem_cons_self → An,length_map → Ao,mem_cons_of_mem → Ap,replicate → Aq,mem_append_right → As,size_toArray → Au,getElem?_append_left → Ax,getElem_of_mem → Az,getElem?_map → AC,set_cons_succ → AD,set_cons_zero → AE,mem_append → AH,length_filter_le → AI,getElem?_append_right → AK,append_assoc → AL,mem_cons → AM,take_length → AN,length_take → AQ,mem_map → AS,pairwise_append → AU,length_cons → A5,map_append → A6,map_cons → A7,append_nil → Bf,getElem_mem → Bi,getD_eq_getElem?_getD → Bk,lookup_cons → Bq,mem_filter → Br,flatten_cons → By,mem_of_mem_drop → Bz,nodup_cons → BF,mem_append_left → BH,length_singleton → BO,range → BS,filterMap_map → BU,mem_of_mem_take → B7,take_sublist → B8,flatten_append → Cb,length_nil → Cd,extract_eq_take_drop → Ce,length_replicate → Cf,drop_sublist → Cp,replicate_succ → Cu,filter_cons → CD,take_append_drop → CK,perm_append_comm → CL,pairwise_iff_getElem → CN,find?_cons → CQ,getElem?_inj → CV,getElem?_cons_succ → C3,pairwise_cons → Db,take_of_length_le → Dc,sum_cons → Dj,getElem?_eq_none → Dk,nodup_append → Do,take_zero → Dz,take_succ → DB,mem_flatten → DF,length_filterMap_le → DO,zip_cons_cons → DU,getElem?_drop → DW,filter_append → DX,eraseIdx_cons_succ → D1
open PySem renaming wpAny_bind → Ab,Value → Ac,Shared → Ae,wpAny_pure → Af,wpAny → At,model → Ay,mainGlobals → AJ,Program → AR,Around → A3,World → Be,wpAny_newObj_type → Bh,foldedSetIterable → Bm,wpAny_holding → Bo,starEach → Bx,Spec → BA,compareOp → BB,FuncData → BM,sysModules → BR,wpAny_mono → BY,wpAny_truthy_bool → BZ,wpAny_comprehension_free → B4,wpAny_typeNameOfWhole_keyiter → Cn,codeAny → Co,wpAny_loadPart' → Cr,mem_of_lookup → Ct,wpAny_standAt → CB,keywordEach → CC,tupleKind_room_in1 → CF,wpAny_rule → CH,wpAny_passesOwn → CP,compEnvC → CS,wpAny_callSpecial?_slot → C1,wpAny_Call_Name_kw → C6,codeAny_compStart_list → C9,wpAny_updateSeq → Dg,wpAny_dictEntries → Dp,assign → Ds,bindArgs → Dt,wpAny_tryCatch → Dx,tupleKind → DC,wpAny_call_entry → DE,backToKw → DK,atKey → DL,plainId_quiet → DM,holding → DP,letOwnedTupleGo → DQ,assignEach → DT,sliceBounds → DZ,wpAny_letGo → D0
open PySem.Heap renaming get?_push_of_some → Ag,lt_size → AA,get?_push_size → AF,get?_update_other → Bj,get?_update_self → B3,SameBut → Cj,DictOfH → Dd
open PyProof.Rows renaming wpS_bind → Ai,wpS_pure → Ar,arrOf → Av,SortSt → AG,pendingOf → AO,wpS_forRange → Bs,slot_tuple_getitem → BC,seqObj → BL,getElem?_mirror_all → BN,wpS_modify → BP,wpS_mono → Cg,failedOf → Cm,IntsAre → Cv,SortKind → CI,callWith_type1 → Dl,room_in_shaped → Dm,envOfC → DJ,get?_update_seq → DR,wpS_get → DS
open Nat renaming le_refl → Am,le_trans → AW,lt_or_ge → AZ,ne_of_lt → A4,lt_of_lt_of_le → A8,zero_le → A9,mod_lt → BG,le_of_lt → BJ,zero_add → Cy,lt_irrefl → CA,le_succ → C4,lt_of_le_of_lt → DV
open PySem.Value renaming ref → Aw,none → Cq,type → Dr
open Array renaming length_toList → AB,toList_append → Bd,getElem?_eq_some_iff → Bl,getElem?_toList → Bn,getElem?_eq_getElem → Bw,size_extract → Ci,toList_push → CT,toList_extract → CU
open PySem.Obj renaming mapSeq → AT
open Bool renaming false_ne_true → AV,false_eq_true → A0,and_eq_true → Bp,eq_iff_iff → Cc
open Option.some renaming inj → AX
open PySem.F renaming plainAttrs_list → AY,slot_list_append → Ba,type_list_append → Bb,plain_min_loop → BX,slot_dict_keyiterator_next → B6,slot_dict_setdefault → Cs,args_dict_keyiterator_next_1 → DI,entry_dict_keyiterator_next → DN,plainAttrs_dict → DY
open PySem.SeqAt renaming shaped → Bc,canLay_of_shaped → Da
open PySem.PassesOwn renaming never → Bg
open PySem.NameKind renaming free → Bt,cell → Dh
open PySem.Heap.SameBut renaming update → Bu
open PySem.PyData renaming eqv → Bv,canLayAll0 → BQ,keyHash → BV,depthAll → B5,depth → B9,canLay0 → CG,eqvAll → Di,int → Dw
open PySem.Str renaming ofString → BD
open PySem.W renaming mg_none_of → BE,nsIn → CO,fnOf → C7,kas_item → Dy
open Classical renaming byContradiction → BI
open False renaming elim → BK
open Ne renaming symm → BW
open Option renaming map_eq_some_iff → Ca,map_some → De
open PySem.Calls renaming spliced_cons → Ch,callWith_builtin → C8,evalArgs_plain → Dv
open Lean renaming maxHeartbeats → Ck
open PySem.Builtin.Builtins renaming bindParams → Cw
open PySem.Builtin.List renaming listExtendWith → Cz,listTooLong → C0
open Break.runK renaming match_1 → CJ
open PySem.Builtin.Slice renaming slicePlaces → CM,sliceAdjust → DG
open Int renaming toNat_natCast → CW
open PySem.Paired renaming length → CY
open PySem.Builtin.Tuple renaming tupleExact → CZ
open Sum renaming inl → C5
open Sum.inl renaming inj → Dq
open True renaming intro → Du
open Or renaming inr → DH
namespace L2
open PySem PySem.Spec PyProof.Rows
noncomputable abbrev Key:=Sum Int Str
noncomputable def keyIs:Key->Ac->Bool
 |.inl k,v=>Value.isInt k v
 |.inr x,v=>Value.isStrOf x v
noncomputable def keyH(w:Be):Key->Int
 |.inl k=>hashInt k
 |.inr x=>hashStr w x
theorem zaY:∀{k:Key}{v:Ac},keyIs k v=true->(∃i t,k=C5 i/\v=Value.int i t)∨(∃x t,k=Sum.inr x/\v=Value.str x t)
 |.inl i,v,h=>by
  obtain⟨t,e⟩:=Value.isInt_shape (k:=i) (v:=v) h;exact .inl ⟨i,t,rfl,e⟩
 |.inr x,v,h=>by
  obtain⟨t,e⟩:=Value.isStrOf_shape (x:=x) (v:=v) h;exact .inr ⟨x,t,rfl,e⟩
theorem zjF(i:Int)(t:Tok):keyIs (.inl i) (.int i t)=true:=by simp[keyIs,Value.isInt]
theorem zjE(x:Str)(t:Tok):keyIs (.inr x) (.str x t)=true:=by simp[keyIs,Value.isStrOf]
theorem zmT(a b:Int):decide ((C5 a:Key)=C5 b)=(a == b):=by
 by_cases e:a=b
 .subst e;simp
 .have h:¬ (C5 a:Key)=C5 b:=λq=>e (Dq q)
  rw[decide_eq_false h];exact (beq_eq_false_iff_ne.mpr e).symm
theorem zmQ(a b:Str):decide ((Sum.inr a:Key)=Sum.inr b)=decide (a=b):=by
 by_cases e:a=b
 .subst e;simp
 .have h:¬ (Sum.inr a:Key)=Sum.inr b:=λq=>e (Sum.inr.inj q)
  rw[decide_eq_false h,decide_eq_false e]
theorem zmS(a:Int)(b:Str):decide ((C5 a:Key)=Sum.inr b)=false:=decide_eq_false (λq=>nomatch q)
theorem zmR(a:Str)(b:Int):decide ((Sum.inr a:Key)=C5 b)=false:=decide_eq_false (λq=>nomatch q)
noncomputable def zaE(prog:AR)(w:Be):PySem.KeyKind prog w Key where
 is:=keyIs
 hash:=keyH w
 inj:=λv a b ha hb=>by
  rcases zaY ha with⟨i,t,rfl,rfl⟩ |⟨x,t,rfl,rfl⟩
  .rcases zaY hb with⟨j,u,rfl,e⟩ |⟨y,u,rfl,e⟩
   .injection e with e1 _;rw[e1]
   .exact nomatch e
  .rcases zaY hb with⟨j,u,rfl,e⟩ |⟨y,u,rfl,e⟩
   .exact nomatch e
   .injection e with e1 _;rw[e1]
 byValue:=λk v h=>by rcases zaY h with⟨i,t,rfl,rfl⟩ |⟨x,t,rfl,rfl⟩ <;> rfl
 pyHash:=λhv h=>by
  rcases zaY hv with⟨i,t,rfl,rfl⟩ |⟨x,t,rfl,rfl⟩
  .exact wpAny_pyHash_int h
  .exact wpAny_pyHash_str h
 eqBool:=λhu hv h=>by
  rcases zaY hu with⟨i,t,rfl,rfl⟩ |⟨x,t,rfl,rfl⟩
  .rcases zaY hv with⟨j,u,rfl,rfl⟩ |⟨y,u,rfl,rfl⟩
   .rw[zmT]at h;exact wpAny_eqBool_int h
   .rw[zmS]at h;exact SeqAt.EqAt.int_str i t y u _ _ _ _ h
  .rcases zaY hv with⟨j,u,rfl,rfl⟩ |⟨y,u,rfl,rfl⟩
   .rw[zmR]at h;exact SeqAt.EqAt.str_int x t j u _ _ _ _ h
   .rw[zmQ]at h;exact wpAny_eqBool_str h
 «strs»:=λk x t v h=>by
  rcases zaY h with⟨i,u,rfl,e⟩ |⟨y,u,rfl,e⟩
  .exact nomatch e
  .injection e with e1 _;subst e1
   cases v <;> rfl
theorem zha(prog:AR)(w:Be)(i:Int)(t:Tok):(zaE prog w).is (.inl i) (.int i t)=true:=zjF i t
theorem zbV(prog:AR)(w:Be)(x:Str)(t:Tok):(zaE prog w).is (.inr x) (.str x t)=true:=zjE x t
inductive V where
 |non |bl (b:Bool) |int (i:Int) |str (x:Str) |byt (b:Array UInt8) |flt (b:UInt64) |ref (a:Addr) |ty (n:String)
 deriving DecidableEq
noncomputable def RelV:V->Ac->Prop
 |.non,u=>u=Cq
 |.bl b,u=>u=Value.bool b
 |.int i,u=>∃t,u=Value.int i t
 |.str x,u=>∃t,u=Value.str x t
 |.byt b,u=>∃t,u=Value.bytes b t
 |.flt b,u=>∃t,u=Value.float b t
 |.ref a,u=>u=Aw a
 |.ty n,u=>u=Dr n
noncomputable abbrev Vals:List V->List Ac->Prop:=Paired RelV
theorem Vals.length{xs:List V}{us:List Ac}(r:Vals xs us):xs.length=us.length:=CY r
theorem Vals.get:∀{xs:List V}{us:List Ac}{i:Nat}{x:V},Vals xs us->xs[i]?=some x->∃u,us[i]?=some u/\RelV x u
 |_,_,_,_,.nil,e=>by simp at e
 |_,_,0,_,.cons r _,e=>by simp at e;subst e;exact⟨_,rfl,r⟩
 |_,_,i+1,x,.cons _ t,e=>by
  obtain⟨u,h1,h2⟩:=Vals.get (i:=i) (x:=x) t (by simpa using e);exact⟨u,by simpa using h1,h2⟩
theorem Vals.set{x:V}{u:Ac}(r:RelV x u):∀{xs:List V}{us:List Ac}(i:Nat),Vals xs us->Vals (xs.set i x) (us.set i u)
 |_,_,_,.nil=>.nil
 |_,_,0,.cons _ t=>.cons r t
 |_,_,i+1,.cons q t=>.cons q (Vals.set r i t)
theorem Vals.append:∀{xs ys:List V}{us ws:List Ac},Vals xs us->Vals ys ws->Vals (xs++ys) (us++ws)
 |_,_,_,_,.nil,s=>s
 |_,_,_,_,.cons r t,s=>.cons r (Vals.append t s)
theorem Vals.take:∀{xs:List V}{us:List Ac}(n:Nat),Vals xs us->Vals (xs.take n) (us.take n)
 |_,_,0,_=>.nil
 |_,_,_+1,.nil=>.nil
 |_,_,n+1,.cons r t=>.cons r (Vals.take n t)
theorem Vals.drop:∀{xs:List V}{us:List Ac}(n:Nat),Vals xs us->Vals (xs.drop n) (us.drop n)
 |_,_,0,r=>r
 |_,_,_+1,.nil=>.nil
 |_,_,n+1,.cons _ t=>Vals.drop n t
noncomputable def RelO:Option V->Option Ac->Prop
 |some v,some u=>RelV v u
 |none,none=>True
 |_,_=>False
noncomputable def KV{κ:Type}:List (κ×V)->List (κ×Ac)->Prop:=Paired λ(p:κ×V) (q:κ×Ac)=>p.1=q.1/\RelV p.2 q.2
noncomputable def kV:Key->V
 |.inl i=>.int i
 |.inr x=>.str x
inductive HO where
 /-- a list -/
 |lst (xs:List V)
 /-- a tuple (never changes) -/
 |tup (xs:List V)
 /-- a dict whose keys are ints and texts;one whose keys are tuples of ints and texts (the empty one is both) -/
 |dK (kvs:List (Key×V)) |dT (kvs:List (List Key×V))
 /-- a set of ints: its members,its size -/
 |set (S:Int->Bool) (n:Nat)
 /-- an instance of the class at C,its dict at dx,its attributes -/
 |ins (C dx:Addr) (fs:List (Str×V))
 /-- the dict of the instance at x -/
 |own (x:Addr)
 /-- the dict of an exception -/
 |xd (fs:List (Str×V))
 /-- a bound method,f of x -/
 |met (f x:Addr)
 /-- a range object lo,lo+1,.. below hi -/
 |rng (lo hi:Int)
 /-- a thing that is known to the object (the script;a dict while a loop walks it): read,never written while it is so -/
 |frz (o:Obj) (u:HO)
 /-- a code object's table -/
 |tbl (ps:Array Ac)
 /-- any other thing,by what is true of its one object (a def of one's own: SetO a S n:=HO.ext λh=>..) -/
 |ext (φ:Heap->Prop)
noncomputable abbrev Hp:=Addr->Option HO
noncomputable def upd(H:Hp)(a:Addr)(o:HO):Hp:=λb=>if b=a then some o else H b
theorem zaa{H:Hp}{a:Addr}{o:HO}:upd H a o a=some o:=by unfold upd;rw[if_pos rfl]
theorem zai{H:Hp}{a b:Addr}{o:HO}(h:b≠a):upd H a o b=H b:=by unfold upd;rw[if_neg h]
theorem zlA{H:Hp}{a:Addr}{o u:HO}:upd (upd H a o) a u=upd H a u:=by
 funext b;unfold upd;split <;> rfl
theorem ne_of{H:Hp}{a b:Addr}{o u:HO}(h:H a=some o)(h':H b=some u)(d:o≠u):a≠b:=by intro e;subst e;rw[h]at h';exact d (AX h')
theorem zak{H:Hp}{a b:Addr}{o:HO}(h:H a=some o)(h':H b=none):a≠b:=by intro e;subst e;rw[h]at h';cases h'
section
variable (P:AR) (w:Be)
noncomputable def ObjOk(H:Hp)(h:Heap)(a:Addr):HO->Prop
  |.lst xs=>xs.length<=sizeLine/\∃(its:List Ac) (n:Nat),Vals xs its/\h.get? a=some { cls:=.type "list",data:=.seq its.toArray n }
  |.tup xs=>xs.length<=sizeLine/\∃its:List Ac,Vals xs its/\IsTup h a its.toArray
  |.dK kvs=>kvs.length<=sizeLine/\(a == BR)=false/\∃vs,KV kvs vs/\h.DictOf (zaE P w) a vs
  |.dT kvs => kvs.length <= sizeLine /\ (a == BR)=false /\ ∃xs:List (List Key × Addr × Ac),
      Paired (λ(p:List Key×V) (q:List Key×Addr×Ac)=>p.1=q.1/\H q.2.1=some (.tup (p.1.map kV))/\RelV p.2 q.2.2) kvs xs /\
      ∃o es ep,h.get? a=some o/\o.ExactDict/\o.data=.dict es ep/\es.toList=xs.map (entryOfKey (DC (zaE P w)))/\(xs.map (·.1)).Nodup
  |.set S n=>h.SetOf (intKind P w) a S n
  |.ins C dx fs => H dx=some (.own a) /\ fs.length <= 1000 /\ dx ≠ a /\ h.get? a=some (W.instObj C dx) /\
      ∃mA,h.Ns1 dx mA/\(∀f,RelO (fs.lookup f) (mA f))/\PySem.Within mA (fs.map (·.1))
  |.own _=>∃o,h.get? a=some o
  |.xd fs=>∃mA,h.Ns1 a mA/\∀f,RelO (fs.lookup f) (mA f)
  |.rng lo hi=>∃t u v,h.get? a=some { cls:=.type "range",data:=.fields #[.int lo t,.int hi u,.int 1 v] }
  |.frz o u=>h.get? a=some o/\ObjOk H h a u
  |.tbl ps=>h.get? a=some { cls:=.none,data:=.fields ps }
  |.met f x=>h.get? a=some (W.methodObj (.ref f) (.ref x))
  |.ext φ=>φ h/\(∃o,h.get? a=some o)/\∀h1 h2:Heap,φ h1->(∀o,h1.get? a=some o->h2.get? a=some o)->φ h2
noncomputable def HOk(H:Hp)(h:Heap):Prop:=∀a o,H a=some o->ObjOk P w H h a o
end
section
variable {P:AR}{w:Be}{H H':Hp}{h h':Heap}{a:Addr}{o:HO}
theorem ObjOk.lt(x:ObjOk P w H h a o):a<h.objs.size:=by
 cases o with
 |lst xs=>obtain⟨_,_,_,_,e⟩:=x;exact AA e
 |tup xs=>obtain⟨_,_,_,p⟩:=x;exact p.lt
 |dK kvs=>obtain⟨_,_,_,_,o,_,_,e,_⟩:=x;exact AA e
 |dT kvs=>obtain⟨_,_,_,_,o,_,_,e,_⟩:=x;exact AA e
 |set S n=>obtain⟨o,_,_,_,e,_⟩:=x;exact AA e
 |ins C dx fs=>obtain⟨_,_,_,e,_⟩:=x;exact AA e
 |own y=>obtain⟨_,e⟩:=x;exact AA e
 |xd fs=>obtain⟨_,⟨_,_,_,e,_⟩,_⟩:=x;exact AA e
 |rng lo hi=>obtain⟨_,_,_,e⟩:=x;exact AA e
 |frz ob u=>obtain⟨e,_⟩:=x;exact AA e
 |tbl ps=>exact AA (show h.get? a=some _ from x)
 |met f y=>exact AA (show h.get? a=some _ from x)
 |ext φ=>obtain⟨_,⟨_,e⟩,_⟩:=x;exact AA e
theorem Paired.mapP{α β:Type}{F G:α->β->Prop}:∀{l₁:List α}{l₂:List β},Paired F l₁ l₂->(∀a b,F a b->G a b)->Paired G l₁ l₂
 |_,_,.nil,_=>.nil
 |_,_,.cons r t,f=>.cons (f _ _ r) (Paired.mapP t f)
theorem ObjOk.stay(x:ObjOk P w H h a o)(k:∀b u, (b=a ∨ H b=some (.own a)) -> h.get? b=some u -> h'.get? b=some u)
  (ho:∀b,H b=some (.own a)->H' b=some (.own a)) (ht:∀b xs,H b=some (.tup xs)->H' b=some (.tup xs)):ObjOk P w H' h' a o:=by
 induction o with
 |lst xs=>obtain⟨z,its,n,r,e⟩:=x;exact⟨z,its,n,r,k _ _ (.inl rfl) e⟩
 |tup xs=>obtain⟨z,its,r,ob,e,c⟩:=x;exact⟨z,its,r,ob,k _ _ (.inl rfl) e,c⟩
 |dK kvs=>obtain⟨z,y,vs,r,ob,es,ep,e,c⟩:=x;exact⟨z,y,vs,r,ob,es,ep,k _ _ (.inl rfl) e,c⟩
 |dT kvs =>
  obtain⟨z,y,xs,r,ob,es,ep,e,c⟩:=x;exact⟨z,y,xs,Paired.mapP r λp q z=>⟨z.1,ht _ _ z.2.1,z.2.2⟩,ob,es,ep,k _ _ (.inl rfl) e,c⟩
 |set S n=>obtain⟨ob,es,ep,t,e,c⟩:=x;exact⟨ob,es,ep,t,k _ _ (.inl rfl) e,c⟩
 |ins C dx fs =>
  obtain⟨d,z,ne,e,mA,⟨od,es,ep,e2,c⟩,r⟩:=x;exact⟨ho _ d,z,ne,k _ _ (.inl rfl) e,mA,⟨od,es,ep,k _ _ (.inr d) e2,c⟩,r⟩
 |own y=>obtain⟨ob,e⟩:=x;exact⟨ob,k _ _ (.inl rfl) e⟩
 |xd fs=>obtain⟨mA,⟨od,es,ep,e,c⟩,r⟩:=x;exact⟨mA,⟨od,es,ep,k _ _ (.inl rfl) e,c⟩,r⟩
 |rng lo hi=>obtain⟨t,u,v,e⟩:=x;exact⟨t,u,v,k _ _ (.inl rfl) e⟩
 |frz ob u ih=>obtain⟨e,q⟩:=x;exact⟨k _ _ (.inl rfl) e,ih q⟩
 |tbl ps =>
  have e:h.get? a=some { cls:=.none,data:=.fields ps }:=x;show h'.get? a=some { cls:=.none,data:=.fields ps };exact k a _ (.inl rfl) e
 |met f y =>
  have e:h.get? a=some (W.methodObj (.ref f) (.ref y)):=x;show h'.get? a=some (W.methodObj (.ref f) (.ref y));exact k a _ (.inl rfl) e
 |ext φ=>obtain⟨p,⟨o,e⟩,st⟩:=x;exact⟨st _ _ p λo q=>k _ _ (.inl rfl) q,⟨o,k _ _ (.inl rfl) e⟩,st⟩
theorem HOk.lt(x:HOk P w H h)(e:H a=some o):a<h.objs.size:=(x a o e).lt
theorem HOk.fresh(x:HOk P w H h)(e:h.objs.size<=a):H a=none:=by
 cases q:H a with
 |none=>rfl
 |some u=>exact absurd (A8 (x.lt q) e) (CA _)
theorem HOk.kept(x:HOk P w H h)(k:∀b u,h.get? b=some u->h'.get? b=some u):HOk P w H h':=λa o e =>
 (x a o e).stay (λb u _ q=>k b u q) (λ_ q=>q) λ_ _ q=>q
theorem HOk.laid(x:HOk P w H h)(k:∀b u,h.get? b=some u->h'.get? b=some u)(hp:h.objs.size<=a)(new:ObjOk P w (upd H a o) h' a o):HOk P w (upd H a o) h':=λb u e=>by
 have hn:=x.fresh hp
 by_cases hb:b=a
 .subst hb;rw[zaa]at e;cases e;exact new
 .rw[zai hb]at e;exact (x b u e).stay (λc v _ q=>k c v q) (λc q=>by rw[zai (zak q hn)];exact q) λc xs q=>by rw[zai (zak q hn)];exact q
end
noncomputable def Rd(H:Hp)(a:Addr)(u:HO):Prop:=H a=some u∨∃o,H a=some (.frz o u)
theorem Rd.of{H:Hp}{a:Addr}{u:HO}(h:H a=some u):Rd H a u:=.inl h
theorem Rd.ok{P:AR}{w:Be}{H:Hp}{h:Heap}{a:Addr}{u:HO}(r:Rd H a u)(x:HOk P w H h):ObjOk P w H h a u:=by
 rcases r with r |⟨o,r⟩
 .exact x a u r
 .obtain⟨_,q⟩:=x a _ r;exact q
noncomputable def Mut:Option HO->Prop
 |some (.lst _)=>True
 |some (.dK _)=>True
 |some (.dT _)=>True
 |some (.set _ _)=>True
 |some (.ins _ _ _)=>True
 |some (.ext _)=>True
 |_=>False
section
variable {P:AR}{w:Be}{H:Hp}{h h':Heap}{x e:Addr}{o':HO}
theorem HOk.write(ok:HOk P w H h)(mu:Mut (H x))(he:e=x ∨ H e=some (.own x))(k:∀b u, b ≠ e -> h.get? b=some u -> h'.get? b=some u)(heo:∃u, h'.get? e=some u)
  (new:ObjOk P w (upd H x o') h' x o'):HOk P w (upd H x o') h':=λb u q=>by
 have nown:∀c y,H c=some (.own y)->c≠x:=λc y r z=>by subst z;rw[r]at mu;exact mu
 have ntup:∀c xs,H c=some (.tup xs)->c≠x:=λc xs r z=>by subst z;rw[r]at mu;exact mu
 by_cases hb:b=x
 .subst hb;rw[zaa]at q;cases q;exact new
 .rw[zai hb]at q
  by_cases hbe:b=e
  .have q':H b=some (.own x) := by
    rcases he with z |z
    .exact absurd (hbe.trans z) hb
    .rw[hbe];exact z
   rw[q]at q';cases q';obtain⟨v,hv⟩:=heo;exact⟨v,by rw[hbe];exact hv⟩
  .refine (ok b u q).stay (λc v hc r=>k c v ?_ r) (λc r=>by rw[zai (nown c b r)];exact r) λc xs r=>by rw[zai (ntup c xs r)];exact r
   rcases hc with rfl |hc
   .exact hbe
   .rintro rfl;rcases he with z |z
    .exact nown c b hc z
    .rw[hc]at z;cases z;exact hb rfl
end
structure Un (fs ex:List Addr) (H H':Hp) (h h':Heap):Prop where
 keep:∀b o,h.get? b=some o->H b=none->b ∉ fs->b ∉ ex->h'.get? b=some o
 slot:∀b o,h.get? b=some o->H b=none->b∈fs->b ∉ ex->∃sl,h'.get? b=some { o with slots:=sl }
 free:∀b o,h.get? b=some o->H b=none->b ∉ ex->H' b=none
 there:∀b o,h.get? b=some o->b ∉ ex->∃o',h'.get? b=some o'
 tups:∀b xs,H b=some (.tup xs)->H' b=some (.tup xs)
 frzs:∀b o u,H b=some (.frz o u)->H' b=some (.frz o u)
 tbls:∀b ps,H b=some (.tbl ps)->∃more,H' b=some (.tbl (ps++more))
section
variable {fs fs' ex ex':List Addr}{H H1 H2:Hp}{h h1 h2 h':Heap}{a x e:Addr}{o:HO}
theorem Un.any(u:Un fs ex H H1 h h1){b:Addr}{ob:Obj}(q:h.get? b=some ob)(n:H b=none)(hx:b ∉ ex):∃sl,h1.get? b=some { ob with slots:=sl }:=by
 by_cases hb:b∈fs
 .exact u.slot b ob q n hb hx
 .exact⟨ob.slots,u.keep b ob q n hb hx⟩
theorem Un.kept(k:∀b u,h.get? b=some u->h'.get? b=some u):Un fs ex H H h h' :=
 ⟨λb ob q _ _ _=>k b ob q,λb ob q _ _ _=>⟨ob.slots,k b ob q⟩,λ_ _ _ n _=>n,λb ob q _=>⟨ob,k b ob q⟩,λ_ _ q=>q,λ_ _ _ q=>q,λ_ ps q=>⟨#[],by rw[q];simp⟩⟩
theorem Un.refl:Un fs ex H H h h:=Un.kept λ_ _ q=>q
theorem Un.laid(k:∀b u,h.get? b=some u->h'.get? b=some u)(hp:h.objs.size<=a)(hn:H a=none):Un fs ex H (upd H a o) h h' where
 keep:=λb u q _ _ _=>k b u q
 slot:=λb u q _ _ _=>⟨u.slots,k b u q⟩
 free:=λb u q n _=>by rw[zai (A4 (A8 (AA q) hp))];exact n
 there:=λb u q _=>⟨u,k b u q⟩
 tups:=λb xs q=>by rw[zai (zak q hn)];exact q
 frzs:=λb u xs q=>by rw[zai (zak q hn)];exact q
 tbls:=λb ps q=>⟨#[],by rw[zai (zak q hn),q];simp⟩
theorem Un.write(mu:Mut (H x))(he:e=x∨H e=some (.own x))(k:∀b u,b≠e->h.get? b=some u->h'.get? b=some u)(heo:∃u,h'.get? e=some u):Un fs ex H (upd H x o) h h':=by
 have hx:∀b,H b=none->b≠x:=λb n z=>by subst z;rw[n]at mu;exact mu
 have hb:∀b,H b=none->b≠e:=λb n z=>by
  subst z;rcases he with r |r
  .exact hx b n r
  .rw[n]at r;cases r
 have hm:∀b u,H b=some u->¬ Mut (some u)->b≠x:=λb u q nm z=>by subst z;rw[q]at mu;exact nm mu
 refine⟨λb u q n _ _=>k b u (hb b n) q,λb u q n _ _=>⟨u.slots,k b u (hb b n) q⟩,λb u q n _=>by rw[zai (hx b n)];exact n,λb u q _=>?_,
  λb xs q=>by rw[zai (hm b _ q λz=>z)];exact q,λb u xs q=>by rw[zai (hm b _ q λz=>z)];exact q,λb ps q=>⟨#[],by rw[zai (hm b _ q λz=>z),q];simp⟩⟩
 by_cases hbe:b=e
 .subst hbe;exact heo
 .exact⟨u,k b u hbe q⟩
end
noncomputable def trk(h:Heap)(H:Hp):List Addr:=(BS h.objs.size).filter λa=>(H a).isSome
noncomputable def hidT(h:Heap)(H:Hp):Heap:=W.hideAll h (trk h H)
theorem zjN(h:Heap)(H:Hp):(hidT h H).objs.size=h.objs.size:=W.hideAll_size _ _
theorem zkM{h:Heap}{H:Hp}{b:Addr}{o:Obj}(e:h.get? b=some o)(n:H b=none):(hidT h H).get? b=some o :=
 W.hideAll_get _ e λhm=>by have q:(H b).isSome=true:=(Br.mp hm).2;rw[n]at q;simp at q
theorem zlW{h:Heap}{H:Hp}{b:Addr}{o:Obj}(e:(hidT h H).get? b=some o):h.get? b=some o/\H b=none:=by
 have e':h.get? b=some o:=W.of_hideAll (trk h H) e;refine⟨e',?_⟩
 cases q:H b with
 |none=>rfl
 |some x =>
  have hm:b∈trk h H:=List.mem_filter.mpr ⟨List.mem_range.mpr (AA e'),by simp[q]⟩;have z:(hidT h H).get? b=none:=W.hideAll_none (trk h H) hm;rw[z]at e;cases e
noncomputable def zmh(g h:Heap)(L:Addr):List (Addr×Obj):=(BS h.objs.size).filterMap λa=>if a=L∨(g.get? a).isSome=true then none else (h.get? a).map λo=>(a,o)
noncomputable def rest(g h:Heap)(L d:Addr):List (Addr×Obj):=(zmh g h L).filter λp=>decide (p.1≠d)
structure Mod (K:W.Frag) (mg:Str->Option Ac) (base:Heap):Prop where
 kin:K.In base
 glob:base.Ns AJ mg
 blt:∃mb,base.Ns builtinsNs mb/\∀x:Str,x ≠ "__name__" -> mb x=bootBuiltins x
 nolimit:base.NoLimit
structure Cx where
 prog:AR
 w:Be
 K:W.Frag
 mg:Str->Option Ac
 base:Heap
 A:A3
 N:List Str
 s₀:Ae
 H₀:Hp
 env:Env
 outer:List Env
 stack:List Env
 ex:List Addr
 fn:Str->Bool
 calm:Bool
 pn:List (Addr×Obj)
 xe:Ac->Ae->Prop
noncomputable def frs(l:List Env):List Addr:=l.filterMap (·.frame)
noncomputable abbrev Cx.fs(X:Cx):List Addr:=frs X.outer
noncomputable def Vis(sc:Scope)(x:Str):Prop:=sc.names.lookup x=some .local∨sc.names.lookup x=some .cell∨sc.names.lookup x=some .free
noncomputable def Loc(sc:Scope)(x:Str):Prop:=sc.names.lookup x=some .local∨sc.names.lookup x=some .cell
noncomputable def Look(env:Env)(h:Heap)(m:Str->Option Ac)(x:Str)(u:Ac):Prop :=
 (env.kindOf x=some .local/\m x=some u)∨((env.kindOf x=some .cell∨env.kindOf x=some .free)/\∃c,env.cells.lookup x=some c/\h.IsCell c (some u))
structure Cx.Ok (X:Cx):Prop where
 mod:Mod X.K X.mg X.base
 kind:X.env.scope.kind=.function
 glob:X.env.globals=AJ
 blt:X.env.builtins=builtinsNs
 above:X.s₀.heap.objs.size<=X.env.locals
 inj:∀x y c,X.env.cells.lookup x=some c->X.env.cells.lookup y=some c->x=y
 has:∀x,(X.env.kindOf x=some .cell∨X.env.kindOf x=some .free)->∃c,X.env.cells.lookup x=some c
 cab:∀x c,X.fn x=true->X.env.cells.lookup x=some c->X.s₀.heap.objs.size<=c
 hd:X.calm=true->X.A.handled=none
 frames:X.A.frames=some X.stack
 stk:X.stack=X.outer∨(X.stack=X.env::X.outer/\X.env.frame=some X.env.locals)
 exf:∀b∈X.ex,b≠X.env.locals/\∀x c,X.env.cells.lookup x=some c->c≠b
 bs:∀b o,X.base.get? b=some o->X.s₀.heap.get? b=some o/\X.H₀ b=none
 bsz:X.base.objs.size<=X.s₀.heap.objs.size
 noex:∀b o,X.base.get? b=some o->b ∉ X.ex
 exfs:∀b∈X.ex,b ∉ X.fs
 funs:X.s₀.heap.FunFrames X.base X.outer
 frf:∀b∈X.fs,X.H₀ b=none
structure Inv (X:Cx) (pins:List (Addr×Obj)) (σ:List (Option V)) (H:Hp) (s:Ae):Prop where
 ok:X.Ok
 os:s.os=X.s₀.os
 bare:AllBare s.gens
 base:Un X.fs X.ex X.H₀ H X.s₀.heap s.heap
 loc:∃m,s.heap.Ns X.env.locals m/\∀(i:Nat) (x:Str) (v:V),X.N[i]?=some x->σ[i]?=some (some v)->Vis X.env.scope x->∃u,RelV v u/\Look X.env s.heap m x u
 cell:∀x c,X.env.cells.lookup x=some c->∃v,s.heap.IsCell c v
 free:H X.env.locals=none
 freeC:∀x c,X.env.cells.lookup x=some c->H c=none
 pin:∀p∈X.pn++pins,s.heap.get? p.1=some p.2/\H p.1=none/\p.1≠X.env.locals/\p.1 ∉ X.fs/\∀v,p.2.data≠.cell v
 hok:HOk X.prog X.w H s.heap
 len:σ.length=X.N.length
section
variable {X:Cx}{pins:List (Addr×Obj)}{σ:List (Option V)}{H H':Hp}{s:Ae}{h':Heap}
theorem Cx.Ok.nofr(ok:X.Ok){b:Addr}{o:Obj}(e:X.base.get? b=some o):b ∉ X.fs:=λhb=>by have:=(ok.funs.mem hb).1;rw[e]at this;cases this
theorem Inv.bs(I:Inv X pins σ H s):∀b o,X.base.get? b=some o->s.heap.get? b=some o/\H b=none:=λb o e =>
 ⟨I.base.keep b o (I.ok.bs b o e).1 (I.ok.bs b o e).2 (I.ok.nofr e) (I.ok.noex b o e),I.base.free b o (I.ok.bs b o e).1 (I.ok.bs b o e).2 (I.ok.noex b o e)⟩
theorem Inv.bk(I:Inv X pins σ H s):∀b o,X.base.get? b=some o->s.heap.get? b=some o:=λb o e=>(I.bs b o e).1
theorem Inv.mod(I:Inv X pins σ H s):Mod X.K X.mg X.base:=I.ok.mod
theorem Inv.kIn(I:Inv X pins σ H s):X.K.In s.heap:=I.ok.mod.kin.keeps I.bk
theorem Inv.lt(I:Inv X pins σ H s):X.env.locals<s.heap.objs.size:=let ⟨_,hn,_⟩:=I.loc;hn.lt
theorem Inv.sz(I:Inv X pins σ H s):X.s₀.heap.objs.size<=s.heap.objs.size:=AW I.ok.above (BJ I.lt)
theorem Inv.nofs(I:Inv X pins σ H s){a:Addr}(h:s.heap.objs.size<=a):a ∉ X.fs:=λhb=>by obtain⟨_,o,ho,_⟩:=I.ok.funs.mem hb;exact absurd (A8 (AA ho) (AW I.sz h)) (CA _)
theorem Inv.cne(I:Inv X pins σ H s):∀x c,X.env.cells.lookup x=some c->c≠X.env.locals:=λx c e z=>by obtain⟨v,o,ho,hd⟩:=I.cell x c e;obtain⟨m,⟨o',es,ep,ho',hd',_⟩,_⟩:=I.loc;rw[z,ho']at ho;cases ho;rw[hd']at hd;cases hd
theorem Inv.funs(I:Inv X pins σ H s):s.heap.FunFrames X.base X.outer:=by
 have all:∀(l:List Env),(∀b∈frs l,b∈X.fs)->X.s₀.heap.FunFrames X.base l->s.heap.FunFrames X.base l:=by
  intro l
  induction l with
  |nil=>intro _ _;trivial
  |cons env r ih =>
   intro hs hl;obtain⟨hk,⟨L,o,hf,hn,ho,hd⟩,hr⟩:=hl;have hL:L∈X.fs:=hs L (by unfold frs;rw[List.filterMap_cons,hf];exact An);obtain⟨sl,e⟩:=I.base.slot L o ho (I.ok.frf L hL) hL λz=>I.ok.exfs L z hL
   exact⟨hk,⟨L,_,hf,hn,e,hd⟩,ih (λb hb=>hs b (by unfold frs;rw[List.filterMap_cons,hf];exact Ap _ hb)) hr⟩
 exact all X.outer (λ_ hb=>hb) I.ok.funs
theorem Inv.stack(I:Inv X pins σ H s):s.heap.FunFrames X.base X.stack:=by
 rcases I.ok.stk with e |⟨e,hf⟩
 .rw[e];exact I.funs
 .rw[e];obtain⟨m,hn,_⟩:=I.loc;refine .cons (by rw[I.ok.kind];decide) hf hn ?_ I.funs;exact Heap.get?_none_of_le (AW I.ok.bsz I.ok.above)
theorem Inv.stkSub(I:Inv X pins σ H s):∀b∈frs X.stack,b∈X.env.locals::X.fs:=λb hb=>by
 rcases I.ok.stk with e |⟨e,hf⟩
 .rw[e]at hb;exact Ap _ hb
 .rw[e]at hb;unfold frs at hb;rw[List.filterMap_cons,hf]at hb;exact hb
theorem Inv.stkFree(I:Inv X pins σ H s):∀b∈frs X.stack,H b=none:=λb hb=>by
 rcases AM.mp (I.stkSub b hb) with e |hb
 .rw[e];exact I.free
 .obtain⟨_,o,ho,_⟩:=I.ok.funs.mem hb;exact I.base.free b o ho (I.ok.frf b hb) λz=>I.ok.exfs b z hb
theorem Inv.step{g':Array GenState}{t':Nat}{d':Drawn}{ch:List Addr}(I:Inv X pins σ H s)
  (hch:∀b∈ch,(b∈X.ex∨X.s₀.heap.objs.size<=b)/\b≠X.env.locals/\(∀x c,X.env.cells.lookup x=some c->c≠b)/\∀p∈X.pn++pins,p.1≠b)
  (keep:∀b o,b≠X.env.locals->b ∉ X.fs->b ∉ ch->s.heap.get? b=some o->H b=none->h'.get? b=some o)
  (slot:∀b o,b≠X.env.locals->b∈X.fs->b ∉ ch->s.heap.get? b=some o->H b=none->∃sl,h'.get? b=some { o with slots:=sl }) (free:∀b o,b ∉ ch->s.heap.get? b=some o->H b=none->H' b=none)
  (there:∀b o,b ∉ ch->s.heap.get? b=some o->∃o',h'.get? b=some o')
  (tups:∀b xs,H b=some (.tup xs)->H' b=some (.tup xs)) (frzs:∀b o u,H b=some (.frz o u)->H' b=some (.frz o u)) (tbls:∀b ps,H b=some (.tbl ps)->∃more,H' b=some (.tbl (ps++more)))
  (ns:∀m,s.heap.Ns X.env.locals m->h'.Ns X.env.locals m) (hok:HOk X.prog X.w H' h') (hg:AllBare g') :
  Inv X pins σ H' { s with heap:=h',gens:=g',drawn:=d',toks:=t' }:=by
 have neL:∀b o,X.s₀.heap.get? b=some o->b≠X.env.locals:=λb o e=>A4 (A8 (AA e) I.ok.above)
 have neC:∀b o,X.s₀.heap.get? b=some o->b ∉ X.ex->b ∉ ch:=λb o e hx hb=>by
  rcases (hch b hb).1 with z |z
  .exact hx z
  .exact absurd (A8 (AA e) z) (CA _)
 have cellK:∀x c,X.env.cells.lookup x=some c->∀v,s.heap.IsCell c v->h'.IsCell c v:=λx c e v ⟨o,ho,hd⟩=>by
  have nch:c ∉ ch:=λz=>(hch c z).2.2.1 x c e rfl
  by_cases hc:c∈X.fs
  .obtain⟨sl,q⟩:=slot c o (I.cne x c e) hc nch ho (I.freeC x c e);exact⟨_,q,hd⟩
  .exact⟨o,keep c o (I.cne x c e) hc nch ho (I.freeC x c e),hd⟩
 refine⟨I.ok,I.os,hg,⟨λb o e n hb hx=>?_,λb o e n hb hx=>?_,λb o e n hx=>?_,λb o e hx=>?_,λb xs e=>tups b xs (I.base.tups b xs e),λb o xs e=>frzs b o xs (I.base.frzs b o xs e),λb ps e=>?_⟩,?_,λx c e=>?_,?_,λx c e=>?_,λp hp=>?_,hok,I.len⟩
 .exact keep b o (neL b o e) hb (neC b o e hx) (I.base.keep b o e n hb hx) (I.base.free b o e n hx)
 .obtain⟨sl,e1⟩:=I.base.slot b o e n hb hx;obtain⟨sl',e2⟩:=slot b _ (neL b o e) hb (neC b o e hx) e1 (I.base.free b o e n hx);exact⟨sl',e2⟩
 .obtain⟨o',e1⟩:=I.base.there b o e hx;exact free b o' (neC b o e hx) e1 (I.base.free b o e n hx)
 .obtain⟨o',e1⟩:=I.base.there b o e hx;exact there b o' (neC b o e hx) e1
 .obtain⟨m1,e1⟩:=I.base.tbls b ps e;obtain⟨m2,e2⟩:=tbls b _ e1;exact⟨m1++m2,by rw[e2,Array.append_assoc]⟩
 .obtain⟨m,hn,hl⟩:=I.loc;refine⟨m,ns m hn,λi x v e1 e2 e3=>?_⟩;obtain⟨u,r,l⟩:=hl i x v e1 e2 e3;refine⟨u,r,?_⟩;rcases l with l |⟨k,c,e,z⟩
  .exact .inl l
  .exact .inr ⟨k,c,e,cellK x c e _ z⟩
 .obtain⟨v,z⟩:=I.cell x c e;exact⟨v,cellK x c e v z⟩
 .obtain⟨m,⟨o,_,_,ho,_⟩,_⟩:=I.loc;exact free _ o (λz=>(hch _ z).2.1 rfl) ho I.free
 .obtain⟨v,o,ho,hd⟩:=I.cell x c e;exact free c o (λz=>(hch c z).2.2.1 x c e rfl) ho (I.freeC x c e)
 .obtain⟨e,n,ne,nf,d⟩:=I.pin p hp;have nch:p.1 ∉ ch:=λz=>(hch p.1 z).2.2.2 p hp rfl
  exact⟨keep p.1 p.2 ne nf nch e n,free p.1 p.2 nch e n,ne,nf,d⟩
theorem Inv.un{t':Nat}(I:Inv X pins σ H s)(u:Un X.fs [] H H' s.heap h')(hok:HOk X.prog X.w H' h'):Inv X pins σ H' { s with heap:=h',toks:=t' }:=by
 obtain⟨m,⟨o,es,ep,ho,r⟩,_⟩:=id I.loc;obtain⟨sl,hL⟩:=u.any ho I.free (by simp)
 exact I.step (g':=s.gens) (d':=s.drawn) (ch:=[]) (λ_ z=>nomatch z) (λb o _ hb _ e n=>u.keep b o e n hb (by simp)) (λb o _ hb _ e n=>u.slot b o e n hb (by simp)) (λb o _ e n=>u.free b o e n (by simp)) (λb o _ e=>u.there b o e (by simp)) u.tups u.frzs u.tbls (λm' hm=>by obtain⟨o',es',ep',ho',r'⟩:=hm;rw[ho]at ho';cases ho';exact⟨_,es',ep',hL,r'⟩) hok I.bare
theorem Inv.call{g':Array GenState}{t':Nat}{d':Drawn}{ch:List Addr}(I:Inv X pins σ H s)(u:Un (frs X.stack) ch H H' s.heap h')(hok:HOk X.prog X.w H' h')(hg:AllBare g')
  (hch:∀b∈ch,(b∈X.ex∨X.s₀.heap.objs.size<=b)/\b≠X.env.locals/\(∀x c,X.env.cells.lookup x=some c->c≠b)/\∀p∈X.pn++pins,p.1≠b) :
  Inv X pins σ H' { s with heap:=h',gens:=g',drawn:=d',toks:=t' }:=by
 obtain⟨m,⟨o,es,ep,ho,r⟩,_⟩:=id I.loc;obtain⟨sl,hL⟩:=u.any ho I.free λz=>(hch _ z).2.1 rfl
 exact I.step (ch:=ch) hch (λb o hL hb hc e n=>u.keep b o e n (λz=>(AM.mp (I.stkSub b z)).elim hL hb) hc) (λb o _ _ hc e n=>u.any e n hc) (λb o hc e n=>u.free b o e n hc) (λb o hc e=>u.there b o e hc) u.tups u.frzs u.tbls (λm' hm=>by obtain⟨o',es',ep',ho',r'⟩:=hm;rw[ho]at ho';cases ho';exact⟨_,es',ep',hL,r'⟩) hok hg
theorem Inv.turned{t':Nat}{it:Addr}(I:Inv X pins σ H s)(k:∀b o, b ≠ it -> s.heap.get? b=some o -> h'.get? b=some o)(hn:H it=none)(hL:it ≠ X.env.locals)
  (h1:it∈X.ex∨X.s₀.heap.objs.size<=it) (h2:∀x c,X.env.cells.lookup x=some c->c≠it) (h3:∀p∈X.pn++pins,p.1≠it):Inv X pins σ H { s with heap:=h',toks:=t' }:=by
 have nit:∀b u,H b=some u->b≠it:=λb u e z=>by rw[z,hn]at e;cases e
 refine I.step (g':=s.gens) (d':=s.drawn) (ch:=[it]) (λb hb=>?_) (λb o _ _ hc e _=>k b o (λz=>hc (by simp[z])) e) (λb o _ _ hc e _=>⟨o.slots,k b o (λz=>hc (by simp[z])) e⟩) (λ_ _ _ _ n=>n)
  (λb o hc e=>⟨o,k b o (λz=>hc (by simp[z])) e⟩) (λ_ _ e=>e) (λ_ _ _ e=>e) (λb ps e=>⟨#[],by rw[e];simp⟩) (λm hm=>?_) (λb u e=>?_) I.bare
 .have e:b=it:=by simpa using hb
  subst e;exact⟨h1,hL,h2,h3⟩
 .obtain⟨o,es,ep,ho,r⟩:=hm;exact⟨o,es,ep,k _ o (BW hL) ho,r⟩
 .refine (I.hok b u e).stay (λc v hc q=>k c v ?_ q) (λ_ q=>q) λ_ _ q=>q
  rcases hc with z |z
  .rw[z];exact nit b u e
  .exact nit c _ z
theorem Inv.tok(I:Inv X pins σ H s)(t:Nat):Inv X pins σ H { s with toks:=t }:=I.un (h':=s.heap) (t':=t) Un.refl I.hok
theorem Inv.kept{t':Nat}(I:Inv X pins σ H s)(k:∀b u,s.heap.get? b=some u->h'.get? b=some u):Inv X pins σ H { s with heap:=h',toks:=t' }:=I.un (Un.kept k) (I.hok.kept k)
theorem Inv.laid{a:Addr}{o:HO}{t':Nat}(I:Inv X pins σ H s)(k:∀b u, s.heap.get? b=some u -> h'.get? b=some u)(hp:s.heap.objs.size <= a)(new:ObjOk X.prog X.w (upd H a o) h' a o) :
  Inv X pins σ (upd H a o) { s with heap:=h',toks:=t' }:=I.un (Un.laid k hp (I.hok.fresh hp)) (I.hok.laid k hp new)
theorem Inv.write{x e:Addr}{o:HO}{t':Nat}(I:Inv X pins σ H s)(mu:Mut (H x))(he:e=x ∨ H e=some (.own x))(k:∀b u, b ≠ e -> s.heap.get? b=some u -> h'.get? b=some u)(heo:∃u, h'.get? e=some u)
  (new:ObjOk X.prog X.w (upd H x o) h' x o):Inv X pins σ (upd H x o) { s with heap:=h',toks:=t' }:=I.un (Un.write mu he k heo) (I.hok.write mu he k heo new)
theorem Inv.pins_of{pins':List (Addr×Obj)}(I:Inv X pins σ H s)(h:∀p∈pins',s.heap.get? p.1=some p.2/\H p.1=none/\p.1≠X.env.locals/\p.1 ∉ X.fs/\∀v,p.2.data≠.cell v):Inv X pins' σ H s :=
 ⟨I.ok,I.os,I.bare,I.base,I.loc,I.cell,I.free,I.freeC,λp hp=>(AH.mp hp).elim (λz=>I.pin p (BH _ z)) (h p),I.hok,I.len⟩
theorem zhR{N:List Str}(hN:N.Nodup){i j:Nat}{x:Str}(a:N[i]?=some x)(b:N[j]?=some x):i=j:=by obtain⟨h1,e1⟩:=Ad.mp a;obtain⟨h2,e2⟩:=Ad.mp b;exact (List.getElem_inj hN).mp (e1.trans e2.symm)
theorem zdc{M:Model}{A:A3}{E:Ac -> Ae -> Prop}{i:Nat}{x:Str}{v:V}{u:Ac}{Q:Unit -> Ae -> Prop}(I:Inv X pins σ H s)(hN:X.N.Nodup)(hi:X.N[i]? = some x)(hx:Loc X.env.scope x)(r:RelV v u)
  (h:∀s',Inv X pins (σ.set i (some v)) H s'->(∃a,Cj a s.heap s'.heap/\(a=X.env.locals∨X.env.cells.lookup x=some a))->Q () s') (hf:X.fn x=true∨X.env.scope.names.lookup x=some .local:=by first |exact .inl rfl |exact .inr rfl |assumption):At M A (storeName X.env x u) Q E s:=by
 obtain⟨m,hn,hl⟩:=id I.loc;have hcls:(X.env.scope.kind == .class || (X.env.scope.kind == .module && X.env.locals != X.env.globals))=false:=by rw[I.ok.kind];rfl
 have hiσ:i<σ.length:=by rw[I.len];exact (Ad.mp hi).1
 have cne:=I.cne
 have tracked:∀{a:Addr} {h':Heap},(∃o,s.heap.get? a=some o/\H a=none)->Cj a s.heap h'->HOk X.prog X.w H h':=λ{a h'} ha hs b ob e=>by
  obtain⟨_,_,hfree⟩:=ha;refine (I.hok b ob e).stay (λc w' hc q=>(hs.2 c ?_).trans q) (λ_ q=>q) λ_ _ q=>q
  rintro rfl;rcases hc with rfl |hc
  .rw[hfree]at e;cases e
  .rw[hfree]at hc;cases hc
 rcases hx with hk |hk
 .refine wpAny_storeName_local hk hn (λh' hn' hs=>?_) hcls;obtain⟨oL,_,_,hoL,_⟩:=id hn;refine h _ ⟨I.ok,I.os,I.bare,⟨λb o e n hb hx=>?_,λb o e n hb hx=>?_,I.base.free,λb o e hx=>?_,I.base.tups,I.base.frzs,I.base.tbls⟩,⟨_,hn',λj y v' e1 e2 e3=>?_⟩,λy c e=>?_,I.free,I.freeC,λp hp=>?_,tracked ⟨oL,hoL,I.free⟩ hs,by simpa using I.len⟩ ⟨_,hs,.inl rfl⟩
  .exact (hs.2 b (A4 (A8 (AA e) I.ok.above))).trans (I.base.keep b o e n hb hx)
  .obtain⟨sl,e1⟩:=I.base.slot b o e n hb hx;exact⟨sl,(hs.2 b (A4 (A8 (AA e) I.ok.above))).trans e1⟩
  .obtain⟨o',e1⟩:=I.base.there b o e hx;exact⟨o',(hs.2 b (A4 (A8 (AA e) I.ok.above))).trans e1⟩
  .by_cases hj:j=i
   .subst hj;rw[hi]at e1;cases e1;rw[List.getElem?_set_self hiσ]at e2
    cases e2
    exact⟨u,r,.inl ⟨hk,by simp⟩⟩
   .rw[List.getElem?_set_ne (BW hj)]at e2;obtain⟨u',r',q⟩:=hl j y v' e1 e2 e3;refine⟨u',r',?_⟩;rcases q with⟨k,e⟩ |⟨k,c,e,z⟩
    .refine .inl ⟨k,?_⟩;have:y≠x:=λe=>hj (zhR hN e1 (e ▸ hi))
     simp[this,e]
    .exact .inr ⟨k,c,e,z.sameBut hs (cne y c e)⟩
  .obtain⟨w',z⟩:=I.cell y c e;exact⟨w',z.sameBut hs (cne y c e)⟩
  .obtain⟨e,n,ne,nf,d⟩:=I.pin p hp;exact⟨(hs.2 p.1 ne).trans e,n,ne,nf,d⟩
 .have hfn:X.fn x=true := by
   rcases hf with z |z
   .exact z
   .rw[z]at hk;cases hk
  obtain⟨c,hc⟩:=I.ok.has x (.inl hk);obtain⟨w',z⟩:=I.cell x c hc;refine wpAny_storeName_cell I.ok.kind hk hc z (λh' hc' hs=>?_);obtain⟨oc,hoc,hocd⟩:=id z;refine h { s with heap:=h' } ⟨I.ok,I.os,I.bare,⟨λb o e n hb hx=>?_,λb o e n hb hx=>?_,I.base.free,λb o e hx=>?_,I.base.tups,I.base.frzs,I.base.tbls⟩,⟨m,hn.sameBut hs (BW (cne x c hc)),λj y v' e1 e2 e3=>?_⟩,λy c' e=>?_,I.free,I.freeC,λp hp=>?_,tracked ⟨oc,hoc,I.freeC x c hc⟩ hs,by simpa using I.len⟩ ⟨c,hs,.inr hc⟩
  .exact (hs.2 b (A4 (A8 (AA e) (I.ok.cab x c hfn hc)))).trans (I.base.keep b o e n hb hx)
  .obtain⟨sl,e1⟩:=I.base.slot b o e n hb hx;exact⟨sl,(hs.2 b (A4 (A8 (AA e) (I.ok.cab x c hfn hc)))).trans e1⟩
  .obtain⟨o',e1⟩:=I.base.there b o e hx;exact⟨o',(hs.2 b (A4 (A8 (AA e) (I.ok.cab x c hfn hc)))).trans e1⟩
  .by_cases hj:j=i
   .subst hj;rw[hi]at e1;cases e1;rw[List.getElem?_set_self hiσ]at e2
    cases e2
    exact⟨u,r,.inr ⟨.inl hk,c,hc,hc'⟩⟩
   .rw[List.getElem?_set_ne (BW hj)]at e2;obtain⟨u',r',q⟩:=hl j y v' e1 e2 e3;refine⟨u',r',?_⟩;rcases q with q |⟨k,c',e,z'⟩
    .exact .inl q
    .refine .inr ⟨k,c',e,z'.sameBut hs ?_⟩;rintro rfl;exact hj (zhR hN e1 (I.ok.inj _ _ _ e hc ▸ hi))
  .by_cases hcc:c'=c
   .subst hcc;exact⟨_,hc'⟩
   .obtain⟨w2,z2⟩:=I.cell y c' e;exact⟨w2,z2.sameBut hs hcc⟩
  .obtain⟨e,n,ne,nf,d⟩:=I.pin p hp;refine⟨(hs.2 p.1 ?_).trans e,n,ne,nf,d⟩;intro q;rw[q,hoc]at e;have q':oc=p.2:=AX e;exact d w' (by rw[<- q'];exact hocd)
theorem zfc{M:Model}{A:A3}{E:Ac -> Ae -> Prop}{i:Nat}{x:Str}{v:V}{u:Ac}{Q:Unit -> Ae -> Prop}(I:Inv X pins σ H s)(hN:X.N.Nodup)(hi:X.N[i]? = some x)(hx:Loc X.env.scope x)(r:RelV v u)
  (h:∀s',Inv X pins (σ.set i (some v)) H s'->Q () s') (hf:X.fn x=true∨X.env.scope.names.lookup x=some .local:=by first |exact .inl rfl |exact .inr rfl |assumption):At M A (storeName X.env x u) Q E s :=
 zdc I hN hi hx r (λs' I' _=>h s' I') hf
theorem Inv.call'{s':Ae}{ch:List Addr}(I:Inv X pins σ H s)(ho:s'.os=s.os)(u:Un (frs X.stack) ch H H' s.heap s'.heap)(hok:HOk X.prog X.w H' s'.heap)(hg:AllBare s'.gens)
  (hch:∀b∈ch,(b∈X.ex∨X.s₀.heap.objs.size<=b)/\b≠X.env.locals/\(∀x c,X.env.cells.lookup x=some c->c≠b)/\∀p∈X.pn++pins,p.1≠b):Inv X pins σ H' s':=by
 obtain⟨h',g',d',t',o'⟩:=s';have e:o'=s.os:=ho;subst e;exact I.call (g':=g') (t':=t') (d':=d') u hok hg hch
end
noncomputable abbrev XK:=Ac->Option Addr->Hp->Prop
noncomputable abbrev St:=List (Option V)
noncomputable abbrev VK:=V->Hp->Prop
noncomputable abbrev TE:=St->Hp->VK->Prop
noncomputable abbrev TT:=St->Hp->(Bool->Hp->Prop)->Prop
noncomputable abbrev TA:=St->Hp->(List V->Hp->Prop)->Prop
structure Ends where
 nx:St->Hp->Prop
 rt:VK
 bk:St->Hp->Prop:=λ_ _=>False
 ct:St->Hp->Prop:=λ_ _=>False
noncomputable abbrev TS:=Ends->St->Hp->Prop
noncomputable def EP(X:Cx)(pins:List (Addr×Obj))(σ:St)(Q:VK)(u:Ac)(s':Ae):Prop:=∃v H',Inv X pins σ H' s'/\RelV v u/\Q v H'
noncomputable def TP(X:Cx)(pins:List (Addr×Obj))(σ:St)(Q:Bool->Hp->Prop)(b:Bool)(s':Ae):Prop:=∃H',Inv X pins σ H' s'/\Q b H'
noncomputable def AP(X:Cx)(pins:List (Addr×Obj))(σ:St)(Q:List V->Hp->Prop)(us:List Ac)(s':Ae):Prop:=∃vs H',Inv X pins σ H' s'/\Vals vs us/\Q vs H'
noncomputable def SP(X:Cx)(pins:List (Addr×Obj))(D:Ends)(f:Flow)(s':Ae):Prop :=
 match f with
 |.next=>∃ σ' H',Inv X pins σ' H' s'/\D.nx σ' H'
 |.brk=>∃ σ' H',Inv X pins σ' H' s'/\D.bk σ' H'
 |.cont=>∃ σ' H',Inv X pins σ' H' s'/\D.ct σ' H'
 |.ret u=>∃v σ' H',Inv X pins σ' H' s'/\RelV v u/\D.rt v H'
noncomputable def PE(X:Cx)(e:Expr)(t:TE):Prop :=
 ∀(pins:List (Addr×Obj)) (s:Ae) (σ:St) (H:Hp) (Q:VK),Inv X pins σ H s->t σ H Q->At (Ay X.prog X.w) X.A (eval e X.env) (EP X pins σ Q) X.xe s
noncomputable def PT(X:Cx)(e:Expr)(t:TT):Prop :=
 ∀(pins:List (Addr×Obj)) (s:Ae) (σ:St) (H:Hp) (Q:Bool->Hp->Prop),Inv X pins σ H s->t σ H Q->At (Ay X.prog X.w) X.A (isTrue e X.env (eval e X.env)) (TP X pins σ Q) X.xe s
noncomputable def PW(X:Cx)(e:Expr)(t:TT):Prop :=
 ∀(whole:Sem Ac) (pins:List (Addr×Obj)) (s:Ae) (σ:St) (H:Hp) (Q:Bool->Hp->Prop),Inv X pins σ H s->t σ H Q->At (Ay X.prog X.w) X.A (isTrue e X.env whole) (TP X pins σ Q) X.xe s
theorem PW.pt{X:Cx}{e:Expr}{t:TT}(h:PW X e t):PT X e t:=h _
noncomputable def PA(X:Cx)(es:List Expr)(t:TA):Prop :=
 ∀(pos:Pos) (pins:List (Addr×Obj)) (s:Ae) (σ:St) (H:Hp) (Q:List V->Hp->Prop),Inv X pins σ H s->t σ H Q->At (Ay X.prog X.w) X.A (spliced (backTo pos (Bx es X.env))) (AP X pins σ Q) X.xe s
noncomputable def PS(X:Cx)(st:Stmt)(t:TS):Prop :=
 ∀(pins:List (Addr×Obj)) (s:Ae) (σ:St) (H:Hp) (D:Ends),Inv X pins σ H s->t D σ H->At (Ay X.prog X.w) X.A (exec st X.env) (SP X pins D) X.xe s
noncomputable def PSs(X:Cx)(st:List Stmt)(t:TS):Prop :=
 ∀(pins:List (Addr×Obj)) (s:Ae) (σ:St) (H:Hp) (D:Ends),Inv X pins σ H s->t D σ H->At (Ay X.prog X.w) X.A (execs st X.env) (SP X pins D) X.xe s
theorem thn{α:Type}{t:Sem α}{Q Q':α->Ae->Prop}{M:Model}{A:A3}{E:Ac->Ae->Prop}{s:Ae}(h:At M A t Q E s)(hQ:∀a s,Q a s->Q' a s):At M A t Q' E s:=BY h hQ λ_ _ x=>x
section
variable {X:Cx}
noncomputable def tVar(i:Nat):TE:=λσ H Q=>∃v,σ[i]?=some (some v)/\Q v H
noncomputable def tC(v:V):TE:=λ_ H Q=>Q v H
theorem zmG {i:Nat}{x:Str}{pos:Pos}(hN:X.N[i]?=some x) (hv:Vis X.env.scope x) (hd:(x == ("__debug__" : Str))=false:=by decide) (hcd:(x == ("__classdict__" : Str))=false:=by decide):PE X (.Name x pos) (tVar i):=by
 intro pins s σ H Q I h;obtain⟨v,e,h⟩:=h;obtain⟨m,hn,hl⟩:=I.loc;obtain⟨u,r,l⟩:=hl i x v hN e hv;have fin:EP X pins σ Q u s:=⟨v,H,I,r,h⟩;rcases l with⟨hk,hm⟩ |⟨hk,c,hc,hcell⟩
 .exact wpAny_Name (wpAny_loadName_local I.ok.kind hk hn hm fin) hd
 .rcases hk with hk |hk
  .exact wpAny_Name (wpAny_loadName_cell I.ok.kind hk hc hcell fin) hd
  .exact wpAny_Name (wpAny_loadName_free I.ok.kind hk hc hcell fin hcd) hd
theorem zae{i j pos}:PE X (.Constant (.int i) j pos) (tC (.int i)):=λ_ _ _ H _ I h=>wpAny_Constant_int ⟨.int i,H,I.tok _,⟨_,rfl⟩,h⟩
theorem pe_bl{b j pos}:PE X (.Constant (.bool b) j pos) (tC (.bl b)):=λ_ _ _ H _ I h=>Constant_bool ⟨.bl b,H,I,rfl,h⟩
theorem zbS{j pos}:PE X (.Constant .none j pos) (tC .non):=λ_ _ _ H _ I h=>Constant_none ⟨.non,H,I,rfl,h⟩
theorem zgm{x j pos}:PE X (.Constant (.str x) j pos) (tC (.str x)):=λ_ _ _ H _ I h=>Calls.Constant_str ⟨.str x,H,I.tok _,⟨_,rfl⟩,h⟩
noncomputable def Gl(X:Cx)(x:Str):Prop:=X.env.kindOf x=some .globalImplicit
theorem zjB{E:Ac -> Ae -> Prop}{pins:List (Addr × Obj)}{s:Ae}{σ : St}{H:Hp}{x:Str}{u:Ac}{pos:Pos}{Q:Ac -> Ae -> Prop}(I:Inv X pins σ H s)(hg:Gl X x)(hm:X.mg x=some u)(h:Q u s)
  (hd:(x == ("__debug__" : Str))=false:=by decide):At (Ay X.prog X.w) X.A (eval (.Name x pos) X.env) Q E s :=
 Calls.Name_function_global I.ok.kind hg (Calls.loadGlobal_global (by rw[I.ok.glob];exact I.mod.glob.keeps I.bk) hm h) hd
theorem zeZ{E:Ac -> Ae -> Prop}{pins:List (Addr × Obj)}{s:Ae}{σ : St}{H:Hp}{x:Str}{u:Ac}{pos:Pos}{Q:Ac -> Ae -> Prop}(I:Inv X pins σ H s)(hg:Gl X x)(hm:X.mg x=none)(hv:bootBuiltins x=some u)(h:Q u s)
  (hn:x ≠ "__name__":=by decide) (hd:(x == ("__debug__" : Str))=false:=by decide):At (Ay X.prog X.w) X.A (eval (.Name x pos) X.env) Q E s:=by
 obtain⟨mb,h1,h2⟩:=I.mod.blt;exact Calls.Name_function_global I.ok.kind hg (Calls.loadGlobal_builtin (by rw[I.ok.glob];exact I.mod.glob.keeps I.bk) hm (by rw[I.ok.blt];exact h1.keeps I.bk) ((h2 x hn).trans hv) h) hd
theorem zd5 {x:Str}{v:V}{u:Ac}{pos:Pos}(hg:Gl X x) (hm:X.mg x=some u) (r:RelV v u) (hd:(x == ("__debug__" : Str))=false:=by decide):PE X (.Name x pos) (tC v) :=
 λ_ _ _ H _ I h=>zjB I hg hm ⟨v,H,I,r,h⟩ hd
variable {a b:Expr}{ta tb:TE}{pos:Pos}
noncomputable def PC(X:Cx)(op:CmpOp)(a b:Expr)(t:TE):Prop :=
 ∀(pins:List (Addr×Obj)) (s:Ae) (σ:St) (H:Hp) (Q:VK),Inv X pins σ H s->t σ H Q ->
  At (Ay X.prog X.w) X.A (eval a X.env) (λv s₁=>At (Ay X.prog X.w) X.A (eval b X.env) (λu s₂=>At (Ay X.prog X.w) X.A (BB op v u) (EP X pins σ Q) X.xe s₂) X.xe s₁) X.xe s
noncomputable def tB(t:TE):TT:=λσ H Q=>t σ H λx H1=>∃c,x=.bl c/\Q c H1
theorem zhE{op:CmpOp}{t:TE}(h:PC X op a b t)(h1:behindInMarks op b=false:=by first |exact nobehind _ (by decide) (by decide) |rfl):PT X (.Compare a [op] [b] pos) (tB t):=by
 intro pins s σ H Q I hw;refine wpAny_isTrue_Compare1 (thn (h pins s σ H _ I hw) λv s1 h1=>thn h1 λu s2 h2=>thn h2 λc s3 ⟨x,H1,I1,r1,q1⟩=>?_) h1;obtain⟨d,rfl,q⟩:=q1
 cases r1
 exact BZ ⟨H1,I1,q⟩
theorem zdh{e:Expr}{t:TE}(h:PE X e t)(he:∀whole,isTrue e X.env whole=(do let v <- whole;standAt e.pos;DP [v] (truthy v)):=by intro _;rfl):PT X e (tB t):=by
 intro pins s σ H Q I hw;refine isTrue_plain (thn (h pins s σ H _ I hw) λv s1 ⟨x,H1,I1,r1,q1⟩=>?_) (he _);obtain⟨d,rfl,q⟩:=q1
 cases r1
 exact BZ ⟨H1,I1,q⟩
variable {tA tB':TT}{rest:List Expr}
noncomputable def tOr(t u:TT):TT:=λσ H Q=>t σ H λc H1=>if c=true then Q true H1 else u σ H1 Q
noncomputable def tNot(t:TT):TT:=λσ H Q=>t σ H λc H1=>Q (!c) H1
theorem zlh(ha:PT X a tA):PW X (.BoolOp .Or [a] pos) tA:=by
 intro wh pins s σ H Q I h;refine isTrue_or (thn (ha pins s σ H Q I h) λc s1 e=>?_)
 cases c with
 |false=>exact isTrue_or_nil e
 |true=>exact e
theorem pw_or(ha:PT X a tA)(hb:PW X (.BoolOp .Or (b::rest) pos) tB'):PW X (.BoolOp .Or (a::b::rest) pos) (tOr tA tB'):=by
 intro wh pins s σ H Q I h;refine isTrue_or (thn (ha pins s σ H _ I h) λc s1 ⟨H1,I1,q1⟩=>?_)
 cases c with
 |true=>exact⟨H1,I1,q1⟩
 |false=>exact hb wh pins s1 σ H1 Q I1 q1
theorem zhD(ha:PT X a tA):PT X (.UnaryOp .Not a pos) (tNot tA):=by intro pins s σ H Q I h;exact isTrue_not (ha pins s σ H (λc H1=>Q (!c) H1) I h)
noncomputable def tAndV(ta tb:TE):TE:=λσ H Q=>ta σ H λx H1=>∃c,x=.bl c/\if c=true then tb σ H1 Q else Q (.bl false) H1
noncomputable def tOrV(ta tb:TE):TE:=λσ H Q=>ta σ H λx H1=>∃c,x=.bl c/\if c=true then Q (.bl true) H1 else tb σ H1 Q
theorem zhH{op}{t:TE}(h:PE X a t):PE X (.BoolOp op [a] pos) t:=λpins s σ H Q I hw=>BoolOp_one (h pins s σ H Q I hw)
theorem zjo(ha:PE X a ta)(hb:PE X (.BoolOp .And (b::rest) pos) tb):PE X (.BoolOp .And (a::b::rest) pos) (tAndV ta tb):=by
 intro pins s σ H Q I h;refine BoolOp_and (thn (ha pins s σ H _ I h) λv s1 ⟨x,H1,I1,r1,q1⟩=>?_);obtain⟨c,rfl,q1⟩:=q1
 cases r1
 refine BZ ?_
 cases c with
 |true=>exact hb pins s1 σ H1 Q I1 q1
 |false=>exact⟨.bl false,H1,I1,rfl,q1⟩
theorem pe_or(ha:PE X a ta)(hb:PE X (.BoolOp .Or (b::rest) pos) tb):PE X (.BoolOp .Or (a::b::rest) pos) (tOrV ta tb):=by
 intro pins s σ H Q I h;refine BoolOp_or (thn (ha pins s σ H _ I h) λv s1 ⟨x,H1,I1,r1,q1⟩=>?_);obtain⟨c,rfl,q1⟩:=q1
 cases r1
 refine BZ ?_
 cases c with
 |false=>exact hb pins s1 σ H1 Q I1 q1
 |true=>exact⟨.bl true,H1,I1,rfl,q1⟩
noncomputable def tIf(t:TT)(ta tb:TE):TE:=λσ H Q=>t σ H λc H1=>if c=true then ta σ H1 Q else tb σ H1 Q
theorem zdM{c:Expr}(hc:PT X c tA)(ha:PE X a ta)(hb:PE X b tb):PE X (.IfExp c a b pos) (tIf tA ta tb):=by
 intro pins s σ H Q I h;refine wpAny_IfExp (thn (hc pins s σ H _ I h) λd s1 ⟨H1,I1,q1⟩=>?_)
 cases d with
 |true=>exact ha pins s1 σ H1 Q I1 q1
 |false=>exact hb pins s1 σ H1 Q I1 q1
end
noncomputable def SqL(K:W.Frag)(H:Hp)(a:Addr)(xs:List V):Prop :=
 Rd H a (.lst xs) ∨
  ∃(o:Obj) (its:Array Ac) (n:Nat),K.lookup a=some o/\o.cls=.type "list" /\ o.dict=none/\o.data=.seq its n/\its.size<=sizeLine/\Vals xs its.toList
noncomputable def SqT(K:W.Frag)(H:Hp)(a:Addr)(xs:List V):Prop :=
 Rd H a (.tup xs) ∨
  ∃(o:Obj) (its:Array Ac) (n:Nat),K.lookup a=some o/\o.cls=.type "tuple" /\ o.data=.seq its n/\its.size<=sizeLine/\Vals xs its.toList
noncomputable def absV:Ac->Option V
 |.none=>some .non
 |.bool b=>some (.bl b)
 |.int i _=>some (.int i)
 |.str x _=>some (.str x)
 |.bytes b _=>some (.byt b)
 |.float b _=>some (.flt b)
 |.ref a=>some (.ref a)
 |.type n=>some (.ty n)
 |_=>none
theorem RelV.abs{x:V}{u:Ac}(r:RelV x u):absV u=some x:=by
 cases x with
 |non=>cases r;rfl
 |bl _=>cases r;rfl
 |int _=>obtain⟨t,rfl⟩:=r;rfl
 |str _=>obtain⟨t,rfl⟩:=r;rfl
 |byt _=>obtain⟨t,rfl⟩:=r;rfl
 |flt _=>obtain⟨t,rfl⟩:=r;rfl
 |ref _=>cases r;rfl
 |ty _=>cases r;rfl
theorem RelV.inj{x y:V}{u:Ac}(r:RelV x u)(q:RelV y u):x=y:=AX (r.abs.symm.trans q.abs)
theorem Vals.inj:∀{xs ys:List V}{us:List Ac},Vals xs us->Vals ys us->xs=ys
 |_,_,_,.nil,.nil=>rfl
 |_,_,_,.cons r t,.cons r' t'=>by rw[r.inj r',Vals.inj t t']
section
variable {X:Cx}{pins:List (Addr×Obj)}{σ:St}{H:Hp}{s:Ae}{a:Addr}{xs ys:List V}
theorem SqL.of{K:W.Frag}(h:H a=some (.lst xs)):SqL K H a xs:=.inl (.inl h)
theorem SqT.of{K:W.Frag}(h:H a=some (.tup xs)):SqT K H a xs:=.inl (.inl h)
theorem Inv.list(I:Inv X pins σ H s)(h:SqL X.K H a xs):∃its:List Ac,Vals xs its/\PlainL s.heap a its.toArray/\xs.length<=sizeLine:=by
 rcases h with h |⟨o,its,n,hk,hc,hd,hs,hz,r⟩
 .obtain⟨z,its,n,r,e⟩:=h.ok I.hok;exact⟨its,r,⟨_,n,e,rfl,rfl,rfl⟩,z⟩
 .refine⟨its.toList,r,⟨o,n,I.kIn a o hk,hc,hd,by simpa using hs⟩,?_⟩;have e:=r.length;simp only[AB]at e;lia
theorem Inv.tuple(I:Inv X pins σ H s)(h:SqT X.K H a xs):∃its:List Ac,Vals xs its/\IsTup s.heap a its.toArray/\xs.length<=sizeLine:=by
 rcases h with h |⟨o,its,n,hk,hc,hs,hz,r⟩
 .obtain⟨z,its,r,p⟩:=h.ok I.hok;exact⟨its,r,p,z⟩
 .refine⟨its.toList,r,⟨o,I.kIn a o hk,hc,n,by simpa using hs⟩,?_⟩;have e:=r.length;simp only[AB]at e;lia
theorem Inv.list_inj(I:Inv X pins σ H s)(h:SqL X.K H a xs)(h':SqL X.K H a ys):xs=ys:=by
 obtain⟨its,r,⟨o,n,e,_,_,d⟩,_⟩:=I.list h;obtain⟨its',r',⟨o',n',e',_,_,d'⟩,_⟩:=I.list h';rw[e]at e';cases e';rw[d]at d';injection d' with d1 _;have:its=its':=by simpa using congrArg Array.toList d1
 subst this;exact r.inj r'
theorem Inv.tuple_inj(I:Inv X pins σ H s)(h:SqT X.K H a xs)(h':SqT X.K H a ys):xs=ys:=by
 obtain⟨its,r,⟨o,e,_,n,d⟩,_⟩:=I.tuple h;obtain⟨its',r',⟨o',e',_,n',d'⟩,_⟩:=I.tuple h';rw[e]at e';cases e';rw[d]at d';injection d' with d1 _;have:its=its':=by simpa using congrArg Array.toList d1
 subst this;exact r.inj r'
end
noncomputable abbrev Cx.wish(X:Cx)(E:Ac->Ae->Prop):Cx:={ X with xe:=E }
noncomputable abbrev Cx.nox(X:Cx):Cx:=X.wish λ_ _=>False
theorem Cx.Ok.wish{X:Cx}(ok:X.Ok)(E:Ac->Ae->Prop):(X.wish E).Ok :=
 ⟨ok.mod,ok.kind,ok.glob,ok.blt,ok.above,ok.inj,ok.has,ok.cab,ok.hd,ok.frames,ok.stk,ok.exf,ok.bs,ok.bsz,ok.noex,ok.exfs,ok.funs,ok.frf⟩
theorem Cx.Ok.unwish{X:Cx}{E:Ac->Ae->Prop}(ok:(X.wish E).Ok):X.Ok :=
 ⟨ok.mod,ok.kind,ok.glob,ok.blt,ok.above,ok.inj,ok.has,ok.cab,ok.hd,ok.frames,ok.stk,ok.exf,ok.bs,ok.bsz,ok.noex,ok.exfs,ok.funs,ok.frf⟩
section
variable {X:Cx}{pins:List (Addr×Obj)}{σ:St}{H:Hp}{s:Ae}{E:Ac->Ae->Prop}
theorem Inv.wish(I:Inv X pins σ H s)(E:Ac->Ae->Prop):Inv (X.wish E) pins σ H s:=⟨I.ok.wish E,I.os,I.bare,I.base,I.loc,I.cell,I.free,I.freeC,I.pin,I.hok,I.len⟩
theorem Inv.unwish(I:Inv (X.wish E) pins σ H s):Inv X pins σ H s:=⟨I.ok.unwish,I.os,I.bare,I.base,I.loc,I.cell,I.free,I.freeC,I.pin,I.hok,I.len⟩
theorem SP.unwish{D:Ends}{f:Flow}{s':Ae}(h:SP (X.wish E) pins D f s'):SP X pins D f s':=by
 cases f with
 |next=>obtain⟨σ',H',I,q⟩:=h;exact⟨σ',H',I.unwish,q⟩
 |brk=>obtain⟨σ',H',I,q⟩:=h;exact⟨σ',H',I.unwish,q⟩
 |cont=>obtain⟨σ',H',I,q⟩:=h;exact⟨σ',H',I.unwish,q⟩
 |ret u=>obtain⟨v,σ',H',I,r,q⟩:=h;exact⟨v,σ',H',I.unwish,r,q⟩
theorem PSs.nox{st:List Stmt}{t:TS}(h:PSs X.nox st t):PSs X st t:=λpins s σ H D I hw =>
 BY (h pins s σ H D (I.wish _) hw) (λ_ _ q=>q.unwish) λ_ _ z=>BK z
end
section
variable {X:Cx}{st:Stmt}{rest:List Stmt}{t u:TS}{e:Expr}{te:TE}{pos:Pos}
noncomputable def tNext:TS:=λD σ H=>D.nx σ H
noncomputable def tSeq(t u:TS):TS:=λD σ H=>t { D with nx:=u D } σ H
theorem zaA:PSs X [] tNext:=λ_ _ σ H _ I h=>wpAny_execs_nil ⟨σ,H,I,h⟩
theorem zac(h1:PS X st t)(h2:PSs X rest u):PSs X (st::rest) (tSeq t u):=by
 intro pins s σ H D I h;refine wpAny_execs_cons (thn (h1 pins s σ H { D with nx:=u D } I h) λf s1 q=>?_)
 cases f with
 |next =>
  obtain⟨σ',H',I',q⟩:=q;exact h2 pins s1 σ' H' D I' q
 |ret v=>exact q
 |brk=>exact q
 |cont=>exact q
theorem zaf(h1:PS X st t):PSs X [st] t:=by
 intro pins s σ H D I h;refine wpAny_execs_cons (thn (h1 pins s σ H D I h) λf s1 q=>?_)
 cases f with
 |next=>exact wpAny_execs_nil q
 |ret v=>exact q
 |brk=>exact q
 |cont=>exact q
theorem Inv.quiet{pins:List (Addr×Obj)}{σ:St}{H:Hp}{s:Ae}(I:Inv X pins σ H s):interactive X.env=false:=by simp[interactive,I.ok.kind]
noncomputable def tDrop(te:TE):TS:=λD σ H=>te σ H λ_ H1=>D.nx σ H1
theorem zbq(he:PE X e te)(hs:swapsWith e none pos.line X.env=pure false:=by rfl):PS X (.Expr e pos) (tDrop te):=by intro pins s σ H D I h;exact wpAny_Expr_any (thn (he pins s σ H _ I h) λv s1 ⟨x,H1,I1,r1,q1⟩=>⟨σ,H1,I1,q1⟩) I.quiet hs
noncomputable def tRet(te:TE):TS:=λD σ H=>te σ H D.rt
theorem zal(he:PE X e te):PS X (.Return (some e) pos) (tRet te):=by intro pins s σ H D I h;exact wpAny_Return_some (thn (he pins s σ H _ I h) λv s1 ⟨x,H1,I1,r1,q1⟩=>⟨x,σ,H1,I1,r1,q1⟩)
noncomputable def tIfS(c:TT)(t u:TS):TS:=λD σ H=>c σ H λb H1=>if b=true then t D σ H1 else u D σ H1
theorem ps_if{c:Expr}{a b:List Stmt}{tc:TT}(hc:PT X c tc)(ha:PSs X a t)(hb:PSs X b u):PS X (.If c a b pos) (tIfS tc t u):=by
 intro pins s σ H D I h;refine wpAny_If (thn (hc pins s σ H _ I h) λd s1 ⟨H1,I1,q1⟩=>?_)
 cases d with
 |true=>exact ha pins s1 σ H1 D I1 q1
 |false=>exact hb pins s1 σ H1 D I1 q1
noncomputable def zmo:TS:=λ_ _ _=>False
theorem zdi:PS X st zmo:=λ_ _ _ _ _ _ h=>h.elim
end
noncomputable abbrev TG:=V->St->Hp->(St->Hp->Prop)->Prop
noncomputable abbrev TGs:=List V->St->Hp->(St->Hp->Prop)->Prop
noncomputable def PG(X:Cx)(target:Expr)(t:TG):Prop :=
 ∀(pins:List (Addr×Obj)) (s:Ae) (σ:St) (H:Hp) (v:V) (u:Ac) (Q:St->Hp->Prop),Inv X pins σ H s->RelV v u->t v σ H Q ->
  At (Ay X.prog X.w) X.A (Ds target X.env u) (λ_ s'=>∃ σ' H',Inv X pins σ' H' s'/\Q σ' H') X.xe s
noncomputable def PGs(X:Cx)(ts:List Expr)(t:TGs):Prop :=
 ∀(pins:List (Addr×Obj)) (s:Ae) (σ:St) (H:Hp) (vs:List V) (us:List Ac) (Q:St->Hp->Prop),Inv X pins σ H s->Vals vs us->t vs σ H Q ->
  At (Ay X.prog X.w) X.A (assignInOrder ((DT ts X.env).map (·.2)) us) (λ_ s'=>∃ σ' H',Inv X pins σ' H' s'/\Q σ' H') X.xe s
noncomputable abbrev TSet:=V->V->V->Hp->(Hp->Prop)->Prop
noncomputable def PSet(X:Cx)(t:TSet):Prop :=
 ∀(pins:List (Addr×Obj)) (s:Ae) (σ:St) (H:Hp) (o i v:V) (ov iv u:Ac) (Q:Hp->Prop),Inv X pins σ H s->RelV o ov->RelV i iv->RelV v u->t o i v H Q ->
  At (Ay X.prog X.w) X.A (setItem ov iv u) (λ_ s'=>∃H',Inv X pins σ H' s'/\Q H') X.xe s
noncomputable abbrev TIp:=V->V->Hp->VK->Prop
noncomputable def PIp(X:Cx)(op:Operator)(t:TIp):Prop :=
 ∀(pins:List (Addr×Obj)) (s:Ae) (σ:St) (H:Hp) (x y:V) (v u:Ac) (Q:VK),Inv X pins σ H s->RelV x v->RelV y u->t x y H Q ->
  At (Ay X.prog X.w) X.A (inplaceOp op v u) (EP X pins σ Q) X.xe s
section
variable {X:Cx}{pos:Pos}
noncomputable def gName(i:Nat):TG:=λv σ H Q=>Q (σ.set i (some v)) H
theorem zc3{i:Nat}{x:Str}(hN:X.N.Nodup)(hi:X.N[i]?=some x)(hx:Loc X.env.scope x)(hf:X.fn x=true∨X.env.scope.names.lookup x=some .local:=by first |exact .inl rfl |exact .inr rfl |assumption):PG X (.Name x pos) (gName i):=by intro pins s σ H v u Q I r h;exact wpAny_assign_Name (zfc I hN hi hx r (λs' I'=>⟨_,H,I',h⟩) hf)
noncomputable def gNil:TGs:=λvs σ H Q=>vs=[]/\Q σ H
noncomputable def gCons(t:TG)(u:TGs):TGs:=λvs σ H Q=>∃v r,vs=v::r/\t v σ H λσ' H'=>u r σ' H' Q
theorem zas:PGs X [] gNil:=by
 intro pins s σ H vs us Q I r h;obtain⟨e,h⟩:=h;subst e
 cases r
 exact assignInOrder_nil ⟨σ,H,I,h⟩
theorem zag{e:Expr}{es:List Expr}{t:TG}{u:TGs}(h1:PG X e t)(h2:PGs X es u)
  (hs:(DT (e::es) X.env).map (·.2)=Ds e X.env::(DT es X.env).map (·.2):=by rfl):PGs X (e::es) (gCons t u):=by
 intro pins s σ H vs us Q I r h;obtain⟨v,vr,e1,h⟩:=h;subst e1
 cases r with
 |cons r rr =>
  rw[hs];refine assignInOrder_cons (thn (h1 pins s σ H _ _ _ I r h) λ_ s1 ⟨σ1,H1,I1,q1⟩=>?_);exact h2 pins s1 σ1 H1 _ _ Q I1 rr q1
noncomputable def gTup(K:W.Frag)(n:Nat)(t:TGs):TG:=λv σ H Q=>∃a xs,v=.ref a/\SqT K H a xs/\xs.length=n/\t xs σ H Q
theorem za8{es:List Expr}{k:Nat}{t:TGs}{n:Nat}(hc:X.calm=true)(h:PGs X es t)
  (hn:(DT es X.env).length=n:=by rfl) (hst:(DT es X.env).findIdx? (·.1)=none:=by rfl):PG X (.Tuple es k pos) (gTup X.K n t):=by
 intro pins s σ H v u Q I r hw;obtain⟨a,xs,e1,hq,hl,hw⟩:=hw;subst e1
 cases r
 obtain⟨its,rv,ht,hz⟩:=I.tuple hq;refine assign_Tuple_tuple (I.ok.hd hc) ht (by simp[hn,<- hl,rv.length]) hst λh' hx=>?_
 have I1:Inv X pins σ H { s with heap:=h' }:=I.kept (t':=s.toks) λb o e=>hx b o (A4 (AA e)) e
 exact h pins _ σ H xs _ Q I1 (by simpa using rv) hw
noncomputable def gSub(to ti:TE)(t:TSet):TG:=λv σ H Q=>to σ H λo H1=>ti σ H1 λi H2=>t o i v H2 λH3=>Q σ H3
theorem zlk{o i:Expr}{to ti:TE}{t:TSet}(ho:PE X o to)(hi:PE X i ti)(hs:PSet X t)
  (ha:∀v,Ds (.Subscript o i pos) X.env v=(do
   let ov <- DP [v] (eval o X.env)
   let iv <- DP [v,ov] (eval i X.env)
   standAt pos
   DP [v,ov,iv] (setItem ov iv v)
   release [v,ov,iv] []):=by intro _;rfl):PG X (.Subscript o i pos) (gSub to ti t):=by
 intro pins s σ H v u Q I r h;rw[ha];refine Ab (Bo (thn (ho pins s σ H _ I h) λov s1 ⟨x,H1,I1,r1,q1⟩=>?_));refine Ab (Bo (thn (hi pins s1 σ H1 _ I1 q1) λiv s2 ⟨y,H2,I2,r2,q2⟩=>?_));refine Ab (CB (Ab (Bo (thn (hs pins s2 σ H2 x y v ov iv u _ I2 r1 r2 r q2) λ_ s3 ⟨H3,I3,q3⟩=>?_))));exact wpAny_release ⟨σ,H3,I3,q3⟩
noncomputable def tAsg(te:TE)(g:TG):TS:=λD σ H=>te σ H λx H1=>g x σ H1 D.nx
theorem zbm{tg e:Expr}{te:TE}{g:TG}(he:PE X e te)(hg:PG X tg g)(hs:swapsWithSole [tg] e pos.line X.env=pure false := by rfl)(hw:swappedStores [tg] e X.env=pure none := by rfl)
  (h1:(DT [tg] X.env).map (·.2)=[Ds tg X.env]:=by rfl):PS X (.Assign [tg] e pos) (tAsg te g):=by
 intro pins s σ H D I h;refine wpAny_Assign_stores (thn (he pins s σ H _ I h) λv s1 ⟨x,H1,I1,r1,q1⟩=>?_) hs hw;rw[h1];exact thn (hg pins s1 σ H1 x v _ I1 r1 q1) λ_ s2 q=>q
theorem zgk{i:Nat}{x:Str}{e:Expr}{te:TE}{pos':Pos}(hN:X.N.Nodup)(hi:X.N[i]? = some x)(hx:Loc X.env.scope x)(he:PE X e te)(hs:swapsWith e (some (.Name x pos')) pos.line X.env=pure false := by rfl)(hf:X.fn x=true ∨ X.env.scope.names.lookup x=some .local := by first |exact .inl rfl |exact .inr rfl |assumption) :
  PS X (.Assign [.Name x pos'] e pos) (tAsg te (gName i)):=by
 intro pins s σ H D I h;refine wpAny_Assign_Name (thn (he pins s σ H _ I h) λv s1 ⟨y,H1,I1,r1,q1⟩=>?_) hs;exact zfc I1 hN hi hx r1 (λs2 I2=>⟨_,H1,I2,q1⟩) hf
noncomputable def tAug(i:Nat)(te:TE)(ti:TIp):TS:=λD σ H=>∃x,σ[i]?=some (some x)/\te σ H λy H1=>ti x y H1 λz H2=>D.nx (σ.set i (some z)) H2
theorem zmF{i:Nat}{x:Str}{e:Expr}{te:TE}{op:Operator}{ti:TIp}{pos':Pos}(hN:X.N.Nodup)(hi:X.N[i]? = some x)(hx:Loc X.env.scope x)(he:PE X e te)(ho:PIp X op ti)(hf:X.fn x=true ∨ X.env.scope.names.lookup x=some .local := by first |exact .inl rfl |exact .inr rfl |assumption) :
  PS X (.AugAssign (.Name x pos') op e pos) (tAug i te ti):=by
 intro pins s σ H D I h;obtain⟨v,e1,h⟩:=h;obtain⟨m,hn,hl⟩:=I.loc;have vis:Vis X.env.scope x:=by rcases hx with k |k;exact .inl k;exact .inr (.inl k)
 obtain⟨u,r,l⟩:=hl i x v hi e1 vis;refine wpAny_AugAssign_Name ?_
 have go:At (Ay X.prog X.w) X.A (eval e X.env) (λw s₂=>At (Ay X.prog X.w) X.A (inplaceOp op u w) (λr s₃=>At (Ay X.prog X.w) X.A (storeName X.env x r) (λ_=>SP X pins D .next) X.xe s₃) X.xe s₂) X.xe s:=by
  refine thn (he pins s σ H _ I h) λw s1 ⟨y,H1,I1,r1,q1⟩=>?_
  refine thn (ho pins s1 σ H1 v y u w _ I1 r r1 q1) λz s2 ⟨zv,H2,I2,r2,q2⟩=>?_
  exact zfc I2 hN hi hx r2 (λs3 I3=>⟨_,H2,I3,q2⟩) hf
 rcases l with⟨hk,hm⟩ |⟨hk,c,hc,hcell⟩
 .exact wpAny_loadName_local I.ok.kind hk hn hm go
 .rcases hk with hk |hk
  .exact wpAny_loadName_cell I.ok.kind hk hc hcell go
  .rcases hx with k |k
   .have:X.env.scope.names.lookup x=some .free:=hk;rw[k]at this;cases this
   .have:X.env.scope.names.lookup x=some .free:=hk;rw[k]at this;cases this
noncomputable def ipI(f:Int->Int->Int):TIp:=λx y H Q=>∃i j,x=.int i/\y=.int j/\Q (.int (f i j)) H
theorem zmV:PIp X .Add (ipI λi j=>i+j):=by intro pins s σ H x y v u Q I r1 r2 h;obtain⟨i,j,e1,e2,q⟩:=h;subst e1;subst e2;obtain⟨t,rfl⟩:=r1;obtain⟨t',rfl⟩:=r2;exact iadd_int ⟨.int _,H,I.tok _,⟨_,rfl⟩,q⟩
end
section
variable {X:Cx}{pos:Pos}
noncomputable def zk5(c:TT)(tb:TS):TS:=λD σ H=>∃W:Nat->St->Hp->Prop,(∃m,W m σ H)/\∀m σ H,W m σ H ->
 c σ H λb H1=>if b=true then ∃N:St->Hp->Prop,(∀ σ' H',N σ' H'->∃m',m'<m/\W m' σ' H')/\tb { D with nx:=N,ct:=N,bk:=D.nx } σ H1 else D.nx σ H1
theorem zhF{c:Expr}{body:List Stmt}{tc:TT}{tb:TS}(hp:PassesOwn (Ay X.prog X.w) X.A X.env X.xe)(hc:PT X c tc)(hb:PSs X body tb):PS X (.While c body [] pos) (zk5 tc tb):=by
 intro pins s σ H D I h;obtain⟨W,⟨m0,w0⟩,turn⟩:=h;refine wpAny_While (codeAny_whileLoop (λn s'=>∃ σ' H',Inv X pins σ' H' s'/\W n σ' H') ?_ m0 ⟨σ,H,I,w0⟩);rintro n s1 ⟨σ1,H1,I1,w1⟩;refine CP hp (thn (hc pins s1 σ1 H1 _ I1 (turn n σ1 H1 w1)) λb s2 ⟨H2,I2,q2⟩=>?_)
 cases b with
 |true =>
  obtain⟨N,hN,q2⟩:=q2;rw[if_pos rfl];refine CP hp (thn (hb pins s2 σ1 H2 _ I2 q2) λf s3 q3=>?_)
  cases f with
  |next =>
   obtain⟨σ3,H3,I3,n3⟩:=q3;obtain⟨m',hm,w3⟩:=hN σ3 H3 n3;exact⟨m',hm,σ3,H3,I3,w3⟩
  |cont =>
   obtain⟨σ3,H3,I3,n3⟩:=q3;obtain⟨m',hm,w3⟩:=hN σ3 H3 n3;exact⟨m',hm,σ3,H3,I3,w3⟩
  |brk=>exact q3
  |ret v=>exact q3
 |false =>
  rw[if_neg AV];exact wpAny_execs_nil ⟨σ1,H2,I2,q2⟩
end
structure It where
 go:Nat->Hp->Prop
 yld:Nat->Hp->V->Hp->Prop
 stop:Nat->Hp->Prop
noncomputable def FpOk(X:Cx)(pins:List (Addr×Obj))(H:Hp)(b:Addr):Prop :=
 H b=none/\b≠X.env.locals/\b ∉ X.fs/\(b∈X.ex∨X.s₀.heap.objs.size<=b)/\(∀x c,X.env.cells.lookup x=some c->c≠b)/\∀p∈X.pn++pins,p.1≠b
theorem Inv.fpOk{X:Cx}{pins:List (Addr×Obj)}{σ:St}{H H':Hp}{s:Ae}{b:Addr}(I:Inv X pins σ H s)(hb:s.heap.objs.size<=b)(hn:H' b=none):FpOk X pins H' b:=by
 refine⟨hn,Nat.ne_of_gt (A8 I.lt hb),I.nofs hb,.inr (AW I.sz hb),λx c e z=>?_,λp hp z=>?_⟩
 .obtain⟨v,q⟩:=I.cell x c e;exact absurd (A8 q.lt (by rw[z];exact hb)) (CA _)
 .exact absurd (A8 (AA (I.pin p hp).1) (by rw[z];exact hb)) (CA _)
structure Turn (P:AR) (w:Be) (K:W.Frag) (tg:Expr) (J:It) (fp:List Addr) (it:Addr) (tn:Nat->Heap->Prop):Prop where
 mem:it∈fp
 obj:∀i h,tn i h->∀b∈fp,∃o,h.get? b=some o/\∀v,o.data≠.cell v
 keep:∀i h h',tn i h->(∀b∈fp,∀o,h.get? b=some o->h'.get? b=some o)->tn i h'
 item:∀(X:Cx),X.prog=P->X.w=w->X.K=K->X.calm=true->∀(i:Nat) (pins:List (Addr×Obj)) (s:Ae) (σ:St) (H:Hp) (E:Ac->Ae->Prop),Inv X pins σ H s->(∀b∈fp,FpOk X pins H b)->tn i s.heap->J.go i H ->
  At (Ay P w) X.A (pyNext (.ref it)) (λr s1=>∃u,r=some u /\
   At (Ay P w) X.A (DQ tg (.ref it) u) (λ_ s2=>∃x H',Inv X pins σ H' s2/\RelV x u/\J.yld i H x H'/\tn (i+1) s2.heap/\∀b∈fp,H' b=none) E s1) E s
 done:∀(X:Cx),X.prog=P->X.w=w->X.K=K->X.calm=true->∀(i:Nat) (pins:List (Addr×Obj)) (s:Ae) (σ:St) (H:Hp) (E:Ac->Ae->Prop),Inv X pins σ H s->(∀b∈fp,FpOk X pins H b)->tn i s.heap->J.stop i H ->
  At (Ay P w) X.A (pyNext (.ref it)) (λr s1=>r=none/\Inv X pins σ H s1) E s
 self:∀(A:A3) (i:Nat) (s:Ae) (Q:Ac->Ae->Prop) (E:Ac->Ae->Prop),tn i s.heap->Q (.ref it) s->At (Ay P w) A (pyIter (.ref it)) Q E s
noncomputable abbrev TI:=St->Hp->(It->Hp->Prop)->Prop
noncomputable def PIE(X:Cx)(pins:List (Addr×Obj))(σ:St)(tg:Expr)(R:It->Hp->Prop)(itv:Ac)(s2:Ae):Prop :=
 ∃(it:Addr) (fp:List Addr) (tn:Nat->Heap->Prop) (J:It) (H':Hp),itv=.ref it/\Inv X pins σ H' s2/\Turn X.prog X.w X.K tg J fp it tn/\tn 0 s2.heap/\(∀b∈fp,FpOk X pins H' b)/\R J H'
noncomputable def PI(X:Cx)(tg iter:Expr)(wi:TI):Prop :=
 ∀(pins:List (Addr×Obj)) (s:Ae) (σ:St) (H:Hp) (R:It->Hp->Prop),Inv X pins σ H s->wi σ H R ->
  At (Ay X.prog X.w) X.A (eval iter X.env) (λv s1=>At (Ay X.prog X.w) X.A (pyIter v) (PIE X pins σ tg R) X.xe s1) X.xe s
theorem go_of {M : Model}{A : A3}{E : Ac → Ae → Prop}{s : Ae}{tg : Expr}{it : Addr}{u : Ac}{o : Obj}{n : String}{vs : Array Ac}{Q : Unit → Ae → Prop}(ho : s.heap.get? it = some o) (hc : o.cls = .type n) (hd : o.data = .fields vs)
    (hn:["enumerate","zip","dict_itemiterator","dict_reverseitemiterator","odict_iterator","itertools.zip_longest","itertools.pairwise"].contains n=false) (hQ:Q () s):At M A (DQ tg (.ref it) u) Q E s:=by
  unfold DQ
  cases tg <;> first
    | exact Af hQ
    | (cases u <;> first
        | exact Af hQ
        | (refine Ab (wpAny_load ho ?_)
           rw[hc,hd]
           show At M A (if (["enumerate","zip","dict_itemiterator","dict_reverseitemiterator","odict_iterator","itertools.zip_longest","itertools.pairwise"].contains n && vs[0]? == some (rawInt _))=true then _ else _) Q E s
           rw[if_neg (by intro h;rw[hn,Bool.false_and] at h;cases h)]
           exact Af hQ))
noncomputable def Itl(K:W.Frag)(a:Addr):It :=
 ⟨λi H=>∃xs x,SqL K H a xs/\xs[i]?=some x,λi H x H'=>H'=H/\∀xs,SqL K H a xs->xs[i]?=some x,λi H=>∃xs,SqL K H a xs/\xs.length<=i⟩
noncomputable def Itt(K:W.Frag)(a:Addr):It :=
 ⟨λi H=>∃xs x,SqT K H a xs/\xs[i]?=some x,λi H x H'=>H'=H/\∀xs,SqT K H a xs->xs[i]?=some x,λi H=>∃xs,SqT K H a xs/\xs.length<=i⟩
noncomputable def Itr(lo:Int)(n:Nat):It:=⟨λi _=>i<n,λi H x H'=>H'=H/\x=.int (lo+i),λi _=>n<=i⟩
theorem ziS{P:AR}{w:Be}{K:W.Frag}{tg:Expr}(a it:Addr):Turn P w K tg (Itl K a) [it] it (λi h=>h.IsListIter it a i) where
 mem:=by simp
 obj:=λi h st b hb=>by
  have e:b=it:=by simpa using hb
  subst e;obtain⟨o,e,c,d⟩:=st;exact⟨o,e,λv z=>by rw[d]at z;cases z⟩
 keep:=λi h h' st k=>st.at λo e=>k it (by simp) o e
 item:=by
  intro X hP hw hK hc i pins s σ H E I hf st hg;subst hP hw hK;obtain⟨xs,x,hq,hx⟩:=hg;obtain⟨its,rv,p,hz⟩:=I.list hq;obtain⟨u,hu,ru⟩:=rv.get hx;obtain⟨f0,f1,f2,f3,f4,f5⟩:=hf it (by simp);refine wpAny_pyNext_list_item st p.isList (x:=u) (by simpa using hu) λh' st' sb=>?_
  have I1:Inv X pins σ H { s with heap:=h' }:=I.turned (t':=s.toks) (λb o hb e=>(sb.2 b hb).trans e) f0 f1 f3 f4 f5;obtain⟨o,e,c,d⟩:=id st';exact⟨u,rfl,go_of (s:={ s with heap:=h' }) e c d (by decide) ⟨x,H,I1,ru,⟨rfl,λys hy=>by rw[I.list_inj hy hq];exact hx⟩,st',λb hb=>(hf b hb).1⟩⟩
 done:=by intro X hP hw hK hc i pins s σ H E I hf st hg;subst hP hw hK;obtain⟨xs,hq,hx⟩:=hg;obtain⟨its,rv,p,hz⟩:=I.list hq;obtain⟨f0,f1,f2,f3,f4,f5⟩:=hf it (by simp);have hl:=rv.length;exact wpAny_pyNext_list_end (I.ok.hd hc) st p.isList (by simp;lia) λh' eb=>⟨rfl,I.turned (t':=s.toks) (λb o hb e=>eb b o hb e) f0 f1 f3 f4 f5⟩
 self:=λ_ _ _ _ _ st h=>wpAny_pyIter_listiter st h
theorem zim{P:AR}{w:Be}{K:W.Frag}{tg:Expr}(a it:Addr):Turn P w K tg (Itt K a) [it] it (λi h=>h.IsTupleIter it a i) where
 mem:=by simp
 obj:=λi h st b hb=>by
  have e:b=it:=by simpa using hb
  subst e;obtain⟨o,e,c,d⟩:=st;exact⟨o,e,λv z=>by rw[d]at z;cases z⟩
 keep:=λi h h' st k=>st.at λo e=>k it (by simp) o e
 item:=by
  intro X hP hw hK hc i pins s σ H E I hf st hg;subst hP hw hK;obtain⟨xs,x,hq,hx⟩:=hg;obtain⟨its,rv,p,hz⟩:=I.tuple hq;obtain⟨u,hu,ru⟩:=rv.get hx;obtain⟨f0,f1,f2,f3,f4,f5⟩:=hf it (by simp);refine wpAny_pyNext_tuple_item st (show s.heap.IsTuple a its.toArray from p) (x:=u) (by simpa using hu) λh' st' sb=>?_
  have I1:Inv X pins σ H { s with heap:=h' }:=I.turned (t':=s.toks) (λb o hb e=>(sb.2 b hb).trans e) f0 f1 f3 f4 f5;obtain⟨o,e,c,d⟩:=id st';exact⟨u,rfl,go_of (s:={ s with heap:=h' }) e c d (by decide) ⟨x,H,I1,ru,⟨rfl,λys hy=>by rw[I.tuple_inj hy hq];exact hx⟩,st',λb hb=>(hf b hb).1⟩⟩
 done:=by intro X hP hw hK hc i pins s σ H E I hf st hg;subst hP hw hK;obtain⟨xs,hq,hx⟩:=hg;obtain⟨its,rv,p,hz⟩:=I.tuple hq;obtain⟨f0,f1,f2,f3,f4,f5⟩:=hf it (by simp);have hl:=rv.length;exact wpAny_pyNext_tuple_end (I.ok.hd hc) st (show s.heap.IsTuple a its.toArray from p) (by simp;lia) λh' eb=>⟨rfl,I.turned (t':=s.toks) (λb o hb e=>eb b o hb e) f0 f1 f3 f4 f5⟩
 self:=λ_ _ _ _ _ st h=>wpAny_pyIter_tupleiter st h
theorem zin{P:AR}{w:Be}{K:W.Frag}{tg:Expr}(it:Addr)(lo:Int)(n:Nat):Turn P w K tg (Itr lo n) [it] it (λi h=>IsRangeIter h it (lo+(i:Nat)*1) ((n:Int)-(i:Nat)) 1) where
 mem:=by simp
 obj:=λi h st b hb=>by
  have e:b=it:=by simpa using hb
  subst e
  exact⟨_,st,λv z=>by
   have z':Data.fields _=Data.cell v:=z
   cases z'⟩
 keep:=λi h h' st k=>k it (by simp) _ st
 item:=by
  intro X hP hw hK hc i pins s σ H E I hf st hg;subst hP hw hK;obtain⟨f0,f1,f2,f3,f4,f5⟩:=hf it (by simp);have W:=Walks.range (prog:=X.prog) (w:=X.w) (I.ok.hd hc) it lo 1 n;refine W.item i s _ _ hg st λv h' tk hv st' kk=>?_
  obtain⟨t,rfl⟩:=hv;have I1:Inv X pins σ H { s with heap:=h',toks:=tk }:=I.turned (λb o hb e=>kk b o (by simpa using hb) e) f0 f1 f3 f4 f5;refine⟨_,rfl,go_of (s:={ s with heap:=h',toks:=tk }) (n:="range_iterator") st' rfl rfl (by decide) ⟨.int (lo+i),H,I1,⟨t,?_⟩,⟨rfl,rfl⟩,st',λb hb=>(hf b hb).1⟩⟩;rw[Int.mul_one]
 done:=by intro X hP hw hK hc i pins s σ H E I hf st hg;subst hP hw hK;obtain⟨f0,f1,f2,f3,f4,f5⟩:=hf it (by simp);exact wpAny_pyNext_range_end (I.ok.hd hc) st (by have:n<=i:=hg;lia) λh' eb=>⟨rfl,I.turned (t':=s.toks) (λb o hb e=>eb b o hb e) f0 f1 f3 f4 f5⟩
 self:=λ_ _ _ _ _ st h=>wpAny_pyIter_rangeiter st h
section
variable {X:Cx}{tg:Expr}
noncomputable def iList(K:W.Frag)(tl:TE):TI:=λσ H R=>tl σ H λx H1=>∃a,x=.ref a/\(∃xs,SqL K H1 a xs)/\R (Itl K a) H1
noncomputable def iTup(K:W.Frag)(tl:TE):TI:=λσ H R=>tl σ H λx H1=>∃a,x=.ref a/\(∃xs,SqT K H1 a xs)/\R (Itt K a) H1
theorem zaB{l:Expr}{tl:TE}(hl:PE X l tl):PI X tg l (iList X.K tl):=by
 intro pins s σ H R I h;refine thn (hl pins s σ H _ I h) λv s1 ⟨x,H1,I1,r1,q1⟩=>?_
 obtain⟨a,e,⟨xs,hq⟩,q⟩:=q1;subst e
 cases r1
 obtain⟨its,rv,p,hz⟩:=I1.list hq;refine wpAny_pyIter_list p.isList ?_
 refine⟨s1.heap.objs.size,[s1.heap.objs.size],_,_,H1,rfl,I1.kept (t':=s1.toks) λb o e=>Ag _ e,ziS a _,⟨_,AF _ rfl,rfl,rfl⟩,λb hb=>?_,q⟩;have e:b=s1.heap.objs.size:=by simpa using hb
 subst e;exact I1.fpOk (Am _) (I1.hok.fresh (Am _))
theorem zjk{l:Expr}{tl:TE}(hl:PE X l tl):PI X tg l (iTup X.K tl):=by
 intro pins s σ H R I h;refine thn (hl pins s σ H _ I h) λv s1 ⟨x,H1,I1,r1,q1⟩=>?_
 obtain⟨a,e,⟨xs,hq⟩,q⟩:=q1;subst e
 cases r1
 obtain⟨its,rv,p,hz⟩:=I1.tuple hq;refine wpAny_pyIter_tuple (show s1.heap.IsTuple a its.toArray from p) ?_
 refine⟨s1.heap.objs.size,[s1.heap.objs.size],_,_,H1,rfl,I1.kept (t':=s1.toks) λb o e=>Ag _ e,zim a _,⟨_,AF _ rfl,rfl,rfl⟩,λb hb=>?_,q⟩;have e:b=s1.heap.objs.size:=by simpa using hb
 subst e;exact I1.fpOk (Am _) (I1.hok.fresh (Am _))
theorem zhC{pins:List (Addr × Obj)}{σ : St}{H:Hp}{s:Ae}{R:It -> Hp -> Prop}{E:Ac -> Ae -> Prop}{lo hi:Int}{t u v:Tok}{tk:Nat}(I:Inv X pins σ H s)(h1 : -(2 ^ 62) <= lo)(h2:lo < 2 ^ 62)(h3 : -(2 ^ 62) <= hi)(h4:hi < 2 ^ 62)
  (q:R (Itr lo (hi-lo).toNat) H):At (Ay X.prog X.w) X.A (pyIter (.ref s.heap.objs.size)) (PIE X pins σ tg R) E { s with heap:=s.heap.push { cls:=.type "range",data:=.fields #[.int lo t,.int hi u,.int 1 v] },toks:=tk }:=by
 refine wpAny_pyIter_range (IsRange.new ..) (small_one h1 h2 h3 h4) ?_
 have I1:Inv X pins σ H { s with heap:=s.heap.push { cls:=.type "range",data:=.fields #[.int lo t,.int hi u,.int 1 v] },toks:=tk }:=I.kept λb o e=>Ag _ e
 refine⟨(s.heap.push { cls:=.type "range",data:=.fields #[.int lo t,.int hi u,.int 1 v] }).objs.size,[(s.heap.push { cls:=.type "range",data:=.fields #[.int lo t,.int hi u,.int 1 v] }).objs.size],_,_,H,rfl,
  I1.kept (t':=tk) λb o e=>Ag _ e,zin _ lo (hi-lo).toNat,?_,λb hb=>?_,q⟩
 .have e1:lo+((0:Nat):Int)*1=lo:=by simp
  have e2:(((hi-lo).toNat:Nat):Int)-((0:Nat):Int)=Builtin.Range.rangeSize lo hi 1:=by rw[rangeSize_one];split <;> lia
  show IsRangeIter _ _ (lo+((0:Nat):Int)*1) ((((hi-lo).toNat:Nat):Int)-((0:Nat):Int)) 1;rw[e1,e2];exact AF _ rfl
 .have e:b=(s.heap.push { cls:=.type "range",data:=.fields #[.int lo t,.int hi u,.int 1 v] }).objs.size:=by simpa using hb
  subst e;exact I1.fpOk (Am _) (I1.hok.fresh (Am _))
noncomputable def iRng1(ta:TA):TI:=λσ H R=>ta σ H λvs H1=>∃j:Int,vs=[.int j]/\-(2 ^ 62)<=j/\j<2 ^ 62/\R (Itr 0 j.toNat) H1
noncomputable def iRng2(ta:TA):TI:=λσ H R=>ta σ H λvs H1=>∃i j:Int,vs=[.int i,.int j]/\(-(2 ^ 62)<=i/\i<2 ^ 62/\-(2 ^ 62)<=j/\j<2 ^ 62)/\R (Itr i (j-i).toNat) H1
theorem zbR {a:Expr}{ta:TA}{p pos:Pos}(hg:Gl X "range") (hm:X.mg "range" = none) (ha:PA X [a] ta) (hs:Bx [a] X.env=[(false,eval a X.env)]:=by rfl):PI X tg (.Call (.Name "range" p) [a] [] pos) (iRng1 ta):=by
 intro pins s σ H R I h;refine Call_ (zeZ I hg hm boot_range (Dl (thn (ha pos pins s σ H _ I h) λus s1 ⟨vs,H1,I1,r1,q1⟩=>?_) hs rfl));obtain⟨j,e,q1,q2,q⟩:=q1;subst e
 cases r1 with
 |cons r rr =>
  cases rr
  obtain⟨t,rfl⟩:=r;exact call_range_1 (zhC I1 (by lia) (by lia) q1 q2 (by simpa using q))
theorem zjl {a b:Expr}{ta:TA}{p pos:Pos}(hg:Gl X "range") (hm:X.mg "range" = none) (ha:PA X [a, b] ta) (hs:Bx [a, b] X.env = [(false, eval a X.env), (false, eval b X.env)] := by rfl) (hs2:Bx [b] X.env = [(false, eval b X.env)] := by rfl) :
  PI X tg (.Call (.Name "range" p) [a,b] [] pos) (iRng2 ta):=by
 intro pins s σ H R I h;refine Call_ (zeZ I hg hm boot_range (Dl (thn (ha pos pins s σ H _ I h) λus s1 ⟨vs,H1,I1,r1,q1⟩=>?_) (by rw[hs,hs2]) (by rw[hs2];rfl)));obtain⟨i,j,e,⟨q1,q2,q3,q4⟩,q⟩:=q1;subst e
 cases r1 with
 |cons r rr =>
  cases rr with
  |cons r' rr =>
   cases rr
   obtain⟨t,rfl⟩:=r;obtain⟨t',rfl⟩:=r';exact call_range_2 (zhC I1 q1 q2 q3 q4 q)
noncomputable def tFor(wi:TI)(g:TG)(tb:TS):TS:=λD σ H=>wi σ H λJ H1=>∃W:Nat->Nat->St->Hp->Prop,(∃m,W 0 m σ H1)/\∀i m σ H,W i m σ H ->
 (J.stop i H/\D.nx σ H)∨(J.go i H/\∃N:St->Hp->Prop,(∀ σ' H',N σ' H'->∃m',m'<m/\W (i+1) m' σ' H')/\∀x H',J.yld i H x H'->g x σ H' λσ2 H2=>tb { D with nx:=N,ct:=N,bk:=D.nx } σ2 H2)
noncomputable def zdA(fp:List Addr)(h:Heap):List (Addr×Obj):=fp.filterMap λb=>(h.get? b).map λo=>(b,o)
theorem za4{fp:List Addr}{h:Heap}{b:Addr}{o:Obj}(hb:b∈fp)(e:h.get? b=some o):(b,o)∈zdA fp h:=List.mem_filterMap.mpr ⟨b,hb,by rw[e];rfl⟩
theorem zju{fp:List Addr}{h:Heap}{p:Addr×Obj}(hp:p∈zdA fp h):p.1∈fp/\h.get? p.1=some p.2:=by
 obtain⟨b,hb,e⟩:=List.mem_filterMap.mp hp
 cases q:h.get? b with
 |none=>rw[q]at e;cases e
 |some o =>
  rw[q]at e;have e':(b,o)=p:=AX e;subst e';exact⟨hb,q⟩
theorem Inv.pinned{pins:List (Addr×Obj)}{σ:St}{H:Hp}{s:Ae}{fp:List Addr}(I:Inv X pins σ H s)(hf:∀b∈fp,FpOk X pins H b)(ho:∀b∈fp,∃o,s.heap.get? b=some o/\∀v,o.data≠.cell v):Inv X (pins++zdA fp s.heap) σ H s :=
 I.pins_of λp hp=>(AH.mp hp).elim (λz=>I.pin p (As _ z)) λz=>by obtain⟨hb,e⟩:=zju z;obtain⟨f0,f1,f2,_⟩:=hf p.1 hb;obtain⟨o,e',d⟩:=ho p.1 hb;rw[e]at e';cases e';exact⟨e,f0,f1,f2,d⟩
theorem Inv.unpinned{pins pl:List (Addr×Obj)}{σ:St}{H:Hp}{s:Ae}(I:Inv X (pins++pl) σ H s):Inv X pins σ H s:=I.pins_of λp hp=>I.pin p (As _ (BH _ hp))
theorem zbG{iter:Expr}{body:List Stmt}{wi:TI}{g:TG}{tb:TS}{pos:Pos}(hp:PassesOwn (Ay X.prog X.w) X.A X.env X.xe)(hc:X.calm=true)(hi:PI X tg iter wi)(hg:PG X tg g)(hb:PSs X body tb)
  (hs:∀x,Bm iter X.env x=pure x:=by intro _;rfl):PS X (.For tg iter body [] pos) (tFor wi g tb):=by
 intro pins s σ H D I h;refine wpAny_For (thn (hi pins s σ H _ I h) λv s1 h1=>thn h1 λitv s2 h2=>?_) hs;obtain⟨it,fp,tn,J,H2,e,I2,T,st2,f2,W,⟨m0,w0⟩,turn⟩:=h2;subst e;have stat:∀{H':Hp},(∀b∈fp,H' b=none)->∀b∈fp,FpOk X pins H' b:=λhn b hb=>⟨hn b hb,(f2 b hb).2⟩
 refine codeAny_forLoop_any (λn s'=>∃i σ' H',Inv X pins σ' H' s'/\tn i s'.heap/\(∀b∈fp,H' b=none)/\W i n σ' H') ?_ m0 ⟨0,σ,H2,I2,st2,λb hb=>(f2 b hb).1,w0⟩;rintro n s3 ⟨i,σ3,H3,I3,st3,fr3,w3⟩;rcases turn i n σ3 H3 w3 with⟨stop,qn⟩ |⟨go,N,hN,step⟩
 .refine CP hp (thn (T.done X rfl rfl rfl hc i pins s3 σ3 H3 X.xe I3 (stat fr3) st3 stop) λr s4 ⟨hr,I4⟩=>?_);subst hr;exact wpAny_execs_nil ⟨σ3,H3,I4,qn⟩
 .refine CP hp (thn (T.item X rfl rfl rfl hc i pins s3 σ3 H3 X.xe I3 (stat fr3) st3 go) λr s4 ⟨u,hr,h4⟩=>?_);subst hr;refine CP hp (thn h4 λ_ s5 ⟨x,H5,I5,r5,y5,st5,fr5⟩=>?_);have I5':=I5.pinned (stat fr5) (T.obj _ _ st5);refine CP hp (thn (hg _ s5 σ3 H5 x u _ I5' r5 (step x H5 y5)) λ_ s6 ⟨σ6,H6,I6,q6⟩=>?_);refine CP hp (thn (hb _ s6 σ6 H6 _ I6 q6) λf s7 q7=>?_)
  have again:∀{σ7:St} {H7:Hp},Inv X (pins++zdA fp s5.heap) σ7 H7 s7->N σ7 H7->∃m,m<n/\∃i σ' H',Inv X pins σ' H' s7/\tn i s7.heap/\(∀b∈fp,H' b=none)/\W i m σ' H':=λ{σ7 H7} I7 n7=>by obtain⟨m',hm,w7⟩:=hN σ7 H7 n7;refine⟨m',hm,i+1,σ7,H7,I7.unpinned,T.keep _ _ _ st5 λb hb o e=>(I7.pin (b,o) (As _ (As _ (za4 hb e)))).1,λb hb=>?_,w7⟩;obtain⟨o,e,d⟩:=T.obj _ _ st5 b hb;exact (I7.pin (b,o) (As _ (As _ (za4 hb e)))).2.1
  cases f with
  |next=>obtain⟨σ7,H7,I7,n7⟩:=q7;exact again I7 n7
  |cont=>obtain⟨σ7,H7,I7,n7⟩:=q7;exact again I7 n7
  |brk=>obtain⟨σ7,H7,I7,q7⟩:=q7;exact⟨σ7,H7,I7.unpinned,q7⟩
  |ret v=>obtain⟨x7,σ7,H7,I7,r7,q7⟩:=q7;exact⟨x7,σ7,H7,I7.unpinned,r7,q7⟩
end
theorem zar{K:W.Frag}{a:Addr}{xs:List V}{g:TG}{tb:TS}{D:Ends}{σ : St}{H:Hp}(Pv:Nat -> St -> Hp -> Prop)(h0:Pv 0 σ H)(hl:∀i σ H, i <= xs.length -> Pv i σ H -> SqL K H a xs)
  (hs:∀i x σ H,xs[i]?=some x->Pv i σ H->g x σ H λσ2 H2=>tb { D with nx:=Pv (i+1),ct:=Pv (i+1),bk:=D.nx } σ2 H2) (hd:∀ σ H,Pv xs.length σ H->D.nx σ H) :
  ∃W:Nat->Nat->St->Hp->Prop,(∃m,W 0 m σ H)/\∀i m σ H,W i m σ H ->
   ((Itl K a).stop i H/\D.nx σ H)∨((Itl K a).go i H/\∃N:St->Hp->Prop,(∀ σ' H',N σ' H'->∃m',m'<m/\W (i+1) m' σ' H')/\∀x H',(Itl K a).yld i H x H'->g x σ H' λσ2 H2=>tb { D with nx:=N,ct:=N,bk:=D.nx } σ2 H2):=by
 refine⟨λi m σ H=>m=xs.length-i/\i<=xs.length/\Pv i σ H,⟨xs.length,by simp,A9 _,h0⟩,?_⟩;rintro i m σ H ⟨rfl,hi,p⟩;have q:=hl i σ H hi p
 by_cases hlt:i<xs.length
 .refine .inr ⟨⟨xs,xs[i],q,by simp[hlt]⟩,Pv (i+1),λσ' H' p'=>⟨xs.length-(i+1),by lia,rfl,hlt,p'⟩,λx H' y=>?_⟩;obtain⟨e,y⟩:=y;subst e;exact hs i x σ _ (y xs q) p
 .have e:i=xs.length:=by lia
  subst e;exact .inl ⟨⟨xs,q,Am _⟩,hd σ H p⟩
theorem zhd{K:W.Frag}{a:Addr}{xs:List V}{g:TG}{tb:TS}{D:Ends}{σ : St}{H:Hp}(Pv:Nat -> St -> Hp -> Prop)(h0:Pv 0 σ H)(hl:∀i σ H, i <= xs.length -> Pv i σ H -> SqT K H a xs)
  (hs:∀i x σ H,xs[i]?=some x->Pv i σ H->g x σ H λσ2 H2=>tb { D with nx:=Pv (i+1),ct:=Pv (i+1),bk:=D.nx } σ2 H2) (hd:∀ σ H,Pv xs.length σ H->D.nx σ H) :
  ∃W:Nat->Nat->St->Hp->Prop,(∃m,W 0 m σ H)/\∀i m σ H,W i m σ H ->
   ((Itt K a).stop i H/\D.nx σ H)∨((Itt K a).go i H/\∃N:St->Hp->Prop,(∀ σ' H',N σ' H'->∃m',m'<m/\W (i+1) m' σ' H')/\∀x H',(Itt K a).yld i H x H'->g x σ H' λσ2 H2=>tb { D with nx:=N,ct:=N,bk:=D.nx } σ2 H2):=by
 refine⟨λi m σ H=>m=xs.length-i/\i<=xs.length/\Pv i σ H,⟨xs.length,by simp,A9 _,h0⟩,?_⟩;rintro i m σ H ⟨rfl,hi,p⟩;have q:=hl i σ H hi p
 by_cases hlt:i<xs.length
 .refine .inr ⟨⟨xs,xs[i],q,by simp[hlt]⟩,Pv (i+1),λσ' H' p'=>⟨xs.length-(i+1),by lia,rfl,hlt,p'⟩,λx H' y=>?_⟩;obtain⟨e,y⟩:=y;subst e;exact hs i x σ _ (y xs q) p
 .have e:i=xs.length:=by lia
  subst e;exact .inl ⟨⟨xs,q,Am _⟩,hd σ H p⟩
theorem zbC{lo:Int}{n:Nat}{g:TG}{tb:TS}{D:Ends}{σ : St}{H:Hp}(Pv:Nat -> St -> Hp -> Prop)(h0:Pv 0 σ H)
  (hs:∀i σ H,i<n->Pv i σ H->g (.int (lo+i)) σ H λσ2 H2=>tb { D with nx:=Pv (i+1),ct:=Pv (i+1),bk:=D.nx } σ2 H2) (hd:∀ σ H,Pv n σ H->D.nx σ H) :
  ∃W:Nat->Nat->St->Hp->Prop,(∃m,W 0 m σ H)/\∀i m σ H,W i m σ H ->
   ((Itr lo n).stop i H/\D.nx σ H)∨((Itr lo n).go i H/\∃N:St->Hp->Prop,(∀ σ' H',N σ' H'->∃m',m'<m/\W (i+1) m' σ' H')/\∀x H',(Itr lo n).yld i H x H'->g x σ H' λσ2 H2=>tb { D with nx:=N,ct:=N,bk:=D.nx } σ2 H2):=by
 refine⟨λi m σ H=>m=n-i/\i<=n/\Pv i σ H,⟨n,by simp,A9 _,h0⟩,?_⟩;rintro i m σ H ⟨rfl,hi,p⟩
 by_cases hlt:i<n
 .refine .inr ⟨hlt,Pv (i+1),λσ' H' p'=>⟨n-(i+1),by lia,rfl,hlt,p'⟩,λx H' y=>?_⟩;obtain⟨e,y⟩:=y;subst e y;exact hs i σ _ hlt p
 .have e:i=n:=by lia
  subst e;exact .inl ⟨Am _,hd σ H p⟩
theorem zkg{c:TT}{tb:TS}{D:Ends}{σ : St}{H:Hp}(Pv:St -> Hp -> Prop)(μ : St -> Hp -> Nat)(h0:Pv σ H)
  (hs:∀ σ H,Pv σ H->c σ H λb H1=>if b=true then tb { D with nx:=λσ' H'=>Pv σ' H'/\μ σ' H'<μ σ H,ct:=λσ' H'=>Pv σ' H'/\μ σ' H'<μ σ H,bk:=D.nx } σ H1 else D.nx σ H1)
  (mono:∀ σ H Q Q',(∀b H1,Q b H1->Q' b H1)->c σ H Q->c σ H Q'):zk5 c tb D σ H:=by
 refine⟨λm σ H=>m=μ σ H/\Pv σ H,⟨_,rfl,h0⟩,?_⟩;rintro m σ H ⟨rfl,p⟩;refine mono σ H _ _ (λb H1 q=>?_) (hs σ H p)
 cases b with
 |true=>exact⟨_,λσ' H' ⟨p',l⟩=>⟨_,l,rfl,p'⟩,q⟩
 |false=>exact q
noncomputable abbrev R2:=V->V->Hp->VK->Prop
noncomputable def OpR(X:Cx)(f:Ac->Ac->Sem Ac)(r:R2):Prop :=
 ∀(pins:List (Addr×Obj)) (s:Ae) (σ:St) (H:Hp) (x y:V) (v u:Ac) (Q:VK),Inv X pins σ H s->RelV x v->RelV y u->r x y H Q ->
  At (Ay X.prog X.w) X.A (f v u) (EP X pins σ Q) X.xe s
noncomputable def UnR(X:Cx)(f:Ac->Sem Ac)(r:V->Hp->VK->Prop):Prop :=
 ∀(pins:List (Addr×Obj)) (s:Ae) (σ:St) (H:Hp) (x:V) (v:Ac) (Q:VK),Inv X pins σ H s->RelV x v->r x H Q ->
  At (Ay X.prog X.w) X.A (f v) (EP X pins σ Q) X.xe s
noncomputable def CallR(X:Cx)(f:Ac)(r:List V->Hp->VK->Prop):Prop :=
 ∀(pins:List (Addr×Obj)) (s:Ae) (σ:St) (H:Hp) (xs:List V) (us:List Ac) (Q:VK),Inv X pins σ H s->Vals xs us->r xs H Q ->
  At (Ay X.prog X.w) X.A (call f us) (EP X pins σ Q) X.xe s
noncomputable def TruR(X:Cx)(r:V->Hp->(Bool->Hp->Prop)->Prop):Prop :=
 ∀(pins:List (Addr×Obj)) (s:Ae) (σ:St) (H:Hp) (x:V) (v:Ac) (Q:Bool->Hp->Prop),Inv X pins σ H s->RelV x v->r x H Q ->
  At (Ay X.prog X.w) X.A (truthy v) (TP X pins σ Q) X.xe s
noncomputable def tOp(r:R2)(ta tb:TE):TE:=λσ H Q=>ta σ H λx H1=>tb σ H1 λy H2=>r x y H2 Q
noncomputable def tUn(r:V->Hp->VK->Prop)(ta:TE):TE:=λσ H Q=>ta σ H λx H1=>r x H1 Q
noncomputable def rI(C:Int->Int->Prop)(g:Int->Int->V):R2:=λx y H Q=>∃i j,x=.int i/\y=.int j/\C i j/\Q (g i j) H
noncomputable def rI0(g:Int->Int->V):R2:=λx y H Q=>∃i j,x=.int i/\y=.int j/\Q (g i j) H
noncomputable def rU(g:Int->V):V->Hp->VK->Prop:=λx H Q=>∃i,x=.int i/\Q (g i) H
section
variable {X:Cx}{a b c:Expr}{ta tb tc:TE}{pos:Pos}
theorem binT(ha:PE X a ta)(hb:PE X b tb){pins:List (Addr × Obj)}{s:Ae}{σ : St}{H:Hp}{R:V -> V -> Hp -> Prop}(I:Inv X pins σ H s)
  (h:ta σ H λx H1=>tb σ H1 λy H2=>R x y H2) {Q:Ac->Ae->Prop} {f:Ac->Ac->Sem Ac}
  (hf:∀v u s2 x y H2,Inv X pins σ H2 s2->RelV x v->RelV y u->R x y H2->At (Ay X.prog X.w) X.A (f v u) Q X.xe s2) :
  At (Ay X.prog X.w) X.A (eval a X.env) (λv s₁=>At (Ay X.prog X.w) X.A (eval b X.env) (λu s₂=>At (Ay X.prog X.w) X.A (f v u) Q X.xe s₂) X.xe s₁) X.xe s:=by
 refine thn (ha pins s σ H _ I h) λv s1 ⟨x,H1,I1,r1,q1⟩=>?_
 refine thn (hb pins s1 σ H1 _ I1 q1) λu s2 ⟨y,H2,I2,r2,q2⟩=>?_
 exact hf v u s2 x y H2 I2 r1 r2 q2
theorem pe_op{op:Operator}{r:R2}(ho:OpR X (binaryOp op) r)(ha:PE X a ta)(hb:PE X b tb):PE X (.BinOp a op b pos) (tOp r ta tb):=by intro pins s σ H Q I h;exact wpAny_BinOp (binT ha hb I h λv u s2 x y H2 I2 rx ry q=>ho pins s2 σ H2 x y v u Q I2 rx ry q)
theorem pe_un{op:UnaryOp}{r:V->Hp->VK->Prop}(ho:UnR X (unaryOp op) r)(ha:PE X a ta):PE X (.UnaryOp op a pos) (tUn r ta):=by intro pins s σ H Q I h;exact UnaryOp_ (thn (ha pins s σ H _ I h) λv s1 ⟨x,H1,I1,r1,q1⟩=>ho pins s1 σ H1 x v Q I1 r1 q1)
theorem opI{f:Ac -> Ac -> Sem Ac}{C:Int -> Int -> Prop}{g:Int -> Int -> Int}
  (rule:∀(i j:Int) (t u:Tok) (s:Ae) (Q:Ac->Ae->Prop) (E:Ac->Ae->Prop),C i j->Q (.int (g i j) s.toks) { s with toks:=s.toks+1 }->At (Ay X.prog X.w) X.A (f (.int i t) (.int j u)) Q E s) :
  OpR X f (rI C λi j=>.int (g i j)):=by
 intro pins s σ H x y v u Q I rx ry h;obtain⟨i,j,rfl,rfl,hc,q⟩:=h;obtain⟨t,rfl⟩:=rx;obtain⟨t',rfl⟩:=ry;exact rule i j t t' s _ _ hc ⟨.int (g i j),H,I.tok _,⟨_,rfl⟩,q⟩
theorem opI0{f:Ac -> Ac -> Sem Ac}{g:Int -> Int -> Int}
  (rule:∀(i j:Int) (t u:Tok) (s:Ae) (Q:Ac->Ae->Prop) (E:Ac->Ae->Prop),Q (.int (g i j) s.toks) { s with toks:=s.toks+1 }->At (Ay X.prog X.w) X.A (f (.int i t) (.int j u)) Q E s) :
  OpR X f (rI0 λi j=>.int (g i j)):=by
 intro pins s σ H x y v u Q I rx ry h;obtain⟨i,j,rfl,rfl,q⟩:=h;obtain⟨t,rfl⟩:=rx;obtain⟨t',rfl⟩:=ry;exact rule i j t t' s _ _ ⟨.int (g i j),H,I.tok _,⟨_,rfl⟩,q⟩
theorem opB0{f:Ac -> Ac -> Sem Ac}{g:Int -> Int -> Bool}
  (rule:∀(i j:Int) (t u:Tok) (s:Ae) (Q:Ac->Ae->Prop) (E:Ac->Ae->Prop),Q (.bool (g i j)) s->At (Ay X.prog X.w) X.A (f (.int i t) (.int j u)) Q E s) :
  OpR X f (rI0 λi j=>.bl (g i j)):=by
 intro pins s σ H x y v u Q I rx ry h;obtain⟨i,j,rfl,rfl,q⟩:=h;obtain⟨t,rfl⟩:=rx;obtain⟨t',rfl⟩:=ry;exact rule i j t t' s _ _ ⟨.bl (g i j),H,I,rfl,q⟩
noncomputable def CDiv(i j:Int):Prop:=0<j/\j<1073741824
noncomputable def CPow(i j:Int):Prop:=0<=j/\j<=1000000/\i.natAbs<2 ^ 64
noncomputable def CMul(i j:Int):Prop:=(-(2 ^ 64)<i/\i<2 ^ 64)∨(-(2 ^ 64)<j/\j<2 ^ 64)
theorem CMul.ok{i j:Int}(h:CMul i j):IntMulOk i j:=by
 rcases h with⟨h1,h2⟩ |⟨h1,h2⟩
 .exact .of_left (intBits_le_64 h1 h2)
 .exact .of_right (intBits_le_64 h1 h2)
theorem zaG:OpR X (binaryOp .Add) (rI0 λi j=>.int (i+j)):=opI0 λ_ _ _ _ _ _ _ q=>add_int q
theorem zbn:OpR X (binaryOp .Sub) (rI0 λi j=>.int (i-j)):=opI0 λ_ _ _ _ _ _ _ q=>sub_int q
theorem zbU:OpR X (binaryOp .Mult) (rI CMul λi j=>.int (i*j)):=opI λ_ _ _ _ _ _ _ hc q=>mul_int q hc.ok
theorem zfs:OpR X (binaryOp .FloorDiv) (rI CDiv λi j=>.int (i / j)):=opI λi j _ _ _ _ _ hc q=>by have h1:(0:Int)<j:=hc.1;have h2:j<1073741824:=hc.2;exact floordiv_int (by lia) (by rw[Int.fdiv_eq_ediv_of_nonneg i (by lia)];exact q) (.inl (PyProof.noPylong_small (by lia)))
theorem za9:OpR X (binaryOp .Mod) (rI (λ_ j=>0<j) λi j=>.int (i % j)):=opI λi j _ _ _ _ _ hc q=>by have h1:(0:Int)<j:=hc;exact mod_int' (by lia) (by rw[Int.fmod_eq_emod_of_nonneg i (by lia)];exact q)
theorem zeX:OpR X (binaryOp .Pow) (rI CPow λi j=>.int (i ^ j.toNat)):=opI λ_ _ _ _ _ _ _ hc q=>pow_int_small hc.1 hc.2.1 hc.2.2 q
theorem unI{f:Ac -> Sem Ac}{g:Int -> Int}
  (rule:∀(i:Int) (t:Tok) (s:Ae) (Q:Ac->Ae->Prop) (E:Ac->Ae->Prop),Q (.int (g i) s.toks) { s with toks:=s.toks+1 }->At (Ay X.prog X.w) X.A (f (.int i t)) Q E s) :
  UnR X f (rU λi=>.int (g i)):=by
 intro pins s σ H x v Q I rx h;obtain⟨i,rfl,q⟩:=h;obtain⟨t,rfl⟩:=rx;exact rule i t s _ _ ⟨.int (g i),H,I.tok _,⟨_,rfl⟩,q⟩
theorem zk3:UnR X (unaryOp .USub) (rU λi=>.int (-i)):=unI λ_ _ _ _ _ q=>neg_int q
end
noncomputable def scal:V->V->Bool
 |.non,.non=>true |.non,.int _=>true |.int _,.non=>true |.non,.bl _=>true |.bl _,.non=>true |.non,.str _=>true |.str _,.non=>true
 |.int _,.int _=>true |.bl _,.bl _=>true |.str _,.str _=>true |.byt _,.byt _=>true
 |.int _,.str _=>true |.str _,.int _=>true |.bl _,.str _=>true |.str _,.bl _=>true
 |_,_=>false
noncomputable def rEq:R2:=λx y H Q=>scal x y=true/\Q (.bl (decide (x=y))) H
noncomputable def rNe:R2:=λx y H Q=>scal x y=true/\Q (.bl (!decide (x=y))) H
theorem zjW{i j:Int}:decide (V.int i=V.int j)=(i == j):=by rw[Cc];simp
theorem zlt{i j:Bool}:decide (V.bl i=V.bl j)=(i == j):=by rw[Cc];simp
theorem zjV{i j:Str}:decide (V.str i=V.str j)=(i == j):=by rw[Cc];simp
theorem zjX{i j:Array UInt8}:decide (V.byt i=V.byt j)=(i.toList == j.toList):=by
 rw[Cc]
 cases i
 cases j
 simp
section
variable {X:Cx}{a b c:Expr}{ta tb tc:TE}{pos:Pos}
theorem zaK{pins:List (Addr×Obj)}{σ:St}{H:Hp}{s:Ae}{Q:VK}{k k':Bool}(I:Inv X pins σ H s)(q:Q (.bl k) H)(e:k=k'):EP X pins σ Q (.bool k') s:=by subst e;exact⟨.bl k,H,I,rfl,q⟩
theorem op_eq:OpR X (BB .Eq) rEq:=by
 intro pins s σ H x y v u Q I rx ry h;obtain⟨hs,q⟩:=h
 cases x with
 |non =>
  cases rx
  cases y with
  |non=>cases ry;exact PySem.EqNone.eq_none_none (zaK I q (by simp))
  |bl j=>cases ry;exact PySem.EqNone.eq_none_bool (zaK I q (by simp))
  |int j=>obtain⟨t',rfl⟩:=ry;exact PySem.EqNone.eq_none_int (zaK I q (by simp))
  |str j=>obtain⟨t',rfl⟩:=ry;exact PySem.EqNone.eq_none_str (zaK I q (by simp))
  |_=>exact absurd (show false=true from hs) AV
 |bl i =>
  cases rx
  cases y with
  |non=>cases ry;exact PySem.EqNone.eq_bool_none (zaK I q (by simp))
  |bl j=>cases ry;exact eq_bool (zaK I q zlt)
  |str j=>obtain⟨t',rfl⟩:=ry;exact PySem.EqMixed.eq_bool_str (zaK I q (by simp))
  |_=>exact absurd (show false=true from hs) AV
 |int i =>
  obtain⟨t,rfl⟩:=rx
  cases y with
  |non=>cases ry;exact PySem.EqNone.eq_int_none (zaK I q (by simp))
  |int j=>obtain⟨t',rfl⟩:=ry;exact eq_int (zaK I q zjW)
  |str j=>obtain⟨t',rfl⟩:=ry;exact PySem.EqMixed.eq_int_str (zaK I q (by simp))
  |_=>exact absurd (show false=true from hs) AV
 |str i =>
  obtain⟨t,rfl⟩:=rx
  cases y with
  |non=>cases ry;exact PySem.EqNone.eq_str_none (zaK I q (by simp))
  |bl j=>cases ry;exact PySem.EqMixed.eq_str_bool (zaK I q (by simp))
  |int j=>obtain⟨t',rfl⟩:=ry;exact PySem.EqMixed.eq_str_int (zaK I q (by simp))
  |str j=>obtain⟨t',rfl⟩:=ry;exact eq_str (zaK I q zjV)
  |_=>exact absurd (show false=true from hs) AV
 |byt i =>
  obtain⟨t,rfl⟩:=rx
  cases y with
  |byt j=>obtain⟨t',rfl⟩:=ry;exact W.eq_bytes (zaK I q zjX)
  |_=>exact absurd (show false=true from hs) AV
 |_=>cases y <;> exact absurd (show false=true from hs) AV
theorem op_ne:OpR X (BB .NotEq) rNe:=by
 intro pins s σ H x y v u Q I rx ry h;obtain⟨hs,q⟩:=h
 cases x with
 |non =>
  cases rx
  cases y with
  |non=>cases ry;exact PySem.EqNone.ne_none_none (zaK I q (by simp))
  |bl j=>cases ry;exact PySem.EqNone.ne_none_bool (zaK I q (by simp))
  |int j=>obtain⟨t',rfl⟩:=ry;exact PySem.EqNone.ne_none_int (zaK I q (by simp))
  |str j=>obtain⟨t',rfl⟩:=ry;exact PySem.EqNone.ne_none_str (zaK I q (by simp))
  |_=>exact absurd (show false=true from hs) AV
 |bl i =>
  cases rx
  cases y with
  |non=>cases ry;exact PySem.EqNone.ne_bool_none (zaK I q (by simp))
  |bl j=>cases ry;exact ne_bool (zaK I q (congrArg not zlt))
  |str j=>obtain⟨t',rfl⟩:=ry;exact PySem.EqMixed.ne_bool_str (zaK I q (by simp))
  |_=>exact absurd (show false=true from hs) AV
 |int i =>
  obtain⟨t,rfl⟩:=rx
  cases y with
  |non=>cases ry;exact PySem.EqNone.ne_int_none (zaK I q (by simp))
  |int j=>obtain⟨t',rfl⟩:=ry;exact ne_int (zaK I q (congrArg not zjW))
  |str j=>obtain⟨t',rfl⟩:=ry;exact PySem.EqMixed.ne_int_str (zaK I q (by simp))
  |_=>exact absurd (show false=true from hs) AV
 |str i =>
  obtain⟨t,rfl⟩:=rx
  cases y with
  |non=>cases ry;exact PySem.EqNone.ne_str_none (zaK I q (by simp))
  |bl j=>cases ry;exact PySem.EqMixed.ne_str_bool (zaK I q (by simp))
  |int j=>obtain⟨t',rfl⟩:=ry;exact PySem.EqMixed.ne_str_int (zaK I q (by simp))
  |str j=>obtain⟨t',rfl⟩:=ry;exact ne_str (zaK I q (congrArg not zjV))
  |_=>exact absurd (show false=true from hs) AV
 |byt i =>
  obtain⟨t,rfl⟩:=rx
  cases y with
  |byt j=>obtain⟨t',rfl⟩:=ry;exact W.ne_bytes (zaK I q (congrArg not zjX))
  |_=>exact absurd (show false=true from hs) AV
 |_=>cases y <;> exact absurd (show false=true from hs) AV
theorem op_lt:OpR X (BB .Lt) (rI0 λi j=>.bl (decide (i<j))):=opB0 λ_ _ _ _ _ _ _ q=>lt_int q
theorem op_le:OpR X (BB .LtE) (rI0 λi j=>.bl (decide (i<=j))):=opB0 λ_ _ _ _ _ _ _ q=>le_int q
theorem op_gt:OpR X (BB .Gt) (rI0 λi j=>.bl (decide (j<i))):=opB0 λ_ _ _ _ _ _ _ q=>gt_int q
theorem op_ge:OpR X (BB .GtE) (rI0 λi j=>.bl (decide (j<=i))):=opB0 λ_ _ _ _ _ _ _ q=>ge_int q
theorem zhK:OpR X (BB .Is) (λx y H Q=>y=.non/\Q (.bl (decide (x=.non))) H):=by
 intro pins s σ H x y v u Q I rx ry h;obtain⟨rfl,q⟩:=h
 cases ry
 refine is_none_gen (zaK I q ?_)
 cases x <;> first
  | (cases rx;rfl)
  | (obtain⟨t,rfl⟩:=rx;rfl)
theorem zfr:OpR X (BB .IsNot) (λx y H Q=>y=.non/\Q (.bl (!decide (x=.non))) H):=by
 intro pins s σ H x y v u Q I rx ry h;obtain⟨rfl,q⟩:=h
 cases ry
 refine isnot_none_gen (zaK I q ?_)
 cases x <;> first
  | (cases rx;rfl)
  | (obtain⟨t,rfl⟩:=rx;rfl)
theorem zan(b:Expr){op:CmpOp}(h:op≠.In:=by decide)(h2:op≠.NotIn:=by decide):behindInMarks op b=false:=by
 have e1:(op == CmpOp.In)=false:=by cases op <;> first |rfl |exact absurd rfl h
 have e2:(op == CmpOp.NotIn)=false:=by cases op <;> first |rfl |exact absurd rfl h2
 cases b <;> simp[behindInMarks,e1,e2]
theorem zbc{op:CmpOp}{r:R2}(ho:OpR X (BB op) r)(ha:PE X a ta)(hb:PE X b tb)(hm:behindInMarks op b=false):PE X (.Compare a [op] [b] pos) (tOp r ta tb):=by intro pins s σ H Q I h;exact wpAny_Compare1 (binT ha hb I h λv u s2 x y H2 I2 rx ry q=>ho pins s2 σ H2 x y v u Q I2 rx ry q) hm
noncomputable def tTest(t:TE):TT:=λσ H Q=>t σ H λx H'=>∃k,x=.bl k/\Q k H'
theorem zam{op:CmpOp}{r:R2}(ho:OpR X (BB op) r)(ha:PE X a ta)(hb:PE X b tb)(hm:behindInMarks op b=false):PT X (.Compare a [op] [b] pos) (tTest (tOp r ta tb)):=by
 intro pins s σ H Q I h
 refine wpAny_isTrue_Compare1 (thn (ha pins s σ H _ I h) λv s1 ⟨x,H1,I1,r1,q1⟩=>thn (hb pins s1 σ H1 _ I1 q1) λu s2 ⟨y,H2,I2,r2,q2⟩ =>
  thn (ho pins s2 σ H2 x y v u _ I2 r1 r2 q2) λc s3 ⟨z,H3,I3,r3,k,e,q3⟩=>?_) hm
 subst e
 cases r3
 exact BZ ⟨H3,I3,q3⟩
noncomputable def TruV(K:W.Frag)(x:V)(H:Hp)(k:Bool):Prop :=
 match x with
 |.non=>k=false
 |.bl b=>k=b
 |.int i=>k=(i != 0)
 |.str y=>y.length<=sizeLine/\k=((y.length:Int) != 0)
 |.byt y=>y.size<=sizeLine/\k=((y.size:Int) != 0)
 |.ref p=>(∃xs,SqL K H p xs/\k=!xs.isEmpty)∨(∃xs,SqT K H p xs/\k=!xs.isEmpty)∨∃kvs,H p=some (.dK kvs)/\k=!kvs.isEmpty
 |_=>False
theorem ziF{κ:Type}{kvs:List (κ×V)}{vs:List (κ×Ac)}(r:KV kvs vs):(!vs.isEmpty)=!kvs.isEmpty:=by
 cases r <;> rfl
theorem ze0{xs:List V}{its:List Ac}(r:Vals xs its):(!its.toArray.isEmpty)=!xs.isEmpty:=by
 cases r <;> simp
theorem zgw:(sizeLine:Nat)<2 ^ 63:=by rw[sizeLine_eq];decide
theorem zmm:TruR X (λx H Q=>∃k,TruV X.K x H k/\Q k H):=by
 intro pins s σ H x v Q I rx h;obtain⟨k,e,q⟩:=h;have hl:=zgw;have hs:sizeLine=16777216:=sizeLine_eq
 cases x with
 |non =>
  cases rx
  have e':k=false:=e;subst e';exact truthy_none ⟨H,I,q⟩
 |bl b =>
  cases rx
  have e':k=b:=e;subst e';exact BZ ⟨H,I,q⟩
 |int i =>
  obtain⟨t,rfl⟩:=rx;have e':k=(i != 0):=e;subst e';exact PySem.P.truthy_int ⟨H,I,q⟩
 |str y =>
  obtain⟨t,rfl⟩:=rx;obtain⟨hy,e'⟩:y.length<=sizeLine/\k=((y.length:Int) != 0):=e;subst e';exact PySem.P.truthy_str (by lia) ⟨H,I.tok _,q⟩
 |byt y =>
  obtain⟨t,rfl⟩:=rx;obtain⟨hy,e'⟩:y.size<=sizeLine/\k=((y.size:Int) != 0):=e;subst e';exact W.truthy_bytes (by lia) ⟨H,I.tok _,q⟩
 |ref p =>
  cases rx
  have e':(∃xs,SqL X.K H p xs/\k=!xs.isEmpty)∨(∃xs,SqT X.K H p xs/\k=!xs.isEmpty)∨∃kvs,H p=some (.dK kvs)/\k=!kvs.isEmpty:=e;rcases e' with⟨xs,hx,e'⟩ |⟨xs,hx,e'⟩ |⟨kvs,hx,e'⟩
  .subst e';obtain⟨its,r,pl,hz⟩:=I.list hx;have hlen:=r.length;exact wpAny_truthy_list pl.isList (by simp only[Au];lia) ⟨H,I.tok _,by rw[ze0 r];exact q⟩
  .subst e';obtain⟨its,r,pl,hz⟩:=I.tuple hx;have hlen:=r.length;exact truthy_tuple pl (by simp only[Au];lia) ⟨H,I.tok _,by rw[ze0 r];exact q⟩
  .subst e';obtain⟨hz,hS,vs,r,m⟩:kvs.length<=sizeLine/\(p == BR)=false/\∃vs,KV kvs vs/\s.heap.DictOf (zaE X.prog X.w) p vs:=I.hok p _ hx;have hlen:kvs.length=vs.length:=CY r;exact wpAny_truthy_dict hS m (by lia) ⟨H,I.tok _,by rw[ziF r];exact q⟩
 |_=>exact (show False from e).elim
theorem zkr(ha:PE X a ta)(he:∀whole, isTrue a X.env whole=(do let v <- whole; standAt a.pos; DP [v] (truthy v))) :
  PT X a (λσ H Q=>ta σ H λx H'=>∃k,TruV X.K x H' k/\Q k H'):=by
 intro pins s σ H Q I h;exact isTrue_plain (thn (ha pins s σ H _ I h) λv s1 ⟨x,H1,I1,r1,q1⟩=>zmm pins s1 σ H1 x v Q I1 r1 q1) (he _)
theorem vals1{x:V}{us:List Ac}(r:Vals [x] us):∃u,us=[u]/\RelV x u:=by
 cases r with
 |cons r1 r2=>cases r2;exact⟨_,rfl,r1⟩
theorem vals2{x y:V}{us:List Ac}(r:Vals [x,y] us):∃u w',us=[u,w']/\RelV x u/\RelV y w':=by
 cases r with
 |cons r1 r2 =>
  cases r2 with
  |cons r3 r4=>cases r4;exact⟨_,_,rfl,r1,r3⟩
theorem zdQ:CallR X (.builtin "abs") (λxs H Q=>∃i,xs=[.int i]/\Q (.int (if i<0 then -i else i)) H):=by intro pins s σ H xs us Q I r h;obtain⟨i,rfl,q⟩:=h;obtain⟨u,rfl,t,rfl⟩:=vals1 r;exact call_abs_int λu tk=>⟨.int (if i<0 then -i else i),H,I.tok _,⟨_,rfl⟩,q⟩
theorem zj5 (hc:X.calm=true):CallR X (.builtin "max") (λxs H Q=>∃i j,xs=[.int i,.int j]/\Q (.int (if j > i then j else i)) H):=by
 intro pins s σ H xs us Q I r h;obtain⟨i,j,rfl,q⟩:=h;obtain⟨u,w',rfl,⟨t,rfl⟩,⟨t',rfl⟩⟩:=vals2 r;refine max_two_ints (I.ok.hd hc) λh' tk k=>⟨_,H,I.kept k,?_,q⟩
 by_cases hj:j > i
 .rw[if_pos hj,if_pos hj];exact⟨_,rfl⟩
 .rw[if_neg hj,if_neg hj];exact⟨_,rfl⟩
theorem zj4 (hc:X.calm=true):CallR X (.builtin "min") (λxs H Q=>∃i j,xs=[.int i,.int j]/\Q (.int (if j<i then j else i)) H):=by
 intro pins s σ H xs us Q I r h;obtain⟨i,j,rfl,q⟩:=h;obtain⟨u,w',rfl,⟨t,rfl⟩,⟨t',rfl⟩⟩:=vals2 r;refine min_two_ints (I.ok.hd hc) λh' tk k=>⟨_,H,I.kept k,?_,q⟩
 by_cases hj:j<i
 .rw[if_pos hj,if_pos hj];exact⟨_,rfl⟩
 .rw[if_neg hj,if_neg hj];exact⟨_,rfl⟩
theorem zdn:CallR X (.type "int") (λxs H Q=>(∃i,xs=[.int i]/\Q (.int i) H)∨∃k,xs=[.bl k]/\Q (.int (if k then 1 else 0)) H):=by
 intro pins s σ H xs us Q I r h;rcases h with⟨i,rfl,q⟩ |⟨k,rfl,q⟩
 .obtain⟨u,rfl,t,rfl⟩:=vals1 r;exact call_int_int ⟨.int i,H,I,⟨_,rfl⟩,q⟩
 .obtain⟨u,rfl,r1⟩:=vals1 r
  cases r1
  exact call_int_bool ⟨.int (if k then 1 else 0),H,I.tok _,⟨_,rfl⟩,q⟩
end
structure ObjM (h:Heap) (x dx C:Addr) (mA:Str->Option Ac):Prop where
 obj:h.get? x=some (W.instObj C dx)
 ns:h.Ns1 dx mA
 ne:dx≠x
section
variable {prog:AR}{w:Be}{A:A3}{E:Ac->Ae->Prop}{s:Ae}{K:W.Frag}{x dx C f:Addr}{mA:Str->Option Ac}{name:Str}{v:Ac}
end
section
variable {P:AR}{w:Be}{H H':Hp}{h h':Heap}{a C dx:Addr}{fs fs':List (Str×V)}
end
structure Cls (K:W.Frag) (C:Addr):Prop where
 pg:W.plainGet K C Str.empty=true
 hd:W.hasDictIn K C=true
 po:W.plainOver K C=true
 sa:W.findIn K (.ref C) "__setattr__" = some (some (.builtin "object.__setattr__"))
structure Con (K:W.Frag) (C:Addr) (f:Str) (v:V) (u:Ac):Prop where
 at_:W.findIn K (.ref C) f=some (some u)
 rel:RelV v u
 get:W.specialIn K u "__get__" = some none
 cp:W.copiedNames.contains f=false
structure Meth (K:W.Frag) (C:Addr) (m:Str) (f:Addr):Prop where
 at_:W.findIn K (.ref C) m=some (some (.ref f))
 fn:W.isFn K (.ref f)=true
 kp:W.keepIn K (.ref f)=true
section
variable {X:Cx}{pins:List (Addr×Obj)}{σ:St}{H:Hp}{s:Ae}{a C dx:Addr}{fs:List (Str×V)}{f:Str}{v:V}{A:A3}{E:Ac->Ae->Prop}
end
section
variable {X:Cx}{o e value:Expr}{f:Str}{pos pos' tpos:Pos}{ta tv:TE}
end
section
variable {X:Cx}{pins:List (Addr×Obj)}{σ:St}{H:Hp}{s:Ae}{A:A3}{E:Ac->Ae->Prop}{Q:Ac->Ae->Prop}{c:Ac}{b:Bool}
inductive TyOf (K:W.Frag) (H:Hp):V->Ac->Prop where
  |non:TyOf K H .non (.type "NoneType")
  |bl (x:Bool):TyOf K H (.bl x) (.type "bool")
  |int (i:Int):TyOf K H (.int i) (.type "int")
  |str (x:Str):TyOf K H (.str x) (.type "str")
  |flt (x:UInt64):TyOf K H (.flt x) (.type "float")
  |lst {a:Addr} {xs:List V} (e:H a=some (.lst xs)):TyOf K H (.ref a) (.type "list")
  |frz {a:Addr} {o:Obj} {xs:List V} (e:H a=some (.frz o (.lst xs))):TyOf K H (.ref a) (.type "list")
  |tup {a:Addr} {xs:List V} (e:H a=some (.tup xs)):TyOf K H (.ref a) (.type "tuple")
  |dK {a:Addr} {kvs:List (Key×V)} (e:H a=some (.dK kvs)):TyOf K H (.ref a) (.type "dict")
  |dT {a:Addr} {kvs:List (List Key×V)} (e:H a=some (.dT kvs)):TyOf K H (.ref a) (.type "dict")
  |ins {a C dx:Addr} {fs:List (Str × V)} (e:H a=some (.ins C dx fs)) (cl:Cls K C) (ha:W.findIn K (.ref C) "__class__" = some (some (.builtin "object.__class__")))
      (hn:W.specialIn K (.builtin "object.__class__") "__get__" = some (some (.builtin "getset_descriptor.__get__"))) (htk:W.takesIn K (.builtin "object.__class__")=some true)
      (hm:W.mroIn K C (.type "object")=some true):TyOf K H (.ref a) (.ref C)
end
structure Room (k:Nat) (A:A3):Prop where
 hd:A.handled=none
 dp:A.depth+3*k+5<recursionLimit
 un:A.units+16*k+200<cLine
 gd:A.guards=some []
theorem Room.mono{j k:Nat}{A:A3}(r:Room k A)(h:j<=k):Room j A:=⟨r.hd,by have:=r.dp;lia,by have:=r.un;lia,r.gd⟩
theorem Room.deeper{k:Nat}{A:A3}(r:Room (k+1) A)(env:Env):Room k (A.deeper env) :=
 ⟨r.hd,by have:=r.dp;show A.depth+1+3*k+5<_;lia,by have:=r.un;show A.units+3+16*k+200<_;lia,r.gd⟩
theorem Room.in1{k:Nat}{A:A3}(r:Room (k+1) A):Room k A.in1 :=
 ⟨r.hd,by have:=r.dp;show A.depth+3*k+5<_;lia,by have:=r.un;show A.units+1+16*k+200<_;lia,r.gd⟩
theorem Room.depth{k:Nat}{A:A3}(r:Room k A):A.depth<recursionLimit:=by have:=r.dp;lia
theorem Room.units{k:Nat}{A:A3}(r:Room k A):A.units+64<cLine:=by have:=r.un;lia
theorem Room.units0{k:Nat}{A:A3}(r:Room k A):A.units<cLine:=by have:=r.un;lia
noncomputable def tNil:TA:=λ_ H Q=>Q [] H
noncomputable def tCons(ta:TE)(tr:TA):TA:=λσ H Q=>ta σ H λx H1=>tr σ H1 λxs H2=>Q (x::xs) H2
section
variable {X:Cx}{e:Expr}{es:List Expr}{te:TE}{t:TA}{pos:Pos}
theorem zab:PA X [] tNil:=λ_ _ _ _ H Q I h=>Calls.spliced_nil ⟨[],H,I,.nil,h⟩
theorem zah(ha:PE X e te)(hr:PA X es t)(hs:Bx (e::es) X.env=(false,eval e X.env)::Bx es X.env:=by rfl):PA X (e::es) (tCons te t):=by intro pos pins s σ H Q I h;rw[hs];show At _ _ (spliced ((false,eval e X.env)::backTo pos (Bx es X.env))) _ _ s;refine Ch (thn (ha pins s σ H _ I h) λu s1 ⟨x,H1,I1,r1,q1⟩=>?_);exact thn (hr pos pins s1 σ H1 _ I1 q1) λus s2 ⟨xs,H2,I2,r2,q2⟩=>⟨x::xs,H2,I2,.cons r1 r2,q2⟩
noncomputable def tTup(t:TA):TE:=λσ H Q=>t σ H λxs H1=>xs.length<=sizeLine/\∀p,H1 p=none->Q (.ref p) (upd H1 p (.tup xs))
noncomputable def tLst(t:TA):TE:=λσ H Q=>t σ H λxs H1=>xs.length<=sizeLine/\∀p,H1 p=none->Q (.ref p) (upd H1 p (.lst xs))
theorem zay{x1}(h:PA X es t):PE X (.Tuple es x1 pos) (tTup t):=by intro pins s σ H Q I hq;refine wpAny_Tuple_spliced (thn (h pos pins s σ H _ I hq) λus s1 ⟨xs,H1,I1,r,z,q⟩=>⟨by rw[<- r.length];exact z,?_⟩);have hf:H1 s1.heap.objs.size=none:=I1.hok.fresh (Am _);refine⟨.ref s1.heap.objs.size,upd H1 s1.heap.objs.size (.tup xs),I1.laid (t':=s1.toks) (λb u e=>Ag _ e) (Am _) ?_,rfl,q _ hf⟩;exact⟨z,us,r,⟨_,AF _ rfl,rfl,_,rfl⟩⟩
theorem zaZ(h:PA X es t):PE X (.List es pos) (tLst t):=by intro pins s σ H Q I hq;refine wpAny_List_spliced (thn (h pos pins s σ H _ I hq) λus s1 ⟨xs,H1,I1,r,z,q⟩=>⟨by rw[<- r.length];exact z,?_⟩);have hf:H1 s1.heap.objs.size=none:=I1.hok.fresh (Am _);refine⟨.ref s1.heap.objs.size,upd H1 s1.heap.objs.size (.lst xs),I1.laid (t':=s1.toks) (λb u e=>Ag _ e) (Am _) ?_,rfl,q _ hf⟩;exact⟨z,us,0,r,AF _ rfl⟩
end
noncomputable abbrev Sp:=List V->Hp->VK->XK->Prop
noncomputable abbrev CXT:=List Env->Hp->Ae->XK->Ac->Ae->Prop
structure Env0 (P:AR) (w:Be) (K:W.Frag) (mg:Str->Option Ac) (base:Heap) (A:A3) (outer:List Env) (s:Ae) (H:Hp):Prop where
 frames:A.frames=some outer
 mod:Mod K mg base
 bs:∀b o,base.get? b=some o->s.heap.get? b=some o/\H b=none
 bsz:base.objs.size<=s.heap.objs.size
 funs:s.heap.FunFrames base outer
 frf:∀b∈frs outer,H b=none
 hok:HOk P w H s.heap
 bare:AllBare s.gens
noncomputable def CE(outer:List Env)(P:AR)(w:Be)(H:Hp)(s:Ae)(Q:VK)(u:Ac)(s':Ae):Prop :=
 ∃v H',s'.os=s.os/\AllBare s'.gens/\Un (frs outer) [] H H' s.heap s'.heap/\HOk P w H' s'.heap/\RelV v u/\Q v H'
noncomputable def CR(CX:CXT)(outer:List Env)(P:AR)(w:Be)(H:Hp)(s:Ae)(Q:VK)(E:XK)(r:Result)(s':Ae):Prop :=
 match r with
 |.ok (.ret u)=>CE outer P w H s Q u s'
 |.ok _=>False
 |.error e=>CX outer H s E e s'
structure FnOk (P:AR) (w:Be) (K:W.Frag) (mg:Str->Option Ac) (base:Heap) (CX:CXT) (k:Nat) (f:Addr) (fd:BM) (ps:List Str) (sp:Sp):Prop where
 len:∀vs H Q E,sp vs H Q E->vs.length=ps.length
 run:∀(A:A3) (outer:List Env) (s:Ae) (H:Hp) (args:Args) (us:List Ac) (vs:List V) (Q:VK) (E:XK),Room k A->Env0 P w K mg base A outer s H->BindsTo s fd args (ps.zip us)->Vals vs us->sp vs H Q E ->
  Co (Ay P w) A (.call (.ref f) args) (CR CX outer P w H s Q E) s
theorem FnOk.imp{P:AR}{w:Be}{K:W.Frag}{mg:Str -> Option Ac}{base:Heap}{CX:CXT}{k:Nat}{f:Addr}{fd:BM}{ps:List Str}{sp sp':Sp}(F:FnOk P w K mg base CX k f fd ps sp)
  (h:∀vs H Q E,sp' vs H Q E->sp vs H Q E):FnOk P w K mg base CX k f fd ps sp' :=
 ⟨λvs H Q E q=>F.len vs H Q E (h _ _ _ _ q),λA outer s H args us vs Q E hr he hb hv hs=>F.run A outer s H args us vs Q E hr he hb hv (h _ _ _ _ hs)⟩
theorem Env0.in1{P:AR}{w:Be}{K:W.Frag}{mg:Str -> Option Ac}{base:Heap}{A:A3}{outer:List Env}{s:Ae}{H:Hp}(e:Env0 P w K mg base A outer s H) :
  Env0 P w K mg base A.in1 outer s H:=⟨e.frames,e.mod,e.bs,e.bsz,e.funs,e.frf,e.hok,e.bare⟩
section
variable {X:Cx}{pins:List (Addr×Obj)}{σ:St}{H:Hp}{s s':Ae}
theorem Inv.env0(I:Inv X pins σ H s):Env0 X.prog X.w X.K X.mg X.base X.A X.stack s H :=
 ⟨I.ok.frames,I.ok.mod,I.bs,AW I.ok.bsz I.sz,I.stack,I.stkFree,I.hok,I.bare⟩
theorem Inv.after{Q:VK}{u:Ac}(I:Inv X pins σ H s)(h:CE X.stack X.prog X.w H s Q u s'):EP X pins σ Q u s':=by obtain⟨v,H',os,bare,un,hok,r,q⟩:=h;obtain⟨hh,g,d,t,os'⟩:=s';obtain rfl:os'=s.os:=os;exact⟨v,H',I.call (h':=hh) (g':=g) (d':=d) (t':=t) (ch:=[]) un hok bare (λb z=>absurd z (by simp)),r,q⟩
end
noncomputable def tCall(sp:Sp)(dvs:List V)(E:XK)(t:TA):TE:=λσ H Q=>t σ H λvs H1=>sp (vs++dvs) H1 Q E
noncomputable def Binds(K:W.Frag)(fd:BM)(ps:List Str)(ds:List Ac):Prop :=
 ∀(s:Ae) (us:List Ac),K.In s.heap->(us++ds).length=ps.length->BindsTo s fd ⟨us,[]⟩ (ps.zip (us++ds))
theorem Binds.all{K:W.Frag}{fd:BM}{ps:List Str}(h:∀us:List Ac,us.length=ps.length->Dt fd ⟨us,[]⟩=pure (ps.zip us)):Binds K fd ps []:=λs us _ hl=>by rw[Bf]at hl ⊢;exact .of_eq (h us hl)
noncomputable def zka(CX:CXT)(X:Cx)(E:XK):Prop:=∀(pins:List (Addr×Obj)) (σ:St) (H:Hp) (s:Ae) (e:Ac) (s':Ae),Inv X pins σ H s->CX X.stack H s E e s'->X.xe e s'
section
variable {X:Cx}{CX:CXT}{k:Nat}{f C:Addr}{fd:BM}{ps:List Str}{sp:Sp}{dvs:List V}{ds:List Ac}{E:XK}{x m:Str}{p pos apos:Pos}{e o:Expr}{es:List Expr}{ta:TE}{t:TA}
theorem zmE{pins:List (Addr × Obj)}{σ : St}{H:Hp}{s:Ae}{Q:VK}{us:List Ac}{vs:List V}(F:FnOk X.prog X.w X.K X.mg X.base CX k f fd ps sp)(hr:Room k X.A)(hb:Binds X.K fd ps ds)(hd:Vals dvs ds)(hx:zka CX X E)
  (I:Inv X pins σ H s) (r:Vals vs us) (h:sp (vs++dvs) H Q E):At (Ay X.prog X.w) X.A (call (.ref f) us) (EP X pins σ Q) X.xe s:=by
 have r2:Vals (vs++dvs) (us++ds):=r.append hd;have hl:(us++ds).length=ps.length:=by rw[<- r2.length];exact F.len _ _ _ _ h
 refine wpAny_call (codeAny_mono (F.run X.A X.stack s H ⟨us,[]⟩ (us++ds) (vs++dvs) Q E hr I.env0 (hb s us I.kIn hl) r2 h) λr s' hq=>?_)
 cases r with
 |error e=>exact hx pins σ H s e s' I hq
 |ok fl =>
  cases fl with
  |ret u=>exact I.after hq
  |next=>exact BK hq
  |brk=>exact BK hq
  |cont=>exact BK hq
theorem zlQ(F:FnOk X.prog X.w X.K X.mg X.base CX k f fd ps sp)(hr:Room k X.A)(hg:Gl X x)(hm:X.mg x=some (.ref f))(hk:W.keepIn X.K (.ref f)=true)(hb:Binds X.K fd ps ds)(hd:Vals dvs ds)(hx:zka CX X E)
  (ha:PA X (e::es) t) (hdb:(x == ("__debug__" : Str))=false:=by decide) (he:Bx (e::es) X.env=(false,eval e X.env)::Bx es X.env:=by rfl) (hpl:(backTo pos (Bx es X.env)).any (·.1)=false:=by rfl) :
  PE X (.Call (.Name x p) (e::es) [] pos) (tCall sp dvs E t):=by
 intro pins s σ H Q I h;refine C6 (zjB I hg hm ?_ hdb);refine W.callWith_K (h₀:=X.base) I.ok.mod.kin hk (thn (ha pos pins s σ H _ I h) λus s1 ⟨vs,H1,I1,r,q⟩=>⟨I1.kIn,?_⟩) he hpl;exact zmE F hr hb hd hx I1 r q
structure Mk (K:W.Frag) (C f:Addr):Prop where
 makes:W.makesIn K C=true
 init:W.findIn K (.ref C) "__init__" = some (some (.ref f))
 fn:W.isFn K (.ref f)=true
 kp:W.keepIn K (.ref C)=true
end
noncomputable def PK(X:Cx)(kws:List Keyword)(t:TA):Prop :=
 ∀(pos:Pos) (pins:List (Addr×Obj)) (s:Ae) (σ:St) (H:Hp) (Q:List V->Hp->Prop),Inv X pins σ H s->t σ H Q->At (Ay X.prog X.w) X.A (evalAll ((DK pos (CC kws X.env)).map (·.2))) (AP X pins σ Q) X.xe s
section
variable {X:Cx}{CX:CXT}{k:Nat}{f C:Addr}{fd:BM}{ps ks:List Str}{sp:Sp}{E:XK}{x m:Str}{p pos apos kpos:Pos}{e o:Expr}{es:List Expr}{kws:List Keyword}{te ta:TE}{t tk:TA}{nm:Option Str}
theorem zlj:PK X [] tNil:=λ_ _ _ _ H Q I h=>wpAny_evalAll_nil ⟨[],H,I,.nil,h⟩
theorem zjj(ha:PE X e te)(hr:PK X kws t):PK X (⟨nm,e,kpos⟩::kws) (tCons te t):=by intro pos pins s σ H Q I h;show At _ _ (evalAll ((do let v <- eval e X.env;standAt pos;pure v)::(DK pos (CC kws X.env)).map (·.2))) _ _ s;refine wpAny_evalAll_cons (Ab (thn (ha pins s σ H _ I h) λu s1 ⟨x,H1,I1,r1,q1⟩=>Ab (CB (Af ?_))));exact thn (hr pos pins s1 σ H1 _ I1 q1) λus s2 ⟨xs,H2,I2,r2,q2⟩=>⟨x::xs,H2,I2,.cons r1 r2,q2⟩
structure KBinds (K:W.Frag) (fd:BM) (ps ks:List Str) (g:List Ac->List Ac->List Ac) (gV:List V->List V->List V):Prop where
 to:∀(s:Ae) (us ws:List Ac),K.In s.heap->(g us ws).length=ps.length->BindsTo s fd ⟨us,ks.zip ws⟩ (ps.zip (g us ws))
 rel:∀{vs:List V} {us:List Ac} {zs:List V} {ws:List Ac},Vals vs us->Vals zs ws->Vals (gV vs zs) (g us ws)
variable {g:List Ac->List Ac->List Ac}{gV:List V->List V->List V}
end
structure FnScope (N P:List Str) (sc:Scope):Prop where
 kind:sc.kind=.function
 co:sc.isCoroutine=false
 gen:sc.isGenerator=false
 nd:N.Nodup
 pre:N.take P.length=P
 par:∀x∈P,sc.names.lookup x=some .local∨sc.names.lookup x=some .cell
 nofree:∀y∈sc.names,y.2≠.free
theorem zgH{kindOf:Str->Option NameKind}{x:Str}:∀{binds:List (Str×Ac)}{m:Str->Option Ac},(∀v,(x,v) ∉ binds)->bindL kindOf binds m x=m x
 |[],_,_=>rfl
 | (n,v)::r,m,h=>by
  unfold bindL;rw[zgH λw hw=>h w (Ap _ hw)];split
  .have:x≠n:=by rintro rfl;exact h v An
   simp[this]
  .rfl
theorem zgJ{kindOf:Str->Option NameKind}{x:Str}:∀{binds:List (Str×Ac)}{m:Str->Option Ac},(∀v,(x,v) ∉ binds)->bindC kindOf binds m x=m x
 |[],_,_=>rfl
 | (n,v)::r,m,h=>by
  unfold bindC;rw[zgJ λw hw=>h w (Ap _ hw)];split
  .rfl
  .have:x≠n:=by rintro rfl;exact h v An
   simp[this]
theorem zgI{kindOf:Str -> Option NameKind}{x:Str}{v:Ac} : ∀{P:List Str}{vs:List Ac}{i:Nat}{m:Str -> Option Ac}, P.Nodup -> P[i]? = some x -> vs[i]? = some v -> kindOf x=some .local ->
  bindL kindOf (P.zip vs) m x=some v
 |[],_,_,_,_,h,_,_=>by simp at h
 |_::_,[],_,_,_,_,h,_=>by simp at h
 |p::P,w::vs,0,m,nd,h1,h2,hk=>by
  simp at h1 h2;subst h1;subst h2;show bindL kindOf ((p,w)::P.zip vs) m p=_;unfold bindL;rw[zgH λv hv=>(BF.mp nd).1 (List.of_mem_zip hv).1,if_pos hk];simp
 |p::P,w::vs,i+1,m,nd,h1,h2,hk=>by
  show bindL kindOf ((p,w)::P.zip vs) m x=_;unfold bindL;exact zgI (i:=i) (BF.mp nd).2 (by simpa using h1) (by simpa using h2) hk
theorem zgK{kindOf:Str -> Option NameKind}{x:Str}{v:Ac} : ∀{P:List Str}{vs:List Ac}{i:Nat}{m:Str -> Option Ac}, P.Nodup -> P[i]? = some x -> vs[i]? = some v -> kindOf x ≠ some .local ->
  bindC kindOf (P.zip vs) m x=some v
 |[],_,_,_,_,h,_,_=>by simp at h
 |_::_,[],_,_,_,_,h,_=>by simp at h
 |p::P,w::vs,0,m,nd,h1,h2,hk=>by
  simp at h1 h2;subst h1;subst h2;show bindC kindOf ((p,w)::P.zip vs) m p=_;unfold bindC;rw[zgJ λv hv=>(BF.mp nd).1 (List.of_mem_zip hv).1,if_neg hk];simp
 |p::P,w::vs,i+1,m,nd,h1,h2,hk=>by
  show bindC kindOf ((p,w)::P.zip vs) m x=_;unfold bindC;exact zgK (i:=i) (BF.mp nd).2 (by simpa using h1) (by simpa using h2) hk
noncomputable def start(N:List Str)(vs:List V):St:=vs.map some++Aq (N.length-vs.length) none
noncomputable def cxOf(CX:CXT)(P:AR)(w:Be)(K:W.Frag)(mg:Str->Option Ac)(base:Heap)(N:List Str)(qual:Str)(scope:Scope)(f:Addr)(cd:Ac)(A:A3)(outer:List Env)(s:Ae)(H:Hp)(E:XK):Cx where
 prog:=P
 w:=w
 K:=K
 mg:=mg
 base:=base
 A:=A.deeper (envOfC qual scope s.heap.objs.size f cd)
 N:=N
 s₀:=s
 H₀:=H
 env:=envOfC qual scope s.heap.objs.size f cd
 outer:=outer
 stack:=envOfC qual scope s.heap.objs.size f cd::outer
 ex:=[]
 calm:=true
 fn:=λ_=>true
 pn:=[]
 xe:=λe s'=>At (Ay P w) (A.deeper (envOfC qual scope s.heap.objs.size f cd)) (leaving (envOfC qual scope s.heap.objs.size f cd) e) (λ_ s''=>CX outer H s E e s'') (λe' s''=>CX outer H s E e' s'') s'
theorem zih{sc:Scope}{n:Nat}{x:Str}(h:sc.names.lookup x=some .cell):∃c,(cellsFrom n sc.names []).lookup x=some c:=by have q:=W.cellsFrom_some sc.names n [] (.inl h);exact Option.isSome_iff_exists.mp q
theorem zjK{CX:CXT}{P:AR}{w:Be}{K:W.Frag}{mg:Str -> Option Ac}{base:Heap}{N ps:List Str}{qual:Str}{scope:Scope}{f:Addr}{cd:Ac}{A:A3}{outer:List Env}{s s1:Ae}{H:Hp}{E:XK}{us:List Ac}{vs:List V}
  (S:FnScope N ps scope) (hd:A.handled=none) (e0:Env0 P w K mg base A outer s H) (hl:vs.length=ps.length) (r:Vals vs us)
  (x:InCallC s s.heap.objs.size (bindL (envOfC qual scope s.heap.objs.size f cd).kindOf (ps.zip us) λ_=>none) (cellsFrom (s.heap.objs.size+1) scope.names []) (bindC (envOfC qual scope s.heap.objs.size f cd).kindOf (ps.zip us) λ_=>none) s1) :
  Inv (cxOf CX P w K mg base N qual scope f cd A outer s H E) [] (start N vs) H s1:=by
 have hpl:ps.length<=N.length:=by have:=congrArg List.length S.pre;rw[AQ]at this;lia
 obtain⟨h1,tk,rfl,hk⟩:=x.done;have noA:∀b:Addr,b ∉ (cxOf CX P w K mg base N qual scope f cd A outer s H E).ex:=λb z=>absurd (show b∈([]:List Addr) from z) (by simp)
 refine⟨⟨e0.mod,S.kind,rfl,rfl,Am _,λy z c h1 h2=>?_,λy hy=>?_,λy c _ h=>?_,λ_=>hd,Around.frames_deeper e0.frames,.inr ⟨rfl,rfl⟩,λb z=>absurd z (noA b),e0.bs,e0.bsz,λb _ _=>noA b,λb z=>absurd z (noA b),e0.funs,e0.frf⟩,
  rfl,e0.bare,Un.kept hk,⟨_,x.toInCall.ns,λi y v h1 h2 h3=>?_⟩,λy c h=>⟨_,x.cell y c h⟩,e0.hok.fresh (Am _),λy c h=>?_,λp hp=>absurd (show p∈([]:List (Addr×Obj)) from hp) (by simp),e0.hok.kept hk,?_⟩
 .exact name_of_addr x.apart (Ct h1) (Ct h2)
 .have hy:scope.names.lookup y=some .cell∨scope.names.lookup y=some .free:=hy;rcases hy with hy |hy
  .exact zih hy
  .exact absurd rfl (S.nofree _ (Ct hy))
 .exact BJ (x.above y c (Ct h))
 .have hi:i < vs.length := by
   unfold start at h2
   by_cases hi:i<vs.length
   .exact hi
   .rw[AK (by simpa using hi)]at h2;rw[List.getElem?_replicate]at h2;split at h2 <;> cases h2
  have ha:vs[i]?=some v:=by
   unfold start at h2;rw[Ax (by simpa using hi),AC]at h2
   cases e:vs[i]? with
   |none=>rw[e]at h2;cases h2
   |some a=>rw[e]at h2;cases h2;rfl
  obtain⟨u,hu,rv⟩:=r.get ha
  have hp:ps[i]?=some y:=by rw[<- S.pre,List.getElem?_take_of_lt (by lia)];exact h1
  have ndP:ps.Nodup:=by rw[<- S.pre];exact S.nd.sublist (B8 _ _)
  refine⟨u,rv,?_⟩;rcases S.par y (Aj hp) with k |k
  .exact .inl ⟨k,zgI ndP hp hu k⟩
  .obtain⟨c,e⟩:=zih (n:=s.heap.objs.size+1) k;refine .inr ⟨.inl k,c,e,?_⟩;have q:=x.cell y c e;rw[zgK ndP hp hu (by show scope.names.lookup y≠_;rw[k];decide)]at q;exact q
 .exact e0.hok.fresh (BJ (x.above y c (Ct h)))
 .unfold start;show _=N.length;rw[Ak,Ao,Cf];lia
theorem fn_of{CX:CXT}{P:AR}{w:Be}{K:W.Frag}{mg:Str -> Option Ac}{base:Heap}{k:Nat}{f:Addr}{name qual:Str}{params:Arguments}{body:List Stmt}{scope:Scope}{dV kV doc pm cdv ct oc:Ac}{an od:Option Addr}
  {osl:Array (Option Ac)} {N ps:List Str} {sp:Sp} (lk:K.lookup f=some ⟨oc,od,.func (C7 name qual params body scope dV kV doc pm an cdv ct),osl⟩) (hcd:W.codeIn K cdv qual=true) (S:FnScope N ps scope)
  (len:∀vs H Q E,sp vs H Q E->vs.length=ps.length)
  (hbody:∀(A:A3) (outer:List Env) (s:Ae) (H:Hp) (vs:List V) (Q:VK) (E:XK),Room k (A.deeper (envOfC qual scope s.heap.objs.size f cdv))->sp vs H Q E ->
   ∃t,PSs (cxOf CX P w K mg base N qual scope f cdv A outer s H E) body t/\t { nx:=λ_ H'=>Q .non H',rt:=Q } (start N vs) H) :
  FnOk P w K mg base CX (k+1) f (C7 name qual params body scope dV kV doc pm an cdv ct) ps sp:=by
 refine⟨len,λA outer s H args us vs Q E hr e0 hb r hsp=>?_⟩;have hl:=len _ _ _ _ hsp;have KX:K.In s.heap:=e0.mod.kin.keeps λb o e=>(e0.bs b o e).1
 have lim:s.heap.NoLimit:=e0.mod.nolimit.keeps λb o e=>(e0.bs b o e).1
 have hkind:∀y∈ps.zip us,scope.names.lookup y.1=some .local∨(scope.names.lookup y.1=some .cell/\((cellsFrom (s.heap.objs.size+1) scope.names []).lookup y.1).isSome=true):=λ⟨n,v⟩ hy=>by
  rcases S.par n (List.of_mem_zip hy).1 with q |q
  .exact .inl q
  .exact .inr ⟨q,W.cellsFrom_some _ _ _ (.inl q)⟩
 refine codeAny_call_function hr.depth (KX _ _ lk) rfl S.co S.gen rfl (W.codeRec_of KX hcd) (hb _ _ _ _ ?_);refine wpAny_newFunctionEnv_cells S.kind hkind λenv he s1 x=>?_
 subst he;refine⟨lim.keeps x.toInCall.keep,codeAny_func ?_⟩;obtain⟨t,ht,hq⟩:=hbody A outer s H vs Q E (hr.deeper _) hsp;have I:Inv (cxOf CX P w K mg base N qual scope f cdv A outer s H E) [] (start N vs) H s1:=zjK S hr.hd e0 hl r x;refine BY (ht [] s1 (start N vs) H _ I hq) (λfl s' hs=>?_) λe s' hs=>hs
 have fin:∀{σ':St} {H':Hp} {v:V} {u:Ac},Inv (cxOf CX P w K mg base N qual scope f cdv A outer s H E) [] σ' H' s'->RelV v u->Q v H'->CE outer P w H s Q u s' :=
  λ{σ' H' v u} J rv q=>⟨v,H',J.os,J.bare,J.base,J.hok,rv,q⟩
 cases fl with
 |ret u =>
  obtain⟨v,σ',H',J,rv,q⟩:=hs;exact fin J rv q
 |next =>
  obtain⟨σ',H',J,q⟩:=hs;exact fin (v:=V.non) (u:=Cq) J rfl q
 |brk =>
  obtain⟨_,_,_,q⟩:=hs;exact BK q
 |cont =>
  obtain⟨_,_,_,q⟩:=hs;exact BK q
section
variable {X:Cx}{x:Str}{p pos:Pos}{e:Expr}{es:List Expr}{t:TA}{id T:String}{r:List V->Hp->VK->Prop}
noncomputable def tCB(r:List V->Hp->VK->Prop)(t:TA):TE:=λσ H Q=>t σ H λvs H1=>r vs H1 Q
theorem zaT (hc:CallR X (.builtin id) r) (hg:Gl X x) (hm:X.mg x=none) (hv:bootBuiltins x=some (.builtin id)) (ha:PA X (e :: es) t) (hn:x ≠ "__name__" := by decide) (hdb:(x == ("__debug__" : Str))=false := by decide)
  (he:Bx (e::es) X.env=(false,eval e X.env)::Bx es X.env:=by rfl) (hpl:(backTo pos (Bx es X.env)).any (·.1)=false:=by rfl):PE X (.Call (.Name x p) (e::es) [] pos) (tCB r t):=by
 intro pins s σ H Q I h;refine C6 (zeZ I hg hm hv ?_ hn hdb);exact PyProof.Rows.callWith_builtin1 (thn (ha pos pins s σ H _ I h) λus s1 ⟨vs,H1,I1,r1,q1⟩=>hc pins s1 σ H1 vs us Q I1 r1 q1) he hpl
theorem zbT (hc:CallR X (.type T) r) (hg:Gl X x) (hm:X.mg x=none) (hv:bootBuiltins x=some (.type T)) (ha:PA X (e :: es) t) (hn:x ≠ "__name__" := by decide) (hdb:(x == ("__debug__" : Str))=false := by decide)
  (he:Bx (e::es) X.env=(false,eval e X.env)::Bx es X.env:=by rfl) (hpl:(backTo pos (Bx es X.env)).any (·.1)=false:=by rfl):PE X (.Call (.Name x p) (e::es) [] pos) (tCB r t):=by
 intro pins s σ H Q I h;refine C6 (zeZ I hg hm hv ?_ hn hdb);exact Dl (thn (ha pos pins s σ H _ I h) λus s1 ⟨vs,H1,I1,r1,q1⟩=>hc pins s1 σ H1 vs us Q I1 r1 q1) he hpl
end
section
variable {κ:Type} [DecidableEq κ]
noncomputable def valV(kvs:List (κ×V))(k:κ):Option V:=(kvs.find? λkv=>decide (kv.1=k)).map (·.2)
noncomputable def putK(kvs:List (κ×V))(k:κ)(v:V):List (κ×V) :=
 if (kvs.any λkv=>decide (kv.1=k))=true then kvs.map (λkv=>if kv.1=k then (kv.1,v) else kv) else kvs++[(k,v)]
noncomputable def dropK(kvs:List (κ×V))(k:κ):List (κ×V):=kvs.filter λkv=>decide (kv.1≠k)
theorem zbg{p:κ×V}{r:List (κ×V)}{k:κ}(e:p.1=k):valV (p::r) k=some p.2:=by simp[valV,CQ,e]
theorem zbh{p:κ×V}{r:List (κ×V)}{k:κ}(e:¬ p.1=k):valV (p::r) k=valV r k:=by simp[valV,CQ,e]
theorem zcJ(k:κ):∀kvs:List (κ×V),(kvs.any λkv=>decide (kv.1=k))=(valV kvs k).isSome
 |[]=>rfl
 |p::r=>by
  rw[List.any_cons]
  by_cases e:p.1=k
  .simp only[zbg e,decide_eq_true e,Bool.true_or,Option.isSome_some]
  .rw[zbh e,decide_eq_false e,Bool.false_or];exact zcJ k r
theorem zhn(k j:κ)(y:V):∀kvs:List (κ×V),valV (kvs.map λkv=>if kv.1=k then (kv.1,y) else kv) j=(valV kvs j).map λx=>if j=k then y else x
 |[]=>rfl
 |p::r=>by
  have ih:=zhn k j y r;rw[A7]
  by_cases h:p.1=k
  .rw[if_pos h]
   by_cases e:p.1=j
   .rw[zbg (p:=(p.1,y)) e,zbg e,De,if_pos (e.symm.trans h)]
   .rw[zbh (p:=(p.1,y)) e,zbh e,ih]
  .rw[if_neg h]
   by_cases e:p.1=j
   .rw[zbg (p:=p) e,zbg e,De,if_neg (λz=>h (e.trans z))]
   .rw[zbh (p:=p) e,zbh e,ih]
theorem zf5(k j:κ)(y:V):∀kvs:List (κ×V),valV kvs k=none->valV (kvs++[(k,y)]) j=if j=k then some y else valV kvs j
 |[],_=>by
  by_cases e:k=j
  .rw[if_pos e.symm];exact zbg (p:=(k,y)) e
  .rw[if_neg (λz=>e z.symm)];exact zbh (p:=(k,y)) e
 |p::r,hn=>by
  rw[List.cons_append];have hk:¬ p.1=k:=λz=>by rw[zbg z]at hn;cases hn
  rw[zbh hk]at hn;have ih:=zf5 k j y r hn
  by_cases e:p.1=j
  .rw[zbg e,zbg e,if_neg (λz=>hk (e.trans z))]
  .rw[zbh e,zbh e,ih]
theorem zcI(kvs:List (κ×V))(k j:κ)(y:V):valV (putK kvs k y) j=if j=k then some y else valV kvs j:=by
 unfold putK
 by_cases a:(kvs.any λkv=>decide (kv.1=k))=true
 .rw[if_pos a,zhn];rw[zcJ]at a
  by_cases e:j=k
  .obtain⟨x,hx⟩:=Option.isSome_iff_exists.mp a;rw[if_pos e,e,hx,De,if_pos rfl]
  .rw[if_neg e]
   cases valV kvs j with
   |none=>rfl
   |some x=>rw[De,if_neg e]
 .rw[if_neg a];refine zf5 k j y kvs ?_
  rw[zcJ]at a
  cases q:valV kvs k with
  |none=>rfl
  |some x=>rw[q]at a;exact (a rfl).elim
theorem zaR(kvs:List (κ×V))(k:κ)(v:V):(putK kvs k v).length<=kvs.length+1:=by
 unfold putK;split
 .rw[Ao];lia
 .rw[Ak,A5,Cd];lia
theorem zfn{kvs:List (κ×V)}{k:κ}(v:V)(h:valV kvs k=none):putK kvs k v=kvs++[(k,v)]:=by unfold putK;rw[zcJ,h];exact if_neg (by decide)
theorem RelO.isSome_eq{o:Option V}{u:Option Ac}(r:RelO o u):o.isSome=u.isSome:=by
 cases o with
 |none=>cases u with
  |none=>rfl
  |some _=>exact (show False from r).elim
 |some _=>cases u with
  |none=>exact (show False from r).elim
  |some _=>rfl
theorem RelO.getD{o:Option V}{u:Option Ac}{d:V}{d':Ac}(r:RelO o u)(rd:RelV d d'):RelV (o.getD d) (u.getD d'):=by
 cases o with
 |none=>cases u with
  |none=>exact rd
  |some _=>exact (show False from r).elim
 |some _=>cases u with
  |none=>exact (show False from r).elim
  |some _=>exact r
theorem KV.val{kvs:List (κ×V)}{vs:List (κ×Ac)}(r:KV kvs vs)(k:κ):RelO (valV kvs k) (valueAt vs k):=by
 unfold KV at r
 induction r with
 |nil=>exact Du
 |@cons p q ps qs h t ih =>
  obtain⟨h1,h2⟩:=h
  by_cases e:p.1=k
  .have e':q.1=k:=h1.symm.trans e;have b:valueAt (q::qs) k=some q.2:=by simp[valueAt,CQ,e']
   rw[zbg e,b];exact h2
  .have e':¬ q.1=k:=λz=>e (h1.trans z)
   have b:valueAt (q::qs) k=valueAt qs k:=by simp[valueAt,CQ,e']
   rw[zbh e,b];exact ih
theorem KV.any{kvs:List (κ×V)}{vs:List (κ×Ac)}(r:KV kvs vs)(k:κ):(kvs.any λkv=>decide (kv.1=k))=vs.any λkv=>decide (kv.1=k):=by
 unfold KV at r
 induction r with
 |nil=>rfl
 |cons h t ih=>rw[List.any_cons,List.any_cons,ih,h.1]
theorem KV.repl{kvs:List (κ × V)}{vs:List (κ × Ac)}(r:KV kvs vs)(k : κ){y:V}{u:Ac}(ry:RelV y u) :
  KV (kvs.map λkv=>if kv.1=k then (kv.1,y) else kv) (vs.map λkv=>if kv.1=k then (kv.1,u) else kv):=by
 unfold KV at r ⊢
 induction r with
 |nil=>exact .nil
 |@cons p q ps qs h t ih =>
  rw[A7,A7];refine .cons ?_ ih;obtain⟨h1,h2⟩:=h
  by_cases e:p.1=k
  .rw[if_pos e,if_pos (h1.symm.trans e)];exact⟨h1,ry⟩
  .rw[if_neg e,if_neg (λz=>e (h1.trans z))];exact⟨h1,h2⟩
theorem KV.put{kvs:List (κ×V)}{vs:List (κ×Ac)}(r:KV kvs vs)(k:κ){y:V}{u:Ac}(ry:RelV y u):KV (putK kvs k y) (stored vs k u):=by
 unfold putK stored;rw[r.any k]
 by_cases e:(vs.any λkv=>decide (kv.1=k))=true
 .rw[if_pos e,if_pos e];exact r.repl k ry
 .rw[if_neg e,if_neg e];exact Paired.snoc r ⟨rfl,ry⟩
theorem KV.length{kvs:List (κ×V)}{vs:List (κ×Ac)}(r:KV kvs vs):kvs.length=vs.length:=CY r
theorem zkW(kvs:List (κ×V))(k:κ):(dropK kvs k).length<=kvs.length:=AI _ _
end
theorem kV_is{P:AR}{w:Be}{k:Key}{u:Ac}(r:RelV (kV k) u):(zaE P w).is k u=true:=by
 cases k with
 |inl i=>obtain⟨t,e⟩:=(show ∃t,u=Value.int i t from r);subst e;exact zha P w i t
 |inr x=>obtain⟨t,e⟩:=(show ∃t,u=Value.str x t from r);subst e;exact zbV P w x t
theorem zgy{P:AR}{w:Be}:∀{ks:List Key}{us:List Ac},Vals (ks.map kV) us->ItemsAre (zaE P w) ks us
 |[],_,r=>by rw[List.map_nil]at r;cases r;exact .nil
 |k::ks,_,r=>by
  rw[A7]at r
  cases r with
  |cons h t=>exact .cons (kV_is h) (zgy t)
noncomputable abbrev KT(H:Hp):List (List Key×V)->List (List Key×Addr×Ac)->Prop:=Paired λp q=>p.1=q.1/\H q.2.1=some (.tup (p.1.map kV))/\RelV p.2 q.2.2
theorem KT.val{H:Hp}{kvs:List (List Key×V)}{xs:List (List Key×Addr×Ac)}(r:KT H kvs xs)(k:List Key):RelO (valV kvs k) ((DL xs k).map (·.2)):=by
 induction r with
 |nil=>exact Du
 |@cons p q ps qs h t ih =>
  obtain⟨h1,_,h2⟩:=h
  by_cases e:p.1=k
  .have e':q.1=k:=h1.symm.trans e;have b:DL (q::qs) k=some q.2:=by simp[DL,CQ,e']
   rw[zbg e,b];exact h2
  .have e':¬ q.1=k:=λz=>e (h1.trans z)
   have b:DL (q::qs) k=DL qs k:=by simp[DL,CQ,e']
   rw[zbh e,b];exact ih
theorem KT.repl{H:Hp}{kvs:List (List Key × V)}{xs:List (List Key × Addr × Ac)}(r:KT H kvs xs)(k:List Key){y:V}{u:Ac}(ry:RelV y u) :
  KT H (kvs.map λkv=>if kv.1=k then (kv.1,y) else kv) (xs.map (putAt k u)):=by
 induction r with
 |nil=>exact .nil
 |@cons p q ps qs h t ih =>
  rw[A7,A7];refine .cons ?_ ih;obtain⟨h1,h2,h3⟩:=h;unfold putAt
  by_cases e:p.1=k
  .rw[if_pos e,if_pos (h1.symm.trans e)];exact⟨h1,h2,ry⟩
  .rw[if_neg e,if_neg (λz=>e (h1.trans z))];exact⟨h1,h2,h3⟩
theorem KT.put{H:Hp}{kvs:List (List Key × V)}{xs:List (List Key × Addr × Ac)}(r:KT H kvs xs)(k:List Key){b:Addr}{y:V}{u:Ac}(hb:H b=some (.tup (k.map kV)))(ry:RelV y u) :
  KT H (putK kvs k y) (storedH xs k b u):=by
 have e:(kvs.any λkv=>decide (kv.1=k))=(DL xs k).isSome:=by rw[zcJ,(r.val k).isSome_eq,Option.isSome_map]
 unfold putK storedH;rw[e]
 by_cases q:(DL xs k).isSome=true
 .rw[if_pos q,if_pos q];exact r.repl k ry
 .rw[if_neg q,if_neg q];exact Paired.snoc r ⟨rfl,hb,ry⟩
theorem KT.keeps{H H':Hp}{kvs:List (List Key×V)}{xs:List (List Key×Addr×Ac)}(r:KT H kvs xs)(ht:∀b ys,H b=some (.tup ys)->H' b=some (.tup ys)):KT H' kvs xs :=
 Paired.mapP r λ_ _ z=>⟨z.1,ht _ _ z.2.1,z.2.2⟩
section
variable {P:AR}{w:Be}{H:Hp}{h:Heap}{a:Addr}
theorem rd_of{u:HO}(ok:HOk P w H h)(e:Rd H a u):ObjOk P w H h a u:=e.ok ok
theorem dk_rd{kvs:List (Key×V)}(ok:HOk P w H h)(e:Rd H a (.dK kvs)):kvs.length<=sizeLine/\(a == BR)=false/\∃vs,KV kvs vs/\h.DictOf (zaE P w) a vs :=
 show ObjOk P w H h a (.dK kvs) from rd_of ok e
theorem dk_of{kvs:List (Key×V)}(ok:HOk P w H h)(e:H a=some (.dK kvs)):kvs.length<=sizeLine/\(a == BR)=false/\∃vs,KV kvs vs/\h.DictOf (zaE P w) a vs:=dk_rd ok (.inl e)
theorem zdC{ks:List Key}(ok:HOk P w H h)(e:H a=some (.tup (ks.map kV))):(DC (zaE P w)).is h ks a:=by obtain⟨_,its,r,o,h1,h2,n,h3⟩:=(show ObjOk P w H h a (.tup (ks.map kV)) from ok a _ e);exact⟨o,its.toArray,n,h1,h2,h3,by simpa using zgy r⟩
theorem dt_rd{kvs:List (List Key × V)}(ok:HOk P w H h)(e:Rd H a (.dT kvs)):kvs.length <= sizeLine /\ (a == BR)=false /\
  ∃xs,KT H kvs xs/\h.DictOfH (DC (zaE P w)) a xs:=by
 obtain⟨z,y,xs,r,o,es,ep,h1,h2,h3,h4,h5⟩:=(show ObjOk P w H h a (.dT kvs) from rd_of ok e);refine⟨z,y,xs,r,o,es,ep,h1,h2,h3,h4,λx hx=>?_,h5⟩
 have all:∀{l:List (List Key×V)} {m:List (List Key×Addr×Ac)},KT H l m->∀x∈m,(DC (zaE P w)).is h x.1 x.2.1:=by
  intro l m q
  induction q with
  |nil=>intro x hx;exact nomatch hx
  |@cons p q ps qs hq t ih =>
   intro x hx;rcases AM.mp hx with e |hx
   .subst e;exact zdC ok (by rw[<- hq.1];exact hq.2.1)
   .exact ih x hx
 exact all r x hx
theorem dt_of{kvs:List (List Key × V)}(ok:HOk P w H h)(e:H a=some (.dT kvs)):kvs.length <= sizeLine /\ (a == BR)=false /\
  ∃xs,KT H kvs xs/\h.DictOfH (DC (zaE P w)) a xs:=dt_rd ok (.inl e)
end
noncomputable def DGet(H:Hp)(a:Addr)(y:V)(r:Option V):Prop :=
 (∃kvs k,Rd H a (.dK kvs)/\y=kV k/\r=valV kvs k)∨∃kvs k b,Rd H a (.dT kvs)/\y=.ref b/\H b=some (.tup (k.map kV))/\r=valV kvs k
noncomputable def DPut(H:Hp)(a:Addr)(y v:V)(H':Hp):Prop :=
 (∃kvs k,H a=some (.dK kvs)/\y=kV k/\kvs.length<sizeLine/\H'=upd H a (.dK (putK kvs k v))) ∨
 ∃kvs k b,H a=some (.dT kvs)/\y=.ref b/\H b=some (.tup (k.map kV))/\kvs.length<sizeLine/\H'=upd H a (.dT (putK kvs k v))
section
variable {X:Cx}{pins:List (Addr×Obj)}{σ:St}{H:Hp}{s:Ae}{a:Addr}{y v:V}{u r:Ac}{o:Option V}{A:A3}{E:Ac->Ae->Prop}
theorem Inv.big(I:Inv X pins σ H s):BR<s.heap.objs.size:=by have h:AJ<s.heap.objs.size:=(I.mod.glob.keeps I.bk).lt;exact Nat.lt_trans (by decide) h
theorem d_in{Q:Ac -> Ae -> Prop}(hu:A.units + 1 < cLine)(I:Inv X pins σ H s)(g:DGet H a y o)(ry:RelV y u)(h:∀s', Inv X pins σ H s' -> Q (.bool o.isSome) s') :
  At (Ay X.prog X.w) A (BB .In u (.ref a)) Q E s:=by
 rcases g with⟨kvs,k,e,ey,l⟩ |⟨kvs,k,b,e,ey,eb,l⟩
 .subst ey;obtain⟨z,hd,vs,rel,dd⟩:=dk_rd I.hok e;refine wpAny_in_of (kV_is ry) hd dd.mapOf ?_
  rw[<- (rel.val k).isSome_eq,<- l];exact h _ (I.tok _)
 .subst ey
  cases (show u=Aw b from ry)
  obtain⟨z,hd,xs,rel,dd⟩:=dt_rd I.hok e;refine wpAny_in_heap (CF hu) (zdC I.hok eb) hd dd ?_
  have q:=(rel.val k).isSome_eq;rw[Option.isSome_map]at q;rw[<- q,<- l];exact h _ (I.tok _)
theorem zmd{Q:Ac -> Ae -> Prop}(hu:A.units + 1 < cLine)(I:Inv X pins σ H s)(g:DGet H a y o)(ry:RelV y u)(h:∀s', Inv X pins σ H s' -> Q (.bool (!o.isSome)) s') :
  At (Ay X.prog X.w) A (BB .NotIn u (.ref a)) Q E s:=by
 rcases g with⟨kvs,k,e,ey,l⟩ |⟨kvs,k,b,e,ey,eb,l⟩
 .subst ey;obtain⟨z,hd,vs,rel,dd⟩:=dk_rd I.hok e;refine wpAny_notIn_of (kV_is ry) hd dd.mapOf ?_
  rw[<- (rel.val k).isSome_eq,<- l];exact h _ (I.tok _)
 .subst ey
  cases (show u=Aw b from ry)
  obtain⟨z,hd,xs,rel,dd⟩:=dt_rd I.hok e;refine wpAny_notIn_heap (CF hu) (zdC I.hok eb) hd dd ?_
  have q:=(rel.val k).isSome_eq;rw[Option.isSome_map]at q;rw[<- q,<- l];exact h _ (I.tok _)
theorem zc7{h':Heap}{t':Nat}{ob:HO}(I:Inv X pins σ H s)(mu:Mut (H a))(hs:Cj a s.heap h')(he:∃q, h'.get? a=some q)(new:ObjOk X.prog X.w (upd H a ob) h' a ob) :
  Inv X pins σ (upd H a ob) { s with heap:=h',toks:=t' } :=
 I.write (x:=a) (e:=a) mu (.inl rfl) (λb q hb z=>(hs.2 b hb).trans z) he new
theorem zjT{P:AR}{w:Be}{H':Hp}{h':Heap}{kvs:List (Key × V)}{vs:List (Key × Ac)}(z:kvs.length <= sizeLine)(hd:(a == BR)=false)(rel:KV kvs vs)(dd:h'.DictOf (zaE P w) a vs) :
  ObjOk P w H' h' a (.dK kvs):=⟨z,hd,vs,rel,dd⟩
theorem zjY{H':Hp}{Q:Unit -> Ae -> Prop}(hu:A.units + 1 < cLine)(I:Inv X pins σ H s)(g:DPut H a y v H')(ry:RelV y u)(rv:RelV v r)(h:∀s', Inv X pins σ H' s' -> Q () s') :
  At (Ay X.prog X.w) A (setItem (.ref a) u r) Q E s:=by
 rcases g with⟨kvs,k,e,ey,l,eH⟩ |⟨kvs,k,b,e,ey,eb,l,eH⟩
 .subst ey eH;obtain⟨z,hd,vs,rel,dd⟩:=dk_of I.hok e;have hz:vs.length<=sizeLine:=by rw[<- rel.length];exact z
  have hl:(putK kvs k v).length<=sizeLine:=by have:=zaR kvs k v;lia
  refine wpAny_setItem_pairs (hsz:=hz) (kV_is ry) dd λh' dd' hs=>h _ ?_
  have he:∃q,h'.get? a=some q:=let ⟨q,_,_,hq,_⟩:=dd';⟨q,hq⟩
  exact zc7 I (by rw[e];exact Du) hs he (zjT hl hd (rel.put k rv) dd')
 .subst ey eH
  cases (show u=Aw b from ry)
  obtain⟨z,hd,xs,rel,dd⟩:=dt_of I.hok e;have hz:xs.length<=sizeLine:=by rw[<- CY rel];exact z
  have hl:(putK kvs k v).length<=sizeLine:=by have:=zaR kvs k v;lia
  refine wpAny_setItem_heap (hsz:=hz) (CF hu) (zdC I.hok eb) dd λh' dd' hs=>h _ ?_
  obtain⟨q,es,ep,hq,h2,h3,h4,_,h5⟩:=dd';refine zc7 I (by rw[e];exact Du) hs ⟨q,hq⟩ ⟨hl,hd,_,(rel.put k eb rv).keeps λc ys ec=>?_,q,es,ep,hq,h2,h3,h4,h5⟩;rw[zai (ne_of ec e (λz=>nomatch z))];exact ec
end
section
variable {X:Cx}{pins:List (Addr×Obj)}{σ:St}{H:Hp}{s:Ae}{a:Addr}{kvs:List (Key×V)}{k:Key}{u:Ac}{A:A3}{E:Ac->Ae->Prop}
end
noncomputable def NoSl(i:Expr):Prop:=∀ov iv,subscripted i false ov iv=operate [ov,iv] (getItem ov iv)
theorem ziT{prog:AR}{w:Be}{A:A3}{E:Ac -> Ae -> Prop}{s:Ae}{env:Env}{value slice:Expr}{pos:Pos}{T id:String}{Q:Ac -> Ae -> Prop}
  (hl:typeLookup (.type T) "__getitem__" = pure (some (.builtin id))) (hs:NoSl slice)
  (h:At (Ay prog w) A (eval value env) (λo s₁=>At (Ay prog w) A (eval slice env) (λi s₂=>s₂.TypeIs o T/\At (Ay prog w) A (getItem o i) Q E s₂) E s₁) E s) :
  At (Ay prog w) A (eval (.Subscript value slice pos) env) Q E s:=by
 refine Subscript_ (BY h (λo s₁ h₁=>BY h₁ (λi s₂ h₂=>?_) λ_ _ x=>x) λ_ _ x=>x);obtain⟨hT,h₂⟩:=h₂;unfold subscriptTail;refine Ab ?_
 rw[getitemInPython_of_ne hT.not_modules];refine Ab (wpAny_specialOf hT hl ?_)
 have fin:At (Ay prog w) A (subscripted slice false o i) (λr s₃=>At (Ay prog w) A (letTemporaryGo value o r >>= λ_=>pure r) Q E s₃) E s₂:=by rw[hs o i];exact wpAny_operating (BY h₂ (λr s₃ h₃=>Ab (wpAny_letTemporaryGo (Af h₃))) λ_ _ x=>x)
 first
  |exact Af (Ab fin)
  |exact Ab (Af (Ab fin))
  |exact Ab fin
noncomputable def tDIn(ty td:TE):TE:=λσ H Q=>ty σ H λy H1=>td σ H1 λx H2=>∃a o,x=.ref a/\DGet H2 a y o/\Q (.bl o.isSome) H2
noncomputable def zlD(ty td:TE):TE:=λσ H Q=>ty σ H λy H1=>td σ H1 λx H2=>∃a o,x=.ref a/\DGet H2 a y o/\Q (.bl (!o.isSome)) H2
noncomputable def sDPut(td ty tv:TE):TS:=λD σ H=>tv σ H λv H1=>td σ H1 λx H2=>ty σ H2 λy H3=>∃a H4,x=.ref a/\DPut H3 a y v H4/\D.nx σ H4
section
variable {X:Cx}{o i e value:Expr}{pos pos' tpos:Pos}{td ty tv:TE}
theorem zll(hu:X.A.units+1<cLine)(hi:PE X i ty)(ho:PE X o td):PC X .In i o (tDIn ty td):=by
 intro pins s σ H Q I h;refine thn (hi pins s σ H _ I h) λiv s1 ⟨y,H1,I1,ry,q1⟩=>thn (ho pins s1 σ H1 _ I1 q1) λu s2 ⟨x,H2,I2,rx,a,ov,ex,g,q2⟩=>?_
 subst ex;obtain rfl:u=Aw a:=rx;exact d_in hu I2 g ry λs3 I3=>⟨.bl ov.isSome,H2,I3,rfl,q2⟩
theorem zgn(hu:X.A.units+1<cLine)(hi:PE X i ty)(ho:PE X o td):PC X .NotIn i o (zlD ty td):=by
 intro pins s σ H Q I h;refine thn (hi pins s σ H _ I h) λiv s1 ⟨y,H1,I1,ry,q1⟩=>thn (ho pins s1 σ H1 _ I1 q1) λu s2 ⟨x,H2,I2,rx,a,ov,ex,g,q2⟩=>?_
 subst ex;obtain rfl:u=Aw a:=rx;exact zmd hu I2 g ry λs3 I3=>⟨.bl (!ov.isSome),H2,I3,rfl,q2⟩
theorem zjf(hu:X.A.units + 1 < cLine)(ho:PE X o td)(hi:PE X i ty)(hv:PE X value tv)(hs:swapsWith value (some (.Subscript o i pos')) pos.line X.env=pure false) :
  PS X (.Assign [.Subscript o i pos'] value pos) (sDPut td ty tv):=by
 intro pins s σ H D I h;refine wpAny_Assign_Subscript (thn (hv pins s σ H _ I h) λr s1 ⟨v,H1,I1,rv,q1⟩=>thn (ho pins s1 σ H1 _ I1 q1) λu s2 ⟨x,H2,I2,rx,q2⟩=>thn (hi pins s2 σ H2 _ I2 q2) λiv s3 ⟨y,H3,I3,ry,a,H4,ex,g,q3⟩=>?_) hs;subst ex;obtain rfl:u=Aw a:=rx;exact zjY hu I3 g ry rv λs4 I4=>⟨σ,H4,I4,q3⟩
end
theorem zkX {P:AR}{w:Be}{H:Hp}(h:Heap) (hb:BR<h.objs.size):ObjOk P w H (h.push { cls:=.type "dict",data:=.dict #[] }) h.objs.size (.dK []) :=
 ⟨A9 _,beq_eq_false_iff_ne.mpr (BW (A4 hb)),[],.nil,Heap.DictOf.new h⟩
theorem zfN {P:AR}{w:Be}{H:Hp}(h:Heap) (hb:BR<h.objs.size):ObjOk P w H (h.push { cls:=.type "dict",data:=.dict #[] }) h.objs.size (.dT []) :=
 ⟨A9 _,beq_eq_false_iff_ne.mpr (BW (A4 hb)),[],.nil,_,#[],0,AF _ rfl,⟨rfl,rfl,rfl⟩,rfl,rfl,List.nodup_nil⟩
noncomputable def zms:TE:=λ_ H Q=>∀p,H p=none->Q (.ref p) (upd H p (.dK []))
noncomputable def zmr:TE:=λ_ H Q=>∀p,H p=none->Q (.ref p) (upd H p (.dT []))
section
variable {X:Cx}{pos:Pos}
theorem zky:PE X (.Dict [] [] pos) zms:=λpins s σ H Q I h =>
 wpAny_Dict_empty ⟨.ref s.heap.objs.size,_,I.laid (a:=s.heap.objs.size) (o:=.dK []) (t':=s.toks) (λ_ _ q=>Ag _ q) (Am _) (zkX s.heap I.big),rfl,h _ (I.hok.fresh (Am _))⟩
theorem zhJ:PE X (.Dict [] [] pos) zmr:=λpins s σ H Q I h =>
 wpAny_Dict_empty ⟨.ref s.heap.objs.size,_,I.laid (a:=s.heap.objs.size) (o:=.dT []) (t':=s.toks) (λ_ _ q=>Ag _ q) (Am _) (zfN s.heap I.big),rfl,h _ (I.hok.fresh (Am _))⟩
end
structure M1 (X:Cx) (o:Expr) (m:Str) (apos:Pos) (e:Expr) (cpos:Pos):Prop where
 base:attributeBase o m X.env (eval o X.env)=eval o X.env
 few:((backTo cpos (Bx [e] X.env)).all (λx=>!x.1) && (DK cpos (CC [] X.env)).all (λx=>x.1.isSome)
  && decide (([e]:List Expr).length+([]:List Keyword).length+(if ([]:List Keyword).isEmpty then 0 else 1)<30))=true
 line:(apos.endLine == cpos.line)=true
 trees:backTo cpos (Bx [e] X.env)=[(false,eval e X.env)]
structure M2 (X:Cx) (o:Expr) (m:Str) (apos:Pos) (e f:Expr) (cpos:Pos):Prop where
 base:attributeBase o m X.env (eval o X.env)=eval o X.env
 few:((backTo cpos (Bx [e,f] X.env)).all (λx=>!x.1) && (DK cpos (CC [] X.env)).all (λx=>x.1.isSome)
  && decide (([e,f]:List Expr).length+([]:List Keyword).length+(if ([]:List Keyword).isEmpty then 0 else 1)<30))=true
 line:(apos.endLine == cpos.line)=true
 trees:backTo cpos (Bx [e,f] X.env)=[(false,eval e X.env),(false,eval f X.env)]
noncomputable def IsD(H:Hp)(a:Addr):Prop:=(∃kvs,Rd H a (.dK kvs))∨∃kvs,Rd H a (.dT kvs)
theorem zjJ{X:Cx}{pins:List (Addr × Obj)}{σ : St}{H:Hp}{s:Ae}{a:Addr}(I:Inv X pins σ H s)(d:IsD H a) :
  s.TypeIs (.ref a) "dict" /\ (∀b,Aw a=.ref b->∃ob,s.heap.get? b=some ob/\ob.dict=none)/\(a == BR)=false:=by
 rcases d with⟨kvs,e⟩ |⟨kvs,e⟩
 .obtain⟨_,hd,vs,_,dd⟩:=dk_rd I.hok e;refine⟨dd.typeIs,λb q=>?_,hd⟩
  cases q
  obtain⟨ob,_,_,h1,h2,_⟩:=dd;exact⟨ob,h1,h2.2.1⟩
 .obtain⟨_,hd,xs,_,dd⟩:=dt_rd I.hok e;refine⟨dd.typeIs,λb q=>?_,hd⟩
  cases q
  obtain⟨ob,_,_,h1,h2,_⟩:=dd;exact⟨ob,h1,h2.2.1⟩
section
variable {X:Cx}{pins:List (Addr×Obj)}{σ:St}{H:Hp}{s:Ae}{a:Addr}{y d:V}{u r:Ac}{o:Option V}{A:A3}{E:Ac->Ae->Prop}
theorem zmY{Q:Ac -> Ae -> Prop}(hu:A.units + 1 < cLine)(I:Inv X pins σ H s)(g:DGet H a y o)(ry:RelV y u)(rd:RelV d r)(h:∀w' s', Inv X pins σ H s' -> RelV (o.getD d) w' -> Q w' s') :
  At (Ay X.prog X.w) A (call (.builtin "dict.get") [.ref a,u,r]) Q E s:=by
 rcases g with⟨kvs,k,e,ey,l⟩ |⟨kvs,k,b,e,ey,eb,l⟩
 .subst ey;obtain⟨z,hd,vs,rel,dd⟩:=dk_rd I.hok e;refine call_meetsIn PySem.F.slot_dict_get dd.typeIs PySem.F.entry_dict_get (PySem.F.args_dict_get_3 _ _ _) (meets_dict_get_default (zaE X.prog X.w) a (kV_is ry) hd r) ⟨_,dd.mapOf,h _ _ (I.tok _) ?_⟩;rw[l];exact (rel.val k).getD rd
 .subst ey
  cases (show u=Aw b from ry)
  obtain⟨z,hd,xs,rel,dd⟩:=dt_rd I.hok e;refine call_meetsIn PySem.F.slot_dict_get dd.typeIs PySem.F.entry_dict_get (PySem.F.args_dict_get_3 _ _ _) (meetsH_dict_get_default (DC (zaE X.prog X.w)) a b hd r) ⟨CF hu,k,xs,zdC I.hok eb,dd,h _ _ (I.tok _) ?_⟩;rw[l];exact (rel.val k).getD rd
end
noncomputable def zmt(td ty tx:TE):TE:=λσ H Q=>td σ H λx H1=>∃a,x=.ref a/\IsD H1 a/\ty σ H1 λy H2=>tx σ H2 λz H3=>∃o,DGet H3 a y o/\Q (o.getD z) H3
section
variable {X:Cx}{o e f:Expr}{apos cpos:Pos}{td ty tx:TE}
theorem zkz (hu:X.A.units+1<cLine) (ho:PE X o td) (he:PE X e ty) (hf:PE X f tx) (m:M2 X o "get" apos e f cpos):PE X (.Call (.Attribute o "get" apos) [e,f] [] cpos) (zmt td ty tx):=by
 intro pins s σ H Q I h;refine wpAny_Call_method m.base m.few m.line DY PySem.F.slot_dict_get PySem.F.type_dict_get (thn (ho pins s σ H _ I h) λu s1 ⟨x,H1,I1,rx,a,ex,d,q1⟩=>?_);subst ex;obtain rfl:u=Aw a:=rx;obtain⟨t1,t2,_⟩:=zjJ I1 d;refine⟨t1,t2,?_⟩;rw[m.trees]
 refine C8 rfl (Dv (Ch (thn (he pins s1 σ H1 _ I1 q1) λiv s2 ⟨y,H2,I2,ry,q2⟩ =>
  Ch (thn (hf pins s2 σ H2 _ I2 q2) λfv s3 ⟨z,H3,I3,rz,ov,g,q3⟩=>Calls.spliced_nil ?_))))
 exact zmY hu I3 g ry rz λw' s4 I4 rw'=>⟨_,H3,I4,rw',q3⟩
end
section
variable {X:Cx}{pins:List (Addr×Obj)}{σ:St}{H:Hp}{s:Ae}{a:Addr}{kvs:List (Key×V)}{A:A3}{E:Ac->Ae->Prop}
end
section
variable {X:Cx}{pins:List (Addr×Obj)}{σ:St}{H:Hp}{s:Ae}{a:Addr}{y:V}{u:Ac}{A:A3}{E:Ac->Ae->Prop}
end
end L2
namespace HT
open PySem PyProof.Rows
noncomputable def lexLt:List Int->List Int->Bool
 |[],[]=>false
 |[],_::_=>true
 |_::_,[]=>false
 |x::xs,y::ys=>if x=y then lexLt xs ys else decide (x<y)
theorem lexLt_cons(x y:Int)(xs ys:List Int):lexLt (x::xs) (y::ys)=if x=y then lexLt xs ys else decide (x<y):=rfl
theorem zfF:lexLt [] []=false:=rfl
theorem zeC(y:Int)(ys:List Int):lexLt [] (y::ys)=true:=rfl
theorem zeD(x:Int)(xs:List Int):lexLt (x::xs) []=false:=rfl
theorem zh7(A:A3)(s:Ae)(a:Int)(t:Tok)(c:Int)(u:Tok):∃e,SeqAt.EqAt A s (.int a t) (.int c u) e/\(e=true ↔ a=c) :=
 ⟨(a == c),SeqAt.EqAt.int_int a t c u,by simp⟩
theorem zkp(A:A3)(s:Ae)(a:Int)(t:Tok)(c:Int)(u:Tok)(prog:AR)(w:Be)(E:Ac -> Ae -> Prop)(Q:Ac -> Ae -> Prop)(h:Q (.bool (decide (a < c))) s) :
  At (Ay prog w) A (richCompare .Lt (.int a t) (.int c u)) Q E s :=
 (PyProof.Rows.lt_int h:At (Ay prog w) A (BB .Lt (.int a t) (.int c u)) Q E s)
section
open PySem.SeqAt
open PySem.AutoSeq1 (wpAny_loadPart')
open PySem.MeetsSeq PySem.MeetsSeq2 PySem.MeetsSeq3
theorem ze9(l b:Addr)(items items2:Array Ac)(n n2:Nat)(dd dd2:Option Addr)(sl sl2:Array (Option Ac))(ns ms:List Int)(hi:Cv items.toList ns)(hj:Cv items2.toList ms) :
  Meets (Builtin.«tuple.__lt__» ⟨[.ref l,.ref b],[]⟩)
   (λ_ R s=>s.heap.get? l=some { cls:=.type "tuple",dict:=dd,data:=.seq items n,slots:=sl }/\s.heap.get? b=some { cls:=.type "tuple",dict:=dd2,data:=.seq items2 n2,slots:=sl2 } /\
    R (.ok (.ret (.bool (lexLt ns ms)))) s) :=
 .of_wp λprog w A R s h=>by
  obtain⟨hp,g,d,tk,os⟩:=s;obtain⟨hl,hb,h⟩:=h;have f2:=AutoSeq1.sub_tuple_tuple;have z1:items.size=ns.length:=by rw[<- hi.length];simp
  have z2:items2.size=ms.length:=by rw[<- hj.length];simp
  wp_walk using Cr hl,Cr hb,wpAny_forIn_list _ (λrest b s'=>b.1=none/\s'=⟨hp,g,d,tk,os⟩/\∃(vs ws:List Ac) (ns' ms':List Int),rest=vs.zip ws /\
   Cv vs ns'/\Cv ws ms'/\ns'.length+items2.size=ms'.length+items.size/\R (.ok (.ret (.bool (lexLt ns' ms')))) ⟨hp,g,d,tk,os⟩) _
  case turn =>
   rintro⟨y,x⟩ rest b s' ⟨hb',rfl,vs,ws,ns',ms',hz,hvi,hwi,hlen,hR⟩
   cases hvi with
   |nil=>rw[List.zip_nil_left]at hz;cases hz
   |cons a t hvi' =>
    cases hwi with
    |nil=>rw[List.zip_nil_right]at hz;cases hz
    |cons c u hwi' =>
     rw[DU]at hz;injection hz with hyx hrest;injection hyx with hy hx;subst hy hx;rw[lexLt_cons]at hR;simp only[A5]at hlen;obtain⟨e,he,hiff⟩:=zh7 A.in1 ⟨hp,g,d,tk,os⟩ a t c u;refine Ab (he prog w _ _ ?_)
     cases e with
     |true =>
      rw[if_pos (hiff.mp rfl)]at hR
      wp_walk
      exact⟨rfl,rfl,_,_,_,_,hrest,hvi',hwi',by lia,hR⟩
     |false =>
      rw[if_neg (λq=>absurd (hiff.mpr q) AV)]at hR;have hri:=zkp A.in1 ⟨hp,g,d,tk,os⟩ a t c u prog w
      wp_walk using hri
      exact⟨_,rfl,by simpa using hR⟩
  case fin =>
   rintro⟨b1,b2⟩ s' ⟨hb',rfl,vs,ws,ns',ms',hz,hvi,hwi,hlen,hR⟩;simp only at hb';subst hb'
   have hv:lexLt ns' ms'=decide (items.size<items2.size):=by
    cases hvi with
    |nil =>
     cases hwi with
     |nil =>
      simp only[Cd]at hlen;rw[zfF];exact (decide_eq_false (by lia)).symm
     |cons c u hw =>
      simp only[Cd,A5]at hlen;rw[zeC];exact (decide_eq_true (by lia)).symm
    |cons a t hv =>
     cases hwi with
     |nil =>
      simp only[Cd,A5]at hlen;rw[zeD];exact (decide_eq_false (by lia)).symm
     |cons c u hw =>
      rw[DU]at hz
      cases hz
   rw[hv]at hR
   wp_walk
   exact⟨_,rfl,by simpa[Builtin.Tuple.tupleCompareSizes]using hR⟩
  case h =>
   exact⟨rfl,rfl,items.toList,items2.toList,ns,ms,rfl,hi,hj,by lia,h⟩
end
section
variable {prog:AR}{w:Be}{A:A3}{E:Ac->Ae->Prop}{s:Ae}
theorem lt_tupInts{l b:Addr}{items items2:Array Ac}{ns ms:List Int}{Q:Ac -> Ae -> Prop}(hl:IsTup s.heap l items)(hb:IsTup s.heap b items2)(hi:Cv items.toList ns)(hj:Cv items2.toList ms)
  (hu:A.units<cLine) (h:Q (.bool (lexLt ns ms)) s):At (Ay prog w) A (BB .Lt (.ref l) (.ref b)) Q E s:=by
 obtain⟨⟨cls,dd,data,sl⟩,ho,hc,n,hd⟩:=id hl;obtain⟨⟨cls2,dd2,data2,sl2⟩,ho2,hc2,n2,hd2⟩:=id hb;simp only at hc hd hc2 hd2;subst hc hd hc2 hd2
 exact richCompare_meets_room (op:=.Lt) ⟨_,ho,rfl⟩ ⟨_,ho2,rfl⟩ PySem.F.slot_tuple_lt PySem.F.entry_tuple_lt (PySem.F.args_tuple_lt_2 _ _) (ze9 l b items items2 n n2 dd dd2 sl sl2 ns ms hi hj)
  ⟨ho,ho2,show Value.bool (lexLt ns ms)≠Value.notImplemented/\Q (.bool (lexLt ns ms)) s from ⟨(λx=>nomatch x),h⟩⟩ hu
noncomputable def sIx(n d:Nat):Option Int->Nat
 |none=>d
 |some v=>if v<0 then (v+(n:Int)).toNat else min v.toNat n
theorem zmB(n d:Nat)(hd:d<=n)(o:Option Int):sIx n d o<=n:=by
 cases o with
 |none=>exact hd
 |some v =>
  show (if v<0 then (v+(n:Int)).toNat else min v.toNat n)<=n
  by_cases hv:v<0
  .rw[if_pos hv];lia
  .rw[if_neg hv];exact Nat.min_le_right _ _
theorem zj0(v:Int)(n d:Nat):(if v<0 then max (v+(n:Int)) 0 else min v (n:Int))=((sIx n d (some v):Nat):Int):=by
 show (if v<0 then max (v+(n:Int)) 0 else min v (n:Int))=(((if v<0 then (v+(n:Int)).toNat else min v.toNat n):Nat):Int)
 by_cases hv:v<0
 .simp only[if_pos hv];lia
 .simp only[if_neg hv];lia
theorem ziI(lo hi:Option Int)(n:Nat):DG lo hi 1 (n:Int)=(((sIx n 0 lo:Nat):Int),((sIx n n hi:Nat):Int)):=by
 have h1:¬ ((1:Int)<0):=by lia
 unfold DG;simp only[h1,if_false];refine Prod.ext ?_ ?_
 .cases lo with
  |none=>rfl
  |some v=>exact zj0 v n 0
 .cases hi with
  |none=>rfl
  |some v=>exact zj0 v n n
theorem ziu(i j:Nat):CM (i:Int) (j:Int) 1=j-i:=by
 unfold CM;have h1:(1:Int) > 0:=by lia
 simp only[h1,if_true,Int.ediv_one];split <;> lia
theorem zeU{v:Ac}{o:Option Int}{Q:Option Int->Ae->Prop}(p:IsPart v o)(h:Q o s):At (Ay prog w) A (Builtin.Slice.slicePartIndex v) Q E s:=by
 cases p with
 |none=>exact slicePart_none h
 |int i t=>exact slicePart_int h
theorem zcu{sl:Addr}{vl vu:Ac}{lo hi:Option Int}{n:Nat}{Q:Int × Int × Nat -> Ae -> Prop}(hs:s.heap.IsSliceOf sl vl vu .none)(pl:IsPart vl lo)(pu:IsPart vu hi)
  (h:Q (((sIx n 0 lo:Nat):Int),1,sIx n n hi-sIx n 0 lo) s):At (Ay prog w) A (Builtin.Slice.sliceApplied (.ref sl) (pure (n:Int))) Q E s:=by
 obtain⟨os,hos,hcs,hds⟩:=id hs;unfold Builtin.Slice.sliceApplied Builtin.Slice.sliceFields;refine Ab (Ab (wpAny_field hos hds (x:=vl) rfl (Ab (wpAny_field hos hds (x:=vu) rfl (Ab (wpAny_field hos hds (x:=.none) rfl (Af ?_)))))));refine Ab (slicePart_none ?_);show At _ _ (if ((1:Int) == 0)=true then _ else _) _ _ s;rw[if_neg (by decide)];refine Ab (zeU pl (Ab (zeU pu (Ab (Af ?_)))));show At _ _ (match DG lo hi 1 (n:Int) with | (lo,hi)=>pure (lo,(1:Int),CM lo hi 1)) _ _ s;rw[ziI lo hi n];show At _ _ (pure (((sIx n 0 lo:Nat):Int),(1:Int),CM ((sIx n 0 lo:Nat):Int) ((sIx n n hi:Nat):Int) 1)) _ _ s;rw[ziu];exact Af h
theorem zku(xs:Array Ac)(i k:Nat):((BS k).filterMap λ(m:Nat)=>xs[((i:Int)+(m:Int)*1).toNat]?).toArray=((xs.toList.drop i).take k).toArray:=by
 have e:(λ(m:Nat)=>xs[((i:Int)+(m:Int)*1).toNat]?)=λm=>xs[i+m]?:=by
  funext m
  have:((i:Int)+(m:Int)*1).toNat=i+m:=by lia
  rw[this]
 rw[e];have:=pick_run xs i k;rw[BU]at this;have e2:((λx=>xs[x]?) ∘ λx=>i+x)=λm=>xs[i+m]?:=rfl
 rw[e2]at this;rw[this]
theorem getItem_tuple_cut{t sl:Addr}{items:Array Ac}{vl vu:Ac}{lo hi:Option Int}{Q:Ac -> Ae -> Prop}(ht:IsTup s.heap t items)(hs:s.heap.IsSliceOf sl vl vu .none)(pl:IsPart vl lo)(pu:IsPart vu hi)
  (hw:¬ (sIx items.size 0 lo=0/\sIx items.size items.size hi=items.size))
  (h:Q (.ref s.heap.objs.size) { s with heap:=s.heap.push { cls:=.type "tuple",data:=.seq ((items.toList.drop (sIx items.size 0 lo)).take (sIx items.size items.size hi-sIx items.size 0 lo)).toArray } })
  (hsz:items.size<=sizeLine):At (Ay prog w) A (getItem (.ref t) (.ref sl)) Q E s:=by
 have htake:sizeOk (.seq ((items.toList.drop (sIx items.size 0 lo)).take (sIx items.size items.size hi-sIx items.size 0 lo)).toArray):=by show ((items.toList.drop (sIx items.size 0 lo)).take (sIx items.size items.size hi-sIx items.size 0 lo)).toArray.size<=sizeLine;rw[Au,AQ,List.length_drop,AB];lia
 have hj:sIx items.size items.size hi<=items.size:=zmB _ _ (Am _) hi;obtain⟨os,hos,hcs,hds⟩:=id hs;have hTs:s.TypeIs (.ref sl) "slice":=⟨os,hos,hcs⟩;unfold getItem
 try with_reducible refine Bo ?_
 first |refine Ab (Af ?_) |skip
 refine Ab (wpAny_sequenceKey ht.typeIs (by decide) ?_)
 refine Ab (C1 (name:=BD "__getitem__") ht.typeIs BC
  (DE BC ht.typeIs entry_tuple_getitem ?_ (args_tuple_getitem _ _)))
 show At _ _ (Builtin.Tuple.tupleItemsOf (.ref t) >>= _) _ _ s;refine Ab (tupleItemsOf_ ht ?_);refine Ab (wpAny_typeOf hTs ?_);rw[if_pos (by decide)];refine Ab (zcu hs pl pu ?_)
 have hno:¬ ((((sIx items.size 0 lo:Nat):Int) == 0 && (1:Int) == 1 && (sIx items.size items.size hi-sIx items.size 0 lo) == items.size)=true):=by intro q;rw[Bp,Bp]at q;have q1:((sIx items.size 0 lo:Nat):Int)=0:=eq_of_beq q.1.1;have q2:sIx items.size items.size hi-sIx items.size 0 lo=items.size:=eq_of_beq q.2;exact hw ⟨by lia,by lia⟩
 show At _ _ (if (((sIx items.size 0 lo:Nat):Int) == 0 && (1:Int) == 1 && (sIx items.size items.size hi-sIx items.size 0 lo) == items.size)=true then _ else _) _ _ s;rw[if_neg hno,zku]
 first
  |exact Ab (m:=CZ _) (Bh (Af ⟨_,rfl,Af h⟩) htake)
  |exact Ab (m:=CZ _) (Bh (Ab (Af (Af ⟨_,rfl,Af h⟩))) htake)
  |exact Ab (Ab (m:=CZ _) (Bh (Af (Af ⟨_,rfl,Af h⟩)) htake))
  |exact Ab (Ab (m:=CZ _) (Bh (Af ⟨_,rfl,Af h⟩) htake))
end
end HT
namespace L2
open PySem PySem.Spec PyProof.Rows
noncomputable abbrev TO:=St->Hp->(Option Int->Hp->Prop)->Prop
noncomputable def PO(X:Cx)(e:Option Expr)(t:TO):Prop :=
 ∀(pins:List (Addr×Obj)) (s:Ae) (σ:St) (H:Hp) (Q:Option Int->Hp->Prop),Inv X pins σ H s->t σ H Q ->
  At (Ay X.prog X.w) X.A (evalPart e X.env) (λu s'=>∃o H',Inv X pins σ H' s'/\IsPart u o/\Q o H') X.xe s
noncomputable def zlC:TO:=λ_ H Q=>Q none H
noncomputable def tPart(t:TE):TO:=λσ H Q=>t σ H λx H1=>∃i,x=.int i/\Q (some i) H1
theorem zcR{ns:List Int}:∀{us:List Ac},Vals (ns.map V.int) us->Cv us ns:=by
 induction ns with
 |nil=>intro us r;rw[List.map_nil]at r;cases r;exact .nil
 |cons n ns ih =>
  intro us r;rw[A7]at r
  cases r with
  |cons r1 r2 =>
   obtain⟨t,e⟩:=r1;subst e;exact .cons n t (ih r2)
section
variable {X:Cx}{e:Expr}{te:TE}{lo hi:Option Expr}{tl th:TO}{pos p2:Pos}
theorem zfp:PO X none zlC:=by intro pins s σ H Q I h;rw[evalPart_none];exact Af ⟨none,H,I,.none,h⟩
theorem zfo(h:PE X e te):PO X (some e) (tPart te):=by
 intro pins s σ H Q I hw;rw[evalPart_some];refine thn (h pins s σ H _ I hw) λu s1 ⟨x,H1,I1,r1,q1⟩=>?_
 obtain⟨i,rfl,q⟩:=q1;obtain⟨t,rfl⟩:=r1;exact⟨some i,H1,I1,.int i t,q⟩
noncomputable def SlR(X:Cx)(r:V->Option Int->Option Int->Hp->VK->Prop):Prop :=
 ∀(pins:List (Addr×Obj)) (s:Ae) (σ:St) (H:Hp) (x:V) (v vl vu:Ac) (lo hi:Option Int) (sl:Addr) (Q:VK),Inv X pins σ H s->RelV x v->s.heap.IsSliceOf sl vl vu .none->IsPart vl lo->IsPart vu hi->r x lo hi H Q ->
  ∃T id,typeLookup (.type T) "__getitem__" = pure (some (.builtin id))/\s.TypeIs v T/\At (Ay X.prog X.w) X.A (getItem v (.ref sl)) (EP X pins σ Q) X.xe s
noncomputable def tSl(r:V->Option Int->Option Int->Hp->VK->Prop)(te:TE)(tl th:TO):TE:=λσ H Q=>te σ H λx H1=>tl σ H1 λl H2=>th σ H2 λu H3=>r x l u H3 Q
theorem zdL{r:V->Option Int->Option Int->Hp->VK->Prop}(hr:SlR X r)(he:PE X e te)(hl:PO X lo tl)(hu:PO X hi th):PE X (.Subscript e (.Slice lo hi none p2) pos) (tSl r te tl th):=by
 intro pins s σ H Q I h;refine Subscript_ (thn (he pins s σ H _ I h) λv s1 ⟨x,H1,I1,r1,q1⟩=>?_);refine wpAny_Slice (thn (hl pins s1 σ H1 _ I1 q1) λvl s2 ⟨l,H2,I2,pl,q2⟩=>thn (hu pins s2 σ H2 _ I2 q2) λvu s3 ⟨u,H3,I3,pu,q3⟩=>?_);rw[evalPart_none];refine Af ?_
 have I4:Inv X pins σ H3 { s3 with heap:=s3.heap.push { cls:=.type "slice",data:=.fields #[vl,vu,.none] } }:=I3.kept (t':=s3.toks) λb ob q=>Ag _ q
 obtain⟨T,id,hT,ht,hg⟩:=hr pins { s3 with heap:=s3.heap.push { cls:=.type "slice",data:=.fields #[vl,vu,.none] } } σ H3 x v vl vu l u s3.heap.objs.size Q I4 r1 (Heap.IsSliceOf.new ..) pl pu q3;show At (Ay X.prog X.w) X.A (subscriptTail e (.Slice lo hi none p2) v (.ref s3.heap.objs.size)) (EP X pins σ Q) X.xe { s3 with heap:=s3.heap.push { cls:=.type "slice",data:=.fields #[vl,vu,.none] } };exact tail_any (ops:=[.ref s3.heap.objs.size,v]) ht hT hg (by with_unfolding_all rfl)
noncomputable def cutV(xs:List V)(lo hi:Option Int):List V:=(xs.drop (HT.sIx xs.length 0 lo)).take (HT.sIx xs.length xs.length hi-HT.sIx xs.length 0 lo)
theorem zem(xs:List V)(lo hi:Option Int):(cutV xs lo hi).length<=xs.length:=by unfold cutV;rw[AQ,List.length_drop];lia
noncomputable def rSlT(K:W.Frag):V->Option Int->Option Int->Hp->VK->Prop:=λx lo hi H Q=>∃a xs,x=.ref a/\SqT K H a xs /\
 ¬ (HT.sIx xs.length 0 lo=0/\HT.sIx xs.length xs.length hi=xs.length)/\∀p,H p=none->Q (.ref p) (upd H p (.tup (cutV xs lo hi)))
theorem zmv:SlR X (rSlT X.K):=by
 intro pins s σ H x v vl vu lo hi sl Q I rx hs pl pu h;obtain⟨a,xs,rfl,hx,hw,q⟩:=h
 cases rx
 obtain⟨its,r,ht,hz⟩:=I.tuple hx;have hlen:its.toArray.size=xs.length:=by rw[Au];exact r.length.symm
 refine⟨"tuple",_,BC.lookup,ht.typeIs,?_⟩;refine HT.getItem_tuple_cut ht hs pl pu (by rw[hlen];exact hw) ?_ (by rw[hlen];exact hz)
 rw[hlen];refine⟨.ref s.heap.objs.size,_,I.laid (t':=s.toks) (o:=.tup (cutV xs lo hi)) (λb ob q=>Ag _ q) (Am _) ?_,rfl,q _ (I.hok.fresh (Am _))⟩;exact⟨AW (zem xs lo hi) hz,_,(r.drop (HT.sIx xs.length 0 lo)).take (HT.sIx xs.length xs.length hi-HT.sIx xs.length 0 lo),IsTup.new _ _⟩
end
noncomputable def ixN(n:Nat)(i:Int):Option Nat:=if 0<=i then (if i<n then some i.toNat else none) else if -(n:Int)<=i then some (i+n).toNat else none
noncomputable def atI{α:Type}(xs:List α)(i:Int):Option α:=(ixN xs.length i).bind λj=>xs[j]?
theorem zjI{n:Nat}{i:Int}{j:Nat}(h:ixN n i=some j):seqIndex? i n=some j/\j<n/\-(n:Int)<=i/\i<n:=by
 unfold ixN at h
 by_cases h0:0<=i
 .rw[if_pos h0]at h
  by_cases h1:i<n
  .rw[if_pos h1]at h;have e:i.toNat=j:=AX h;exact⟨by rw[seqIndex_of h0 h1,e],by lia,by lia,h1⟩
  .rw[if_neg h1]at h;cases h
 .rw[if_neg h0]at h
  by_cases h1:-(n:Int)<=i
  .rw[if_pos h1]at h;have e:(i+n).toNat=j:=AX h;exact⟨by rw[seqIndex_neg (by lia) h1,e],by lia,h1,by lia⟩
  .rw[if_neg h1]at h;cases h
theorem zj8{α:Type}{xs:List α}{i:Int}{v:α}(h:atI xs i=some v):∃j,seqIndex? i xs.length=some j/\xs[j]?=some v/\j<xs.length/\-(xs.length:Int)<=i/\i<xs.length:=by
 unfold atI at h
 cases e:ixN xs.length i with
 |none=>rw[e]at h;cases h
 |some j =>
  rw[e]at h;obtain⟨h1,h2,h3,h4⟩:=zjI e;exact⟨j,h1,h,h2,h3,h4⟩
theorem zaw{α:Type}{xs:List α}{j:Nat}{v:α}(h:xs[j]?=some v):atI xs (j:Int)=some v:=by
 have hj:j<xs.length:=(Ad.mp h).1
 have e:ixN xs.length (j:Int)=some j:=by unfold ixN;rw[if_pos (by lia),if_pos (by lia)];simp
 unfold atI;rw[e];exact h
noncomputable def zmi(b:Expr):Prop:=∀o i,subscripted b false o i=operate [o,i] (getItem o i)
noncomputable def IxR(X:Cx)(r:R2):Prop :=
 ∀(value slice:Expr) (pins:List (Addr×Obj)) (s:Ae) (σ:St) (H:Hp) (x y:V) (v u:Ac) (Q:VK),Inv X pins σ H s->RelV x v->RelV y u->r x y H Q ->
  subscripted slice false v u=operate [v,u] (getItem v u)->At (Ay X.prog X.w) X.A (subscriptTail value slice v u) (EP X pins σ Q) X.xe s
noncomputable def MtR(X:Cx)(id:String)(r:V->List V->Hp->VK->Prop):Prop :=
 ∀(pins:List (Addr×Obj)) (s:Ae) (σ:St) (H:Hp) (x:V) (xs:List V) (v:Ac) (us:List Ac) (Q:VK),Inv X pins σ H s->RelV x v->Vals xs us->r x xs H Q ->
  At (Ay X.prog X.w) X.A (call (.builtin id) (v::us)) (EP X pins σ Q) X.xe s
section
variable {X:Cx}{a b:Expr}{ta tb:TE}{pos:Pos}
theorem pe_ix{r:R2}(hr:IxR X r)(ha:PE X a ta)(hb:PE X b tb)(hs:zmi b):PE X (.Subscript a b pos) (tOp r ta tb):=by intro pins s σ H Q I h;exact Subscript_ (binT ha hb I h λv u s2 x y H2 I2 rx ry q=>hr a b pins s2 σ H2 x y v u Q I2 rx ry q (hs _ _))
noncomputable def rIxL(K:W.Frag):R2:=λx y H Q=>∃p xs i v,x=.ref p/\y=.int i/\SqL K H p xs/\atI xs i=some v/\Q v H
noncomputable def rIxT(K:W.Frag):R2:=λx y H Q=>∃p xs i v,x=.ref p/\y=.int i/\SqT K H p xs/\atI xs i=some v/\Q v H
theorem zaS:IxR X (rIxL X.K):=by
 intro value slice pins s σ H x y v u Q I rx ry h hs;obtain⟨p,xs,i,z,rfl,rfl,hq,he,q⟩:=h
 cases rx
 obtain⟨t,rfl⟩:=ry;obtain⟨its,r,pl,hz⟩:=I.list hq;obtain⟨j,h1,h2,h3,h4,h5⟩:=zj8 he;obtain⟨w,ew,rw'⟩:=r.get h2;have hl:=r.length;have hn:=zgw;have fin:EP X pins σ Q w s:=⟨z,H,I,rw',q⟩
 by_cases h0:0<=i
 .have hj:i.toNat=j := by rw[seqIndex_of h0 h5]at h1;exact AX h1
  exact item_listR pl.isList h0 (by lia) (by rw[hj];simpa using ew) fin hs
 .have hj:(i + (its.toArray.size:Int)).toNat=j := by rw[seqIndex_neg (by lia) h4]at h1;rw[Au,<- hl];exact AX h1
  exact subscriptTail_builtinR (x:=w) pl.isList.typeIs slot_list_getitem.lookup
   (wpAny_getItem_list_neg (Q:=λr s'=>r=w/\EP X pins σ Q r s') pl.isList (by lia) (by rw[Au] <;> lia) (by lia) (by rw[hj];simpa using ew) ⟨rfl,fin⟩) hs
theorem zb0:IxR X (rIxT X.K):=by
 intro value slice pins s σ H x y v u Q I rx ry h hs;obtain⟨p,xs,i,z,rfl,rfl,hq,he,q⟩:=h
 cases rx
 obtain⟨t,rfl⟩:=ry;obtain⟨its,r,pl,hz⟩:=I.tuple hq;obtain⟨j,h1,h2,h3,h4,h5⟩:=zj8 he;obtain⟨w,ew,rw'⟩:=r.get h2;have hl:=r.length;have hn:=zgw;have fin:EP X pins σ Q w s:=⟨z,H,I,rw',q⟩
 exact subscriptTail_builtinR (x:=w) pl.typeIs slot_tuple_getitem.lookup
  (getItem_tuple (j:=j) (Q:=λr s'=>r=w/\EP X pins σ Q r s') pl (by lia) (by lia) (by rw[Au,<- hl];exact h1) (by simpa using ew) ⟨rfl,fin⟩) hs
theorem ziE (its:List Ac) (n j:Nat) (u:Ac):AT (·.setIfInBounds j u) { cls:=.type "list",data:=.seq its.toArray n }={ cls:=.type "list",data:=.seq (its.set j u).toArray n }:=by simp[AT]
theorem Inv.lst{pins:List (Addr × Obj)}{σ : St}{H:Hp}{s:Ae}{p:Addr}{xs:List V}(I:Inv X pins σ H s)(h:H p=some (.lst xs)) :
  ∃(its:List Ac) (n:Nat),Vals xs its/\s.heap.get? p=some { cls:=.type "list",data:=.seq its.toArray n }/\xs.length<=sizeLine:=by
 obtain⟨z,its,n,r,e⟩:=I.hok p _ h;exact⟨its,n,r,e,z⟩
theorem Inv.lstUpd{pins:List (Addr × Obj)}{σ : St}{H:Hp}{s:Ae}{p:Addr}{xs ys:List V}{its its':List Ac}{n n':Nat}{f:Obj -> Obj}(I:Inv X pins σ H s)(h:H p=some (.lst xs))
  (ho:s.heap.get? p=some { cls:=.type "list",data:=.seq its.toArray n }) (hf:f { cls:=.type "list",data:=.seq its.toArray n }={ cls:=.type "list",data:=.seq its'.toArray n' }) (r:Vals ys its') (hz:ys.length<=sizeLine) (t:Nat) :
  Inv X pins σ (upd H p (.lst ys)) { s with heap:=s.heap.update p f,toks:=t }:=by
 have e:(s.heap.update p f).get? p=some { cls:=.type "list",data:=.seq its'.toArray n' }:=by rw[B3 f ho (by rw[hf] <;> rfl),hf]
 refine I.write (x:=p) (e:=p) (by rw[h];trivial) (.inl rfl) (λb u hb q=>(Bj _ _ (BW hb)).trans q) ⟨_,e⟩ ?_
 exact⟨hz,its',n',r,e⟩
noncomputable def rSetL:V->V->V->Hp->(Hp->Prop)->Prop:=λo i v H Q=>∃p xs k j,o=.ref p/\i=.int k/\H p=some (.lst xs)/\ixN xs.length k=some j/\Q (upd H p (.lst (xs.set j v)))
theorem zhy:PSet X rSetL:=by
 intro pins s σ H o i v ov iv u Q I ro ri rv h;obtain⟨p,xs,k,j,rfl,rfl,hp,hj,q⟩:=h
 cases ro
 obtain⟨t,rfl⟩:=ri;obtain⟨its,n,r,ho,hz⟩:=I.lst hp;obtain⟨h1,h2,h3,h4⟩:=zjI hj;have hl:=r.length;have hn:=zgw
 have I':Inv X pins σ (upd H p (.lst (xs.set j v))) { s with heap:=s.heap.update p (AT (·.setIfInBounds j u)) } :=
  I.lstUpd hp ho (ziE its n j u) (r.set rv j) (by rw[List.length_set];exact hz) s.toks
 by_cases h0:0<=k
 .have hk:k.toNat=j := by rw[seqIndex_of h0 h4]at h1;exact AX h1
  exact W.ki_setAt ho h0 (by lia) (by rw[Au,<- hl];exact h4) (by rw[hk];exact⟨_,I',q⟩)
 .have hk:(k + (its.toArray.size:Int)).toNat=j := by rw[seqIndex_neg (by lia) h3]at h1;rw[Au,<- hl];exact AX h1
  exact W.ki_setBack ho (by lia) (by rw[Au,<- hl];exact h3) (by lia) (by rw[hk];exact⟨_,I',q⟩)
theorem zge(lo hi:Option Int)(n:Nat):(DZ lo hi none n).1=((HT.sIx n 0 lo:Nat):Int)/\(DZ lo hi none n).2.1=((HT.sIx n n hi:Nat):Int)/\(DZ lo hi none n).2.2=1:=by
 refine⟨?_,?_,rfl⟩
 .cases lo with
  |none=>simp[DZ,HT.sIx]
  |some i =>
   simp only[DZ,HT.sIx,Option.getD_none,show (1:Int) > 0 by decide,if_true]
   by_cases h:i<0
   .simp only[h,if_true] <;> lia
   .simp only[h,if_false] <;> lia
 .cases hi with
  |none=>simp[DZ,HT.sIx]
  |some i =>
   simp only[DZ,HT.sIx,Option.getD_none,show (1:Int) > 0 by decide,if_true]
   by_cases h:i<0
   .simp only[h,if_true] <;> lia
   .simp only[h,if_false] <;> lia
theorem zfg(its:List Ac)(lo hi:Option Int):slicePick its.toArray lo hi none=((its.drop (HT.sIx its.length 0 lo)).take (HT.sIx its.length its.length hi-HT.sIx its.length 0 lo)).toArray:=by obtain⟨h1,h2,h3⟩:=zge lo hi its.toArray.size;unfold slicePick;rw[h1,h2,h3];simp only[sliceRange_one,pick_run,Au] <;> rfl
noncomputable def rSlL(K:W.Frag):V->Option Int->Option Int->Hp->VK->Prop:=λx lo hi H Q=>∃a xs,x=.ref a/\SqL K H a xs/\∀p,H p=none->Q (.ref p) (upd H p (.lst (cutV xs lo hi)))
theorem zi7:SlR X (rSlL X.K):=by
 intro pins s σ H x v vl vu lo hi sl Q I rx hs pl pu h;obtain⟨a,xs,rfl,hx,q⟩:=h
 cases rx
 obtain⟨its,r,ht,hz⟩:=I.list hx;have hlen:=r.length;refine⟨"list",_,slot_list_getitem.lookup,ht.isList.typeIs,?_⟩;refine wpAny_getItem_list_slice ht.isList hs pl pu .none (by simp) ?_ (by rw[Au] <;> lia)
 rw[zfg,<- hlen];refine⟨.ref s.heap.objs.size,_,I.laid (t':=s.toks) (o:=.lst (cutV xs lo hi)) (λb ob q=>Ag _ q) (Am _) ?_,rfl,q _ (I.hok.fresh (Am _))⟩;exact⟨AW (zem xs lo hi) hz,_,0,(r.drop (HT.sIx xs.length 0 lo)).take (HT.sIx xs.length xs.length hi-HT.sIx xs.length 0 lo),AF _ rfl⟩
theorem zba:CallR X (.builtin "len") (λxs H Q=>∃p ys,xs=[.ref p]/\(SqL X.K H p ys∨SqT X.K H p ys)/\Q (.int ys.length) H):=by
 intro pins s σ H xs us Q I r h;obtain⟨p,ys,rfl,hq,q⟩:=h;obtain⟨u,rfl,rx⟩:=vals1 r
 cases rx
 have hn:=zgw;rcases hq with hq |hq
 .obtain⟨its,r',pl,hz⟩:=I.list hq;have hlen:=r'.length;exact Calls.call_len_list pl.isList (by simp only[Au] <;> lia) ⟨.int ys.length,H,I.tok _,⟨s.toks+1,by rw[Au,hlen]⟩,q⟩
 .obtain⟨its,r',pl,hz⟩:=I.tuple hq;have hlen:=r'.length;exact len_tuple pl (by simp only[Au] <;> lia) ⟨.int ys.length,H,I.tok _,⟨s.toks+1,by rw[Au,hlen]⟩,q⟩
theorem zgF:CallR X (.type "list") (λxs H Q=>∃p ys,xs=[.ref p]/\(SqL X.K H p ys∨SqT X.K H p ys)/\∀l,H l=none->Q (.ref l) (upd H l (.lst ys))):=by
  intro pins s σ H xs us Q I r h;obtain⟨p,ys,rfl,hq,q⟩:=h;obtain⟨u,rfl,rx⟩:=vals1 r
  cases rx
  have fin:∀(its:List Ac), Vals ys its -> ys.length <= sizeLine -> ∀(h':Heap) (c':Nat), (∀b o', s.heap.get? b=some o' -> h'.get? b=some o') ->
      h'.get? s.heap.objs.size=some { cls:=.type "list",dict:=none,data:=.seq its.toArray c',slots:=#[] }->EP X pins σ Q (.ref s.heap.objs.size) { s with heap:=h' }:=λits r' hz h' c' kp e =>
    ⟨.ref s.heap.objs.size,_,I.laid (t':=s.toks) kp (Am _) (show ObjOk X.prog X.w _ h' _ (.lst ys) from ⟨hz,its,c',r',e⟩),rfl,q _ (I.hok.fresh (Am _))⟩
  rcases hq with hq |hq
  . obtain⟨its,r',pl,hz⟩:=I.list hq;have hlen:=r'.length;obtain⟨o,ho,hc,n,hd⟩:=pl.isList;exact call_list_seq p (.inl rfl) ho hc hd (λh' c' kp e=>fin its r' hz h' c' kp e) (by simp only[Au] <;> lia)
  . obtain⟨its,r',pl,hz⟩:=I.tuple hq;have hlen:=r'.length;obtain⟨o,ho,hc,n,hd⟩:=pl;exact call_list_seq p (.inr rfl) ho hc hd (λh' c' kp e=>fin its r' hz h' c' kp e) (by simp only[Au] <;> lia)
theorem zfS:CallR X (.type "tuple") (λxs H Q=>∃p ys,xs=[.ref p]/\((SqL X.K H p ys/\∀l,H l=none->Q (.ref l) (upd H l (.tup ys)))∨(SqT X.K H p ys/\Q (.ref p) H))):=by
 intro pins s σ H xs us Q I r h;obtain⟨p,ys,rfl,h⟩:=h;obtain⟨u,rfl,rx⟩:=vals1 r
 cases rx
 rcases h with⟨hq,q⟩ |⟨hq,q⟩
 .obtain⟨its,r',pl,hz⟩:=I.list hq;have hlen:=r'.length;refine call_tuple_list pl.isList (λh' kp=>?_) (by simp only[Au] <;> lia);have I1:Inv X pins σ H { s with heap:=h' }:=I.kept (t':=s.toks) kp
  have I2:Inv X pins σ (upd H h'.objs.size (.tup ys)) { s with heap:=h'.push { cls:=.type "tuple",data:=.seq its.toArray } } :=
   I1.laid (t':=s.toks) (λb o e=>Ag _ e) (Am _) (show ObjOk X.prog X.w _ _ _ (.tup ys) from ⟨hz,its,r',IsTup.new _ _⟩)
  exact⟨.ref h'.objs.size,_,I2,rfl,q _ (I1.hok.fresh (Am _))⟩
 .obtain⟨its,r',pl,hz⟩:=I.tuple hq;exact call_tuple_same pl ⟨.ref p,H,I,rfl,q⟩
noncomputable def tyV(K:W.Frag)(T:String)(x:V)(H:Hp):Prop:=match x with
  |.str _=>T = "str"
  |.int _=>T = "int"
  |.ref p => (T = "list" /\ ∃xs, SqL K H p xs) ∨ (T = "tuple" /\ ∃o, K.lookup p=some o /\ o.cls = .type "tuple" /\ o.dict=none) ∨
      (T = "dict" /\ ((∃kvs,H p=some (.dK kvs))∨∃kvs,H p=some (.dT kvs)))∨(T = "set" /\ ∃S n,H p=some (.set S n))
  |_=>False
theorem zml{pins:List (Addr × Obj)}{σ : St}{H:Hp}{s:Ae}{T:String}{x:V}{v:Ac}(I:Inv X pins σ H s)(r:RelV x v)(ty:tyV X.K T x H) :
  s.TypeIs v T/\∀a,v=.ref a->∃ob,s.heap.get? a=some ob/\ob.dict=none:=by
 cases x with
 |str z =>
  obtain⟨t,rfl⟩:=r
  cases (show T = "str" from ty)
  exact⟨typeIs_str s z t,λ_ e=>nomatch e⟩
 |int i =>
  obtain⟨t,rfl⟩:=r
  cases (show T = "int" from ty)
  exact⟨typeIs_int s i t,λ_ e=>nomatch e⟩
 |ref p =>
  cases r
  rcases ty with⟨rfl,xs,hq⟩ |⟨rfl,o,hk,hc,hd⟩ |⟨rfl,hk⟩ |⟨rfl,S,n,hk⟩
  .obtain⟨its,_,pl,_⟩:=I.list hq;refine⟨pl.isList.typeIs,λa e=>?_⟩
   cases e
   obtain⟨o,n,e,c,hd,_⟩:=pl;exact⟨o,e,hd⟩
  .refine⟨⟨o,I.kIn p o hk,hc⟩,λa e=>?_⟩
   cases e
   exact⟨o,I.kIn _ o hk,hd⟩
  .have z:∃o, s.heap.get? p=some o /\ o.ExactDict := by
    rcases hk with⟨kvs,hk⟩ |⟨kvs,hk⟩
    .obtain⟨_,_,_,_,o,_,_,e,ex,_⟩:=I.hok p _ hk;exact⟨o,e,ex⟩
    .obtain⟨_,_,_,_,o,_,_,e,ex,_⟩:=I.hok p _ hk;exact⟨o,e,ex⟩
   obtain⟨o,e,ex⟩:=z;refine⟨⟨o,e,ex.1⟩,λa e2=>?_⟩
   cases e2
   exact⟨o,e,ex.2.1⟩
  .obtain⟨o,_,_,_,e,ex,_⟩:=I.hok p _ hk;refine⟨⟨o,e,ex.1⟩,λa e2=>?_⟩
   cases e2
   exact⟨o,e,ex.2.1⟩
 |_=>exact BK ty
noncomputable def tBM(K:W.Frag)(T:String)(r:V->List V->Hp->VK->Prop)(to:TE)(t:TA):TE:=λσ H Q=>to σ H λx H1=>tyV K T x H1/\t σ H1 λxs H2=>r x xs H2 Q
variable {o e:Expr}{es:List Expr}{to:TE}{t:TA}{name:Str}{apos cpos:Pos}{T id:String}{r:V->List V->Hp->VK->Prop}
theorem pe_bm (pa:PlainAttrs T) (slot:Slot T name id) (hty:typeOf (.builtin id)=pure (.type "method_descriptor")) (hm:MtR X id r) (ho:PE X o to) (ha:PA X (e :: es) t)
  (hbase:attributeBase o name X.env (eval o X.env)=eval o X.env:=by rfl)
  (hfew:((backTo cpos (Bx (e::es) X.env)).all (λx=>!x.1) && (DK cpos (CC [] X.env)).all (λx=>x.1.isSome)
   && decide ((e::es).length+([]:List Keyword).length+(if ([]:List Keyword).isEmpty then 0 else 1)<30))=true:=by rfl)
  (hline:(apos.endLine == cpos.line)=true:=by rfl) (hs:Bx (e::es) X.env=(false,eval e X.env)::Bx es X.env:=by rfl) (hplain:(backTo cpos (Bx es X.env)).any (·.1)=false:=by rfl) :
  PE X (.Call (.Attribute o name apos) (e::es) [] cpos) (tBM X.K T r to t):=by
 intro pins s σ H Q I h;refine wpAny_Call_method_late hbase hfew hline rfl (thn (ho pins s σ H _ I h) λv s1 ⟨x,H1,I1,r1,ty,q1⟩=>?_);obtain⟨h1,h2⟩:=zml I1 r1 ty;refine⟨T,id,pa,slot,hty,h1,h2,?_⟩;have hA:=ha cpos pins s1 σ H1 _ I1 q1;rw[hs]at hA ⊢;refine C8 (by show (false || (backTo cpos (Bx es X.env)).any (·.1))=false;rw[hplain] <;> rfl) (Dv ?_);exact thn hA λus s2 ⟨vs,H2,I2,r2,q2⟩=>hm pins s2 σ H2 x vs v us Q I2 r1 r2 q2
/- xs.append(e),list.index on a module's tuple .. are MtR facts of 06m -/
end
noncomputable def MtM(X:Cx)(id:String)(r:V->List V->Hp->VK->Prop):Prop :=
 ∀(pins:List (Addr×Obj)) (s:Ae) (σ:St) (H:Hp) (x:V) (xs:List V) (v:Ac) (us:List Ac) (Q:VK),Inv X pins σ H s->RelV x v->Vals xs us->r x xs H Q ->
  At (Ay X.prog X.w) X.A (call (.builtin id) (v::us)) (EP X pins σ Q) X.xe s
theorem Vals.one:∀{x:V}{us:List Ac},Vals [x] us->∃u,us=[u]/\RelV x u
 |_,_,.cons r .nil=>⟨_,rfl,r⟩
theorem Vals.rep{xs:List V}{us:List Ac}(h:Vals xs us):∀k:Nat,Vals (Aq k xs).flatten (Aq k us).flatten
 | 0=>.nil
 |k+1=>by
  rw[Cu,Cu,By,By];exact Vals.append h (Vals.rep h k)
theorem zgz(its:List Ac):∀(k:Nat) (acc:List Ac),
  List.foldl (λx1 x2=>x1++x2) acc.toArray (Aq k its.toArray)=(acc++(Aq k its).flatten).toArray
 | 0,acc=>by simp
 |k+1,acc=>by
  have e:acc.toArray++its.toArray=(acc++its).toArray:=by simp
  have e2:(acc++its)++(Aq k its).flatten=acc++(Aq (k+1) its).flatten:=by rw[Cu,By,AL]
  rw[<- e2,<- zgz its k (acc++its),<- e,Cu,List.foldl_cons]
section
variable {X:Cx}{pins:List (Addr×Obj)}{σ:St}{H:Hp}{s:Ae}{l b:Addr}{xs ys zs:List V}
theorem Inv.lset{its its':List Ac}{n:Nat}{f:Array Ac -> Array Ac}{t':Nat}(I:Inv X pins σ H s)(hH:H l=some (.lst xs))
  (e:s.heap.get? l=some { cls:=.type "list",data:=.seq its.toArray n }) (hf:f its.toArray=its'.toArray) (hv:Vals ys its') (hz:ys.length<=sizeLine) :
  Inv X pins σ (upd H l (.lst ys)) { s with heap:=s.heap.update l (AT f),toks:=t' }:=by
 have q:=PySem.IsL.update e f;rw[hf]at q;refine I.write (x:=l) (e:=l) (by rw[hH];exact trivial) (.inl rfl) (λb' u hb hu=>(Bj s.heap (AT f) (BW hb)).trans hu) ⟨_,q⟩ ?_
 exact⟨hz,its',_,hv,q⟩
theorem Inv.lnew{its:List Ac}{t':Nat}(I:Inv X pins σ H s)(hv:Vals ys its)(hz:ys.length <= sizeLine) :
  Inv X pins σ (upd H s.heap.objs.size (.lst ys)) { s with heap:=s.heap.push { cls:=.type "list",data:=.seq its.toArray },toks:=t' } :=
 I.laid (λ_ _ q=>Ag _ q) (Am _) ⟨hz,its,0,hv,AF _ rfl⟩
theorem Inv.fresh(I:Inv X pins σ H s):H s.heap.objs.size=none:=I.hok.fresh (Am _)
theorem Inv.lstM (I:Inv X pins σ H s) (hH:H l=some (.lst xs)):xs.length<=sizeLine/\∃(its:List Ac) (n:Nat),Vals xs its/\xs.length=its.length/\s.heap.get? l=some { cls:=.type "list",data:=.seq its.toArray n }:=by obtain⟨z,its,n,r,e⟩:=I.hok l _ hH;exact⟨z,its,n,r,r.length,e⟩
theorem zhP{n:Nat}(h:n<=sizeLine):C0 n=false:=by unfold C0;exact decide_eq_false (by lia)
end
section
variable {X:Cx}
noncomputable def zlN:V->List V->Hp->VK->Prop:=λx vs H Q=>∃l xs y,x=.ref l/\vs=[y]/\H l=some (.lst xs)/\xs.length<sizeLine/\Q .non (upd H l (.lst (xs++[y])))
theorem za0:MtM X "list.append" zlN:=by
 intro pins s σ H x vs v us Q I rx rv h;obtain⟨l,xs,y,rfl,rfl,hH,hz,q⟩:=h
 cases rx
 obtain⟨u,rfl,ru⟩:=rv.one;obtain⟨z,its,n,r,hl,e⟩:=I.lstM hH;refine call_meets F.slot_list_append ⟨_,e,rfl⟩ F.entry_list_append (F.args_list_append_2 _ _) (PySem.list_append l its.toArray n u (by rw[Au];lia)) ⟨e,?_⟩;refine⟨.non,_,I.lset (its':=its++[u]) hH e (by simp) (r.append (.cons ru .nil)) ?_,rfl,q⟩;rw[Ak,BO];lia
noncomputable def zlM:V->List V->Hp->VK->Prop:=λx vs H Q=>∃l b xs zs,x=.ref l/\vs=[.ref b]/\H l=some (.lst xs)/\H b=some (.lst zs)/\xs.length+zs.length<=sizeLine/\Q .non (upd H l (.lst (xs++zs)))
theorem zgs:MtM X "list.extend" zlM:=by
 intro pins s σ H x vs v us Q I rx rv h;obtain⟨l,b,xs,zs,rfl,rfl,hH,hB,hz,q⟩:=h
 cases rx
 obtain⟨u,rfl,ru⟩:=rv.one
 cases ru
 obtain⟨z,its,n,r,hl,e⟩:=I.lstM hH;obtain⟨z2,its2,n2,r2,hl2,e2⟩:=I.lstM hB;have hsz:its.toArray.size+its2.toArray.size<=sizeLine:=by rw[Au,Au];lia
 have hlong:¬ (!its.toArray.isEmpty && C0 (its.toArray.size+its2.toArray.size))=true:=by rw[zhP hsz,Bool.and_false];exact AV
 refine call_meets F.slot_list_extend ⟨_,e,rfl⟩ F.entry_list_extend (F.args_list_extend_2 _ _)
  (AutoSeq1.list_extend_list_list_0 l its.toArray n b its2.toArray n2 hlong (by rw[Au];lia) (by lia)) ⟨e,e2,?_⟩
 refine⟨.non,_,I.lset (its':=its++its2) hH e (by simp) (r.append r2) ?_,rfl,q⟩;rw[Ak];lia
noncomputable def rCat:R2:=λx y H Q=>∃l b xs zs,x=.ref l/\y=.ref b/\H l=some (.lst xs)/\H b=some (.lst zs)/\xs.length+zs.length<=sizeLine/\∀p,H p=none->Q (.ref p) (upd H p (.lst (xs++zs)))
theorem zhM:OpR X (binaryOp .Add) rCat:=by
 intro pins s σ H x y v u Q I rx ry h;obtain⟨l,b,xs,zs,rfl,rfl,hH,hB,hz,q⟩:=h
 cases rx
 cases ry
 obtain⟨z,its,n,r,hl,e⟩:=I.lstM hH;obtain⟨z2,its2,n2,r2,hl2,e2⟩:=I.lstM hB;refine PySem.P.add_list e e2 ?_ (by rw[Au,Au];lia)
 have ea:its.toArray++its2.toArray=(its++its2).toArray:=by simp
 rw[ea];exact⟨.ref _,_,I.lnew (t':=s.toks) (r.append r2) (by rw[Ak];lia),rfl,q _ I.fresh⟩
noncomputable def rRep:R2:=λx y H Q=>∃l k xs,x=.ref l/\y=.int k/\H l=some (.lst xs)/\-(2 ^ 63)<=k/\k<2 ^ 63/\xs.length*k.toNat<=sizeLine /\
 ∀p,H p=none->Q (.ref p) (upd H p (.lst (Aq k.toNat xs).flatten))
theorem zl4{α:Type}(xs:List α)(k:Nat):(Aq k xs).flatten.length=k*xs.length:=by
 induction k with
 |zero=>simp
 |succ k ih=>rw[Cu,By,Ak,ih,Nat.succ_mul,Nat.add_comm]
theorem zlm:OpR X (binaryOp .Mult) rRep:=by
 intro pins s σ H x y v u Q I rx ry h;obtain⟨l,k,xs,rfl,rfl,hH,h1,h2,hz,q⟩:=h
 cases rx
 obtain⟨t,rfl⟩:=ry;obtain⟨z,its,n,r,hl,e⟩:=I.lstM hH;have hlen:its.toArray.size*k.toNat<=sizeLine:=by rw[Au,<- hl];exact hz
 have hcap:¬ its.toArray.size*k.toNat > (2 ^ 63-1) / 8:=by
  have:(sizeLine:Nat)<=(2 ^ 63-1) / 8:=by decide
  lia
 have hfit:¬ (!Builtin.List.listFitsIndex k)=true:=by rw[fitsIndex_both h1 h2];exact AV
 have hlong:¬ C0 (its.toArray.size*k.toNat)=true:=by rw[zhP hlen];exact AV
 have hnew:List.foldl (λx1 x2=>x1++x2) #[] (Aq (if its.toArray.isEmpty=true then 0 else k.toNat) its.toArray)=(Aq k.toNat its).flatten.toArray:=by
  have f0:∀m:Nat,List.foldl (λx1 x2=>x1++x2) #[] (Aq m its.toArray)=(Aq m its).flatten.toArray:=λm=>by have:=zgz its m [];rw[List.nil_append]at this;exact this
  rw[f0]
  cases its with
  |nil=>simp
  |cons a r'=>rw[if_neg (by simp)]
 refine wpAny_binaryOp_repeat_ref (T:="list") (U:="int") (by decide) ⟨_,e,rfl⟩ (λs'=>typeIs_int s' k t) noFill_list_mul F.fills_int_mul F.slot_int_rmul repeat_list F.slot_int_index.lookup
  (call_meets F.slot_int_rmul (typeIs_int s k t) F.entry_int_rmul (F.args_int_rmul_2 _ _) (int___rmul___int_list k t l its.toArray n)
   ⟨e,rfl,⟨_,e,rfl⟩,call_meets F.slot_list_mul ⟨_,e,rfl⟩ F.entry_list_mul (F.args_list_mul_2 _ _) (AutoListH.list___mul___list_int_3 l its.toArray n k t hfit hcap hlong) ⟨e,?_⟩⟩)
 rw[hnew];exact⟨.ref _,_,I.lnew (t':=s.toks) (r.rep k.toNat) (by rw[zl4,Nat.mul_comm];exact hz),rfl,q _ I.fresh⟩
end
section
variable {prog:AR}{w:Be}{A:A3}{E:Ac->Ae->Prop}{s:Ae}
end
section
variable {X:Cx}
end
end L2
namespace Att
open PySem PySem.W PySem.Calls PyProof.Rows
theorem zee{P:Params}{h:Heap}:∀(ns:List Int) (vs:List Ac),WellAll P h vs (ns.map WData.int)->Cv vs ns:=by
 intro ns
 induction ns with
 |nil =>
  intro vs w;rw[List.map_nil]at w
  cases w
  exact .nil
 |cons n ns ih =>
  intro vs w;rw[A7]at w
  cases w with
  |cons a b =>
   cases a
   exact .cons _ _ (ih _ b)
theorem zi9{l:OpenLaw}{n:Nat}(hn:l.most=some n){P:Params}{h:Heap}{args:List WData}{vals:List Ac}
  (hpre:l.row.toRowW.claim.pre args=true) (hwl:WellAll P h vals args) :
  ∃a vs ns,vals=[Aw a]/\args=[WData.list (ns.map WData.int)]/\h.get? a=some { cls:=.type "list",data:=.seq vs.toArray }/\Cv vs ns/\ns.length<=n:=by
 have hsh:WShape.hasAll [] args [.list .int]=true:=(pre_splitW hpre).1;have hc:l.pre.holds [] { args:=args }=true:=(pre_splitW hpre).2;obtain⟨d,r,rfl,h1,h2⟩:=hasAllW_cons hsh;obtain rfl:=hasAllW_nil h2;obtain⟨xs,rfl,h3⟩:=hasW_list h1;obtain⟨ns,rfl⟩:=items_int h3
 have hlen:ns.length<=n:=by
  unfold OpenLaw.pre at hc
  have h4:(WTm.not (.lt (.lit (.int (n:Int))) (.len (.arg 0)))).holds [] { args:=[.list (ns.map .int)] }=true:=by have h4:=(holds_andW hc).1;rw[hn]at h4;exact h4
  have h5:=condW_of h4 (w_not (w_lt w_lit (w_len_list (w_arg rfl))));rw[Ao]at h5;refine Nat.le_of_not_lt λq=>?_
  have q':(n:Int)<((ns.length:Nat):Int):=by lia
  first
   | (rw[decide_eq_true q']at h5;exact absurd h5 (by decide))
   | (simp at h5;lia)
 cases hwl with
 |cons w1 w2 =>
  cases w2
  cases w1 with
  |list ho hall=>exact⟨_,_,ns,rfl,rfl,ho,zee ns _ hall,hlen⟩
theorem zji(l:OpenLaw)(args:List WData):l.row.toRowW.claim.post args (.bool true) args=true :=
 postW_of (r:=l.row.toRowW) (X:=(true == true))
  (show WShape.has [] (.bool true) .bool=true by first |rfl |decide |simp[WShape.has,WShape.arms,WShape.armsAll])
  (show (WTm.eq .res (.lit (.bool true))).value [] { args:=args,res:=some (.bool true),after:=args }=some (.bool (true == true)) from w_eq_bool (w_res rfl) w_lit) rfl
theorem attach_call{l:OpenLaw}{n:Nat}{q:AR}{loose:List Str}{XP:(Str -> Option Ac) -> Heap -> Prop}{YP:Be -> Heap -> Prop}{d:DefRec}
  (hn:l.most=some n) (hdf:d.params.defaults=[])
  (call:∀(w:Be) (s₀ s₁:Ae) (mg mb:Str->Option Ac) (fa:Addr) (o:Obj) (pm cd doc:Ac) (a:Addr) (vs:List Ac) (ns:List Int),
   Ground q loose [] XP w s₀ mg mb s₁.heap->YP w s₁.heap ->
   s₁.heap.get? fa=some o->o.data=.func (docDef d.name d.params d.body d.scope pm cd doc)->s₁.heap.CodeRec cd d.name->mg d.name=some (.ref fa) ->
   s₁.heap.get? a=some { cls:=.type "list",data:=.seq vs.toArray }->Cv vs ns->ns.length<=n->s₁.gens=#[] ->
   Co (Ay l.prog w) callerA (.call (.ref fa) ⟨[.ref a],[]⟩) (λr s'=>r=.ok (.ret (.bool true))/\OldK s₁.heap s'.heap/\s'.os=s₁.os/\AllBare s'.gens) s₁) :
  WalkO q loose XP YP l.row.toRowW d [] (λf vs=>PySem.call f vs):=by
 intro w s₀ s₁ mg mb G Y fa o pm cd doc dV kV ho hd hcd hD hmg hg args vals as hpre hlay hrd hwl hlo;obtain rfl:dV=.none:=Dflts.none hD hdf;obtain rfl:kV=.none:=Dflts.noKw hD;obtain⟨a,vs,ns,rfl,rfl,hobj,hints,hlen⟩:=zi9 hn hpre hwl;refine enter_call (codeAny_mono (call w s₀ s₁ mg mb fa o pm cd doc a vs ns G Y ho (fd_plain hd) hcd hmg hobj hints hlen hg) λr s' hq=>?_);obtain⟨rfl,h2,h3,h4⟩:=hq;exact⟨.inl ⟨.bool true,.bool true,[],rfl,λ_=>rfl,.bool true,zji l _,λ_=>⟨List.Pairwise.nil,λ_ hm=>(nomatch hm)⟩⟩,h2,h3,h4⟩
section
variable {prog:AR}{w:Be}{A:A3}{E:Ac->Ae->Prop}{s:Ae}{K:Frag}
noncomputable def zm7(h:Heap)(L d:Addr):List (Addr×Obj):=(BS h.objs.size).filterMap λa=>if a=L∨a=d then none else (h.get? a).map λo=>(a,o)
end
end Att
namespace L2
open PySem PySem.Spec PyProof.Rows
theorem zf4:∀{vs:List Ac}{ns:List Int},Cv vs ns->Vals (ns.map V.int) vs
 |_,_,.nil=>.nil
 |_,_,.cons n t h=>.cons ⟨t,rfl⟩ (zf4 h)
noncomputable def Only(H:Hp):Prop:=∀b,H b=none∨∃o xs,H b=some (.frz o (.lst xs))
theorem zkK{P:AR}{w:Be}{K:W.Frag}{mg mb:Str -> Option Ac}{CX:CXT}{k:Nat}{fa a:Addr}{fd:BM}{x:Str}{sp:Sp}{s₁ : Ae}{vs:List Ac}{ns:List Int}
    (KX:K.In s₁.heap) (hns:s₁.heap.Ns AJ mg) (hb:s₁.heap.Ns builtinsNs mb) (hbb:∀x:Str,x ≠ "__name__" -> mb x=bootBuiltins x) (hlim:s₁.heap.NoLimit) (hg:s₁.gens=#[])
    (ha:s₁.heap.get? a=some { cls:=.type "list",data:=.seq vs.toArray }) (hi:Cv vs ns) (hl:ns.length<=sizeLine) (hr:Room k callerA)
    (F:∀base:Heap,K.In base->base.Ns AJ mg->FnOk P w K mg base CX k fa fd [x] sp) (hbind:∀(s:Ae) (u:Ac),BindsTo s fd ⟨[u],[]⟩ [(x,u)])
    (hsp:∀H:Hp,Only H->SqL K H a (ns.map V.int)->sp [.ref a] H (λv _=>v=.bl true) λ_ _ _=>False)
    (hCX:∀H e s',CX [] H s₁ (λ_ _ _=>False) e s'->False) :
    Co (Ay P w) callerA (.call (.ref fa) ⟨[.ref a],[]⟩) (λr s'=>r=.ok (.ret (.bool true))/\OldK s₁.heap s'.heap/\s'.os=s₁.os/\AllBare s'.gens) s₁:=by
  have rv:=zf4 hi;have lenV:=hi.length
  have core:∀H:Hp, Only H -> SqL K H a (ns.map V.int) -> HOk P w H s₁.heap -> (∀b, H b ≠ none -> b=a) -> (H a ≠ none -> K.lookup a=none) ->
      Co (Ay P w) callerA (.call (.ref fa) ⟨[.ref a],[]⟩) (λr s'=>r=.ok (.ret (.bool true))/\OldK s₁.heap s'.heap/\s'.os=s₁.os/\AllBare s'.gens) s₁:=by
    intro H hO hS hok hA hK;have base_of:∀{b:Addr} {o:Obj},s₁.heap.get? b=some o->H b=none->(hidT s₁.heap H).get? b=some o:=λe n=>zkM e n
    have noA:∀{b:Addr} {o:Obj} {es:Array DictEntry} {ep:Nat},s₁.heap.get? b=some o->o.data=.dict es ep->H b=none:=λ{b o es ep} e d=>by
      cases q:H b with
      |none=>rfl
      |some u =>
        have e':b=a:=hA b (by rw[q];simp);subst e';rw[ha]at e;cases e;have d':Data.seq vs.toArray _=Data.dict es ep:=d
        cases d'
    have nsK:∀{b:Addr} {m:Str->Option Ac},s₁.heap.Ns b m->(hidT s₁.heap H).Ns b m:=λ{b m} ⟨o,es,ep,e,d,r⟩=>⟨o,es,ep,base_of e (noA e d),d,r⟩
    have hKb:K.In (hidT s₁.heap H):=λb o e=>base_of (KX b o e) (by
      cases q:H b with
      |none=>rfl
      |some u =>
        have e':b=a:=hA b (by rw[q];simp);subst e';rw[hK (by rw[q];simp)]at e;cases e)
    have hM:Mod K mg (hidT s₁.heap H):=⟨hKb,nsK hns,⟨mb,nsK hb,hbb⟩,let ⟨mc,h1,h2⟩:=hlim;⟨mc,nsK h1,h2⟩⟩;have e0:Env0 P w K mg (hidT s₁.heap H) callerA [] s₁ H:=⟨rfl,hM,λb o e=>zlW e,Nat.le_of_eq (zjN _ _),trivial,λb hb=>absurd (show b∈([]:List Addr) from hb) (by simp),hok,.of_eq hg⟩;refine codeAny_mono ((F _ hKb (nsK hns)).run callerA [] s₁ H ⟨[.ref a],[]⟩ [.ref a] [.ref a] _ _ hr e0 (hbind s₁ (.ref a)) (.cons rfl .nil) (hsp H hO hS)) λr s' h=>?_
    cases r with
    |error e=>exact (hCX H e s' h).elim
    |ok fl =>
      cases fl with
      |next=>exact BK h
      |brk=>exact BK h
      |cont=>exact BK h
      |ret u =>
        obtain⟨v,H',os,bare,un,hok',r',q⟩:=h;have q':v=.bl true:=q;subst q';obtain rfl:u=Value.bool true:=r';refine⟨rfl,OldK.of_keep λb o e=>?_,os,bare⟩
        cases q:H b with
        |none=>exact un.keep b o e q (by intro z;exact absurd (show b∈([]:List Addr) from z) (by simp)) (by simp)
        |some u =>
          rcases hO b with z |⟨ob,xs,z⟩
          . rw[q]at z;cases z
          . have z2:=un.frzs b ob _ z;obtain⟨e1,_⟩:=hok b _ z;obtain⟨e2,_⟩:=hok' b _ z2;rw[e]at e1;cases e1;exact e2
  cases hk:K.lookup a with
  |some o =>
    have e:=KX a o hk;rw[ha]at e
    cases e
    refine core (λ_=>none) (λ_=>.inl rfl) (.inr ⟨_,vs.toArray,_,hk,rfl,rfl,rfl,by rw[Au,lenV];exact hl,by simpa using rv⟩) (λb u z=>by have z':(none:Option HO)=some u:=z;cases z') (λb z=>absurd rfl z) λz=>absurd rfl z
  |none =>
    refine core (λb=>if b=a then some (.frz { cls:=.type "list",data:=.seq vs.toArray } (.lst (ns.map V.int))) else none) (λb=>?_) (.inl (.inr ⟨{ cls:=.type "list",data:=.seq vs.toArray },if_pos rfl⟩)) (λb u z=>?_) (λb z=>?_) λ_=>hk
    . by_cases hb:b=a
      . exact .inr ⟨_,_,if_pos hb⟩
      . exact .inl (if_neg hb)
    . by_cases hb:b=a
      . have z':=(if_pos hb).symm.trans z
        cases z'
        subst hb;exact⟨ha,by rw[Ao];exact hl,vs,_,rv,ha⟩
      . have z':=(if_neg hb).symm.trans z
        cases z'
    . by_cases hb:b=a
      . exact hb
      . exact absurd (if_neg hb) z
noncomputable abbrev KOf{K:W.Frag}{h:Heap}(_:K.In h):W.Frag:=K
theorem walk_of{l:W.OpenLaw}{n k:Nat}{q:AR}{loose:List Str}{XP:(Str -> Option Ac) -> Heap -> Prop}{YP:Be -> Heap -> Prop}{d:DefRec}{K:Params -> W.Frag}{CX:Be -> CXT}{sp:Be -> Sp}{x:Str}
  (hn:l.most=some n) (hn2:n<=sizeLine) (hdf:d.params.defaults=[]) (hr:Room k callerA)
  (hY:∀(w:Be) (h:Heap),YP w h->(K w.params).In h)
  (F:∀(w:Be) (mg:Str->Option Ac) (fa:Addr) (h:Heap),(K w.params).In h->h.Ns AJ mg->mg d.name=some (.ref fa) ->
   ∃fd:BM,(∀(s:Ae) (u:Ac),BindsTo s fd ⟨[u],[]⟩ [(x,u)]) /\
    ∀base:Heap,(K w.params).In base->base.Ns AJ mg->FnOk l.prog w (K w.params) mg base (CX w) k fa fd [x] (sp w))
  (hsp:∀(w:Be) (H:Hp) (a:Addr) (ns:List Int),ns.length<=n->Only H->SqL (K w.params) H a (ns.map V.int)->sp w [.ref a] H (λv _=>v=.bl true) λ_ _ _=>False)
  (hCX:∀(w:Be) (H:Hp) (s:Ae) (e:Ac) (s':Ae),CX w [] H s (λ_ _ _=>False) e s'->False) :
  W.WalkO q loose XP YP l.row.toRowW d [] (λf vs=>PySem.call f vs):=by
 refine Att.attach_call hn hdf λw s₀ s₁ mg mb fa o pm cd doc a vs ns G Y ho hd hcd hmg hobj hints hlen hg=>?_
 have KX:=hY w _ Y;obtain⟨fd,hb,hF⟩:=F w mg fa _ KX G.T.g hmg;exact zkK KX G.T.g G.T.b G.T.builtins G.T.nolimit hg hobj hints (AW hlen hn2) hr hF hb (λH hO hS=>hsp w H a ns hlen hO hS) λH e s'=>hCX w H s₁ e s'
end L2
/- THE LAST THEOREM (shape; LID, My.* are yours):
  My.Adr: a structure of the addresses that your layer names (classes,functions);My.Txt K t: a structure (Prop) of the equations over K;
  My.txt_mk:{K} {implicit addresses ..} (e1:nsIn K AJ "law" = some (some (.ref f))) (e2:K.lookup f=some ⟨oc,od,.func (fnOf "law" "law" params body scope dV kV doc pm an cdv ct),sl⟩) (e3:codeIn K cdv "law" = true) ..:∃t,My.Txt K t
set_option maxRecDepth 100000 in
set_option maxHeartbeats 0 in
theorem PySem.Challenge.cw_LID_holds : PySem.Challenge.rw_LID.Holds := by
 w_on;o_law;k_head;(case hw=>w_witness2)
 k_fill
 refine L2.walk_of (l:=PySem.Challenge.rw_LID) (n:=63) (k:=40) (x:="script") (CX:=λw=>..) (sp:=λ_=>My.sp_law) rfl (by decide) rfl ⟨rfl,by decide,by decide⟩ (λw h Y=>W.kIn_of Y) ?F ?S ?C
 case F =>
  intro w mg fa h KX G hmg
  have T:∃ t,My.Txt (L2.KOf KX) t:=by
   dsimp only[L2.KOf]                          -- K must stand as «<heap const> w.params» for k_is
   refine' My.txt_mk ?e1 ?e2 ?e3 ..
   (case e1=>W.k_is)                    -- in the order: a name -> its address -> its object -> its parts
   (case e2=>W.k_is)
   ..
  obtain⟨t,T⟩:=T
  have e0:=hmg.symm.trans (W.mg_of KX G T.law)
  cases e0                                       -- fa is the law's own address
  exact⟨_,λs u=>.of_eq rfl,λbase kb nb=>My.law_fn T kb nb⟩     -- if «.of_eq rfl» comes too early: refine' ⟨_,?b,λbase kb nb=>My.law_fn T kb nb⟩;exact λs u=>.of_eq rfl
 case S=>exact λw H a ns hl hO hS=>..
 case C=>exact ..
(the tactic k_is has no namespace: write k_is) -/
namespace L2
open PySem PySem.Spec PyProof.Rows
noncomputable def za5(s:Stmt):Arguments:=match s with
 |.FunctionDef _ a _ _ _ _ _ _ _ _=>a
 |_=>{ posonlyargs:=[],args:=[],vararg:=none,kwonlyargs:=[],kw_defaults:=[],kwarg:=none,defaults:=[] }
noncomputable def zaI(s:Stmt):List Stmt:=match s with
 |.FunctionDef _ _ b _ _ _ _ _ _ _=>b
 |_=>[]
noncomputable def zad(s:Stmt):Scope:=match s with
 |.FunctionDef _ _ _ _ _ _ sc _ _ _=>sc
 |_=>{ kind:=.function,names:=[],isGenerator:=false,isCoroutine:=false }
noncomputable abbrev CX0:CXT:=λ_ _ _ _ _ _=>False
noncomputable abbrev E0:XK:=λ_ _ _=>False
theorem pass0{X:Cx}:zka CX0 X E0:=λ_ _ _ _ _ _ _ h=>h.elim
structure Fun (K:W.Frag) (x qual:Str) (st:Stmt) (f:Addr) (fd:BM):Prop where
 ex:∃(oc:Ac) (od:Option Addr) (kV doc pm:Ac) (an:Option Addr) (cdv ct:Ac) (osl:Array (Option Ac)),
  fd=C7 x qual (za5 st) (zaI st) (zad st) .none kV doc pm an cdv ct/\K.lookup f=some ⟨oc,od,.func fd,osl⟩/\W.codeIn K cdv qual=true
 kp:W.keepIn K (.ref f)=true
section
variable {P:AR}{w:Be}{K:W.Frag}{mg:Str->Option Ac}{base:Heap}
theorem Fun.ok{x qual:Str}{st:Stmt}{f:Addr}{fd:BM}{N ps:List Str}{k:Nat}{sp:Sp}(F:Fun K x qual st f fd)(S:FnScope N ps (zad st))(len:∀vs H Q E, sp vs H Q E -> vs.length=ps.length)
  (hbody:∀(cdv:Ac) (A:A3) (outer:List Env) (s:Ae) (H:Hp) (vs:List V) (Q:VK) (E:XK),Room k (A.deeper (envOfC qual (zad st) s.heap.objs.size f cdv))->sp vs H Q E ->
   ∃t,PSs (cxOf CX0 P w K mg base N qual (zad st) f cdv A outer s H E).nox (zaI st) t/\t { nx:=λ_ H'=>Q .non H',rt:=Q } (start N vs) H):FnOk P w K mg base CX0 (k+1) f fd ps sp:=by
 obtain⟨oc,od,kV,doc,pm,an,cdv,ct,osl,rfl,lk,hcd⟩:=F.ex;refine fn_of lk hcd S len λA outer s H vs Q E hr hsp=>?_
 obtain⟨t,h,q⟩:=hbody cdv A outer s H vs Q E hr hsp;exact⟨t,h.nox,q⟩
theorem Fun.binds{x qual:Str}{st:Stmt}{f:Addr}{fd:BM}{ps:List Str}(F:Fun K x qual st f fd)
  (h:∀(kV doc pm:Ac) (an:Option Addr) (cdv ct:Ac) (us:List Ac),us.length=ps.length->Dt (C7 x qual (za5 st) (zaI st) (zad st) .none kV doc pm an cdv ct) ⟨us,[]⟩=pure (ps.zip us)):Binds K fd ps []:=by
 obtain⟨oc,od,kV,doc,pm,an,cdv,ct,osl,rfl,lk,hcd⟩:=F.ex;exact .all (h kV doc pm an cdv ct)
theorem zcF{x qual:Str}{st:Stmt}{f:Addr}{oc:Ac}{od an:Option Addr}{osl:Array (Option Ac)}{kV doc pm cdv ct:Ac}(l:K.lookup f=some ⟨oc, od, .func (C7 x qual (za5 st) (zaI st) (zad st) .none kV doc pm an cdv ct), osl⟩)
  (c:W.codeIn K cdv qual=true) (k:W.keepIn K (.ref f)=true):Fun K x qual st f (C7 x qual (za5 st) (zaI st) (zad st) .none kV doc pm an cdv ct):=⟨⟨oc,od,kV,doc,pm,an,cdv,ct,osl,rfl,l,c⟩,k⟩
end
theorem hu_of{A:A3}{k:Nat}(hr:Room k A):A.units+1<cLine:=DV (Nat.add_le_add_left (by decide:1<=64) _) hr.units
theorem zaj{n:Nat}(h:n<=1000):n<sizeLine:=DV h (by decide)
section
variable {X:Cx}
theorem pv (i:Nat){x:Str}{pos:Pos}(hN:X.N[i]? = some x := by rfl) (hv:Vis X.env.scope x := by first |exact Or.inl rfl |exact DH (Or.inl rfl) |exact DH (DH rfl)) (hd:(x == ("__debug__" : Str))=false := by decide)
  (hcd:(x == ("__classdict__" : Str))=false:=by decide):PE X (.Name x pos) (tVar i):=zmG hN hv hd hcd
end
theorem iteF{A B:Prop}(h:B):if false=true then A else B:=by rw[if_neg AV];exact h
theorem iteT{A B:Prop}(h:A):if true=true then A else B:=by rw[if_pos rfl];exact h
theorem ite2{c A B:Prop} [Decidable c](h1:c->A)(h2:¬ c->B):if c then A else B:=by
 by_cases h:c
 .rw[if_pos h];exact h1 h
 .rw[if_neg h];exact h2 h
noncomputable def Same(H H':Hp):Prop:=∀b o,H b=some o->H' b=some o
theorem Same.refl(H:Hp):Same H H:=λ_ _ h=>h
theorem Same.trans{H H1 H2:Hp}(a:Same H H1)(b:Same H1 H2):Same H H2:=λc o h=>b c o (a c o h)
theorem Same.free{H H':Hp}(e:Same H H'){l:Addr}(h:H' l=Option.none):H l=Option.none:=by
 cases q:H l with
 |none=>rfl
 |some o =>
  rw[e l o q]at h
  cases h
theorem Same.seq{K:W.Frag}{H H':Hp}{a:Addr}{xs:List V}(e:Same H H')(h:SqL K H a xs):SqL K H' a xs:=by
 rcases h with (h |⟨o,h⟩) |h
 .exact .inl (.inl (e _ _ h))
 .exact .inl (.inr ⟨o,e _ _ h⟩)
 .exact .inr h
section
variable {κ:Type} [DecidableEq κ]
theorem zkh{kvs:List (κ×V)}{k:κ}(h:valV kvs k=none):¬ k∈kvs.map (·.1):=by intro m;obtain⟨p,hp,e⟩:=AS.mp m;have q:(kvs.any λkv=>decide (kv.1=k))=true:=List.any_eq_true.mpr ⟨p,hp,decide_eq_true e⟩;rw[zcJ,h]at q;exact absurd q (by simp)
theorem zjv:∀{l:List κ}{k:κ},l.Nodup->¬ k∈l->(l++[k]).Nodup
 |[],k,_,_=>by simp
 |a::r,k,h,hk=>by
  obtain⟨h1,h2⟩:=BF.mp h;show (a::(r++[k])).Nodup;refine List.nodup_cons.mpr ⟨λm=>?_,zjv h2 λm=>hk (List.mem_cons.mpr (DH m))⟩;rcases AH.mp m with q |q
  .exact h1 q
  .exact hk (List.mem_cons.mpr (Or.inl (Ah.mp q).symm))
theorem zl1{kvs:List (κ×V)}{k:κ}(v:V)(hn:(kvs.map (·.1)).Nodup)(h:valV kvs k=none):((putK kvs k v).map (·.1)).Nodup:=by rw[zfn v h,A6];exact zjv hn (zkh h)
theorem zjS{p:κ×V}{r:List (κ×V)}{k:κ}(e:p.1=k):dropK (p::r) k=dropK r k:=by unfold dropK;rw[CD,if_neg (by simp[e])]
theorem zgC{p:κ×V}{r:List (κ×V)}{k:κ}(e:¬ p.1=k):dropK (p::r) k=p::dropK r k:=by unfold dropK;rw[CD,if_pos (by simp[e])]
theorem zia:∀{kvs:List (κ×V)}{k:κ},¬ k∈kvs.map (·.1)->dropK kvs k=kvs
 |[],_,_=>rfl
 |p::r,k,h=>by
  have h':¬ k∈r.map (·.1):=λm=>by obtain⟨q,hq,e⟩:=AS.mp m;exact h (AS.mpr ⟨q,List.mem_cons.mpr (DH hq),e⟩)
  rw[zgC λe=>h (AS.mpr ⟨p,List.mem_cons.mpr (Or.inl rfl),e⟩),zia h']
end
end L2
set_option maxHeartbeats 4000000
namespace L2
open PySem PySem.Spec PyProof.Rows
noncomputable def zb9(J:It)(g:TG)(tb:TS):TS:=λD σ H=>∃W:Nat->Nat->St->Hp->Prop,(∃m,W 0 m σ H)/\∀i m σ H,W i m σ H ->
 (J.stop i H/\D.nx σ H)∨(J.go i H/\∃N:St->Hp->Prop,(∀ σ' H',N σ' H'->∃m',m'<m/\W (i+1) m' σ' H')/\∀x H',J.yld i H x H'->g x σ H' λσ2 H2=>tb { D with nx:=N,ct:=N,bk:=D.nx } σ2 H2)
noncomputable def PTs(X:Cx)(ifs:List Expr)(t:TT):Prop :=
 ∀(pins:List (Addr×Obj)) (s:Ae) (σ:St) (H:Hp) (Q:Bool->Hp->Prop),Inv X pins σ H s->t σ H Q ->
  At (Ay X.prog X.w) X.A (forIn ifs true λc r=>if r=true then do let ok <- isTrue c X.env (eval c X.env);pure (ForInStep.yield ok) else pure (ForInStep.yield r)) (TP X pins σ Q) X.xe s
theorem zbQ{X:Cx}:PTs X [] (λ_ H Q=>Q true H):=λpins s σ H Q I h=>Af ⟨H,I,h⟩
theorem zbP{X:Cx}{c:Expr}{t:TT}(hc:PT X c t):PTs X [c] t:=λpins s σ H Q I h=>wpAny_tests_one (hc pins s σ H Q I h)
noncomputable def PB(X:Cx)(inner:Sem Unit)(t:TS):Prop :=
 ∀(pins:List (Addr×Obj)) (s:Ae) (σ:St) (H:Hp) (D:Ends),Inv X pins σ H s->t D σ H->At (Ay X.prog X.w) X.A inner (λ_ s'=>∃ σ' H',Inv X pins σ' H' s'/\D.nx σ' H') X.xe s
noncomputable def tIfs(tt:TT)(tb:TS):TS:=λD σ H=>tt σ H λb H1=>if b=true then tb D σ H1 else D.nx σ H1
theorem zdm{X:Cx}{e tg:Expr}{d:Nat}{ifs:List Expr}{p:Pos}{acc:Ac}{inner:Sem Unit}{g:TG}{tt:TT}{tb:TS}{it:Addr}{fp:List Addr}{tn:Nat -> Heap -> Prop}{J:It}
  {pins:List (Addr×Obj)} {s:Ae} {σ:St} {H:Hp} {D:Ends} {R:Result->Ae->Prop}
  (hq:(Code.compLoop e d (.ref it) acc X.env).quiet=true)
  (hden:(Ay X.prog X.w).den (.compLoop e d (.ref it) acc X.env)=(compTurn e d (.ref it) acc X.env).onRaise (λx=>do noteFrame x X.env;theTreesLotGoes x))
  (hT:compTurn e d (.ref it) acc X.env=(do
   standAt p
   match <- pyNext (.ref it) with
   |none=>pure (.done .next)
   |some v =>
    DQ tg (.ref it) v
    Ds tg X.env v
    let mut ok:=true
    for c in ifs do
     if ok then ok <- isTrue c X.env (eval c X.env)
    if ok then
     inner
    again (.compLoop e d (.ref it) acc X.env)))
  (hA:∀(B:A3) {α:Type} {t:Sem α} {Q:α->Ae->Prop} {E:Ac->Ae->Prop} {s:Ae},B=X.A.under (.compLoop e d (.ref it) acc X.env)->At (Ay X.prog X.w) X.A t Q E s->At (Ay X.prog X.w) B t Q E s)
  (hc:X.calm=true) (hx:X.xe=λ_ _=>False) (hg:PG X tg g) (ht:PTs X ifs tt) (hb:PB X inner tb)
  (I:Inv X pins σ H s) (T:Turn X.prog X.w X.K tg J fp it tn) (st:tn 0 s.heap) (f:∀b∈fp,FpOk X pins H b) (W:zb9 J g (tIfs tt tb) D σ H)
  (hR:∀fl s',(∃ σ' H',Inv X pins σ' H' s'/\(∀b∈fp,H' b=none)/\D.nx σ' H')->R (.ok fl) s') :
  Co (Ay X.prog X.w) X.A (.compLoop e d (.ref it) acc X.env) R s:=by
 obtain⟨W,⟨m0,w0⟩,turn⟩:=W;have stat:∀{H':Hp},(∀b∈fp,H' b=none)->∀b∈fp,FpOk X pins H' b:=λhn b hb=>⟨hn b hb,(f b hb).2⟩
 refine codeAny_loop hq (λn s'=>∃i σ' H',Inv X pins σ' H' s'/\tn i s'.heap/\(∀b∈fp,H' b=none)/\W i n σ' H') ?_ m0 ⟨0,σ,H,I,st,λb hb=>(f b hb).1,w0⟩;rintro n s3 ⟨i,σ3,H3,I3,st3,fr3,w3⟩;refine hA _ rfl ?_
 rw[hden];refine wpAny_noted (wpAny_noRaise ?_);rw[hT];refine Ab (CB ?_)
 have nx:∀{α:Type} {t:Sem α} {Q:α->Ae->Prop} {s:Ae},At (Ay X.prog X.w) X.A t Q X.xe s->At (Ay X.prog X.w) X.A t Q (λ_ _=>False) s:=λ{α t Q s} h=>by rw[hx]at h;exact h
 rcases turn i n σ3 H3 w3 with⟨stop,qn⟩ |⟨go,N,hN,step⟩
 .refine Ab (thn (T.done X rfl rfl rfl hc i pins s3 σ3 H3 _ I3 (stat fr3) st3 stop) λr s4 ⟨hr,I4⟩=>?_);subst hr;exact Af (hR _ _ ⟨σ3,H3,I4,fr3,qn⟩)
 .refine Ab (thn (T.item X rfl rfl rfl hc i pins s3 σ3 H3 _ I3 (stat fr3) st3 go) λr s4 ⟨u,hr,h4⟩=>?_);subst hr;refine Ab (thn h4 λ_ s5 ⟨x,H5,I5,r5,y5,st5,fr5⟩=>?_);have I5':=I5.pinned (stat fr5) (T.obj _ _ st5)
  have again:∀{σ7:St} {H7:Hp} {s7:Ae},Inv X (pins++zdA fp s5.heap) σ7 H7 s7->N σ7 H7->∃m,m<n/\∃i σ' H',Inv X pins σ' H' s7/\tn i s7.heap/\(∀b∈fp,H' b=none)/\W i m σ' H':=λ{σ7 H7 s7} I7 n7=>by obtain⟨m',hm,w7⟩:=hN σ7 H7 n7;refine⟨m',hm,i+1,σ7,H7,I7.unpinned,T.keep _ _ _ st5 λb hb o e=>(I7.pin (b,o) (As _ (As _ (za4 hb e)))).1,λb hb=>?_,w7⟩;obtain⟨o,e,d⟩:=T.obj _ _ st5 b hb;exact (I7.pin (b,o) (As _ (As _ (za4 hb e)))).2.1
  refine Ab (thn (nx (hg _ s5 σ3 H5 x u _ I5' r5 (step x H5 y5))) λ_ s6 ⟨σ6,H6,I6,q6⟩=>?_);refine Ab (thn (nx (ht _ s6 σ6 H6 _ I6 q6)) λok s7 ⟨H7,I7,q7⟩=>?_)
  cases ok with
  |false =>
   exact Af ⟨rfl,again I7 q7⟩
  |true =>
   refine Ab (thn (nx (hb _ s7 σ6 H7 _ I7 q7)) λ_ s8 ⟨σ8,H8,I8,q8⟩=>?_);exact Af ⟨rfl,again I8 q8⟩
noncomputable abbrev blk(X:Cx)(sc:Scope)(cl:List (Str×Addr))(C:Addr)(N':List Str)(s0:Ae)(H0:Hp)(ex:List Addr):Cx :=
 { X with N:=N',s₀:=s0,H₀:=H0,env:=CS sc cl C X.env,outer:=X.stack,stack:=X.stack,ex:=ex,fn:=λ_=>false,pn:=[],xe:=λ_ _=>False }
structure BlkOk (osc:Scope) (N:List Str) (sc:Scope) (N':List Str) (sel:List (Option Nat)):Prop where
 kind:sc.kind=.function
 nocell:∀y∈sc.names,y.2≠.cell
 names:∀y∈sc.names,y.2=.local->sc.names.lookup y.1=some .local
 free:∀y∈sc.names,y.2=.free->osc.names.lookup y.1=some .cell∨osc.names.lookup y.1=some .free
 len:sel.length=N'.length
 sel:∀p∈sel.zip N',∀i∈p.1,N[i]?=some p.2/\sc.names.lookup p.2=some .free
noncomputable def selSt(sel:List (Option Nat))(σ:St):St:=sel.map λo=>o.bind λi=>(σ[i]?).join
theorem zc8{env:Env} : ∀(names:List (Str × NameKind)) (acc:List (Str × Addr)), (∀y ∈ names, y.2 = .free -> ∃c, env.cells.lookup y.1=some c) ->
  ∃cl,(forIn names acc λ(x:Str×NameKind) (r:List (Str×Addr))=>(if (x.2 == .free)=true then do let c <- cellOf env x.1;pure (ForInStep.yield ((x.1,c)::r)) else pure (ForInStep.yield r):Sem (ForInStep (List (Str×Addr)))))=pure cl /\
   (∀x c,cl.lookup x=some c->acc.lookup x=some c∨(env.cells.lookup x=some c/\(x,Bt)∈names))/\(∀y∈names,y.2=.free->∃c,cl.lookup y.1=some c)/\(∀x c,acc.lookup x=some c->∃c',cl.lookup x=some c')
 |[],acc,_=>⟨acc,rfl,λ_ _ h=>.inl h,(λ_ h=>nomatch h),λx c h=>⟨c,h⟩⟩
 | (n,k)::r,acc,h=>by
  by_cases hk:k=.free
  .subst hk;obtain⟨c,hc⟩:=h (n,.free) An rfl;obtain⟨cl,e,h1,h2,h3⟩:=zc8 r ((n,c)::acc) λy hy=>h y (Ap _ hy)
   refine⟨cl,?_,λx c' hx=>?_,λy hy hf=>?_,λx c' hx=>?_⟩
   .rw[List.forIn_cons];have e1:cellOf env n=pure c:=by unfold cellOf;rw[hc]
    simp only[beq_self_eq_true,if_true,e1,pure_bind];exact e
   .rcases h1 x c' hx with q |⟨q,m⟩
    .by_cases hn:x=n
     .subst hn;rw[Bq,beq_self_eq_true]at q
      cases q
      exact .inr ⟨hc,An⟩
     .have hb:(x == n)=false:=by simpa using hn
      rw[Bq,hb]at q;exact .inl q
    .exact .inr ⟨q,Ap _ m⟩
   .rcases AM.mp hy with z |z
    .subst z;exact h3 n c (by rw[Bq,beq_self_eq_true])
    .exact h2 y z hf
   .by_cases hn:x=n
    .subst hn;exact h3 x c (by rw[Bq,beq_self_eq_true])
    .have hb:(x == n)=false:=by simpa using hn
     exact h3 x c' (by rw[Bq,hb];exact hx)
  .obtain⟨cl,e,h1,h2,h3⟩:=zc8 r acc λy hy=>h y (Ap _ hy)
   refine⟨cl,?_,λx c' hx=>?_,λy hy hf=>?_,h3⟩
   .rw[List.forIn_cons];have hb:(k == Bt)=false:=by simpa using hk
    simp only[hb,A0,if_false,pure_bind];exact e
   .rcases h1 x c' hx with q |⟨q,m⟩
    .exact .inl q
    .exact .inr ⟨q,Ap _ m⟩
   .rcases AM.mp hy with z |z
    .subst z;exact absurd hf hk
    .exact h2 y z hf
structure Clo (env:Env) (sc:Scope) (cl:List (Str×Addr)):Prop where
 run:closureFor sc env=pure cl
 old:∀x c,cl.lookup x=some c->env.cells.lookup x=some c/\(x,Bt)∈sc.names
 has:∀y∈sc.names,y.2=.free->∃c,cl.lookup y.1=some c
theorem ze4{X:Cx}{osc:Scope}{N:List Str}{sc:Scope}{N':List Str}{sel:List (Option Nat)}(ok:X.Ok)(B:BlkOk osc N sc N' sel)(ho:X.env.scope=osc):∃cl,Clo X.env sc cl:=by
 have hc:∀y∈sc.names,y.2=.free->∃c,X.env.cells.lookup y.1=some c:=λy hy hf=>ok.has y.1 (by
  show X.env.scope.names.lookup y.1=_∨X.env.scope.names.lookup y.1=_;rw[ho];exact B.free y hy hf)
 obtain⟨cl,e,h1,h2,_⟩:=zc8 (env:=X.env) sc.names [] hc;refine⟨cl,?_,λx c h=>?_,h2⟩
 .unfold closureFor;have e':=e;show (do let r <- forIn sc.names [] _;pure r)=_;simp only[bind_pure];exact e'
 .rcases h1 x c h with q |q
  .cases q
  .exact q
theorem zb7{env:Env} : ∀{names:List (Str × NameKind)}{x:Str}{k:NameKind}, (names.map λ(n, k) => if (k == Bt && env.scope.kind == .function && env.kindOf n == some .cell) then (n, Dh) else (n, k)).lookup x=some k ->
  ∃k',(x,k')∈names/\(k=k'∨(k=.cell/\k'=.free))
 |[],x,k,h=>nomatch h
 | (n,j)::r,x,k,h=>by
  have ih:=@zb7 env r x k;have h:List.lookup x ((if (j == Bt && env.scope.kind == .function && env.kindOf n == some .cell)=true then (n,Dh) else (n,j))::_)=some k:=h
  by_cases hx:x=n
  .subst hx
   by_cases hc:(j == Bt && env.scope.kind == .function && env.kindOf x == some .cell)=true
   .rw[if_pos hc,Bq,beq_self_eq_true]at h
    cases h
    refine⟨j,An,.inr ⟨rfl,?_⟩⟩;simp only[Bp,beq_iff_eq]at hc;exact hc.1.1
   .rw[if_neg hc,Bq,beq_self_eq_true]at h
    cases h
    exact⟨j,An,.inl rfl⟩
  .have hb:(x == n)=false:=by simpa using hx
   have h':List.lookup x (r.map λ(n,k)=>if (k == Bt && env.scope.kind == .function && env.kindOf n == some .cell) then (n,Dh) else (n,k))=some k:=by
    by_cases hc:(j == Bt && env.scope.kind == .function && env.kindOf n == some .cell)=true
    .rw[if_pos hc,Bq,hb]at h;exact h
    .rw[if_neg hc,Bq,hb]at h;exact h
   obtain⟨k',m,e⟩:=ih h';exact⟨k',Ap _ m,e⟩
theorem zbX{env:Env} : ∀{names:List (Str × NameKind)}{x:Str}, names.lookup x=some .free ->
  (names.map λ(n,k)=>if (k == Bt && env.scope.kind == .function && env.kindOf n == some .cell) then (n,Dh) else (n,k)).lookup x=some .cell ∨
  (names.map λ(n,k)=>if (k == Bt && env.scope.kind == .function && env.kindOf n == some .cell) then (n,Dh) else (n,k)).lookup x=some .free
 |[],x,h=>nomatch h
 | (n,j)::r,x,h=>by
  have ih:=@zbX env r x;rw[Bq]at h;show List.lookup x ((if (j == Bt && env.scope.kind == .function && env.kindOf n == some .cell)=true then (n,Dh) else (n,j))::_)=_∨List.lookup x ((if (j == Bt && env.scope.kind == .function && env.kindOf n == some .cell)=true then (n,Dh) else (n,j))::_)=_
  cases hx:x == n with
  |true =>
   rw[hx]at h
   cases h
   by_cases hc:(Bt == Bt && env.scope.kind == .function && env.kindOf n == some .cell)=true
   .rw[if_pos hc,Bq,hx];exact .inl rfl
   .rw[if_neg hc,Bq,hx];exact .inr rfl
  |false =>
   rw[hx]at h
   by_cases hc:(j == Bt && env.scope.kind == .function && env.kindOf n == some .cell)=true
   .rw[if_pos hc,Bq,hx];exact ih h
   .rw[if_neg hc,Bq,hx];exact ih h
section
variable {X:Cx}{osc:Scope}{N:List Str}{sc:Scope}{N':List Str}{sel:List (Option Nat)}{cl:List (Str×Addr)}{pins:List (Addr×Obj)}{σ:St}{H:Hp}{s:Ae}{fp:List Addr}
theorem zl9{h':Heap}{ob:Obj}{tk:Nat}(B:BlkOk osc N sc N' sel)(ho:X.env.scope=osc)(hN:X.N=N)(Cl:Clo X.env sc cl)(I:Inv X pins σ H s)
    (f:∀b∈fp,FpOk X pins H b) (fo:∀b∈fp,∃o,s.heap.get? b=some o) (hns:h'.Ns s.heap.objs.size (λ_=>none)) (hsb:Cj s.heap.objs.size (s.heap.push ob) h') :
    Inv (blk X sc cl s.heap.objs.size N' s H fp) [] (selSt sel σ) H { s with heap:=h',toks:=tk }:=by
  have old:∀b o,s.heap.get? b=some o->h'.get? b=some o:=λb o e=>(hsb.2 b (A4 (AA e))).trans (Ag _ e)
  have bel:∀b∈fp,b<s.heap.objs.size:=λb hb=>by obtain⟨o,e⟩:=fo b hb;exact AA e
  have kk:∀x,(CS sc cl s.heap.objs.size X.env).kindOf x=some .cell∨(CS sc cl s.heap.objs.size X.env).kindOf x=some .free->(x,Bt)∈sc.names:=λx hx=>by
    rcases hx with hx |hx
    . obtain⟨k',m,e⟩:=zb7 hx;rcases e with e |⟨_,e⟩
      . subst e;exact absurd rfl (B.nocell _ m)
      . subst e;exact m
    . obtain⟨k',m,e⟩:=zb7 hx;rcases e with e |⟨e,_⟩
      . subst e;exact m
      . cases e
  refine⟨⟨I.mod, B.kind, I.ok.glob, I.ok.blt, Am _, λx y c e1 e2 => I.ok.inj x y c (Cl.old x c e1).1 (Cl.old y c e2).1, λx hx => Cl.has _ (kk x hx) rfl, λx c z => absurd z (by intro q; cases q), I.ok.hd, I.ok.frames, .inl rfl,
      λb hb=>⟨A4 (bel b hb),λx c e=>(f b hb).2.2.2.2.1 x c (Cl.old x c e).1⟩,I.bs,AW I.ok.bsz I.sz,λb o e hb=>?_,λb hb hs=>?_,I.stack,I.stkFree⟩,
    rfl,I.bare,Un.kept old,⟨_,hns,λj x v e1 e2 e3=>?_⟩,λx c e=>?_,I.hok.fresh (Am _),λx c e=>I.freeC x c (Cl.old x c e).1,λp hp=>absurd (show p∈([]:List (Addr×Obj)) from hp) (by simp),I.hok.kept old,?_⟩
  . rcases (f b hb).2.2.2.1 with z |z
    . exact I.ok.noex b o e z
    . exact absurd (A8 (AA e) (AW I.ok.bsz z)) (CA _)
  . obtain⟨_,f1,f2,_⟩:=f b hb;rcases AM.mp (I.stkSub b hs) with z |z
    . exact f1 z
    . exact f2 z
  . have e2':((sel[j]?).map λo => o.bind λi => (σ[i]?).join)=some (some v) := by have:=e2;unfold selSt at this;rw[AC]at this;exact this
    cases hj:sel[j]? with
    |none=>rw[hj]at e2';cases e2'
    |some o =>
      rw[hj]at e2'
      cases o with
      |none=>cases e2'
      |some i =>
        have e4:(σ[i]?).join=some v:=AX e2'
        have e5:σ[i]?=some (some v):=by
          cases q:σ[i]? with
          |none=>rw[q]at e4;cases e4
          |some z=>rw[q]at e4;exact congrArg some e4
        have hz:(some i,x)∈sel.zip N':=by
          refine Aj (i:=j) ?_
          rw[List.getElem?_zip_eq_some];exact⟨hj,e1⟩
        obtain⟨g1,g2⟩:=B.sel _ hz i rfl;obtain⟨m,hn,hl⟩:=I.loc;have m2:(x,Bt)∈sc.names:=Ct g2
        have k2:X.env.kindOf x=some .cell∨X.env.kindOf x=some .free:=by show X.env.scope.names.lookup x=_∨X.env.scope.names.lookup x=_;rw[ho];exact B.free _ m2 rfl
        have v2:Vis X.env.scope x:=by
          rcases k2 with z |z
          . exact .inr (.inl z)
          . exact .inr (.inr z)
        obtain⟨u,r,l⟩:=hl i x v (by rw[hN];exact g1) e5 v2;refine⟨u,r,?_⟩;rcases l with⟨l,_⟩ |⟨_,c,e6,hc⟩
        . rcases k2 with z |z <;> (rw[l]at z;cases z)
        . obtain⟨c',hc'⟩:=Cl.has _ m2 rfl;have e7:=(Cl.old x c' hc').1;rw[e6]at e7
          cases e7
          exact .inr ⟨zbX g2,c,hc',hc.keeps old⟩
  . obtain⟨v,hc⟩:=I.cell x c (Cl.old x c e).1;exact⟨v,hc.keeps old⟩
  . show (selSt sel σ).length=N'.length;unfold selSt;rw[Ao,B.len]
theorem zmg{C:Addr}{H':Hp}{σ':St}{s':Ae}(I:Inv X pins σ H s)(f:∀b∈fp,FpOk X pins H b)(I':Inv (blk X sc cl C N' s H fp) [] σ' H' s'):Inv X pins σ H' s' :=
 I.call' (ch:=fp) I'.os I'.base I'.hok I'.bare λb hb=>by obtain⟨_,f1,_,f3,f4,f5⟩:=f b hb;exact⟨f3,f1,f4,f5⟩
end
section
variable {X:Cx}
noncomputable def zca(p:Addr)(te:TE):TS:=λD σ H=>te σ H λv H1=>∃xs,H1 p=some (.lst xs)/\xs.length<sizeLine/\D.nx σ (upd H1 p (.lst (xs++[v])))
theorem zjp {p:Addr}{elt:Expr}{te:TE}(he:PE X elt te):PB X (do let _ <- call (.builtin "list.append") [.ref p,<- eval elt X.env]) (zca p te):=by intro pins s σ H D I h;refine Ab (thn (he pins s σ H _ I h) λv s1 ⟨x,H1,I1,r1,xs,e1,hl,q⟩=>?_);refine Ab (thn (za0 pins s1 σ H1 (.ref p) [x] (.ref p) [v] (λz H2=>D.nx σ H2) I1 rfl (.cons r1 .nil) ⟨p,xs,x,rfl,rfl,e1,hl,q⟩) λu s2 ⟨z,H2,I2,_,q2⟩=>?_);exact Af ⟨σ,H2,I2,q2⟩
noncomputable def zeO(p:Addr)(tk tv:TE):TS:=λD σ H=>tk σ H λy H1=>tv σ H1 λv H2=>∃H3,DPut H2 p y v H3/\D.nx σ H3
theorem d_set{pins:List (Addr × Obj)}{σ : St}{H H':Hp}{s:Ae}{a:Addr}{y v:V}{u r:Ac}{A:A3}{E:Ac -> Ae -> Prop}{Q:Unit -> Ae -> Prop}(hu:A.units + 1 < cLine)(I:Inv X pins σ H s)(g:DPut H a y v H')(ry:RelV y u)(rv:RelV v r)(h:∀s', Inv X pins σ H' s' -> Q () s') :
  At (Ay X.prog X.w) A (dictSet a u r) Q E s:=by
 rcases g with⟨kvs,k,e,ey,l,eH⟩ |⟨kvs,k,b,e,ey,eb,l,eH⟩
 .subst ey eH;obtain⟨z,hd,vs,rel,dd⟩:=dk_of I.hok e;have hz:vs.length<=sizeLine:=by rw[<- rel.length];exact z
  have hl:(putK kvs k v).length<=sizeLine:=by have:=zaR kvs k v;lia
  refine wpAny_dictSet_pairs (hsz:=hz) (kV_is ry) dd λh' dd' hs=>h _ ?_
  have he:∃q,h'.get? a=some q:=let ⟨q,_,_,hq,_⟩:=dd';⟨q,hq⟩
  exact zc7 I (by rw[e];exact Du) hs he (zjT hl hd (rel.put k rv) dd')
 .subst ey eH
  cases (show u=Aw b from ry)
  obtain⟨z,hd,xs,rel,dd⟩:=dt_of I.hok e;have hz:xs.length<=sizeLine:=by rw[<- CY rel];exact z
  have hl:(putK kvs k v).length<=sizeLine:=by have:=zaR kvs k v;lia
  have hr:(DC (zaE X.prog X.w)).room A:=by show A.units<cLine;lia
  refine wpAny_dictSet_heap (hsz:=hz) hr (zdC I.hok eb) dd λh' dd' hs=>h _ ?_
  obtain⟨q,es,ep,hq,h2,h3,h4,_,h5⟩:=dd';refine zc7 I (by rw[e];exact Du) hs ⟨q,hq⟩ ⟨hl,hd,_,(rel.put k eb rv).keeps λc ys ec=>?_,q,es,ep,hq,h2,h3,h4,h5⟩;rw[zai (ne_of ec e (λz=>nomatch z))];exact ec
theorem zlS{p:Addr}{kx vx:Expr}{tk tv:TE}(hu:X.A.units + 1 < cLine)(hk:PE X kx tk)(hv:PE X vx tv) :
    PB X (do
        let kv <- eval kx X.env
        let vv <- DP [kv] (eval vx X.env)
        match Aw p with
        |.ref d=>do
          standAt { kx.pos with endLine:=vx.pos.endLine,endCol:=vx.pos.endCol }
          DP [kv,vv] (dictSet d kv vv)
        |_=>unsupported "internal:dictcomp") (zeO p tk tv):=by
  intro pins s σ H D I h;refine Ab (thn (hk pins s σ H _ I h) λkv s1 ⟨y,H1,I1,r1,q1⟩=>?_);refine Ab (Bo (thn (hv pins s1 σ H1 _ I1 q1) λvv s2 ⟨v,H2,I2,r2,H3,g,q⟩=>?_));refine Ab (CB (Bo (d_set hu I2 g r1 r2 λs3 I3=>⟨σ,H3,I3,q⟩)))
end
section
variable {X:Cx}{osc:Scope}{N:List Str}{sc:Scope}{N':List Str}{sel:List (Option Nat)}{pos:Pos}{elt kx vx tg iter:Expr}{ifs:List Expr}{wi:TI}{g:TG}{tt:TT}{te tk tv:TE}
noncomputable def InBlk(X:Cx)(sc:Scope)(N':List Str)(P:Cx->Prop):Prop:=∀cl C s0 H0 ex,P (blk X sc cl C N' s0 H0 ex)
theorem zce{e:Expr}{inner:Env -> Addr -> Sem Unit}{tb:Addr -> TS}{use:Option (Ac -> Sem Unit)}{pins:List (Addr × Obj)}{s:Ae}{σ : St}{H:Hp}{J:It}{it:Addr}{fp:List Addr}{tn:Nat -> Heap -> Prop}{o0:HO}{ob:Obj}
    {D:Addr->Ends} {Q:Ac->Ae->Prop}
    (B:BlkOk osc N sc N' sel) (ho:X.env.scope=osc) (hN:X.N=N) (hc:X.calm=true)
    (hstart:∀(acc:Ac) (env:Env) (R:Result->Ae->Prop) (s:Ae),Co (Ay X.prog X.w) X.A (.compLoop e 0 (.ref it) acc env) R s->At (Ay X.prog X.w) X.A (pyIter (.ref it)) (λit' s'=>Co (Ay X.prog X.w) X.A (.compLoop e 0 it' acc env) R s') (notedBy (Ay X.prog X.w) X.A env λx s'=>R (.error x) s') s->Co (Ay X.prog X.w) X.A (.compStart e 0 (.ref it) acc env) R s)
    (hloop:∀cl C s0 H0 ex p pins s σ H Dn R,Inv (blk X sc cl C N' s0 H0 ex) pins σ H s->tn 0 s.heap->(∀b∈fp,FpOk (blk X sc cl C N' s0 H0 ex) pins H b)->zb9 J g (tIfs tt (tb p)) Dn σ H ->
      (∀fl s',(∃ σ' H',Inv (blk X sc cl C N' s0 H0 ex) pins σ' H' s'/\(∀b∈fp,H' b=none)/\Dn.nx σ' H')->R (.ok fl) s')->Co (Ay X.prog X.w) X.A (.compLoop e 0 (.ref it) (.ref p) (CS sc cl C X.env)) R s)
    (I:Inv X pins σ H s) (T:Turn X.prog X.w X.K tg J fp it tn) (st:tn 0 s.heap) (f:∀b∈fp,FpOk X pins H b)
    (hnew:ObjOk X.prog X.w (upd H s.heap.objs.size o0) (s.heap.push ob) s.heap.objs.size o0) (hfree:ob.isFreed=false)
    (h:zb9 J g (tIfs tt (tb s.heap.objs.size)) (D s.heap.objs.size) (selSt sel σ) (upd H s.heap.objs.size o0))
    (hend:∀C H' s',Inv X pins σ H' s'->FpOk X pins H' C->(∃m,s'.heap.Ns C m)->(∃ σ',(D s.heap.objs.size).nx σ' H')->compPost (Ay X.prog X.w) X.A X.xe use Q (.ref s.heap.objs.size) C (.ok .next) s') (tk:Nat)
    (cl:List (Str×Addr)) (Cl:Clo X.env sc cl) (E:Ac->Ae->Prop) :
    At (Ay X.prog X.w) X.A (newFunctionEnv sc X.env.globals cl [] X.env.qual none .none (some X.env)) (λcenv s₄ =>
        Co (Ay X.prog X.w) X.A (.compStart e 0 (.ref it) (.ref s.heap.objs.size) { cenv with scope:=relabel sc X.env }) (compPost (Ay X.prog X.w) X.A X.xe use Q (.ref s.heap.objs.size) cenv.locals) s₄) E { s with heap:=s.heap.push ob,toks:=tk }:=by
  have grow:∀b o,s.heap.get? b=some o->(s.heap.push ob).get? b=some o:=λ_ _ q=>Ag _ q
  have I1:Inv X pins σ (upd H s.heap.objs.size o0) { s with heap:=s.heap.push ob,toks:=tk }:=I.laid grow (Am _) hnew;have bel:∀b∈fp,∃o,s.heap.get? b=some o:=λb hb=>let ⟨o,e,_⟩:=T.obj _ _ st b hb;⟨o,e⟩
  have f1:∀b∈fp,FpOk X pins (upd H s.heap.objs.size o0) b:=λb hb=>by obtain⟨o,e⟩:=bel b hb;refine⟨?_,(f b hb).2⟩;rw[zai (A4 (AA e))];exact (f b hb).1
  refine wpAny_newFunctionEnv (s:={ s with heap:=s.heap.push ob,toks:=tk }) B.nocell (by intro x hx;cases hx) (λh1 hns hsb=>?_) B.kind;have I2:=zl9 (tk:=tk) B ho hN Cl I1 f1 (λb hb=>let ⟨o,e⟩:=bel b hb;⟨o,grow b o e⟩) hns hsb;have old:∀b o,s.heap.get? b=some o->h1.get? b=some o:=λb o e=>(hsb.2 b (A4 (AA (grow b o e)))).trans (Ag _ (grow b o e))
  have st1:tn 0 h1:=T.keep _ _ _ st λb _ o e=>old b o e
  have f2:∀b∈fp,FpOk (blk X sc cl (s.heap.push ob).objs.size N' { s with heap:=s.heap.push ob,toks:=tk } (upd H s.heap.objs.size o0) fp) [] (upd H s.heap.objs.size o0) b:=λb hb=>by
    obtain⟨g0,g1,g2,g3,g4,g5⟩:=f1 b hb;obtain⟨o,e⟩:=bel b hb;refine⟨g0,A4 (AA (grow b o e)),λz=>?_,.inl hb,λx c e=>g4 x c (Cl.old x c e).1,λp hp=>absurd (show p∈([]:List (Addr×Obj)) from hp) (by simp)⟩;rcases AM.mp (I1.stkSub b z) with q |q
    . exact g1 q
    . exact g2 q
  have loop:=hloop cl _ _ _ _ s.heap.objs.size [] _ _ _ (D s.heap.objs.size) (compPost (Ay X.prog X.w) X.A X.xe use Q (.ref s.heap.objs.size) (s.heap.push ob).objs.size) I2 st1 f2 h λfl s' ⟨σ',H',I',fr',q'⟩=>by
    have I3:=zmg I1 f1 I';have hC:FpOk X pins H' (s.heap.push ob).objs.size:=I1.fpOk (Am _) I'.free;obtain⟨m,hn,_⟩:=I'.loc;have:=hend _ H' s' I3 hC ⟨m,hn⟩ ⟨σ',q'⟩
    cases use <;> exact this
  exact hstart _ _ _ _ loop (T.self _ 0 _ _ _ st1 loop)
end
section
variable {X:Cx}{osc:Scope}{N:List Str}{sc:Scope}{N':List Str}{sel:List (Option Nat)}{pos:Pos}{elt kx vx tg iter:Expr}{ifs:List Expr}{wi:TI}{g:TG}{tt:TT}{te tk tv:TE}
theorem ze2{it:Addr}{fp:List Addr}{tn:Nat -> Heap -> Prop}{J:It}(T:Turn X.prog X.w X.K tg J fp it tn)(hc:X.calm=true)(hg:InBlk X sc N' λY => PG Y tg g)(ht:InBlk X sc N' λY => PTs Y ifs tt)(he:InBlk X sc N' λY => PE Y elt te) :
  ∀cl C s0 H0 ex p pins s σ H Dn R,Inv (blk X sc cl C N' s0 H0 ex) pins σ H s->tn 0 s.heap->(∀b∈fp,FpOk (blk X sc cl C N' s0 H0 ex) pins H b)->zb9 J g (tIfs tt (zca p te)) Dn σ H ->
   (∀fl s',(∃ σ' H',Inv (blk X sc cl C N' s0 H0 ex) pins σ' H' s'/\(∀b∈fp,H' b=none)/\Dn.nx σ' H')->R (.ok fl) s')->Co (Ay X.prog X.w) X.A (.compLoop (.ListComp elt [⟨tg,iter,ifs,0⟩] sc pos) 0 (.ref it) (.ref p) (CS sc cl C X.env)) R s :=
 λcl C s0 H0 ex p pins s σ H Dn R I st f W hR =>
  zdm (X:=blk X sc cl C N' s0 H0 ex) (p:=iter.pos) (inner:=do let _ <- call (.builtin "list.append") [.ref p,<- eval elt (CS sc cl C X.env)]) rfl rfl rfl (λB {α t Q E s} h w=>by subst h;exact w) hc rfl (hg _ _ _ _ _) (ht _ _ _ _ _) (zjp (he _ _ _ _ _)) I T st f W hR
noncomputable def zf8(wi:TI)(sel:List (Option Nat))(g:TG)(tt:TT)(te:TE):TE:=λσ H Q=>wi σ H λJ H1=>∀p,H1 p=none ->
 zb9 J g (tIfs tt (zca p te)) { nx:=λ_ H'=>Q (.ref p) H',rt:=λ_ _=>False } (selSt sel σ) (upd H1 p (.lst []))
theorem Inv.let_go{pins:List (Addr×Obj)}{σ:St}{H:Hp}{s:Ae}{C:Addr}{h':Heap}(I:Inv X pins σ H s)(f:FpOk X pins H C)(hs:Cj C s.heap h'):Inv X pins σ H { s with heap:=h' }:=by obtain⟨f0,f1,_,f3,f4,f5⟩:=f;exact I.turned (t':=s.toks) (λb o hb e=>(hs.2 b hb).trans e) f0 f1 f3 f4 f5
theorem zfE {P:AR}{w:Be}{H:Hp}{h:Heap}:ObjOk P w (upd H h.objs.size (.lst [])) (h.push { cls:=.type "list",dict:=none,data:=.seq ([]:List Ac).toArray }) h.objs.size (.lst []) :=
 ⟨A9 _,[],_,.nil,AF _ rfl⟩
theorem za6(B:BlkOk osc N sc N' sel)(hi:PI X tg iter wi)(hg:InBlk X sc N' λY => PG Y tg g)(ht:InBlk X sc N' λY => PTs Y ifs tt)(he:InBlk X sc N' λY => PE Y elt te)
  (ho:X.env.scope=osc:=by rfl) (hN:X.N=N:=by rfl) (hc:X.calm=true:=by rfl) (hs:∀x,Bm iter X.env x=pure x:=by intro _;rfl) :
  PE X (.ListComp elt [⟨tg,iter,ifs,0⟩] sc pos) (zf8 wi sel g tt te):=by
 intro pins s σ H Q I h;obtain⟨cl,Cl⟩:=ze4 I.ok B ho;rw[eval_ListComp];refine B4 (use:=none) rfl hs Cl.run B.kind B.names (thn (hi pins s σ H _ I h) λv s1 h1=>thn h1 λitv s2 h2=>?_);obtain⟨it,fp,tn,J,H2,e,I2,T,st2,f2,h2⟩:=h2;subst e
 refine Bh (zce (e:=.ListComp elt [⟨tg,iter,ifs,0⟩] sc pos) (inner:=λ_ _=>pure ()) (D:=λp=>{ nx:=λ_ H'=>Q (.ref p) H',rt:=λ_ _=>False }) (tb:=λp=>zca p te) (use:=none) B ho hN hc (λacc env R s a b=>C9 a b)
  (ze2 (iter:=iter) (pos:=pos) T hc hg ht he) I2 T st2 f2 zfE rfl (h2 _ (I2.hok.fresh (Am _))) (λC H' s' I3 fC hn hq=>?_) s2.toks cl Cl X.xe)
 obtain⟨m,hn⟩:=hn;obtain⟨_,hq⟩:=hq;exact⟨m,hn,λh' hs'=>⟨.ref s2.heap.objs.size,H',I3.let_go fC hs',rfl,hq⟩⟩
noncomputable def zlf(wi:TI)(sel:List (Option Nat))(g:TG)(tt:TT)(te:TE)(i:Nat):TS:=λD σ H=>wi σ H λJ H1=>∀p,H1 p=none ->
 zb9 J g (tIfs tt (zca p te)) { nx:=λ_ H'=>D.nx (σ.set i (some (.ref p))) H',rt:=λ_ _=>False } (selSt sel σ) (upd H1 p (.lst []))
theorem zhG{i:Nat}{x:Str}{px spos:Pos}(B:BlkOk osc N sc N' sel)(hnd:X.N.Nodup)(hi':X.N[i]? = some x)(hx:Loc X.env.scope x)(hi:PI X tg iter wi)(hg:InBlk X sc N' λY => PG Y tg g)(ht:InBlk X sc N' λY => PTs Y ifs tt)(he:InBlk X sc N' λY => PE Y elt te)
  (hsw:swapsWith (.ListComp elt [⟨tg,iter,ifs,0⟩] sc pos) (some (.Name x px)) spos.line X.env=pure true:=by rfl)
  (ho:X.env.scope=osc:=by rfl) (hN:X.N=N:=by rfl) (hc:X.calm=true:=by rfl) (hs:∀x,Bm iter X.env x=pure x:=by intro _;rfl)
  (hf:X.fn x=true∨X.env.scope.names.lookup x=some .local:=by first |exact .inl rfl |exact .inr rfl |assumption) :
  PS X (.Assign [.Name x px] (.ListComp elt [⟨tg,iter,ifs,0⟩] sc pos) spos) (zlf wi sel g tt te i):=by
 intro pins s σ H D I h;obtain⟨cl,Cl⟩:=ze4 I.ok B ho;rw[exec_Assign_Name_used _ _ _ _ hsw];refine Ab (CB (Ab ?_));show At _ X.A (do let _ <- comprehension (.ListComp elt [⟨tg,iter,ifs,0⟩] sc pos) sc X.env _ (newList []) false (eval iter X.env) (some (Ds (.Name x px) X.env))) _ _ s;refine Ab (thn (B4 (use:=some (Ds (.Name x px) X.env)) (Q:=λ_ s'=>SP X pins D .next s') rfl hs Cl.run B.kind B.names (thn (hi pins s σ H _ I h) λv s1 h1=>thn h1 λitv s2 h2=>?_)) λ_ s' hq=>Af (Af hq));obtain⟨it,fp,tn,J,H2,e,I2,T,st2,f2,h2⟩:=h2;subst e
 refine Bh (zce (e:=.ListComp elt [⟨tg,iter,ifs,0⟩] sc pos) (inner:=λ_ _=>pure ()) (D:=λp=>{ nx:=λ_ H'=>D.nx (σ.set i (some (.ref p))) H',rt:=λ_ _=>False }) (tb:=λp=>zca p te) (use:=some (Ds (.Name x px) X.env)) B ho hN hc (λacc env R s a b=>C9 a b)
  (ze2 (iter:=iter) (pos:=pos) T hc hg ht he) I2 T st2 f2 zfE rfl (h2 _ (I2.hok.fresh (Am _))) (λC H' s' I3 fC hn hq=>?_) s2.toks cl Cl X.xe)
 obtain⟨m,hn⟩:=hn;obtain⟨_,hq⟩:=hq;show At _ X.A (Ds (.Name x px) X.env (.ref s2.heap.objs.size)) _ _ _;refine wpAny_assign_Name (zdc I3 hnd hi' hx (v:=.ref s2.heap.objs.size) rfl (λs4 I4 hch=>?_) hf);obtain⟨a,sb,ha⟩:=hch
 have nC:C≠a:=by
  rcases ha with z |z
  .rw[z];exact fC.2.1
  .exact λq=>fC.2.2.2.2.1 x a z q.symm
 refine⟨m,hn.sameBut sb nC,λh' hs'=>⟨_,H',I4.let_go fC hs',hq⟩⟩
theorem ze3{it:Addr}{fp:List Addr}{tn:Nat -> Heap -> Prop}{J:It}(hu:X.A.units + 1 < cLine)(T:Turn X.prog X.w X.K tg J fp it tn)(hc:X.calm=true)(hg:InBlk X sc N' λY => PG Y tg g)(ht:InBlk X sc N' λY => PTs Y ifs tt)(hk:InBlk X sc N' λY => PE Y kx tk)(hv:InBlk X sc N' λY => PE Y vx tv) :
  ∀cl C s0 H0 ex p pins s σ H Dn R,Inv (blk X sc cl C N' s0 H0 ex) pins σ H s->tn 0 s.heap->(∀b∈fp,FpOk (blk X sc cl C N' s0 H0 ex) pins H b)->zb9 J g (tIfs tt (zeO p tk tv)) Dn σ H ->
   (∀fl s',(∃ σ' H',Inv (blk X sc cl C N' s0 H0 ex) pins σ' H' s'/\(∀b∈fp,H' b=none)/\Dn.nx σ' H')->R (.ok fl) s')->Co (Ay X.prog X.w) X.A (.compLoop (.DictComp kx vx [⟨tg,iter,ifs,0⟩] sc pos) 0 (.ref it) (.ref p) (CS sc cl C X.env)) R s :=
 λcl C s0 H0 ex p pins s σ H Dn R I st f W hR =>
  zdm (X:=blk X sc cl C N' s0 H0 ex) (p:=iter.pos) rfl rfl rfl (λB {α t Q E s} h w=>by subst h;exact w) hc rfl (hg _ _ _ _ _) (ht _ _ _ _ _) (zlS (X:=blk X sc cl C N' s0 H0 ex) hu (hk _ _ _ _ _) (hv _ _ _ _ _)) I T st f W hR
noncomputable def zmu(wi:TI)(sel:List (Option Nat))(g:TG)(tt:TT)(tk tv:TE):TE:=λσ H Q=>wi σ H λJ H1=>∀p,H1 p=none ->
 zb9 J g (tIfs tt (zeO p tk tv)) { nx:=λ_ H'=>Q (.ref p) H',rt:=λ_ _=>False } (selSt sel σ) (upd H1 p (.dT []))
theorem zkA(hu:X.A.units + 1 < cLine)(B:BlkOk osc N sc N' sel)(hi:PI X tg iter wi)(hg:InBlk X sc N' λY => PG Y tg g)(ht:InBlk X sc N' λY => PTs Y ifs tt)(hk:InBlk X sc N' λY => PE Y kx tk)(hv:InBlk X sc N' λY => PE Y vx tv)
  (ho:X.env.scope=osc:=by rfl) (hN:X.N=N:=by rfl) (hc:X.calm=true:=by rfl) (hs:∀x,Bm iter X.env x=pure x:=by intro _;rfl) :
  PE X (.DictComp kx vx [⟨tg,iter,ifs,0⟩] sc pos) (zmu wi sel g tt tk tv):=by
 intro pins s σ H Q I h;obtain⟨cl,Cl⟩:=ze4 I.ok B ho;show At _ X.A (comprehension (.DictComp kx vx [⟨tg,iter,ifs,0⟩] sc pos) sc X.env _ newDict false (eval iter X.env)) _ _ s;refine B4 (use:=none) rfl hs Cl.run B.kind B.names (thn (hi pins s σ H _ I h) λv s1 h1=>thn h1 λitv s2 h2=>?_);obtain⟨it,fp,tn,J,H2,e,I2,T,st2,f2,h2⟩:=h2;subst e
 refine Bh (zce (e:=.DictComp kx vx [⟨tg,iter,ifs,0⟩] sc pos) (inner:=λ_ _=>pure ()) (D:=λp=>{ nx:=λ_ H'=>Q (.ref p) H',rt:=λ_ _=>False }) (tb:=λp=>zeO p tk tv) (use:=none) B ho hN hc (λacc env R s a b=>codeAny_compStart_dict a b)
  (ze3 (iter:=iter) (pos:=pos) hu T hc hg ht hk hv) I2 T st2 f2 (zfN s2.heap I2.big) rfl (h2 _ (I2.hok.fresh (Am _))) (λC H' s' I3 fC hn hq=>?_) s2.toks cl Cl X.xe)
 obtain⟨m,hn⟩:=hn;obtain⟨_,hq⟩:=hq;exact⟨m,hn,λh' hs'=>⟨.ref s2.heap.objs.size,H',I3.let_go fC hs',rfl,hq⟩⟩
end
mutual
inductive RD (K:W.Frag) (H:Hp):V->PyData->Prop where
 |non:RD K H .non .none
 |bl (b:Bool):RD K H (.bl b) (.bool b)
 |int (i:Int):RD K H (.int i) (.int i)
 |str (x:Str):RD K H (.str x) (.str x)
 |lst {a:Addr} {xs:List V} {ds:List PyData}:SqL K H a xs->RDs K H xs ds->RD K H (.ref a) (.list ds)
 |tup {a:Addr} {xs:List V} {ds:List PyData}:SqT K H a xs->RDs K H xs ds->RD K H (.ref a) (.tuple ds)
inductive RDs (K:W.Frag) (H:Hp):List V->List PyData->Prop where
 |nil:RDs K H [] []
 |cons {x:V} {xs:List V} {d:PyData} {ds:List PyData}:RD K H x d->RDs K H xs ds->RDs K H (x::xs) (d::ds)
end
section
variable {X:Cx}{pins:List (Addr×Obj)}{σ:St}{H:Hp}{s:Ae}
mutual
theorem Inv.reads(I:Inv X pins σ H s):∀{v:V}{d:PyData}{u:Ac},RD X.K H v d->RelV v u->∃as,Reads s.heap u d as
 |_,_,_,.non,r=>by cases (show _=Cq from r);exact⟨_,.none⟩
 |_,_,_,.bl b,r=>by cases (show _=Value.bool b from r);exact⟨_,.bool b⟩
 |_,_,_,.int i,r=>by obtain⟨t,rfl⟩:=r;exact⟨_,.int i t⟩
 |_,_,_,.str x,r=>by obtain⟨t,rfl⟩:=r;exact⟨_,.str x t⟩
 |_,_,_,.lst (a:=a) hq hs,r=>by
  cases (show _=Aw a from r)
  obtain⟨its,rv,p,hz⟩:=I.list hq;obtain⟨as,ra⟩:=I.readsAll hs rv;obtain⟨o,ho,hc,n,hd⟩:=p.isList;exact⟨_,.list ho hc hd (by simpa using ra)⟩
 |_,_,_,.tup (a:=a) hq hs,r=>by
  cases (show _=Aw a from r)
  obtain⟨its,rv,p,hz⟩:=I.tuple hq;obtain⟨as,ra⟩:=I.readsAll hs rv;obtain⟨o,ho,hc,n,hd⟩:=p;exact⟨_,.tuple ho hc hd (by simpa using ra)⟩
theorem Inv.readsAll(I:Inv X pins σ H s):∀{vs:List V}{ds:List PyData}{us:List Ac},RDs X.K H vs ds->Vals vs us->∃as,ReadsAll s.heap us ds as
 |_,_,_,.nil,r=>by cases r;exact⟨_,.nil⟩
 |_,_,_,.cons h t,.cons r rr=>by
  obtain⟨as,h1⟩:=I.reads h r;obtain⟨bs,h2⟩:=I.readsAll t rr;exact⟨_,.cons h1 h2⟩
end
end
theorem RDs.ints{K:W.Frag}{H:Hp}:∀(ns:List Int),RDs K H (ns.map V.int) (ns.map Dw)
 |[]=>.nil
 |n::r=>.cons (.int n) (RDs.ints r)
mutual
theorem RD.mono{K:W.Frag}{H H':Hp}(hl:∀a xs,SqL K H a xs->SqL K H' a xs)(ht:∀a xs,SqT K H a xs->SqT K H' a xs):∀{v:V}{d:PyData},RD K H v d->RD K H' v d
 |_,_,.non=>.non
 |_,_,.bl b=>.bl b
 |_,_,.int i=>.int i
 |_,_,.str x=>.str x
 |_,_,.lst h t=>.lst (hl _ _ h) (RDs.mono hl ht t)
 |_,_,.tup h t=>.tup (ht _ _ h) (RDs.mono hl ht t)
theorem RDs.mono{K:W.Frag}{H H':Hp}(hl:∀a xs,SqL K H a xs->SqL K H' a xs)(ht:∀a xs,SqT K H a xs->SqT K H' a xs):∀{v:List V}{d:List PyData},RDs K H v d->RDs K H' v d
 |_,_,.nil=>.nil
 |_,_,.cons h t=>.cons (RD.mono hl ht h) (RDs.mono hl ht t)
end
noncomputable def rEqD(K:W.Frag):R2:=λx y H Q=>∃d e,RD K H x d/\RD K H y e/\Bc d=true/\Bc e=true/\Q (.bl (Bv d e)) H
noncomputable def rNeD(K:W.Frag):R2:=λx y H Q=>∃d e,RD K H x d/\RD K H y e/\Bc d=true/\Bc e=true/\Q (.bl (!PyData.eqv d e)) H
section
variable {X:Cx}
theorem zlo(hu:X.A.units+64<cLine):OpR X (BB .Eq) (rEqD X.K):=by intro pins s σ H x y v u Q I rx ry h;obtain⟨d,e,hd,he,sd,se,q⟩:=h;obtain⟨as,ra⟩:=I.reads hd rx;obtain⟨bs,rb⟩:=I.reads he ry;exact SeqAt.compareEq_shaped ra rb sd se hu ⟨.bl _,H,I,rfl,q⟩
theorem zd6(hu:X.A.units+64<cLine):OpR X (BB .NotEq) (rNeD X.K):=by intro pins s σ H x y v u Q I rx ry h;obtain⟨d,e,hd,he,sd,se,q⟩:=h;obtain⟨as,ra⟩:=I.reads hd rx;obtain⟨bs,rb⟩:=I.reads he ry;exact SeqAt.compareNe_shaped ra rb sd se hu ⟨.bl _,H,I,rfl,q⟩
noncomputable def rInD(K:W.Frag):R2:=λx y H Q=>∃p xs d ds,y=.ref p/\SqL K H p xs/\RD K H x d/\RDs K H xs ds/\Bc d=true/\(∀e∈ds,Bc e=true)/\Q (.bl (ds.any λe=>Bv e d)) H
theorem zcH{ds:List PyData}(h:∀e∈ds,Bc e=true):BQ ds=true:=by
 induction ds with
 |nil=>rfl
 |cons d r ih=>rw[BQ,Da (h d An),ih λe he=>h e (Ap _ he)];rfl
theorem zln(hu:X.A.units+65<cLine):OpR X (BB .In) (rInD X.K):=by intro pins s σ H x y v u Q I rx ry h;obtain⟨p,xs,d,ds,rfl,hq,hd,hds,sd,sds,q⟩:=h;obtain⟨as,ra⟩:=I.reads hd rx;obtain⟨bs,rb⟩:=I.reads (.lst hq hds) ry;exact SeqAt.in_list_reads rb ra (zcH sds) (Da sd) (Dm sd hu) ⟨.bl _,H,I,rfl,q⟩
theorem zei:∀ns ms:List Int,Di (ns.map Dw) (ms.map Dw)=decide (ns=ms)
 |[],[]=>rfl
 |[],_::_=>rfl
 |_::_,[]=>rfl
 |n::r,m::t=>by
  show (n == m && Di (r.map Dw) (t.map Dw))=_;rw[zei r t]
  by_cases e:n=m
  .subst e;by_cases e2:r=t <;> simp[e2]
  .simp[e]
theorem zcr:∀ns:List Int,B5 (ns.map Dw)=0
 |[]=>rfl
 |n::r=>by show max 0 (B5 (r.map Dw))=0;rw[zcr r];rfl
theorem zcW:∀ns:List Int,BQ (ns.map Dw)=true
 |[]=>rfl
 |n::r=>by show (true && BQ (r.map Dw))=true;rw[zcW r];rfl
noncomputable def tI(ns:List Int):PyData:=.tuple (ns.map .int)
theorem zcG(ns ms:List Int):Bv (tI ns) (tI ms)=decide (ns=ms):=zei ns ms
theorem zaC(ns:List Int):Bc (tI ns)=true:=by unfold Bc tI;rw[CG,zcW,B9,zcr];rfl
end
section
variable {prog:AR}{w:Be}{A:A3}{E:Ac->Ae->Prop}{s:Ae}
end
section
variable {X:Cx}{pos:Pos}
noncomputable def CDivB(i j:Int):Prop:=0<j/\j.natAbs.log2<9000
theorem zhL:OpR X (binaryOp .FloorDiv) (rI CDivB λi j=>.int (i / j)):=opI λi j _ _ _ _ _ hc q=>by have e:i.fdiv j=i / j:=Int.fdiv_eq_ediv_of_nonneg i (Int.le_of_lt hc.1);rw[<- e]at q;exact floordiv_int (by have:=hc.1;lia) q (.inl (PyProof.noPylong_of_log2 hc.2))
theorem zj7 (hh:X.calm=true):CallR X (.builtin "all") (λxs H Q=>∃(p:Addr) (bs:List Bool),xs=[.ref p]/\SqL X.K H p (bs.map V.bl)/\Q (.bl (bs.all id)) H):=by
 intro pins s σ H xs us Q I r h;obtain⟨p,bs,rfl,hq,q⟩:=h;obtain⟨u,rfl,ru⟩:=vals1 r
 cases (show u=Aw p from ru)
 obtain⟨its,rv,pl,hz⟩:=I.list hq;have hlp:p<s.heap.objs.size:=by obtain⟨o,ho,_⟩:=pl.isList;exact AA ho
 have hlen:its.length=bs.length:=by have:=rv.length;simpa using this.symm
 refine call_all_walk (wpAny_pyIter_list pl.isList ?_);refine⟨_,_,_,_,_,_,λi=>bs.getD i true,rfl,Walks.list (A:=X.A.in1) (I.ok.hd hh) s.heap.objs.size p (A4 hlp) its.toArray,⟨⟨_,AF _ rfl,rfl,rfl⟩,pl.isList.push _⟩,?_,λh' tk hk=>?_⟩
 .intro i v s1 Q1 E1 hv hQ;have hv':its[i]?=some v:=by simpa using hv
  have hi:i<its.length:=(Ad.mp hv').1;obtain⟨w',hw,rw'⟩:=rv.get (i:=i) (x:=V.bl (bs[i]'(by lia))) (by simp[Aa,show i<bs.length by lia]);rw[hv']at hw
  cases hw
  cases (show v=Value.bool _ from rw')
  refine BZ ?_
  have e:bs.getD i true=bs[i]'(by lia):=by simp[Bk,show i<bs.length by lia]
  rw[<- e];exact hQ
 .have I1:Inv X pins σ H { s with heap:=h',toks:=tk }:=I.kept λb o e=>hk b o (by simp;exact A4 (AA e)) (Ag _ e)
  refine⟨.bl _,H,I1,rfl,?_⟩
  have e:(BS its.toArray.size).all (λi=>bs.getD i true)=bs.all id:=by
   rw[show its.toArray.size=bs.length by simpa using hlen];rw[Cc];simp only[List.all_eq_true,List.mem_range,id];constructor
   .intro h b hb;obtain⟨i,hi,e⟩:=Az hb;have:=h i hi;simpa[Bk,hi,e]using this
   .intro h i hi;have:=h bs[i] (Bi hi);simpa[Bk,hi]using this
  rw[e];exact q
end
section
variable {X:Cx}
end
end L2
namespace HT
open PySem PyProof.Rows
noncomputable def lexLe:List Int->List Int->Bool
 |[],[]=>true
 |[],_::_=>true
 |_::_,[]=>false
 |x::xs,y::ys=>if x=y then lexLe xs ys else decide (x<=y)
theorem zeY(x y:Int)(xs ys:List Int):lexLe (x::xs) (y::ys)=if x=y then lexLe xs ys else decide (x<=y):=rfl
theorem zfG:lexLe [] []=true:=rfl
theorem zeE(y:Int)(ys:List Int):lexLe [] (y::ys)=true:=rfl
theorem zeF(x:Int)(xs:List Int):lexLe (x::xs) []=false:=rfl
theorem zkq(A:A3)(s:Ae)(a:Int)(t:Tok)(c:Int)(u:Tok)(prog:AR)(w:Be)(E:Ac -> Ae -> Prop)(Q:Ac -> Ae -> Prop)(h:Q (.bool (decide (a <= c))) s) :
  At (Ay prog w) A (richCompare .LtE (.int a t) (.int c u)) Q E s :=
 (PyProof.Rows.le_int h:At (Ay prog w) A (BB .LtE (.int a t) (.int c u)) Q E s)
section
open PySem.SeqAt
open PySem.AutoSeq1 (wpAny_loadPart')
open PySem.MeetsSeq PySem.MeetsSeq2 PySem.MeetsSeq3
theorem zfa(l b:Addr)(items items2:Array Ac)(n n2:Nat)(dd dd2:Option Addr)(sl sl2:Array (Option Ac))(ns ms:List Int)(hi:Cv items.toList ns)(hj:Cv items2.toList ms) :
  Meets (Builtin.«tuple.__le__» ⟨[.ref l,.ref b],[]⟩)
   (λ_ R s=>s.heap.get? l=some { cls:=.type "tuple",dict:=dd,data:=.seq items n,slots:=sl }/\s.heap.get? b=some { cls:=.type "tuple",dict:=dd2,data:=.seq items2 n2,slots:=sl2 } /\
    R (.ok (.ret (.bool (lexLe ns ms)))) s) :=
 .of_wp λprog w A R s h=>by
  obtain⟨hp,g,d,tk,os⟩:=s;obtain⟨hl,hb,h⟩:=h;have f2:=AutoSeq1.sub_tuple_tuple;have z1:items.size=ns.length:=by rw[<- hi.length];simp
  have z2:items2.size=ms.length:=by rw[<- hj.length];simp
  wp_walk using Cr hl,Cr hb,wpAny_forIn_list _ (λrest b s'=>b.1=none/\s'=⟨hp,g,d,tk,os⟩/\∃(vs ws:List Ac) (ns' ms':List Int),rest=vs.zip ws /\
   Cv vs ns'/\Cv ws ms'/\ns'.length+items2.size=ms'.length+items.size/\R (.ok (.ret (.bool (lexLe ns' ms')))) ⟨hp,g,d,tk,os⟩) _
  case turn =>
   rintro⟨y,x⟩ rest b s' ⟨hb',rfl,vs,ws,ns',ms',hz,hvi,hwi,hlen,hR⟩
   cases hvi with
   |nil=>rw[List.zip_nil_left]at hz;cases hz
   |cons a t hvi' =>
    cases hwi with
    |nil=>rw[List.zip_nil_right]at hz;cases hz
    |cons c u hwi' =>
     rw[DU]at hz;injection hz with hyx hrest;injection hyx with hy hx;subst hy hx;rw[zeY]at hR;simp only[A5]at hlen;obtain⟨e,he,hiff⟩:=zh7 A.in1 ⟨hp,g,d,tk,os⟩ a t c u;refine Ab (he prog w _ _ ?_)
     cases e with
     |true =>
      rw[if_pos (hiff.mp rfl)]at hR
      wp_walk
      exact⟨rfl,rfl,_,_,_,_,hrest,hvi',hwi',by lia,hR⟩
     |false =>
      rw[if_neg (λq=>absurd (hiff.mpr q) AV)]at hR;have hri:=zkq A.in1 ⟨hp,g,d,tk,os⟩ a t c u prog w
      wp_walk using hri
      exact⟨_,rfl,by simpa using hR⟩
  case fin =>
   rintro⟨b1,b2⟩ s' ⟨hb',rfl,vs,ws,ns',ms',hz,hvi,hwi,hlen,hR⟩;simp only at hb';subst hb'
   have hv:lexLe ns' ms'=decide (items.size<=items2.size):=by
    cases hvi with
    |nil =>
     cases hwi with
     |nil =>
      simp only[Cd]at hlen;rw[zfG];exact (decide_eq_true (by lia)).symm
     |cons c u hw =>
      simp only[Cd,A5]at hlen;rw[zeE];exact (decide_eq_true (by lia)).symm
    |cons a t hv =>
     cases hwi with
     |nil =>
      simp only[Cd,A5]at hlen;rw[zeF];exact (decide_eq_false (by lia)).symm
     |cons c u hw =>
      rw[DU]at hz
      cases hz
   rw[hv]at hR
   wp_walk
   exact⟨_,rfl,by simpa[Builtin.Tuple.tupleCompareSizes]using hR⟩
  case h =>
   exact⟨rfl,rfl,items.toList,items2.toList,ns,ms,rfl,hi,hj,by lia,h⟩
end
section
variable {prog:AR}{w:Be}{A:A3}{E:Ac->Ae->Prop}{s:Ae}
theorem le_tupInts{l b:Addr}{items items2:Array Ac}{ns ms:List Int}{Q:Ac -> Ae -> Prop}(hl:IsTup s.heap l items)(hb:IsTup s.heap b items2)(hi:Cv items.toList ns)(hj:Cv items2.toList ms)
  (hu:A.units<cLine) (h:Q (.bool (lexLe ns ms)) s):At (Ay prog w) A (BB .LtE (.ref l) (.ref b)) Q E s:=by
 obtain⟨⟨cls,dd,data,sl⟩,ho,hc,n,hd⟩:=id hl;obtain⟨⟨cls2,dd2,data2,sl2⟩,ho2,hc2,n2,hd2⟩:=id hb;simp only at hc hd hc2 hd2;subst hc hd hc2 hd2
 exact richCompare_meets_room (op:=.LtE) ⟨_,ho,rfl⟩ ⟨_,ho2,rfl⟩ PySem.F.slot_tuple_le PySem.F.entry_tuple_le (PySem.F.args_tuple_le_2 _ _) (zfa l b items items2 n n2 dd dd2 sl sl2 ns ms hi hj)
  ⟨ho,ho2,show Value.bool (lexLe ns ms)≠Value.notImplemented/\Q (.bool (lexLe ns ms)) s from ⟨(λx=>nomatch x),h⟩⟩ hu
end
end HT
namespace L2
open PySem PySem.Spec PyProof.Rows
section
variable {X:Cx}
noncomputable def rLeT(K:W.Frag):R2:=λx y H Q=>∃a b ns ms,x=.ref a/\y=.ref b/\SqT K H a (ns.map V.int)/\SqT K H b (ms.map V.int)/\Q (.bl (HT.lexLe ns ms)) H
theorem zmJ(hu:X.A.units<cLine):OpR X (BB .LtE) (rLeT X.K):=by
 intro pins s σ H x y v u Q I rx ry h;obtain⟨a,b,ns,ms,rfl,rfl,ha,hb,q⟩:=h
 cases rx
 cases ry
 obtain⟨its,r1,p1,_⟩:=I.tuple ha;obtain⟨its2,r2,p2,_⟩:=I.tuple hb;have i1:Cv its.toArray.toList ns:=zcR r1;have i2:Cv its2.toArray.toList ms:=zcR r2;exact HT.le_tupInts p1 p2 i1 i2 hu ⟨.bl (HT.lexLe ns ms),H,I,rfl,q⟩
end
section
variable {X:Cx}
noncomputable def zlL(K:W.Frag):V->List V->Hp->VK->Prop:=λx vs H Q=>∃p xs y d ds j e,x=.ref p/\vs=[y]/\SqL K H p xs/\RD K H y d/\RDs K H xs ds/\Bc d=true/\(∀e∈ds,Bc e=true) /\
 ds[j]?=some e/\Bv e d=true/\(∀m e',m<j->ds[m]?=some e'->Bv e' d=false)/\Q (.int (j:Nat)) H
theorem zjw (hu:X.A.units+65<cLine):MtR X "list.index" (zlL X.K):=by
 intro pins s σ H x vs v us Q I rx rv h;obtain⟨p,xs,y,d,ds,j,e,rfl,rfl,hq,hd,hds,sd,sds,hj,he,hno,q⟩:=h
 cases rx
 obtain⟨u,rfl,ru⟩:=rv.one;obtain⟨its,r,pl,hz⟩:=I.list hq;obtain⟨as,ra⟩:=I.reads hd ru;obtain⟨bs,rb⟩:=I.readsAll hds r;have hlay:=zcH sds;have hmap:=SeqAt.readsAll_map ds _ _ hlay rb;have hlen:its.length=ds.length:=by rw[<- hmap,Ao]
 have hj':j<ds.length:=(Ad.mp hj).1
 have rd:∀m (hm:m<its.length),ds[m]?=some (SeqAt.readOf s.heap its[m]):=λm hm=>by rw[<- hmap,AC,Aa hm];rfl
 obtain⟨⟨cls,dd,data,sl⟩,ho,hc,n,hdat⟩:=pl.isList;simp only at hc hdat
 subst hc hdat
 have hsz:xs.length<=sizeLine:=hz;have hl2:its.length=xs.length:=r.length.symm
 refine call_meets PySem.F.slot_list_index ⟨_,ho,rfl⟩ PySem.F.entry_list_index (PySem.F.args_list_index_2 _ _)
  (SeqAt.list_indexAt p its.toArray n dd sl u (λz=>Bv (SeqAt.readOf s.heap z) d) j (by simpa[hlen]using hj') (by have:=sizeLine_eq;lia) ?_ ?_)
  ⟨ho,SeqAt.items_eqAt (vs:=its.toArray) rb ra hlay (Da sd) (Dm sd hu),?_⟩
 .have:=rd j (by lia);rw[hj]at this;have e1:=AX this;show Bv (SeqAt.readOf s.heap its[j]) d=true;rw[<- e1];exact he
 .intro m hm hlt;have hm':m<its.length:=by simpa using hm
  exact hno m _ hlt (rd m hm')
 .exact⟨.int (j:Nat),H,I.tok _,⟨_,rfl⟩,q⟩
end
section
variable {X:Cx}{k:Nat}{f:Addr}{fd:BM}{ps:List Str}{sp:Sp}{pins:List (Addr×Obj)}{σ:St}
theorem zjd{H:Hp}{s:Ae}{Q:VK}{us:List Ac}{vs:List V}{E:Ac -> Ae -> Prop}(F:FnOk X.prog X.w X.K X.mg X.base CX0 k f fd ps sp)(hr:Room (k + 1) X.A)(hb:Binds X.K fd ps [])
  (I:Inv X pins σ H s) (r:Vals vs us) (h:sp vs H Q E0):At (Ay X.prog X.w) X.A.in1 (call (.ref f) us) (EP X pins σ Q) E s:=by
 have hl:(us++[]).length=ps.length:=by rw[Bf,<- r.length];exact F.len _ _ _ _ h
 have hb':=hb s us I.kIn hl;rw[Bf]at hb';refine wpAny_call (codeAny_mono (F.run X.A.in1 X.stack s H ⟨us,[]⟩ us vs Q E0 hr.in1 I.env0.in1 hb' r h) λr s' hq=>?_)
 cases r with
 |error e=>exact BK hq
 |ok fl =>
  cases fl with
  |ret u=>exact I.after hq
  |next=>exact BK hq
  |brk=>exact BK hq
  |cont=>exact BK hq
theorem Inv.moved{H:Hp}{s:Ae}{b:Addr}{h':Heap}{t':Nat}(I:Inv X pins σ H s)(fb:FpOk X pins H b)(hk:∀c o,c ∉ [b]->s.heap.get? c=some o->h'.get? c=some o):Inv X pins σ H { s with heap:=h',toks:=t' } :=
 I.turned (λc o hc e=>hk c o (λz=>hc (Ah.mp z)) e) fb.1 fb.2.1 fb.2.2.2.1 fb.2.2.2.2.1 fb.2.2.2.2.2
theorem FpOk.again{H H':Hp}{b:Addr}(fb:FpOk X pins H b)(hn:H' b=none):FpOk X pins H' b:=⟨hn,fb.2⟩
structure MK (X:Cx) (pins:List (Addr×Obj)) (σ:St) (H:Hp) (s:Ae) (it st l:Addr) (j:Nat) (vb kb:Ac):Prop where
 inv:Inv X pins σ H s
 fi:FpOk X pins H it
 fs:FpOk X pins H st
 ne:st≠it
 iter:s.heap.IsListIter it l j
 hold:∃c,s.heap.get? st=some (BL "list" #[vb,kb] c)
noncomputable def Least(κ:Nat->List Int)(n i:Nat):Prop:=∀j,j<n->HT.lexLt (κ j) (κ i)=false/\(j<i->HT.lexLt (κ i) (κ j)=true)
end
end L2
namespace HT
theorem lexLt_irrefl:∀a:List Int,lexLt a a=false
 |[]=>rfl
 |x::r=>by rw[lexLt_cons,if_pos rfl];exact lexLt_irrefl r
theorem lexLt_trans:∀{a b c:List Int},lexLt a b=true->lexLt b c=true->lexLt a c=true
 |[],[],_,h,_=>by cases h
 |[],_::_,[],_,h=>by cases h
 |[],_::_,_::_,_,_=>rfl
 |_::_,[],_,h,_=>by cases h
 |_::_,_::_,[],_,h=>by cases h
 |x::a,y::b,z::c,h,g=>by
  rw[lexLt_cons]at h g ⊢
  by_cases e1:x=y
  .subst e1;rw[if_pos rfl]at h
   by_cases e2:x=z
   .subst e2;rw[if_pos rfl]at g ⊢;exact lexLt_trans h g
   .rw[if_neg e2]at g ⊢;exact g
  .rw[if_neg e1]at h;have h':x<y:=by simpa using h
   by_cases e2:y=z
   .subst e2;rw[if_neg e1];exact h
   .rw[if_neg e2]at g;have g':y<z:=by simpa using g
    rw[if_neg (by lia)];exact decide_eq_true (by lia)
theorem lexLt_total:∀{a b:List Int},lexLt a b=false->lexLt b a=false->a=b
 |[],[],_,_=>rfl
 |[],_::_,h,_=>by cases h
 |_::_,[],_,h=>by cases h
 |x::a,y::b,h,g=>by
  rw[lexLt_cons]at h g
  by_cases e:x=y
  .subst e;rw[if_pos rfl]at h g;rw[lexLt_total h g]
  .rw[if_neg e]at h;rw[if_neg (BW e)]at g;have h':¬ x<y:=by simpa using h
   have g':¬ y<x:=by simpa using g
   lia
theorem lexLe_eq:∀a b:List Int,lexLe a b=!lexLt b a
 |[],[]=>rfl
 |[],_::_=>rfl
 |_::_,[]=>rfl
 |x::a,y::b=>by
  rw[zeY,lexLt_cons]
  by_cases e:x=y
  .subst e;rw[if_pos rfl,if_pos rfl];exact lexLe_eq a b
  .rw[if_neg e,if_neg (BW e)]
   by_cases g:x<=y
   .rw[decide_eq_true g,decide_eq_false (by lia)];rfl
   .rw[decide_eq_false g,decide_eq_true (by lia)];rfl
theorem lexLt_of_not_lt_lt{a b c:List Int}(h:lexLt b a=false)(g:lexLt b c=true):lexLt a c=true:=by
 cases e:lexLt a b with
 |true=>exact lexLt_trans e g
 |false=>rw[lexLt_total e h];exact g
theorem lexLt_asym{a b:List Int}(h:lexLt a b=true):lexLt b a=false:=by
 cases e:lexLt b a with
 |false=>rfl
 |true=>have:=lexLt_trans h e;rw[lexLt_irrefl]at this;cases this
end HT
namespace L2
open PySem PySem.Spec PyProof.Rows
section
variable {X:Cx}{k:Nat}{f:Addr}{fd:BM}{ps:List Str}{sp:Sp}{pins:List (Addr×Obj)}{σ:St}{H0:Hp}{Q:VK}{l it st:Addr}{xs:List V}{κ:Nat->List Int}
noncomputable def MKR(X:Cx)(pins:List (Addr×Obj))(σ:St)(Q:VK):Result->Ae->Prop:=λr s'=>match r with
 |.ok (.ret v)=>EP X pins σ Q v s'
 |.ok _=>False
 |.error e=>X.xe e s'
theorem zcQ {xs:Array Ac}{c:Nat}:∀v,(BL "list" xs c).data≠.cell v:=λv h=>by cases h
theorem zeb{h:Heap}{it l:Addr}{j:Nat}(hi:h.IsListIter it l j):∃o,h.get? it=some o/\∀v,o.data≠.cell v:=by obtain⟨o,ho,_,hd⟩:=hi;exact⟨o,ho,λv z=>by rw[hd]at z;cases z⟩
theorem zkn{H:Hp}{s:Ae}{Q1:VK}{u:Ac}{x:V}{E:Ac -> Ae -> Prop}{j:Nat}{vb kb:Ac}(F:FnOk X.prog X.w X.K X.mg X.base CX0 k f fd ps sp)(hr:Room (k + 1) X.A)(hb:Binds X.K fd ps [])
    (M:MK X pins σ H s it st l j vb kb) (r:RelV x u) (h:sp [x] H Q1 E0):At (Ay X.prog X.w) X.A.in1 (call (.ref f) [u]) (λv s'=>∃y H',RelV y v/\Q1 y H'/\MK X pins σ H' s' it st l j vb kb) E s:=by
  obtain⟨c,hc⟩:=M.hold;obtain⟨oi,hoi,ci,di⟩:=id M.iter
  have I1:Inv X (pins ++ zdA [it, st] s.heap) σ H s := M.inv.pinned (λb hb => by
      rcases AM.mp hb with rfl |hb
      . exact M.fi
      . rw[Ah.mp hb];exact M.fs) (λb hb=>by
      rcases AM.mp hb with rfl |hb
      . exact zeb M.iter
      . rw[Ah.mp hb];exact⟨_,hc,zcQ⟩)
  refine BY (zjd F hr hb I1 (.cons r .nil) h) (λv s' hv=>?_) λ_ _ e=>e
  obtain⟨y,H',I2,ry,q⟩:=hv;have p1:=I2.pin (it,oi) (As _ (As _ (za4 (by simp) hoi)));have p2:=I2.pin (st,BL "list" #[vb,kb] c) (As _ (As _ (za4 (by simp) hc)));exact⟨y,H',ry,q,I2.unpinned,M.fi.again p1.2.1,M.fs.again p2.2.1,M.ne,⟨oi,p1.1,ci,di⟩,c,p2.1⟩
theorem zl3{H:Hp}{s:Ae}{a b:Addr}{ns ms:List Int}{E:Ac -> Ae -> Prop}{Q1:Ac -> Ae -> Prop}(hu:X.A.units + 1 < cLine)(I:Inv X pins σ H s)(ha:SqT X.K H a (ns.map V.int))(hb:SqT X.K H b (ms.map V.int))(q:Q1 (.bool (HT.lexLt ns ms)) s) :
  At (Ay X.prog X.w) X.A.in1 (richCompare .Lt (.ref a) (.ref b)) Q1 E s:=by
 obtain⟨its,r1,p1,_⟩:=I.tuple ha;obtain⟨its2,r2,p2,_⟩:=I.tuple hb;exact (HT.lt_tupInts p1 p2 (zcR r1) (zcR r2) hu q:At (Ay X.prog X.w) X.A.in1 (BB .Lt (.ref a) (.ref b)) Q1 E s)
theorem MK.set{H:Hp}{s:Ae}{j:Nat}{vb kb v kv:Ac}(M:MK X pins σ H s it st l j vb kb):MK X pins σ H { s with heap:=s.heap.update st (AT λ_=>#[v,kv]) } it st l j v kv:=by obtain⟨c,hc⟩:=M.hold;have sb:=Bu s.heap st (AT λ_=>#[v,kv]);obtain⟨oi,hoi,ci,di⟩:=id M.iter;exact⟨M.inv.moved (t':=s.toks) M.fs (λb o hb e=>(sb.2 b λz=>hb (by simp[z])).trans e),M.fi,M.fs,M.ne,⟨oi,(sb.2 it M.ne.symm).trans hoi,ci,di⟩,_,DR hc λ_=>#[v,kv]⟩
theorem Least.next{n i:Nat}(h:Least κ n i)(e:HT.lexLt (κ n) (κ i)=false)(hi:i<n):Least κ (n+1) i:=λj hj=>by
 by_cases z:j=n
 .subst z;exact⟨e,λq=>absurd q (by lia)⟩
 .exact h j (by lia)
theorem Least.take{n i:Nat}(h:Least κ n i)(e:HT.lexLt (κ n) (κ i)=true)(hi:i<n):Least κ (n+1) n:=λj hj=>by
 by_cases z:j=n
 .subst z;exact⟨HT.lexLt_irrefl _,λq=>absurd q (by lia)⟩
 .have g:=(h j (by lia)).1
  have t:HT.lexLt (κ n) (κ j)=true:=by
   cases q:HT.lexLt (κ i) (κ j) with
   |true=>exact HT.lexLt_trans e q
   |false=>rw[<- HT.lexLt_total q g];exact e
  exact⟨HT.lexLt_asym t,λ_=>t⟩
theorem Room.un1{n:Nat}{A:A3}(r:Room n A):A.units+1<cLine:=by have:=r.units;lia
theorem Same.seqT{K:W.Frag}{H H':Hp}{a:Addr}{xs:List V}(e:Same H H')(h:SqT K H a xs):SqT K H' a xs:=by
 rcases h with (h |⟨o,h⟩) |h
 .exact .inl (.inl (e _ _ h))
 .exact .inl (.inr ⟨o,e _ _ h⟩)
 .exact .inr h
theorem zjx(hh:X.A.handled=none)(F:FnOk X.prog X.w X.K X.mg X.base CX0 k f fd ps sp)(hr:Room (k + 1) X.A)(hb:Binds X.K fd ps [])
  (turn:∀i x H,xs[i]?=some x->Same H0 H->sp [x] H (λv H'=>Same H H'/\∃a,v=.ref a/\SqT X.K H' a ((κ i).map V.int)) E0)
  (hl:SqL X.K H0 l xs) (hli:l≠it) (hQ:∀i x H',xs[i]?=some x->Least κ xs.length i->Same H0 H'->Q x H') :
  ∀(r j i:Nat) (H:Hp) (s:Ae) (vb:Ac) (xb:V) (b:Addr),xs.length-(j+1)=r->j+1<=xs.length->Same H0 H->MK X pins σ H s it st l (j+1) vb (.ref b)->xs[i]?=some xb->RelV xb vb->SqT X.K H b ((κ i).map V.int)->i<=j->Least κ (j+1) i ->
   Co (Ay X.prog X.w) X.A (.builtin "min.loop" ⟨[.ref it,.ref f,.ref st],[]⟩) (MKR X pins σ Q) s:=by
 have nm:(toString "min" ++ toString ".loop" : String) = "min.loop":=by decide
 intro r
 induction r with
 |zero =>
  intro j i H s vb xb b hr0 hj hS M hxb rb kb' hij best;have hend:j+1=xs.length:=by lia
  obtain⟨its,rv,pl,hz⟩:=M.inv.list (hS.seq hl);have hlen:its.length=xs.length:=rv.length.symm;have W:=Walks.list (prog:=X.prog) (w:=X.w) (A:=X.A.in1) hh it l hli its.toArray;obtain⟨c,hc⟩:=M.hold;refine codeAny_builtin PySem.F.entry_min_loop ?_
  rw[Around.under_plainId BX _];show At _ X.A.in1 (seqItems? (.ref st) >>= _) _ _ _;refine Ab (wpAny_seqItems hc rfl ?_);show At _ X.A.in1 (tryCatch (pyNext (.ref it)) _ >>= _) _ _ _;refine Ab (Dx (W.done _ _ _ ⟨by rw[Au,hlen,<- hend];exact M.iter,pl.isList⟩ λh1 tk1 hk1=>?_));have I1:=M.inv.moved (t':=tk1) M.fi hk1;have hc1:=hk1 st _ (by simpa using M.ne) hc;have sb:=Bu h1 st (AT λ_=>(#[]:Array Ac));show At _ X.A.in1 (updateSeq st (λ_=>#[]) >>= _) _ _ _;refine Ab ?_
  refine Dg hc1 rfl (Ab (D0 (Af ?_)));have I2:Inv X pins σ H { s with heap:=h1.update st (AT λ_=>(#[]:Array Ac)),toks:=tk1 }:=I1.moved (s:={ s with heap:=h1,toks:=tk1 }) (t':=tk1) M.fs (λb o hb e=>(sb.2 b λz=>hb (by simp[z])).trans e);exact⟨xb,H,I2,rb,hQ i xb H hxb (by rw[<- hend];exact best) hS⟩
 |succ r ih =>
  intro j i H s vb xb b hr0 hj hS M hxb rb kb' hij best;have hlt:j+1<xs.length:=by lia
  obtain⟨its,rv,pl,hz⟩:=M.inv.list (hS.seq hl);have hlen:its.length=xs.length:=rv.length.symm;have W:=Walks.list (prog:=X.prog) (w:=X.w) (A:=X.A.in1) hh it l hli its.toArray;obtain⟨c,hc⟩:=M.hold;refine codeAny_builtin PySem.F.entry_min_loop ?_
  rw[Around.under_plainId BX _];show At _ X.A.in1 (seqItems? (.ref st) >>= _) _ _ _;refine Ab (wpAny_seqItems hc rfl ?_);show At _ X.A.in1 (tryCatch (pyNext (.ref it)) _ >>= _) _ _ _;refine Ab (Dx (W.item (j+1) _ _ _ (by rw[Au,hlen];exact hlt) ⟨M.iter,pl.isList⟩ λv h1 tk1 hP hst1 hk1=>?_));have hv:its[j+1]?=some v:=by simpa using hP
  obtain⟨x,hx⟩:∃x,xs[j+1]?=some x:=⟨_,Aa hlt⟩;obtain⟨v',hv',rx⟩:=rv.get hx;rw[hv]at hv'
  cases hv'
  have M1:MK X pins σ H { s with heap:=h1,toks:=tk1 } it st l (j+1+1) vb (.ref b):=⟨M.inv.moved (t':=tk1) M.fi hk1,M.fi,M.fs,M.ne,hst1.1,c,hk1 st _ (by simpa using M.ne) hc⟩;show At _ X.A.in1 (tryCatch (DP [v] (call (.ref f) [v])) _ >>= _) _ _ _;refine Ab (Dx (Bo (BY (zkn F hr hb M1 rx (turn (j+1) x H hx hS) (E:=λ_ _=>False)) (λkv s2 he=>?_) λ_ _ hF=>hF.elim)));obtain⟨y,H2,ry,⟨hS2,a2,ey,ka2⟩,M2⟩:=he;subst ey
  cases (show kv=Aw a2 from ry)
  have hS3:=hS.trans hS2;have kb2:SqT X.K H2 b ((κ i).map V.int):=hS2.seqT kb';show At _ X.A.in1 (tryCatch (DP [v,.ref a2] (richCompare .Lt (.ref a2) (.ref b) >>= _)) _ >>= _) _ _ _;refine Ab (Dx (Bo (Ab (zl3 hr.un1 M2.inv ka2 kb2 ?_))));refine Ab (Bo (BZ ?_));refine Ab (D0 (Af ?_));obtain⟨c2,hc2⟩:=M2.hold
  by_cases hbt:HT.lexLt (κ (j+1)) (κ i)=true
  .simp only[hbt,if_true];refine Ab ?_
   refine Dg hc2 rfl (Ab (D0 ?_));rw[nm];exact Af ⟨DM BX _,ih (j+1) (j+1) H2 _ v _ a2 (by lia) hlt hS3 M2.set hx rx ka2 (Am _) (best.take hbt (by lia))⟩
  .have hbf:HT.lexLt (κ (j+1)) (κ i)=false:=by simpa using hbt
   simp only[hbf,A0,if_false];refine Ab (D0 ?_);rw[nm];exact Af ⟨DM BX _,ih (j+1) i H2 _ vb _ b (by lia) hlt hS3 M2 hxb rb kb2 (by lia) (best.next hbf (by lia))⟩
end
section
variable {X:Cx}{k:Nat}{f:Addr}{fd:BM}{ps:List Str}{sp:Sp}{pins:List (Addr×Obj)}{σ:St}{H0:Hp}{Q:VK}{l it st:Addr}{xs:List V}{κ:Nat->List Int}
structure MK0 (X:Cx) (pins:List (Addr×Obj)) (σ:St) (H:Hp) (s:Ae) (it st l:Addr) (j:Nat):Prop where
 inv:Inv X pins σ H s
 fi:FpOk X pins H it
 fs:FpOk X pins H st
 ne:st≠it
 iter:s.heap.IsListIter it l j
 hold:∃c,s.heap.get? st=some (BL "list" #[] c)
theorem zje{H:Hp}{s:Ae}{Q1:VK}{u:Ac}{x:V}{E:Ac -> Ae -> Prop}{j:Nat}(F:FnOk X.prog X.w X.K X.mg X.base CX0 k f fd ps sp)(hr:Room (k + 1) X.A)(hb:Binds X.K fd ps [])
    (M:MK0 X pins σ H s it st l j) (r:RelV x u) (h:sp [x] H Q1 E0):At (Ay X.prog X.w) X.A.in1 (call (.ref f) [u]) (λv s'=>∃y H',RelV y v/\Q1 y H'/\MK0 X pins σ H' s' it st l j) E s:=by
  obtain⟨c,hc⟩:=M.hold;obtain⟨oi,hoi,ci,di⟩:=id M.iter
  have I1:Inv X (pins ++ zdA [it, st] s.heap) σ H s := M.inv.pinned (λb hb => by
      rcases AM.mp hb with rfl |hb
      . exact M.fi
      . rw[Ah.mp hb];exact M.fs) (λb hb=>by
      rcases AM.mp hb with rfl |hb
      . exact zeb M.iter
      . rw[Ah.mp hb];exact⟨_,hc,zcQ⟩)
  refine BY (zjd F hr hb I1 (.cons r .nil) h) (λv s' hv=>?_) λ_ _ e=>e
  obtain⟨y,H',I2,ry,q⟩:=hv;have p1:=I2.pin (it,oi) (As _ (As _ (za4 (by simp) hoi)));have p2:=I2.pin (st,BL "list" #[] c) (As _ (As _ (za4 (by simp) hc)));exact⟨y,H',ry,q,I2.unpinned,M.fi.again p1.2.1,M.fs.again p2.2.1,M.ne,⟨oi,p1.1,ci,di⟩,c,p2.1⟩
theorem MK0.set{H:Hp}{s:Ae}{j:Nat}{v kv:Ac}(M:MK0 X pins σ H s it st l j):MK X pins σ H { s with heap:=s.heap.update st (AT λ_=>#[v,kv]) } it st l j v kv:=by obtain⟨c,hc⟩:=M.hold;have sb:=Bu s.heap st (AT λ_=>#[v,kv]);obtain⟨oi,hoi,ci,di⟩:=id M.iter;exact⟨M.inv.moved (t':=s.toks) M.fs (λb o hb e=>(sb.2 b λz=>hb (by simp[z])).trans e),M.fi,M.fs,M.ne,⟨oi,(sb.2 it M.ne.symm).trans hoi,ci,di⟩,_,DR hc λ_=>#[v,kv]⟩
theorem zj2{s:Ae}(hh:X.A.handled=none)(F:FnOk X.prog X.w X.K X.mg X.base CX0 k f fd ps sp)(hr:Room (k + 1) X.A)(hb:Binds X.K fd ps [])
  (turn:∀i x H,xs[i]?=some x->Same H0 H->sp [x] H (λv H'=>Same H H'/\∃a,v=.ref a/\SqT X.K H' a ((κ i).map V.int)) E0)
  (hl:SqL X.K H0 l xs) (hne:0<xs.length) (hQ:∀i x H',xs[i]?=some x->Least κ xs.length i->Same H0 H'->Q x H') (I:Inv X pins σ H0 s) :
  At (Ay X.prog X.w) X.A (call (.builtin "min") [.ref l] [(BD "key",.ref f)]) (EP X pins σ Q) X.xe s:=by
 have nm:(toString "min" ++ toString ".loop" : String) = "min.loop":=by decide
 obtain⟨its,rv,pl,hz⟩:=I.list hl;have hlen:its.length=xs.length:=rv.length.symm;have hll:l<s.heap.objs.size:=by obtain⟨o,ho,_⟩:=pl.isList;exact AA ho
 refine kmk_tree PySem.F.kind_min PySem.F.plain_min PySem.F.entry_min (kmk_min_key _ _) ?_
 show At _ X.A.in1 (Cw "min" ["key","default"] 0 ⟨[],[(BD "key",.ref f)]⟩ >>= _) _ _ s;refine Ab (wpAny_of_eq (show Cw "min" ["key","default"] 0 ⟨[],[(BD "key",.ref f)]⟩=pure [some (.ref f),none] from rfl) ?_);refine Ab (Af ?_);refine Ab (wpAny_pyIter_list pl.isList ?_);refine Ab (wpAny_newList ?_ (A9 _));rw[nm];refine Af ⟨DM BX _,?_⟩;have keep:∀b o,s.heap.get? b=some o->((s.heap.push { cls:=.type "list_iterator",data:=.fields #[.ref l,.int 0 0] }).push (BL "list" #[] 0)).get? b=some o:=λb o e=>Ag _ (Ag _ e)
 have gi:((s.heap.push { cls:=.type "list_iterator",data:=.fields #[.ref l,.int 0 0] }).push (BL "list" #[] 0)).get? s.heap.objs.size=some { cls:=.type "list_iterator",data:=.fields #[.ref l,.int 0 0] }:=Ag _ (AF _ rfl);have hsS:(s.heap.push { cls:=.type "list_iterator",data:=.fields #[.ref l,.int 0 0] }).objs.size=s.heap.objs.size+1:=size_push' ..;have gs:((s.heap.push { cls:=.type "list_iterator",data:=.fields #[.ref l,.int 0 0] }).push (BL "list" #[] 0)).get? (s.heap.objs.size+1)=some (BL "list" #[] 0):=by rw[<- hsS];exact AF _ rfl
 rw[hsS];have I1:Inv X pins σ H0 { s with heap:=(s.heap.push { cls:=.type "list_iterator",data:=.fields #[.ref l,.int 0 0] }).push (BL "list" #[] 0) }:=I.kept (t':=s.toks) keep;have fi:FpOk X pins H0 s.heap.objs.size:=I.fpOk (Am _) (I.hok.fresh (Am _));have fs:FpOk X pins H0 (s.heap.objs.size+1):=I.fpOk (C4 _) (I.hok.fresh (C4 _));have M0:MK0 X pins σ H0 _ s.heap.objs.size (s.heap.objs.size+1) l 0:=⟨I1,fi,fs,Nat.ne_of_gt (Nat.lt_succ_self _),⟨_,gi,rfl,rfl⟩,⟨0,gs⟩⟩;have hli:l≠s.heap.objs.size:=A4 hll;have W:=Walks.list (prog:=X.prog) (w:=X.w) (A:=X.A.in1) hh s.heap.objs.size l hli its.toArray;refine codeAny_builtin PySem.F.entry_min_loop ?_
 rw[Around.under_plainId BX _];show At _ X.A.in1 (seqItems? (.ref _) >>= _) _ _ _;refine Ab (wpAny_seqItems gs rfl ?_);show At _ X.A.in1 (tryCatch (pyNext (.ref s.heap.objs.size)) _ >>= _) _ _ _;obtain⟨its2,rv2,pl2,_⟩:=I1.list hl;refine Ab (Dx (W.item 0 _ _ _ (by rw[Au,hlen];exact hne) ⟨M0.iter,pl.isList.at λo e=>keep _ _ e⟩ λv h1 tk1 hP hst1 hk1=>?_));have hv:its[0]?=some v:=by simpa using hP
 obtain⟨x,hx⟩:∃x,xs[0]?=some x:=⟨_,Aa hne⟩;obtain⟨v',hv',rx⟩:=rv.get hx;rw[hv]at hv'
 cases hv'
 have M1:MK0 X pins σ H0 { s with heap:=h1,toks:=tk1 } s.heap.objs.size (s.heap.objs.size+1) l 1:=⟨I1.moved (t':=tk1) fi hk1,fi,fs,M0.ne,hst1.1,0,hk1 _ _ (by simp) gs⟩;show At _ X.A.in1 (tryCatch (DP [v] (call (.ref f) [v])) _ >>= _) _ _ _;refine Ab (Dx (Bo (BY (zje F hr hb M1 rx (turn 0 x H0 hx (Same.refl _)) (E:=λ_ _=>False)) (λkv s2 he=>?_) λ_ _ hF=>hF.elim)));obtain⟨y,H2,ry,⟨hS2,a2,ey,ka2⟩,M2⟩:=he;subst ey
 cases (show kv=Aw a2 from ry)
 obtain⟨c2,hc2⟩:=M2.hold;show At _ X.A.in1 (updateSeq (s.heap.objs.size+1) (λ_=>#[v,.ref a2]) >>= _) _ _ _;refine Ab ?_
 refine Dg hc2 rfl ?_
 rw[nm];refine Af ⟨DM BX _,?_⟩
 exact codeAny_mono (zjx hh F hr hb turn hl hli hQ _ 0 0 H2 _ v _ a2 rfl hne hS2 M2.set hx rx ka2 (Am _) (λj hj=>by
  have e:j=0:=by lia
  subst e;exact⟨HT.lexLt_irrefl _,λz=>absurd z (CA _)⟩)) λr s' hr'=>hr'
end
end L2
namespace RK
open PySem PySem.W PyProof.Rows
variable {n:Nat}{ans:Nat->Nat->Bool}
noncomputable def Pm(n:Nat)(p:Array Nat):Prop:=p.Perm (List.toArray (BS n))
inductive Col:Ac->Ac->Int->Int->Prop where
 |int (a:Int) (t:Tok) (b:Int) (u:Tok):Col (.int a t) (.int b u) a b
 |bl (p q:Bool):Col (.bool p) (.bool q) (b2i p) (b2i q)
inductive Cols:List Ac->List Ac->List Int->List Int->Prop where
 |nil:Cols [] [] [] []
 |cons {u v:Ac} {us vs:List Ac} {a b:Int} {as bs:List Int}:Col u v a b->Cols us vs as bs->Cols (u::us) (v::vs) (a::as) (b::bs)
section
variable {prog:AR}{w:Be}{A:A3}{s:Ae}{Q:Bool->Ae->Prop}
theorem zlu{u v:Ac}{a b:Int}(c:Col u v a b){E:Ac->Ae->Prop}(h:Q (decide (a=b)) s):At (Ay prog w) A (eqBool u v) Q E s:=by
 cases c with
 |int _ t _ u =>
  refine wpAny_eqBool_int ?_
  rw[show (a == b)=decide (a=b) from by rw[Bool.beq_eq_decide_eq]];exact h
 |bl p q =>
  refine SeqAt.EqAt.bool_bool p q prog w E Q ?_
  have e:(p == q)=decide (b2i p=b2i q):=by cases p <;> cases q <;> decide
  rw[e];exact h
theorem zm0{u v:Ac}{a b:Int}(c:Col u v a b){E:Ac->Ae->Prop}(h:Q (decide (a<b)) s):At (Ay prog w) A (oneLt' false u v) Q E s:=by
 cases c with
 |int _ t _ u=>exact kat_one _ _ (lt_int (show W.BoolBack Q (.bool (decide (a<b))) s from h))
 |bl p q=>exact kat_one _ _ (lt_bool (show W.BoolBack Q (.bool (decide (b2i p<b2i q))) s from h))
theorem zhW{bb:Bool}:∀{us vs:List Ac}{as bs:List Int}(i:Nat),Cols us vs as bs->Q (HT.lexLt as bs) s->KatLex prog w A bb false Q (us.zip vs) (i+1) s
 |_,_,_,_,_,.nil,h=>kat_nil h
 |_,_,_,_,i,.cons (a:=a) (b:=b) (as:=as) (bs:=bs) c r,h=>by
  rw[HT.lexLt_cons]at h;refine kat_cons (zlu c ?_)
  by_cases e:a=b
  .rw[decide_eq_true e];rw[if_pos e]at h;exact kat_yes (zhW (i+1) r h)
  .rw[decide_eq_false e];rw[if_neg e]at h;refine kat_no ?_
   rw[show (bb && (i+1 == 0))=false by simp];exact zm0 c h
theorem kat_cols0{us vs:List Ac}{as bs:List Int}{a b:Int}{t u:Tok}(r:Cols us vs as bs)(h:Q (HT.lexLt (a::as) (b::bs)) s):KatLex prog w A true false Q ((Value.int a t::us).zip (Value.int b u::vs)) 0 s:=by
 rw[HT.lexLt_cons]at h;refine kat_cons (zlu (.int a t b u) ?_)
 by_cases e:a=b
 .rw[decide_eq_true e];rw[if_pos e]at h;exact kat_yes (zhW 0 r h)
 .rw[decide_eq_false e];rw[if_neg e]at h;exact kat_no (oneLt_int h)
end
end RK
namespace L2
open PySem PySem.Spec PyProof.Rows
section
variable {X:Cx}{k:Nat}{f:Addr}{fd:BM}{ps:List Str}{sp:Sp}{pins:List (Addr×Obj)}{σ:St}{H0:Hp}{Q:VK}
theorem Inv.adopt{H:Hp}{s:Ae}{D:Addr}{o:HO}{h':Heap}{t':Nat}(I:Inv X pins σ H s)(fb:FpOk X pins H D)(hk:∀b u, b ≠ D -> s.heap.get? b=some u -> h'.get? b=some u)(heo:∃u, h'.get? D=some u)
  (new:ObjOk X.prog X.w (upd H D o) h' D o):Inv X pins σ (upd H D o) { s with heap:=h',toks:=t' }:=by
 have hn:=fb.1;have nit:∀b u,H b=some u->b≠D:=λb u e z=>by rw[z,hn]at e;cases e
 refine I.step (g':=s.gens) (d':=s.drawn) (ch:=[D]) (λb hb=>?_) (λb u _ _ hc e _=>hk b u (λz=>hc (by simp[z])) e) (λb u _ _ hc e _=>⟨u.slots,hk b u (λz=>hc (by simp[z])) e⟩)
  (λb u hc _ n=>by rw[zai (λz=>hc (by simp[z]))];exact n)
  (λb u hc e=>⟨u,hk b u (λz=>hc (by simp[z])) e⟩) (λb xs e=>by rw[zai (nit _ _ e)];exact e) (λb u xs e=>by rw[zai (nit _ _ e)];exact e) (λb ps e=>⟨#[],by rw[zai (nit _ _ e),e];simp⟩) (λm hm=>?_) (λb u e=>?_) I.bare
 .have e:b=D:=by simpa using hb
  subst e;exact⟨fb.2.2.2.1,fb.2.1,fb.2.2.2.2.1,fb.2.2.2.2.2⟩
 .obtain⟨u,es,ep,ho,r⟩:=hm;exact⟨u,es,ep,hk _ u (BW fb.2.1) ho,r⟩
 .by_cases hb:b=D
  .subst hb;rw[zaa]at e;cases e;exact new
  .rw[zai hb]at e;refine (I.hok b u e).stay (λc v hc q=>hk c v ?_ q) (λc q=>by rw[zai (nit _ _ q)];exact q) λc xs q=>by rw[zai (nit _ _ q)];exact q
   rcases hc with z |z
   .rw[z];exact nit b u e
   .exact nit c _ z
theorem zlK{H:Hp}{s:Ae}{Q:VK}{us:List Ac}{vs:List V}{E:Ac -> Ae -> Prop}(F:FnOk X.prog X.w X.K X.mg X.base CX0 k f fd ps sp)(hr:Room (k + 1 + 1) X.A)(hb:Binds X.K fd ps [])
  (I:Inv X pins σ H s) (r:Vals vs us) (h:sp vs H Q E0):At (Ay X.prog X.w) X.A.in1.in1 (call (.ref f) us) (EP X pins σ Q) E s:=by
 have hl:(us++[]).length=ps.length:=by rw[Bf,<- r.length];exact F.len _ _ _ _ h
 have hb':=hb s us I.kIn hl;rw[Bf]at hb';refine wpAny_call (codeAny_mono (F.run X.A.in1.in1 X.stack s H ⟨us,[]⟩ us vs Q E0 hr.in1.in1 I.env0.in1.in1 hb' r h) λr s' hq=>?_)
 cases r with
 |error e=>exact BK hq
 |ok fl =>
  cases fl with
  |ret u=>exact I.after hq
  |next=>exact BK hq
  |brk=>exact BK hq
  |cont=>exact BK hq
noncomputable def zij(X:Cx)(σ:St)(H0:Hp)(f:Addr)(xs:List V)(κV:Nat->List V):Prop:=∀(pins:List (Addr×Obj)) (i:Nat) (x:V) (u:Ac) (H:Hp) (s:Ae),xs[i]?=some x->Same H0 H->Inv X pins σ H s->RelV x u ->
 At (Ay X.prog X.w) X.A.in1.in1 (call (.ref f) [u]) (EP X pins σ λv H'=>Same H H'/\∃a,v=.ref a/\SqT X.K H' a (κV i)) (λ_ _=>False) s
theorem zmU{xs:List V}{κV:Nat -> List V}(F:FnOk X.prog X.w X.K X.mg X.base CX0 k f fd ps sp)(hr:Room (k + 1 + 1) X.A)(hb:Binds X.K fd ps [])
  (turn:∀i x H,xs[i]?=some x->Same H0 H->sp [x] H (λv H'=>Same H H'/\∃a,v=.ref a/\SqT X.K H' a (κV i)) E0):zij X σ H0 f xs κV :=
 λ_ i x _ H _ hx hS I ru=>zlK F hr hb I (.cons ru .nil) (turn i x H hx hS)
inductive VCol:V->V->Int->Int->Prop where
 |int (a b:Int):VCol (.int a) (.int b) a b
 |bl (p q:Bool):VCol (.bl p) (.bl q) (b2i p) (b2i q)
inductive VCols:List V->List V->List Int->List Int->Prop where
 |nil:VCols [] [] [] []
 |cons {x y:V} {xs ys:List V} {a b:Int} {as bs:List Int}:VCol x y a b->VCols xs ys as bs->VCols (x::xs) (y::ys) (a::as) (b::bs)
theorem VCols.vals:∀{xs ys:List V}{as bs:List Int}{us vs:List Ac},VCols xs ys as bs->Vals xs us->Vals ys vs->RK.Cols us vs as bs
  |_,_,_,_,_,_,.nil,.nil,.nil=>.nil
  |_, _, _, _, _, _, .cons c r, .cons h t, .cons g q => .cons (by
      cases c with
      |int a b=>obtain⟨t,rfl⟩:=h;obtain⟨u,rfl⟩:=g;exact .int _ _ _ _
      |bl p q=>cases h;cases g;exact .bl _ _) (r.vals t q)
structure SK (X:Cx) (pins:List (Addr×Obj)) (σ:St) (H:Hp) (s:Ae) (D st:Addr) (e:Nat) (κV:Nat->List V) (ks:List Addr):Prop where
 inv:Inv X pins σ H s
 fd:FpOk X pins H D
 fs:FpOk X pins H st
 ne:st≠D
 hd:s.heap.get? D=some (BL "list" #[] e)
 hs:∃c,s.heap.get? st=some (BL "list" (ks.map Aw).toArray c)
 hk:∀i a,ks[i]?=some a->SqT X.K H a (κV i)
theorem zh1{M:Model}{A:A3}{E:Ac -> Ae -> Prop}{body:Ac -> PUnit -> Sem (ForInStep PUnit)}{vs:List Ac}(P:Nat -> Ae -> Prop)
  (hb:∀i x s,vs[i]?=some x->P i s->At M A (body x ⟨⟩) (λr s'=>r=.yield ⟨⟩/\P (i+1) s') E s):∀(r:List Ac) (i:Nat) (s:Ae),vs.drop i=r->i<=vs.length->P i s ->
   At M A (forIn r PUnit.unit body) (λ_ s'=>P vs.length s') E s
 |[],i,s,hr,hi,h=>by
  rw[List.forIn_nil];have:vs.length<=i:=List.drop_eq_nil_iff.mp hr;exact Af (by rw[show vs.length=i by lia];exact h)
 |x::r,i,s,hr,hi,h=>by
  have hx:vs[i]?=some x:=by have:=congrArg (·[0]?) hr;simpa using this
  have hlt:i<vs.length:=(Ad.mp hx).1;have hr':vs.drop (i+1)=r:=by rw[<- List.tail_drop,hr];rfl
  rw[List.forIn_cons];refine Ab (BY (hb i x s hx h) (λq s' hq=>?_) λ_ _ e=>e);obtain⟨rfl,h'⟩:=hq;exact zh1 P hb r (i+1) s' hr' hlt h'
end
section
variable {X:Cx}{pins:List (Addr×Obj)}{σ:St}{H:Hp}{s:Ae}{D st:Addr}{e:Nat}{κV:Nat->List V}{ks:List Addr}{E:Ac->Ae->Prop}
noncomputable def zik(X:Cx)(G:Array Nat->Prop)(ks vs:List Ac)(E:Ac->Ae->Prop)(s:Ae):Prop :=
 At (Ay X.prog X.w) X.A.in1.in1 (keyKind' ks.toArray) (λκ s0=>s0=s /\
  At (Ay X.prog X.w) X.A.in1.in1 ((sortRuns').run (SortSt.mk' κ (ks.toArray.zip vs.toArray) #[] 7 none)) (λr s'=>s'=s/\Cm r.2=none/\∃p:Array Nat,G p/\p.size=vs.length/\Av r.2=p.map (Dy (ks.toArray.zip vs.toArray))) E s) E s
theorem zjG{as:List Addr}(I:Inv X pins σ H s):∀{ks:List Addr}{vs:List (List V)}{ns:List Int}, (∀(i:Nat) (a:Addr), ks[i]? = some a -> ∃n r, ns[i]? = some n /\ SqT X.K H a (.int n :: r)) -> ns.length=ks.length ->
  ∃fs:List Ac,W.KatTups s.heap (ks.map Aw) fs/\fs.length=ks.length/\∀v∈fs,∃n t,v=Value.int n t
 |[],_,_,_,_=>⟨[],.nil,rfl,λ_ h=>nomatch h⟩
 |a::r,vs,[],_,h=>by cases h
 |a::r,vs,n::ns,hk,h=>by
  obtain⟨m,q,e1,hq⟩:=hk 0 a rfl;obtain⟨fs,t,hl,hi⟩:=zjG (as:=as) (vs:=vs) I (ks:=r) (ns:=ns) (λi b hb=>by simpa using hk (i+1) b (by simpa using hb)) (by simpa using h);obtain⟨its,rv,⟨o,ho,hc,c,hd⟩,_⟩:=I.tuple hq
  cases rv with
  |cons rx rr =>
   obtain⟨t1,rfl⟩:=rx;refine⟨Value.int m t1::fs,.cons ho hc hd (by simp) t,by simp[hl],λv hv=>?_⟩;rcases AM.mp hv with rfl |hv
   .exact⟨_,_,rfl⟩
   .exact hi v hv
end
section
variable {X:Cx}{k:Nat}{f:Addr}{fd:BM}{ps:List Str}{sp:Sp}{pins:List (Addr×Obj)}{σ:St}{H0 H:Hp}{s:Ae}{D st l:Addr}{e:Nat}{κV:Nat->List V}{ks:List Addr}{E:Ac->Ae->Prop}{G:Array Nat->Prop}{xs:List V}{vs:List Ac}{Q:VK}
noncomputable def outV(xs:List V)(p:Array Nat):List V:=p.toList.map λi=>xs.getD i .non
theorem ziO{xs:List V}{vs:List Ac}(r:Vals xs vs)(i:Nat)(hi:i<xs.length):RelV (xs.getD i .non) (vs.getD i Cq):=by
 have hx:xs[i]?=some xs[i]:=by simp[hi]
 obtain⟨u,hu,ru⟩:=r.get hx;rw[Bk,hx,Bk,hu];exact ru
theorem zhl{xs:List V}{vs:List Ac}(r:Vals xs vs):∀(l:List Nat),(∀i∈l,i<xs.length)->Vals (l.map λi=>xs.getD i .non) (l.map λi=>vs.getD i Cq)
 |[],_=>.nil
 |i::t,h=>.cons (ziO r i (h i An)) (zhl r t λj hj=>h j (Ap _ hj))
theorem zg1{p:Array Nat}:(outV xs p).length=p.size:=by unfold outV;simp
theorem zlH{P:PySem.Fin -> Ae -> Prop}{so:AG}{out:List Ac}{ys:List V}(K:SK X pins σ H s D st e κV ks)(hks:ks.length <= sizeLine)(ho:(Av so).map (·.2)=out.toArray)(ry:Vals ys out)(hz:ys.length <= sizeLine)(hf:Cm so=none)
  (h:∀s',Inv X pins σ (upd H D (.lst ys)) s'->P (.done (.ret .none)) s'):At (Ay X.prog X.w) X.A.in1.in1 (ksk_tail D false e (.ref st) so) P E s:=by
 obtain⟨c,hc⟩:=K.hs;have hzo:out.length<=sizeLine:=by rw[<- ry.length];exact hz
 have s1:=Bu s.heap st (AT λ_=>(#[]:Array Ac));have hd1:(s.heap.update st (AT λ_=>(#[]:Array Ac))).get? D=some (BL "list" #[] e):=(s1.2 D K.ne.symm).trans K.hd;have s2:=Bu (s.heap.update st (AT λ_=>(#[]:Array Ac))) D (AT λ_=>out.toArray);obtain⟨c2,hc2⟩:∃c2,((s.heap.update st (AT λ_=>(#[]:Array Ac))).update D (AT λ_=>out.toArray)).get? D=some (BL "list" out.toArray c2):=⟨_,DR hd1 λ_=>out.toArray⟩;unfold ksk_tail
 try dsimp only
 rw[ho];refine Ab (listUpdate_at hc rfl ?_ (by simpa using hks) (A9 _));refine Ab (D0 ?_);refine Ab (seqEpoch_at hd1 rfl ?_);simp only[A0,if_false];refine Ab (listUpdate_at hd1 rfl ?_ (A9 _) (by simp;lia));rw[hf];simp only[bne_self_eq_false,A0,if_false];refine Af (h _ ?_);have I1:Inv X pins σ H { s with heap:=s.heap.update st (AT λ_=>(#[]:Array Ac)) }:=K.inv.moved (t':=s.toks) K.fs (λb o hb e=>(s1.2 b λz=>hb (by simp[z])).trans e);exact I1.adopt (t':=s.toks) K.fd (λb u hb q=>(s2.2 b hb).trans q) ⟨_,hc2⟩ ⟨hz,out,c2,ry,hc2⟩
theorem zmw{P:PySem.Fin -> Ae -> Prop}(K:SK X pins σ H s D st e κV ks)(hl:ks.length=vs.length)(r:Vals xs vs)(hz:xs.length <= sizeLine)(hG:∀p, G p -> ∀i ∈ p.toList, i < xs.length)
  (h0:vs.length<2->G (List.toArray (BS vs.length))) (core:2<=vs.length->zik X G (ks.map Aw) vs E s)
  (h:∀p s',G p->p.size=xs.length->Inv X pins σ (upd H D (.lst (outV xs p))) s'->P (.done (.ret .none)) s'):At (Ay X.prog X.w) X.A.in1.in1 (ksk_end D false vs.toArray e (.ref st) (ks.map Aw).toArray) P E s:=by
 have hlx:xs.length=vs.length:=r.length;have hl':(ks.map Aw).length=vs.length:=by simp[hl]
 have fin:∀(p:Array Nat) (so:AG),G p->p.size=vs.length->Av so=p.map (Dy ((ks.map Aw).toArray.zip vs.toArray))->Cm so=none->At (Ay X.prog X.w) X.A.in1.in1 (ksk_tail D false e (.ref st) so) P E s:=λp so g hp ha hf =>
  zlH K (by lia) (W.kat_snds hl' ha) (ys:=outV xs p) (zhl r _ (hG p g)) (by rw[zg1];lia) hf λs' I'=>h p s' g (by lia) I'
 unfold ksk_end
 try dsimp only
 simp only[A0,if_false]
 by_cases h2:vs.length<2
 .have h2':vs.toArray.size<2:=by simpa using h2
  rw[if_pos h2',if_pos h2'];refine Ab (Af ?_);show At (Ay X.prog X.w) X.A.in1.in1 (pure ((),SortSt.mk' general' ((ks.map Aw).toArray.zip vs.toArray) #[] 7 none) >>= _) P E s;refine Ab (Af ?_)
  try dsimp only
  refine fin (List.toArray (BS vs.length)) _ (h0 h2) (by simp) ?_ rfl;have:=W.kas_range ((ks.map Aw).toArray.zip vs.toArray);rw[show ((ks.map Aw).toArray.zip vs.toArray).size=vs.length by simp[hl]]at this;exact this.symm
 .have h2':¬ vs.toArray.size<2:=by simpa using h2
  rw[if_neg h2',if_neg h2'];refine Ab (BY (core (by lia)) (λκ s0 hk=>?_) λ_ _ z=>z);obtain⟨rfl,hk⟩:=hk;refine Ab (BY hk (λr' s' hr=>?_) λ_ _ z=>z);obtain⟨rfl,hf,p,g,hp,ha⟩:=hr;obtain⟨⟨⟩,so⟩:=r'
  try dsimp only
  exact fin p so g hp ha hf
theorem zlI{P:PySem.Fin -> Ae -> Prop}(F:zij X σ H0 f xs κV)
    (K:SK X pins σ H0 s D st e κV []) (r:Vals xs vs) (hz:xs.length<=sizeLine)
    (h:∀H' s' ks,ks.length=vs.length->Same H0 H'->SK X pins σ H' s' D st e κV ks->At (Ay X.prog X.w) X.A.in1.in1 (ksk_end D false vs.toArray e (.ref st) (ks.map Aw).toArray) P E s') :
    At (Ay X.prog X.w) X.A.in1.in1 (ksk_rest D (.ref f) false vs.toArray e (.ref st)) P E s:=by
  have hlx:xs.length=vs.length:=r.length;unfold ksk_rest;refine Ab (CH ?_);rw[List.forIn_toArray];refine Ab (BY (zh1 (vs:=vs) (λi s'=>∃H' ks,ks.length=i/\Same H0 H'/\SK X pins σ H' s' D st e κV ks) (λi x s1 hx hP=>?_) vs 0 s rfl (A9 _) ⟨H0,[],rfl,Same.refl _,K⟩) (λ_ s' hd=>?_) λ_ _ z=>z)
  . obtain⟨H1,ks,hkl,hS,K1⟩:=hP;have hi:i<xs.length:=by rw[hlx];exact (Ad.mp hx).1
    have hxx:xs[i]?=some xs[i]:=by simp[hi]
    obtain⟨u,hu,ru⟩:=r.get hxx;rw[hx]at hu
    cases hu
    obtain⟨c,hc⟩:=K1.hs
    have I1:Inv X (pins ++ zdA [D, st] s1.heap) σ H1 s1 := K1.inv.pinned (λb hb => by
        rcases AM.mp hb with rfl |hb
        . exact K1.fd
        . rw[Ah.mp hb];exact K1.fs) (λb hb=>by
        rcases AM.mp hb with rfl |hb
        . exact⟨_,K1.hd,zcQ⟩
        . rw[Ah.mp hb];exact⟨_,hc,zcQ⟩)
    refine Ab (wpAny_attempt (BY (F _ i _ _ H1 _ hxx hS I1 ru) (λv s2 hv=>?_) λ_ _ hF=>hF.elim));obtain⟨y,H2,I2,ry,hS2,a,ey,ka⟩:=hv;subst ey
    cases (show v=Aw a from ry)
    have p1:=I2.pin (D,BL "list" #[] e) (As _ (As _ (za4 (by simp) K1.hd)));have p2:=I2.pin (st,BL "list" (ks.map Aw).toArray c) (As _ (As _ (za4 (by simp) hc)));have sb:=Bu s2.heap st (AT (·.push (Aw a)));have ea:(ks.map Aw).toArray.push (Aw a)=((ks++[a]).map Aw).toArray:=by simp
    obtain⟨c2,hc2⟩:∃c2,(s2.heap.update st (AT (·.push (Aw a)))).get? st=some (BL "list" ((ks++[a]).map Aw).toArray c2):=⟨_,by rw[<- ea];exact DR p2.1 (·.push (Aw a))⟩
    try dsimp only
    refine Ab (listUpdate_at p2.1 rfl ?_ (by simp;lia) (by simp;lia));refine Af ⟨rfl,H2,ks++[a],by simp[hkl],hS.trans hS2,I2.unpinned.moved (t':=s2.toks) (K1.fs.again p2.2.1) (λb o hb e=>(sb.2 b λz=>hb (by simp[z])).trans e),K1.fd.again p1.2.1,K1.fs.again p2.2.1,K1.ne,(sb.2 D K1.ne.symm).trans p1.1,⟨c2,hc2⟩,λj b hj=>?_⟩;rcases AZ j ks.length with hjl |hjl
    . rw[Ax hjl]at hj;exact hS2.seqT (K1.hk j b hj)
    . rw[AK hjl]at hj
      have hj0:j-ks.length=0:=by have:=(Ad.mp hj).1;simp at this;lia
      rw[hj0]at hj
      cases AX hj
      rw[show j=i by lia];exact ka
  . obtain⟨H',ks,hkl,hS,K'⟩:=hd;obtain⟨c,hc⟩:=K'.hs
    try dsimp only
    refine Ab (listItems_at hc rfl ?_);exact h H' s' ks hkl hS K'
theorem zlG{P:PySem.Fin -> Ae -> Prop}{c0:Nat}(F:zij X σ H0 f xs κV)
  (I:Inv X pins σ H0 s) (fb:FpOk X pins H0 D) (hd:s.heap.get? D=some (BL "list" vs.toArray c0)) (r:Vals xs vs) (hz:xs.length<=sizeLine)
  (h:∀e H' s' ks st,ks.length=vs.length->Same H0 H'->SK X pins σ H' s' D st e κV ks->At (Ay X.prog X.w) X.A.in1.in1 (ksk_end D false vs.toArray e (.ref st) (ks.map Aw).toArray) P E s') :
  At (Ay X.prog X.w) X.A.in1.in1 (ksk_tree D (.ref f) false) P E s:=by
 have hlx:xs.length=vs.length:=r.length;have s1:=Bu s.heap D (AT λ_=>(#[]:Array Ac));obtain⟨e1,ho1⟩:∃e1,(s.heap.update D (AT λ_=>(#[]:Array Ac))).get? D=some (BL "list" #[] e1):=⟨_,DR hd λ_=>#[]⟩;have hDl:D<s.heap.objs.size:=AA hd;unfold ksk_tree;refine Ab (listItems_at hd rfl ?_);refine Ab (listUpdate_at hd rfl ?_ (by simp;lia) (A9 _));refine Ab (seqEpoch_at ho1 rfl ?_);refine Ab (wpAny_newTuple ?_ (by simp;lia));refine Ab (wpAny_newList ?_ (A9 _));refine Bo ?_
 have I1:Inv X pins σ H0 { s with heap:=s.heap.update D (AT λ_=>(#[]:Array Ac)) }:=I.moved (t':=s.toks) fb (λb o hb e=>(s1.2 b λz=>hb (by simp[z])).trans e);have keep:∀b o,(s.heap.update D (AT λ_=>(#[]:Array Ac))).get? b=some o->(((s.heap.update D (AT λ_=>(#[]:Array Ac))).push (BL "tuple" vs.toArray.toList.toArray 0)).push (BL "list" #[] 0)).get? b=some o:=λb o q=>Ag _ (Ag _ q)
 have hsz:((s.heap.update D (AT λ_=>(#[]:Array Ac))).push (BL "tuple" vs.toArray.toList.toArray 0)).objs.size=s.heap.objs.size+1:=by rw[size_push',Heap.size_update]
 have I2:Inv X pins σ H0 { s with heap:=((s.heap.update D (AT λ_=>(#[]:Array Ac))).push (BL "tuple" vs.toArray.toList.toArray 0)).push (BL "list" #[] 0) }:=I1.kept (t':=s.toks) keep;show At (Ay X.prog X.w) X.A.in1.in1 (ksk_rest D (.ref f) false vs.toArray _ (.ref ((s.heap.update D (AT λ_=>(#[]:Array Ac))).push (BL "tuple" vs.toArray.toList.toArray 0)).objs.size)) P E { s with heap:=((s.heap.update D (AT λ_=>(#[]:Array Ac))).push (BL "tuple" vs.toArray.toList.toArray 0)).push (BL "list" #[] 0) };rw[hsz];have hss:(((s.heap.update D (AT λ_=>(#[]:Array Ac))).push (BL "tuple" vs.toArray.toList.toArray 0)).push (BL "list" #[] 0)).get? (s.heap.objs.size+1)=some (BL "list" #[] 0):=by rw[<- hsz];exact AF _ rfl
 exact zlI F ⟨I2,fb,I.fpOk (C4 _) (I.hok.fresh (C4 _)),Nat.ne_of_gt (Nat.lt_succ_of_lt hDl),keep _ _ ho1,⟨0,by simpa using hss⟩,λi a ha=>by simp at ha⟩ r hz λH' s' ks a b c=>h _ H' s' ks _ a b c
end
section
variable {X:Cx}{k:Nat}{f:Addr}{fd:BM}{ps:List Str}{sp:Sp}{pins:List (Addr×Obj)}{σ:St}{H0:Hp}{s:Ae}{l:Addr}{κV:Nat->List V}{G:Array Nat->Prop}{xs:List V}{Q:VK}
theorem ziH(F:zij X σ H0 f xs κV)
  (hl:SqL X.K H0 l xs) (hG:∀p,G p->∀i∈p.toList,i<xs.length) (h0:xs.length<2->G (List.toArray (BS xs.length)))
  (core:∀{vs:List Ac} {ks:List Addr} {H':Hp} {s':Ae} {D st:Addr} {e:Nat},Vals xs vs->SK X pins σ H' s' D st e κV ks->ks.length=vs.length->2<=vs.length->zik X G (ks.map Aw) vs X.xe s')
  (hQ:∀p D H',G p->p.size=xs.length->H0 D=none->Same H0 H'->H' D=some (.lst (outV xs p))->Q (.ref D) H') (I:Inv X pins σ H0 s) :
  At (Ay X.prog X.w) X.A (call (.builtin "sorted") [.ref l] [(BD "key",.ref f)]) (EP X pins σ Q) X.xe s:=by
 obtain⟨vs,r,pl,hz⟩:=I.list hl;have hlx:xs.length=vs.length:=r.length;refine call_function_entry_kw kind_sorted plain_sorted entry_sorted (ksk_s1 _ _) ?_
 unfold Builtin.«sorted»;refine Ab (m:=checkCount "sorted" 1 1 _) (Af ?_);refine Ab (collect_list pl.isList ?_ (by first |lia | (rw[Au];lia) | (simp;lia)));refine Ab (wpAny_newList ?_ (by first |lia | (rw[Au];lia) | (simp;lia)));have hsz:((s.heap.push (BL "list" #[] 0)).update s.heap.objs.size (AT (·++vs.toArray))).objs.size=s.heap.objs.size+1:=by rw[Heap.size_update,size_push']
 have hoL:(((s.heap.push (BL "list" #[] 0)).update s.heap.objs.size (AT (·++vs.toArray))).push (BL "list" vs.toArray 0)).get? (s.heap.objs.size+1)=some (BL "list" vs.toArray 0):=by rw[<- hsz];exact AF _ rfl
 have keep:∀b o,s.heap.get? b=some o->(((s.heap.push (BL "list" #[] 0)).update s.heap.objs.size (AT (·++vs.toArray))).push (BL "list" vs.toArray 0)).get? b=some o:=λb o q=>by have hlt:b<s.heap.objs.size:=AA q;rw[Heap.get?_push_ne _ _ _ (by rw[hsz];exact A4 (Nat.lt_succ_of_lt hlt)),Heap.get?_update_ne _ _ _ _ (A4 hlt),Heap.get?_push_ne _ _ _ (A4 hlt)];exact q
 show At _ _ _ _ _ { s with heap:=((s.heap.push (BL "list" #[] 0)).update s.heap.objs.size (AT (·++vs.toArray))).push (BL "list" vs.toArray 0) };rw[hsz];refine Ab (Bo (wpAny_call_entry_kw slot_list_sort ⟨_,hoL,rfl⟩ entry_list_sort ?body (ksk_l1 _ _)))
 case body =>
  show At (Ay X.prog X.w) X.A.in1.in1 (Builtin.«list.sort» ⟨[.ref (s.heap.objs.size+1)],[(BD "key",.ref f)]⟩) _ _ _;rw[ksk_t1];have I1:Inv X pins σ H0 { s with heap:=((s.heap.push (BL "list" #[] 0)).update s.heap.objs.size (AT (·++vs.toArray))).push (BL "list" vs.toArray 0) }:=I.kept (t':=s.toks) keep;have hDn:H0 (s.heap.objs.size+1)=none:=I.hok.fresh (C4 _);refine zlG F I1 (I.fpOk (C4 _) hDn) hoL r hz λe H' s' ks st hks hS K=>?_
  refine zmw K hks r hz hG (λh2=>by rw[<- hlx];exact h0 (by lia)) (core r K hks) λp s2 g hp I2=>⟨_,rfl,?_⟩
  refine Af ⟨_,rfl,.ref (s.heap.objs.size+1),_,I2,rfl,hQ p _ _ g hp hDn (λb o q=>?_) zaa⟩;rw[zai (zak q hDn)];exact hS b o q
end
section
variable {X:Cx}{x:Str}{p pos kp kpos:Pos}{e:Expr}{te:TE}{k:Nat}{f:Addr}{fd:BM}{ps:List Str}{sp:Sp}{fn:Str}
noncomputable def tMinK(K:W.Frag)(te:TE)(sp:Sp):TE:=λσ H Q=>te σ H λv H1=>∃l xs,∃ κ:Nat->List Int,[v]=[V.ref l]/\SqL K H1 l xs/\0<xs.length /\
 (∀i x H2,xs[i]?=some x->Same H1 H2->sp [x] H2 (λv H'=>Same H2 H'/\∃a,v=.ref a/\SqT K H' a ((κ i).map V.int)) E0)/\∀i x H',xs[i]?=some x->Least κ xs.length i->Same H1 H'->Q x H'
theorem zlP (F:FnOk X.prog X.w X.K X.mg X.base CX0 k f fd ps sp) (hr:Room (k + 1) X.A) (hb:Binds X.K fd ps []) (hg:Gl X "min") (hm:X.mg "min" = none) (hgf:Gl X fn) (hmf:X.mg fn=some (.ref f)) (he:PE X e te)
  (hdb:(fn == ("__debug__" : Str))=false:=by decide) (hse:Bx [e] X.env=[(false,eval e X.env)]:=by rfl) (hh:X.calm=true:=by rfl)
  (hall:(DK pos (CC [⟨some "key",.Name fn kp,kpos⟩] X.env)).all (·.1.isSome)=true:=by rfl) (hkw:(DK pos (CC [⟨some "key",.Name fn kp,kpos⟩] X.env)).any (·.1.isNone)=false:=by rfl)
  (hks:(DK pos (CC [⟨some "key",.Name fn kp,kpos⟩] X.env)).filterMap (·.1)=[BD "key"]:=by rfl) :
  PE X (.Call (.Name "min" p) [e] [⟨some "key",.Name fn kp,kpos⟩] pos) (tMinK X.K te sp):=by
 intro pins s σ H Q I h;refine C6 (zeZ I hg hm boot_min ?_ (by decide) (by decide))
 refine callWith_kw (thn (zah he zab (hs:=hse) pos pins s σ H (λvs H1=>∃l xs,∃ κ:Nat->List Int,vs=[V.ref l]/\SqL X.K H1 l xs/\0<xs.length /\
  (∀i x H2,xs[i]?=some x->Same H1 H2->sp [x] H2 (λv H'=>Same H2 H'/\∃a,v=.ref a/\SqT X.K H' a ((κ i).map V.int)) E0)/\∀i x H',xs[i]?=some x->Least κ xs.length i->Same H1 H'->Q x H') I ?_) λus s1 ⟨vs,H1,I1,r,q⟩=>?_) (by rw[hse];rfl) (by rw[hse];rfl) hall hkw
 .show te σ H _;exact h
 .obtain⟨l,xs,κ,rfl,hq,hne,turn,hQ⟩:=q;obtain⟨u,rfl,ru⟩:=Vals.one r
  cases (show u=Aw l from ru)
  refine thn (zjj (nm:=some "key") (kpos:=kpos) (zd5 (v:=.ref f) hgf hmf rfl hdb) zlj pos pins s1 σ H1 (λzs H2=>zs=[.ref f]/\H2=H1) I1 ⟨rfl,rfl⟩) λws s2 ⟨zs,H2,I2,rz,q2⟩=>?_
  obtain⟨rfl,rfl⟩:=q2;obtain⟨u2,rfl,ru2⟩:=Vals.one rz
  cases (show u2=Aw f from ru2)
  rw[hks];exact zj2 (I1.ok.hd hh) F hr hb turn hq hne hQ I2
end
end L2
namespace TS
open PySem PyProof.Rows
noncomputable def zcp:Bool->Keyed->Array Keyed->Nat->Nat->Nat->StateT AG Sem (Option Nat):=sortPriv% PySem.Builtin.gallop
noncomputable def zfB:Array Keyed->Array Keyed->StateT AG Sem (Array Keyed):=sortPriv% PySem.Builtin.mergeLo
noncomputable def zfC:Array Keyed->Array Keyed->StateT AG Sem (Array Keyed):=sortPriv% PySem.Builtin.mergeHi
structure LtOk (M:Model) (A:A3) (E:Ac->Ae->Prop) (s:Ae) (kd:CI) (S:Keyed->Prop) (L:Keyed->Keyed->Bool):Prop where
 lt:∀x y,S x->S y->∀(st:AG) (Q:Option Bool->AG->Prop),kindOf st=kd->Q (some (L x y)) st->wpS M A E s (lt' x y) Q st
 tr:∀x y z,S x->S y->S z->L y x=false->L z y=false->L z x=false
 as:∀x y,S x->S y->L x y=true->L y x=false
section
variable {M:Model}{A:A3}{E:Ac->Ae->Prop}{s:Ae}{kd:CI}{S:Keyed->Prop}{L:Keyed->Keyed->Bool}
theorem zat{arr:Array Keyed}{i:Nat}{x:Keyed}{st:AG}{Q:Keyed->AG->Prop}(h:arr[i]?=some x)(q:Q x st):wpS M A E s (elem' arr i) Q st:=by rw[elem'_eq,h];exact Ar q
theorem zbv (O : LtOk M A E s kd S L){left : Bool}{key : Keyed}{arr : Array Keyed}{base n hint : Nat}{b : Nat → Bool}{Q : Option Nat → AG → Prop}{st : AG}(hk : kindOf st = kd) (hS : S key)
    (hb:∀ i,i<n→∃ x,arr[base+i]?=some x∧S x∧(if left=true then L x key else !L key x)=b i) (mono:∀ i j,i≤j→j<n→b j=true→b i=true) (hh:hint<n)
    (hQ:∀ k,k≤n→(∀ i,i<k→b i=true)→(∀ i,k≤i→i<n→b i=false)→Q (some k) st):wpS M A E s (zcp left key arr base n hint) Q st:=by
  have bey : ∀ i, i < n → ∀ (Q' : Option Bool → AG → Prop), Q' (some (b i)) st → wpS M A E s ((λi => do
        let x ← elem' arr (base+i)
        if left=true then lt' x key
          else do
            let r ← lt' key x
            pure (Option.map (λx=>!x) r)) i) Q' st:=λi hi Q' q=>by
    obtain⟨x,e,sx,eb⟩:=hb i hi
    refine Ai (zat e ?_)
    cases left with
    | true =>
      rw[if_pos rfl] at eb ⊢
      exact O.lt x key sx hS st Q' hk (by rw[eb];exact q)
    | false =>
      rw[if_neg (by simp)] at eb ⊢
      refine Ai (O.lt key x hS sx st _ hk (Ar ?_))
      show Q' (some (!L key x)) st
      rw[eb];exact q
  refine Ai (bey hint hh _ ?_)
  dsimp only
  cases hbh:b hint with
  | true =>
    rw[if_pos rfl]
    refine Ai (Cg (Bs (I:=λx c st'=>st'=st∧∃ la of,c=(none,la,of)∧la<n - hint∧la<of∧x+1≤of∧b (hint+la)=true)
      (Q:=λc st'=>st'=st∧∃ la of,c=(none,la,of)∧la<n - hint∧la<of∧b (hint+la)=true∧(of<n - hint→b (hint+of)=false)) ?_ ?_ ⟨rfl,0,1,rfl,by lia,by lia,by lia,hbh⟩) ?_)
    . rintro x c st' _ hx ⟨rfl,la,of,rfl,g1,g2,g3,g4⟩
      dsimp only
      by_cases hge:of ≥ n - hint
      . rw[if_pos hge]
        exact Ar ⟨rfl,la,of,rfl,g1,g2,g4,λz=>absurd z (by lia)⟩
      . rw[if_neg hge]
        refine Ai (bey (hint+of) (by lia) _ ?_)
        dsimp only
        cases hbo:b (hint+of) with
        | true =>
          rw[if_neg (by simp)]
          exact Ar ⟨rfl,of,2*of+1,rfl,by lia,by lia,by lia,hbo⟩
        | false =>
          rw[if_pos (by simp)]
          exact Ar ⟨rfl,la,of,rfl,g1,g2,g4,λ_=>hbo⟩
    . rintro c st' ⟨rfl,la,of,rfl,g1,g2,g3,g4⟩
      exact⟨rfl,la,of,rfl,g1,g2,g4,λz=>absurd z (by simp at g3;lia)⟩
    . rintro c st' ⟨rfl,la,of,rfl,g1,g2,g3,g4⟩
      dsimp only
      have hlo:∀ i,i<hint+la+1→b i=true:=λi hi=>mono i (hint+la) (by lia) (by lia) g3
      have hhi:∀ i,hint+min of (n - hint)≤i→i<n→b i=false:=λi h1 h2=>by
        by_cases ho:of<n - hint
        . cases q:b i with
          | false=>rfl
          | true =>
            have:=mono (hint+of) i (by lia) h2 q
            rw[g4 ho] at this;cases this
        . exact absurd h2 (by lia)
      refine Ai (Cg (Bs (I:=λx c z=>z=st'∧∃ lo hi,c=(none,lo,hi)∧lo≤hi∧hi≤n∧(hi - lo)+x≤n∧(∀ i,i<lo→b i=true)∧∀ i,hi≤i→i<n→b i=false)
        (Q:=λc z=>z=st'∧∃ k,c=(none,k,k)∧k≤n∧(∀ i,i<k→b i=true)∧∀ i,k≤i→i<n→b i=false) ?_ ?_ ⟨rfl,hint+la+1,hint+min of (n - hint),rfl,by lia,by lia,by lia,hlo,hhi⟩) ?_)
      . rintro x c st'' _ hx ⟨rfl,lo,hi,rfl,g1,g2,g3,g4,g5⟩
        dsimp only
        by_cases hge:lo ≥ hi
        . rw[if_pos hge]
          have e:lo=hi:=by lia
          subst e
          exact Ar ⟨rfl,lo,rfl,g2,g4,g5⟩
        . rw[if_neg hge]
          have hm:lo+(hi - lo) / 2<n:=by lia
          refine Ai (bey _ hm _ ?_)
          dsimp only
          cases hbm:b (lo+(hi - lo) / 2) with
          | true =>
            rw[if_pos rfl]
            refine Ar ⟨rfl,_,_,rfl,by lia,g2,by lia,λi hi'=>?_,g5⟩
            exact mono i _ (by lia) hm hbm
          | false =>
            rw[if_neg (by simp)]
            refine Ar ⟨rfl,_,_,rfl,by lia,by lia,by lia,g4,λi hi1 hi2=>?_⟩
            cases q:b i with
            | false=>rfl
            | true=>rw[mono _ i hi1 hi2 q] at hbm;cases hbm
      . rintro c st'' ⟨rfl,lo,hi,rfl,g1,g2,g3,g4,g5⟩
        have e:lo=hi:=by simp at g3;lia
        subst e
        exact⟨rfl,lo,rfl,g2,g4,g5⟩
      . rintro c st'' ⟨rfl,k,rfl,g1,g2,g3⟩
        exact Ar (hQ k g1 g2 g3)
  | false =>
    rw[if_neg (by simp)]
    refine Ai (Cg (Bs (I:=λx c st'=>st'=st∧∃ la of,c=(none,la,of)∧la<hint+1∧la<of∧x+1≤of∧b (hint - la)=false)
      (Q:=λc st'=>st'=st∧∃ la of,c=(none,la,of)∧la<hint+1∧la<of∧b (hint - la)=false∧(of<hint+1→b (hint - of)=true)) ?_ ?_ ⟨rfl,0,1,rfl,by lia,by lia,by lia,hbh⟩) ?_)
    . rintro x c st' _ hx ⟨rfl,la,of,rfl,g1,g2,g3,g4⟩
      dsimp only
      by_cases hge:of ≥ hint+1
      . rw[if_pos hge]
        exact Ar ⟨rfl,la,of,rfl,g1,g2,g4,λz=>absurd z (by lia)⟩
      . rw[if_neg hge]
        refine Ai (bey (hint - of) (by lia) _ ?_)
        dsimp only
        cases hbo:b (hint - of) with
        | true =>
          rw[if_pos rfl]
          exact Ar ⟨rfl,la,of,rfl,g1,g2,g4,λ_=>hbo⟩
        | false =>
          rw[if_neg (by simp)]
          exact Ar ⟨rfl,of,2*of+1,rfl,by lia,by lia,by lia,hbo⟩
    . rintro c st' ⟨rfl,la,of,rfl,g1,g2,g3,g4⟩
      exact⟨rfl,la,of,rfl,g1,g2,g4,λz=>absurd z (by simp at g3;lia)⟩
    . rintro c st' ⟨rfl,la,of,rfl,g1,g2,g3,g4⟩
      dsimp only
      have hlo:∀ i,i<hint+1 - min of (hint+1)→b i=true:=λi hi=>by
        by_cases ho:of<hint+1
        . exact mono i (hint - of) (by lia) (by lia) (g4 ho)
        . exact absurd hi (by lia)
      have hhi:∀ i,hint - la≤i→i<n→b i=false:=λi h1 h2=>by
        cases q:b i with
        | false=>rfl
        | true =>
          have:=mono (hint - la) i (by lia) h2 q
          rw[g3] at this;cases this
      refine Ai (Cg (Bs (I:=λx c z=>z=st'∧∃ lo hi,c=(none,lo,hi)∧lo≤hi∧hi≤n∧(hi - lo)+x≤n∧(∀ i,i<lo→b i=true)∧∀ i,hi≤i→i<n→b i=false)
        (Q:=λc z=>z=st'∧∃ k,c=(none,k,k)∧k≤n∧(∀ i,i<k→b i=true)∧∀ i,k≤i→i<n→b i=false) ?_ ?_ ⟨rfl,hint+1 - min of (hint+1),hint - la,rfl,by lia,by lia,by lia,hlo,hhi⟩) ?_)
      . rintro x c st'' _ hx ⟨rfl,lo,hi,rfl,g1,g2,g3,g4,g5⟩
        dsimp only
        by_cases hge:lo ≥ hi
        . rw[if_pos hge]
          have e:lo=hi:=by lia
          subst e
          exact Ar ⟨rfl,lo,rfl,g2,g4,g5⟩
        . rw[if_neg hge]
          have hm:lo+(hi - lo) / 2<n:=by lia
          refine Ai (bey _ hm _ ?_)
          dsimp only
          cases hbm:b (lo+(hi - lo) / 2) with
          | true =>
            rw[if_pos rfl]
            refine Ar ⟨rfl,_,_,rfl,by lia,g2,by lia,λi hi'=>?_,g5⟩
            exact mono i _ (by lia) hm hbm
          | false =>
            rw[if_neg (by simp)]
            refine Ar ⟨rfl,_,_,rfl,by lia,by lia,by lia,g4,λi hi1 hi2=>?_⟩
            cases q:b i with
            | false=>rfl
            | true=>rw[mono _ i hi1 hi2 q] at hbm;cases hbm
      . rintro c st'' ⟨rfl,lo,hi,rfl,g1,g2,g3,g4,g5⟩
        have e:lo=hi:=by simp at g3;lia
        subst e
        exact⟨rfl,lo,rfl,g2,g4,g5⟩
      . rintro c st'' ⟨rfl,k,rfl,g1,g2,g3⟩
        exact Ar (hQ k g1 g2 g3)
end
end TS
namespace TS
section
variable {α:Type}{le:α->α->Prop}
structure MI (le:α->α->Prop) (a b out:List α) (ia ib:Nat):Prop where
 ha:ia<=a.length
 hb:ib<=b.length
 perm:(out++a.drop ia++b.drop ib).Perm (a++b)
 sorted:out.Pairwise le
 lea:∀x∈out,∀y∈a.drop ia,le x y
 leb:∀x∈out,∀y∈b.drop ib,le x y
theorem zcS(a:List α)(i k:Nat):a.drop i=(a.drop i).take k++a.drop (i+k):=by rw[<- List.drop_drop,CK]
theorem MI.takeA{a b out:List α}{ia ib:Nat}(m:MI le a b out ia ib)(sa:a.Pairwise le)(k:Nat)(hk:ia + k <= a.length)(h:∀x ∈ (a.drop ia).take k, ∀y ∈ b.drop ib, le x y) :
  MI le a b (out++(a.drop ia).take k) (ia+k) ib:=by
 have e:=zcS a ia k;have sd:((a.drop ia).take k++a.drop (ia+k)).Pairwise le:=by rw[<- e];exact sa.sublist (Cp _ _)
 obtain⟨s1,s2,s3⟩:=AU.mp sd;refine⟨hk,m.hb,?_,AU.mpr ⟨m.sorted,s1,λx hx y hy=>m.lea x hx y ?_⟩,λx hx y hy=>?_,λx hx y hy=>?_⟩
 .have:=m.perm;rw[e]at this;simpa[AL]using this
 .rw[e];exact BH _ hy
 .rcases AH.mp hx with q |q
  .exact m.lea x q y (by rw[e];exact As _ hy)
  .exact s3 x q y hy
 .rcases AH.mp hx with q |q
  .exact m.leb x q y hy
  .exact h x q y hy
theorem MI.takeB{a b out:List α}{ia ib:Nat}(m:MI le a b out ia ib)(sb:b.Pairwise le)(k:Nat)(hk:ib + k <= b.length)(h:∀x ∈ (b.drop ib).take k, ∀y ∈ a.drop ia, le x y) :
  MI le a b (out++(b.drop ib).take k) ia (ib+k):=by
 have e:=zcS b ib k;have sd:((b.drop ib).take k++b.drop (ib+k)).Pairwise le:=by rw[<- e];exact sb.sublist (Cp _ _)
 obtain⟨s1,s2,s3⟩:=AU.mp sd;refine⟨m.ha,hk,?_,AU.mpr ⟨m.sorted,s1,λx hx y hy=>m.leb x hx y ?_⟩,λx hx y hy=>?_,λx hx y hy=>?_⟩
 .have:=m.perm;rw[e]at this;refine List.Perm.trans ?_ this;rw[AL,AL,AL,<- AL ((b.drop ib).take k),<- AL (a.drop ia)];exact List.Perm.append_left _ (List.Perm.append_right _ CL)
 .rw[e];exact BH _ hy
 .rcases AH.mp hx with q |q
  .exact m.lea x q y hy
  .exact h x q y hy
 .rcases AH.mp hx with q |q
  .exact m.leb x q y (by rw[e];exact As _ hy)
  .exact s3 x q y hy
noncomputable def Res(le:α->α->Prop)(a b r:List α):Prop:=r.Perm (a++b)/\r.Pairwise le
theorem MI.done{a b out:List α}{ia ib:Nat}(m:MI le a b out ia ib)(sa:a.Pairwise le)(h:b.length<=ib):Res le a b (out++a.drop ia++b.drop ib):=by refine⟨m.perm,?_⟩;rw[List.drop_of_length_le h,Bf];exact AU.mpr ⟨m.sorted,sa.sublist (Cp _ _),m.lea⟩
theorem MI.lastA{a b out:List α}{ia ib:Nat}(m:MI le a b out ia ib)(sa:a.Pairwise le)(sb:b.Pairwise le)(h:∀x∈b.drop ib,∀y∈a.drop ia,le x y):Res le a b (out++b.drop ib++a.drop ia):=by
 refine⟨?_,?_⟩
 .refine List.Perm.trans ?_ m.perm;rw[AL,AL];exact List.Perm.append_left _ CL
 .refine AU.mpr ⟨AU.mpr ⟨m.sorted,sb.sublist (Cp _ _),m.leb⟩,sa.sublist (Cp _ _),λx hx y hy=>?_⟩;rcases AH.mp hx with q |q
  .exact m.lea x q y hy
  .exact h x q y hy
theorem MI.start{a b:List α}{y:α}(sb:b.Pairwise le)(h0:b[0]?=some y)(h:∀x∈a,le y x):MI le a b [y] 0 1:=by
 cases b with
 |nil=>cases h0
 |cons z r =>
  cases h0
  obtain⟨s1,s2⟩:=Db.mp sb;refine⟨A9 _,by simp,?_,by simp,λx hx w hw=>?_,λx hx w hw=>?_⟩
  .show ([y]++a++r).Perm (a++y::r);exact List.perm_middle.symm
  .rw[Ah.mp hx];exact h w hw
  .rw[Ah.mp hx];exact s1 w hw
end
end TS
namespace TS
open PySem PyProof.Rows
noncomputable def Like(st st':AG):Prop:=kindOf st'=kindOf st/\Av st'=Av st/\AO st'=AO st/\Cm st'=Cm st
theorem Like.refl(st:AG):Like st st:=⟨rfl,rfl,rfl,rfl⟩
noncomputable abbrev leOf(L:Keyed->Keyed->Bool):Keyed->Keyed->Prop:=λx y=>L y x=false
section
variable {M:Model}{A:A3}{E:Ac->Ae->Prop}{s:Ae}{kd:CI}{S:Keyed->Prop}{L:Keyed->Keyed->Bool}
theorem LtOk.rf(O:LtOk M A E s kd S L){x:Keyed}(h:S x):L x x=false:=by
 cases q:L x x with
 |false=>rfl
 |true=>rw[O.as x x h h q]at q;cases q
structure Two (S:Keyed->Prop) (L:Keyed->Keyed->Bool) (a b:Array Keyed):Prop where
 sa:a.toList.Pairwise (leOf L)
 sb:b.toList.Pairwise (leOf L)
 Sa:∀x∈a.toList,S x
 Sb:∀x∈b.toList,S x
theorem zao{a:Array Keyed}{i:Nat}{x:Keyed}(h:a[i]?=some x):x∈a.toList:=by
 have:a.toList[i]?=some x:=by simpa using h
 exact Aj this
theorem zb8{a:Array Keyed}{i:Nat}{x:Keyed}(h:a[i]?=some x):a.toList.drop i=x::a.toList.drop (i+1):=by
 have hl:i<a.toList.length:=by have:=(Bl.mp h).1;simpa using this
 rw[List.drop_eq_getElem_cons hl]
 congr 1
 have:=(Bl.mp h).2;simpa using this
theorem zcE{a:Array Keyed}(O:LtOk M A E s kd S L)(sa:a.toList.Pairwise (leOf L))(Sa:∀x∈a.toList,S x){i:Nat}{x y:Keyed}(h:a[i]?=some x)(hy:y∈a.toList.drop i):leOf L x y:=by
 rw[zb8 h]at hy;rcases AM.mp hy with e |q
 .rw[e];exact O.rf (Sa x (zao h))
 .have:=sa.sublist (Cp i _);rw[zb8 h]at this;exact (Db.mp this).1 y q
variable {a b:Array Keyed}{out:Array Keyed}{ia ib:Nat}
theorem one_B(O:LtOk M A E s kd S L)(T:Two S L a b)(m:MI (leOf L) a.toList b.toList out.toList ia ib){x y:Keyed}(hb:b[ib]? = some x)(ha:a[ia]? = some y)(h:L x y=true) :
  MI (leOf L) a.toList b.toList (out.push x).toList ia (ib+1):=by
 have e:(b.toList.drop ib).take 1=[x]:=by rw[zb8 hb];rfl
 have hl:ib+1<=b.toList.length:=by have:=(Bl.mp hb).1;rw[AB];exact this
 have:=m.takeB T.sb 1 hl λz hz w hw=>by rw[e]at hz;rw[Ah.mp hz];have h1:leOf L x y:=O.as x y (T.Sb x (zao hb)) (T.Sa y (zao ha)) h;exact O.tr x y w (T.Sb x (zao hb)) (T.Sa y (zao ha)) (T.Sa w (Bz hw)) h1 (zcE O T.sa T.Sa ha hw)
 rw[e]at this;rw[CT];exact this
theorem one_A(O:LtOk M A E s kd S L)(T:Two S L a b)(m:MI (leOf L) a.toList b.toList out.toList ia ib){x y:Keyed}(hb:b[ib]? = some x)(ha:a[ia]? = some y)(h:L x y=false) :
  MI (leOf L) a.toList b.toList (out.push y).toList (ia+1) ib:=by
 have e:(a.toList.drop ia).take 1=[y]:=by rw[zb8 ha];rfl
 have hl:ia+1<=a.toList.length:=by have:=(Bl.mp ha).1;rw[AB];exact this
 have:=m.takeA T.sa 1 hl λz hz w hw=>by rw[e]at hz;rw[Ah.mp hz];exact O.tr y x w (T.Sa y (zao ha)) (T.Sb x (zao hb)) (T.Sb w (Bz hw)) h (zcE O T.sb T.Sb hb hw)
 rw[e]at this;rw[CT];exact this
theorem zcK(a:Array Keyed)(i k:Nat):(a.extract i (i+k)).toList=(a.toList.drop i).take k:=by rw[CU,Ce,Nat.add_sub_cancel_left]
theorem zfD{a:Array Keyed}{i k:Nat}{x:Keyed}(h:x∈(a.toList.drop i).take k):∃j,j<k/\a[i+j]?=some x:=by
 obtain⟨j,hj,e⟩:=Az h
 have hk:j<k:=by have:=hj;rw[AQ]at this;lia
 refine⟨j,hk,?_⟩;have h1:((a.toList.drop i).take k)[j]?=some x:=by rw[Aa hj,e]
 rw[List.getElem?_take_of_lt hk,DW]at h1;simpa using h1
theorem blk_A(O:LtOk M A E s kd S L)(T:Two S L a b)(m:MI (leOf L) a.toList b.toList out.toList ia ib){x:Keyed}(hb:b[ib]? = some x)(k:Nat)(hk:ia + k <= a.size)(h:∀j y, j < k -> a[ia + j]? = some y -> L x y=false) :
  MI (leOf L) a.toList b.toList (out++a.extract ia (ia+k)).toList (ia+k) ib:=by
 rw[Bd,zcK];refine m.takeA T.sa k (by rw[AB];exact hk) λz hz w hw=>?_
 obtain⟨j,hj,e⟩:=zfD hz;exact O.tr z x w (T.Sa z (zao e)) (T.Sb x (zao hb)) (T.Sb w (Bz hw)) (h j z hj e) (zcE O T.sb T.Sb hb hw)
theorem blk_B(O:LtOk M A E s kd S L)(T:Two S L a b)(m:MI (leOf L) a.toList b.toList out.toList ia ib){y:Keyed}(ha:a[ia]? = some y)(k:Nat)(hk:ib + k <= b.size)(h:∀j x, j < k -> b[ib + j]? = some x -> L x y=true) :
  MI (leOf L) a.toList b.toList (out++b.extract ib (ib+k)).toList ia (ib+k):=by
 rw[Bd,zcK];refine m.takeB T.sb k (by rw[AB];exact hk) λz hz w hw=>?_
 obtain⟨j,hj,e⟩:=zfD hz;exact O.tr z y w (T.Sb z (zao e)) (T.Sa y (zao ha)) (T.Sa w (Bz hw)) (O.as z y (T.Sb z (zao e)) (T.Sa y (zao ha)) (h j z hj e)) (zcE O T.sa T.Sa ha hw)
theorem zmy(O:LtOk M A E s kd S L)(T:Two S L a b){st:AG}(hk:kindOf st=kd){x:Keyed}(Sx:S x)(hi:ia < a.size){Q:Option Nat -> AG -> Prop}
  (hQ:∀k,ia+k<=a.size->(∀j y,j<k->a[ia+j]?=some y->L x y=false)->(∀j y,k<=j->a[ia+j]?=some y->L x y=true)->Q (some k) st) {hint:Nat} (hh:hint<a.size-ia) :
  wpS M A E s (zcp false x a ia (a.size-ia) hint) Q st:=by
 have at_:∀i,i<a.size-ia->∃y,a[ia+i]?=some y:=λi h=>⟨a[ia+i],by simp[show ia+i<a.size by lia]⟩
 refine zbv (b:=λi=>!(a[ia+i]?.elim false λy=>L x y)) O hk Sx (λi h=>?_) (λi j hij hj q=>?_) hh λk h1 h2 h3=>?_
 .obtain⟨y,e⟩:=at_ i h;exact⟨y,e,T.Sa y (zao e),by rw[if_neg (by simp),e];rfl⟩
 .obtain⟨y,e⟩:=at_ j hj;obtain⟨z,e2⟩:=at_ i (by lia);rw[e]at q;rw[e2];have q1:L x y=false:=by simpa using q
  have le1:leOf L z y:=zcE O T.sa T.Sa e2 (by
   have:y∈(a.toList.drop (ia+i)).drop (j-i):=by rw[List.drop_drop,show ia+i+(j-i)=ia+j by lia,zb8 e];exact An
   exact Bz this)
  have:L x z=false:=O.tr z y x (T.Sa z (zao e2)) (T.Sa y (zao e)) Sx le1 q1;simpa using this
 .refine hQ k (by lia) (λj y hj e=>?_) (λj y hj e=>?_)
  .have:=h2 j hj;rw[e]at this;simpa using this
  .have hlt:j < a.size-ia := by have:=(Bl.mp e).1;lia
   have:=h3 j hj hlt;rw[e]at this;simpa using this
theorem zmx(O:LtOk M A E s kd S L)(T:Two S L a b){st:AG}(hk:kindOf st=kd){y:Keyed}(Sy:S y)(hi:ib < b.size){Q:Option Nat -> AG -> Prop}
  (hQ:∀k,ib+k<=b.size->(∀j x,j<k->b[ib+j]?=some x->L x y=true)->(∀j x,k<=j->b[ib+j]?=some x->L x y=false)->Q (some k) st) {hint:Nat} (hh:hint<b.size-ib) :
  wpS M A E s (zcp true y b ib (b.size-ib) hint) Q st:=by
 have at_:∀i,i<b.size-ib->∃x,b[ib+i]?=some x:=λi h=>⟨b[ib+i],by simp[show ib+i<b.size by lia]⟩
 refine zbv (b:=λi=>b[ib+i]?.elim false λx=>L x y) O hk Sy (λi h=>?_) (λi j hij hj q=>?_) hh λk h1 h2 h3=>?_
 .obtain⟨x,e⟩:=at_ i h;exact⟨x,e,T.Sb x (zao e),by rw[if_pos rfl,e];rfl⟩
 .obtain⟨x,e⟩:=at_ j hj;obtain⟨z,e2⟩:=at_ i (by lia);rw[e]at q;rw[e2];have q1:L x y=true:=q;show L z y=true
  have le1:leOf L z x:=zcE O T.sb T.Sb e2 (by
   have:x∈(b.toList.drop (ib+i)).drop (j-i):=by rw[List.drop_drop,show ib+i+(j-i)=ib+j by lia,zb8 e];exact An
   exact Bz this)
  cases w:L z y with
  |true=>rfl
  |false =>
   have:L x y=false:=O.tr y z x Sy (T.Sb z (zao e2)) (T.Sb x (zao e)) w le1;rw[this]at q1;cases q1
 .refine hQ k (by lia) (λj x hj e=>?_) (λj x hj e=>?_)
  .have:=h2 j hj;rw[e]at this;exact this
  .have hlt:j < b.size-ib := by have:=(Bl.mp e).1;lia
   have:=h3 j hj hlt;rw[e]at this;exact this
end
end TS
set_option maxHeartbeats 8000000
namespace TS
open PySem PyProof.Rows
section
variable {M:Model}{A:A3}{E:Ac->Ae->Prop}{s:Ae}{kd:CI}{S:Keyed->Prop}{L:Keyed->Keyed->Bool}{a b out:Array Keyed}{ia ib:Nat}
theorem zbu(a:Array Keyed)(i:Nat):(a.extract i a.size).toList=a.toList.drop i:=by rw[CU,Ce,Dc (by simp)]
theorem zdO(T:Two S L a b)(m:MI (leOf L) a.toList b.toList out.toList ia ib)(h:b.size<=ib):Res (leOf L) a.toList b.toList (out++a.extract ia a.size++b.extract ib b.size).toList:=by rw[Bd,Bd,zbu,zbu];exact m.done T.sa (by rw[AB];exact h)
theorem zjO(T:Two S L a b)(m:MI (leOf L) a.toList b.toList out.toList ia ib)(h:a.size<=ia):Res (leOf L) a.toList b.toList (out++a.extract ia a.size++b.extract ib b.size).toList:=by rw[Bd,Bd,zbu,zbu];have e:a.toList.drop ia=[]:=List.drop_of_length_le (by rw[AB];exact h);refine⟨m.perm,?_⟩;rw[e,Bf];exact AU.mpr ⟨m.sorted,T.sb.sublist (Cp _ _),m.leb⟩
theorem zdN(T:Two S L a b)(hl:∀z,a[a.size-1]?=some z->∀x∈b.toList,leOf L x z)(m:MI (leOf L) a.toList b.toList out.toList ia ib)(h:ia+1=a.size):Res (leOf L) a.toList b.toList (out++b.extract ib b.size++a.extract ia a.size).toList:=by
 rw[Bd,Bd,zbu,zbu];have hlt:ia<a.size:=by lia
 have e:a[ia]?=some a[ia]:=by simp[hlt]
 refine m.lastA T.sa T.sb λx hx y hy=>?_
 rw[zb8 e,List.drop_of_length_le (by rw[AB];lia)]at hy;rw[Ah.mp hy];exact hl _ (by rw[show a.size-1=ia by lia];exact e) x (Bz hx)
theorem Like.tr{x y z:AG}(h:Like x y)(k:Like y z):Like x z:=⟨k.1.trans h.1,k.2.1.trans h.2.1,k.2.2.1.trans h.2.2.1,k.2.2.2.trans h.2.2.2⟩
noncomputable def zeV:Nat->StateT AG Sem Unit:=sortPriv% PySem.Builtin.setMinGallop
noncomputable abbrev LH:=Option (Array Keyed)×Array Keyed×Nat×Nat×Nat×Nat×Nat
noncomputable def loC(a b out:Array Keyed)(ia ib mg ac bc:Nat):StateT AG Sem (ForInStep LH) :=
 elem' a ia >>= λx =>
  if (ia+1+1 == a.size)=true then pure (.done (some (out.push x++b.extract ib b.size++a.extract (ia+1) a.size),out.push x,ia+1,ib,mg,ac,bc))
  else if (decide (ac<7) && decide (bc<7))=true then pure (.done (none,out.push x,ia+1,ib,mg,ac,bc))
  else pure (.yield (none,out.push x,ia+1,ib,mg,ac,bc))
noncomputable def loB(a b out:Array Keyed)(ia ib mg ac bc:Nat):StateT AG Sem (ForInStep LH) :=
 elem' b ib >>= λx =>
  if (ib+1 == b.size)=true then pure (.done (some (out.push x++a.extract ia a.size++b.extract (ib+1) b.size),out.push x,ia,ib+1,mg,ac,bc))
  else elem' a ia >>= λy=>zcp true y b (ib+1) (b.size-(ib+1)) 0 >>= λw =>
   match w with
   |some k =>
    if k > 0 then
     if (ib+1+k == b.size)=true then pure (.done (some (out.push x++b.extract (ib+1) (ib+1+k)++a.extract ia a.size++b.extract (ib+1+k) b.size),out.push x++b.extract (ib+1) (ib+1+k),ia,ib+1+k,mg,ac,k))
     else loC a b (out.push x++b.extract (ib+1) (ib+1+k)) ia (ib+1+k) mg ac k
    else loC a b (out.push x) ia (ib+1) mg ac k
   |_=>pure (.done (some (out.push x++a.extract ia a.size++b.extract (ib+1) b.size),out.push x,ia,ib+1,mg,ac,bc))
noncomputable def loA(a b out:Array Keyed)(ia ib mg ac bc:Nat):StateT AG Sem (ForInStep LH) :=
 elem' b ib >>= λx=>zcp false x a ia (a.size-ia) 0 >>= λw =>
  match w with
  |some k =>
   if k > 0 then
    if (ia+k+1 == a.size)=true then pure (.done (some (out++a.extract ia (ia+k)++b.extract ib b.size++a.extract (ia+k) a.size),out++a.extract ia (ia+k),ia+k,ib,mg,k,bc))
    else if (ia+k == a.size)=true then pure (.done (some (out++a.extract ia (ia+k)++a.extract (ia+k) a.size++b.extract ib b.size),out++a.extract ia (ia+k),ia+k,ib,mg,k,bc))
    else loB a b (out++a.extract ia (ia+k)) (ia+k) ib mg k bc
   else loB a b out ia ib mg k bc
  |_=>pure (.done (some (out++a.extract ia a.size++b.extract ib b.size),out,ia,ib,mg,ac,bc))
noncomputable def loG(a b:Array Keyed)(c:LH):StateT AG Sem (ForInStep LH) :=
 if c.2.2.2.2.1 > 1 then zeV (c.2.2.2.2.1-1) >>= λ_=>loA a b c.2.1 c.2.2.1 c.2.2.2.1 (c.2.2.2.2.1-1) c.2.2.2.2.2.1 c.2.2.2.2.2.2
 else zeV c.2.2.2.2.1 >>= λ_=>loA a b c.2.1 c.2.2.1 c.2.2.2.1 c.2.2.2.2.1 c.2.2.2.2.2.1 c.2.2.2.2.2.2
noncomputable abbrev LI:=Option (Array Keyed)×Array Keyed×Nat×Nat×Nat×Nat
noncomputable def loI(a b:Array Keyed)(mg:Nat)(c:LI):StateT AG Sem (ForInStep LI) :=
 elem' b c.2.2.2.1 >>= λx=>elem' a c.2.2.1 >>= λy=>lt' x y >>= λw =>
  match w with
  |some v =>
   if v=true then elem' b c.2.2.2.1 >>= λx =>
    if (c.2.2.2.1+1 == b.size)=true then pure (.done (some (c.2.1.push x++a.extract c.2.2.1 a.size++b.extract (c.2.2.2.1+1) b.size),c.2.1.push x,c.2.2.1,c.2.2.2.1+1,0,c.2.2.2.2.2+1))
    else if c.2.2.2.2.2+1 ≥ mg then pure (.done (none,c.2.1.push x,c.2.2.1,c.2.2.2.1+1,0,c.2.2.2.2.2+1))
    else pure (.yield (none,c.2.1.push x,c.2.2.1,c.2.2.2.1+1,0,c.2.2.2.2.2+1))
   else elem' a c.2.2.1 >>= λy =>
    if (c.2.2.1+1+1 == a.size)=true then pure (.done (some (c.2.1.push y++b.extract c.2.2.2.1 b.size++a.extract (c.2.2.1+1) a.size),c.2.1.push y,c.2.2.1+1,c.2.2.2.1,c.2.2.2.2.1+1,0))
    else if c.2.2.2.2.1+1 ≥ mg then pure (.done (none,c.2.1.push y,c.2.2.1+1,c.2.2.2.1,c.2.2.2.2.1+1,0))
    else pure (.yield (none,c.2.1.push y,c.2.2.1+1,c.2.2.2.1,c.2.2.2.2.1+1,0))
  |_=>pure (.done (some (c.2.1++a.extract c.2.2.1 a.size++b.extract c.2.2.2.1 b.size),c.2.1,c.2.2.1,c.2.2.2.1,c.2.2.2.2.1,c.2.2.2.2.2))
noncomputable abbrev LO:=Option (Array Keyed)×Array Keyed×Nat×Nat×Nat
noncomputable def loP(a b:Array Keyed)(mg:Nat)(c:LI):StateT AG Sem (ForInStep LO) :=
 CJ (λ_=>StateT AG Sem (ForInStep LO)) c.1 (λr=>pure (.done (some r,c.2.1,c.2.2.1,c.2.2.2.1,mg))) λ_=>(liftM (rule "list.sort.gallop"):StateT AG Sem Unit) >>= λ_=>forIn [:a.size+b.size] ((none,c.2.1,c.2.2.1,c.2.2.2.1,mg+1,c.2.2.2.2.1,c.2.2.2.2.2):LH) (λ_ c=>loG a b c) >>= λc =>
  CJ (λ_=>StateT AG Sem (ForInStep LO)) c.1 (λr=>pure (.done (some r,c.2.1,c.2.2.1,c.2.2.2.1,c.2.2.2.2.1))) λ_=>zeV (c.2.2.2.2.1+1) >>= λ_=>pure (.yield (none,c.2.1,c.2.2.1,c.2.2.2.1,c.2.2.2.2.1+1))
noncomputable def loO(a b:Array Keyed)(c:LO):StateT AG Sem (ForInStep LO) :=
 forIn [:a.size+b.size] ((none,c.2.1,c.2.2.1,c.2.2.2.1,0,0):LI) (λ_ d=>loI a b c.2.2.2.2 d) >>= λd=>loP a b c.2.2.2.2 d
noncomputable def zkD(a b:Array Keyed):StateT AG Sem (Array Keyed) :=
 (liftM (rule "list.sort.merge-lo"):StateT AG Sem Unit) >>= λ_=>elem' b 0 >>= λx =>
  if (1 == b.size)=true then pure (#[x]++a.extract 0 a.size++b.extract 1 b.size)
  else if (0+1 == a.size)=true then pure (#[x]++b.extract 1 b.size++a.extract 0 a.size)
  else get >>= λs=>forIn [:a.size+b.size] ((none,#[x],0,1,gallopOf s):LO) (λ_ c=>loO a b c) >>= λc =>
   CJ (λ_=>StateT AG Sem (Array Keyed)) c.1 (λr=>pure r) λ_=>unsupported "internal:list.sort.merge-bound"
theorem ziB(a b:Array Keyed):zfB a b=zkD a b:=rfl
variable {Q:ForInStep LH->AG->Prop}{z:AG}{N mg ac bc:Nat}{x y:Keyed}
theorem zhT(O:LtOk M A E s kd S L)(T:Two S L a b)(hl:∀z, a[a.size-1]? = some z -> ∀x ∈ b.toList, leOf L x z)(hD:∀r out ia ib mg ac bc, Res (leOf L) a.toList b.toList r.toList -> Q (.done (some r, out, ia, ib, mg, ac, bc)) z)
  (hN:∀out ia ib mg ac bc,MI (leOf L) a.toList b.toList out.toList ia ib->ia+1<a.size->ib<b.size->N<=ia+ib->Q (.done (none,out,ia,ib,mg,ac,bc)) z/\Q (.yield (none,out,ia,ib,mg,ac,bc)) z)
  (m:MI (leOf L) a.toList b.toList out.toList ia ib) (ea:a[ia]?=some y) (eb:b[ib]?=some x) (hw:L x y=false) (g1:ia+1<a.size) (g2:ib<b.size) (g3:N<=ia+ib) :
  wpS M A E s (loC a b out ia ib mg ac bc) Q z:=by
 have n4:=one_A O T m eb ea hw;refine Ai (zat ea ?_)
 by_cases e:ia+1+1=a.size
 .rw[if_pos (by simp[e])];exact Ar (hD _ _ _ _ _ _ _ (zdN T hl n4 (by lia)))
 rw[if_neg (by simp[e])];have h:=hN _ _ _ mg ac bc n4 (by lia) g2 (by lia);split
 .exact Ar h.1
 .exact Ar h.2
theorem zhU(O:LtOk M A E s kd S L)(T:Two S L a b)(hk:kindOf z=kd)(hl:∀z, a[a.size-1]? = some z -> ∀x ∈ b.toList, leOf L x z)(hD:∀r out ia ib mg ac bc, Res (leOf L) a.toList b.toList r.toList -> Q (.done (some r, out, ia, ib, mg, ac, bc)) z)
  (hN:∀out ia ib mg ac bc,MI (leOf L) a.toList b.toList out.toList ia ib->ia+1<a.size->ib<b.size->N<=ia+ib->Q (.done (none,out,ia,ib,mg,ac,bc)) z/\Q (.yield (none,out,ia,ib,mg,ac,bc)) z)
  (m:MI (leOf L) a.toList b.toList out.toList ia ib) (ea:a[ia]?=some y) (eb:b[ib]?=some x) (hw:L x y=true) (g1:ia+1<a.size) (g2:ib<b.size) (g3:N<=ia+ib) :
  wpS M A E s (loB a b out ia ib mg ac bc) Q z:=by
 have n2:=one_B O T m eb ea hw;refine Ai (zat eb ?_)
 by_cases e3:ib+1=b.size
 .rw[if_pos (by simp[e3])];exact Ar (hD _ _ _ _ _ _ _ (zdO T n2 (by lia)))
 rw[if_neg (by simp[e3])];refine Ai (zat ea ?_);refine Ai (zmx O T hk (T.Sa _ (zao ea)) (by lia) (λk r1 r2 r3=>?_) (by lia));dsimp only
 by_cases hk1:k > 0
 .rw[if_pos hk1];have n3:=blk_B O T n2 ea k r1 r2
  by_cases e4:ib+1+k=b.size
  .rw[if_pos (by simp[e4])];exact Ar (hD _ _ _ _ _ _ _ (zdO T n3 (by lia)))
  rw[if_neg (by simp[e4])];have hb:ib+1+k<b.size:=by lia
  exact zhT O T hl hD hN n3 ea (by simp[hb]) (r3 k b[ib+1+k] (Am _) (by simp[hb])) g1 hb (by lia)
 rw[if_neg hk1];have hb:ib+1<b.size:=by lia
 have kz:k=0:=by lia
 subst kz;exact zhT O T hl hD hN n2 ea (by simp[hb]) (r3 0 b[ib+1] (Am _) (by simp[hb])) g1 hb (by lia)
theorem zkJ(O:LtOk M A E s kd S L)(T:Two S L a b)(hk:kindOf z=kd)(hl:∀z, a[a.size-1]? = some z -> ∀x ∈ b.toList, leOf L x z)(hD:∀r out ia ib mg ac bc, Res (leOf L) a.toList b.toList r.toList -> Q (.done (some r, out, ia, ib, mg, ac, bc)) z)
  (hN:∀out ia ib mg ac bc,MI (leOf L) a.toList b.toList out.toList ia ib->ia+1<a.size->ib<b.size->N<=ia+ib->Q (.done (none,out,ia,ib,mg,ac,bc)) z/\Q (.yield (none,out,ia,ib,mg,ac,bc)) z)
  (m:MI (leOf L) a.toList b.toList out.toList ia ib) (g1:ia+1<a.size) (g2:ib<b.size) (g3:N<=ia+ib) :
  wpS M A E s (loA a b out ia ib mg ac bc) Q z:=by
 have eb:b[ib]?=some b[ib]:=by simp[g2]
 refine Ai (zat eb ?_);refine Ai (zmy O T hk (T.Sb _ (zao eb)) (by lia) (λk q1 q2 q3=>?_) (by lia));dsimp only
 by_cases hk0:k > 0
 .rw[if_pos hk0];have n1:=blk_A O T m eb k q1 q2
  by_cases e1:ia+k+1=a.size
  .rw[if_pos (by simp[e1])];exact Ar (hD _ _ _ _ _ _ _ (zdN T hl n1 e1))
  rw[if_neg (by simp[e1])]
  by_cases e2:ia+k=a.size
  .rw[if_pos (by simp[e2])];exact Ar (hD _ _ _ _ _ _ _ (zjO T n1 (by lia)))
  rw[if_neg (by simp[e2])];have ha:ia+k<a.size:=by lia
  exact zhU O T hk hl hD hN n1 (by simp[ha]) eb (q3 k a[ia+k] (Am _) (by simp[ha])) (by lia) g2 (by lia)
 rw[if_neg hk0];have ha:ia<a.size:=by lia
 have kz:k=0:=by lia
 subst kz;exact zhU O T hk hl hD hN m (by simp[ha]) eb (q3 0 a[ia] (Am _) (by simp[ha])) g1 g2 g3
theorem zkH{Q:ForInStep LI -> AG -> Prop}(O:LtOk M A E s kd S L)(T:Two S L a b)(hk:kindOf z=kd)(hl:∀z, a[a.size-1]? = some z -> ∀x ∈ b.toList, leOf L x z)(m:MI (leOf L) a.toList b.toList out.toList ia ib)(g1:ia + 1 < a.size)(g2:ib < b.size)
  (hD:∀r out ia ib ac bc,Res (leOf L) a.toList b.toList r.toList->Q (.done (some r,out,ia,ib,ac,bc)) z)
  (hN:∀out ia' ib' ac bc,MI (leOf L) a.toList b.toList out.toList ia' ib'->ia'+1<a.size->ib'<b.size->ia+ib+1<=ia'+ib'->Q (.done (none,out,ia',ib',ac,bc)) z/\Q (.yield (none,out,ia',ib',ac,bc)) z) :
  wpS M A E s (loI a b mg (none,out,ia,ib,ac,bc)) Q z:=by
 obtain⟨xb,eb⟩:∃x,b[ib]?=some x:=⟨b[ib]'(by lia),by simp[g2]⟩;obtain⟨xa,ea⟩:∃x,a[ia]?=some x:=⟨a[ia]'(by lia),by simp[show ia<a.size by lia]⟩;refine Ai (zat eb (Ai (zat ea (Ai (O.lt xb xa (T.Sb _ (zao eb)) (T.Sa _ (zao ea)) _ _ hk ?_)))));dsimp only
 cases hw:L xb xa with
 |true =>
  rw[if_pos rfl];have m2:=one_B O T m eb ea hw;refine Ai (zat eb ?_)
  by_cases e:ib+1=b.size
  .rw[if_pos (by simp[e])];exact Ar (hD _ _ _ _ _ _ (zdO T m2 (by lia)))
  rw[if_neg (by simp[e])];have h:=hN _ _ _ 0 (bc+1) m2 g1 (by lia) (by lia);split
  .exact Ar h.1
  .exact Ar h.2
 |false =>
  rw[if_neg (by simp)];have m2:=one_A O T m eb ea hw;refine Ai (zat ea ?_)
  by_cases e:ia+1+1=a.size
  .rw[if_pos (by simp[e])];exact Ar (hD _ _ _ _ _ _ (zdN T hl m2 (by lia)))
  rw[if_neg (by simp[e])];have h:=hN _ _ _ (ac+1) 0 m2 (by lia) g2 (by lia);split
  .exact Ar h.1
  .exact Ar h.2
theorem zkI(O:LtOk M A E s kd S L)(T:Two S L a b)(hk:kindOf z=kd)(hl:∀z, a[a.size-1]? = some z -> ∀x ∈ b.toList, leOf L x z)(hD:∀z', Like z z' -> ∀r out ia ib mg ac bc, Res (leOf L) a.toList b.toList r.toList -> Q (.done (some r, out, ia, ib, mg, ac, bc)) z')
  (hN:∀z',Like z z'->∀out ia ib mg ac bc,MI (leOf L) a.toList b.toList out.toList ia ib->ia+1<a.size->ib<b.size->N<=ia+ib->Q (.done (none,out,ia,ib,mg,ac,bc)) z'/\Q (.yield (none,out,ia,ib,mg,ac,bc)) z')
  (m:MI (leOf L) a.toList b.toList out.toList ia ib) (g1:ia+1<a.size) (g2:ib<b.size) (g3:N<=ia+ib) :
  wpS M A E s (loG a b (none,out,ia,ib,mg,ac,bc)) Q z:=by
 have key:∀z',Like z z'->∀mg,wpS M A E s (loA a b out ia ib mg ac bc) Q z':=λz' h mg=>zkJ O T (h.1.trans hk) hl (hD z' h) (hN z' h) m g1 g2 g3
 unfold loG;split
 .exact Ai (BP (key _ (by exact Like.refl z) _))
 .exact Ai (BP (key _ (by exact Like.refl z) _))
theorem zkF{Q:ForInStep LO -> AG -> Prop}(O:LtOk M A E s kd S L)(T:Two S L a b)(hk:kindOf z=kd)(hl:∀z, a[a.size-1]? = some z -> ∀x ∈ b.toList, leOf L x z)(m:MI (leOf L) a.toList b.toList out.toList ia ib)(g1:ia + 1 < a.size)(g2:ib < b.size)(g3:N <= ia + ib)
  (hD:∀z',Like z z'->∀r out ia ib mg,Res (leOf L) a.toList b.toList r.toList->Q (.done (some r,out,ia,ib,mg)) z')
  (hN:∀z',Like z z'->∀out ia ib mg,MI (leOf L) a.toList b.toList out.toList ia ib->ia+1<a.size->ib<b.size->N<=ia+ib->Q (.yield (none,out,ia,ib,mg)) z') :
  wpS M A E s (loP a b mg (none,out,ia,ib,ac,bc)) Q z:=by
 refine Ai (wpS_lift (CH ⟨rfl,?_⟩))
 refine Ai (Cg (Bs (I:=λy c w=>Like z w/\∃out ia ib mg ac bc,c=(none,out,ia,ib,mg,ac,bc)/\MI (leOf L) a.toList b.toList out.toList ia ib/\ia+1<a.size/\ib<b.size/\N<=ia+ib)
  (Q:=λc w=>Like z w/\((∃r,c.1=some r/\Res (leOf L) a.toList b.toList r.toList)∨∃out ia ib mg ac bc,c=(none,out,ia,ib,mg,ac,bc)/\MI (leOf L) a.toList b.toList out.toList ia ib/\ia+1<a.size/\ib<b.size/\N<=ia+ib)) ?_ ?_ ⟨Like.refl _,_,_,_,_,_,_,rfl,m,g1,g2,g3⟩) ?_)
 .rintro y c w _ hy ⟨lk,out,ia,ib,mg,ac,bc,rfl,m,k1,k2,k3⟩;exact zkI O T (lk.1.trans hk) hl (λw' h r _ _ _ _ _ _ e=>⟨Like.tr lk h,.inl ⟨r,rfl,e⟩⟩) (λw' h _ _ _ _ _ _ e u1 u2 u3=>⟨⟨Like.tr lk h,.inr ⟨_,_,_,_,_,_,rfl,e,u1,u2,u3⟩⟩,Like.tr lk h,_,_,_,_,_,_,rfl,e,u1,u2,u3⟩) m k1 k2 k3
 .rintro c w ⟨lk,r⟩;exact⟨lk,.inr r⟩
 .rintro c w ⟨lk,hc⟩;rcases hc with⟨r,e,res⟩ |⟨out,ia,ib,mg,ac,bc,rfl,m,k1,k2,k3⟩
  .rw[e];exact Ar (hD w lk _ _ _ _ _ res)
  .exact Ai (BP (Ar (hN _ (by exact lk) _ _ _ _ m k1 k2 k3)))
theorem zkG{Q:ForInStep LO -> AG -> Prop}(O:LtOk M A E s kd S L)(T:Two S L a b)(hk:kindOf z=kd)(hl:∀z, a[a.size-1]? = some z -> ∀x ∈ b.toList, leOf L x z)(m:MI (leOf L) a.toList b.toList out.toList ia ib)(g1:ia + 1 < a.size)(g2:ib < b.size)
  (hD:∀z',Like z z'->∀r out ia ib mg,Res (leOf L) a.toList b.toList r.toList->Q (.done (some r,out,ia,ib,mg)) z')
  (hN:∀z',Like z z'->∀out ia' ib' mg,MI (leOf L) a.toList b.toList out.toList ia' ib'->ia'+1<a.size->ib'<b.size->ia+ib+1<=ia'+ib'->Q (.yield (none,out,ia',ib',mg)) z') :
  wpS M A E s (loO a b (none,out,ia,ib,mg)) Q z:=by
 refine Ai (Cg (Bs (I:=λy c w=>w=z/\∃out ia' ib' ac bc,c=(none,out,ia',ib',ac,bc)/\MI (leOf L) a.toList b.toList out.toList ia' ib'/\ia'+1<a.size/\ib'<b.size/\ia+ib+y<=ia'+ib')
  (Q:=λc w=>w=z/\((∃r,c.1=some r/\Res (leOf L) a.toList b.toList r.toList)∨∃out ia' ib' ac bc,c=(none,out,ia',ib',ac,bc)/\MI (leOf L) a.toList b.toList out.toList ia' ib'/\ia'+1<a.size/\ib'<b.size/\ia+ib+1<=ia'+ib')) ?_ ?_ ⟨rfl,_,_,_,_,_,rfl,m,g1,g2,by lia⟩) ?_)
 .rintro y c w _ hy ⟨rfl,out',ia',ib',ac,bc,rfl,m',j1,j2,j3⟩;exact zkH O T hk hl m' j1 j2 (λr _ _ _ _ _ e=>⟨rfl,.inl ⟨r,rfl,e⟩⟩) λ_ _ _ _ _ e u1 u2 u3=>⟨⟨rfl,.inr ⟨_,_,_,_,_,rfl,e,u1,u2,by lia⟩⟩,rfl,_,_,_,_,_,rfl,e,u1,u2,by lia⟩
 .rintro c w ⟨rfl,out',ia',ib',ac,bc,rfl,m',j1,j2,j3⟩;exact⟨rfl,.inr ⟨out',ia',ib',ac,bc,rfl,m',j1,j2,by lia⟩⟩
 .rintro c w ⟨rfl,hc⟩;rcases hc with⟨r,e,res⟩ |⟨out',ia',ib',ac,bc,rfl,m',j1,j2,j3⟩
  .unfold loP;rw[e];exact Ar (hD _ (Like.refl _) _ _ _ _ _ res)
  .exact zkF (N:=ia'+ib') O T hk hl m' j1 j2 (Am _) hD λz' h _ _ _ _ e u1 u2 u3=>hN z' h _ _ _ _ e u1 u2 (by lia)
end
section
variable {M:Model}{A:A3}{E:Ac->Ae->Prop}{s:Ae}{kd:CI}{S:Keyed->Prop}{L:Keyed->Keyed->Bool}{a b:Array Keyed}
theorem zgt(O:LtOk M A E s kd S L)(T:Two S L a b){st:AG}{Q:Array Keyed -> AG -> Prop}(hk:kindOf st=kd)(ha : 0 < a.size)(hb : 0 < b.size)(h0:∀y, b[0]? = some y -> ∀x ∈ a.toList, leOf L y x)
  (hl:∀z,a[a.size-1]?=some z->∀x∈b.toList,leOf L x z) (hQ:∀r st',Res (leOf L) a.toList b.toList r.toList->Like st st'->Q r st'):wpS M A E s (zfB a b) Q st:=by
 rw[ziB];have atA:∀i,i<a.size->∃x,a[i]?=some x:=λi h=>⟨a[i],by simp[h]⟩
 have atB:∀i,i<b.size->∃x,b[i]?=some x:=λi h=>⟨b[i],by simp[h]⟩
 obtain⟨b0,e0⟩:=atB 0 hb;have m0:MI (leOf L) a.toList b.toList (#[b0]:Array Keyed).toList 0 1:=MI.start T.sb (by simpa using e0) (h0 b0 e0);refine Ai (wpS_lift (CH ⟨rfl,?_⟩));refine Ai (zat e0 ?_)
 by_cases hb1:b.size=1
 .rw[if_pos (by simp[hb1])];exact Ar (hQ _ _ (zdO T m0 (by lia)) (Like.refl _))
 rw[if_neg (by simp;lia)]
 by_cases ha1:a.size=1
 .rw[if_pos (by simp[ha1])];exact Ar (hQ _ _ (zdN T hl m0 (by lia)) (Like.refl _))
 rw[if_neg (by simp;lia)];refine Ai (DS ?_)
 refine Ai (Cg (Bs (I:=λx c st'=>Like st st'/\∃out ia ib mg,c=(none,out,ia,ib,mg)/\MI (leOf L) a.toList b.toList out.toList ia ib/\ia+1<a.size/\ib<b.size/\x+1<=ia+ib)
  (Q:=λc st'=>Like st st'/\∃r,c.1=some r/\Res (leOf L) a.toList b.toList r.toList) ?step ?fin ⟨Like.refl _,_,_,_,_,rfl,m0,by lia,by lia,by lia⟩) ?post)
 case fin =>
  rintro c st' ⟨_,out,ia,ib,mg,rfl,m,g1,g2,g3⟩;exact absurd g3 (by lia)
 case post =>
  rintro c st' ⟨lk,r,e,res⟩;rw[e];exact Ar (hQ r st' res lk)
 case step =>
  rintro x c st' _ hx ⟨lk,out,ia,ib,mg,rfl,m,g1,g2,g3⟩;exact zkG O T (lk.1.trans hk) hl m g1 g2 (λz' h r _ _ _ _ e=>⟨Like.tr lk h,r,rfl,e⟩) λz' h _ _ _ _ e u1 u2 u3=>⟨Like.tr lk h,_,_,_,_,rfl,e,u1,u2,by lia⟩
end
end TS
set_option maxHeartbeats 8000000
namespace TS
open PySem PyProof.Rows
section
variable {α:Type}{le:α->α->Prop}
structure MJ (le:α->α->Prop) (a b r:List α) (na nb:Nat):Prop where
 ha:na<=a.length
 hb:nb<=b.length
 perm:(a.take na++b.take nb++r).Perm (a++b)
 sorted:r.Pairwise le
 lea:∀x∈a.take na,∀y∈r,le x y
 leb:∀x∈b.take nb,∀y∈r,le x y
theorem zeN(a:List α)(i n:Nat)(h:i<=n):a.take n=a.take i++(a.drop i).take (n-i):=by rw[<- List.take_add,show i+(n-i)=n by lia]
theorem MJ.takeA{a b r:List α}{na nb:Nat}(m:MJ le a b r na nb)(sa:a.Pairwise le)(i:Nat)(hi:i <= na)(h:∀x ∈ b.take nb, ∀y ∈ (a.drop i).take (na-i), le x y) :
  MJ le a b ((a.drop i).take (na-i)++r) i nb:=by
 have e:=zeN a i na hi;have sd:(a.take i++(a.drop i).take (na-i)).Pairwise le:=by rw[<- e];exact sa.sublist (B8 _ _)
 obtain⟨s1,s2,s3⟩:=AU.mp sd;refine⟨AW hi m.ha,m.hb,?_,AU.mpr ⟨s2,m.sorted,λx hx y hy=>m.lea x (by rw[e];exact As _ hx) y hy⟩,λx hx y hy=>?_,λx hx y hy=>?_⟩
 .have:=m.perm;rw[e]at this;refine List.Perm.trans ?_ this;rw[AL,AL,AL,<- AL (b.take nb),<- AL ((a.drop i).take (na-i))];exact List.Perm.append_left _ (List.Perm.append_right _ CL)
 .rcases AH.mp hy with q |q
  .exact s3 x hx y q
  .exact m.lea x (by rw[e];exact BH _ hx) y q
 .rcases AH.mp hy with q |q
  .exact h x hx y q
  .exact m.leb x hx y q
theorem MJ.takeB{a b r:List α}{na nb:Nat}(m:MJ le a b r na nb)(sb:b.Pairwise le)(i:Nat)(hi:i <= nb)(h:∀x ∈ a.take na, ∀y ∈ (b.drop i).take (nb-i), le x y) :
  MJ le a b ((b.drop i).take (nb-i)++r) na i:=by
 have e:=zeN b i nb hi;have sd:(b.take i++(b.drop i).take (nb-i)).Pairwise le:=by rw[<- e];exact sb.sublist (B8 _ _)
 obtain⟨s1,s2,s3⟩:=AU.mp sd;refine⟨m.ha,AW hi m.hb,?_,AU.mpr ⟨s2,m.sorted,λx hx y hy=>m.leb x (by rw[e];exact As _ hx) y hy⟩,λx hx y hy=>?_,λx hx y hy=>?_⟩
 .have:=m.perm;rw[e]at this;simpa[AL]using this
 .rcases AH.mp hy with q |q
  .exact h x hx y q
  .exact m.lea x hx y q
 .rcases AH.mp hy with q |q
  .exact s3 x hx y q
  .exact m.leb x (by rw[e];exact BH _ hx) y q
theorem MJ.doneB{a b r:List α}{nb:Nat}(m:MJ le a b r 0 nb)(sb:b.Pairwise le):Res le a b (a.take 0++b.take nb++r) :=
 ⟨m.perm,by rw[Dz,List.nil_append];exact AU.mpr ⟨sb.sublist (B8 _ _),m.sorted,m.leb⟩⟩
theorem MJ.doneA{a b r:List α}{na:Nat}(m:MJ le a b r na 0)(sa:a.Pairwise le):Res le a b (a.take na++b.take 0++r) :=
 ⟨m.perm,by rw[Dz,Bf];exact AU.mpr ⟨sa.sublist (B8 _ _),m.sorted,m.lea⟩⟩
theorem MJ.firstB{a b r:List α}{na nb:Nat}(m:MJ le a b r na nb)(sa:a.Pairwise le)(sb:b.Pairwise le)(h:∀x∈b.take nb,∀y∈a.take na,le x y):Res le a b (b.take nb++a.take na++r):=by
 refine⟨List.Perm.trans (List.Perm.append_right _ CL) m.perm,?_⟩;refine AU.mpr ⟨AU.mpr ⟨sb.sublist (B8 _ _),sa.sublist (B8 _ _),h⟩,m.sorted,λx hx y hy=>?_⟩;rcases AH.mp hx with q |q
 .exact m.leb x q y hy
 .exact m.lea x q y hy
end
end TS
set_option maxHeartbeats 8000000
namespace TS
open PySem PyProof.Rows
section
variable {M:Model}{A:A3}{E:Ac->Ae->Prop}{s:Ae}{kd:CI}{S:Keyed->Prop}{L:Keyed->Keyed->Bool}{a b out:Array Keyed}{na nb:Nat}
theorem zfH{a:Array Keyed}(O:LtOk M A E s kd S L)(sa:a.toList.Pairwise (leOf L))(Sa:∀x∈a.toList,S x){i:Nat}{x y:Keyed}(h:a[i]?=some x)(hy:y∈a.toList.take (i+1)):leOf L y x:=by
 have hi:i<a.toList.length:=by have:=(Bl.mp h).1;rw[AB];exact this
 have e:a.toList.take (i+1)=a.toList.take i++[x]:=by
  rw[DB];have:a.toList[i]?=some x:=by simpa using h
  rw[this];rfl
 rw[e]at hy;rcases AH.mp hy with q |q
 .have:=sa.sublist (B8 (i+1) _);rw[e]at this;exact (AU.mp this).2.2 y q x An
 .rw[Ah.mp q];exact O.rf (Sa x (zao h))
theorem zel{a:Array Keyed}{i:Nat}{x:Keyed}(h:a[i]?=some x):(a.toList.drop i).take (i+1-i)=[x]:=by rw[zb8 h,show i+1-i=1 by lia];rfl
theorem zmP(O:LtOk M A E s kd S L)(T:Two S L a b)(m:MJ (leOf L) a.toList b.toList out.reverse.toList (na + 1) (nb + 1)){x y:Keyed}(hb:b[nb]? = some x)(ha:a[na]? = some y)(h:L x y=true) :
  MJ (leOf L) a.toList b.toList (out.push y).reverse.toList na (nb+1):=by
 have:=m.takeA T.sa na (C4 _) λz hz w hw=>by rw[zel ha]at hw;rw[Ah.mp hw];exact O.tr z x y (T.Sb z (B7 hz)) (T.Sb x (zao hb)) (T.Sa y (zao ha)) (zfH O T.sb T.Sb hb hz) (O.as x y (T.Sb x (zao hb)) (T.Sa y (zao ha)) h)
 rw[zel ha]at this;simpa using this
theorem zmO(O:LtOk M A E s kd S L)(T:Two S L a b)(m:MJ (leOf L) a.toList b.toList out.reverse.toList (na + 1) (nb + 1)){x y:Keyed}(hb:b[nb]? = some x)(ha:a[na]? = some y)(h:L x y=false) :
  MJ (leOf L) a.toList b.toList (out.push x).reverse.toList (na+1) nb:=by
 have:=m.takeB T.sb nb (C4 _) λz hz w hw=>by rw[zel hb]at hw;rw[Ah.mp hw];exact O.tr z y x (T.Sa z (B7 hz)) (T.Sa y (zao ha)) (T.Sb x (zao hb)) (zfH O T.sa T.Sa ha hz) h
 rw[zel hb]at this;simpa using this
theorem zm2(O:LtOk M A E s kd S L)(T:Two S L a b)(m:MJ (leOf L) a.toList b.toList out.reverse.toList na (nb + 1)){x:Keyed}(hb:b[nb]? = some x)(i:Nat)(hi:i <= na)(h:∀j y, i <= j -> j < na -> a[j]? = some y -> L x y=true) :
  MJ (leOf L) a.toList b.toList (out++(a.extract i na).reverse).reverse.toList i (nb+1):=by
 have:=m.takeA T.sa i hi λz hz w hw=>by obtain⟨j,hj,e⟩:=zfD hw;exact O.tr z x w (T.Sb z (B7 hz)) (T.Sb x (zao hb)) (T.Sa w (zao e)) (zfH O T.sb T.Sb hb hz) (O.as x w (T.Sb x (zao hb)) (T.Sa w (zao e)) (h (i+j) w (by lia) (by lia) e))
 have e2:(out++(a.extract i na).reverse).reverse.toList=(a.toList.drop i).take (na-i)++out.reverse.toList:=by simp[CU,Ce]
 rw[e2];exact this
theorem zm1(O:LtOk M A E s kd S L)(T:Two S L a b)(m:MJ (leOf L) a.toList b.toList out.reverse.toList (na + 1) nb){y:Keyed}(ha:a[na]? = some y)(i:Nat)(hi:i <= nb)(h:∀j x, i <= j -> j < nb -> b[j]? = some x -> L x y=false) :
  MJ (leOf L) a.toList b.toList (out++(b.extract i nb).reverse).reverse.toList (na+1) i:=by
 have:=m.takeB T.sb i hi λz hz w hw=>by obtain⟨j,hj,e⟩:=zfD hw;exact O.tr z y w (T.Sa z (B7 hz)) (T.Sa y (zao ha)) (T.Sb w (zao e)) (zfH O T.sa T.Sa ha hz) (h (i+j) w (by lia) (by lia) e)
 have e2:(out++(b.extract i nb).reverse).reverse.toList=(b.toList.drop i).take (nb-i)++out.reverse.toList:=by simp[CU,Ce]
 rw[e2];exact this
end
end TS
set_option maxHeartbeats 8000000
namespace TS
open PySem PyProof.Rows
section
variable {M:Model}{A:A3}{E:Ac->Ae->Prop}{s:Ae}{kd:CI}{S:Keyed->Prop}{L:Keyed->Keyed->Bool}{a b out:Array Keyed}{na nb:Nat}
theorem zmA(O:LtOk M A E s kd S L)(T:Two S L a b){st:AG}(hk:kindOf st=kd){x:Keyed}(Sx:S x){n:Nat}(hn:n <= a.size){Q:Option Nat -> AG -> Prop}
  (hQ:∀k,k<=n->(∀j y,j<k->a[j]?=some y->L x y=false)->(∀j y,k<=j->j<n->a[j]?=some y->L x y=true)->Q (some k) st) {hint:Nat} (hh:hint<n) :
  wpS M A E s (zcp false x a 0 n hint) Q st:=by
 have at_:∀i,i<n->∃y,a[0+i]?=some y:=λi h=>⟨a[0+i]'(by lia),by simp[show i<a.size by lia]⟩
 refine zbv (b:=λi=>!(a[0+i]?.elim false λy=>L x y)) O hk Sx (λi h=>?_) (λi j hij hj q=>?_) hh λk h1 h2 h3=>?_
 .obtain⟨y,e⟩:=at_ i h;exact⟨y,e,T.Sa y (zao e),by rw[if_neg (by simp),e];rfl⟩
 .obtain⟨y,e⟩:=at_ j hj;obtain⟨z,e2⟩:=at_ i (by lia);rw[e]at q;rw[e2];have q1:L x y=false:=by simpa using q
  have le1:leOf L z y:=zcE O T.sa T.Sa e2 (by
   have:y∈(a.toList.drop (0+i)).drop (j-i):=by rw[List.drop_drop,show 0+i+(j-i)=0+j by lia,zb8 e];exact An
   exact Bz this)
  have:L x z=false:=O.tr z y x (T.Sa z (zao e2)) (T.Sa y (zao e)) Sx le1 q1;simpa using this
 .refine hQ k h1 (λj y hj e=>?_) (λj y hj hjn e=>?_)
  .have:=h2 j hj;rw[Cy,e]at this;simpa using this
  .have:=h3 j hj hjn;rw[Cy,e]at this;simpa using this
theorem zmz(O:LtOk M A E s kd S L)(T:Two S L a b){st:AG}(hk:kindOf st=kd){y:Keyed}(Sy:S y){n:Nat}(hn:n <= b.size){Q:Option Nat -> AG -> Prop}
  (hQ:∀k,k<=n->(∀j x,j<k->b[j]?=some x->L x y=true)->(∀j x,k<=j->j<n->b[j]?=some x->L x y=false)->Q (some k) st) {hint:Nat} (hh:hint<n) :
  wpS M A E s (zcp true y b 0 n hint) Q st:=by
 have at_:∀i,i<n->∃x,b[0+i]?=some x:=λi h=>⟨b[0+i]'(by lia),by simp[show i<b.size by lia]⟩
 refine zbv (b:=λi=>b[0+i]?.elim false λx=>L x y) O hk Sy (λi h=>?_) (λi j hij hj q=>?_) hh λk h1 h2 h3=>?_
 .obtain⟨x,e⟩:=at_ i h;exact⟨x,e,T.Sb x (zao e),by rw[if_pos rfl,e];rfl⟩
 .obtain⟨x,e⟩:=at_ j hj;obtain⟨z,e2⟩:=at_ i (by lia);rw[e]at q;rw[e2];have q1:L x y=true:=q;show L z y=true
  have le1:leOf L z x:=zcE O T.sb T.Sb e2 (by
   have:x∈(b.toList.drop (0+i)).drop (j-i):=by rw[List.drop_drop,show 0+i+(j-i)=0+j by lia,zb8 e];exact An
   exact Bz this)
  cases w:L z y with
  |true=>rfl
  |false =>
   have:L x y=false:=O.tr y z x Sy (T.Sb z (zao e2)) (T.Sb x (zao e)) w le1;rw[this]at q1;cases q1
 .refine hQ k h1 (λj x hj e=>?_) (λj x hj hjn e=>?_)
  .have:=h2 j hj;rw[Cy,e]at this;exact this
  .have:=h3 j hj hjn;rw[Cy,e]at this;exact this
theorem zbt(a:Array Keyed)(i:Nat):(a.extract 0 i).toList=a.toList.take i:=by rw[CU,Ce,List.drop_zero,Nat.sub_zero]
theorem end_A(T:Two S L a b)(m:MJ (leOf L) a.toList b.toList out.reverse.toList 0 nb):Res (leOf L) a.toList b.toList (a.extract 0 0++b.extract 0 nb++out.reverse).toList:=by rw[Bd,Bd,zbt,zbt];exact m.doneB T.sb
theorem zmX(T:Two S L a b)(m:MJ (leOf L) a.toList b.toList out.reverse.toList na 0):Res (leOf L) a.toList b.toList (a.extract 0 na++b.extract 0 0++out.reverse).toList:=by rw[Bd,Bd,zbt,zbt];exact m.doneA T.sa
theorem end_B (T:Two S L a b) (h0:∀ y,b[0]?=some y→∀ x∈a.toList,leOf L y x) (m:MJ (leOf L) a.toList b.toList out.reverse.toList na 1):Res (leOf L) a.toList b.toList (b.extract 0 1++a.extract 0 na++out.reverse).toList:=by
  rw[Bd,Bd,zbt,zbt]
  refine m.firstB T.sa T.sb λx hx y hy=>?_
  cases hb:b.toList with
  | nil=>rw[hb] at hx;cases hx
  | cons z r =>
    rw[hb] at hx
    have e:x=z:=Ah.mp hx
    subst e
    exact h0 x (by have : b.toList[0]? = some x := by rw[hb]; rfl
                   simpa using this) y (B7 hy)
end
end TS
set_option maxHeartbeats 8000000
namespace TS
open PySem PyProof.Rows
section
variable {M:Model}{A:A3}{E:Ac->Ae->Prop}{s:Ae}{kd:CI}{S:Keyed->Prop}{L:Keyed->Keyed->Bool}{a b out:Array Keyed}{na nb:Nat}
theorem lastA(O:LtOk M A E s kd S L)(T:Two S L a b)(h1:0<na)(h2:0<nb)(m:MJ (leOf L) a.toList b.toList out.reverse.toList na nb){x y:Keyed}(hb:b[nb-1]?=some x)(ha:a[na-1]?=some y)(h:L x y=true):MJ (leOf L) a.toList b.toList (out.push y).reverse.toList (na-1) nb:=by obtain⟨p,rfl⟩:∃p,na=p+1:=⟨na-1,by lia⟩;obtain⟨q,rfl⟩:∃q,nb=q+1:=⟨nb-1,by lia⟩;exact zmP O T m hb ha h
theorem lastB(O:LtOk M A E s kd S L)(T:Two S L a b)(h1:0<na)(h2:0<nb)(m:MJ (leOf L) a.toList b.toList out.reverse.toList na nb){x y:Keyed}(hb:b[nb-1]?=some x)(ha:a[na-1]?=some y)(h:L x y=false):MJ (leOf L) a.toList b.toList (out.push x).reverse.toList na (nb-1):=by obtain⟨p,rfl⟩:∃p,na=p+1:=⟨na-1,by lia⟩;obtain⟨q,rfl⟩:∃q,nb=q+1:=⟨nb-1,by lia⟩;exact zmO O T m hb ha h
theorem backA(O:LtOk M A E s kd S L)(T:Two S L a b)(h2:0<nb)(m:MJ (leOf L) a.toList b.toList out.reverse.toList na nb){x:Keyed}(hb:b[nb-1]?=some x)(i:Nat)(hi:i<=na)(h:∀j y,i<=j->j<na->a[j]?=some y->L x y=true):MJ (leOf L) a.toList b.toList (out++(a.extract i na).reverse).reverse.toList i nb:=by obtain⟨q,rfl⟩:∃q,nb=q+1:=⟨nb-1,by lia⟩;exact zm2 O T m hb i hi h
theorem backB(O:LtOk M A E s kd S L)(T:Two S L a b)(h1:0<na)(m:MJ (leOf L) a.toList b.toList out.reverse.toList na nb){y:Keyed}(ha:a[na-1]?=some y)(i:Nat)(hi:i<=nb)(h:∀j x,i<=j->j<nb->b[j]?=some x->L x y=false):MJ (leOf L) a.toList b.toList (out++(b.extract i nb).reverse).reverse.toList na i:=by obtain⟨p,rfl⟩:∃p,na=p+1:=⟨na-1,by lia⟩;exact zm1 O T m ha i hi h
noncomputable abbrev RH:=Option (Array Keyed)×Nat×Nat×Array Keyed×Nat×Nat×Nat
noncomputable def hiC(a b:Array Keyed)(na nb:Nat)(out:Array Keyed)(mg ac bc:Nat):StateT AG Sem (ForInStep RH) :=
 elem' a (na-1) >>= λx =>
  if (na-1 == 0)=true then pure (.done (some (a.extract 0 (na-1)++b.extract 0 nb++(out.push x).reverse),na-1,nb,out.push x,mg,ac,bc))
  else if (decide (ac<7) && decide (bc<7))=true then pure (.done (none,na-1,nb,out.push x,mg,ac,bc))
  else pure (.yield (none,na-1,nb,out.push x,mg,ac,bc))
noncomputable def hiB(a b:Array Keyed)(na nb:Nat)(out:Array Keyed)(mg ac bc:Nat):StateT AG Sem (ForInStep RH) :=
 elem' b (nb-1) >>= λx =>
  if (nb-1 == 1)=true then pure (.done (some (b.extract 0 (nb-1)++a.extract 0 na++(out.push x).reverse),na,nb-1,out.push x,mg,ac,bc))
  else elem' a (na-1) >>= λy=>zcp true y b 0 (nb-1) (nb-1-1) >>= λw =>
   match w with
   |some t =>
    if nb-1-t > 0 then
     if (t == 1)=true then pure (.done (some (b.extract 0 t++a.extract 0 na++(out.push x++(b.extract t (nb-1)).reverse).reverse),na,t,out.push x++(b.extract t (nb-1)).reverse,mg,ac,nb-1-t))
     else if (t == 0)=true then pure (.done (some (a.extract 0 na++b.extract 0 t++(out.push x++(b.extract t (nb-1)).reverse).reverse),na,t,out.push x++(b.extract t (nb-1)).reverse,mg,ac,nb-1-t))
     else hiC a b na t (out.push x++(b.extract t (nb-1)).reverse) mg ac (nb-1-t)
    else hiC a b na (nb-1) (out.push x) mg ac (nb-1-t)
   |_=>pure (.done (some (a.extract 0 na++b.extract 0 (nb-1)++(out.push x).reverse),na,nb-1,out.push x,mg,ac,bc))
noncomputable def hiA(a b:Array Keyed)(na nb:Nat)(out:Array Keyed)(mg ac bc:Nat):StateT AG Sem (ForInStep RH) :=
 elem' b (nb-1) >>= λx=>zcp false x a 0 na (na-1) >>= λw =>
  match w with
  |some t =>
   if na-t > 0 then
    if (t == 0)=true then pure (.done (some (a.extract 0 t++b.extract 0 nb++(out++(a.extract t na).reverse).reverse),t,nb,out++(a.extract t na).reverse,mg,na-t,bc))
    else hiB a b t nb (out++(a.extract t na).reverse) mg (na-t) bc
   else hiB a b na nb out mg (na-t) bc
  |_=>pure (.done (some (a.extract 0 na++b.extract 0 nb++out.reverse),na,nb,out,mg,ac,bc))
noncomputable def hiG(a b:Array Keyed)(c:RH):StateT AG Sem (ForInStep RH) :=
 if c.2.2.2.2.1 > 1 then zeV (c.2.2.2.2.1-1) >>= λ_=>hiA a b c.2.1 c.2.2.1 c.2.2.2.1 (c.2.2.2.2.1-1) c.2.2.2.2.2.1 c.2.2.2.2.2.2
 else zeV c.2.2.2.2.1 >>= λ_=>hiA a b c.2.1 c.2.2.1 c.2.2.2.1 c.2.2.2.2.1 c.2.2.2.2.2.1 c.2.2.2.2.2.2
noncomputable abbrev RI:=Option (Array Keyed)×Nat×Nat×Array Keyed×Nat×Nat
noncomputable def hiI(a b:Array Keyed)(mg:Nat)(c:RI):StateT AG Sem (ForInStep RI) :=
 elem' b (c.2.2.1-1) >>= λx=>elem' a (c.2.1-1) >>= λy=>lt' x y >>= λw =>
  match w with
  |some v =>
   if v=true then elem' a (c.2.1-1) >>= λy =>
    if (c.2.1-1 == 0)=true then pure (.done (some (a.extract 0 (c.2.1-1)++b.extract 0 c.2.2.1++(c.2.2.2.1.push y).reverse),c.2.1-1,c.2.2.1,c.2.2.2.1.push y,c.2.2.2.2.1+1,0))
    else if c.2.2.2.2.1+1 ≥ mg then pure (.done (none,c.2.1-1,c.2.2.1,c.2.2.2.1.push y,c.2.2.2.2.1+1,0))
    else pure (.yield (none,c.2.1-1,c.2.2.1,c.2.2.2.1.push y,c.2.2.2.2.1+1,0))
   else elem' b (c.2.2.1-1) >>= λx =>
    if (c.2.2.1-1 == 1)=true then pure (.done (some (b.extract 0 (c.2.2.1-1)++a.extract 0 c.2.1++(c.2.2.2.1.push x).reverse),c.2.1,c.2.2.1-1,c.2.2.2.1.push x,0,c.2.2.2.2.2+1))
    else if c.2.2.2.2.2+1 ≥ mg then pure (.done (none,c.2.1,c.2.2.1-1,c.2.2.2.1.push x,0,c.2.2.2.2.2+1))
    else pure (.yield (none,c.2.1,c.2.2.1-1,c.2.2.2.1.push x,0,c.2.2.2.2.2+1))
  |_=>pure (.done (some (a.extract 0 c.2.1++b.extract 0 c.2.2.1++c.2.2.2.1.reverse),c.2.1,c.2.2.1,c.2.2.2.1,c.2.2.2.2.1,c.2.2.2.2.2))
noncomputable abbrev RO:=Option (Array Keyed)×Nat×Nat×Array Keyed×Nat
noncomputable def hiP(a b:Array Keyed)(mg:Nat)(c:RI):StateT AG Sem (ForInStep RO) :=
 CJ (λ_=>StateT AG Sem (ForInStep RO)) c.1 (λr=>pure (.done (some r,c.2.1,c.2.2.1,c.2.2.2.1,mg))) λ_=>(liftM (rule "list.sort.gallop"):StateT AG Sem Unit) >>= λ_=>forIn [:a.size+b.size] ((none,c.2.1,c.2.2.1,c.2.2.2.1,mg+1,c.2.2.2.2.1,c.2.2.2.2.2):RH) (λ_ c=>hiG a b c) >>= λc =>
  CJ (λ_=>StateT AG Sem (ForInStep RO)) c.1 (λr=>pure (.done (some r,c.2.1,c.2.2.1,c.2.2.2.1,c.2.2.2.2.1))) λ_=>zeV (c.2.2.2.2.1+1) >>= λ_=>pure (.yield (none,c.2.1,c.2.2.1,c.2.2.2.1,c.2.2.2.2.1+1))
noncomputable def hiO(a b:Array Keyed)(c:RO):StateT AG Sem (ForInStep RO) :=
 forIn [:a.size+b.size] ((none,c.2.1,c.2.2.1,c.2.2.2.1,0,0):RI) (λ_ d=>hiI a b c.2.2.2.2 d) >>= λd=>hiP a b c.2.2.2.2 d
noncomputable def zkE(a b:Array Keyed):StateT AG Sem (Array Keyed) :=
 (liftM (rule "list.sort.merge-hi"):StateT AG Sem Unit) >>= λ_=>elem' a (a.size-1) >>= λx =>
  if (a.size-1 == 0)=true then pure (a.extract 0 (a.size-1)++b.extract 0 b.size++#[x].reverse)
  else if (b.size == 1)=true then pure (b.extract 0 b.size++a.extract 0 (a.size-1)++#[x].reverse)
  else get >>= λs=>forIn [:a.size+b.size] ((none,a.size-1,b.size,#[x],gallopOf s):RO) (λ_ c=>hiO a b c) >>= λc =>
   CJ (λ_=>StateT AG Sem (Array Keyed)) c.1 (λr=>pure r) λ_=>unsupported "internal:list.sort.merge-bound"
theorem ziC(a b:Array Keyed):zfC a b=zkE a b:=rfl
variable {Q:ForInStep RH->AG->Prop}{z:AG}{N mg ac bc:Nat}{x y:Keyed}
theorem zhZ(O:LtOk M A E s kd S L)(T:Two S L a b)(hD:∀r na nb out mg ac bc, Res (leOf L) a.toList b.toList r.toList -> Q (.done (some r, na, nb, out, mg, ac, bc)) z)
  (hN:∀na nb out mg ac bc,MJ (leOf L) a.toList b.toList out.reverse.toList na nb->0<na->1<nb->na+nb<=N->na<=a.size->nb<=b.size->Q (.done (none,na,nb,out,mg,ac,bc)) z/\Q (.yield (none,na,nb,out,mg,ac,bc)) z)
  (m:MJ (leOf L) a.toList b.toList out.reverse.toList na nb) (ea:a[na-1]?=some y) (eb:b[nb-1]?=some x) (hw:L x y=true) (g1:0<na) (g2:1<nb) (g3:na+nb<=N) (g4:na<=a.size) (g5:nb<=b.size) :
  wpS M A E s (hiC a b na nb out mg ac bc) Q z:=by
 have n4:=lastA O T g1 (by lia) m eb ea hw;refine Ai (zat ea ?_)
 by_cases e:na-1=0
 .rw[if_pos (by simp[e])];rw[e]at n4;rw[e];exact Ar (hD _ _ _ _ _ _ _ (end_A T n4))
 rw[if_neg (by simp[e])];have h:=hN _ _ _ mg ac bc n4 (by lia) g2 (by lia) (by lia) g5;split
 .exact Ar h.1
 .exact Ar h.2
theorem zh0(O:LtOk M A E s kd S L)(T:Two S L a b)(hk:kindOf z=kd)(h0:∀y, b[0]? = some y -> ∀x ∈ a.toList, leOf L y x)(hD:∀r na nb out mg ac bc, Res (leOf L) a.toList b.toList r.toList -> Q (.done (some r, na, nb, out, mg, ac, bc)) z)
  (hN:∀na nb out mg ac bc,MJ (leOf L) a.toList b.toList out.reverse.toList na nb->0<na->1<nb->na+nb<=N->na<=a.size->nb<=b.size->Q (.done (none,na,nb,out,mg,ac,bc)) z/\Q (.yield (none,na,nb,out,mg,ac,bc)) z)
  (m:MJ (leOf L) a.toList b.toList out.reverse.toList na nb) (ea:a[na-1]?=some y) (eb:b[nb-1]?=some x) (hw:L x y=false) (g1:0<na) (g2:1<nb) (g3:na+nb<=N) (g4:na<=a.size) (g5:nb<=b.size) :
  wpS M A E s (hiB a b na nb out mg ac bc) Q z:=by
 have n2:=lastB O T g1 (by lia) m eb ea hw;refine Ai (zat eb ?_)
 by_cases e3:nb-1=1
 .rw[if_pos (by simp[e3])];rw[e3]at n2;rw[e3];exact Ar (hD _ _ _ _ _ _ _ (end_B T h0 n2))
 rw[if_neg (by simp[e3])];refine Ai (zat ea ?_);refine Ai (zmz O T hk (T.Sa _ (zao ea)) (by lia) (λt r1 r2 r3=>?_) (by lia));dsimp only
 by_cases hk1:nb-1-t > 0
 .rw[if_pos hk1];have n3:=backB O T g1 n2 ea t r1 r3
  by_cases e4:t=1
  .rw[if_pos (by simp[e4])];rw[e4]at n3;rw[e4];exact Ar (hD _ _ _ _ _ _ _ (end_B T h0 n3))
  rw[if_neg (by simp[e4])]
  by_cases e6:t=0
  .rw[if_pos (by simp[e6])];rw[e6]at n3;rw[e6];exact Ar (hD _ _ _ _ _ _ _ (zmX T n3))
  rw[if_neg (by simp[e6])];have hl:t-1<b.size:=by lia
  exact zhZ O T hD hN n3 ea (by simp[hl]) (r2 (t-1) b[t-1] (by lia) (by simp[hl])) g1 (by lia) (by lia) g4 (by lia)
 rw[if_neg hk1];have hl:nb-1-1<b.size:=by lia
 exact zhZ O T hD hN n2 ea (by simp[hl]) (r2 (nb-1-1) b[nb-1-1] (by lia) (by simp[hl])) g1 (by lia) (by lia) g4 (by lia)
theorem zkR(O:LtOk M A E s kd S L)(T:Two S L a b)(hk:kindOf z=kd)(h0:∀y, b[0]? = some y -> ∀x ∈ a.toList, leOf L y x)(hD:∀r na nb out mg ac bc, Res (leOf L) a.toList b.toList r.toList -> Q (.done (some r, na, nb, out, mg, ac, bc)) z)
  (hN:∀na nb out mg ac bc,MJ (leOf L) a.toList b.toList out.reverse.toList na nb->0<na->1<nb->na+nb<=N->na<=a.size->nb<=b.size->Q (.done (none,na,nb,out,mg,ac,bc)) z/\Q (.yield (none,na,nb,out,mg,ac,bc)) z)
  (m:MJ (leOf L) a.toList b.toList out.reverse.toList na nb) (g1:0<na) (g2:1<nb) (g3:na+nb<=N) (g4:na<=a.size) (g5:nb<=b.size) :
  wpS M A E s (hiA a b na nb out mg ac bc) Q z:=by
 have hb:nb-1<b.size:=by lia
 have eb:b[nb-1]?=some b[nb-1]:=by simp[hb]
 refine Ai (zat eb ?_);refine Ai (zmA O T hk (T.Sb _ (zao eb)) g4 (λt q1 q2 q3=>?_) (by lia));dsimp only
 by_cases hk0:na-t > 0
 .rw[if_pos hk0];have n1:=backA O T (by lia) m eb t q1 q3
  by_cases e1:t=0
  .rw[if_pos (by simp[e1])];rw[e1]at n1;rw[e1];exact Ar (hD _ _ _ _ _ _ _ (end_A T n1))
  rw[if_neg (by simp[e1])];have hl:t-1<a.size:=by lia
  exact zh0 O T hk h0 hD hN n1 (by simp[hl]) eb (q2 (t-1) a[t-1] (by lia) (by simp[hl])) (by lia) g2 (by lia) (by lia) g5
 rw[if_neg hk0];have hl:na-1<a.size:=by lia
 exact zh0 O T hk h0 hD hN m (by simp[hl]) eb (q2 (na-1) a[na-1] (by lia) (by simp[hl])) g1 g2 g3 g4 g5
theorem zkP{Q:ForInStep RI -> AG -> Prop}(O:LtOk M A E s kd S L)(T:Two S L a b)(hk:kindOf z=kd)(h0:∀y, b[0]? = some y -> ∀x ∈ a.toList, leOf L y x)(m:MJ (leOf L) a.toList b.toList out.reverse.toList na nb)(g1 : 0 < na)(g2 : 1 < nb)(g4:na <= a.size)(g5:nb <= b.size)
  (hD:∀r na nb out ac bc,Res (leOf L) a.toList b.toList r.toList->Q (.done (some r,na,nb,out,ac,bc)) z)
  (hN:∀na' nb' out ac bc,MJ (leOf L) a.toList b.toList out.reverse.toList na' nb'->0<na'->1<nb'->na'+nb'+1<=na+nb->na'<=a.size->nb'<=b.size->Q (.done (none,na',nb',out,ac,bc)) z/\Q (.yield (none,na',nb',out,ac,bc)) z) :
  wpS M A E s (hiI a b mg (none,na,nb,out,ac,bc)) Q z:=by
 obtain⟨xb,eb⟩:∃x,b[nb-1]?=some x:=⟨b[nb-1]'(by lia),by simp[show nb-1<b.size by lia]⟩;obtain⟨xa,ea⟩:∃x,a[na-1]?=some x:=⟨a[na-1]'(by lia),by simp[show na-1<a.size by lia]⟩;refine Ai (zat eb (Ai (zat ea (Ai (O.lt xb xa (T.Sb _ (zao eb)) (T.Sa _ (zao ea)) _ _ hk ?_)))));dsimp only
 cases hw:L xb xa with
 |true =>
  rw[if_pos rfl];have m2:=lastA O T g1 (by lia) m eb ea hw;refine Ai (zat ea ?_)
  by_cases e:na-1=0
  .rw[if_pos (by simp[e])];rw[e]at m2;rw[e];exact Ar (hD _ _ _ _ _ _ (end_A T m2))
  rw[if_neg (by simp[e])];have h:=hN _ _ _ (ac+1) 0 m2 (by lia) g2 (by lia) (by lia) g5;split
  .exact Ar h.1
  .exact Ar h.2
 |false =>
  rw[if_neg (by simp)];have m2:=lastB O T g1 (by lia) m eb ea hw;refine Ai (zat eb ?_)
  by_cases e:nb-1=1
  .rw[if_pos (by simp[e])];rw[e]at m2;rw[e];exact Ar (hD _ _ _ _ _ _ (end_B T h0 m2))
  rw[if_neg (by simp[e])];have h:=hN _ _ _ 0 (bc+1) m2 g1 (by lia) (by lia) g4 (by lia);split
  .exact Ar h.1
  .exact Ar h.2
theorem zkQ(O:LtOk M A E s kd S L)(T:Two S L a b)(hk:kindOf z=kd)(h0:∀y, b[0]? = some y -> ∀x ∈ a.toList, leOf L y x)(hD:∀z', Like z z' -> ∀r na nb out mg ac bc, Res (leOf L) a.toList b.toList r.toList -> Q (.done (some r, na, nb, out, mg, ac, bc)) z')
  (hN:∀z',Like z z'->∀na nb out mg ac bc,MJ (leOf L) a.toList b.toList out.reverse.toList na nb->0<na->1<nb->na+nb<=N->na<=a.size->nb<=b.size->Q (.done (none,na,nb,out,mg,ac,bc)) z'/\Q (.yield (none,na,nb,out,mg,ac,bc)) z')
  (m:MJ (leOf L) a.toList b.toList out.reverse.toList na nb) (g1:0<na) (g2:1<nb) (g3:na+nb<=N) (g4:na<=a.size) (g5:nb<=b.size) :
  wpS M A E s (hiG a b (none,na,nb,out,mg,ac,bc)) Q z:=by
 have key:∀z',Like z z'->∀mg,wpS M A E s (hiA a b na nb out mg ac bc) Q z':=λz' h mg=>zkR O T (h.1.trans hk) h0 (hD z' h) (hN z' h) m g1 g2 g3 g4 g5
 unfold hiG;split
 .exact Ai (BP (key _ (by exact Like.refl z) _))
 .exact Ai (BP (key _ (by exact Like.refl z) _))
theorem zkN{Q:ForInStep RO -> AG -> Prop}(O:LtOk M A E s kd S L)(T:Two S L a b)(hk:kindOf z=kd)(h0:∀y, b[0]? = some y -> ∀x ∈ a.toList, leOf L y x)(m:MJ (leOf L) a.toList b.toList out.reverse.toList na nb)(g1 : 0 < na)(g2 : 1 < nb)(g3:na + nb <= N)(g4:na <= a.size)(g5:nb <= b.size)
  (hD:∀z',Like z z'->∀r na nb out mg,Res (leOf L) a.toList b.toList r.toList->Q (.done (some r,na,nb,out,mg)) z')
  (hN:∀z',Like z z'->∀na nb out mg,MJ (leOf L) a.toList b.toList out.reverse.toList na nb->0<na->1<nb->na+nb<=N->na<=a.size->nb<=b.size->Q (.yield (none,na,nb,out,mg)) z') :
  wpS M A E s (hiP a b mg (none,na,nb,out,ac,bc)) Q z:=by
 refine Ai (wpS_lift (CH ⟨rfl,?_⟩))
 refine Ai (Cg (Bs (I:=λy c w=>Like z w/\∃na nb out mg ac bc,c=(none,na,nb,out,mg,ac,bc)/\MJ (leOf L) a.toList b.toList out.reverse.toList na nb/\0<na/\1<nb/\na+nb<=N/\na<=a.size/\nb<=b.size)
  (Q:=λc w=>Like z w/\((∃r,c.1=some r/\Res (leOf L) a.toList b.toList r.toList)∨∃na nb out mg ac bc,c=(none,na,nb,out,mg,ac,bc)/\MJ (leOf L) a.toList b.toList out.reverse.toList na nb/\0<na/\1<nb/\na+nb<=N/\na<=a.size/\nb<=b.size)) ?_ ?_ ⟨Like.refl _,_,_,_,_,_,_,rfl,m,g1,g2,g3,g4,g5⟩) ?_)
 .rintro y c w _ hy ⟨lk,na,nb,out,mg,ac,bc,rfl,m,k1,k2,k3,k4,k5⟩;exact zkQ O T (lk.1.trans hk) h0 (λw' h r _ _ _ _ _ _ e=>⟨Like.tr lk h,.inl ⟨r,rfl,e⟩⟩) (λw' h _ _ _ _ _ _ e u1 u2 u3 u4 u5=>⟨⟨Like.tr lk h,.inr ⟨_,_,_,_,_,_,rfl,e,u1,u2,u3,u4,u5⟩⟩,Like.tr lk h,_,_,_,_,_,_,rfl,e,u1,u2,u3,u4,u5⟩) m k1 k2 k3 k4 k5
 .rintro c w ⟨lk,r⟩;exact⟨lk,.inr r⟩
 .rintro c w ⟨lk,hc⟩;rcases hc with⟨r,e,res⟩ |⟨na,nb,out,mg,ac,bc,rfl,m,k1,k2,k3,k4,k5⟩
  .rw[e];exact Ar (hD w lk _ _ _ _ _ res)
  .exact Ai (BP (Ar (hN _ (by exact lk) _ _ _ _ m k1 k2 k3 k4 k5)))
theorem zkO{Q:ForInStep RO -> AG -> Prop}(O:LtOk M A E s kd S L)(T:Two S L a b)(hk:kindOf z=kd)(h0:∀y, b[0]? = some y -> ∀x ∈ a.toList, leOf L y x)(m:MJ (leOf L) a.toList b.toList out.reverse.toList na nb)(g1 : 0 < na)(g2 : 1 < nb)(g3:na + nb <= a.size + b.size)(g4:na <= a.size)(g5:nb <= b.size)
  (hD:∀z',Like z z'->∀r na nb out mg,Res (leOf L) a.toList b.toList r.toList->Q (.done (some r,na,nb,out,mg)) z')
  (hN:∀z',Like z z'->∀na' nb' out mg,MJ (leOf L) a.toList b.toList out.reverse.toList na' nb'->0<na'->1<nb'->na'+nb'+1<=na+nb->na'<=a.size->nb'<=b.size->Q (.yield (none,na',nb',out,mg)) z') :
  wpS M A E s (hiO a b (none,na,nb,out,mg)) Q z:=by
 refine Ai (Cg (Bs (I:=λy c w=>w=z/\∃na' nb' out ac bc,c=(none,na',nb',out,ac,bc)/\MJ (leOf L) a.toList b.toList out.reverse.toList na' nb'/\0<na'/\1<nb'/\na'+nb'+y<=na+nb/\na'<=a.size/\nb'<=b.size)
  (Q:=λc w=>w=z/\((∃r,c.1=some r/\Res (leOf L) a.toList b.toList r.toList)∨∃na' nb' out ac bc,c=(none,na',nb',out,ac,bc)/\MJ (leOf L) a.toList b.toList out.reverse.toList na' nb'/\0<na'/\1<nb'/\na'+nb'+1<=na+nb/\na'<=a.size/\nb'<=b.size)) ?_ ?_ ⟨rfl,_,_,_,_,_,rfl,m,g1,g2,by lia,g4,g5⟩) ?_)
 .rintro y c w _ hy ⟨rfl,na',nb',out',ac,bc,rfl,m',j1,j2,j3,j4,j5⟩;exact zkP O T hk h0 m' j1 j2 j4 j5 (λr _ _ _ _ _ e=>⟨rfl,.inl ⟨r,rfl,e⟩⟩) λ_ _ _ _ _ e u1 u2 u3 u4 u5=>⟨⟨rfl,.inr ⟨_,_,_,_,_,rfl,e,u1,u2,by lia,u4,u5⟩⟩,rfl,_,_,_,_,_,rfl,e,u1,u2,by lia,u4,u5⟩
 .rintro c w ⟨rfl,na',nb',out',ac,bc,rfl,m',j1,j2,j3,j4,j5⟩;exact⟨rfl,.inr ⟨na',nb',out',ac,bc,rfl,m',j1,j2,by lia,j4,j5⟩⟩
 .rintro c w ⟨rfl,hc⟩;rcases hc with⟨r,e,res⟩ |⟨na',nb',out',ac,bc,rfl,m',j1,j2,j3,j4,j5⟩
  .unfold hiP;rw[e];exact Ar (hD _ (Like.refl _) _ _ _ _ _ res)
  .exact zkN (N:=na'+nb') O T hk h0 m' j1 j2 (Am _) j4 j5 hD λz' h _ _ _ _ e u1 u2 u3 u4 u5=>hN z' h _ _ _ _ e u1 u2 (by lia) u4 u5
end
section
variable {M:Model}{A:A3}{E:Ac->Ae->Prop}{s:Ae}{kd:CI}{S:Keyed->Prop}{L:Keyed->Keyed->Bool}{a b:Array Keyed}
theorem zgu(O:LtOk M A E s kd S L)(T:Two S L a b){st:AG}{Q:Array Keyed -> AG -> Prop}(hk:kindOf st=kd)(ha : 0 < a.size)(hb : 0 < b.size)(h0:∀y, b[0]? = some y -> ∀x ∈ a.toList, leOf L y x)
  (hl:∀z,a[a.size-1]?=some z->∀x∈b.toList,leOf L x z) (hQ:∀r st',Res (leOf L) a.toList b.toList r.toList->Like st st'->Q r st'):wpS M A E s (zfC a b) Q st:=by
 rw[ziC];have atA:∀i,i<a.size->∃x,a[i]?=some x:=λi h=>⟨a[i],by simp[h]⟩
 have atB:∀i,i<b.size->∃x,b[i]?=some x:=λi h=>⟨b[i],by simp[h]⟩
 obtain⟨a1,e1⟩:=atA (a.size-1) (by lia);have mS:MJ (leOf L) a.toList b.toList (#[]:Array Keyed).reverse.toList a.size b.size:=⟨by simp,by simp,by rw[Dc (by simp),Dc (by simp)];simp,by simp,(λ_ _ _ h=>by simp at h),(λ_ _ _ h=>by simp at h)⟩
 have m0:MJ (leOf L) a.toList b.toList (#[a1]:Array Keyed).reverse.toList (a.size-1) b.size:=by
  have hc:=zel e1;rw[show a.size-1+1=a.size by lia]at hc
  have:=mS.takeA T.sa (a.size-1) (by lia) λx hx y hy=>by rw[hc]at hy;rw[Ah.mp hy];exact hl a1 e1 x (B7 hx)
  rw[hc]at this;simpa using this
 refine Ai (wpS_lift (CH ⟨rfl,?_⟩));refine Ai (zat e1 ?_)
 by_cases ha1:a.size-1=0
 .rw[if_pos (by simp[ha1])];rw[ha1]at m0;rw[ha1];exact Ar (hQ _ _ (end_A T m0) (Like.refl _))
 rw[if_neg (by simp[ha1])]
 by_cases hb1:b.size=1
 .rw[if_pos (by simp[hb1])];rw[hb1]at m0;rw[hb1];exact Ar (hQ _ _ (end_B T h0 m0) (Like.refl _))
 rw[if_neg (by simp[hb1])];refine Ai (DS ?_)
 refine Ai (Cg (Bs (I:=λx c st'=>Like st st'/\∃na nb out mg,c=(none,na,nb,out,mg)/\MJ (leOf L) a.toList b.toList out.reverse.toList na nb/\0<na/\1<nb/\na+nb+x+1<=a.size+b.size/\na<=a.size/\nb<=b.size)
  (Q:=λc st'=>Like st st'/\∃r,c.1=some r/\Res (leOf L) a.toList b.toList r.toList) ?step ?fin ⟨Like.refl _,_,_,_,_,rfl,m0,by lia,by lia,by lia,by lia,by lia⟩) ?post)
 case fin =>
  rintro c st' ⟨_,na,nb,out,mg,rfl,m,g1,g2,g3,g4,g5⟩;exact absurd g3 (by lia)
 case post =>
  rintro c st' ⟨lk,r,e,res⟩;rw[e];exact Ar (hQ r st' res lk)
 case step =>
  rintro x c st' _ hx ⟨lk,na,nb,out,mg,rfl,m,g1,g2,g3,g4,g5⟩;exact zkO O T (lk.1.trans hk) h0 m g1 g2 (by lia) g4 g5 (λz' h r _ _ _ _ e=>⟨Like.tr lk h,r,rfl,e⟩) λz' h _ _ _ _ e u1 u2 u3 u4 u5=>⟨Like.tr lk h,_,_,_,_,rfl,e,u1,u2,by lia,u4,u5⟩
end
end TS
namespace TS
open PySem PyProof.Rows
section
variable {M:Model}{A:A3}{E:Ac->Ae->Prop}{s:Ae}{kd:CI}{S:Keyed->Prop}{L:Keyed->Keyed->Bool}
noncomputable def Seg(L:Keyed->Keyed->Bool)(a:Array Keyed)(lo n:Nat):Prop:=∀(i j:Nat) x y,i<=j->j<n->a[lo+i]?=some x->a[lo+j]?=some y->L y x=false
noncomputable def Rev(L:Keyed->Keyed->Bool)(a:Array Keyed)(lo n:Nat):Prop:=∀(i j:Nat) x y,i<=j->j<n->a[lo+i]?=some x->a[lo+j]?=some y->L x y=false
structure SB (kd:CI) (S:Keyed->Prop) (st0 st:AG) (lo hi:Nat):Prop where
 kind:kindOf st=kd
 pend:AO st=AO st0
 fail:Cm st=Cm st0
 perm:(Av st).Perm (Av st0)
 out:∀k:Nat,k<lo∨hi<=k->(Av st)[k]?=(Av st0)[k]?
 all:∀(k:Nat) x,(Av st)[k]?=some x->S x
theorem SB.size{st0 st:AG}{lo hi:Nat}(h:SB kd S st0 st lo hi):(Av st).size=(Av st0).size:=h.perm.size_eq
theorem zeL(O:LtOk M A E s kd S L){st:AG}{i j:Nat}{x y:Keyed}{Q:Option Bool->AG->Prop}(hk:kindOf st=kd)(hi:(Av st)[i]?=some x)(hj:(Av st)[j]?=some y)(sx:S x)(sy:S y)(q:Q (some (L x y)) st):wpS M A E s (ltAt' i j) Q st:=by rw[ltAt'_eq];refine Ai (DS ?_);refine Ai (zat hi ?_);refine Ai (zat hj ?_);exact O.lt x y sx sy st Q hk q
theorem zbr{st:AG}{i:Nat}(h:i<(Av st).size):∃x,(Av st)[i]?=some x:=⟨(Av st)[i],by simp[h]⟩
theorem Seg.more(O:LtOk M A E s kd S L){a:Array Keyed}{lo n:Nat}{x y:Keyed}(hS:∀(k:Nat) x,a[k]?=some x->S x)(h:Seg L a lo (n+1))(hx:a[lo+n]?=some x)(hy:a[lo+(n+1)]?=some y)(hl:L y x=false):Seg L a lo (n+2):=by
 intro i j u v hij hj hu hv;rcases AZ j (n+1) with q |q
 .exact h i j u v hij q hu hv
 .have ej:j=n+1:=by lia
  subst ej;rw[hy]at hv
  cases hv
  rcases AZ i (n+1) with q2 |q2
  .have h1:=h i n u x (by lia) (by lia) hu hx;exact O.tr u x y (hS _ _ hu) (hS _ _ hx) (hS _ _ hy) h1 hl
  .have ei:i=n+1:=by lia
   subst ei;rw[hy]at hu
   cases hu
   exact O.rf (hS _ _ hy)
noncomputable def Blk(L:Keyed->Keyed->Bool)(a:Array Keyed)(lo n q:Nat):Prop:=∀(i j:Nat) x y,n-(q+1)<=i->i<n->n-(q+1)<=j->j<n->a[lo+i]?=some x->a[lo+j]?=some y->L x y=false
theorem SB.refl{st:AG}{lo hi:Nat}(hk:kindOf st=kd)(hS:∀(k:Nat) x,(Av st)[k]?=some x->S x):SB kd S st st lo hi:=⟨hk,rfl,rfl,Array.Perm.refl _,λ_ _=>rfl,hS⟩
theorem SB.mir{st0 st:AG}{lo hi i j:Nat}(h:SB kd S st0 st lo hi)(h1:lo<=i)(h2:j<=hi)(hz:j<=(Av st).size):SB kd S st0 (setArr st (mirror (Av st) i j ((j-i) / 2))) lo hi:=by
 refine⟨h.kind,h.pend,h.fail,(mirror_perm _ _ _ _).trans h.perm,λk hk=>?_,λk x hx=>?_⟩
 .show (mirror (Av st) i j ((j-i) / 2))[k]?=_;rw[BN hz,if_neg (by lia)];exact h.out k hk
 .have hx':(mirror (Av st) i j ((j-i) / 2))[k]?=some x:=hx;rw[BN hz]at hx';split at hx'
  .exact h.all _ x hx'
  .exact h.all _ x hx'
theorem Rev.blk{a:Array Keyed}{lo n q:Nat}(h:Rev L a lo n)(hb:Blk L a lo n q)(hq:q<n)(hz:lo+n<=a.size):Rev L (mirror a (lo+n-(q+1)) (lo+n) ((lo+n-(lo+n-(q+1))) / 2)) lo n:=by
 intro i j x y hij hj hx hy;rw[BN hz]at hx hy
 by_cases hi:lo+n-(q+1)<=lo+i/\lo+i<lo+n
 .rw[if_pos hi]at hx;rw[if_pos (by lia)]at hy;rw[show lo+n-(q+1)+(lo+n)-1-(lo+i)=lo+(n-(q+1)+n-1-i) by lia]at hx;rw[show lo+n-(q+1)+(lo+n)-1-(lo+j)=lo+(n-(q+1)+n-1-j) by lia]at hy;exact hb _ _ x y (by lia) (by lia) (by lia) (by lia) hx hy
 .rw[if_neg hi]at hx
  by_cases hj':lo+n-(q+1)<=lo+j/\lo+j<lo+n
  .rw[if_pos hj']at hy;rw[show lo+n-(q+1)+(lo+n)-1-(lo+j)=lo+(n-(q+1)+n-1-j) by lia]at hy;exact h i _ x y (by lia) (by lia) hx hy
  .rw[if_neg hj']at hy;exact h i j x y hij hj hx hy
theorem Rev.flip{a:Array Keyed}{lo n:Nat}(h:Rev L a lo n)(hz:lo+n<=a.size):Seg L (mirror a lo (lo+n) ((lo+n-lo) / 2)) lo n:=by intro i j x y hij hj hx hy;rw[BN hz,if_pos (by lia)]at hx hy;rw[show lo+(lo+n)-1-(lo+i)=lo+(n-1-i) by lia]at hx;rw[show lo+(lo+n)-1-(lo+j)=lo+(n-1-j) by lia]at hy;exact h _ _ y x (by lia) (by lia) hy hx
theorem Rev.more(O:LtOk M A E s kd S L){a:Array Keyed}{lo n:Nat}{x y:Keyed}(hS:∀(k:Nat) x,a[k]?=some x->S x)(h:Rev L a lo (n+1))(hx:a[lo+n]?=some x)(hy:a[lo+(n+1)]?=some y)(hl:L x y=false):Rev L a lo (n+2):=by
 intro i j u v hij hj hu hv;rcases AZ j (n+1) with q |q
 .exact h i j u v hij q hu hv
 .have ej:j=n+1:=by lia
  subst ej;rw[hy]at hv
  cases hv
  rcases AZ i (n+1) with q2 |q2
  .have h1:=h i n u x (by lia) (by lia) hu hx;exact O.tr y x u (hS _ _ hy) (hS _ _ hx) (hS _ _ hu) hl h1
  .have ei:i=n+1:=by lia
   subst ei;rw[hy]at hu
   cases hu
   exact O.rf (hS _ _ hy)
theorem Blk.more(O:LtOk M A E s kd S L){a:Array Keyed}{lo n q:Nat}{x y:Keyed}(hS:∀(k:Nat) x,a[k]?=some x->S x)(h:Blk L a lo (n+1) q)(hq:q<n+1)(hx:a[lo+n]?=some x)(hy:a[lo+(n+1)]?=some y)(h1:L x y=false)(h2:L y x=false):Blk L a lo (n+2) (q+1):=by
 have old:∀(i:Nat) u,n+1-(q+1)<=i->i<n+1->a[lo+i]?=some u->L u y=false/\L y u=false:=λi u a1 a2 hu=>by have e1:=h i n u x a1 a2 (by lia) (by lia) hu hx;have e2:=h n i x u (by lia) (by lia) a1 a2 hx hu;exact⟨O.tr y x u (hS _ _ hy) (hS _ _ hx) (hS _ _ hu) h1 e1,O.tr u x y (hS _ _ hu) (hS _ _ hx) (hS _ _ hy) e2 h2⟩
 intro i j u v a1 a2 b1 b2 hu hv;rcases AZ i (n+1) with ci |ci
 .rcases AZ j (n+1) with cj |cj
  .exact h i j u v (by lia) ci (by lia) cj hu hv
  .have ej:j=n+1:=by lia
   subst ej;rw[hy]at hv;cases hv;exact (old i u (by lia) ci hu).1
 .have ei:i=n+1:=by lia
  subst ei;rw[hy]at hu;cases hu;rcases AZ j (n+1) with cj |cj
  .exact (old j v (by lia) cj hv).2
  .have ej:j=n+1:=by lia
   subst ej;rw[hy]at hv;cases hv;exact O.rf (hS _ _ hy)
theorem Blk.one(O:LtOk M A E s kd S L){a:Array Keyed}{lo n:Nat}(hS:∀(k:Nat) x,a[k]?=some x->S x):Blk L a lo (n+1) 0:=λi j x y a1 a2 b1 b2 hx hy=>by
 have ei:i=n:=by lia
 have ej:j=n:=by lia
 subst ei;subst ej;rw[hx]at hy;cases hy;exact O.rf (hS _ _ hx)
theorem zf6{B:Prop}{D:AG->Prop}(C:AG->Prop)(g:(∀st,D st->C st)->B)(h:∀st,D st->C st):B:=g h
theorem zfR (O : LtOk M A E s kd S L){st : AG}{lo nrem : Nat}{Q : Option Nat → AG → Prop}(h1 : 1 ≤ nrem) (hz : lo + nrem ≤ (Av st).size) (hk : kindOf st = kd) (hS : ∀ (k : Nat) x, (Av st)[k]? = some x → S x)
    (hQ:∀ m st',SB kd S st st' lo (lo+nrem)→1≤m→m≤nrem→Seg L (Av st') lo m→Q (some m) st'):wpS M A E s (countRun' lo nrem) Q st:=by
  rw[countRun'_eq]
  refine Ai (Cg (Bs (I:=λx c st'=>c=(none,x)∧st'=st∧x≤nrem∧Seg L (Av st) lo x)
    (Q:=λc st'=>∃ m,c=(none,m)∧st'=st∧1≤m∧m≤nrem∧Seg L (Av st) lo m∧(m<nrem→∃ x y,(Av st)[lo+m]?=some x∧(Av st)[lo+m - 1]?=some y∧L x y=true)) ?step ?fin ?init) ?post)
  case init =>
    refine⟨rfl,rfl,h1,λi j x y hij hj hx hy=>?_⟩
    have ei:i=0:=by lia
    have ej:j=0:=by lia
    subst ei;subst ej
    rw[hx] at hy
    cases hy
    exact O.rf (hS _ _ hx)
  case fin =>
    rintro c st' ⟨rfl,rfl,hle,hsg⟩
    exact⟨_,rfl,rfl,by lia,hle,hsg,λh=>absurd h (by lia)⟩
  case step =>
    rintro n c st' hn1 hn2 ⟨rfl,rfl,hle,hsg⟩
    obtain⟨x,hx⟩:=zbr (st:=st') (i:=lo+n) (by lia)
    obtain⟨y,hy⟩:=zbr (st:=st') (i:=lo+n - 1) (by lia)
    refine Ai (zeL O hk hx hy (hS _ _ hx) (hS _ _ hy) ?_)
    dsimp only
    by_cases hl:L x y=true
    . rw[if_pos hl]
      exact Ar ⟨n,rfl,rfl,hn1,hle,hsg,λ_=>⟨x,y,hx,hy,hl⟩⟩
    . rw[if_neg hl]
      refine Ar ⟨rfl,rfl,hn2,?_⟩
      obtain⟨p,rfl⟩:∃ p,n=p+1:=⟨n - 1,by lia⟩
      exact hsg.more O hS (by rw[show lo+(p+1) - 1=lo+p by lia] at hy;exact hy) hx (by simpa using hl)
  case post =>
    rintro c st' ⟨m,rfl,rfl,hm1,hm2,hsg,hnx⟩
    dsimp only
    by_cases hmn:(m == nrem)=true
    . rw[if_pos hmn]
      exact Ar (hQ m st' (SB.refl hk hS) hm1 hm2 hsg)
    . rw[if_neg hmn]
      have hlt : m < nrem := by have : m ≠ nrem := by simpa using hmn
                                lia
      obtain⟨x0,y0,hx0,hy0,hl0⟩:=hnx hlt
      refine zf6 (D:=λst1=>SB kd S st' st1 lo (lo+nrem)∧Rev L (Av st1) lo m∧(∃ x y,(Av st1)[lo+m]?=some x∧(Av st1)[lo+m - 1]?=some y∧L y x=false)) ?C (λshare=>?g) ?h
      case g =>
        by_cases hm:m > 1
        . rw[if_pos hm]
          obtain⟨a,ha⟩:=zbr (st:=st') (i:=lo) (by lia)
          obtain⟨b,hb⟩:=zbr (st:=st') (i:=lo+m - 1) (by lia)
          refine Ai (zeL O hk ha hb (hS _ _ ha) (hS _ _ hb) ?_)
          dsimp only
          by_cases hr:L a b=true
          . rw[if_pos hr]
            exact Ar (hQ m st' (SB.refl hk hS) hm1 hm2 hsg)
          . rw[if_neg hr]
            have hr':L a b=false:=by simpa using hr
            rw[reverseSlice'_eq]
            refine Ai (BP ?_)
            have hz2:lo+m≤(Av st').size:=by lia
            have hb':(Av st')[lo+(m - 1)]?=some b:=by rw[show lo+(m - 1)=lo+m - 1 by lia];exact hb
            have eqv:Rev L (Av st') lo m:=λi j x y hij hj hx hy=>by
              have e1:=hsg 0 j a y (by lia) hj (by simpa using ha) hy
              have e2:=hsg i (m - 1) x b (by lia) (by lia) hx hb'
              have e3:=O.tr x b a (hS _ _ hx) (hS _ _ hb) (hS _ _ ha) e2 hr'
              have e4:=hsg j (m - 1) y b (by lia) (by lia) hy hb'
              have e5:=hsg 0 i a x (by lia) (by lia) (by simpa using ha) hx
              exact O.tr y b x (hS _ _ hy) (hS _ _ hb) (hS _ _ hx) e4 (O.tr b a x (hS _ _ hb) (hS _ _ ha) (hS _ _ hx) hr' e5)
            have rv2:Rev L (mirror (Av st') lo (lo+m) ((lo+m - lo) / 2)) lo m:=λi j x y hij hj hx hy=>by
              rw[BN hz2,if_pos (by lia)] at hx hy
              rw[show lo+(lo+m) - 1 - (lo+i)=lo+(m - 1 - i) by lia] at hx
              rw[show lo+(lo+m) - 1 - (lo+j)=lo+(m - 1 - j) by lia] at hy
              exact hsg _ _ y x (by lia) (by lia) hy hx
            refine share _ ⟨(SB.refl hk hS).mir (Am _) (by lia) hz2,rv2,x0,a,?_,?_,?_⟩
            . show (mirror (Av st') lo (lo+m) ((lo+m - lo) / 2))[lo+m]?=_
              rw[BN hz2,if_neg (by lia)];exact hx0
            . show (mirror (Av st') lo (lo+m) ((lo+m - lo) / 2))[lo+m - 1]?=_
              rw[BN hz2,if_pos (by lia),show lo+(lo+m) - 1 - (lo+m - 1)=lo by lia];exact ha
            . have eb:b=y0:=by rw[hb] at hy0;exact AX hy0
              subst eb
              exact O.tr x0 b a (hS _ _ hx0) (hS _ _ hb) (hS _ _ ha) (O.as x0 b (hS _ _ hx0) (hS _ _ hb) hl0) hr'
        . rw[if_neg hm]
          have em:m=1:=by lia
          subst em
          refine share _ ⟨SB.refl hk hS,λi j x y hij hj hx hy=>?_,x0,y0,hx0,hy0,O.as x0 y0 (hS _ _ hx0) (hS _ _ hy0) hl0⟩
          have ei:i=0:=by lia
          have ej:j=0:=by lia
          subst ei;subst ej
          rw[hx] at hy;cases hy
          exact O.rf (hS _ _ hx)
      case h =>
        rintro st1 ⟨sb1,rv1,x1,y1,hx1,hy1,hl1⟩
        have hz1:lo+nrem≤(Av st1).size:=by rw[sb1.size];exact hz
        refine Ai (wpS_lift (CH ⟨rfl,?_⟩))
        obtain⟨p,rfl⟩:∃ p,m=p+1:=⟨m - 1,by lia⟩
        rw[show lo+(p+1) - 1=lo+p by lia] at hy1
        have rv2:Rev L (Av st1) lo (p+1+1):=rv1.more O sb1.all hy1 hx1 hl1
        refine Ai (Cg (Bs (I:=λx c st2=>∃ q,c=(none,x,q)∧SB kd S st' st2 lo (lo+nrem)∧1≤x∧x≤nrem∧q<x∧Rev L (Av st2) lo x∧Blk L (Av st2) lo x q)
          (Q:=λc st2=>∃ x q,c=(none,x,q)∧SB kd S st' st2 lo (lo+nrem)∧1≤x∧x≤nrem∧q<x∧Rev L (Av st2) lo x∧Blk L (Av st2) lo x q) ?step ?fin ⟨0,rfl,sb1,by lia,by lia,by lia,rv2,Blk.one O sb1.all⟩) ?post)
        case fin =>
          rintro c st2 ⟨q,rfl,hh⟩
          exact⟨_,q,rfl,hh⟩
        case step =>
          rintro x c st2 hx1' hx2 ⟨q,rfl,sb2,hn1,hn2,hq,rv,bk⟩
          have hz2:lo+nrem≤(Av st2).size:=by rw[sb2.size];exact hz
          obtain⟨u,hu⟩:=zbr (st:=st2) (i:=lo+x) (by lia)
          obtain⟨v,hv⟩:=zbr (st:=st2) (i:=lo+x - 1) (by lia)
          obtain⟨r,rfl⟩:∃ r,x=r+1:=⟨x - 1,by lia⟩
          rw[show lo+(r+1) - 1=lo+r by lia] at hv
          refine Ai (zeL O sb2.kind hu (by rw[show lo+(r+1) - 1=lo+r by lia];exact hv) (sb2.all _ _ hu) (sb2.all _ _ hv) ?_)
          dsimp only
          by_cases hl:L u v=true
          . rw[if_pos hl]
            have hvu:=O.as u v (sb2.all _ _ hu) (sb2.all _ _ hv) hl
            by_cases hq0:q > 0
            . rw[if_pos hq0,reverseSlice'_eq]
              refine Ai (BP ?_)
              have hzr:lo+(r+1)≤(Av st2).size:=by lia
              have sb3:=sb2.mir (i:=lo+(r+1) - (q+1)) (j:=lo+(r+1)) (by lia) (by lia) hzr
              have rv3:=rv.blk bk hq hzr
              refine Ar ⟨0,rfl,sb3,by lia,by lia,by lia,?_,Blk.one O sb3.all⟩
              have hz3:r<r+1:=by lia
              obtain⟨v2,hv2⟩:=zbr (st:=setArr st2 (mirror (Av st2) (lo+(r+1) - (q+1)) (lo+(r+1)) ((lo+(r+1) - (lo+(r+1) - (q+1))) / 2))) (i:=lo+r) (by show lo+r<(mirror (Av st2) _ _ _).size;rw[mirror_size];lia)
              have hv2':(Av st2)[lo+(r+1 - (q+1)+r - r)]?=some v2:=by
                have h0:(mirror (Av st2) (lo+(r+1) - (q+1)) (lo+(r+1)) ((lo+(r+1) - (lo+(r+1) - (q+1))) / 2))[lo+r]?=some v2:=hv2
                rw[BN hzr,if_pos (by lia),show lo+(r+1) - (q+1)+(lo+(r+1)) - 1 - (lo+r)=lo+(r+1 - (q+1)+r - r) by lia] at h0
                exact h0
              refine rv3.more O sb3.all hv2 (y:=u) ?_ ?_
              . show (mirror (Av st2) (lo+(r+1) - (q+1)) (lo+(r+1)) ((lo+(r+1) - (lo+(r+1) - (q+1))) / 2))[lo+(r+1)]?=some u
                rw[BN hzr,if_neg (by lia)];exact hu
              . exact O.tr u v v2 (sb2.all _ _ hu) (sb2.all _ _ hv) (sb2.all _ _ hv2') hvu (rv _ r v2 v (by lia) (by lia) hv2' hv)
            . rw[if_neg hq0]
              exact Ar ⟨0,rfl,sb2,by lia,by lia,by lia,rv.more O sb2.all hv hu hvu,Blk.one O sb2.all⟩
          . rw[if_neg hl]
            have hl':L u v=false:=by simpa using hl
            refine Ai (zeL O sb2.kind (by rw[show lo+(r+1) - 1=lo+r by lia];exact hv) hu (sb2.all _ _ hv) (sb2.all _ _ hu) ?_)
            dsimp only
            by_cases hg:L v u=true
            . rw[if_pos hg]
              exact Ar ⟨r+1,q,rfl,sb2,hn1,hn2,hq,rv,bk⟩
            . rw[if_neg hg]
              have hg':L v u=false:=by simpa using hg
              exact Ar ⟨q+1,rfl,sb2,by lia,by lia,by lia,rv.more O sb2.all hv hu hg',bk.more O sb2.all hq hv hu hg' hl'⟩
        case post =>
          rintro c st2 ⟨x,q,rfl,sb2,hx1',hx2,hq,rv,bk⟩
          dsimp only
          have hz2:lo+nrem≤(Av st2).size:=by rw[sb2.size];exact hz
          refine zf6 (D:=λst3=>SB kd S st' st3 lo (lo+nrem)∧Rev L (Av st3) lo x) ?C2 (λshare=>?g2) ?h2
          case g2 =>
            by_cases hq0:q > 0
            . rw[if_pos hq0,reverseSlice'_eq]
              refine Ai (BP ?_)
              exact share _ ⟨sb2.mir (by lia) (by lia) (by lia),rv.blk bk hq (by lia)⟩
            . rw[if_neg hq0]
              exact share _ ⟨sb2,rv⟩
          case h2 =>
            rintro st3 ⟨sb3,rv3⟩
            have hz3:lo+nrem≤(Av st3).size:=by rw[sb3.size];exact hz
            rw[reverseSlice'_eq]
            refine Ai (BP ?_)
            have sb4:=sb3.mir (i:=lo) (j:=lo+x) (Am _) (by lia) (by lia)
            have sg4:=rv3.flip (show lo+x≤(Av st3).size by lia)
            have sg5:Seg L (Av (setArr st3 (mirror (Av st3) lo (lo+x) ((lo+x - lo) / 2)))) lo x:=sg4
            generalize setArr st3 (mirror (Av st3) lo (lo+x) ((lo+x - lo) / 2))=st4 at sb4 sg5
            have hz4:lo+nrem≤(Av st4).size:=by rw[sb4.size];exact hz
            refine Ai (Cg (Bs (I:=λn c st5=>c=(none,n)∧st5=st4∧n≤nrem∧Seg L (Av st4) lo n) (Q:=λc st5=>∃ m,c=(none,m)∧st5=st4∧1≤m∧m≤nrem∧Seg L (Av st4) lo m) ?step ?fin ⟨rfl,rfl,hx2,sg5⟩) ?post)
            case fin =>
              rintro c st5 ⟨rfl,rfl,hle,hsg⟩
              exact⟨_,rfl,rfl,by lia,hle,hsg⟩
            case step =>
              rintro n c st5 hn1 hn2 ⟨rfl,rfl,hle,hsg⟩
              obtain⟨u,hu⟩:=zbr (st:=st5) (i:=lo+n) (by lia)
              obtain⟨v,hv⟩:=zbr (st:=st5) (i:=lo+n - 1) (by lia)
              refine Ai (zeL O sb4.kind hu hv (sb4.all _ _ hu) (sb4.all _ _ hv) ?_)
              dsimp only
              by_cases hl:L u v=true
              . rw[if_pos hl]
                exact Ar ⟨n,rfl,rfl,by lia,hle,hsg⟩
              . rw[if_neg hl]
                refine Ar ⟨rfl,rfl,hn2,?_⟩
                obtain⟨p,rfl⟩:∃ p,n=p+1:=⟨n - 1,by lia⟩
                exact hsg.more O sb4.all (by rw[show lo+(p+1) - 1=lo+p by lia] at hv;exact hv) hu (by simpa using hl)
            case post =>
              rintro c st5 ⟨n,rfl,rfl,h1n,hn2,hsg⟩
              exact Ar (hQ n st5 sb4 h1n hn2 hsg)
end
end TS
namespace TS
open PySem PyProof.Rows
section
variable {M:Model}{A:A3}{E:Ac->Ae->Prop}{s:Ae}{kd:CI}{S:Keyed->Prop}{L:Keyed->Keyed->Bool}
theorem SB.bub{st0 st:AG}{lo hi i d:Nat}(h:SB kd S st0 st lo hi)(h1:lo<=i-d)(hd:d<=i)(h2:i<hi)(hz:i<(Av st).size):SB kd S st0 (setArr st (bubble (Av st) i d)) lo hi:=by
 refine⟨h.kind,h.pend,h.fail,(bubble_perm _ _ _).trans h.perm,λk hk=>?_,λk x hx=>?_⟩
 .show (bubble (Av st) i d)[k]?=_;rw[getElem?_bubble hz _ hd,if_neg (by lia),if_neg (by lia)];exact h.out k hk
 .have hx':(bubble (Av st) i d)[k]?=some x:=hx;rw[getElem?_bubble hz _ hd]at hx';split at hx'
  .exact h.all _ x hx'
  .split at hx'
   .exact h.all _ x hx'
   .exact h.all _ x hx'
theorem Seg.ins(O:LtOk M A E s kd S L){a:Array Keyed}{lo k l:Nat}{p:Keyed}(hS:∀(k:Nat) x, a[k]? = some x -> S x)(h:Seg L a lo k)(hlk:l <= k)(hz:lo + k < a.size)(hp:a[lo + k]? = some p)
  (h1:∀(i:Nat) x,i<l->a[lo+i]?=some x->L p x=false) (h2:∀(i:Nat) x,l<=i->i<k->a[lo+i]?=some x->L p x=true):Seg L (bubble a (lo+k) (lo+k-(lo+l))) lo (k+1):=by
 have at':∀(i:Nat) x,i<k+1->(bubble a (lo+k) (lo+k-(lo+l)))[lo+i]?=some x->(i<l/\a[lo+i]?=some x)∨(i=l/\x=p)∨(l<i/\a[lo+(i-1)]?=some x):=λi x hi hx=>by
  rw[getElem?_bubble hz _ (by lia)]at hx
  by_cases e:lo+i=lo+k-(lo+k-(lo+l))
  .rw[if_pos e,hp]at hx;exact .inr (.inl ⟨by lia,(AX hx).symm⟩)
  .rw[if_neg e]at hx
   by_cases e2:lo+k-(lo+k-(lo+l))<lo+i/\lo+i<=lo+k
   .rw[if_pos e2,show lo+i-1=lo+(i-1) by lia]at hx;exact .inr (.inr ⟨by lia,hx⟩)
   .rw[if_neg e2]at hx;exact .inl ⟨by lia,hx⟩
 intro i j x y hij hj hx hy;have sp:=hS _ _ hp;rcases at' i x (by lia) hx with⟨a1,a2⟩ |⟨a1,a2⟩ |⟨a1,a2⟩
 .rcases at' j y hj hy with⟨b1,b2⟩ |⟨b1,b2⟩ |⟨b1,b2⟩
  .exact h i j x y hij (by lia) a2 b2
  .rw[b2];exact h1 i x a1 a2
  .exact h i (j-1) x y (by lia) (by lia) a2 b2
 .subst a2;rcases at' j y hj hy with⟨b1,b2⟩ |⟨b1,b2⟩ |⟨b1,b2⟩
  .lia
  .rw[b2];exact O.rf sp
  .exact O.as x y sp (hS _ _ b2) (h2 (j-1) y (by lia) (by lia) b2)
 .rcases at' j y hj hy with⟨b1,b2⟩ |⟨b1,b2⟩ |⟨b1,b2⟩
  .lia
  .lia
  .exact h (i-1) (j-1) x y (by lia) (by lia) a2 b2
theorem zen(O:LtOk M A E s kd S L){st:AG}{lo n ok:Nat}{Q:Bool -> AG -> Prop}(hok : 1 <= ok)(hn:ok <= n)(hz:lo + n <= (Av st).size)(hk:kindOf st=kd)(hS:∀(k:Nat) x, (Av st)[k]? = some x -> S x)(hs:Seg L (Av st) lo ok)
  (hQ:∀st',SB kd S st st' lo (lo+n)->Seg L (Av st') lo n->Q true st'):wpS M A E s (binarySort' lo n ok) Q st:=by
 rw[binarySort'_eq];have em:max ok 1=ok:=by lia
 rw[em]
 refine Ai (Cg (Bs (I:=λk c st'=>c=(none,())/\SB kd S st st' lo (lo+n)/\k<=n/\Seg L (Av st') lo k)
  (Q:=λc st'=>c=(none,())/\SB kd S st st' lo (lo+n)/\Seg L (Av st') lo n) ?step ?fin ⟨rfl,SB.refl hk hS,hn,hs⟩) ?post)
 case post =>
  rintro c st' ⟨rfl,sb,sg⟩;exact Ar (hQ st' sb sg)
 case fin =>
  rintro c st' ⟨rfl,sb,hle,sg⟩;rw[show max ok n=n by lia]at sg;exact⟨rfl,sb,sg⟩
 case step =>
  rintro k c st' hk1 hk2 ⟨rfl,sb,hle,sg⟩;have hz':lo+n<=(Av st').size:=by rw[sb.size];exact hz
  obtain⟨p,hp⟩:=zbr (st:=st') (i:=lo+k) (by lia);dsimp only
  refine Ai (Cg (Bs (I:=λx c st2=>∃l r,c=(none,l,r)/\st2=st'/\l<=r/\r<=k/\r-l<=k-x/\(∀(i:Nat) z,i<l->(Av st')[lo+i]?=some z->L p z=false)/\(∀(i:Nat) z,r<=i->i<k->(Av st')[lo+i]?=some z->L p z=true))
   (Q:=λc st2=>∃l,c=(none,l,l)/\st2=st'/\l<=k/\(∀(i:Nat) z,i<l->(Av st')[lo+i]?=some z->L p z=false)/\(∀(i:Nat) z,l<=i->i<k->(Av st')[lo+i]?=some z->L p z=true)) ?step2 ?fin2 ⟨0,k,rfl,rfl,A9 _,Am _,Am _,(λi z h=>absurd h (Nat.not_lt_zero _)),(λi z h1 h2=>absurd h2 (by lia))⟩) ?post2)
  case fin2 =>
   rintro c st2 ⟨l,r,rfl,rfl,h1,h2,h3,h4,h5⟩;have:l=r:=by lia
   subst this;exact⟨l,rfl,rfl,h2,h4,h5⟩
  case step2 =>
   rintro x c st2 _ hx ⟨l,r,rfl,rfl,h1,h2,h3,h4,h5⟩;dsimp only
   by_cases hlr:l ≥ r
   .rw[if_pos hlr];have:l=r:=by lia
    subst this;exact Ar ⟨l,rfl,rfl,h2,h4,h5⟩
   .rw[if_neg hlr];obtain⟨u,hu⟩:=zbr (st:=st2) (i:=lo+(l+r) / 2) (by lia);refine Ai (zeL O sb.kind hp hu (sb.all _ _ hp) (sb.all _ _ hu) ?_);dsimp only
    by_cases hl:L p u=true
    .rw[if_pos hl];refine Ar ⟨l,(l+r) / 2,rfl,rfl,by lia,by lia,by lia,h4,λi z a1 a2 hz2=>?_⟩
     cases q:L p z with
     |true=>rfl
     |false =>
      have e1:=sg ((l+r) / 2) i u z a1 a2 hu hz2;have e2:=O.tr u z p (sb.all _ _ hu) (sb.all _ _ hz2) (sb.all _ _ hp) e1 q;rw[hl]at e2;cases e2
    .rw[if_neg hl];have hl':L p u=false:=by simpa using hl
     refine Ar ⟨(l+r) / 2+1,r,rfl,rfl,by lia,by lia,by lia,λi z a1 hz2=>?_,h5⟩;have e1:=sg i ((l+r) / 2) z u (by lia) (by lia) hz2 hu;exact O.tr z u p (sb.all _ _ hz2) (sb.all _ _ hu) (sb.all _ _ hp) e1 hl'
  case post2 =>
   rintro c st2 ⟨l,rfl,rfl,h2,h4,h5⟩;dsimp only;rw[moveDown'_eq];refine Ai (BP (Ar ⟨rfl,sb.bub (by lia) (by lia) (by lia) (by lia),by lia,?_⟩));exact sg.ins O sb.all h2 (by lia) hp h4 h5
end
end TS
set_option maxHeartbeats 8000000
namespace TS
open PySem PyProof.Rows
noncomputable def wr(a:Array Keyed)(o:Nat)(l:List Keyed)(k:Nat):Array Keyed:=(l.zipIdx k).foldl (λa (p:Keyed×Nat)=>a.setIfInBounds (o+p.2) p.1) a
theorem ziM:∀(l:List Keyed) (k:Nat) (a:Array Keyed) (o i:Nat),o+k+l.length<=a.size->(wr a o l k)[i]?=if o+k<=i/\i<o+k+l.length then l[i-(o+k)]? else a[i]?
 |[],k,a,o,i,_=>by
  show a[i]?=_;rw[if_neg (by simp)]
 |x::l,k,a,o,i,hz=>by
  have ih:=ziM l (k+1) (a.setIfInBounds (o+k) x) o i (by rw[Array.size_setIfInBounds];simp at hz;lia);unfold wr at ih ⊢;rw[List.zipIdx_cons,List.foldl_cons,ih];simp only[A5]at hz ⊢
  by_cases h1:o+(k+1)<=i/\i<o+(k+1)+l.length
  .rw[if_pos h1,if_pos (by lia),show i-(o+k)=(i-(o+(k+1)))+1 by lia];rfl
  .rw[if_neg h1]
   by_cases h2:i=o+k
   .subst h2;rw[if_pos (by lia),Nat.sub_self];rw[Array.getElem?_setIfInBounds_self_of_lt (by lia)];rfl
   .rw[if_neg (by lia),Array.getElem?_setIfInBounds_ne (BW h2)]
theorem zlx{a:Array Keyed}{o:Nat}{l:List Keyed}(hz:o+l.length<=a.size):(wr a o l 0).toList=a.toList.take o++l++a.toList.drop (o+l.length):=by
 apply List.ext_getElem?
 intro i;rw[Bn,ziM l 0 a o i (by simpa using hz)];have h1:(a.toList.take o).length=o:=by rw[AQ,AB];lia
 by_cases c1:i<o
 .rw[if_neg (by lia),AL,Ax (by lia),List.getElem?_take,if_pos c1,Bn]
 .by_cases c2:i<o+l.length
  .rw[if_pos (by lia),AL,AK (by lia),Ax (by lia),h1];rfl
  .rw[if_neg (by lia),AK (by simp;lia),DW,<- Bn]
   congr 1
   simp;lia
section
variable {M:Model}{A:A3}{E:Ac->Ae->Prop}{s:Ae}{kd:CI}{S:Keyed->Prop}{L:Keyed->Keyed->Bool}
structure SM (kd:CI) (S:Keyed->Prop) (L:Keyed->Keyed->Bool) (st0 st:AG) (pd:Array (Nat×Nat×Nat)) (lo n:Nat):Prop where
 kind:kindOf st=kd
 pend:AO st=pd
 fail:Cm st=none
 perm:(Av st).Perm (Av st0)
 out:∀k:Nat,k<lo∨lo+n<=k->(Av st)[k]?=(Av st0)[k]?
 all:∀(k:Nat) x,(Av st)[k]?=some x->S x
 seg:Seg L (Av st) lo n
theorem Seg.glue{a:Array Keyed}(O:LtOk M A E s kd S L){lo n m:Nat}(hS:∀(k:Nat) x,a[k]?=some x->S x)(h1:Seg L a lo n)(h2:Seg L a (lo+n) m)(h:∀x y,a[lo+(n-1)]?=some x->a[lo+n]?=some y->L y x=false)(hn:0<n)(hz:lo+n+m<=a.size):Seg L a lo (n+m):=by
 intro i j x y hij hj hx hy;rcases AZ j n with cj |cj
 .exact h1 i j x y hij cj hx hy
 .rw[show lo+j=lo+n+(j-n) by lia]at hy;rcases AZ i n with ci |ci
  .have e1:a[lo+(n-1)]?=some a[lo+(n-1)]:=by rw[Bw (by lia)]
   have e2:a[lo+n]?=some a[lo+n]:=by rw[Bw (by lia)]
   have q1:=h1 i (n-1) x _ (by lia) (by lia) hx e1;have q2:=h _ _ e1 e2;have q3:=h2 0 (j-n) _ y (A9 _) (by lia) e2 hy;exact O.tr x _ y (hS _ _ hx) (hS _ _ e1) (hS _ _ hy) q1 (O.tr _ _ y (hS _ _ e1) (hS _ _ e2) (hS _ _ hy) q2 q3)
  .rw[show lo+i=lo+n+(i-n) by lia]at hx;exact h2 (i-n) (j-n) x y (by lia) (by lia) hx hy
theorem zly{x:AG}{Q:PUnit->AG->Prop}{st:AG}(h:Q ⟨⟩ x):wpS M A E s (set x:StateT AG Sem PUnit) Q st:=by unfold wpS;rw[StateT.run_set];exact Af ⟨rfl,h⟩
theorem zfM{a:Array Keyed}{o n i:Nat}(hz:o+n<=a.size):(a.extract o (o+n))[i]?=if i<n then a[o+i]? else none:=by
 rw[Array.getElem?_extract]
 by_cases h:i<n
 .rw[if_pos h,if_pos (by lia)]
 .rw[if_neg h,if_neg (by lia)]
theorem zhz{a:Array Keyed}{o n:Nat}(hz:o+n<=a.size)(h:Seg L a o n):(a.extract o (o+n)).toList.Pairwise (leOf L):=by
 rw[CN];intro i j hi hj hij;rw[AB,Ci]at hi hj;have e1:(a.extract o (o+n))[i]?=some (a.extract o (o+n)).toList[i]:=by rw[<- Bn,Aa]
 have e2:(a.extract o (o+n))[j]?=some (a.extract o (o+n)).toList[j]:=by rw[<- Bn,Aa]
 rw[zfM hz,if_pos (by lia)]at e1 e2;exact h i j _ _ (by lia) (by lia) e1 e2
theorem zdw{a:Array Keyed}{o n:Nat}{x:Keyed}(hz:o+n<=a.size)(h:x∈(a.extract o (o+n)).toList):∃i,i<n/\a[o+i]?=some x:=by
 obtain⟨i,hi,e⟩:=Az h;have e1:(a.extract o (o+n))[i]?=some x:=by rw[<- Bn,Aa hi,e]
 rw[AB,Ci]at hi;refine⟨i,by lia,?_⟩;rw[zfM hz,if_pos (by lia)]at e1;exact e1
theorem SM.write(O:LtOk M A E s kd S L){st0 st:AG}{pd:Array (Nat × Nat × Nat)}{sa na nb k m:Nat}{r:Array Keyed}(hna : 1 <= na)(hk:k < na)(hm0 : 0 < m)(hm:m <= nb)(hz:sa + na + nb <= (Av st0).size)(hS:∀(k:Nat) x, (Av st0)[k]? = some x -> S x)
  (sA:Seg L (Av st0) sa na) (sB:Seg L (Av st0) (sa+na) nb) (y0 z0:Keyed) (hy0:(Av st0)[sa+na]?=some y0) (hz0:(Av st0)[sa+(na-1)]?=some z0)
  (A1:∀(i:Nat) x,i<k->(Av st0)[sa+i]?=some x->L y0 x=false) (B2:∀(i:Nat) y,m<=i->i<nb->(Av st0)[sa+na+i]?=some y->L y z0=false)
  (hr:Res (leOf L) ((Av st0).extract (sa+k) (sa+k+(na-k))).toList ((Av st0).extract (sa+na) (sa+na+m)).toList r.toList) (hkd:kindOf st=kd) (hp:AO st=pd) (hf:Cm st=none) (ha:Av st=wr (Av st0) (sa+k) r.toList 0) :
  SM kd S L st0 st pd sa (na+nb):=by
 obtain⟨hperm,hpair⟩:=hr
 have hrl:r.toList.length=(na-k)+m:=by rw[hperm.length_eq,Ak,AB,AB,Ci,Ci];lia
 have hz2:sa+k+r.toList.length<=(Av st0).size:=by lia
 have get':∀i:Nat,(Av st)[i]?=if sa+k<=i/\i<sa+k+r.toList.length then r.toList[i-(sa+k)]? else (Av st0)[i]?:=λi=>by rw[ha,ziM _ _ _ _ _ (by lia)];simp only[Nat.add_zero]
 have rmem:∀x∈r.toList,(∃i,k<=i/\i<na/\(Av st0)[sa+i]?=some x)∨(∃i,i<m/\(Av st0)[sa+na+i]?=some x):=λx hx=>by
  rcases AH.mp (hperm.mem_iff.mp hx) with q |q
  .obtain⟨i,hi,e⟩:=zdw (by lia) q;exact .inl ⟨k+i,by lia,by lia,by rw[show sa+(k+i)=sa+k+i by lia];exact e⟩
  .obtain⟨i,hi,e⟩:=zdw (by lia) q;exact .inr ⟨i,hi,e⟩
 have y0le:∀(i:Nat) y,i<nb->(Av st0)[sa+na+i]?=some y->L y y0=false:=λi y hi hy=>sB 0 i y0 y (A9 _) hi (by simpa using hy0) hy
 have lez0:∀(i:Nat) x,i<na->(Av st0)[sa+i]?=some x->L z0 x=false:=λi x hi hx=>sA i (na-1) x z0 (by lia) (by lia) hx hz0
 refine⟨hkd,hp,hf,?_,λi hi=>?_,λi x hx=>?_,λi j x y hij hj hx hy=>?_⟩
 .rw[ha];refine Array.perm_iff_toList_perm.mpr ?_
  rw[zlx hz2]
  have e:(Av st0).toList=(Av st0).toList.take (sa+k)++(((Av st0).extract (sa+k) (sa+k+(na-k))).toList++((Av st0).extract (sa+na) (sa+na+m)).toList)++(Av st0).toList.drop (sa+k+r.toList.length):=by rw[zcK,zcK];have d1:=CK (sa+k) (Av st0).toList;have d2:=zcS (Av st0).toList (sa+k) (na-k);have d3:=zcS (Av st0).toList (sa+na) m;rw[show sa+k+(na-k)=sa+na by lia]at d2;rw[show sa+k+r.toList.length=sa+na+m by lia,AL,AL,<- d3,<- d2,d1]
  conv=>rhs;rw[e]
  exact (hperm.append_left _).append_right _
 .rw[get',if_neg (by lia)]
 .rw[get']at hx;split at hx
  .rcases rmem x (Aj hx) with⟨_,_,_,e⟩ |⟨_,_,e⟩
   .exact hS _ _ e
   .exact hS _ _ e
  .exact hS _ _ hx
 .rw[get']at hx hy
  by_cases ci:sa+k<=sa+i/\sa+i<sa+k+r.toList.length
  .rw[if_pos ci]at hx
   by_cases cj:sa+k<=sa+j/\sa+j<sa+k+r.toList.length
   .rw[if_pos cj]at hy;rcases AZ i j with q |q
    .have h1:sa+i-(sa+k)<r.toList.length:=by lia
     have h2:sa+j-(sa+k)<r.toList.length:=by lia
     rw[Aa h1]at hx;rw[Aa h2]at hy;have:=List.pairwise_iff_getElem.mp hpair _ _ h1 h2 (by lia);rw[AX hx,AX hy]at this;exact this
    .have e:i=j:=by lia
     subst e;rw[hx]at hy;cases hy;rcases rmem x (Aj hx) with⟨_,_,_,e⟩ |⟨_,_,e⟩
     .exact O.rf (hS _ _ e)
     .exact O.rf (hS _ _ e)
   .rw[if_neg cj,show sa+j=sa+na+(j-na) by lia]at hy;have q1:=B2 (j-na) y (by lia) (by lia) hy;rcases rmem x (Aj hx) with⟨t,_,h2,e⟩ |⟨t,h2,e⟩
    .exact O.tr x z0 y (hS _ _ e) (hS _ _ hz0) (hS _ _ hy) (lez0 t x h2 e) q1
    .exact sB t (j-na) x y (by lia) (by lia) e hy
  .rw[if_neg ci]at hx
   by_cases cj:sa+k<=sa+j/\sa+j<sa+k+r.toList.length
   .rw[if_pos cj]at hy;rcases rmem y (Aj hy) with⟨t,h1,h2,e⟩ |⟨t,h2,e⟩
    .exact sA i t x y (by lia) h2 hx e
    .exact O.tr x y0 y (hS _ _ hx) (hS _ _ hy0) (hS _ _ e) (A1 i x (by lia) hx) (y0le t y (by lia) e)
   .rw[if_neg cj]at hy;rcases AZ i k with ck |ck
    .rcases AZ j k with cl |cl
     .exact sA i j x y hij (by lia) hx hy
     .rw[show sa+j=sa+na+(j-na) by lia]at hy;exact O.tr x y0 y (hS _ _ hx) (hS _ _ hy0) (hS _ _ hy) (A1 i x ck hx) (y0le (j-na) y (by lia) hy)
    .rw[show sa+i=sa+na+(i-na) by lia]at hx;rw[show sa+j=sa+na+(j-na) by lia]at hy;exact sB (i-na) (j-na) x y (by lia) (by lia) hx hy
theorem zgv (O : LtOk M A E s kd S L){st : AG}{i sa na pw nb pw2 : Nat}{Q : Bool → AG → Prop}(h1 : (AO st)[i]? = some (sa, na, pw)) (h2 : (AO st)[i + 1]? = some (sa + na, nb, pw2)) (hna : 1 ≤ na) (hnb : 1 ≤ nb) (hz : sa + na + nb ≤ (Av st).size)
    (hk:kindOf st=kd) (hf:Cm st=none) (hS:∀ (k:Nat) x,(Av st)[k]?=some x→S x) (sA:Seg L (Av st) sa na) (sB:Seg L (Av st) (sa+na) nb)
    (hQ:∀ st',SM kd S L st st' (((AO st).setIfInBounds i (sa,na+nb,pw)).eraseIdxIfInBounds (i+1)) sa (na+nb)→Q true st'):wpS M A E s (mergeAt' i) Q st:=by
  refine Ai (DS ?_)
  rw[h1,h2]
  dsimp only
  refine Ai (zly ?_)
  obtain⟨y0,hy0⟩:=zbr (st:=st) (i:=sa+na) (by lia)
  obtain⟨z0,hz0⟩:=zbr (st:=st) (i:=sa+(na - 1)) (by lia)
  refine Ai (zat hy0 ?_)
  have Sy:=hS _ _ hy0
  refine Ai (zbv O (left:=false) (b:=λi=>match (Av st)[sa+i]? with | some x=>!L y0 x | none=>false) hk Sy (λi hi=>?_) (λi j hij hj hb=>?_) (by lia) (λk hkn kt kf=>?_))
  . obtain⟨x,hx⟩:=zbr (st:=st) (i:=sa+i) (by lia)
    refine⟨x,hx,hS _ _ hx,?_⟩
    simp only[hx]
    rfl
  . obtain⟨x,hx⟩:=zbr (st:=st) (i:=sa+i) (by lia)
    obtain⟨y,hy⟩:=zbr (st:=st) (i:=sa+j) (by lia)
    simp only[hx,hy] at hb ⊢
    have e1:=sA i j x y hij hj hx hy
    have e2:L y0 y=false:=by simpa using hb
    rw[O.tr x y y0 (hS _ _ hx) (hS _ _ hy) Sy e1 e2];rfl
  have A1:∀ (i:Nat) x,i<k→(Av st)[sa+i]?=some x→L y0 x=false:=λi x hi hx=>by
    have:=kt i hi
    simp only[hx] at this
    simpa using this
  have A2:∀ (i:Nat) x,k≤i→i<na→(Av st)[sa+i]?=some x→L y0 x=true:=λi x h3 h4 hx=>by
    have:=kf i h3 h4
    simp only[hx] at this
    simpa using this
  dsimp only
  by_cases hk0:(na - k == 0)=true
  . rw[if_pos hk0]
    have ek : k = na := by have : na - k = 0 := by simpa using hk0
                           lia
    refine Ar (hQ _ ⟨hk,rfl,hf,Array.Perm.refl _,λ_ _=>rfl,hS,sA.glue O hS sB (λx y hx hy=>?_) (by lia) hz⟩)
    rw[hy0] at hy;cases hy
    exact A1 (na - 1) x (by lia) hx
  . rw[if_neg hk0]
    have hkl : k < na := by have : na - k ≠ 0 := by simpa using hk0
                            lia
    have hz0':(Av st)[sa+k+(na - k) - 1]?=some z0:=by rw[show sa+k+(na - k) - 1=sa+(na - 1) by lia];exact hz0
    refine Ai (zat hz0' ?_)
    have Sz:=hS _ _ hz0
    refine Ai (zbv O (left:=true) (b:=λi=>match (Av st)[sa+na+i]? with | some x=>L x z0 | none=>false) hk Sz (λi hi=>?_) (λi j hij hj hb=>?_) (by lia) (λm hmn mt mf=>?_))
    . obtain⟨x,hx⟩:=zbr (st:=st) (i:=sa+na+i) (by lia)
      refine⟨x,hx,hS _ _ hx,?_⟩
      simp only[hx]
      rfl
    . obtain⟨x,hx⟩:=zbr (st:=st) (i:=sa+na+i) (by lia)
      obtain⟨y,hy⟩:=zbr (st:=st) (i:=sa+na+j) (by lia)
      simp only[hx,hy] at hb ⊢
      have e1:=sB i j x y hij hj hx hy
      cases q:L x z0 with
      | true=>rfl
      | false =>
        have:=O.tr z0 x y Sz (hS _ _ hx) (hS _ _ hy) q e1
        rw[hb] at this;cases this
    have B1:∀ (i:Nat) y,i<m→(Av st)[sa+na+i]?=some y→L y z0=true:=λi y hi hy=>by
      have:=mt i hi
      simp only[hy] at this
      exact this
    have B2:∀ (i:Nat) y,m≤i→i<nb→(Av st)[sa+na+i]?=some y→L y z0=false:=λi y h3 h4 hy=>by
      have:=mf i h3 h4
      simp only[hy] at this
      exact this
    dsimp only
    have y0z:L y0 z0=true:=A2 (na - 1) z0 (by lia) (by lia) hz0
    have hm0:0<m:=by
      rcases Nat.eq_zero_or_pos m with q | q
      . have:=B2 0 y0 (by lia) (by lia) (by simpa using hy0)
        rw[y0z] at this;cases this
      . exact q
    rw[if_neg (by simp;lia)]
    have exA:sa+na=sa+k+(na - k):=by lia
    have hX:((Av st).extract (sa+k) (sa+na))=(Av st).extract (sa+k) (sa+k+(na - k)):=by rw[← exA]
    have sA':Seg L (Av st) (sa+k) (na - k):=λi j x y hij hj hx hy=>sA (k+i) (k+j) x y (by lia) (by lia) (by rw[show sa+(k+i)=sa+k+i by lia];exact hx) (by rw[show sa+(k+j)=sa+k+j by lia];exact hy)
    have sB':Seg L (Av st) (sa+na) m:=λi j x y hij hj hx hy=>sB i j x y hij (by lia) hx hy
    have T:Two S L ((Av st).extract (sa+k) (sa+k+(na - k))) ((Av st).extract (sa+na) (sa+na+m)):=⟨zhz (by lia) sA',zhz (by lia) sB',(λx hx=>by obtain⟨i,_,e⟩:=zdw (by lia) hx;exact hS _ _ e),(λx hx=>by obtain⟨i,_,e⟩:=zdw (by lia) hx;exact hS _ _ e)⟩
    have zA:0<((Av st).extract (sa+k) (sa+k+(na - k))).size:=by rw[Ci];lia
    have zB:0<((Av st).extract (sa+na) (sa+na+m)).size:=by rw[Ci];lia
    have c0:∀ y,((Av st).extract (sa+na) (sa+na+m))[0]?=some y→∀ x∈((Av st).extract (sa+k) (sa+k+(na - k))).toList,leOf L y x:=λy hy x hx=>by
      rw[zfM (by lia),if_pos hm0] at hy
      rw[Nat.add_zero,hy0] at hy;cases hy
      obtain⟨i,hi,e⟩:=zdw (by lia) hx
      exact O.as y0 x Sy (hS _ _ e) (A2 (k+i) x (by lia) (by lia) (by rw[show sa+(k+i)=sa+k+i by lia];exact e))
    have c1:∀ z,((Av st).extract (sa+k) (sa+k+(na - k)))[((Av st).extract (sa+k) (sa+k+(na - k))).size - 1]?=some z→∀ x∈((Av st).extract (sa+na) (sa+na+m)).toList,leOf L x z:=λz hz' x hx=>by
      have es:((Av st).extract (sa+k) (sa+k+(na - k))).size=na - k:=by rw[Ci];lia
      rw[es,zfM (by lia),if_pos (by lia),show sa+k+(na - k - 1)=sa+(na - 1) by lia,hz0] at hz'
      cases hz'
      obtain⟨i,hi,e⟩:=zdw (by lia) hx
      exact O.as x z0 (hS _ _ e) Sz (B1 i x hi e)
    by_cases hle:na - k≤m
    . rw[if_pos hle]
      refine Ai ?_
      show wpS M A E s (zfB ((Av st).extract (sa+k) (sa+na)) ((Av st).extract (sa+na) (sa+na+m))) _ _
      rw[hX]
      refine zgt O T hk zA zB c0 c1 λr st2 hr hlk=>?_
      refine Ai (BP (Ai (DS (Ar ?_))))
      have hf2:Cm st2=none:=by rw[hlk.2.2.2];exact hf
      have:=hQ (setArr st2 (wr (Av st) (sa+k) r.toList 0)) (SM.write O hna hkl hm0 hmn hz hS sA sB y0 z0 hy0 hz0 A1 B2 hr (by show kindOf st2=kd;rw[hlk.1];exact hk) (by show AO st2=_;rw[hlk.2.2.1]) hf2 rfl)
      have ea:Av st2=Av st:=hlk.2.1
      rw[← ea] at this
      show Q (Cm st2).isNone _
      rw[hf2]
      exact this
    . rw[if_neg hle]
      refine Ai ?_
      show wpS M A E s (zfC ((Av st).extract (sa+k) (sa+na)) ((Av st).extract (sa+na) (sa+na+m))) _ _
      rw[hX]
      refine zgu O T hk zA zB c0 c1 λr st2 hr hlk=>?_
      refine Ai (BP (Ai (DS (Ar ?_))))
      have hf2:Cm st2=none:=by rw[hlk.2.2.2];exact hf
      have:=hQ (setArr st2 (wr (Av st) (sa+k) r.toList 0)) (SM.write O hna hkl hm0 hmn hz hS sA sB y0 z0 hy0 hz0 A1 B2 hr (by show kindOf st2=kd;rw[hlk.1];exact hk) (by show AO st2=_;rw[hlk.2.2.1]) hf2 rfl)
      have ea:Av st2=Av st:=hlk.2.1
      rw[← ea] at this
      show Q (Cm st2).isNone _
      rw[hf2]
      exact this
end
end TS
set_option maxHeartbeats 8000000
namespace TS
open PySem PyProof.Rows
noncomputable abbrev Run:=Nat×Nat×Nat
section
variable {M:Model}{A:A3}{E:Ac->Ae->Prop}{s:Ae}{kd:CI}{S:Keyed->Prop}{L:Keyed->Keyed->Bool}
noncomputable def Runs(L:Keyed->Keyed->Bool)(a:Array Keyed):List Run->Nat->Nat->Prop
 |[],x,y=>x=y
 |r::l,x,y=>r.1=x/\1<=r.2.1/\Seg L a r.1 r.2.1/\Runs L a l (x+r.2.1) y
theorem Runs.le{a:Array Keyed}:∀{l:List Run}{x y:Nat},Runs L a l x y->x+l.length<=y
 |[],x,y,h=>by have:x=y:=h;simp;lia
 |r::l,x,y,h=>by
  have:=Runs.le h.2.2.2;have:=h.2.1;simp only[A5];lia
theorem Seg.cong{a b:Array Keyed}{lo n:Nat}(h:Seg L a lo n)(e:∀k:Nat,lo<=k->k<lo+n->b[k]?=a[k]?):Seg L b lo n:=λi j x y hij hj hx hy =>
 h i j x y hij hj (by rw[<- e _ (by lia) (by lia)];exact hx) (by rw[<- e _ (by lia) (by lia)];exact hy)
theorem Runs.cong{a b:Array Keyed}:∀{l:List Run}{x y:Nat},Runs L a l x y->(∀k:Nat,x<=k->k<y->b[k]?=a[k]?)->Runs L b l x y
 |[],_,_,h,_=>h
 |r::l,x,y,h,e=>by
  have hl:=h.2.2.2.le;have h1:=h.1;exact⟨h.1,h.2.1,h.2.2.1.cong λk h2 h3=>e k (by lia) (by lia),Runs.cong h.2.2.2 λk h2 h3=>e k (by lia) h3⟩
theorem Runs.snoc{a:Array Keyed}:∀{l:List Run}{x y n pw:Nat},Runs L a l x y->1<=n->Seg L a y n->Runs L a (l++[(y,n,pw)]) x (y+n)
 |[],x,y,n,pw,h,hn,hs=>by
  have:x=y:=h;subst this;exact⟨rfl,hn,hs,rfl⟩
 |r::l,x,y,n,pw,h,hn,hs=>⟨h.1,h.2.1,h.2.2.1,Runs.snoc h.2.2.2 hn hs⟩
theorem Runs.pair{a:Array Keyed} : ∀{l:List Run}{x y i sa na pw sb nb pw2:Nat}, Runs L a l x y -> l[i]? = some (sa, na, pw) -> l[i + 1]? = some (sb, nb, pw2) ->
  sb=sa+na/\1<=na/\1<=nb/\x<=sa/\sa+na+nb<=y/\Seg L a sa na/\Seg L a (sa+na) nb /\
  ∀b:Array Keyed,(∀k:Nat,k<sa∨sa+na+nb<=k->b[k]?=a[k]?)->Seg L b sa (na+nb)->Runs L b ((l.set i (sa,na+nb,pw)).eraseIdx (i+1)) x y
 |[],_,_,_,_,_,_,_,_,_,_,h1,_=>by simp at h1
 |[_],_,_,i,_,_,_,_,_,_,_,_,h2=>by simp at h2
 |r::q::l,x,y,0,sa,na,pw,sb,nb,pw2,h,h1,h2=>by
  have e1:r=(sa,na,pw):=AX h1;have e2:q=(sb,nb,pw2):=AX h2;subst e1;subst e2;obtain⟨a1,a2,a3,b1,b2,b3,hr⟩:=h;simp only at a1 a2 a3 b1 b2 b3 hr;subst a1;have hl:=hr.le;refine⟨b1,a2,b2,Am _,by lia,a3,by rw[<- b1];exact b3,λb hb hs=>⟨rfl,by show 1<=na+nb;lia,hs,?_⟩⟩;show Runs L b l (sa+(na+nb)) y;rw[show sa+(na+nb)=sa+na+nb by lia];exact hr.cong λk h3 h4=>hb k (.inr h3)
 |r::q::l,x,y,i+1,sa,na,pw,sb,nb,pw2,h,h1,h2=>by
  obtain⟨a1,a2,a3,hr⟩:=h;obtain⟨c1,c2,c3,c4,c5,c6,c7,c8⟩:=Runs.pair hr (i:=i) (by simpa using h1) (by simpa using h2);refine⟨c1,c2,c3,by lia,c5,c6,c7,λb hb hs=>⟨a1,a2,a3.cong λk h3 h4=>hb k (.inl (by lia)),?_⟩⟩;exact c8 b hb hs
theorem Runs.power{a:Array Keyed}:∀{l:List Run}{x y:Nat}(f:Run->Run) (i:Nat),(∀r,(f r).1=r.1/\(f r).2.1=r.2.1)->Runs L a l x y->Runs L a (l.modify i f) x y
 |[],_,_,f,i,_,h=>by cases i <;> exact h
 |r::l,x,y,f,0,hf,h=>by
  refine⟨by rw[(hf r).1];exact h.1,by rw[(hf r).2];exact h.2.1,by rw[(hf r).1,(hf r).2];exact h.2.2.1,?_⟩;show Runs L a l (x+(f r).2.1) y;rw[(hf r).2];exact h.2.2.2
 |r::l,x,y,f,i+1,hf,h=>⟨h.1,h.2.1,h.2.2.1,Runs.power f i hf h.2.2.2⟩
structure PD (kd:CI) (S:Keyed->Prop) (L:Keyed->Keyed->Bool) (a0:Array Keyed) (st:AG) (lo:Nat):Prop where
 kind:kindOf st=kd
 fail:Cm st=none
 perm:(Av st).Perm a0
 all:∀(k:Nat) x,(Av st)[k]?=some x->S x
 runs:Runs L (Av st) (AO st).toList 0 lo
theorem PD.size{a0:Array Keyed}{st:AG}{lo:Nat}(h:PD kd S L a0 st lo):(Av st).size=a0.size:=h.perm.size_eq
theorem PD.merge(O:LtOk M A E s kd S L){a0:Array Keyed}{st:AG}{lo i:Nat}{Q:Bool -> AG -> Prop}(h:PD kd S L a0 st lo)(hlo:lo <= a0.size)(hi:i + 1 < (AO st).size)
  (hQ:∀st',PD kd S L a0 st' lo->(AO st').size+1=(AO st).size->(∀k:Nat,lo<=k->(Av st')[k]?=(Av st)[k]?)->Q true st'):wpS M A E s (mergeAt' i) Q st:=by
 obtain⟨⟨sa,na,pw⟩,h1⟩:∃r,(AO st)[i]?=some r:=⟨_,Bw (by lia)⟩;obtain⟨⟨sb,nb,pw2⟩,h2⟩:∃r,(AO st)[i+1]?=some r:=⟨_,Bw hi⟩;obtain⟨c1,c2,c3,c4,c5,c6,c7,c8⟩:=h.runs.pair (i:=i) (by rw[Bn];exact h1) (by rw[Bn];exact h2);subst c1;refine zgv O h1 h2 c2 c3 (by rw[h.size];lia) h.kind h.fail h.all c6 c7 λst' sm=>hQ st' ⟨sm.kind,sm.fail,sm.perm.trans h.perm,sm.all,?_⟩ ?_ λk hk=>sm.out k (by lia)
 .rw[sm.pend];have e:(((AO st).setIfInBounds i (sa,na+nb,pw)).eraseIdxIfInBounds (i+1)).toList=((AO st).toList.set i (sa,na+nb,pw)).eraseIdx (i+1):=by simp
  rw[e];exact c8 _ (λk hk=>sm.out k (by lia)) sm.seg
 .rw[sm.pend];have e:(((AO st).setIfInBounds i (sa,na+nb,pw)).eraseIdxIfInBounds (i+1)).toList=((AO st).toList.set i (sa,na+nb,pw)).eraseIdx (i+1):=by simp
  have e2:=congrArg List.length e;rw[List.length_eraseIdx_of_lt (by rw[List.length_set,AB];exact hi),List.length_set,AB,AB]at e2;lia
theorem sortRuns_spec(O:LtOk M A E s kd S L){st:AG}{Q:Unit -> AG -> Prop}(h2 : 2 <= (Av st).size)(hk:kindOf st=kd)(hp:AO st = #[])(hf:Cm st=none)(hS:∀(k:Nat) x, (Av st)[k]? = some x -> S x)
  (hQ:∀st',(Av st').Perm (Av st)->Cm st'=none->Seg L (Av st') 0 (Av st).size->Q () st'):wpS M A E s sortRuns' Q st:=by
 rw[sortRuns'_eq];refine Ai (DS ?_);dsimp only;have pd0:PD kd S L (Av st) st 0:=⟨hk,hf,Array.Perm.refl _,hS,by rw[hp];rfl⟩;generalize ha0:Av st=a0 at h2 pd0 hQ
 refine Ai (Cg (Bs (I:=λx c st'=>∃lo,c=(none,lo)/\(x<=lo∨a0.size<=lo)/\lo<=a0.size/\PD kd S L a0 st' lo)
  (Q:=λc st'=>c=(none,a0.size)/\PD kd S L a0 st' a0.size) ?step ?fin ⟨0,rfl,.inl (Am _),A9 _,pd0⟩) ?post)
 case fin =>
  rintro c st' ⟨lo,rfl,h3,h4,pd⟩;have:lo=a0.size:=by lia
  subst this;exact⟨rfl,pd⟩
 case step =>
  rintro x c st' _ hx ⟨lo,rfl,h3,h4,pd⟩;dsimp only
  by_cases hge:lo ≥ a0.size
  .rw[if_pos hge];have:lo=a0.size:=by lia
   subst this;exact Ar ⟨rfl,pd⟩
  .rw[if_neg hge];refine Ai (zfR O (by lia) (by rw[pd.size];lia) pd.kind pd.all λm st1 sb1 hm1 hm2 sg1=>?_);dsimp only;have pd1:PD kd S L a0 st1 lo:=⟨sb1.kind,by rw[sb1.fail];exact pd.fail,sb1.perm.trans pd.perm,sb1.all,by rw[sb1.pend];exact pd.runs.cong λk _ h5=>sb1.out k (.inl h5)⟩
   by_cases hlt:m<minRun' a0.size a0.size 0
   .rw[if_pos hlt];refine Ai (wpS_lift (CH ⟨rfl,?_⟩));refine Ai (zen O hm1 (by lia) (by rw[pd1.size];lia) pd1.kind pd1.all sg1 λst2 sb2 sg2=>?_)
    try dsimp only
    rw[if_neg (by decide)];have pdX:PD kd S L a0 st2 lo:=⟨sb2.kind,by rw[sb2.fail];exact pd1.fail,sb2.perm.trans pd1.perm,sb2.all,by rw[sb2.pend];exact pd1.runs.cong λk _ h5=>sb2.out k (.inl h5)⟩;have sgX:=sg2;refine Ai (DS ?_)
    cases hb:(AO st2).back? with
    |none =>
     try dsimp only
     refine Ai (BP (Ar ⟨lo+min (a0.size-lo) (minRun' a0.size a0.size 0),rfl,.inl (by lia),by lia,?_⟩));refine⟨pdX.kind,pdX.fail,pdX.perm,pdX.all,?_⟩;show Runs L (Av st2) ((AO st2).push (lo,min (a0.size-lo) (minRun' a0.size a0.size 0),0)).toList 0 (lo+min (a0.size-lo) (minRun' a0.size a0.size 0));rw[CT];exact pdX.runs.snoc (by lia) sgX
    |some r =>
     obtain⟨s1,n1,p1⟩:=r
     try dsimp only
     refine Ai (Cg (Bs (I:=λy c st3=>c=(none,())/\PD kd S L a0 st3 lo/\Seg L (Av st3) lo (min (a0.size-lo) (minRun' a0.size a0.size 0))) (Q:=λc st3=>c=(none,())/\PD kd S L a0 st3 lo/\Seg L (Av st3) lo (min (a0.size-lo) (minRun' a0.size a0.size 0))) ?stepI ?finI ⟨rfl,pdX,sgX⟩) ?postI)
     case finI =>
      rintro c st3 hh;exact hh
     case stepI =>
      rintro y c st3 _ _ ⟨rfl,pd3,sg3⟩;refine Ai (DS ?_)
      by_cases hsz:(AO st3).size > 1
      .rw[if_pos hsz];obtain⟨⟨u1,u2,older⟩,hu⟩:∃r,(AO st3)[(AO st3).size-2]?=some r:=⟨_,Bw (by lia)⟩;rw[hu]
       try dsimp only
       by_cases hol:older<=power' a0.size (2*s1+n1) (2*s1+n1+n1+min (a0.size-lo) (minRun' a0.size a0.size 0)) a0.size
       .rw[if_pos hol];exact Ar ⟨rfl,pd3,sg3⟩
       .rw[if_neg hol];refine Ai (pd3.merge O (by lia) (by lia) λst4 pd4 _ ho=>?_)
        try dsimp only
        rw[if_neg (by decide)];exact Ar ⟨rfl,pd4,sg3.cong λk h5 _=>ho k h5⟩
      .rw[if_neg hsz];exact Ar ⟨rfl,pd3,sg3⟩
     case postI =>
      rintro c st3 ⟨rfl,pd3,sg3⟩
      try dsimp only
      refine Ai (BP (Ai (BP (Ar ⟨lo+min (a0.size-lo) (minRun' a0.size a0.size 0),rfl,.inl (by lia),by lia,?_⟩))));refine⟨pd3.kind,pd3.fail,pd3.perm,pd3.all,?_⟩;show Runs L (Av st3) (((AO st3).modify ((AO st3).size-1) _).push (lo,min (a0.size-lo) (minRun' a0.size a0.size 0),0)).toList 0 (lo+min (a0.size-lo) (minRun' a0.size a0.size 0));rw[CT,Array.toList_modify];refine Runs.snoc (Runs.power _ _ ?_ pd3.runs) (by lia) sg3;exact λr=>⟨rfl,rfl⟩
   .rw[if_neg hlt];have pdX:=pd1;have sgX:=sg1;refine Ai (DS ?_)
    cases hb:(AO st1).back? with
    |none =>
     try dsimp only
     refine Ai (BP (Ar ⟨lo+m,rfl,.inl (by lia),by lia,?_⟩));refine⟨pdX.kind,pdX.fail,pdX.perm,pdX.all,?_⟩;show Runs L (Av st1) ((AO st1).push (lo,m,0)).toList 0 (lo+m);rw[CT];exact pdX.runs.snoc (by lia) sgX
    |some r =>
     obtain⟨s1,n1,p1⟩:=r
     try dsimp only
     refine Ai (Cg (Bs (I:=λy c st3=>c=(none,())/\PD kd S L a0 st3 lo/\Seg L (Av st3) lo (m)) (Q:=λc st3=>c=(none,())/\PD kd S L a0 st3 lo/\Seg L (Av st3) lo (m)) ?stepI ?finI ⟨rfl,pdX,sgX⟩) ?postI)
     case finI =>
      rintro c st3 hh;exact hh
     case stepI =>
      rintro y c st3 _ _ ⟨rfl,pd3,sg3⟩;refine Ai (DS ?_)
      by_cases hsz:(AO st3).size > 1
      .rw[if_pos hsz];obtain⟨⟨u1,u2,older⟩,hu⟩:∃r,(AO st3)[(AO st3).size-2]?=some r:=⟨_,Bw (by lia)⟩;rw[hu]
       try dsimp only
       by_cases hol:older<=power' a0.size (2*s1+n1) (2*s1+n1+n1+m) a0.size
       .rw[if_pos hol];exact Ar ⟨rfl,pd3,sg3⟩
       .rw[if_neg hol];refine Ai (pd3.merge O (by lia) (by lia) λst4 pd4 _ ho=>?_)
        try dsimp only
        rw[if_neg (by decide)];exact Ar ⟨rfl,pd4,sg3.cong λk h5 _=>ho k h5⟩
      .rw[if_neg hsz];exact Ar ⟨rfl,pd3,sg3⟩
     case postI =>
      rintro c st3 ⟨rfl,pd3,sg3⟩
      try dsimp only
      refine Ai (BP (Ai (BP (Ar ⟨lo+m,rfl,.inl (by lia),by lia,?_⟩))));refine⟨pd3.kind,pd3.fail,pd3.perm,pd3.all,?_⟩;show Runs L (Av st3) (((AO st3).modify ((AO st3).size-1) _).push (lo,m,0)).toList 0 (lo+m);rw[CT,Array.toList_modify];refine Runs.snoc (Runs.power _ _ ?_ pd3.runs) (by lia) sg3;exact λr=>⟨rfl,rfl⟩
 case post =>
  rintro c st1 ⟨rfl,pd1⟩
  try dsimp only
  have hlen:(AO st1).size<=a0.size:=by have:=pd1.runs.le;rw[AB]at this;lia
  refine Ai (Cg (Bs (I:=λx c st2=>c=(none,())/\PD kd S L a0 st2 a0.size/\((AO st2).size+x<=a0.size+1))
   (Q:=λc st2=>c=(none,())/\PD kd S L a0 st2 a0.size/\(AO st2).size<=1) ?step ?fin ⟨rfl,pd1,by lia⟩) ?post)
  case fin =>
   rintro c st2 ⟨rfl,pd2,h5⟩;exact⟨rfl,pd2,by lia⟩
  case step =>
   rintro x c st2 _ hx ⟨rfl,pd2,h5⟩;refine Ai (DS ?_)
   try dsimp only
   by_cases hle:(AO st2).size<=1
   .rw[if_pos hle];exact Ar ⟨rfl,pd2,hle⟩
   .rw[if_neg hle];refine Ai (pd2.merge O (Am _) ?_ λst3 pd3 hs3 _=>?_)
    .have le':∀(c:Prop) [Decidable c] (p q:Nat),(if c then p else q)<=max p q:=λc _ p q=>by split <;> lia
     have:=le' (Option.any (λx=>decide (x<(AO st2)[(AO st2).size-2+1]?.elim 0 λx=>x.snd.fst)) (if (AO st2).size-2 > 0 then Option.map (λx=>x.snd.fst) (AO st2)[(AO st2).size-2-1]? else none)=true) ((AO st2).size-2-1) ((AO st2).size-2);lia
    .try dsimp only
     rw[if_neg (by decide)];exact Ar ⟨rfl,pd3,by lia⟩
  case post =>
   rintro c st2 ⟨rfl,pd2,h5⟩;refine Ar (hQ st2 pd2.perm pd2.fail ?_);have hr:=pd2.runs
   cases hl:(AO st2).toList with
   |nil =>
    rw[hl]at hr;have:0=a0.size:=hr;lia
   |cons r l =>
    have hll:(AO st2).toList.length<=1:=by rw[AB];exact h5
    rw[hl]at hll hr;have:l=[]:=List.length_eq_zero_iff.mp (by simp at hll;simpa using hll);subst this;obtain⟨c1,c2,c3,c4⟩:=hr;have c4':0+r.2.1=a0.size:=c4;rw[c1,show r.2.1=a0.size by lia]at c3;exact c3
end
end TS
namespace L2
open PySem PySem.Spec PyProof.Rows
theorem zgl{α β:Type}{f:α->β}{xs ys:List β}(p:ys.Perm xs):∀{l:List α},xs=l.map f->∃l':List α,l'.Perm l/\ys=l'.map f:=by
 induction p with
 |nil=>intro l h;exact⟨l,List.Perm.refl _,h⟩
 |cons v _ ih =>
  intro l h
  match l,h with
  |x::l,h =>
   injection h with h1 h2;obtain⟨l',p',e⟩:=ih h2;exact⟨x::l',p'.cons x,by rw[e,h1];rfl⟩
 |swap a b r =>
  intro l h
  match l,h with
  |x::y::l,h =>
   injection h with h1 h2;injection h2 with h2 h3;exact⟨y::x::l,List.Perm.swap _ _ _,by rw[h1,h2,h3];rfl⟩
 |trans _ _ ih1 ih2 =>
  intro l h;obtain⟨l1,p1,h1⟩:=ih2 h;obtain⟨l2,p2,h2⟩:=ih1 h1;exact⟨l2,p2.trans p1,h2⟩
section
variable {X:Cx}{pins:List (Addr×Obj)}{σ:St}{H:Hp}{s:Ae}{D st:Addr}{e:Nat}{κV:Nat->List V}{ks:List Addr}{E:Ac->Ae->Prop}
noncomputable def Ordd(κ:Nat->List Int)(n:Nat)(p:Array Nat):Prop:=RK.Pm n p/\p.toList.Pairwise λi j=>HT.lexLt (κ j) (κ i)=false
noncomputable def zgx(κ:Nat->List Int)(ks:List Addr):Ac->List Int
 |.ref a=>κ (ks.idxOf a)
 |_=>[]
theorem zme{vs:List Ac}{κ : Nat -> List Int}(K:SK X pins σ H s D st e κV ks)(hl:ks.length=vs.length)(h2 : 2 <= vs.length)
  (hcol:∀i j,i<ks.length->j<ks.length->∃n m r q rn rm,κV i=.int n::r/\κV j=.int m::q/\VCols r q rn rm/\κ i=n::rn/\κ j=m::rm) :
  zik X (Ordd κ vs.length) (ks.map Aw) vs E s:=by
 unfold zik
 obtain⟨fs,kt,hfl,hfi⟩:=zjG (as:=[]) (vs:=[]) K.inv (ks:=ks) (ns:=(BS ks.length).map λi=>((κ i).headD 0)) (λi a ha=>by
  have hi:i<ks.length:=(Ad.mp ha).1;obtain⟨n,m,r,q,rn,rm,e1,_,_,e2,_⟩:=hcol i i hi hi;refine⟨n,r,?_,?_⟩
  .rw[AC,List.getElem?_range hi,De,e2];rfl
  .rw[<- e1];exact K.hk i a ha) (by simp)
 refine W.kat_kind (T:=.type "int") kt (by lia) (λv hv=>?_) rfl ⟨rfl,?_⟩
 .obtain⟨n,t,rfl⟩:=hfi v hv;exact .now
 have hl':(ks.map Aw).length=vs.length:=by simp[hl]
 have hsz0:((ks.map Aw).toArray.zip vs.toArray).size=vs.length:=by simp[hl]
 generalize hZ:(ks.map Aw).toArray.zip vs.toArray=Z at hsz0;have hsz:Z.size=vs.length:=hsz0
 have kap:∀i (hi:i<ks.length),zgx κ ks (Aw ks[i])=κ i:=λi hi=>by
  have hj:ks.idxOf ks[i]<ks.length:=List.idxOf_lt_length_iff.mpr (Bi hi);have ej:ks[ks.idxOf ks[i]]=ks[i]:=List.getElem_idxOf hj;obtain⟨n,m,r,q,rn,rm,e1,e2,vc,e3,e4⟩:=hcol (ks.idxOf ks[i]) i hj hi;have k1:=K.hk (ks.idxOf ks[i]) ks[i] (by rw[Aa hj,ej]);have k2:=K.hk i ks[i] (Aa hi);have eq:=K.inv.tuple_inj k1 k2;show κ (ks.idxOf ks[i])=κ i;rw[e1,e2]at eq;injection eq with q1 q2;injection q1 with q1;subst q1;subst q2;rw[e3,e4]
  congr 1
  have same:∀{xs:List V} {as bs:List Int},VCols xs xs as bs->as=bs:=λ{xs}=>by
   induction xs with
   |nil=>intro as bs h;cases h;rfl
   |cons x xs ih =>
    intro as bs h
    cases h with
    |cons c h=>cases c <;> rw[ih h]
  exact same vc
 have itm:∀i,i<vs.length->Dy Z i=(Aw (ks.getD i 0),vs.getD i Cq):=λi hi=>by
  rw[<- hZ,W.kat_item hl'];have:(ks.map Aw).getD i Cq=Aw (ks.getD i 0):=by simp[show i<ks.length by lia]
  rw[this]
 have O:TS.LtOk (Ay X.prog X.w) X.A.in1.in1 E s (tuples' true) (λx=>∃i,i<ks.length/\x.1=Aw (ks.getD i 0)) (λx y=>HT.lexLt (zgx κ ks x.1) (zgx κ ks y.1)):=by
  refine⟨λx y hx hy st' Q hk q=>?_,λx y z _ _ _ h1 h2=>?_,λx y _ _ h=>HT.lexLt_asym h⟩
  .obtain⟨i,hi,ex⟩:=hx;obtain⟨j,hj,ey⟩:=hy;have gi:ks.getD i 0=ks[i]:=by simp[hi]
   have gj:ks.getD j 0=ks[j]:=by simp[hj]
   rw[gi]at ex;rw[gj]at ey;rw[ex,ey,kap i hi,kap j hj]at q;rw[lt'_eq];refine Ai (DS ?_);rw[hk,ex,ey];obtain⟨n,m,r,q',rn,rm,e1,e2,vc,e3,e4⟩:=hcol i j hi hj;have k1:=K.hk i ks[i] (Aa hi);have k2:=K.hk j ks[j] (Aa hj);rw[e1]at k1;rw[e2]at k2;obtain⟨its,rv,⟨o,ho,hcl,c,hd⟩,_⟩:=K.inv.tuple k1;obtain⟨its2,rv2,⟨o2,ho2,hcl2,c2,hd2⟩,_⟩:=K.inv.tuple k2;refine Ai (wpS_lift (wpAny_attempt (W.kat_lt ho hd ho2 hd2 ?_)))
   cases rv with
   |cons rx rr =>
    cases rv2 with
    |cons rx2 rr2 =>
     obtain⟨t1,rfl⟩:=rx;obtain⟨t2,rfl⟩:=rx2;have cs:=vc.vals rr rr2
     have hlen:∀{us vs:List Ac} {as bs:List Int},RK.Cols us vs as bs->us.length=vs.length:=λc=>by induction c with
      |nil=>rfl
      |cons _ _ ih=>simp[ih]
     simp only[Au,A5,hlen cs,CA,decide_false];refine RK.kat_cols0 cs ?_
     rw[e3,e4]at q;exact⟨rfl,Ar q⟩
  .cases q:HT.lexLt (zgx κ ks z.1) (zgx κ ks x.1) with
   |false=>rfl
   |true =>
    have:=HT.lexLt_of_not_lt_lt h2 q;rw[h1]at this;cases this
 have run:=TS.sortRuns_spec O (st:=SortSt.mk' (tuples' true) Z #[] 7 none) (Q:=λ_ st'=>Cm st'=none/\∃p:Array Nat,Ordd κ vs.length p/\p.size=vs.length/\Av st'=p.map (Dy Z))
  (by show 2<=Z.size;lia) rfl rfl rfl (λk x hx=>?_) (λst' hp hf hs=>?_)
 .exact BY run (λr s' h=>⟨h.1,h.2⟩) λ_ _ z=>z
 .have hk':k<vs.length:=by rw[<- hsz];exact (Bl.mp hx).1
  have hx':Z[k]?=some x:=hx
  have e1:Dy Z k=x:=by unfold Dy;rw[Array.getD_eq_getD_getElem?,hx'];rfl
  rw[itm k hk']at e1;exact⟨k,by lia,by rw[<- e1]⟩
 .refine⟨hf,?_⟩;have hp':(Av st').Perm Z:=hp;have hrng:=W.kas_range Z;rw[hsz]at hrng;obtain⟨l,pl,el⟩:=zgl (Array.perm_iff_toList_perm.mp hp') (l:=BS vs.length) (f:=Dy Z) (by have:=congrArg Array.toList hrng;simpa using this.symm);have hll:l.length=vs.length:=by rw[pl.length_eq,List.length_range]
  refine⟨l.toArray,⟨?_,?_⟩,by simpa using hll,?_⟩
  .exact Array.perm_iff_toList_perm.mpr (by simpa using pl)
  .rw[CN];intro i j hi hj hij;have hi':i<l.length:=by simpa using hi
   have hj':j<l.length:=by simpa using hj
   have ai:(Av st')[i]?=some (Dy Z l[i]):=by rw[<- Bn,el,AC,Aa hi'];rfl
   have aj:(Av st')[j]?=some (Dy Z l[j]):=by rw[<- Bn,el,AC,Aa hj'];rfl
   have li:l[i]<vs.length:=List.mem_range.mp (pl.mem_iff.mp (Bi hi'));have lj:l[j]<vs.length:=List.mem_range.mp (pl.mem_iff.mp (Bi hj'));have:=hs i j _ _ (by lia) (by show j<Z.size;lia) (by rw[Cy];exact ai) (by rw[Cy];exact aj);rw[itm _ li,itm _ lj]at this;have g1:ks.getD l[i] 0=ks[l[i]]'(by lia):=by simp[show l[i]<ks.length by lia]
   have g2:ks.getD l[j] 0=ks[l[j]]'(by lia):=by simp[show l[j]<ks.length by lia]
   simp only[g1,g2]at this;rw[kap _ (by lia),kap _ (by lia)]at this;simpa using this
  .apply Array.toList_inj.mp
   rw[el];simp
end
section
variable {X:Cx}{x:Str}{p pos kp kpos:Pos}{e:Expr}{te:TE}{k:Nat}{f:Addr}{fd:BM}{ps:List Str}{sp:Sp}{fn:Str}
noncomputable def zmn(K:W.Frag)(te:TE)(sp:Sp):TE:=λσ H Q=>te σ H λv H1=>∃l xs,∃ κV:Nat->List V,∃ κ:Nat->List Int,[v]=[V.ref l]/\SqL K H1 l xs/\xs.length<=1000 /\
 (∀i x H2,xs[i]?=some x->Same H1 H2->sp [x] H2 (λv H'=>Same H2 H'/\∃a,v=.ref a/\SqT K H' a (κV i)) E0) /\
 (∀i j,i<xs.length->j<xs.length->∃n m r q rn rm,κV i=.int n::r/\κV j=.int m::q/\VCols r q rn rm/\κ i=n::rn/\κ j=m::rm)/\∀(p:List Nat) D H',p.Perm (BS xs.length)->p.Pairwise (λi j=>HT.lexLt (κ j) (κ i)=false)->H1 D=none->Same H1 H'->H' D=some (.lst (p.map λi=>xs.getD i .non))->Q (.ref D) H'
theorem zkw (F:FnOk X.prog X.w X.K X.mg X.base CX0 k f fd ps sp) (hr:Room (k + 1 + 1) X.A) (hb:Binds X.K fd ps []) (hg:Gl X "sorted") (hm:X.mg "sorted" = none) (hgf:Gl X fn) (hmf:X.mg fn=some (.ref f)) (he:PE X e te)
  (hdb:(fn == ("__debug__" : Str))=false:=by decide) (hse:Bx [e] X.env=[(false,eval e X.env)]:=by rfl) (hh:X.calm=true:=by rfl)
  (hall:(DK pos (CC [⟨some "key",.Name fn kp,kpos⟩] X.env)).all (·.1.isSome)=true:=by rfl) (hkw:(DK pos (CC [⟨some "key",.Name fn kp,kpos⟩] X.env)).any (·.1.isNone)=false:=by rfl)
  (hks:(DK pos (CC [⟨some "key",.Name fn kp,kpos⟩] X.env)).filterMap (·.1)=[BD "key"]:=by rfl) :
  PE X (.Call (.Name "sorted" p) [e] [⟨some "key",.Name fn kp,kpos⟩] pos) (zmn X.K te sp):=by
 intro pins s σ H Q I h;refine C6 (zeZ I hg hm boot_sorted ?_ (by decide) (by decide));refine callWith_kw (thn (zah he zab (hs:=hse) pos pins s σ H (λvs H1=>∃l xs,∃ κV:Nat->List V,∃ κ:Nat->List Int,vs=[V.ref l]/\SqL X.K H1 l xs/\xs.length<=1000 /\
 (∀i x H2,xs[i]?=some x->Same H1 H2->sp [x] H2 (λv H'=>Same H2 H'/\∃a,v=.ref a/\SqT X.K H' a (κV i)) E0) /\
 (∀i j,i<xs.length->j<xs.length->∃n m r q rn rm,κV i=.int n::r/\κV j=.int m::q/\VCols r q rn rm/\κ i=n::rn/\κ j=m::rm)/\∀(p:List Nat) D H',p.Perm (BS xs.length)->p.Pairwise (λi j=>HT.lexLt (κ j) (κ i)=false)->H1 D=none->Same H1 H'->H' D=some (.lst (p.map λi=>xs.getD i .non))->Q (.ref D) H') I ?_) λus s1 ⟨vs,H1,I1,r,q⟩=>?_) (by rw[hse];rfl) (by rw[hse];rfl) hall hkw
 .show te σ H _;exact h
 .obtain⟨l,xs,κV,κ,rfl,hq,h64,turn,hcol,hQ⟩:=q;obtain⟨u,rfl,ru⟩:=Vals.one r
  cases (show u=Aw l from ru)
  refine thn (zjj (nm:=some "key") (kpos:=kpos) (zd5 (v:=.ref f) hgf hmf rfl hdb) zlj pos pins s1 σ H1 (λzs H2=>zs=[.ref f]/\H2=H1) I1 ⟨rfl,rfl⟩) λws s2 ⟨zs,H2,I2,rz,q2⟩=>?_
  obtain⟨rfl,rfl⟩:=q2;obtain⟨u2,rfl,ru2⟩:=Vals.one rz
  cases (show u2=Aw f from ru2)
  rw[hks];refine ziH (G:=Ordd κ xs.length) (zmU F hr hb turn) hq (λp hp i hi=>?_) (λh2=>⟨Array.Perm.refl _,?_⟩) (λ{vs ks H' s' D st e} r' K' hks h2=>?_) (λp D H' g hp hD hS hH=>hQ p.toList D H' ?_ g.2 hD hS hH) I2
  .have:=hp.1.mem_iff.mp (show i∈p by simpa using hi);simpa using this
  .rw[CN];intro i j hi hj hij;simp at hi hj;lia
  .have hlx:xs.length=vs.length:=r'.length;rw[hlx];exact zme K' hks h2 λi j hi hj=>hcol i j (by lia) (by lia)
  .have:=Array.perm_iff_toList_perm.mp g.1;simpa using this
end
section
variable {prog:AR}{w:Be}{A:A3}{R:Result->Ae->Prop}{s:Ae}
theorem zdJ{elt:Expr}{c0:Comprehension}{target iter:Expr}{ifs:List Expr}{rest:List Comprehension}{scope:Scope}{pos:Pos}{it acc:Ac}{env:Env}
  (h0:Co (Ay prog w) A (.compLoop (.ListComp elt (c0::⟨target,iter,ifs,0⟩::rest) scope pos) 1 it acc env) R s)
  (h:At (Ay prog w) A (pyIter it) (λit' s'=>Co (Ay prog w) A (.compLoop (.ListComp elt (c0::⟨target,iter,ifs,0⟩::rest) scope pos) 1 it' acc env) R s') (notedBy (Ay prog w) A env λx s'=>R (.error x) s') s) :
  Co (Ay prog w) A (.compStart (.ListComp elt (c0::⟨target,iter,ifs,0⟩::rest) scope pos) 1 it acc env) R s:=by
 refine codeAny_of_tree ?_
 show At _ _ ((compStart (.ListComp elt (c0::⟨target,iter,ifs,0⟩::rest) scope pos) 1 it acc env).onRaise (λx=>do noteFrame x env;standAt theWindowsPlace)) _ _ s;refine wpAny_notedAt ?_
 unfold compStart;show At _ _ (ask >>= _) _ _ s;refine Ab (wpAny_askSetting (wpAny_ite ?_));split
 .first
   |exact Af (And.intro rfl h0)
   |exact Ab (Af (Af (And.intro rfl h0)))
 .refine Ab (CH ?_);show At _ _ (standAt iter.pos >>= _) _ _ s;exact Ab (CB (Ab (BY h (λit' s' h'=>Af (And.intro rfl h')) λ_ _ z=>z)))
end
section
variable {X:Cx}{osc:Scope}{N:List Str}{sc:Scope}{N':List Str}{sel:List (Option Nat)}{pos:Pos}{elt kx vx tg iter tg2 iter2:Expr}{ifs ifs2:List Expr}{wi wi2:TI}{g g2:TG}{tt tt2:TT}{te tk tv:TE}
noncomputable def tNest(wi2:TI)(g2:TG)(tb:TS):TS:=λD σ H=>wi2 σ H λJ H1=>zb9 J g2 tb { nx:=D.nx,rt:=λ_ _=>False } σ H1
theorem zlR{Y:Cx}{p:Addr}(hc:Y.calm=true)(hx:Y.xe=λ_ _ => False)(hi2:PI Y tg2 iter2 wi2)(hg2:PG Y tg2 g2)(ht2:PTs Y ifs2 tt2)(he:PE Y elt te)(hs2:∀x, Bm iter2 Y.env x=pure x) :
  PB Y (do
   let x <- eval iter2 Y.env
   standAt iter2.pos
   let x <- Bm iter2 Y.env x
   let _ <- runOwn (.compStart (.ListComp elt [⟨tg,iter,ifs,0⟩,⟨tg2,iter2,ifs2,0⟩] sc pos) 1 (<- DP [x] (pyIter x)) (.ref p) Y.env) Y.env) (tNest wi2 g2 (tIfs tt2 (zca p te))):=by
 intro pins s σ H D I h;refine Ab (thn (hi2 pins s σ H _ I h) λv s1 h1=>?_);refine Ab (CB ?_);rw[hs2];refine Ab (Af ?_);refine Ab (Bo (thn h1 λitv s2 h2=>?_));obtain⟨it,fp,tn,J,H2,e,I2,T,st2,f2,h2⟩:=h2;subst e
 have loop:Co (Ay Y.prog Y.w) Y.A (.compLoop (.ListComp elt [⟨tg,iter,ifs,0⟩,⟨tg2,iter2,ifs2,0⟩] sc pos) 1 (.ref it) (.ref p) Y.env) (λr s'=>match r with |.ok f=>At (Ay Y.prog Y.w) Y.A (pure ()) (λ_ s'=>∃ σ' H',Inv Y pins σ' H' s'/\D.nx σ' H') Y.xe s' |.error e=>cameBackBy (Ay Y.prog Y.w) Y.A Y.env Y.xe e s') s2 :=
  zdm (X:=Y) (p:=iter2.pos) (inner:=do let _ <- call (.builtin "list.append") [.ref p,<- eval elt Y.env]) rfl rfl rfl (λB {α t Q E s} h w=>by subst h;exact w) hc hx hg2 ht2 (zjp he) I2 T st2 f2 h2 λfl s' ⟨σ',H',I',_,q⟩=>Af ⟨σ',H',I',q⟩
 refine Ab (wpAny_runOwn (zdJ loop (T.self _ 0 _ _ _ st2 loop)))
theorem zgD{env:Env}{it p:Addr} : compTurn (.ListComp elt [⟨tg, iter, ifs, 0⟩, ⟨tg2, iter2, ifs2, 0⟩] sc pos) 0 (.ref it) (.ref p) env=(do
   standAt iter.pos
   match <- pyNext (.ref it) with
   |none=>pure (.done .next)
   |some v =>
    DQ tg (.ref it) v
    Ds tg env v
    let mut ok:=true
    for c in ifs do
     if ok then ok <- isTrue c env (eval c env)
    if ok then
     (do
      let x <- eval iter2 env
      standAt iter2.pos
      let x <- Bm iter2 env x
      let _ <- runOwn (.compStart (.ListComp elt [⟨tg,iter,ifs,0⟩,⟨tg2,iter2,ifs2,0⟩] sc pos) 1 (<- DP [x] (pyIter x)) (.ref p) env) env)
    again (.compLoop (.ListComp elt [⟨tg,iter,ifs,0⟩,⟨tg2,iter2,ifs2,0⟩] sc pos) 0 (.ref it) (.ref p) env)):=by
 unfold compTurn;simp only[bind_assoc,pure_bind];rfl
theorem ze1{it:Addr}{fp:List Addr}{tn:Nat -> Heap -> Prop}{J:It}(T:Turn X.prog X.w X.K tg J fp it tn)(hc:X.calm=true)(hg:InBlk X sc N' λY => PG Y tg g)(ht:InBlk X sc N' λY => PTs Y ifs tt)
  (hi2:InBlk X sc N' λY=>PI Y tg2 iter2 wi2) (hg2:InBlk X sc N' λY=>PG Y tg2 g2) (ht2:InBlk X sc N' λY=>PTs Y ifs2 tt2) (he:InBlk X sc N' λY=>PE Y elt te) (hs2:∀cl C x,Bm iter2 (CS sc cl C X.env) x=pure x) :
  ∀cl C s0 H0 ex p pins s σ H Dn R,Inv (blk X sc cl C N' s0 H0 ex) pins σ H s->tn 0 s.heap->(∀b∈fp,FpOk (blk X sc cl C N' s0 H0 ex) pins H b)->zb9 J g (tIfs tt (tNest wi2 g2 (tIfs tt2 (zca p te)))) Dn σ H ->
   (∀fl s',(∃ σ' H',Inv (blk X sc cl C N' s0 H0 ex) pins σ' H' s'/\(∀b∈fp,H' b=none)/\Dn.nx σ' H')->R (.ok fl) s')->Co (Ay X.prog X.w) X.A (.compLoop (.ListComp elt [⟨tg,iter,ifs,0⟩,⟨tg2,iter2,ifs2,0⟩] sc pos) 0 (.ref it) (.ref p) (CS sc cl C X.env)) R s :=
 λcl C s0 H0 ex p pins s σ H Dn R I st f W hR =>
  zdm (X:=blk X sc cl C N' s0 H0 ex) (p:=iter.pos) (inner:=do
   let x <- eval iter2 (CS sc cl C X.env)
   standAt iter2.pos
   let x <- Bm iter2 (CS sc cl C X.env) x
   let _ <- runOwn (.compStart (.ListComp elt [⟨tg,iter,ifs,0⟩,⟨tg2,iter2,ifs2,0⟩] sc pos) 1 (<- DP [x] (pyIter x)) (.ref p) (CS sc cl C X.env)) (CS sc cl C X.env))
   rfl rfl zgD (λB {α t Q E s} h w=>by subst h;exact w) hc rfl (hg _ _ _ _ _) (ht _ _ _ _ _) (zlR (Y:=blk X sc cl C N' s0 H0 ex) hc rfl (hi2 _ _ _ _ _) (hg2 _ _ _ _ _) (ht2 _ _ _ _ _) (he _ _ _ _ _) (hs2 cl C)) I T st f W hR
noncomputable def zlE(wi:TI)(sel:List (Option Nat))(g:TG)(tt:TT)(wi2:TI)(g2:TG)(tt2:TT)(te:TE):TE:=λσ H Q=>wi σ H λJ H1=>∀p,H1 p=none ->
 zb9 J g (tIfs tt (tNest wi2 g2 (tIfs tt2 (zca p te)))) { nx:=λ_ H'=>Q (.ref p) H',rt:=λ_ _=>False } (selSt sel σ) (upd H1 p (.lst []))
noncomputable def zlJ(wi:TI)(sel:List (Option Nat))(g:TG)(tt:TT)(wi2:TI)(g2:TG)(tt2:TT)(te:TE)(i:Nat):TS:=λD σ H=>wi σ H λJ H1=>∀p,H1 p=none ->
 zb9 J g (tIfs tt (tNest wi2 g2 (tIfs tt2 (zca p te)))) { nx:=λ_ H'=>D.nx (σ.set i (some (.ref p))) H',rt:=λ_ _=>False } (selSt sel σ) (upd H1 p (.lst []))
theorem zjn(B:BlkOk osc N sc N' sel)(hi:PI X tg iter wi)(hg:InBlk X sc N' λY => PG Y tg g)(ht:InBlk X sc N' λY => PTs Y ifs tt)(hi2:InBlk X sc N' λY => PI Y tg2 iter2 wi2)(hg2:InBlk X sc N' λY => PG Y tg2 g2)(ht2:InBlk X sc N' λY => PTs Y ifs2 tt2)(he:InBlk X sc N' λY => PE Y elt te)(hs2:∀cl C x, Bm iter2 (CS sc cl C X.env) x=pure x)
  (ho:X.env.scope=osc:=by rfl) (hN:X.N=N:=by rfl) (hc:X.calm=true:=by rfl) (hs:∀x,Bm iter X.env x=pure x:=by intro _;rfl) :
  PE X (.ListComp elt [⟨tg,iter,ifs,0⟩,⟨tg2,iter2,ifs2,0⟩] sc pos) (zlE wi sel g tt wi2 g2 tt2 te):=by
 intro pins s σ H Q I h;obtain⟨cl,Cl⟩:=ze4 I.ok B ho;rw[eval_ListComp];refine B4 (use:=none) rfl hs Cl.run B.kind B.names (thn (hi pins s σ H _ I h) λv s1 h1=>thn h1 λitv s2 h2=>?_);obtain⟨it,fp,tn,J,H2,e,I2,T,st2,f2,h2⟩:=h2;subst e
 refine Bh (zce (e:=.ListComp elt [⟨tg,iter,ifs,0⟩,⟨tg2,iter2,ifs2,0⟩] sc pos) (inner:=λ_ _=>pure ()) (D:=λp=>{ nx:=λ_ H'=>Q (.ref p) H',rt:=λ_ _=>False }) (tb:=λp=>tNest wi2 g2 (tIfs tt2 (zca p te))) (use:=none) B ho hN hc (λacc env R s a b=>C9 a b)
  (ze1 (iter:=iter) (pos:=pos) T hc hg ht hi2 hg2 ht2 he hs2) I2 T st2 f2 zfE rfl (h2 _ (I2.hok.fresh (Am _))) (λC H' s' I3 fC hn hq=>?_) s2.toks cl Cl X.xe)
 obtain⟨m,hn⟩:=hn;obtain⟨_,hq⟩:=hq;exact⟨m,hn,λh' hs'=>⟨.ref s2.heap.objs.size,H',I3.let_go fC hs',rfl,hq⟩⟩
theorem zjg{i:Nat}{x:Str}{px spos:Pos}(B:BlkOk osc N sc N' sel)(hnd:X.N.Nodup)(hi':X.N[i]? = some x)(hx:Loc X.env.scope x)(hi:PI X tg iter wi)(hg:InBlk X sc N' λY => PG Y tg g)(ht:InBlk X sc N' λY => PTs Y ifs tt)(hi2:InBlk X sc N' λY => PI Y tg2 iter2 wi2)(hg2:InBlk X sc N' λY => PG Y tg2 g2)(ht2:InBlk X sc N' λY => PTs Y ifs2 tt2)(he:InBlk X sc N' λY => PE Y elt te)(hs2:∀cl C x, Bm iter2 (CS sc cl C X.env) x=pure x)
  (hsw:swapsWith (.ListComp elt [⟨tg,iter,ifs,0⟩,⟨tg2,iter2,ifs2,0⟩] sc pos) (some (.Name x px)) spos.line X.env=pure true:=by rfl)
  (ho:X.env.scope=osc:=by rfl) (hN:X.N=N:=by rfl) (hc:X.calm=true:=by rfl) (hs:∀x,Bm iter X.env x=pure x:=by intro _;rfl)
  (hf:X.fn x=true∨X.env.scope.names.lookup x=some .local:=by first |exact .inl rfl |exact .inr rfl |assumption) :
  PS X (.Assign [.Name x px] (.ListComp elt [⟨tg,iter,ifs,0⟩,⟨tg2,iter2,ifs2,0⟩] sc pos) spos) (zlJ wi sel g tt wi2 g2 tt2 te i):=by
 intro pins s σ H D I h;obtain⟨cl,Cl⟩:=ze4 I.ok B ho;rw[exec_Assign_Name_used _ _ _ _ hsw];refine Ab (CB (Ab ?_));show At _ X.A (do let _ <- comprehension (.ListComp elt [⟨tg,iter,ifs,0⟩,⟨tg2,iter2,ifs2,0⟩] sc pos) sc X.env _ (newList []) false (eval iter X.env) (some (Ds (.Name x px) X.env))) _ _ s;refine Ab (thn (B4 (use:=some (Ds (.Name x px) X.env)) (Q:=λ_ s'=>SP X pins D .next s') rfl hs Cl.run B.kind B.names (thn (hi pins s σ H _ I h) λv s1 h1=>thn h1 λitv s2 h2=>?_)) λ_ s' hq=>Af (Af hq));obtain⟨it,fp,tn,J,H2,e,I2,T,st2,f2,h2⟩:=h2;subst e
 refine Bh (zce (e:=.ListComp elt [⟨tg,iter,ifs,0⟩,⟨tg2,iter2,ifs2,0⟩] sc pos) (inner:=λ_ _=>pure ()) (D:=λp=>{ nx:=λ_ H'=>D.nx (σ.set i (some (.ref p))) H',rt:=λ_ _=>False }) (tb:=λp=>tNest wi2 g2 (tIfs tt2 (zca p te))) (use:=some (Ds (.Name x px) X.env)) B ho hN hc (λacc env R s a b=>C9 a b)
  (ze1 (iter:=iter) (pos:=pos) T hc hg ht hi2 hg2 ht2 he hs2) I2 T st2 f2 zfE rfl (h2 _ (I2.hok.fresh (Am _))) (λC H' s' I3 fC hn hq=>?_) s2.toks cl Cl X.xe)
 obtain⟨m,hn⟩:=hn;obtain⟨_,hq⟩:=hq;show At _ X.A (Ds (.Name x px) X.env (.ref s2.heap.objs.size)) _ _ _;refine wpAny_assign_Name (zdc I3 hnd hi' hx (v:=.ref s2.heap.objs.size) rfl (λs4 I4 hch=>?_) hf);obtain⟨a,sb,ha⟩:=hch
 have nC:C≠a:=by
  rcases ha with z |z
  .rw[z];exact fC.2.1
  .exact λq=>fC.2.2.2.2.1 x a z q.symm
 refine⟨m,hn.sameBut sb nC,λh' hs'=>⟨_,H',I4.let_go fC hs',hq⟩⟩
end
end L2
namespace RP
noncomputable def mv(i:Nat):Int×Int:=([(1,0),(1,1),(0,1),(-1,1),(-1,0),(-1,-1),(0,-1),(1,-1)]:List (Int×Int)).getD i (0,0)
noncomputable abbrev Cell:=Int×Int
noncomputable def go(c:Cell)(i:Nat):Cell:=(c.1+(mv i).1,c.2+(mv i).2)
structure Edge where
 c:Cell
 w:Nat
 deriving DecidableEq
noncomputable def gap(e:Edge):Cell:=go e.c ((2*e.w+6) % 8)
noncomputable def stepB(C:Cell->Bool)(e:Edge):Option Nat :=
 if C (go e.c ((2*e.w+7) % 8))=true then some ((2*e.w+7) % 8) else if C (go e.c (2*e.w))=true then some (2*e.w) else none
noncomputable def slant:Option Nat->Bool
 |none=>false
 |some s=>s % 2 == 1
noncomputable def edgeB(e:Edge):Option Nat->Edge
 |none=>⟨e.c,(e.w+1) % 4⟩
 |some s=>if s % 2=1 then ⟨go e.c s,(e.w+3) % 4⟩ else ⟨go e.c s,e.w⟩
noncomputable def nxt(C:Cell->Bool)(e:Edge):Edge:=edgeB e (stepB C e)
noncomputable def IsE(C:Cell->Bool)(e:Edge):Prop:=e.w<4/\C e.c=true/\C (gap e)=false
noncomputable def prv(C:Cell->Bool)(f:Edge):Edge :=
 if C (go f.c ((2*f.w+5) % 8))=true then ⟨go f.c ((2*f.w+5) % 8),(f.w+1) % 4⟩
 else if C (go f.c ((2*f.w+4) % 8))=true then ⟨go f.c ((2*f.w+4) % 8),f.w⟩ else ⟨f.c,(f.w+3) % 4⟩
theorem way4{w:Nat}(h:w<4):w=0∨w=1∨w=2∨w=3:=by lia
noncomputable def mvAdd(a b d:Nat):Bool:=(mv a).1+(mv b).1 == (mv d).1 && (mv a).2+(mv b).2 == (mv d).2
noncomputable def mvNil(a b:Nat):Bool:=(mv a).1+(mv b).1 == 0 && (mv a).2+(mv b).2 == 0
theorem go_go{c:Cell}{a b d:Nat}(h:mvAdd a b d=true):go (go c a) b=go c d:=by unfold mvAdd at h;simp only[Bp,beq_iff_eq]at h;unfold go;exact Prod.ext (by show c.1+(mv a).1+(mv b).1=c.1+(mv d).1;lia) (by show c.2+(mv a).2+(mv b).2=c.2+(mv d).2;lia)
theorem zhb{c:Cell}{a b:Nat}(h:mvNil a b=true):go (go c a) b=c:=by unfold mvNil at h;simp only[Bp,beq_iff_eq]at h;unfold go;exact Prod.ext (by show c.1+(mv a).1+(mv b).1=c.1;lia) (by show c.2+(mv a).2+(mv b).2=c.2;lia)
theorem f1:∀w<4,mvAdd ((2*w+7) % 8) ((2*((w+3) % 4)+6) % 8) ((2*w+6) % 8)=true:=by decide
theorem f2:∀w<4,mvAdd (2*w) ((2*w+6) % 8) ((2*w+7) % 8)=true:=by decide
theorem f3:∀w<4,(2*((w+1) % 4)+6) % 8=2*w:=by decide
theorem f4:∀w<4,mvNil ((2*w+7) % 8) ((2*((w+3) % 4)+5) % 8)=true:=by decide
theorem f5:∀w<4,mvAdd (2*w) ((2*w+5) % 8) ((2*w+6) % 8)=true:=by decide
theorem f6:∀w<4,mvNil (2*w) ((2*w+4) % 8)=true:=by decide
theorem f7:∀w<4,(2*((w+1) % 4)+5) % 8=(2*w+7) % 8:=by decide
theorem f8:∀w<4,(2*((w+1) % 4)+4) % 8=(2*w+6) % 8:=by decide
theorem odd7(w:Nat):(2*w+7) % 8 % 2=1:=by lia
theorem zbf{C:Cell -> Bool}{e:Edge}(h:IsE C e) :
  (C (go e.c ((2*e.w+7) % 8))=true/\stepB C e=some ((2*e.w+7) % 8)/\nxt C e=⟨go e.c ((2*e.w+7) % 8),(e.w+3) % 4⟩) ∨
  (C (go e.c ((2*e.w+7) % 8))=false/\C (go e.c (2*e.w))=true/\stepB C e=some (2*e.w)/\nxt C e=⟨go e.c (2*e.w),e.w⟩) ∨
  (C (go e.c ((2*e.w+7) % 8))=false/\C (go e.c (2*e.w))=false/\stepB C e=none/\nxt C e=⟨e.c,(e.w+1) % 4⟩):=by
 unfold nxt stepB
 by_cases h1:C (go e.c ((2*e.w+7) % 8))=true
 .left;rw[if_pos h1];exact⟨h1,rfl,by simp only[edgeB];rw[if_pos (odd7 _)]⟩
 .right;have h1':C (go e.c ((2*e.w+7) % 8))=false:=by simpa using h1
  rw[if_neg h1]
  by_cases h2:C (go e.c (2*e.w))=true
  .left;rw[if_pos h2];exact⟨h1',h2,rfl,by simp only[edgeB];rw[if_neg (by lia)]⟩
  .right;rw[if_neg h2];exact⟨h1',by simpa using h2,rfl,rfl⟩
theorem zdB{C:Cell->Bool}{e:Edge}(h:IsE C e):IsE C (nxt C e):=by
 obtain⟨hw,hc,hg⟩:=id h;rcases zbf h with⟨h1,_,q⟩ |⟨h1,h2,_,q⟩ |⟨h1,h2,_,q⟩ <;> rw[q]
 .refine⟨BG _ (by decide),h1,?_⟩;unfold gap;rw[go_go (f1 _ hw)];exact hg
 .refine⟨hw,h2,?_⟩;unfold gap;rw[go_go (f2 _ hw)];exact h1
 .refine⟨BG _ (by decide),hc,?_⟩;unfold gap;simp only;rw[f3 _ hw];exact h2
theorem zjh{C:Cell->Bool}{e:Edge}(h:IsE C e):prv C (nxt C e)=e:=by
 obtain⟨hw,hc,hg⟩:=id h;unfold gap at hg;rcases zbf h with⟨h1,_,q⟩ |⟨h1,h2,_,q⟩ |⟨h1,h2,_,q⟩ <;> rw[q] <;> unfold prv <;> simp only
 .rw[zhb (f4 _ hw),if_pos hc];rw[show ((e.w+3) % 4+1) % 4=e.w by lia]
 .rw[go_go (f5 _ hw),hg,if_neg (by decide),zhb (f6 _ hw),if_pos hc]
 .rw[f7 _ hw,h1,if_neg (by decide),f8 _ hw,hg,if_neg (by decide)];rw[show ((e.w+1) % 4+3) % 4=e.w by lia]
theorem zg9{C:Cell->Bool}{e f:Edge}(he:IsE C e)(hf:IsE C f)(h:nxt C e=nxt C f):e=f:=by rw[<- zjh he,<- zjh hf,h]
noncomputable def Chain(C:Cell->Bool)(b:Edge)(es:List Edge):Prop:=es[0]?=some b/\(∀i e f,es[i]?=some e->es[i+1]?=some f->f=nxt C e)/\(∀e∈es,IsE C e)/\es.Nodup
theorem Chain.start{C:Cell->Bool}{b:Edge}(h:IsE C b):Chain C b [b] :=
 ⟨rfl,λi e f _ h2=>by simp at h2,λe he=>by rw[Ah.mp he];exact h,by simp⟩
theorem Chain.more{C:Cell->Bool}{b l:Edge}{es:List Edge}(h:Chain C b (es++[l]))(hn:nxt C l≠b):Chain C b ((es++[l])++[nxt C l]):=by
 obtain⟨h0,hs,hE,hnd⟩:=h;have hl:(es++[l])[es.length]?=some l:=by simp
 have lE:=hE l (by simp);refine⟨?_,λi e f h1 h2=>?_,λe he=>?_,?_⟩
 .rw[Ax (by simp)];exact h0
 .rcases AZ (i+1) (es++[l]).length with hi |hi
  .rw[Ax (by lia)]at h1;rw[Ax hi]at h2;exact hs i e f h1 h2
  .have hi2:=(Ad.mp h2).1;simp at hi2 hi;have hi3:i=es.length:=by lia
   subst hi3;rw[Ax (by simp)]at h1;rw[hl]at h1
   cases h1
   rw[AK (by simp)]at h2;simp at h2;exact h2.symm
 .rcases AH.mp he with he |he
  .exact hE e he
  .rw[Ah.mp he];exact zdB lE
 .rw[Do];refine⟨hnd,by simp,λx hx y hy=>?_⟩;rw[Ah.mp hy];intro e;subst e;obtain⟨i,hi,ei⟩:=Az hx;rcases Nat.eq_zero_or_pos i with rfl |hp
  .rw[Aa hi,ei]at h0;exact hn (AX h0)
  .have hi':i-1<(es++[l]).length:=by lia
   have e1:=hs (i-1) ((es++[l])[i-1]) (nxt C l) (Aa hi') (by rw[show i-1+1=i by lia,Aa hi,ei]);have e2:=zg9 lE (hE _ (Bi hi')) e1;have e3:es.length=i-1:=(CV (by simp) hnd).mp (by rw[hl,Aa hi',<- e2]);simp at hi;lia
theorem zav{α:Type} [DecidableEq α]:∀{a b:List α},a.Nodup->(∀x∈a,x∈b)->a.length<=b.length
 |[],_,_,_=>A9 _
 |x::a,b,hn,hs=>by
  have hx:x∈b:=hs x An
  have h1:=zav (a:=a) (b:=b.erase x) (BF.mp hn).2 (λy hy=>by refine (List.mem_erase_of_ne ?_).mpr (hs y (Ap _ hy));intro e;subst e;exact (BF.mp hn).1 hy)
  rw[List.length_erase_of_mem hx]at h1;have:0<b.length:=List.length_pos_of_mem hx;simp only[A5];lia
noncomputable def sides(cs:List Cell):List Edge:=cs.flatMap λc=>(BS 4).map λw=>⟨c,w⟩
theorem zaX(cs:List Cell):(sides cs).length=4*cs.length:=by
 unfold sides
 induction cs with
 |nil=>rfl
 |cons c r ih=>rw[List.flatMap_cons,Ak,ih];simp;lia
theorem zbW{cs:List Cell}{e:Edge}:e∈sides cs ↔ e.c∈cs/\e.w<4:=by
 unfold sides;rw[List.mem_flatMap];constructor
 .rintro⟨c,hc,h⟩;obtain⟨w,hw,rfl⟩:=AS.mp h;exact⟨hc,List.mem_range.mp hw⟩
 .rintro⟨hc,hw⟩;exact⟨e.c,hc,AS.mpr ⟨e.w,List.mem_range.mpr hw,rfl⟩⟩
noncomputable def isIn(cs:List Cell)(c:Cell):Bool:=decide (c∈cs)
theorem Chain.short{cs:List Cell}{b:Edge}{es:List Edge}(h:Chain (isIn cs) b es):es.length<=4*cs.length:=by rw[<- zaX];exact zav h.2.2.2 λe he=>zbW.mpr ⟨of_decide_eq_true (h.2.2.1 e he).2.1,(h.2.2.1 e he).1⟩
noncomputable def allE(cs:List Cell):List Edge:=(sides cs).filter λe=>!isIn cs (gap e)
theorem zhS{cs:List Cell}{e:Edge}:e∈allE cs ↔ IsE (isIn cs) e:=by
 unfold allE;rw[Br,zbW];unfold IsE isIn;constructor
 .rintro⟨⟨h1,h2⟩,h3⟩;exact⟨h2,decide_eq_true h1,by simpa using h3⟩
 .rintro⟨h1,h2,h3⟩;exact⟨⟨of_decide_eq_true h2,h1⟩,by simpa using h3⟩
noncomputable def dx(w:Nat):Int:=if w=0 then 1 else if w=2 then -1 else 0
noncomputable def dy(w:Nat):Int:=if w=1 then 1 else if w=3 then -1 else 0
noncomputable def px(e:Edge):Int:=e.c.1+(if e.w=1∨e.w=2 then 1 else 0)
noncomputable def py(e:Edge):Int:=e.c.2+(if e.w=2∨e.w=3 then 1 else 0)
theorem zjq{C:Cell->Bool}{e:Edge}(h:IsE C e):px (nxt C e)=px e+dx e.w/\py (nxt C e)=py e+dy e.w:=by
 have hw:=h.1
 rcases zbf h with⟨_,_,q⟩ |⟨_,_,_,q⟩ |⟨_,_,_,q⟩ <;> rw[q] <;> obtain⟨c,w⟩:=e <;> simp only at hw <;>
  rcases way4 hw with rfl |rfl |rfl |rfl <;> simp[px,py,dx,dy,go,mv] <;> lia
theorem zmk{C:Cell->Bool}{e:Edge}(h:IsE C e):(nxt C e).w=(e.w+3) % 4∨(nxt C e).w=e.w∨(nxt C e).w=(e.w+1) % 4:=by
 rcases zbf h with⟨_,_,q⟩ |⟨_,_,_,q⟩ |⟨_,_,_,q⟩ <;> rw[q]
 .exact .inl rfl
 .exact .inr (.inl rfl)
 .exact .inr (.inr rfl)
noncomputable def Closed(C:Cell->Bool)(b:Edge)(es:List Edge):Prop:=Chain C b es/\∃l,es[es.length-1]?=some l/\nxt C l=b
theorem psum{C:Cell->Bool}{b:Edge}{es:List Edge}(h:Chain C b es):∀i e,es[i]?=some e->px e=px b+((es.take i).map λe=>dx e.w).sum/\py e=py b+((es.take i).map λe=>dy e.w).sum
 | 0,e,he=>by
  have h0:=h.1;rw[he]at h0
  cases h0
  simp
 |i+1,e,he=>by
  have hi:i+1<es.length:=(Ad.mp he).1;have h1:es[i]?=some es[i]:=Aa (by lia)
  obtain⟨a,c⟩:=psum h i _ h1;have hn:=h.2.1 i _ e h1 he;obtain⟨p,q⟩:=zjq (h.2.2.1 _ (Bi (show i<es.length by lia)));rw[<- hn]at p q;rw[DB,h1];simp only[Option.toList_some,A6,A7,List.map_nil,List.sum_append,Dj,List.sum_nil];lia
theorem Closed.sums{C:Cell->Bool}{b:Edge}{es:List Edge}(h:Closed C b es):(es.map λe=>dx e.w).sum=0/\(es.map λe=>dy e.w).sum=0:=by
 obtain⟨hc,l,hl,hb⟩:=h;have hlt:=(Ad.mp hl).1;obtain⟨a,c⟩:=psum hc _ l hl;have hlm:=(Ad.mp hl).2;obtain⟨p,q⟩:=zjq (hc.2.2.1 l (by rw[<- hlm];exact Bi _));rw[hb]at p q
 have e:es=es.take (es.length-1)++[l]:=by have:=DB (l:=es) (i:=es.length-1);rw[hl,show es.length-1+1=es.length by lia,AN]at this;simpa using this
 have s1:(es.map λe=>dx e.w).sum=((es.take (es.length-1)).map λe=>dx e.w).sum+dx l.w:=by
  conv=>lhs;rw[e]
  simp
 have s2:(es.map λe=>dy e.w).sum=((es.take (es.length-1)).map λe=>dy e.w).sum+dy l.w:=by
  conv=>lhs;rw[e]
  simp
 lia
theorem zio{l:List Int}(h:∀x∈l,0<=x):0<=l.sum:=by
 induction l with
 |nil=>simp
 |cons a r ih =>
  have:=h a An;have:=ih λx hx=>h x (Ap _ hx)
  simp only[Dj];lia
theorem zhq{l:List Int}(h:∀x∈l,0<=x)(hs:l.sum=0):∀x∈l,x=0:=by
 induction l with
 |nil=>intro x hx;cases hx
 |cons a r ih =>
  have h1:=h a An;have h2:=zio λx hx=>h x (Ap _ hx)
  simp only[Dj]at hs;intro x hx;rcases AM.mp hx with rfl |hx
  .lia
  .exact ih (λx hx=>h x (Ap _ hx)) (by lia) x hx
theorem zl0(l:List Int):(l.map λx=>-x).sum=-l.sum:=by
 induction l with
 |nil=>rfl
 |cons a r ih=>simp only[A7,Dj,ih];lia
theorem zjZ(l:List Int)(d:Int)(h:∀x∈l,x=d):l.sum=d*l.length:=by
 induction l with
 |nil=>simp
 |cons a r ih =>
  have h1:=h a An;have h2:=ih λx hx=>h x (Ap _ hx)
  simp only[Dj,A5,h1,h2];rw[Int.natCast_add,Int.mul_add];lia
theorem Closed.has{C:Cell->Bool}{b:Edge}{es:List Edge}(h:Closed C b es){k:Nat}(hk:k=0∨k=2):∃e∈es,e.w=k:=by
 apply BI
 intro hno;have hno':∀e∈es,e.w≠k:=λe he z=>hno ⟨e,he,z⟩
 obtain⟨s1,s2⟩:=h.sums;obtain⟨hc,_⟩:=h
 have hpos:0<es.length:=by have:=hc.1;exact (Ad.mp this).1
 have z:∀e∈es,dx e.w=0:=by
  rcases hk with rfl |rfl
  .have := zhq (l := (es.map λe => dx e.w).map λx => -x) (λx hx => by obtain⟨y,hy,rfl⟩:=AS.mp hx;obtain⟨e,he,rfl⟩:=AS.mp hy;have:=hno' e he;unfold dx;rw[if_neg this];split <;> decide) (by rw[zl0,s1];rfl)
   intro e he;have:=this (-(dx e.w)) (AS.mpr ⟨_,AS.mpr ⟨e,he,rfl⟩,rfl⟩);lia
  .have := zhq (l := es.map λe => dx e.w) (λx hx => by obtain⟨e,he,rfl⟩:=AS.mp hx;have:=hno' e he;unfold dx;rw[if_neg this];split <;> decide) s1
   intro e he;exact this _ (AS.mpr ⟨e,he,rfl⟩)
 have odd:∀e∈es,e.w=1∨e.w=3:=λe he=>by
  have h4:=(hc.2.2.1 e he).1;have hz:=z e he;rcases way4 h4 with q |q |q |q
  .rw[q]at hz;exact absurd hz (by decide)
  .exact .inl q
  .rw[q]at hz;exact absurd hz (by decide)
  .exact .inr q
 have same:∀(i:Nat) (e:Edge),es[i]?=some e->e.w=b.w:=by
  intro i
  induction i with
  |zero=>intro e he;have:=hc.1;rw[he]at this;cases this;rfl
  |succ i ih =>
   intro e he;have hi:i+1<es.length:=(Ad.mp he).1;have h1:es[i]?=some es[i]:=Aa (by lia)
   have hn:=hc.2.1 i _ e h1 he;have m1:es[i]∈es:=Bi _;have m2:e∈es:=Aj he;have w1:=ih _ h1;have o1:=odd _ m1;have o2:=odd _ m2;have:=zmk (hc.2.2.1 _ m1);rw[<- hn]at this;lia
 have all:∀x∈es.map (λe=>dy e.w),x=dy b.w:=λx hx=>by obtain⟨e,he,rfl⟩:=AS.mp hx;obtain⟨i,hi,ei⟩:=Az he;rw[same i e (by rw[Aa hi,ei])]
 have t:=zjZ _ _ all;rw[s2,Ao]at t
 have ob:b.w=1∨b.w=3:=by have:=hc.1;exact odd b (Aj this)
 have d1:dy b.w=1∨dy b.w=-1:=by rcases ob with q |q <;> rw[q] <;> decide
 rcases d1 with q |q <;> rw[q]at t <;> lia
end RP
namespace L2
open PySem PySem.Spec PyProof.Rows
structure Fn (P:AR) (w:Be) (K:W.Frag) (mg:Str->Option Ac) (base:Heap) (k:Nat) (x:Str) (ps:List Str) (sp:Sp) where
 f:Addr
 fd:BM
 ok:FnOk P w K mg base CX0 k f fd ps sp
 m:mg x=some (.ref f)
 kp:W.keepIn K (.ref f)=true
 b:Binds K fd ps []
structure Df (K:W.Frag) (mg:Str->Option Ac) (x:Str) (st:Stmt) (ps:List Str) where
 f:Addr
 fd:BM
 F:Fun K x x st f fd
 m:mg x=some (.ref f)
 b:Binds K fd ps []
noncomputable def Df.fn{P:AR}{w:Be}{K:W.Frag}{mg:Str->Option Ac}{base:Heap}{k:Nat}{x:Str}{st:Stmt}{ps:List Str}{sp:Sp}(d:Df K mg x st ps)(h:FnOk P w K mg base CX0 k d.f d.fd ps sp):Fn P w K mg base k x ps sp :=
 ⟨d.f,d.fd,h,d.m,d.F.kp,d.b⟩
structure Ways (P:AR) (w:Be) (K:W.Frag) (mg:Str->Option Ac):Prop where
 ex:∃(B:Addr) (t1 t2 t3 t4:Tok) (n:Nat),mg "BEGIN_WAYS" = some (.ref B)/\K.lookup B=some ⟨.type "dict",none,.dict #[⟨BV w.params "rim",.str "rim" t1,.int 0 t2⟩,⟨BV w.params "hole",.str "hole" t3,.int 2 t4⟩] n,#[]⟩
noncomputable def tWays (ti:TE):TE:=λσ H Q=>ti σ H λy H1=>(y=.str "rim" /\ Q (.int 0) H1)∨(y=.str "hole" /\ Q (.int 2) H1)
theorem zjm {X:Cx}{i:Expr}{ti:TE}{p pos:Pos}(hg:Gl X "BEGIN_WAYS") (hw:Ways X.prog X.w X.K X.mg) (hi:PE X i ti) (hs:NoSl i:=by exact λ_ _=>rfl):PE X (.Subscript (.Name "BEGIN_WAYS" p) i pos) (tWays ti):=by
 intro pins s σ H Q I h;obtain⟨B,t1,t2,t3,t4,n,hm,hl⟩:=hw.ex;refine ziT PySem.F.slot_dict_getitem.lookup hs (thn ((zd5 (v:=.ref B) hg hm rfl:PE X (.Name "BEGIN_WAYS" p) _) pins s σ H (λv H1=>v=V.ref B/\H1=H) I ⟨rfl,rfl⟩) λu s1 ⟨x,H1,I1,rx,q1⟩=>?_);obtain⟨rfl,rfl⟩:=q1;obtain rfl:u=Aw B:=rx;refine thn (hi pins s1 σ H1 _ I1 h) λiv s2 ⟨y,H2,I2,ry,q2⟩=>?_
 have ho:s2.heap.get? B=some _:=I2.kIn B _ hl
 have mo:s2.heap.MapOf (zaE X.prog X.w) B (PySem.findBy (zaE X.prog X.w).is #[⟨BV X.w.params "rim",.str "rim" t1,.int 0 t2⟩,⟨BV X.w.params "hole",.str "hole" t3,.int 2 t4⟩]) :=
  ⟨_,_,_,ho,⟨rfl,rfl,rfl⟩,rfl,λe he=>by
   simp only[List.mem_toArray,List.mem_cons,List.not_mem_nil,or_false]at he;rcases he with rfl |rfl
   .exact⟨.inr "rim",zbV _ _ _ _,rfl⟩
   .exact⟨.inr "hole",zbV _ _ _ _,rfl⟩,λ_=>rfl⟩
 refine⟨⟨_,ho,rfl⟩,?_⟩;rcases q2 with⟨rfl,q⟩ |⟨rfl,q⟩
 .exact wpAny_getItem_of (kV_is (k:=.inr "rim") ry) mo (v:=.int 0 t2) rfl ⟨.int 0,H2,I2.tok _,⟨_,rfl⟩,q⟩
 .exact wpAny_getItem_of (kV_is (k:=.inr "hole") ry) mo (v:=.int 2 t4) rfl ⟨.int 2,H2,I2.tok _,⟨_,rfl⟩,q⟩
section
variable {X:Cx}{K:W.Frag}
theorem zl7(hK:X.K=K:=by rfl):IxR X (rIxT K):=by subst hK;exact zb0
theorem zlT(hu:X.A.units+64<cLine)(hK:X.K=K:=by rfl):OpR X (BB .NotEq) (rNeD K):=by subst hK;exact zd6 hu
theorem zcD{es:List Expr}{k:Nat}{t:TGs}{n:Nat}{pos:Pos}(hc:X.calm=true)(h:PGs X es t)
  (hn:(DT es X.env).length=n:=by rfl) (hst:(DT es X.env).findIdx? (·.1)=none:=by rfl) (hK:X.K=K:=by rfl):PG X (.Tuple es k pos) (gTup K n t):=by
 subst hK;exact za8 hc h hn hst
theorem zkv{tg l:Expr}{tl:TE}(hl:PE X l tl)(hK:X.K=K:=by rfl):PI X tg l (iList K tl):=by subst hK;exact zaB hl
end
theorem zjy (a b c d:Ac):argsOk "min" ⟨[a,b,c,d],[]⟩:=by unfold argsOk;kernel_rfl
section
variable {X:Cx}
theorem zj3 (hc:X.calm=true):CallR X (.builtin "min") (λxs H Q=>∃i j k l,xs=[.int i,.int j,.int k,.int l]/\∀n,Q (.int n) H):=by
 intro pins s σ H xs us Q I r h;obtain⟨i,j,k,l,rfl,q⟩:=h
 cases r with
 |cons r1 r =>
 cases r with
 |cons r2 r =>
 cases r with
 |cons r3 r =>
 cases r with
 |cons r4 r =>
 cases r with
 |nil =>
 obtain⟨t1,rfl⟩:=r1;obtain⟨t2,rfl⟩:=r2;obtain⟨t3,rfl⟩:=r3;obtain⟨t4,rfl⟩:=r4;have hh:=I.ok.hd hc;have nm:(toString "min" ++ toString ".loop" : String) = "min.loop":=by decide
 refine call_function_tree F.kind_min F.plain_min F.entry_min (zjy _ _ _ _) ?_
 show At _ X.A.in1 (Cw "min" ["key","default"] 0 ⟨[],[]⟩ >>= _) _ _ s;refine Ab (wpAny_of_eq (show Cw "min" ["key","default"] 0 ⟨[],[]⟩=pure [none,none] from rfl) ?_);show At _ X.A.in1 (newTuple [.int i t1,.int j t2,.int k t3,.int l t4] >>= _) _ _ s;refine Ab (Bh ?_);have hT:(s.heap.push { cls:=.type "tuple",data:=.seq #[.int i t1,.int j t2,.int k t3,.int l t4] }).IsTuple s.heap.objs.size (intItems #[(i,t1),(j,t2),(k,t3),(l,t4)]):=⟨_,AF _ rfl,rfl,0,by simp[intItems]⟩;refine Ab (wpAny_pyIter_tuple hT ?_);refine Ab (Bh ?_);rw[nm];generalize e1:s.heap.push { cls:=.type "tuple",data:=.seq #[.int i t1,.int j t2,.int k t3,.int l t4] }=h1 at hT;have hs1:h1.objs.size=s.heap.objs.size+1:=by rw[<- e1];exact Heap.size_push ..
 have k1:∀b o,s.heap.get? b=some o->h1.get? b=some o:=λb o e=>by rw[<- e1];exact Ag _ e
 show At (Ay X.prog X.w) X.A.in1 (again (.builtin "min.loop" ⟨[.ref h1.objs.size,.none,.ref (h1.push _).objs.size],[]⟩)) _ _ { s with heap:=(h1.push _).push _ };have hs2:∀o:Obj,(h1.push o).objs.size=s.heap.objs.size+2:=λo=>by rw[Heap.size_push,hs1]
 have W:=Walks.tuple (prog:=X.prog) (w:=X.w) (A:=X.A.in1) hh h1.objs.size s.heap.objs.size (by rw[hs1];exact A4 (Nat.lt_succ_self _)) (intItems #[(i,t1),(j,t2),(k,t3),(l,t4)])
 refine Af ⟨DM F.plain_min_loop _,codeAny_min_loop_first W _ (CmpOf.ints_lt (numAt #[(i,t1),(j,t2),(k,t3),(l,t4)]) (λ_ _=>intItems_at)) _ (λhm=>?_) (by simp[intItems])
  (W.frame _ _ _ ⟨⟨_,AF _ rfl,rfl,rfl⟩,hT.push _⟩ λb _ o e=>Ag _ e) (AF _ rfl) λv h' tk hP hk=>?_⟩
 .rw[hs2]at hm;rcases AM.mp hm with z |z
  .rw[hs1]at z;have z':(s.heap.objs.size+2:Nat)=s.heap.objs.size+1:=z;lia
  .have z':(s.heap.objs.size+2:Nat)=s.heap.objs.size:=Ah.mp z;lia
 .obtain⟨t,ht⟩:=intItems_at hP;refine⟨.int _,H,I.kept λb o e=>hk b o (λhm=>?_) ?_ (Ag _ (Ag _ (k1 b o e))),⟨t,ht⟩,q _⟩
  .have h1':=AA e;have z:=Ah.mp hm;rw[hs1]at z;subst z;exact absurd h1' (Nat.not_lt_of_le (C4 _))
  .have h1':=AA e;intro z;rw[hs2]at z;subst z;exact absurd h1' (Nat.not_lt_of_le (Nat.le_add_right _ 2))
noncomputable def rSlTW(K:W.Frag):V->Option Int->Option Int->Hp->VK->Prop:=λx lo hi H Q=>∃a xs,x=.ref a/\SqT K H a xs /\
 ((HT.sIx xs.length 0 lo=0/\HT.sIx xs.length xs.length hi=xs.length)->Q (.ref a) H) /\
 (¬ (HT.sIx xs.length 0 lo=0/\HT.sIx xs.length xs.length hi=xs.length)->∀p,H p=none->Q (.ref p) (upd H p (.tup (cutV xs lo hi))))
end
end L2
namespace HT
open PySem PyProof.Rows
variable {prog:AR}{w:Be}{A:A3}{E:Ac->Ae->Prop}{s:Ae}
theorem getItem_tuple_all{t sl:Addr}{items:Array Ac}{vl vu:Ac}{lo hi:Option Int}{Q:Ac -> Ae -> Prop}(ht:IsTup s.heap t items)(hs:s.heap.IsSliceOf sl vl vu .none)(pl:IsPart vl lo)(pu:IsPart vu hi)
  (hw:sIx items.size 0 lo=0/\sIx items.size items.size hi=items.size) (h:Q (.ref t) s):At (Ay prog w) A (getItem (.ref t) (.ref sl)) Q E s:=by
 obtain⟨os,hos,hcs,hds⟩:=id hs;have hTs:s.TypeIs (.ref sl) "slice":=⟨os,hos,hcs⟩;unfold getItem
 try with_reducible refine Bo ?_
 first |refine Ab (Af ?_) |skip
 refine Ab (wpAny_sequenceKey ht.typeIs (by decide) ?_)
 refine Ab (C1 (name:=BD "__getitem__") ht.typeIs BC
  (DE BC ht.typeIs entry_tuple_getitem ?_ (args_tuple_getitem _ _)))
 show At _ _ (Builtin.Tuple.tupleItemsOf (.ref t) >>= _) _ _ s;refine Ab (tupleItemsOf_ ht ?_);refine Ab (wpAny_typeOf hTs ?_);rw[if_pos (by decide)];refine Ab (zcu hs pl pu ?_)
 have hyes:(((sIx items.size 0 lo:Nat):Int) == 0 && (1:Int) == 1 && (sIx items.size items.size hi-sIx items.size 0 lo) == items.size)=true:=by rw[hw.1,hw.2];simp
 show At _ _ (if (((sIx items.size 0 lo:Nat):Int) == 0 && (1:Int) == 1 && (sIx items.size items.size hi-sIx items.size 0 lo) == items.size)=true then _ else _) _ _ s;rw[if_pos hyes];refine Ab ?_
 unfold Builtin.Tuple.tupleIsExact;refine Ab (wpAny_typeOf ht.typeIs (Af ?_));rw[if_pos (by decide)];exact Ab (CH (Af ⟨_,rfl,Af h⟩))
end HT
namespace L2
open PySem PySem.Spec PyProof.Rows
section
variable {X:Cx}{K:W.Frag}
theorem zi6:SlR X (rSlTW X.K):=by
 intro pins s σ H x v vl vu lo hi sl Q I rx hs pl pu h;obtain⟨a,xs,rfl,hx,q1,q2⟩:=h
 by_cases hw:HT.sIx xs.length 0 lo=0/\HT.sIx xs.length xs.length hi=xs.length
 .cases rx
  obtain⟨its,r,ht,hz⟩:=I.tuple hx;have hlen:its.toArray.size=xs.length:=by rw[Au];exact r.length.symm
  refine⟨"tuple",_,BC.lookup,ht.typeIs,?_⟩;exact HT.getItem_tuple_all ht hs pl pu (by rw[hlen];exact hw) ⟨.ref a,H,I,rfl,q1 hw⟩
 .exact zmv pins s σ H _ v vl vu lo hi sl Q I rx hs pl pu ⟨a,xs,rfl,hx,hw,q2 hw⟩
theorem zkl(hK:X.K=K:=by rfl):SlR X (rSlTW K):=by subst hK;exact zi6
end
section
variable {prog:AR}{w:Be}{K:Type} [DecidableEq K] {knd:HeapKind prog w K}{A:A3}{E:Ac->Ae->Prop}{s:Ae}{d a:Addr}{xs:List (K×Addr×Ac)}{k:K}{dflt:Ac}
theorem ze6{p:Addr×Ac}(h:DL xs k=some p):∃j:Nat,xs[j]?=some (k,p):=by
 unfold DL at h;obtain⟨x,hx,e⟩:=Ca.mp h;have hm:=List.mem_of_find?_eq_some hx;have hk:=List.find?_some hx;obtain⟨j,hj,ej⟩:=Az hm;have:x.1=k:=by simpa using hk
 exact⟨j,by rw[Aa hj,ej,<- e,<- this]⟩
theorem zk0{p:Addr×Ac}{j:Nat}(hn:(xs.map λx=>x.1).Nodup)(h:xs[j]?=some (k,p)):DL xs k=some p:=by
 cases e:DL xs k with
 |none =>
  exfalso;unfold DL at e;have:=List.find?_eq_none.mp (Option.map_eq_none_iff.mp e) _ (Aj h);simp at this
 |some q =>
  obtain⟨i,hi⟩:=ze6 e;have hl:=(Ad.mp hi).1;have:=(CV (i:=i) (j:=j) (by rw[Ao];exact hl) hn).mp (by rw[AC,AC,hi,h];rfl);subst this;rw[hi]at h
  cases h
  rfl
theorem zdU{Q:Ac -> Ae -> Prop}(hr:knd.room A)(hk:knd.is s.heap k a)(hD:Dd knd s.heap d xs)(hsz:xs.length <= sizeLine)
  (h1:∀p,DL xs k=some p->Q p.2 { s with toks:=s.toks+knd.draws k })
  (h2:DL xs k=none->∀h',Dd knd h' d (storedH xs k a dflt)->Cj d s.heap h'->Q dflt { s with heap:=h',toks:=s.toks+knd.draws k }) :
  At (Ay prog w) A (dictSetDefault d (.ref a) dflt) Q E s:=by
 obtain⟨o,es,ep,ho,hx,hd,he,hi,hn⟩:=id hD;unfold dictSetDefault;refine Bo (Ab (knd.pyHash hr hk ?_));refine Ab (wpAny_dictFind_heap (s:={ s with toks:=s.toks+knd.draws k }) hr hk ho hd he hi hn (λhno=>?_) λj p hj=>?_)
 .have hnone:DL xs k=none := by
   cases e:DL xs k with
   |none=>rfl
   |some p=>obtain⟨j,hj⟩:=ze6 e;exact absurd hj (hno j p)
  refine Ab (CH ?_);have hes:es.size=xs.length:=by rw[<- AB,he,Ao]
  refine Ab (wpAny_updateDictKeys ho hd (Af (h2 hnone _ ?_ ⟨?_,λb hb=>Bj _ _ (BW hb)⟩)) (by lia) (by simp))
  .have hs:Cj d s.heap (s.heap.update d (Obj.mapDictKeys λx=>x.push ⟨knd.hash k,.ref a,dflt⟩)):=⟨?_,λb hb=>Bj _ _ (BW hb)⟩
   .obtain⟨c,dd,dt,sl⟩:=o;simp only at hd;subst hd;refine⟨_,es.push ⟨knd.hash k,.ref a,dflt⟩,ep+1,B3 _ ho rfl,hx,rfl,?_,λx hx'=>?_,?_⟩
    .rw[storedH_new hnone,A6,<- he];simp[entryOfKey]
    .rw[storedH_new hnone]at hx';rcases AH.mp hx' with m |m
     .exact knd.keeps (hi x m) ho rfl hs
     .rw[Ah.mp m];exact knd.keeps hk ho rfl hs
    .rw[storedH_new hnone,A6,Do];refine⟨hn,by simp,λx hx' y hy e=>?_⟩;simp at hy;subst hy e;obtain⟨⟨k',p⟩,hm,ek⟩:=AS.mp hx';obtain⟨j,hj,ej⟩:=Az hm;simp only at ek;subst ek;exact hno j p (by rw[Aa hj,ej])
   .show (s.heap.update d _).objs.size=_;unfold Heap.update;simp
  .show (s.heap.update d _).objs.size=_;unfold Heap.update;simp
 .have hlt:=(Ad.mp hj).1;have hes:es.size=xs.length:=by rw[<- AB,he,Ao]
  have ee:es[j]?=some ⟨knd.hash k,.ref p.1,p.2⟩:=by rw[<- Bn,he,AC,hj];rfl
  refine Ab (Dp ho hd ?_);simp only[ee];refine Ab (CH (Af ?_));exact h1 p (zk0 hn hj)
theorem zdv(knd:HeapKind prog w K)(d a:Addr)(hd:(d == BR)=false)(dflt:Ac) :
  MeetsIn prog w (Builtin.«dict.setdefault» ⟨[.ref d,.ref a,dflt],[]⟩) λA R s=>knd.room A.in1/\∃k xs,knd.is s.heap k a/\Dd knd s.heap d xs/\xs.length<=sizeLine /\
   (∀p,DL xs k=some p->R (.ok (.ret p.2)) { s with toks:=s.toks+knd.draws k }) /\
   (DL xs k=none->∀h',Dd knd h' d (storedH xs k a dflt)->Cj d s.heap h'->R (.ok (.ret dflt)) { s with heap:=h',toks:=s.toks+knd.draws k }):=by
 intro A R s h;obtain⟨hr,k,xs,hk,hD,hsz,h1,h2⟩:=h;unfold Builtin.«dict.setdefault» Builtin.Dict.keyAndDefault;have ht:s.TypeIs (.ref d) "dict":=hD.typeIs;refine Ab (Ab (wpAny_notOrdered_dict ht ?_));refine Ab ?_
 show At (Ay prog w) A.in1 (pure ()) _ _ s;refine Af ?_
 refine Ab ?_
 show At (Ay prog w) A.in1 (pure (Aw d,[Aw a,dflt])) _ _ s;refine Af ?_
 show At (Ay prog w) A.in1 (pure d >>= λx=>pure (x,Aw a,some dflt)) _ _ s;refine Ab (Af (Af ?_));simp only;rw[hd];show At (Ay prog w) A.in1 (dictSetDefault d (.ref a) dflt >>= λx=>ret x) _ _ s;refine Ab (zdU hr hk hD hsz (λp e=>Af (h1 p e)) λe h' hD' hs=>Af (h2 e h' hD' hs))
noncomputable def zmq(td ty tx:TE):TE:=λσ H Q=>td σ H λx H1=>∃a,x=.ref a/\IsD H1 a/\ty σ H1 λy H2=>tx σ H2 λz H3=>∃kvs k b,H3 a=some (.dT kvs)/\y=.ref b/\H3 b=some (.tup (k.map kV))/\kvs.length<sizeLine /\
 (∀v,valV kvs k=some v->Q v H3)/\(valV kvs k=none->Q z (upd H3 a (.dT (putK kvs k z))))
end
section
variable {X:Cx}{o e f:Expr}{apos cpos:Pos}{td ty tx:TE}
theorem zkx (hu:X.A.units+1<cLine) (ho:PE X o td) (he:PE X e ty) (hf:PE X f tx) (m:M2 X o "setdefault" apos e f cpos):PE X (.Call (.Attribute o "setdefault" apos) [e,f] [] cpos) (zmq td ty tx):=by
 intro pins s σ H Q I h;refine wpAny_Call_method m.base m.few m.line DY Cs PySem.F.type_dict_setdefault (thn (ho pins s σ H _ I h) λu s1 ⟨x,H1,I1,rx,a,ex,d,q1⟩=>?_);subst ex;obtain rfl:u=Aw a:=rx;obtain⟨t1,t2,_⟩:=zjJ I1 d;refine⟨t1,t2,?_⟩;rw[m.trees]
 refine C8 rfl (Dv (Ch (thn (he pins s1 σ H1 _ I1 q1) λiv s2 ⟨y,H2,I2,ry,q2⟩ =>
  Ch (thn (hf pins s2 σ H2 _ I2 q2) λfv s3 ⟨z,H3,I3,rz,kvs,k,b,eD,ey,eb,hl,k1,k2⟩=>Calls.spliced_nil ?_))))
 subst ey
 cases (show iv=Aw b from ry)
 obtain⟨zz,hd,xs,rel,dd⟩:=dt_of I3.hok eD
 refine call_meetsIn Cs dd.typeIs PySem.F.entry_dict_setdefault (PySem.F.args_dict_setdefault_3 _ _ _) (zdv (DC (zaE X.prog X.w)) a b hd fv)
  ⟨CF hu,k,xs,zdC I3.hok eb,dd,by rw[<- CY rel];exact zz,λp ep=>?_,λen h' dd' hs=>?_⟩
 .have rv:=rel.val k;rw[ep]at rv
  cases hv:valV kvs k with
  |none=>rw[hv]at rv;exact BK rv
  |some v=>rw[hv]at rv;exact⟨v,H3,I3.tok _,rv,k1 v hv⟩
 .have hn:valV kvs k=none := by
   have rv:=(rel.val k).isSome_eq;rw[en]at rv
   cases hv:valV kvs k with
   |none=>rfl
   |some v=>rw[hv]at rv;exact absurd rv (by simp)
  have hz:(putK kvs k z).length<=sizeLine:=by have:=zaR kvs k z;lia
  obtain⟨q,es,ep,hq,h2,h3,h4,_,h5⟩:=dd';refine⟨z,_,?_,rz,k2 hn⟩;refine zc7 I3 (by rw[eD];exact Du) hs ⟨q,hq⟩ ⟨hz,hd,_,(rel.put k eb rz).keeps λc ys ec=>?_,q,es,ep,hq,h2,h3,h4,h5⟩;rw[zai (ne_of ec eD (λz=>nomatch z))];exact ec
end
structure Two (P:AR) (w:Be) (K:W.Frag) (mg:Str->Option Ac) (nm:Str) (a b:Int):Prop where
 ex:∃(B:Addr) (t1 t2 t3 t4:Tok) (n:Nat),mg nm=some (.ref B)/\K.lookup B=some ⟨.type "dict",none,.dict #[⟨BV w.params "rim",.str "rim" t1,.int a t2⟩,⟨BV w.params "hole",.str "hole" t3,.int b t4⟩] n,#[]⟩
noncomputable def tTwo (a b:Int) (ti:TE):TE:=λσ H Q=>ti σ H λy H1=>(y=.str "rim" /\ Q (.int a) H1)∨(y=.str "hole" /\ Q (.int b) H1)
theorem zmH {X:Cx}{nm:Str}{a b:Int}{i:Expr}{ti:TE}{p pos:Pos}(hg:Gl X nm) (hw:Two X.prog X.w X.K X.mg nm a b) (hi:PE X i ti) (hs:NoSl i:=by exact λ_ _=>rfl) (hdb:(nm == ("__debug__" : Str))=false:=by rfl):PE X (.Subscript (.Name nm p) i pos) (tTwo a b ti):=by
 intro pins s σ H Q I h;obtain⟨B,t1,t2,t3,t4,n,hm,hl⟩:=hw.ex;refine ziT PySem.F.slot_dict_getitem.lookup hs (thn ((zd5 (v:=.ref B) hg hm rfl (hd:=hdb):PE X (.Name nm p) _) pins s σ H (λv H1=>v=V.ref B/\H1=H) I ⟨rfl,rfl⟩) λu s1 ⟨x,H1,I1,rx,q1⟩=>?_);obtain⟨rfl,rfl⟩:=q1;obtain rfl:u=Aw B:=rx;refine thn (hi pins s1 σ H1 _ I1 h) λiv s2 ⟨y,H2,I2,ry,q2⟩=>?_
 have ho:s2.heap.get? B=some _:=I2.kIn B _ hl
 have mo:s2.heap.MapOf (zaE X.prog X.w) B (PySem.findBy (zaE X.prog X.w).is #[⟨BV X.w.params "rim",.str "rim" t1,.int a t2⟩,⟨BV X.w.params "hole",.str "hole" t3,.int b t4⟩]) :=
  ⟨_,_,_,ho,⟨rfl,rfl,rfl⟩,rfl,λe he=>by
   simp only[List.mem_toArray,List.mem_cons,List.not_mem_nil,or_false]at he;rcases he with rfl |rfl
   .exact⟨.inr "rim",zbV _ _ _ _,rfl⟩
   .exact⟨.inr "hole",zbV _ _ _ _,rfl⟩,λ_=>rfl⟩
 refine⟨⟨_,ho,rfl⟩,?_⟩;rcases q2 with⟨rfl,q⟩ |⟨rfl,q⟩
 .exact wpAny_getItem_of (kV_is (k:=.inr "rim") ry) mo (v:=.int a t2) rfl ⟨.int a,H2,I2.tok _,⟨_,rfl⟩,q⟩
 .exact wpAny_getItem_of (kV_is (k:=.inr "hole") ry) mo (v:=.int b t4) rfl ⟨.int b,H2,I2.tok _,⟨_,rfl⟩,q⟩
section
variable {X:Cx}
end
end L2
namespace HT
open PySem PyProof.Rows PySem.Spec
variable {prog:AR}{w:Be}{A:A3}{E:Ac->Ae->Prop}{s:Ae}
end HT
namespace L2
open PySem PySem.Spec PyProof.Rows
section
variable {X:Cx}{K:W.Frag}
theorem zj6 (hh:X.calm=true):CallR X (.builtin "any") (λxs H Q=>∃(p:Addr) (bs:List Bool),xs=[.ref p]/\SqL X.K H p (bs.map V.bl)/\Q (.bl (bs.any id)) H):=by
 intro pins s σ H xs us Q I r h;obtain⟨p,bs,rfl,hq,q⟩:=h;obtain⟨u,rfl,ru⟩:=vals1 r
 cases (show u=Aw p from ru)
 obtain⟨its,rv,pl,hz⟩:=I.list hq;have hlp:p<s.heap.objs.size:=by obtain⟨o,ho,_⟩:=pl.isList;exact AA ho
 have hlen:its.length=bs.length:=by have:=rv.length;simpa using this.symm
 refine call_any_walk (wpAny_pyIter_list pl.isList ?_);refine⟨_,_,_,_,_,_,λi=>bs.getD i false,rfl,Walks.list (A:=X.A.in1) (I.ok.hd hh) s.heap.objs.size p (A4 hlp) its.toArray,⟨⟨_,AF _ rfl,rfl,rfl⟩,pl.isList.push _⟩,?_,λh' tk hk=>?_⟩
 .intro i v s1 Q1 E1 hv hQ;have hv':its[i]?=some v:=by simpa using hv
  have hi:i<its.length:=(Ad.mp hv').1;obtain⟨w',hw,rw'⟩:=rv.get (i:=i) (x:=V.bl (bs[i]'(by lia))) (by simp[Aa,show i<bs.length by lia]);rw[hv']at hw
  cases hw
  cases (show v=Value.bool _ from rw')
  refine BZ ?_
  have e:bs.getD i false=bs[i]'(by lia):=by simp[Bk,show i<bs.length by lia]
  rw[<- e];exact hQ
 .have I1:Inv X pins σ H { s with heap:=h',toks:=tk }:=I.kept λb o e=>hk b o (by simp;exact A4 (AA e)) (Ag _ e)
  refine⟨.bl _,H,I1,rfl,?_⟩
  have e:(BS its.toArray.size).any (λi=>bs.getD i false)=bs.any id:=by
   rw[show its.toArray.size=bs.length by simpa using hlen];rw[Cc];simp only[List.any_eq_true,List.mem_range,id];constructor
   .rintro⟨i,hi,h⟩;exact⟨bs[i],Bi hi,by simpa[Bk,hi]using h⟩
   .rintro⟨b,hb,h⟩;obtain⟨i,hi,e⟩:=Az hb;exact⟨i,hi,by simpa[Bk,hi,e]using h⟩
  rw[e];exact q
end
end L2
namespace HT
open PySem PyProof.Rows PySem.Spec
end HT
namespace L2
open PySem PySem.Spec PyProof.Rows
section
variable {X:Cx}{K:W.Frag}
end
section
variable {X:Cx}
end
section
variable {X:Cx}{e es:Expr}{te ts:TE}{pos p2:Pos}
end
section
variable {X:Cx}
noncomputable def zd4(K:W.Frag):R2:=λx y H Q=>∃p xs d ds,y=.ref p/\SqL K H p xs/\RD K H x d/\RDs K H xs ds/\Bc d=true/\(∀e∈ds,Bc e=true)/\Q (.bl (!ds.any λe=>Bv e d)) H
theorem zjr(hu:X.A.units+65<cLine):OpR X (BB .NotIn) (zd4 X.K):=by intro pins s σ H x y v u Q I rx ry h;obtain⟨p,xs,d,ds,rfl,hq,hd,hds,sd,sds,q⟩:=h;obtain⟨as,ra⟩:=I.reads hd rx;obtain⟨bs,rb⟩:=I.reads (.lst hq hds) ry;exact SeqAt.notIn_list_reads rb ra (zcH sds) (Da sd) (Dm sd hu) ⟨.bl _,H,I,rfl,q⟩
end
section
variable {prog:AR}{w:Be}{A:A3}{R:Result->Ae->Prop}{I:Addr}{fp wr:List Addr}{n:Nat}{P:Nat->Ac->Prop}{St:Nat->Heap->Prop}{dv:Ac}
end
section
variable {X:Cx}{pins:List (Addr×Obj)}{σ:St}{H0:Hp}{s:Ae}{l:Addr}{Q:VK}
end
section
variable {X:Cx}{p pos kpos kp:Pos}{e:Expr}{te:TE}{d:Int}{kj:Nat}
end
end L2
namespace HT
open PySem PyProof.Rows
variable {prog:AR}{w:Be}{A:A3}{E:Ac->Ae->Prop}{s:Ae}
end HT
namespace L2
open PySem PySem.Spec PyProof.Rows
section
variable {X:Cx}{e es:Expr}{te ts:TE}{pos p2:Pos}
end
end L2
namespace HT
open PySem PyProof.Rows
section
open PySem.SeqAt
open PySem.AutoSeq1 (wpAny_loadPart')
open PySem.MeetsSeq PySem.MeetsSeq2 PySem.MeetsSeq3
end
section
variable {prog:AR}{w:Be}{A:A3}{E:Ac->Ae->Prop}{s:Ae}
end
end HT
namespace L2
open PySem PySem.Spec PyProof.Rows
section
variable {X:Cx}{pos:Pos}
end
section
variable {prog:AR}{w:Be}{A:A3}{E:Ac->Ae->Prop}{s:Ae}{it d:Addr}{i ep:Nat}{es:Array DictEntry}{od:Obj}
theorem zjD{Q:Ac -> Ae -> Prop}(lo:(d == BR)=false)(g:s.heap.get? d=some od)(x:od.ExactDict)(dat:od.data = .dict es ep)
  (k:Q (.ref s.heap.objs.size) { s with heap:=s.heap.push { cls:=.type "dict_keyiterator",data:=.fields #[.ref d,.int 0 0,.int es.size 0,.int ep 0] } }):At (Ay prog w) A (pyIter (.ref d)) Q E s:=by
 have ty:s.TypeIs (.ref d) "dict":=⟨od,g,x.1⟩;refine wpAny_pyIter_slot ty PySem.F.slot_dict_iter (DE PySem.F.slot_dict_iter ty PySem.F.entry_dict_iter ?_ (PySem.F.args_dict_iter_1 _));unfold Builtin.«dict.__iter__» Builtin.Dict.dictSlotNone;refine Ab (Ab (wpAny_notOrdered_dict ty ?_));show At (Ay prog w) A.in1 (pure (Aw d)) _ _ s;refine Af ?_
 show At (Ay prog w) A.in1 (Builtin.Dict.showsAll d >>= _) _ _ s;unfold Builtin.Dict.showsAll;rw[if_neg (show ¬ (d == BR)=true by rw[lo];decide)];refine Ab (Af (Ab (Dp g dat (Ab (wpAny_dictEpoch g dat (Ab (Bh (Af ⟨_,rfl,"dict_keyiterator",_,⟨_,AF _ rfl,rfl⟩,PySem.F.slot_dict_keyiterator_next.lookup,?_⟩))))))));simpa[rawInt]using k
theorem zjC{e:DictEntry}{Q:Option Ac -> Ae -> Prop}(st:s.heap.IsKeyIter it d i es.size ep)(g:s.heap.get? d=some od)(dat:od.data = .dict es ep)(he:es[i]? = some e)
  (k:∀h',h'.IsKeyIter it d (i+1) es.size ep->Cj it s.heap h'->Q (some e.key) { s with heap:=h' }):At (Ay prog w) A (pyNext (.ref it)) Q E s:=by
 obtain⟨o,go,oc,odt⟩:=id st;unfold pyNext;refine Ab (wpAny_attempt (C1 (name:=BD "__next__") st.typeIs B6 (DE B6 st.typeIs DN ?_ (DI _))));refine Ab (Af (Ab (Ab ?_)));refine Ab (Cn st.typeIs (Af (Ab (wpAny_fieldsOf go odt ?_))));simp only[show Builtin.Dict_items.ownsTuple "dict_keyiterator" = false by decide,A0,if_false];show At (Ay prog w) _ (if (Aw d == Cq)=true then _ else _) _ _ s;rw[if_neg (show ¬ (Aw d == Cq)=true by simp)];refine Ab (Af (Ab (Dp g dat ?_)));rw[if_neg (show ¬ ((es.size:Int) != (es.size:Int))=true by simp)];refine Ab (Af (Ab (wpAny_dictEpoch g dat ?_)));rw[if_neg (show ¬ ((ep:Int) != (ep:Int))=true by simp)];refine Af ?_
 simp only[show ¬ ((i:Int)<0) by lia,if_false,CW,he];refine Ab (Ab (Cn st.typeIs (Af ?_)));refine Ab (wpAny_isOneOf_keyiter st.typeIs ?_);show At (Ay prog w) _ (setField (.ref it) 1 (rawInt ((i:Int)+1)) >>= _) _ _ s;refine Ab (wpAny_setField go odt (by simp) ?_)
 have st':(s.heap.update it (Obj.mapFields (·.setIfInBounds 1 (rawInt ((i:Int)+1))))).IsKeyIter it d (i+1) es.size ep:=by refine⟨_,B3 _ go (Obj.isFreed_of_fields (Obj.data_mapFields odt _)),(Obj.cls_mapFields ..).trans oc,?_⟩;rw[Obj.data_mapFields odt];simp[rawInt]
 refine Ab (Bo (Ab (wpAny_isOneOf_keyiter (s:={ s with heap:=s.heap.update it (Obj.mapFields (·.setIfInBounds 1 (rawInt ((i:Int)+1)))) }) st'.typeIs ?_)));show At (Ay prog w) _ (pure e.key) _ _ _;exact Af (Af ⟨_,rfl,Af (k _ st' (Bu ..))⟩)
theorem zkL{Q:Option Ac -> Ae -> Prop}(hh:A.handled=none)(st:s.heap.IsKeyIter it d i es.size ep)(g:s.heap.get? d=some od)(dat:od.data = .dict es ep)(he:es.size <= i)
  (k:∀h',Heap.ExtBut it s.heap h'->Q none { s with heap:=h' }):At (Ay prog w) A (pyNext (.ref it)) Q E s:=by
 obtain⟨o,go,oc,odt⟩:=id st;unfold pyNext;refine Ab (wpAny_attempt (C1 (name:=BD "__next__") st.typeIs B6 (DE B6 st.typeIs DN ?_ (DI _))));refine Ab (Af (Ab (Ab ?_)));refine Ab (Cn st.typeIs (Af (Ab (wpAny_fieldsOf go odt ?_))));simp only[show Builtin.Dict_items.ownsTuple "dict_keyiterator" = false by decide,A0,if_false];show At (Ay prog w) _ (if (Aw d == Cq)=true then _ else _) _ _ s;rw[if_neg (show ¬ (Aw d == Cq)=true by simp)];refine Ab (Af (Ab (Dp g dat ?_)));rw[if_neg (show ¬ ((es.size:Int) != (es.size:Int))=true by simp)];refine Ab (Af (Ab (wpAny_dictEpoch g dat ?_)));rw[if_neg (show ¬ ((ep:Int) != (ep:Int))=true by simp)];refine Af ?_
 simp only[show ¬ ((i:Int)<0) by lia,if_false,CW,Array.getElem?_eq_none he];refine Ab (Ab (Cn st.typeIs (Af ?_)));show At (Ay prog w) _ (setField (.ref it) 0 .none >>= _) _ _ s;refine Ab (wpAny_setField go odt (by simp) ?_);show At (Ay prog w) _ (newExc (.type "StopIteration") [] >>= _) _ _ _;refine Ab ?_
 simp only[newExc,newTuple];refine Ab (Bh ?_ (by size_fits));refine Ab (m:=firstArgMember _ _) (wpAny_of_eq (a:=Cq) (by first |rfl | (simp only[firstArgMember];rfl)) (Bh ?_ (by size_fits)));simp only[raiseNew];refine Ab (wpAny_handled ?_);rw[show A.in1.handled=none from hh];refine Ab (Af (wpAny_throw (?_:At _ _ _ _ _ _)));exact Ab (wpAny_isInstance (b:=true) (T:="StopIteration") ⟨_,AF _ rfl,rfl⟩ isSubtype_stop (Af (k _ (((Bu ..).extBut.push _).push _))))
end
theorem Paired.at'{α β:Type}{F:α->β->Prop}:∀{l:List α}{m:List β},Paired F l m->∀{i:Nat}{x:α},l[i]?=some x->∃y,m[i]?=some y/\F x y
 |_,_,.cons r t,0,x,h=>by cases h;exact⟨_,rfl,r⟩
 |_,_,.cons r t,i+1,x,h=>Paired.at' t h
section
variable {X:Cx}{tg:Expr}
end
theorem zcq{α β:Type}(f:α->β):∀(l:List α) (i:Nat),(l.map f).eraseIdx i=(l.eraseIdx i).map f
 |[],i=>by simp
 |x::l,0=>rfl
 |x::l,i+1=>by rw[A7,D1,D1,A7,zcq f l i]
section
variable {prog:AR}{w:Be}{K:Type} [DecidableEq K] {knd:HeapKind prog w K}{A:A3}{E:Ac->Ae->Prop}{s:Ae}{d a:Addr}{xs:List (K×Addr×Ac)}{k:K}
theorem zf7{Q:Option DictEntry -> Ae -> Prop}(hr:knd.room A)(hk:knd.is s.heap k a)(hD:Dd knd s.heap d xs)(hsz:xs.length <= sizeLine)
  (h1:DL xs k=none->Q none { s with toks:=s.toks+knd.draws k })
  (h2:∀(j:Nat) p,xs[j]?=some (k,p)->∀h',Dd knd h' d (xs.eraseIdx j)->Cj d s.heap h'->Q (some ⟨knd.hash k,.ref p.1,p.2⟩) { s with heap:=h',toks:=s.toks+knd.draws k }) :
  At (Ay prog w) A (Builtin.Dict.takeOut d (.ref a)) Q E s:=by
 obtain⟨o,es,ep,ho,hx,hd,he,hi,hn⟩:=id hD;unfold Builtin.Dict.takeOut;refine Bo (Ab (knd.pyHash hr hk ?_));refine Ab (wpAny_dictFind_heap (s:={ s with toks:=s.toks+knd.draws k }) hr hk ho hd he hi hn (λhno=>Af (h1 (atKey_none_of_get hno))) λj p hj=>?_);have hes:es.size=xs.length:=size_of_entries he;have ee:es[j]?=some ⟨knd.hash k,.ref p.1,p.2⟩:=by rw[entry_at he,hj];rfl
 refine Ab (Dp (s:={ s with toks:=s.toks+knd.draws k }) ho hd ?_);rw[ee];refine Ab (wpAny_updateDictKeys (hz:=by lia) (s:={ s with toks:=s.toks+knd.draws k }) ho hd (Af (h2 j p hj _ ⟨_,_,ep+1,B3 _ ho (Obj.isFreed_of_dict (Obj.data_mapDictKeys hd _)),hx.mapDictKeys _,Obj.data_mapDictKeys hd _,?_,?_,?_⟩ (Bu ..))))
 .have:(es.eraseIdxIfInBounds j).toList=es.toList.eraseIdx j:=by simp
  rw[this,he,zcq]
 .intro x hx';exact knd.keeps (hi x (List.mem_of_mem_eraseIdx hx')) ho hd (Bu ..)
 .rw[<- zcq];exact hn.sublist (List.eraseIdx_sublist _ _)
theorem KT.erase{H:Hp}:∀{kvs:List (List Key×V)}{xs:List (List Key×Addr×Ac)},KT H kvs xs->(xs.map (·.1)).Nodup->∀{k:List Key}{j:Nat}{p:Addr×Ac},xs[j]?=some (k,p)->KT H (dropK kvs k) (xs.eraseIdx j)/\∃v,valV kvs k=some v/\RelV v p.2
 |_,_,.cons (a:=x) (b:=y) (l₁:=l) (l₂:=m) r t,hn,k,0,p,h=>by
  cases h
  have e:x.1=k:=r.1;refine⟨?_,x.2,zbg e,r.2.2⟩;rw[zjS e,List.eraseIdx_cons_zero,zia λhm=>?_]
  .exact t
  .have e2:l.map (·.1)=m.map (·.1) := by
    clear r hn hm
    induction t with
    |nil=>rfl
    |cons r t ih=>rw[A7,A7,r.1,ih]
   rw[e2]at hm;exact (BF.mp hn).1 hm
 |_,_,.cons (a:=x) (b:=y) (l₁:=l) (l₂:=m) r t,hn,k,j+1,p,h=>by
  have h':m[j]?=some (k,p):=h;have hn':=BF.mp hn;have e:¬ x.1=k:=λz=>hn'.1 (AS.mpr ⟨(k,p),Aj h',by rw[<- z];exact r.1⟩)
  obtain⟨i1,v,i2,i3⟩:=KT.erase t hn'.2 h';rw[zgC e,D1,zbh e];exact⟨.cons r i1,v,i2,i3⟩
end
section
variable {X:Cx}{o e f:Expr}{apos cpos:Pos}{td ty tx:TE}
end
end L2
namespace RP
end RP
namespace L2
open PySem PySem.Spec PyProof.Rows
section
variable {X:Cx}
end
end L2
namespace HT
open PySem PyProof.Rows
variable {prog:AR}{w:Be}{A:A3}{E:Ac->Ae->Prop}{s:Ae}
end HT
namespace L2
open PySem PySem.Spec PyProof.Rows
section
variable {X:Cx}{e es:Expr}{te ts:TE}{pos p2:Pos}
end
section
variable {prog:AR}{w:Be}{A:A3}{E:Ac->Ae->Prop}{s:Ae}
end
section
variable {X:Cx}
end
section
variable {X:Cx}
end
section
variable {prog:AR}{w:Be}{A:A3}{E:Ac->Ae->Prop}{s:Ae}
end
section
variable {X:Cx}{pins:List (Addr×Obj)}{σ:St}
end
section
variable {X:Cx}{l m:Expr}{t:TA}{p p2 pos pos2:Pos}
end
theorem zj9:∀{xs:List V}{us:List Ac},xs.length=us.length->(∀(i:Nat) x u,xs[i]?=some x->us[i]?=some u->RelV x u)->Vals xs us
 |[],[],_,_=>.nil
 |x::xs,u::us,h,k=>.cons (k 0 x u rfl rfl) (zj9 (by simpa using h) λi y v h1 h2=>k (i+1) y v (by simpa using h1) (by simpa using h2))
 |[],_::_,h,_=>by cases h
 |_::_,[],h,_=>by cases h
section
variable {X:Cx}{a:Expr}{t:TA}{p p2 pos pos2:Pos}
end
section
variable {X:Cx}
end
section
variable {X:Cx}{tg:Expr}
end
section
variable {X:Cx}{pos:Pos}{kx vx:Expr}{tk tv:TE}
end
open AutoSeq1 (wpAny_loadPart')
section
variable {prog:AR}{w:Be}{A:A3}{E:Ac->Ae->Prop}{s:Ae}{d:Addr}{ep:Nat}{es:Array DictEntry}{od:Obj}
theorem zil(hh:A.handled=none)(I d:Addr)(hne:d ≠ I)(dat:od.data = .dict es ep) :
  Walks prog w A I [I,d] [I] es.size (λi v=>∃e,es[i]?=some e/\v=e.key) (λi h=>h.IsKeyIter I d i es.size ep/\h.get? d=some od) where
 sub:=λb hb=>by simp at hb;simp[hb]
 frame:=λi h h' st k=>⟨st.1.at λo e=>k I (by simp) o e,k d (by simp) _ st.2⟩
 item:=λi s Q E hi st hQ=>by
  refine zjC st.1 st.2 dat (Bw hi) λh' st' sb=>?_
  refine hQ _ h' s.toks ⟨_,Bw hi,rfl⟩ ⟨st',(sb.2 d hne).trans st.2⟩ λb o hb e=>(sb.2 b (λz=>hb (by simp[z]))).trans e
 done:=λs Q E st hQ=>zkL hh st.1 st.2 dat (Am _) λh' eb=>hQ h' s.toks λb o hb e=>eb b o (λz=>hb (by simp[z])) e
 self:=λi s Q E st hQ=>wpAny_pyIter_keyiter st.1 hQ
theorem zjM{Q:Bool->Ae->Prop}(g:s.heap.get? d=some od)(x:od.ExactDict)(h:Q false s):At (Ay prog w) A (Builtin.List.listLengthHint (.ref d)) Q E s:=by
 have ty:s.TypeIs (.ref d) "dict":=⟨od,g,x.1⟩;unfold Builtin.List.listLengthHint;refine Ab (wpAny_specialOf ty PySem.F.slot_dict_len.lookup ?_);generalize hid:("dict.__len__" : String)=id0
 wp_delta
 rw[show splitId id0=some ("dict","__len__") from by subst hid;decide +kernel];subst hid;refine Ab (wpAny_isInstance (T:="dict") (b:=true) ty (by rw[isSubtype_type];kernel_rfl) ?_);refine wpAny_ite_split (λhab=>absurd hab (by decide)) (λ_=>?_);refine wpAny_ite_split (λ_=>?_) (λhab=>absurd (by decide +kernel) hab);refine Ab (wpAny_typeOf (T:="dict") ty ?_);exact Af h
theorem zhe{R:Result -> Ae -> Prop}(hh:A.handled=none)(lo:(d == BR)=false)(g:s.heap.get? d=some od)(x:od.ExactDict)(dat:od.data = .dict es ep)(hz:es.size <= 2 ^ 24)
    (S:Addr) (res:Ac) (c₀:Nat) (hS:s.heap.get? S=some { cls:=.type "list",data:=.seq #[] c₀ })
    (hR:∀h' tk acc' c',(∀b o,b≠S->s.heap.get? b=some o->h'.get? b=some o)->h'.get? S=some { cls:=.type "list",dict:=none,data:=.seq acc' c',slots:=#[] } ->
      ItemsOf (λi v=>∃e,es[i]?=some e/\v=e.key) acc' es.size->R (.ok (.ret res)) { s with heap:=h',toks:=tk }) :
    At (Ay prog w) A.in1 (Cz (.ref S) (.ref d) res)
      (λfin s'=>match fin with |.done f=>R (.ok f) s' |.again c'=>c'.quiet=true/\Co (Ay prog w) A c' R s') (λe s'=>R (.error e) s') s:=by
  have hSr:S≠d:=λe=>by rw[e,g]at hS;have:=x.1;cases hS;exact absurd (show Dr "list" = Dr "dict" from this) (by decide)
  have hSlt:S<s.heap.objs.size:=AA hS;have hdlt:d<s.heap.objs.size:=AA g;have hSI:S≠s.heap.objs.size:=A4 hSlt
  have hSf:S ∉ [s.heap.objs.size,d]:=λhm=>by
    rcases AM.mp hm with z |z
    . exact hSI z
    . exact hSr (Ah.mp z)
  have W:=(zil (prog:=prog) (w:=w) (A:=A.in1) hh s.heap.objs.size d (A4 hdlt) dat).toS
  have key:∀(h:Heap) (c₁ tk:Nat), h.IsKeyIter s.heap.objs.size d 0 es.size ep /\ h.get? d=some od -> (∀b o, b ≠ S -> s.heap.get? b=some o -> h.get? b=some o) ->
      h.get? S=some { cls:=.type "list",data:=.seq #[] c₁ }->Co (Ay prog w) A (.builtin "list.extend.loop" ⟨[.ref S,.ref s.heap.objs.size,res],[]⟩) R { s with heap:=h,toks:=tk }:=by
    intro h c₁ tk hit hk hS₁;refine codeAny_extend_loopS W (by rw[sizeLine_eq];lia) S hSf res es.size 0 _ #[] c₁ rfl (A9 _) hit hS₁ (ItemsOf.nil _) λs' acc' c' hm hS' hacc=>?_
    rw[Moved.eq_with hm];refine hR s'.heap s'.toks acc' c' (λb o hb e=>hm.heap b o (λhmem=>?_) (hk b o hb e)) hS' hacc;rcases AM.mp hmem with e' |hmem
    . exact hb e'
    . exact absurd (AA e) (by rw[Ah.mp hmem];exact CA _)
  unfold Cz;refine Ab (wpAny_typeOf (T:="dict") ⟨od,g,x.1⟩ ?_);have h1:Builtin.List.listSameRef (.ref S) (.ref d)=false:=by simp[Builtin.List.listSameRef,hSr]
  have h2:(Dr "dict" == Dr "list")=false:=by decide
  have h3:(Dr "dict" == Dr "tuple")=false:=by decide
  simp only[h1,h2,h3,Bool.or_false,A0,if_false];refine Ab (zjD lo g x dat ?_);refine Ab (Bo (zjM (Ag _ g) x ?_));have hit₁:(s.heap.push { cls:=.type "dict_keyiterator",data:=.fields #[.ref d,.int 0 0,.int es.size 0,.int ep 0] }).IsKeyIter s.heap.objs.size d 0 es.size ep:=⟨_,AF _ rfl,rfl,rfl⟩;have hg₁:=Ag { cls:=.type "dict_keyiterator",data:=.fields #[.ref d,.int 0 0,.int es.size 0,.int ep 0] } g;have hS₁:=Ag { cls:=.type "dict_keyiterator",data:=.fields #[.ref d,.int 0 0,.int es.size 0,.int ep 0] } hS;refine wpAny_ite_split (λ_=>?_) (λhab=>absurd (by decide) hab);refine Ab (CH ?_);refine Ab ?_
  show At _ _ (updateSeq S (·.push .none) >>= λ_=>updateSeq S (·.pop)) _ _ _;refine Ab (Dg hS₁ rfl ?_);have hS₂:=B3 (AT (·.push Cq)) hS₁ rfl;refine Dg (hz:=by seq_fits) hS₂ rfl ?_
  have hS₃:=B3 (AT (·.pop)) hS₂ rfl;refine Af ⟨DM PySem.F.plain_extend_loop _,key _ _ _ ⟨hit₁.at λo e=>?_,?_⟩ (λb o hb e=>?_) hS₃⟩
  . exact (Bj _ _ hSI).trans ((Bj _ _ hSI).trans e)
  . exact (Bj _ _ hSr).trans ((Bj _ _ hSr).trans hg₁)
  . exact (Bj _ _ (BW hb)).trans ((Bj _ _ (BW hb)).trans (Ag _ e))
theorem zjL{R:Result -> Ae -> Prop}(hh:A.handled=none)(lo:(d == BR)=false)(g:s.heap.get? d=some od)(x:od.ExactDict)(dat:od.data = .dict es ep)(hz:es.size <= 2 ^ 24)
  (S:Addr) (hS:s.heap.get? S=some { cls:=.type "list",data:=.seq #[] })
  (hR:∀h' tk acc' c',(∀b o,b≠S->s.heap.get? b=some o->h'.get? b=some o)->h'.get? S=some { cls:=.type "list",dict:=none,data:=.seq acc' c',slots:=#[] } ->
   ItemsOf (λi v=>∃e,es[i]?=some e/\v=e.key) acc' es.size->R (.ok (.ret .none)) { s with heap:=h',toks:=tk }) :
  At (Ay prog w) A.in1 (Builtin.«list.__init__» ⟨[.ref S,.ref d],[]⟩)
   (λfin s'=>match fin with |.done f=>R (.ok f) s' |.again c'=>c'.quiet=true/\Co (Ay prog w) A c' R s') (λe s'=>R (.error e) s') s:=by
 have hSr:S≠d:=λe=>by rw[e,g]at hS;have:=x.1;cases hS;exact absurd (show Dr "list" = Dr "dict" from this) (by decide)
 show At _ _ (do let old <- Builtin.List.listItems (.ref S);Builtin.List.listUpdate (.ref S) (λ_=>#[]);letGo old.toList.reverse;Cz (.ref S) (.ref d) .none) _ _ s;refine Ab ?_
 unfold Builtin.List.listItems;refine Ab (wpAny_seqItems hS rfl (Af ?_));show At _ _ (updateSeq S (λ_=>#[]) >>= λ_=>letGo (#[]:Array Ac).toList.reverse >>= λ_=>Cz (.ref S) (.ref d) .none) _ _ s;refine Ab (Dg hS rfl ?_);have hS₂:=B3 (AT (λ_=>(#[]:Array Ac))) hS rfl
 have oth:∀b o,b≠S->s.heap.get? b=some o->(s.heap.update S (AT (λ_=>(#[]:Array Ac)))).get? b=some o :=
  λb o hb e=>(Bj _ _ (BW hb)).trans e
 refine Ab (D0 ?_);refine zhe hh lo (oth d _ (BW hSr) g) x dat hz S .none _ hS₂ λh' tk acc' c' hk hS' hacc=>?_
 exact hR h' tk acc' c' (λb o hb e=>hk b o hb (oth b o hb e)) hS' hacc
theorem zeG{Q:Ac -> Ae -> Prop}(hh:A.handled=none)(lo:(d == BR)=false)(g:s.heap.get? d=some od)(x:od.ExactDict)(dat:od.data = .dict es ep)(hz:es.size <= 2 ^ 24)
  (hQ:∀h' tk acc' c',(∀b o,s.heap.get? b=some o->h'.get? b=some o) ->
   h'.get? s.heap.objs.size=some { cls:=.type "list",dict:=none,data:=.seq acc' c',slots:=#[] }->ItemsOf (λi v=>∃e,es[i]?=some e/\v=e.key) acc' es.size->Q (.ref s.heap.objs.size) { s with heap:=h',toks:=tk }) :
  At (Ay prog w) A (call (.type "list") [.ref d]) Q E s:=by
 refine callType_codes (Q₁:=λobj s₁=>obj=.ref s.heap.objs.size/\s₁={ s with heap:=s.heap.push { cls:=.type "list",data:=.seq #[] } }) PySem.F.called_list (PySem.F.typeCall_list_1 _) PySem.F.entry_list_init
  (code_list_new _ ⟨rfl,rfl⟩) λobj s₁ h₁=>?_
 obtain⟨rfl,rfl⟩:=h₁;have hS:(s.heap.push { cls:=.type "list",data:=.seq #[] }).get? s.heap.objs.size=some { cls:=.type "list",data:=.seq #[] }:=AF _ rfl;refine⟨⟨_,hS,rfl⟩,PySem.F.args_list_init_2 _ _,zjL (A:=A.in1) hh lo (Ag _ g) x dat hz _ hS λh' tk acc' c' hk hS' hacc=>?_⟩;exact⟨rfl,hQ h' tk acc' c' (λb o e=>hk b o (A4 (AA e)) (Ag _ e)) hS' hacc⟩
end
noncomputable def KeyL(H:Hp)(ts:List V)(kvs:List (List Key×V)):Prop:=ts.length=kvs.length/\∀(i:Nat) t k v,ts[i]?=some t->kvs[i]?=some (k,v)->∃b,t=.ref b/\H b=some (.tup (k.map kV))
section
variable {X:Cx}
theorem zgG (hh:X.calm=true):CallR X (.type "list") (λxs H Q=>∃a kvs,xs=[.ref a]/\Rd H a (.dT kvs)/\∀l ts,H l=none->KeyL H ts kvs->Q (.ref l) (upd H l (.lst ts))):=by
 intro pins s σ H xs us Q I r h;obtain⟨a,kvs,rfl,e,q⟩:=h;obtain⟨u,rfl,rx⟩:=vals1 r
 cases rx
 obtain⟨z,y,ys,rr,od,es,ep,h1,h2,h3,h4,h5⟩:=(show ObjOk X.prog X.w H s.heap a (.dT kvs) from rd_of I.hok e);have hsz:es.size=kvs.length:=by rw[size_of_entries h4,<- CY rr]
 have z':=z;rw[sizeLine_eq]at z';refine zeG (show X.A.handled=none from I.ok.hd hh) y h1 h2 h3 (by lia) λh' tk acc c kp g hacc=>?_
 have at_i:∀(i:Nat) (u:Ac),acc[i]?=some u->∃b k v,kvs[i]?=some (k,v)/\u=.ref b/\H b=some (.tup (k.map kV)):=λi u hu=>by
  obtain⟨en,he,rfl⟩:=hacc.2 i u hu
  have hi:i<kvs.length:=by have:=(Bl.mp he).1;lia
  obtain⟨q',hq,q1,q2,q3⟩:=Paired.at' rr (Aa hi);have he':es[i]?=some (entryOfKey (DC (zaE X.prog X.w)) q'):=by rw[entry_at h4,hq];rfl
  rw[he]at he'
  cases he'
  exact⟨q'.2.1,kvs[i].1,kvs[i].2,Aa hi,rfl,q2⟩
 have hal:acc.size=kvs.length:=by rw[<- hsz];exact hacc.1
 let ts:List V:=acc.toList.map λu=>match u with |.ref b=>V.ref b |_=>V.non
 have hts:ts.length=kvs.length:=by simp[ts,hal]
 have hrel:Vals ts acc.toList:=zj9 (by simp[ts]) λi x u hx hu=>by
  rw[AC,hu]at hx
  cases hx
  obtain⟨b,k,v,_,rfl,_⟩:=at_i i u (by simpa using hu);rfl
 have hn:H s.heap.objs.size=none:=I.hok.fresh (Am _);refine⟨.ref s.heap.objs.size,_,I.laid (t':=tk) (o:=.lst ts) kp (Am _) ⟨by rw[hts];exact z,acc.toList,c,hrel,by rw[Array.toArray_toList];exact g⟩,rfl,q _ ts hn ⟨hts,λi t k v ht hk=>?_⟩⟩;have hi:i<acc.toList.length:=by have:=(Ad.mp ht).1;simpa[ts]using this
 have hu:acc.toList[i]?=some acc.toList[i]:=Aa hi;obtain⟨b,k',v',hk',hu',hb⟩:=at_i i acc.toList[i] (by simpa using hu);rw[hk]at hk'
 cases hk'
 rw[AC,hu]at ht
 cases ht
 rw[hu'];exact⟨b,rfl,hb⟩
end
section
variable {X:Cx}{es:List Expr}{te:TE}{t:TA}{pos:Pos}
theorem pa_T{l:List Expr}{k:Nat}(ha:PE X (.Tuple l k pos) te)(hr:PA X es t):PA X (.Tuple l k pos::es) (tCons te t):=zah ha hr (by rfl)
theorem pa_C{c:Const}{k:Nat}(ha:PE X (.Constant c k pos) te)(hr:PA X es t):PA X (.Constant c k pos::es) (tCons te t):=zah ha hr (by rfl)
theorem pa_B{a b:Expr}{o:Operator}(ha:PE X (.BinOp a o b pos) te)(hr:PA X es t):PA X (.BinOp a o b pos::es) (tCons te t):=zah ha hr (by rfl)
theorem pa_N{x:Str}(ha:PE X (.Name x pos) te)(hr:PA X es t):PA X (.Name x pos::es) (tCons te t):=zah ha hr (by rfl)
end
theorem zap{i:Nat}{v:V}{σ:St}{H:Hp}{Q:St->Hp->Prop}:gName i v σ H Q=Q (σ.set i (some v)) H:=rfl
theorem zm6{i:Nat}{v:V}{u:TS}{D:Ends}{σ:St}{H:Hp}:tSeq (tAsg (tC v) (gName i)) u D σ H=u D (σ.set i (some v)) H:=rfl
section
variable {X:Cx}{tg:Expr}
end
inductive IsC:Expr->V->Prop where
 |int {n:Int} {k:Nat} {p:Pos}:IsC (.Constant (.int n) k p) (.int n)
 |bl {b:Bool} {k:Nat} {p:Pos}:IsC (.Constant (.bool b) k p) (.bl b)
 |neg {n:Int} {k:Nat} {p q:Pos}:IsC (.UnaryOp .USub (.Constant (.int n) k p) q) (.int (-n))
inductive IsPs:List Expr->List (V×V)->Prop where
 |nil:IsPs [] []
 |cons {a b:Expr} {x y:V} {k:Nat} {p:Pos} {es:List Expr} {l:List (V×V)}:IsC a x->IsC b y->IsPs es l->IsPs (.Tuple [a,b] k p::es) ((x,y)::l)
inductive RetPs:List Stmt->List (V×V)->Prop where
 |mk {es:List Expr} {l:List (V×V)} {p q:Pos}:IsPs es l->RetPs [.Return (some (.List es p)) q] l
section
variable {X:Cx}
end
section
variable {X:Cx}
end
section
variable {prog:AR}{w:Be}{A:A3}{E:Ac->Ae->Prop}{s:Ae}{T:String}{r d:Addr}{n:Nat}{P:Nat->Ac->Prop}{OK:Heap->Prop}
end
section
variable {X:Cx}
end
noncomputable def zmp(td ty tx:TE):TE:=λσ H Q=>td σ H λx H1=>∃a,x=.ref a/\IsD H1 a/\ty σ H1 λy H2=>tx σ H2 λz H3=>∃kvs k,H3 a=some (.dK kvs)/\y=kV k/\kvs.length<sizeLine /\
 (∀v,valV kvs k=some v->Q v H3)/\(valV kvs k=none->Q z (upd H3 a (.dK (putK kvs k z))))
section
variable {X:Cx}{o e f:Expr}{apos cpos:Pos}{td ty tx:TE}
theorem zhI (ho:PE X o td) (he:PE X e ty) (hf:PE X f tx) (m:M2 X o "setdefault" apos e f cpos):PE X (.Call (.Attribute o "setdefault" apos) [e,f] [] cpos) (zmp td ty tx):=by
 intro pins s σ H Q I h;refine wpAny_Call_method m.base m.few m.line DY Cs PySem.F.type_dict_setdefault (thn (ho pins s σ H _ I h) λu s1 ⟨x,H1,I1,rx,a,ex,d,q1⟩=>?_);subst ex;obtain rfl:u=Aw a:=rx;obtain⟨t1,t2,_⟩:=zjJ I1 d;refine⟨t1,t2,?_⟩;rw[m.trees]
 refine C8 rfl (Dv (Ch (thn (he pins s1 σ H1 _ I1 q1) λiv s2 ⟨y,H2,I2,ry,q2⟩ =>
  Ch (thn (hf pins s2 σ H2 _ I2 q2) λfv s3 ⟨z,H3,I3,rz,kvs,k,eD,ey,hl,k1,k2⟩=>Calls.spliced_nil ?_))))
 subst ey;obtain⟨zz,hd,vs,rel,dd⟩:=dk_of I3.hok eD
 refine call_meetsIn Cs dd.typeIs PySem.F.entry_dict_setdefault (PySem.F.args_dict_setdefault_3 _ _ _) (PySem.kt_meets_setdefault (zaE X.prog X.w) a (kV_is ry) hd fv)
  ⟨vs,dd,by rw[<- rel.length];exact zz,λp ep=>?_,λen h' dd' hs=>?_⟩
 .have rv:=rel.val k;rw[ep]at rv
  cases hv:valV kvs k with
  |none=>rw[hv]at rv;exact BK rv
  |some v=>rw[hv]at rv;exact⟨v,H3,I3.tok _,rv,k1 v hv⟩
 .have hn:valV kvs k=none := by
   have rv:=(rel.val k).isSome_eq;rw[en]at rv
   cases hv:valV kvs k with
   |none=>rfl
   |some v=>rw[hv]at rv;exact absurd rv (by simp)
  have hz:(putK kvs k z).length<=sizeLine:=by have:=zaR kvs k z;lia
  have hq:∃q,h'.get? a=some q:=let ⟨q,_,_,hq,_⟩:=dd';⟨q,hq⟩
  exact⟨z,_,zc7 I3 (by rw[eD];exact Du) hs hq (zjT hz hd (rel.put k rz) dd'),rz,k2 hn⟩
end
section
variable {X:Cx}{tg:Expr}
end
section
variable {prog:AR}{w:Be}{A:A3}{E:Ac->Ae->Prop}{s:Ae}{d it v:Addr}{i ep:Nat}{es:Array DictEntry}{od:Obj}{ok ov:Ac}
end
section
variable {X:Cx}
end
end L2
namespace RP
noncomputable def av(w:Nat):Int:=if w=0∨w=1 then 1 else 0
noncomputable def bv(w:Nat):Int:=if w=1∨w=2 then 1 else 0
noncomputable def eU(e:Edge):Int:=px e+py e+av e.w
noncomputable def eV(e:Edge):Int:=py e-px e+bv e.w
noncomputable def tt(C:Cell->Bool)(e:Edge):Int:=match stepB C e with
 |none=>1
 |some s=>if s % 2=1 then -1 else 0
noncomputable def eK(w:Nat):Int:=(if w=1∨w=2 then 1 else 0)+(if w=2∨w=3 then 1 else 0)+av w
noncomputable def eL(w:Nat):Int:=(if w=2∨w=3 then 1 else 0)-(if w=1∨w=2 then 1 else 0)+bv w
theorem e_tab:∀w<4,∀v<4,(eK w-eK v+(eL w-eL v)) % 2≠0∨w=v∨(eK w-eK v-(eL w-eL v)=2*(mv ((2*w+6) % 8)).1/\eK w-eK v+(eL w-eL v)=2*(mv ((2*w+6) % 8)).2):=by decide
theorem eU_of(e:Edge):eU e=e.c.1+e.c.2+eK e.w:=by unfold eU px py eK;lia
theorem eV_of(e:Edge):eV e=e.c.2-e.c.1+eL e.w:=by unfold eV px py eL;lia
theorem e_inj{C:Cell->Bool}{e f:Edge}(he:IsE C e)(hf:IsE C f)(h1:eU e=eU f)(h2:eV e=eV f):e=f:=by
 rw[eU_of,eU_of]at h1;rw[eV_of,eV_of]at h2;have t:=e_tab e.w he.1 f.w hf.1;obtain⟨⟨x,y⟩,w⟩:=e;obtain⟨⟨x',y'⟩,w'⟩:=f;simp only at h1 h2 t;rcases t with z |z |⟨z1,z2⟩
 .exfalso;lia
 .subst z;have a:x=x':=by lia
  have b:y=y':=by lia
  rw[a,b]
 .have g:=he.2.2;have a:x'=x+(mv ((2*w+6) % 8)).1:=by lia
  have b:y'=y+(mv ((2*w+6) % 8)).2:=by lia
  have c:=hf.2.1;rw[a,b]at c;exact absurd (c.symm.trans g) (by decide)
theorem zdl{C:Cell->Bool}{e:Edge}(h:IsE C e):eU (nxt C e)=eU e+(av e.w+av (nxt C e).w-1)/\eV (nxt C e)=eV e+(bv e.w+bv (nxt C e).w-1):=by obtain⟨p,q⟩:=zjq h;unfold eU eV;rw[p,q];have hw:=h.1;generalize (nxt C e).w=w';rcases way4 hw with r |r |r |r <;> rw[r] <;> simp[av,bv,dx,dy] <;> lia
theorem zfb{C:Cell -> Bool}{e:Edge}(h:IsE C e) :
  (tt C e=-1/\(nxt C e).w=(e.w+3) % 4)∨(tt C e=0/\(nxt C e).w=e.w)∨(tt C e=1/\(nxt C e).w=(e.w+1) % 4):=by
 unfold tt;rcases zbf h with⟨_,s,q⟩ |⟨_,_,s,q⟩ |⟨_,_,s,q⟩ <;> rw[q,s] <;> simp only
 .left;rw[if_pos (odd7 _)];exact⟨by decide,trivial⟩
 .right;left;rw[if_neg (by lia)];exact⟨by decide,trivial⟩
 .right;right;exact⟨by decide,trivial⟩
theorem c_at{C:Cell->Bool}{a b c d:Int}{v:Bool}(h:C (a,b)=v)(h1:c=a)(h2:d=b):C (c,d)=v:=by subst h1 h2;exact h
theorem zeP{C:Cell -> Bool}{e:Edge}(h:IsE C e)(ht:tt C e=0) :
  C (px e+dx e.w-1,py e+dy e.w-1)=decide (e.w=1∨e.w=2)/\C (px e+dx e.w,py e+dy e.w-1)=decide (e.w=2∨e.w=3):=by
 obtain⟨⟨x,y⟩,w⟩:=e;obtain⟨hw,hc,hg⟩:=id h;rcases zbf h with⟨_,s,q⟩ |⟨k1,k2,s,q⟩ |⟨_,_,s,q⟩
 .exfalso;unfold tt at ht;rw[s]at ht;simp only at ht;rw[if_pos (odd7 _)]at ht;exact absurd ht (by decide)
 .simp only at hw hc k1 k2
  rcases way4 hw with rfl |rfl |rfl |rfl <;> simp only[gap,go,mv,px,py,dx,dy]at hg k1 k2 ⊢ <;> simp at hg k1 k2 hc ⊢ <;>
   refine⟨?_,?_⟩ <;> first |exact c_at hg (by lia) (by lia) |exact c_at hc (by lia) (by lia) |exact c_at k1 (by lia) (by lia) |exact c_at k2 (by lia) (by lia)
 .exfalso;unfold tt at ht;rw[s]at ht;exact absurd ht (by decide)
theorem zdR(w:Nat):av w=0∨av w=1:=by unfold av;split <;> simp
theorem zii(w:Nat):bv w=0∨bv w=1:=by unfold bv;split <;> simp
theorem zfT:∀w<4,∀n,n=(w+3) % 4∨n=(w+1) % 4->(av w=av n/\bv w+bv n=1)∨(av w+av n=1/\bv w=bv n):=by intro w hw n hn;rcases hn with rfl |rfl <;> revert w <;> decide
theorem dx_av:∀w<4,dx w=av w-bv w/\dy w=av w+bv w-1:=by decide
theorem zl2{C:Cell->Bool}{e f:Edge}(he:IsE C e)(hf:IsE C f)(h1:eU e+eU (nxt C e)=eU f+eU (nxt C f))(h2:eV e+eV (nxt C e)=eV f+eV (nxt C f)):e=f:=by
 obtain⟨a1,a2⟩:=zdl he;obtain⟨b1,b2⟩:=zdl hf
 have key:e=f∨(tt C e=0/\tt C f=0/\px e+dx e.w=px f+dx f.w/\py e+dy e.w=py f+dy f.w)∨(eU e=eU (nxt C f)/\eV e=eV (nxt C f)/\e.w≠(nxt C f).w):=by
  rw[a1,b1]at h1;rw[a2,b2]at h2
  have ta:(tt C e=0/\(nxt C e).w=e.w)∨(av e.w=av (nxt C e).w/\bv e.w+bv (nxt C e).w=1)∨(av e.w+av (nxt C e).w=1/\bv e.w=bv (nxt C e).w):=by
   rcases zfb he with⟨_,n⟩ |q |⟨_,n⟩
   .exact .inr (zfT _ he.1 _ (.inl n))
   .exact .inl q
   .exact .inr (zfT _ he.1 _ (.inr n))
  have tb:(tt C f=0/\(nxt C f).w=f.w)∨(av f.w=av (nxt C f).w/\bv f.w+bv (nxt C f).w=1)∨(av f.w+av (nxt C f).w=1/\bv f.w=bv (nxt C f).w):=by
   rcases zfb hf with⟨_,n⟩ |q |⟨_,n⟩
   .exact .inr (zfT _ hf.1 _ (.inl n))
   .exact .inl q
   .exact .inr (zfT _ hf.1 _ (.inr n))
  have fin:eU e=eU f->eV e=eV f->e=f:=λq1 q2=>e_inj he hf q1 q2
  have dif:∀{g:Nat->Int},g e.w≠g (nxt C f).w->e.w≠(nxt C f).w:=λ{g} q z=>q (by rw[z])
  rw[b1,b2];rcases ta with⟨t1,n1⟩ |⟨p1,p2⟩ |⟨p1,p2⟩ <;> rcases tb with⟨t2,n2⟩ |⟨q1,q2⟩ |⟨q1,q2⟩
  .rw[n1,n2]at h1 h2;have u1:eU e=px e+py e+av e.w:=rfl;have u2:eV e=py e-px e+bv e.w:=rfl;have v1:eU f=px f+py f+av f.w:=rfl;have v2:eV f=py f-px f+bv f.w:=rfl;obtain⟨d1,d2⟩:=dx_av _ he.1;obtain⟨d3,d4⟩:=dx_av _ hf.1;exact .inr (.inl ⟨t1,t2,by lia,by lia⟩)
  .rw[n1]at h1 h2;exfalso;lia
  .rw[n1]at h1 h2;exfalso;lia
  .rw[n2]at h1 h2;exfalso;lia
  .rcases Classical.em (av e.w=av f.w) with z |z
   .exact .inl (fin (by lia) (by lia))
   .have c1:=zdR e.w;have c2:=zdR f.w;exact .inr (.inr ⟨by lia,by lia,dif (g:=av) (by lia)⟩)
  .exfalso;lia
  .rw[n2]at h1 h2;exfalso;lia
  .exfalso;lia
  .rcases Classical.em (bv e.w=bv f.w) with z |z
   .exact .inl (fin (by lia) (by lia))
   .have c1:=zii e.w;have c2:=zii f.w;exact .inr (.inr ⟨by lia,by lia,dif (g:=bv) (by lia)⟩)
 rcases key with h |⟨t1,t2,q1,q2⟩ |⟨q1,q2,q3⟩
 .exact h
 .obtain⟨c1,c2⟩:=zeP he t1;obtain⟨d1,d2⟩:=zeP hf t2;rw[q1,q2]at c1 c2;rw[c1]at d1;rw[c2]at d2;have d1':=decide_eq_decide.mp d1;have d2':=decide_eq_decide.mp d2;have hw:=he.1;have hw':=hf.1;have ww:e.w=f.w:=by lia
  rw[ww]at q1 q2;refine e_inj he hf ?_ ?_ <;> simp only[eU,eV] <;> rw[ww] <;> lia
 .exact absurd (congrArg Edge.w (e_inj he (zdB hf) q1 q2)) q3
noncomputable def cr(x1 y1 x2 y2:Int):Int:=if y1=-1/\y2=0/\0<x2 then 1 else if y1=0/\y2=-1/\0<x1 then -1 else 0
noncomputable def crT(t y1 y2:Int):Int:=if y1=-1/\y2=0 then t else if y1=0/\y2=-1 then -t else 0
theorem zdP(t y:Int):crT t y y=0:=by unfold crT;rw[if_neg (by lia),if_neg (by lia)]
theorem zid(t y z:Int):crT t y z+crT t z y=0:=by
 unfold crT
 by_cases h:y=-1/\z=0
 .rw[if_pos h,if_neg (by lia),if_pos ⟨h.2,h.1⟩];lia
 .by_cases k:y=0/\z=-1
  .rw[if_neg h,if_pos k,if_pos ⟨k.2,k.1⟩];lia
  .rw[if_neg h,if_neg k,if_neg (by lia),if_neg (by lia)];rfl
theorem cr_T{t x1 y1 x2 y2:Int}(h1:y1=0->(0<x1/\t=1)∨(¬ 0<x1/\t=0))(h2:y2=0->(0<x2/\t=1)∨(¬ 0<x2/\t=0)):cr x1 y1 x2 y2=crT t y1 y2:=by
 unfold cr crT
 by_cases h:y1=-1/\y2=0
 .rcases h2 h.2 with⟨q,r⟩ |⟨q,r⟩
  .rw[if_pos ⟨h.1,h.2,q⟩,if_pos h,r]
  .rw[if_neg (by lia),if_neg (by lia),if_pos h,r]
 .rw[if_neg (λz=>h ⟨z.1,z.2.1⟩),if_neg h]
  by_cases k:y1=0/\y2=-1
  .rcases h1 k.1 with⟨q,r⟩ |⟨q,r⟩
   .rw[if_pos ⟨k.1,k.2,q⟩,if_pos k,r]
   .rw[if_neg (by lia),if_pos k,r];rfl
  .rw[if_neg (λz=>k ⟨z.1,z.2.1⟩),if_neg k]
theorem cr_sq(u v a1 a2 b1 b2:Int)(ha1 : -1 <= a1 /\ a1 <= 1)(ha2 : -1 <= a2 /\ a2 <= 1)(hb1 : -1 <= b1 /\ b1 <= 1)(hb2 : -1 <= b2 /\ b2 <= 1)
  (h00:¬(u=0/\v=0)) (h10:¬(u+a1=0/\v+a2=0)) (h01:¬(u+b1=0/\v+b2=0)) (h11:¬(u+a1+b1=0/\v+a2+b2=0))
  (hc:¬(2*u+a1+b1=0/\2*v+a2+b2=0)) :
  cr u v (u+a1) (v+a2)+cr (u+a1) (v+a2) (u+a1+b1) (v+a2+b2)=cr u v (u+b1) (v+b2)+cr (u+b1) (v+b2) (u+a1+b1) (v+a2+b2):=by
 obtain⟨t,k00,k10,k01,k11⟩:∃t:Int,(v=0->(0<u/\t=1)∨(¬ 0<u/\t=0))/\(v+a2=0->(0<u+a1/\t=1)∨(¬ 0<u+a1/\t=0))/\(v+b2=0->(0<u+b1/\t=1)∨(¬ 0<u+b1/\t=0))/\(v+a2+b2=0->(0<u+a1+b1/\t=1)∨(¬ 0<u+a1+b1/\t=0)):=by
  rcases Classical.em ((v=0/\0<u)∨(v+a2=0/\0<u+a1)∨(v+b2=0/\0<u+b1)∨(v+a2+b2=0/\0<u+a1+b1)) with z |z
  .exact⟨1,λh=>.inl ⟨by lia,rfl⟩,λh=>.inl ⟨by lia,rfl⟩,λh=>.inl ⟨by lia,rfl⟩,λh=>.inl ⟨by lia,rfl⟩⟩
  .exact⟨0,λh=>.inr ⟨by lia,rfl⟩,λh=>.inr ⟨by lia,rfl⟩,λh=>.inr ⟨by lia,rfl⟩,λh=>.inr ⟨by lia,rfl⟩⟩
 rw[cr_T k00 k10,cr_T k10 k11,cr_T k00 k01,cr_T k01 k11];have c:a2=b2∨a2=0∨b2=0∨a2=-b2:=by lia
 rcases c with rfl |rfl |rfl |rfl
 .rfl
 .rw[Int.add_zero,zdP,zdP];lia
 .rw[Int.add_zero,Int.add_zero,zdP,zdP];lia
 .rw[show v+-b2+b2=v by lia,zid,zid]
section
variable (U V:Nat->Int)
noncomputable def hH(i j:Nat):Int:=cr (U j-U i) (V j-V i) (U (j+1)-U i) (V (j+1)-V i)
noncomputable def gG(i j:Nat):Int:=cr (U j-U i) (V j-V i) (U j-U (i+1)) (V j-V (i+1))
noncomputable def sE:Nat->Int
 | 0=>0
 |i+1=>sE i+hH U V i (i+1)+gG U V i (i+2)
noncomputable def sF(i:Nat):Nat->Int
 | 0=>sE U V i
 |d+1=>sF i d+hH U V i (i+1+d)
variable {U V}
variable {n:Nat}
theorem zg0(su:∀k, -1 <= U (k + 1)-U k /\ U (k + 1)-U k <= 1)(sv:∀k, -1 <= V (k + 1)-V k /\ V (k + 1)-V k <= 1)
  (hd:∀i j,i<j->j<=n->¬(i=0/\j=n)->¬(U j-U i=0/\V j-V i=0))
  (hm:∀i j,i<j->j<n->¬(U i+U (i+1)=U j+U (j+1)/\V i+V (i+1)=V j+V (j+1))) :
  ∀d i,i+2+d<=n->¬(i=0/\i+2+d=n)->sF U V (i+1) d-sF U V i (d+1)=gG U V i (i+2+d)
 | 0,i,h,hx=>by
  show sE U V (i+1)-(sE U V i+hH U V i (i+1+0))=_;show sE U V i+hH U V i (i+1)+gG U V i (i+2)-(sE U V i+hH U V i (i+1))=gG U V i (i+2);lia
 |d+1,i,h,hx=>by
  have ih:=zg0 su sv hd hm d i (by lia) (by lia);show sF U V (i+1) d+hH U V (i+1) (i+1+1+d)-(sF U V i (d+1)+hH U V i (i+1+(d+1)))=gG U V i (i+2+(d+1));have j1:i+1+1+d=i+2+d:=by lia
  have j2:i+1+(d+1)=i+2+d:=by lia
  have j3:i+2+(d+1)=(i+2+d)+1:=by lia
  rw[j1,j2,j3];generalize hj:i+2+d=j at *
  have q:=cr_sq (U j-U i) (V j-V i) (-(U (i+1)-U i)) (-(V (i+1)-V i)) (U (j+1)-U j) (V (j+1)-V j)
   (by have:=su i;lia) (by have:=sv i;lia) (su j) (sv j)
   (hd i j (by lia) (by lia) (by lia))
   (by have:=hd (i+1) j (by lia) (by lia) (by lia);lia)
   (by have:=hd i (j+1) (by lia) (by lia) (by lia);lia)
   (by have:=hd (i+1) (j+1) (by lia) (by lia) (by lia);lia)
   (by have:=hm i j (by lia) (by lia);lia)
  have e1:U j-U i+-(U (i+1)-U i)=U j-U (i+1):=by lia
  have e2:V j-V i+-(V (i+1)-V i)=V j-V (i+1):=by lia
  have e3:U j-U i+(U (j+1)-U j)=U (j+1)-U i:=by lia
  have e4:V j-V i+(V (j+1)-V j)=V (j+1)-V i:=by lia
  have e5:U j-U (i+1)+(U (j+1)-U j)=U (j+1)-U (i+1):=by lia
  have e6:V j-V (i+1)+(V (j+1)-V j)=V (j+1)-V (i+1):=by lia
  rw[e1,e2,e3,e4,e5,e6]at q;have q':gG U V i j+hH U V (i+1) j=hH U V i j+gG U V i (j+1):=q;lia
theorem cr_up{a b c d:Int}(h1:0<=b)(h2:0<=d):cr a b c d=0:=by unfold cr;rw[if_neg (by lia),if_neg (by lia)]
theorem cr_dn{a b c d:Int}(h1:b=0->a<=0)(h2:d=0->c<=0):cr a b c d=0:=by unfold cr;rw[if_neg (by lia),if_neg (by lia)]
theorem zmC(hn : 3 <= n)(su:∀k, -1 <= U (k + 1)-U k /\ U (k + 1)-U k <= 1)(sv:∀k, -1 <= V (k + 1)-V k /\ V (k + 1)-V k <= 1)
  (hd:∀i j,i<j->j<=n->¬(i=0/\j=n)->¬(U j-U i=0/\V j-V i=0))
  (hm:∀i j,i<j->j<n->¬(U i+U (i+1)=U j+U (j+1)/\V i+V (i+1)=V j+V (j+1)))
  (hU:U n=U 0) (hV:V n=V 0) (mV:∀k,k<n->V 0<=V k) (mU:∀k,k<n->V k=V 0->U 0<=U k) :
  sE U V (n-1)=gG U V 0 (n-1)+hH U V 1 (n-1):=by
 have r0:∀d,d+2<=n->sF U V 0 d=0:=by
  intro d
  induction d with
  |zero=>intro _;rfl
  |succ d ih =>
   intro h;show sF U V 0 d+hH U V 0 (0+1+d)=0;rw[ih (by lia)];have:=mV (0+1+d) (by lia);have:=mV (0+1+d+1) (by lia);unfold hH;rw[cr_up (by lia) (by lia)];rfl
 have s1:=zg0 su sv hd hm (n-3) 0 (by lia) (by lia);rw[show n-3+1=n-2 by lia,r0 (n-2) (by lia),show 0+2+(n-3)=n-1 by lia]at s1
 have s2:sF U V 1 (n-2)=sF U V 1 (n-3)+hH U V 1 (n-1):=by have:sF U V 1 (n-3+1)=sF U V 1 (n-3)+hH U V 1 (1+1+(n-3)):=rfl;rw[show n-3+1=n-2 by lia,show 1+1+(n-3)=n-1 by lia]at this;exact this
 have r1:∀k,1+k<=n-1->sF U V (1+k) (n-2-k)=sF U V 1 (n-2):=by
  intro k
  induction k with
  |zero=>intro _;rfl
  |succ k ih =>
   intro h;have s:=zg0 su sv hd hm (n-3-k) (1+k) (by lia) (by lia);rw[show n-3-k+1=n-2-k by lia,show 1+k+2+(n-3-k)=n by lia,ih (by lia)]at s
   have z:gG U V (1+k) n=0:=by unfold gG;have a1:=mV (1+k) (by lia);have a2:=mU (1+k) (by lia);have b1:=mV (1+k+1) (by lia);have b2:=mU (1+k+1) (by lia);exact cr_dn (by lia) (by lia)
   rw[z]at s;rw[show 1+(k+1)=1+k+1 by lia,show n-2-(k+1)=n-3-k by lia];lia
 have e:=r1 (n-2) (by lia);rw[show 1+(n-2)=n-1 by lia,show n-2-(n-2)=0 by lia]at e;show sF U V (n-1) 0=_;rw[e];have:(0:Nat)+1=1:=rfl;rw[this]at s1;lia
end
noncomputable def crs(x1 y1 x2 y2:Int):Int:=cr x1 y1 (x1+x2) (y1+y2)+cr (x1+x2) (y1+y2) x2 y2
noncomputable def ok8(w i j:Nat):Bool :=
 let w1:=(w+i+3) % 4
 let w2:=(w1+j+3) % 4
 let t:Int:=(i:Int)-1
 let t':Int:=(j:Int)-1
 crs (av w+av w1-1) (bv w+bv w1-1) (av w1+av w2-1) (bv w1+bv w2-1) == (2*((w:Int)+t)-1+t') / 8-(2*(w:Int)-1+t) / 8 &&
 crs (-(av w+av w1-1)) (-(bv w+bv w1-1)) (-(av w1+av w2-1)) (-(bv w1+bv w2-1)) == (2*((w:Int)+t)-1+t'+4) / 8-(2*(w:Int)-1+t+4) / 8
theorem all8:∀w<4,∀i<3,∀j<3,ok8 w i j=true:=by decide
noncomputable def it(C:Cell->Bool)(b:Edge):Nat->Edge
 | 0=>b
 |k+1=>nxt C (it C b k)
theorem Chain.get{C:Cell->Bool}{b:Edge}{es:List Edge}(h:Chain C b es):∀i,i<es.length->es[i]?=some (it C b i)
 | 0,_=>h.1
 |i+1,hi=>by
  have h1:=Chain.get h i (by lia);have:=h.2.1 i _ _ h1 (Aa hi);rw[Aa hi,this];rfl
theorem Closed.pos{C:Cell->Bool}{b:Edge}{es:List Edge}(h:Closed C b es):0<es.length:=(Ad.mp h.1.1).1
theorem Closed.it_len{C:Cell->Bool}{b:Edge}{es:List Edge}(h:Closed C b es):it C b es.length=b:=by
 obtain⟨hc,l,hl,hb⟩:=id h;have hp:=h.pos;have:=hc.get (es.length-1) (by lia);rw[hl]at this
 cases this
 have e:it C b (es.length-1+1)=nxt C (it C b (es.length-1)):=rfl;rw[show es.length-1+1=es.length by lia]at e;rw[e,hb]
theorem it_ok{C:Cell->Bool}{b:Edge}(h:IsE C b):∀k,IsE C (it C b k)
 | 0=>h
 |k+1=>zdB (it_ok h k)
noncomputable def wW(C:Cell->Bool)(b:Edge):Nat->Int
 | 0=>b.w
 |k+1=>wW C b k+tt C (it C b k)
theorem tt_ix{C:Cell->Bool}{e:Edge}(h:IsE C e):∃i:Nat,i<3/\tt C e=(i:Int)-1/\(nxt C e).w=(e.w+i+3) % 4:=by
 have hw:=h.1;rcases zfb h with⟨a,b⟩ |⟨a,b⟩ |⟨a,b⟩
 .exact⟨0,by decide,by rw[a];rfl,by rw[b]⟩
 .exact⟨1,by decide,by rw[a];rfl,by rw[b];lia⟩
 .exact⟨2,by decide,by rw[a];rfl,by rw[b];lia⟩
theorem zf3{C:Cell->Bool}{b:Edge}(h:IsE C b):∀k,wW C b k % 4=((it C b k).w:Int)
 | 0=>by have:=h.1;show (b.w:Int) % 4=b.w;lia
 |k+1=>by
  have ih:=zf3 h k;obtain⟨i,hi,e1,e2⟩:=tt_ix (it_ok h k);show (wW C b k+tt C (it C b k)) % 4=((nxt C (it C b k)).w:Int);rw[e1,e2];lia
noncomputable def th(C:Cell->Bool)(b:Edge)(k:Nat):Int:=2*wW C b k-1+tt C (it C b k)
noncomputable def up8(w i:Nat):Bool :=
 let w1:=(w+i+3) % 4
 decide (0<bv w+bv w1-1∨(bv w+bv w1-1=0/\0<=av w+av w1-1)) == decide ((2*(w:Int)-1+((i:Int)-1)) % 8<4) &&
 decide (bv w+bv w1-1<0∨(bv w+bv w1-1=0/\av w+av w1-1<=0)) == decide (4<=(2*(w:Int)-1+((i:Int)-1)) % 8) &&
 !(decide (av w+av w1-1=0/\bv w+bv w1-1=0))
theorem zm3:∀w<4,∀i<3,up8 w i=true:=by decide
theorem half{C:Cell -> Bool}{b:Edge}(h:IsE C b)(k:Nat) :
  ((0<eV (it C b (k+1))-eV (it C b k)∨(eV (it C b (k+1))-eV (it C b k)=0/\0<=eU (it C b (k+1))-eU (it C b k))) ↔ th C b k % 8<4) /\
  ((eV (it C b (k+1))-eV (it C b k)<0∨(eV (it C b (k+1))-eV (it C b k)=0/\eU (it C b (k+1))-eU (it C b k)<=0)) ↔ 4<=th C b k % 8) /\
  ¬ (eU (it C b (k+1))-eU (it C b k)=0/\eV (it C b (k+1))-eV (it C b k)=0):=by
 obtain⟨i,hi,e1,e2⟩:=tt_ix (it_ok h k);obtain⟨s1,s2⟩:=zdl (it_ok h k);have q:=zm3 _ (it_ok h k).1 i hi;have m:=zf3 h k;simp only[up8,Bp,beq_iff_eq,decide_eq_decide,Bool.not_eq_true',decide_eq_false_iff_not]at q;rw[<- e2]at q;obtain⟨⟨q1,q2⟩,q3⟩:=q;have t:th C b k % 8=(2*((it C b k).w:Int)-1+((i:Int)-1)) % 8:=by unfold th;rw[e1];lia
 rw[t];have d1:eU (it C b (k+1))-eU (it C b k)=av (it C b k).w+av (nxt C (it C b k)).w-1:=by show eU (nxt C (it C b k))-_=_;lia
 have d2:eV (it C b (k+1))-eV (it C b k)=bv (it C b k).w+bv (nxt C (it C b k)).w-1:=by show eV (nxt C (it C b k))-_=_;lia
 rw[d1,d2];exact⟨q1,q2,q3⟩
theorem sub0{a b:Int}(h:b-a=0):a=b:=by lia
theorem zhr{a b c:Int}(h:a=b+c):a-b=c:=by lia
theorem turn8{C:Cell -> Bool}{b:Edge}(h:IsE C b)(k:Nat) :
  crs (eU (it C b (k+1))-eU (it C b k)) (eV (it C b (k+1))-eV (it C b k)) (eU (it C b (k+2))-eU (it C b (k+1))) (eV (it C b (k+2))-eV (it C b (k+1)))=th C b (k+1) / 8-th C b k / 8 /\
  crs (-(eU (it C b (k+1))-eU (it C b k))) (-(eV (it C b (k+1))-eV (it C b k))) (-(eU (it C b (k+2))-eU (it C b (k+1)))) (-(eV (it C b (k+2))-eV (it C b (k+1))))=(th C b (k+1)+4) / 8-(th C b k+4) / 8:=by
 obtain⟨i,hi,e1,e2⟩:=tt_ix (it_ok h k);obtain⟨j,hj,f1,f2⟩:=tt_ix (it_ok h (k+1));obtain⟨s1,s2⟩:=zdl (it_ok h k);obtain⟨s3,s4⟩:=zdl (it_ok h (k+1));have m:=zf3 h k;have q:=all8 _ (it_ok h k).1 i hi j hj;simp only[ok8,Bp,beq_iff_eq]at q;have w1:(it C b (k+1)).w=((it C b k).w+i+3) % 4:=e2;rw[<- w1,<- f2]at q;have wn:wW C b (k+1)=wW C b k+((i:Int)-1):=by show wW C b k+tt C (it C b k)=_;rw[e1]
 have t0:th C b k=2*wW C b k-1+((i:Int)-1):=by unfold th;rw[e1]
 have t1:th C b (k+1)=2*(wW C b k+((i:Int)-1))-1+((j:Int)-1):=by unfold th;rw[f1,wn]
 have d1:eU (it C b (k+1))-eU (it C b k)=av (it C b k).w+av (it C b (k+1)).w-1:=zhr s1;have d2:eV (it C b (k+1))-eV (it C b k)=bv (it C b k).w+bv (it C b (k+1)).w-1:=zhr s2;have d3:eU (it C b (k+2))-eU (it C b (k+1))=av (it C b (k+1)).w+av (nxt C (it C b (k+1))).w-1:=zhr s3;have d4:eV (it C b (k+2))-eV (it C b (k+1))=bv (it C b (k+1)).w+bv (nxt C (it C b (k+1))).w-1:=zhr s4;rw[d1,d2,d3,d4,t0,t1,q.1,q.2];clear q d1 d2 d3 d4 s1 s2 s3 s4 t0 t1 wn w1 f1 f2 e1 e2;generalize wW C b k=W at *;generalize (it C b k).w=w at *;constructor <;> lia
theorem zmM:∀w<4,∀i<3,¬ (av w+av ((w+i+3) % 4)=1/\bv w+bv ((w+i+3) % 4)=1):=by decide
theorem zkm{T0 Tm Tn D s:Int}(key:Tm / 8-T0 / 8=(Tn+4) / 8-(Tm+4) / 8)(u0:T0 % 8<4)(um:4<=Tm % 8)(hD:D % 4=0)(hn:Tn=T0+2*D)(hm:Tm=Tn-s)(s1:-2<=s)(s2:s<=2):(D=4/\0<s)∨(D=-4/\s<0):=by
 obtain⟨d,rfl⟩:∃d,D=4*d:=⟨D / 4,by lia⟩;have h1:(Tn+4) / 8=T0 / 8+d:=by lia
 have h2:(Tm+4) / 8=Tm / 8+1:=by lia
 rw[h1,h2]at key;have a1:T0=8*(T0 / 8)+T0 % 8:=by lia
 have a2:Tm=8*(Tm / 8)+Tm % 8:=by lia
 have a3:0<=T0 % 8:=by lia
 have a4:Tm % 8<8:=by lia
 generalize T0 / 8=a at *;generalize Tm / 8=c at *;generalize T0 % 8=r at *;generalize Tm % 8=p at *;clear h1 h2 hD;have:c-a-d=-1∨c-a-d=0:=by lia
 rcases this with z |z
 .exact .inl ⟨by lia,by lia⟩
 .exact .inr ⟨by lia,by lia⟩
theorem Closed.least_sign{C:Cell -> Bool}{b:Edge}{es:List Edge}(h:Closed C b es)
  (hmin:∀f∈es,eV b<=eV f/\(eV f=eV b->eU b<=eU f)):(wW C b es.length-wW C b 0=4/\0<tt C (it C b (es.length-1))+tt C b)∨(wW C b es.length-wW C b 0=-4/\tt C (it C b (es.length-1))+tt C b<0):=by
 have hp:=h.pos;have hE:IsE C b:=h.1.2.2.1 b (Aj h.1.1);have hl:=h.it_len;have get:=h.1.get;have nd:=h.1.2.2.2;generalize hn:es.length=n at *;have mem:∀k,k<n->it C b k∈es:=λk hk=>Aj (get k hk)
 have inj:∀i j,i<j->j<n->it C b i≠it C b j:=λi j hij hj e=>by have:=(CV (i:=i) (j:=j) (by lia) nd).mp (by rw[get i (by lia),get j hj,e]);lia
 have n3:3<=n:=by
  have h0:=half hE 0;have h1:=half hE 1;have l1:=zf3 hE 1;rcases AZ n 3 with hlt |hge
  .exfalso;have:n=1∨n=2:=by lia
   rcases this with e |e
   .rw[e]at hl;have z:=h0.2.2;rw[show 0+1=1 from rfl,hl]at z;exact z ⟨by show eU b-eU b=0;lia,by show eV b-eV b=0;lia⟩
   .rw[e]at hl;have a:=(tt_ix (it_ok hE 0));have c:=(tt_ix (it_ok hE 1));obtain⟨s1,s2⟩:=zdl (it_ok hE 0);obtain⟨s3,s4⟩:=zdl (it_ok hE 1);change it C b (1+1)=b at hl;have hl':nxt C (it C b 1)=b:=hl;rw[hl']at s3 s4;have i0:it C b 0=b:=rfl;have i1:nxt C (it C b 0)=it C b 1:=rfl;obtain⟨i,hi,_,e2⟩:=a;rw[i1,i0]at s1 s2 e2;have hw:=hE.1;have hw1:=(it_ok hE 1).1;have x1:av b.w+av (it C b 1).w=1:=by lia
    have x2:bv b.w+bv (it C b 1).w=1:=by lia
    rw[e2]at x1 x2;exact zmM _ hw _ hi ⟨x1,x2⟩
  .exact hge
 have key:=zmC (U:=λk=>eU (it C b k)) (V:=λk=>eV (it C b k)) n3
  (λk=>by obtain⟨s1,_⟩:=zdl (it_ok hE k);show -1<=eU (nxt C (it C b k))-eU (it C b k)/\eU (nxt C (it C b k))-eU (it C b k)<=1;have a:=zdR (it C b k).w;have c:=zdR (nxt C (it C b k)).w;lia)
  (λk=>by
   obtain⟨_,s1⟩:=zdl (it_ok hE k);show -1<=eV (nxt C (it C b k))-eV (it C b k)/\eV (nxt C (it C b k))-eV (it C b k)<=1;have a:bv (it C b k).w=0∨bv (it C b k).w=1:=by unfold bv;split <;> simp
   have c:bv (nxt C (it C b k)).w=0∨bv (nxt C (it C b k)).w=1:=by unfold bv;split <;> simp
   lia)
  (λi j hij hj hx z=>by
   have e:=e_inj (it_ok hE i) (it_ok hE j) (sub0 z.1) (sub0 z.2);rcases AZ j n with hlt |hge
   .exact inj i j hij hlt e
   .have:j=n:=by lia
    rw[this,hl]at e;exact inj 0 i (by lia) (by lia) e.symm)
  (λi j hij hj z=>inj i j hij hj (zl2 (it_ok hE i) (it_ok hE j) z.1 z.2))
  (by show eU (it C b n)=eU b;rw[hl]) (by show eV (it C b n)=eV b;rw[hl])
  (λk hk=>(hmin _ (mem k hk)).1) (λk hk=>(hmin _ (mem k hk)).2)
 have sE_th:∀k,sE (λk=>eU (it C b k)) (λk=>eV (it C b k)) k=th C b k / 8-th C b 0 / 8:=by
  intro k
  induction k with
  |zero=>show (0:Int)=_;lia
  |succ k ih =>
   have q:=(turn8 hE k).1;unfold crs at q;have e1:eU (it C b (k+1))-eU (it C b k)+(eU (it C b (k+2))-eU (it C b (k+1)))=eU (it C b (k+2))-eU (it C b k):=by lia
   have e2:eV (it C b (k+1))-eV (it C b k)+(eV (it C b (k+2))-eV (it C b (k+1)))=eV (it C b (k+2))-eV (it C b k):=by lia
   rw[e1,e2]at q;show sE (λk=>eU (it C b k)) (λk=>eV (it C b k)) k+hH (λk=>eU (it C b k)) (λk=>eV (it C b k)) k (k+1)+gG (λk=>eU (it C b k)) (λk=>eV (it C b k)) k (k+2)=_;rw[ih];unfold hH gG;show th C b k / 8-th C b 0 / 8+cr (eU (it C b (k+1))-eU (it C b k)) (eV (it C b (k+1))-eV (it C b k)) (eU (it C b (k+2))-eU (it C b k)) (eV (it C b (k+2))-eV (it C b k))+cr (eU (it C b (k+2))-eU (it C b k)) (eV (it C b (k+2))-eV (it C b k)) (eU (it C b (k+2))-eU (it C b (k+1))) (eV (it C b (k+2))-eV (it C b (k+1)))=_;lia
 obtain⟨m,rfl⟩:∃m,n=m+1:=⟨n-1,by lia⟩;rw[show m+1-1=m by lia,sE_th]at key;have i2:it C b (m+2)=it C b 1:=by show nxt C (it C b (m+1))=nxt C b;rw[hl]
 have q:=(turn8 hE m).2;rw[i2,hl]at q;unfold crs at q;unfold gG hH at key;simp only at key;rw[hl]at key;have z0:it C b 0=b:=rfl;rw[show 0+1=1 from rfl,z0]at key;have e1:-(eU b-eU (it C b m))+-(eU (it C b 1)-eU b)=eU (it C b m)-eU (it C b 1):=by lia
 have e2:-(eV b-eV (it C b m))+-(eV (it C b 1)-eV b)=eV (it C b m)-eV (it C b 1):=by lia
 have e3:-(eU b-eU (it C b m))=eU (it C b m)-eU b:=by lia
 have e4:-(eV b-eV (it C b m))=eV (it C b m)-eV b:=by lia
 have e5:-(eU (it C b 1)-eU b)=eU b-eU (it C b 1):=by lia
 have e6:-(eV (it C b 1)-eV b)=eV b-eV (it C b 1):=by lia
 rw[e1,e2,e3,e4,e5,e6]at q;rw[q]at key
 have u0:th C b 0 % 8<4:=by
  refine (half hE 0).1.mp ?_
  obtain⟨a,c⟩:=hmin _ (mem 1 (by lia));rw[z0];show 0<eV (it C b 1)-eV b∨(eV (it C b 1)-eV b=0/\0<=eU (it C b 1)-eU b);lia
 have um:4<=th C b m % 8:=by
  refine (half hE m).2.1.mp ?_
  obtain⟨a,c⟩:=hmin _ (mem m (by lia));rw[hl];lia
 have md:=zf3 hE (m+1);rw[hl]at md;have w0:wW C b 0=(b.w:Int):=rfl;have wn:wW C b (m+1)=wW C b m+tt C (it C b m):=rfl;have t0:th C b 0=2*wW C b 0-1+tt C b:=rfl;have tm:th C b m=2*wW C b m-1+tt C (it C b m):=rfl;have tn:th C b (m+1)=2*wW C b (m+1)-1+tt C b:=by unfold th;rw[hl]
 obtain⟨i,hi,r1,_⟩:=tt_ix hE;obtain⟨j,hj,r2,_⟩:=tt_ix (it_ok hE m);rw[show m+1-1=m from rfl];exact zkm key u0 um (by lia) (by lia) (by lia) (by lia) (by lia)
theorem Closed.least_turn{C:Cell -> Bool}{b:Edge}{es:List Edge}(h:Closed C b es)
  (hmin:∀f∈es,eV b<=eV f/\(eV f=eV b->eU b<=eU f)):wW C b es.length-wW C b 0=4∨wW C b es.length-wW C b 0=-4 :=
 (h.least_sign hmin).imp And.left And.left
theorem Closed.head{C:Cell->Bool}{b a:Edge}{r:List Edge}(h:Closed C b (a::r)):a=b:=by have:=h.1.1;simpa using this
theorem Closed.rot1{C:Cell->Bool}{b c:Edge}{r:List Edge}(h:Closed C b (b::r))(hc:(r++[b])[0]?=some c):Closed C c (r++[b]):=by
 obtain⟨⟨h0,hs,hE,hn⟩,l,hl,hb⟩:=id h;refine⟨⟨hc,λi e f h1 h2=>?_,λe he=>hE e (by rcases AH.mp he with m |m;exact Ap _ m;rw[Ah.mp m];exact An),?_⟩,?_⟩
 .have hi:=(Ad.mp h2).1;simp only[Ak,A5,Cd]at hi;rw[Ax (by lia)]at h1;rcases AZ (i+1) r.length with q |q
  .rw[Ax q]at h2;exact hs (i+1) e f (by simpa using h1) (by simpa using h2)
  .have e1:i+1=r.length:=by lia
   rw[AK (by lia),e1]at h2;simp at h2;have e2:(b::r).length-1=i+1:=by simp;lia
   rw[e2]at hl;simp only[C3]at hl;rw[hl]at h1
   cases h1
   rw[hb,h2]
 .rw[Do];have:=BF.mp hn;exact⟨this.2,by simp,λx hx y hy e=>by rw[Ah.mp hy]at e;rw[e]at hx;exact this.1 hx⟩
 .refine⟨b,by simp,?_⟩
  cases r with
  |nil =>
   simp at hl hc;subst hc;subst hl;exact hb
  |cons a r =>
   simp at hc;have:=hs 0 b a rfl rfl;rw[<- this,hc]
theorem Closed.rot{C:Cell->Bool}:∀(j:Nat){b e:Edge}{es:List Edge},Closed C b es->es[j]?=some e->Closed C e (es.drop j++es.take j)
 | 0,b,e,es,h,he=>by
  have:=h.1.1;rw[he]at this
  cases this
  simpa using h
 |j+1,b,e,[],h,he=>by simp at he
 |j+1,b,e,a::r,h,he=>by
  have:=h.head;subst this;simp only[C3]at he;have hj:=(Ad.mp he).1;obtain⟨c,hc⟩:∃c,(r++[a])[0]?=some c:=⟨_,Aa (by simp)⟩;have h1:=h.rot1 hc;have h2:=Closed.rot j h1 (by rw[Ax hj];exact he);rw[List.drop_append_of_le_length (by lia),List.take_append_of_le_length (by lia)]at h2;simpa using h2
theorem zk4{C:Cell->Bool}{b:Edge}{es:List Edge}(h:Chain C b es):∀i,i<=es.length->((es.take i).map (tt C)).sum=wW C b i-wW C b 0
 | 0,_=>by simp
 |i+1,hi=>by
  have ih:=zk4 h i (by lia);rw[DB,h.get i (by lia)];simp only[Option.toList_some,A6,A7,List.map_nil,List.sum_append,Dj,List.sum_nil];rw[ih];show _=wW C b i+tt C (it C b i)-wW C b 0;lia
theorem zec:∀(es:List Edge),es≠[]->∃b∈es,∀f∈es,eV b<=eV f/\(eV f=eV b->eU b<=eU f)
 |[],h=>absurd rfl h
 |[a],_=>⟨a,by simp,λf hf=>by rw[Ah.mp hf];exact⟨Int.le_refl _,λ_=>Int.le_refl _⟩⟩
 |a::c::r,_=>by
  obtain⟨b,hb,q⟩:=zec (c::r) (by simp)
  by_cases hl:eV b<eV a∨(eV b=eV a/\eU b<=eU a)
  .refine⟨b,Ap _ hb,λf hf=>?_⟩;rcases AM.mp hf with rfl |hf
   .lia
   .exact q f hf
  .refine⟨a,An,λf hf=>?_⟩;rcases AM.mp hf with rfl |hf
   .lia
   .have:=q f hf;lia
theorem zlF(l:List Int)(j:Nat):(l.drop j++l.take j).sum=l.sum:=by
 have:=CK j l;rw[List.sum_append]
 conv=>rhs;rw[<- this,List.sum_append]
 lia
theorem Closed.turning{C:Cell->Bool}{b:Edge}{es:List Edge}(h:Closed C b es):(es.map (tt C)).sum=4∨(es.map (tt C)).sum=-4:=by
 have hp:=h.pos;obtain⟨e,he,q⟩:=zec es (by intro z;rw[z]at hp;simp at hp);obtain⟨j,hj,ej⟩:=Az he;have h1:=h.rot j (by rw[Aa hj,ej])
 have h2:=h1.least_turn (λf hf=>q f (by
  rcases AH.mp hf with m |m
  .exact Bz m
  .exact B7 m))
 rw[<- zk4 h1.1 _ (Am _),AN,A6,List.map_drop,List.map_take,zlF]at h2;exact h2
theorem zhp(C:Cell->Bool):∀es:List Edge,(es.map (tt C)).sum=((es.filter λe=>(stepB C e).isNone).length:Int)-((es.filter λe=>slant (stepB C e)).length:Int)
 |[]=>rfl
 |e::r=>by
  have ih:=zhp C r
  have q:tt C e=(if (stepB C e).isNone=true then 1 else 0)-(if slant (stepB C e)=true then 1 else 0):=by
   unfold tt
   cases hs:stepB C e with
   |none=>rfl
   |some s =>
    by_cases h:s % 2=1
    .simp[slant,h]
    .have h0:s % 2=0:=by lia
     simp[slant,h0]
  simp only[A7,Dj,CD];rw[q,ih];split <;> split <;> (try simp only[A5]) <;> lia
noncomputable def wc(c:Cell)(e:Edge):Int:=if e.c.2=c.2/\c.1<px e then dy e.w else 0
noncomputable def wd(es:List Edge)(c:Cell):Int:=(es.map (wc c)).sum
inductive Rch (D:Cell->Bool) (S:List Nat) (a:Cell):Cell->Prop where
 |refl:Rch D S a a
 |step {c:Cell} {s:Nat}:Rch D S a c->s∈S->D (go c s)=true->Rch D S a (go c s)
noncomputable abbrev no(C:Cell->Bool):Cell->Bool:=λc=>!C c
structure BoxOf (P:List Cell) (l lo r hi:Int):Prop where
 all:∀c∈P,l<c.1/\c.1<r/\lo<c.2/\c.2<hi
 bot:∃c∈P,c.2=lo+1
noncomputable def inBox(l lo r hi:Int)(c:Cell):Prop:=l<=c.1/\c.1<=r/\lo<=c.2/\c.2<=hi
structure FreeOf (D:Cell->Bool) (P:List Cell) (l lo r hi:Int):Prop where
 iff:∀c,D c=true ↔ (inBox l lo r hi c/\c ∉ P)
section
variable {C D:Cell->Bool}{b:Edge}{es:List Edge}{P:List Cell}{l lo r hi:Int}
end
noncomputable def isUp(y:Int)(e:Edge):Bool:=(e.w == 1 ||e.w == 3) && e.c.2 == y
noncomputable def upr(es:List Edge)(y:Int):List Int:=(es.filter (isUp y)).map px
theorem zfJ{y:Int}{e:Edge}:isUp y e=true ↔ (e.w=1∨e.w=3)/\e.c.2=y:=by simp[isUp]
noncomputable def zaW(s:Nat):Nat:=(s+1) / 2 % 4
noncomputable def wayB(s:Nat):Nat:=(zaW s+4-s % 2) % 4
noncomputable def dgo:Nat->List Nat->List (Option Nat)×Nat
 |w,[]=>([],w)
 |w,s::r=>(Aq ((zaW s+4-w) % 4) none++some s::(dgo (wayB s) r).1,(dgo (wayB s) r).2)
noncomputable def zaQ(w:Nat)(row:List Nat):Nat:=if row.isEmpty then 4 else (w+4-(dgo w row).2) % 4
noncomputable def deeds(w:Nat)(row:List Nat):List (Option Nat):=(dgo w row).1++Aq (zaQ w row) none
theorem zkk{C:Cell->Bool}{e:Edge}(h:IsE C e){s:Nat}(hs:stepB C e=some s):zaW s=e.w/\wayB s=(nxt C e).w/\s<8:=by have hw:=h.1;rcases zbf h with⟨_,q,n⟩ |⟨_,_,q,n⟩ |⟨_,_,q,n⟩ <;> rw[n] <;> rw[q]at hs <;> cases hs <;> unfold wayB zaW <;> simp only <;> rcases way4 hw with r |r |r |r <;> rw[r] <;> decide
theorem zhQ{C:Cell->Bool}{e:Edge}(h:IsE C e)(hs:stepB C e=none):nxt C e=⟨e.c,(e.w+1) % 4⟩:=by
 rcases zbf h with⟨_,q,n⟩ |⟨_,_,q,n⟩ |⟨_,_,q,n⟩
 .rw[q]at hs;cases hs
 .rw[q]at hs;cases hs
 .exact n
noncomputable def zlw(C:Cell->Bool)(es:List Edge):Prop:=∀i,¬ ∀m,m<4->∃e,es[i+m]?=some e/\stepB C e=none
theorem zfO{C:Cell -> Bool}{b:Edge}{es:List Edge}(h:Chain C b es)(hE:IsE C b)(nf:zlw C es):∀(n p j w:Nat), es.length-p=n -> p <= es.length -> j <= 3 -> j <= p -> w < 4 -> (∀m, m < j -> ∃e, es[p-1-m]? = some e /\ stepB C e=none) ->
    (it C b p).w=(w+j) % 4->∃t,t<=3/\Aq j none++(es.drop p).map (stepB C)=(dgo w (((es.drop p).map (stepB C)).filterMap id)).1++Aq t none /\
      ((dgo w (((es.drop p).map (stepB C)).filterMap id)).2+t) % 4=(it C b es.length).w/\(dgo w (((es.drop p).map (stepB C)).filterMap id)).2<4
  | 0,p,j,w,hn,hp,hj,hjp,hw,hl,hway=>by
    have e:es.drop p=[]:=List.drop_eq_nil_iff.mpr (by lia);have hpe:p=es.length:=by lia
    rw[e,<- hpe];exact⟨j,hj,by simp[dgo],hway.symm,hw⟩
  |n+1,p,j,w,hn,hp,hj,hjp,hw,hl,hway=>by
    have hlt:p<es.length:=by lia
    have hd:es.drop p=es[p]::es.drop (p+1):=List.drop_eq_getElem_cons hlt;have hg:=h.get p hlt;rw[Aa hlt]at hg;have hg':es[p]=it C b p:=AX hg;have hEp:IsE C (it C b p):=it_ok hE p;rw[hd,hg']
    cases hs:stepB C (it C b p) with
    |none =>
      have hj3:j+1<=3:=by
        rcases AZ j 3 with q |q
        . lia
        . exfalso;have j3:j=3:=by lia
          subst j3;refine nf (p-3) λm hm=>?_
          rcases AZ m 3 with a |a
          . obtain⟨e,h1,h2⟩:=hl (2-m) (by lia);exact⟨e,by rw[<- h1];congr 1;lia,h2⟩
          . have:m=3:=by lia
            subst this;exact⟨_,by rw[show p-3+3=p by lia,Aa hlt,hg'],hs⟩
      have hnx:=zhQ hEp hs
      obtain⟨t, t3, q1, q2, q3⟩ := zfO h hE nf n (p + 1) (j + 1) w (by lia) (by lia) hj3 (by lia) hw (λm hm => by
          cases m with
          |zero=>exact⟨_,by rw[show p+1-1-0=p by lia,Aa hlt,hg'],hs⟩
          |succ m =>
            obtain⟨e,h1,h2⟩:=hl m (by lia);exact⟨e,by rw[<- h1];congr 1;lia,h2⟩) (by
          show (nxt C (it C b p)).w=_;rw[hnx];simp only;rw[hway];lia)
      refine⟨t,t3,?_,?_,?_⟩
      . simp only[A7,hs];rw[show (none::(es.drop (p+1)).map (stepB C)).filterMap id=((es.drop (p+1)).map (stepB C)).filterMap id from rfl,<- q1,List.replicate_succ'];simp
      . simp only[A7,hs];exact q2
      . simp only[A7,hs];exact q3
    |some s =>
      obtain⟨w1,w2,_⟩:=zkk hEp hs;have hwB:wayB s<4:=BG _ (by decide)
      obtain⟨t, t3, q1, q2, q3⟩ := zfO h hE nf n (p + 1) 0 (wayB s) (by lia) (by lia) (by lia) (by lia) hwB (λm hm => by lia) (by
          show (nxt C (it C b p)).w=_;rw[w2,Nat.add_zero];have:=(zdB hEp).1;lia)
      refine⟨t,t3,?_,?_,?_⟩
      . simp only[A7,hs];rw[show (some s::(es.drop (p+1)).map (stepB C)).filterMap id=s::((es.drop (p+1)).map (stepB C)).filterMap id from rfl];show _=(Aq ((zaW s+4-w) % 4) none++some s::(dgo (wayB s) _).1)++Aq t none;have hk:(zaW s+4-w) % 4=j:=by rw[w1,hway];lia
        rw[hk];have q1':(es.drop (p+1)).map (stepB C)=(dgo (wayB s) (((es.drop (p+1)).map (stepB C)).filterMap id)).1++Aq t none:=by simpa using q1
        rw[AL,List.cons_append,<- q1']
      . simp only[A7,hs];exact q2
      . simp only[A7,hs];exact q3
theorem zfI{C:Cell->Bool}{b:Edge}(hE:IsE C b){i:Nat}:∀m,(∀q,q<m->stepB C (it C b (i+q))=none)->it C b (i+m)=⟨(it C b i).c,((it C b i).w+m) % 4⟩
 | 0,_=>by
  have:=(it_ok hE i).1;show it C b i=_;rw[Nat.add_zero,Nat.mod_eq_of_lt this]
 |m+1,h=>by
  have ih:=zfI hE m λq hq=>h q (by lia)
  show nxt C (it C b (i+m))=_;rw[zhQ (it_ok hE (i+m)) (h m (by lia)),ih];simp only[Edge.mk.injEq,true_and];lia
theorem Closed.deeds{C:Cell->Bool}{b:Edge}{es:List Edge}(h:Closed C b es):es.map (stepB C)=RP.deeds b.w ((es.map (stepB C)).filterMap id):=by
 have hE:IsE C b:=h.1.2.2.1 b (Aj h.1.1);have hp:=h.pos;have hl:=h.it_len
 have four:∀i,(∀m,m<4->∃e,es[i+m]?=some e/\stepB C e=none)->i=0/\es.length=4:=λi hi=>by
  have hi3:i+3<es.length:=by obtain⟨e,h1,_⟩:=hi 3 (by decide);exact (Ad.mp h1).1
  have st:∀q,q<4->stepB C (it C b (i+q))=none:=λq hq=>by
   obtain⟨e,h1,h2⟩:=hi q hq;rw[h.1.get (i+q) (by lia)]at h1
   cases h1;exact h2
  have e4:=zfI hE 4 st
  have e4':it C b (i+4)=it C b i:=by rw[e4];have:=(it_ok hE i).1;rw[show ((it C b i).w+4) % 4=(it C b i).w by lia]
  rcases AZ (i+4) es.length with q |q
  .exfalso;have:=(CV (i:=i) (j:=i+4) (by lia) h.1.2.2.2).mp (by rw[h.1.get i (by lia),h.1.get (i+4) q,e4']);lia
  .have hn:es.length=i+4:=by lia
   rw[<- hn,hl]at e4';have:=(CV (i:=0) (j:=i) (by lia) h.1.2.2.2).mp (by rw[h.1.get 0 hp,h.1.get i (by lia),<- e4'];rfl);lia
 by_cases hr:(es.map (stepB C)).filterMap id=[]
 .have all:∀i, i < es.length -> stepB C (it C b i)=none := λi hi => by
   have hg:=h.1.get i hi
   cases hs:stepB C (it C b i) with
   |none=>rfl
   |some s =>
    exfalso;have:s∈(es.map (stepB C)).filterMap id:=List.mem_filterMap.mpr ⟨some s,AS.mpr ⟨_,Aj hg,hs⟩,rfl⟩;rw[hr]at this;cases this
  have hn4:es.length=4:=by
   have el:=zfI hE (i:=0) es.length (λq hq=>by rw[Cy];exact all q hq);rw[Cy,hl]at el;have ew:=congrArg Edge.w el;have hw:=hE.1;change b.w=(b.w+es.length) % 4 at ew;have h4:4<=es.length:=by lia
   refine (four 0 λm hm=>⟨it C b m,?_,all m (by lia)⟩).2;rw[Cy];exact h.1.get m (by lia)
  rw[hr];show _=(dgo b.w []).1++Aq 4 none
  apply List.ext_getElem?
  intro i;rcases AZ i 4 with q |q
  .rw[AC,h.1.get i (by lia),De,all i (by lia)];show _=(Aq 4 (none:Option Nat))[i]?;rw[List.getElem?_replicate,if_pos q]
  .rw[Dk (by rw[Ao];lia),Dk (by simp[dgo];lia)]
 .have nf:zlw C es := λi hi => by
   obtain⟨_,h4⟩:=four i hi;have hi0:=(four i hi).1;subst hi0
   apply hr
   apply List.filterMap_eq_nil_iff.mpr
   intro o ho;obtain⟨e,he,rfl⟩:=AS.mp ho;obtain⟨j,hj,ej⟩:=Az he;obtain⟨f,h1,h2⟩:=hi j (by lia);rw[Cy,Aa hj,ej]at h1
   cases h1
   exact h2
  obtain⟨t,t3,q1,q2,q3⟩:=zfO h.1 hE nf es.length 0 0 b.w (by lia) (by lia) (by lia) (by lia) hE.1 (λm hm=>by lia) (by
   show b.w=_;have:=hE.1;lia)
  rw[List.drop_zero]at q1 q2 q3;rw[hl]at q2
  have ht:zaQ b.w ((es.map (stepB C)).filterMap id)=t:=by unfold zaQ;rw[if_neg (by simpa using hr)];have:=hE.1;lia
  unfold RP.deeds;rw[ht];simpa using q1
end RP
namespace L2
open PySem PySem.Spec PyProof.Rows
section
variable {prog:AR}{w:Be}{K:Type} [DecidableEq K]
theorem ziD(knd:HeapKind prog w K)(d a:Addr) :
  MeetsIn prog w (Builtin.«dict.__delitem__» ⟨[.ref d,.ref a],[]⟩) λA R s=>knd.room A.in1/\∃k xs,knd.is s.heap k a/\Dd knd s.heap d xs/\xs.length<=sizeLine/\DL xs k≠none /\
   (∀(j:Nat) p,xs[j]?=some (k,p)->∀h',Dd knd h' d (xs.eraseIdx j)->Cj d s.heap h'->R (.ok (.ret .none)) { s with heap:=h',toks:=s.toks+knd.draws k }):=by
 intro A R s h;obtain⟨hr,k,xs,hk,hD,hsz,hne,h1⟩:=h;unfold Builtin.«dict.__delitem__» Builtin.Dict.dictSlotArgs;refine Ab (Ab (wpAny_notOrdered_dict hD.typeIs ?_));show At (Ay prog w) A.in1 (pure (Aw d,Aw a)) _ _ s;refine Af ?_
 show At _ _ (Builtin.Dict.takeOut d (.ref a) >>= _) _ _ s;refine Ab (zf7 hr hk hD hsz (λe=>absurd e hne) λj p hj h' hD' hs=>?_);exact Ab (D0 (Af (h1 j p hj h' hD' hs)))
end
section
variable {X:Cx}{o i:Expr}{pos pos':Pos}{td ty:TE}
noncomputable def zle(td ty:TE):TS:=λD σ H=>td σ H λx H1=>ty σ H1 λy H2=>∃a kvs k b,x=.ref a/\H2 a=some (.dT kvs)/\y=.ref b/\H2 b=some (.tup (k.map kV))/\(valV kvs k).isSome=true/\D.nx σ (upd H2 a (.dT (dropK kvs k)))
theorem zks(hu:X.A.units+1<cLine)(ho:PE X o td)(hi:PE X i ty):PS X (.Delete [.Subscript o i pos'] pos) (zle td ty):=by
 intro pins s σ H D I h;refine wpAny_Delete (wpAny_deleteEach_cons (wpAny_delete_Subscript (thn (ho pins s σ H _ I h) λu s1 ⟨x,H1,I1,rx,q1⟩=>thn (hi pins s1 σ H1 _ I1 q1) λiv s2 ⟨y,H2,I2,ry,a,kvs,k,b,ex,eD,ey,eb,hv,q2⟩=>?_)));subst ex ey;obtain rfl:u=Aw a:=rx
 cases (show iv=Aw b from ry)
 obtain⟨zz,hd,xs,rel,dd⟩:=dt_of I2.hok eD
 have hne:DL xs k≠none:=λen=>by
  have rv:=(rel.val k).isSome_eq;rw[en,hv]at rv
  cases rv
 refine wpAny_delItem_slot dd.typeIs (by decide) PySem.F.slot_dict_delitem (call_meetsIn PySem.F.slot_dict_delitem dd.typeIs PySem.F.entry_dict_delitem (PySem.F.args_dict_delitem_2 _ _) (ziD (DC (zaE X.prog X.w)) a b)
  ⟨CF hu,k,xs,zdC I2.hok eb,dd,by rw[<- CY rel];exact zz,hne,λj p hj h' dd' hs=>?_⟩)
 obtain⟨_,_,_,_,_,_,_,_,hn⟩:=dd;obtain⟨i1,v,i2,i3⟩:=KT.erase rel hn hj;obtain⟨q,es,ep,hq,h2,h3,h4,_,h5⟩:=dd';refine wpAny_deleteEach_nil ⟨σ,_,?_,q2⟩;refine zc7 I2 (by rw[eD];exact Du) hs ⟨q,hq⟩ ⟨AW (zkW kvs k) zz,hd,_,i1.keeps λc ys ec=>?_,q,es,ep,hq,h2,h3,h4,h5⟩;rw[zai (ne_of ec eD (λz=>nomatch z))];exact ec
end
section
variable {X:Cx}{osc:Scope}{N:List Str}{sc:Scope}{N':List Str}{sel:List (Option Nat)}{pos:Pos}{kx vx tg iter:Expr}{ifs:List Expr}{wi:TI}{g:TG}{tt:TT}{tk tv:TE}
noncomputable def zmD(wi:TI)(sel:List (Option Nat))(g:TG)(tt:TT)(tk tv:TE)(i:Nat):TS:=λD σ H=>wi σ H λJ H1=>∀p,H1 p=none ->
 zb9 J g (tIfs tt (zeO p tk tv)) { nx:=λ_ H'=>D.nx (σ.set i (some (.ref p))) H',rt:=λ_ _=>False } (selSt sel σ) (upd H1 p (.dT []))
theorem zkt{i:Nat}{x:Str}{px spos:Pos}(hu:X.A.units + 1 < cLine)(B:BlkOk osc N sc N' sel)(hnd:X.N.Nodup)(hi':X.N[i]? = some x)(hx:Loc X.env.scope x)(hi:PI X tg iter wi)(hg:InBlk X sc N' λY => PG Y tg g)(ht:InBlk X sc N' λY => PTs Y ifs tt)(hk:InBlk X sc N' λY => PE Y kx tk)(hv:InBlk X sc N' λY => PE Y vx tv)
  (hsw:swapsWith (.DictComp kx vx [⟨tg,iter,ifs,0⟩] sc pos) (some (.Name x px)) spos.line X.env=pure true:=by rfl)
  (ho:X.env.scope=osc:=by rfl) (hN:X.N=N:=by rfl) (hc:X.calm=true:=by rfl) (hs:∀x,Bm iter X.env x=pure x:=by intro _;rfl)
  (hf:X.fn x=true∨X.env.scope.names.lookup x=some .local:=by first |exact .inl rfl |exact .inr rfl |assumption) :
  PS X (.Assign [.Name x px] (.DictComp kx vx [⟨tg,iter,ifs,0⟩] sc pos) spos) (zmD wi sel g tt tk tv i):=by
 intro pins s σ H D I h;obtain⟨cl,Cl⟩:=ze4 I.ok B ho;rw[exec_Assign_Name_used _ _ _ _ hsw];refine Ab (CB (Ab ?_));show At _ X.A (do let _ <- comprehension (.DictComp kx vx [⟨tg,iter,ifs,0⟩] sc pos) sc X.env _ newDict false (eval iter X.env) (some (Ds (.Name x px) X.env))) _ _ s;refine Ab (thn (B4 (use:=some (Ds (.Name x px) X.env)) (Q:=λ_ s'=>SP X pins D .next s') rfl hs Cl.run B.kind B.names (thn (hi pins s σ H _ I h) λv s1 h1=>thn h1 λitv s2 h2=>?_)) λ_ s' hq=>Af (Af hq));obtain⟨it,fp,tn,J,H2,e,I2,T,st2,f2,h2⟩:=h2;subst e
 refine Bh (zce (e:=.DictComp kx vx [⟨tg,iter,ifs,0⟩] sc pos) (inner:=λ_ _=>pure ()) (D:=λp=>{ nx:=λ_ H'=>D.nx (σ.set i (some (.ref p))) H',rt:=λ_ _=>False }) (tb:=λp=>zeO p tk tv) (use:=some (Ds (.Name x px) X.env)) B ho hN hc (λacc env R s a b=>codeAny_compStart_dict a b)
  (ze3 (iter:=iter) (pos:=pos) hu T hc hg ht hk hv) I2 T st2 f2 (zfN s2.heap I2.big) rfl (h2 _ (I2.hok.fresh (Am _))) (λC H' s' I3 fC hn hq=>?_) s2.toks cl Cl X.xe)
 obtain⟨m,hn⟩:=hn;obtain⟨_,hq⟩:=hq;show At _ X.A (Ds (.Name x px) X.env (.ref s2.heap.objs.size)) _ _ _;refine wpAny_assign_Name (zdc I3 hnd hi' hx (v:=.ref s2.heap.objs.size) rfl (λs4 I4 hch=>?_) hf);obtain⟨a,sb,ha⟩:=hch
 have nC:C≠a:=by
  rcases ha with z |z
  .rw[z];exact fC.2.1
  .exact λq=>fC.2.2.2.2.1 x a z q.symm
 refine⟨m,hn.sameBut sb nC,λh' hs'=>⟨_,H',I4.let_go fC hs',hq⟩⟩
end
theorem zcO{X:Cx}{K:W.Frag}(hu:X.A.units+65<cLine)(hK:X.K=K:=by rfl):OpR X (BB .NotIn) (zd4 K):=by subst hK;exact zjr hu
end L2
namespace HT
open PySem PyProof.Rows PySem.Spec
end HT
namespace L2
open PySem PySem.Spec PyProof.Rows
section
variable {X:Cx}{K:W.Frag}
end
open PySem
theorem sC{N P:List Str}{sc:Scope}(a:sc.kind = .function := by rfl)(b:sc.isCoroutine=false := by rfl)(c:sc.isGenerator=false := by rfl)(d:N.Nodup := by decide +kernel)(e:N.take P.length=P := by rfl)
  (f:∀x∈P,sc.names.lookup x=some .local∨sc.names.lookup x=some .cell:=by decide +kernel) (g:∀y∈sc.names,y.2≠.free:=by decide +kernel):FnScope N P sc:=⟨a,b,c,d,e,f,g⟩
section
variable {X:Cx}{k j:Nat}{x:Str}{ps:List Str}{sp:Sp}{e:Expr}{es:List Expr}{t:TA}{te:TE}{p pos pos':Pos}
theorem pC (g:Fn X.prog X.w X.K X.mg X.base k x ps sp) (hr:Room j X.A) (ha:PA X (e :: es) t) (hj:k <= j := by decide) (hg:Gl X x := by rfl) (hdb:(x == ("__debug__" : Str))=false := by decide)
  (he:Bx (e::es) X.env=(false,eval e X.env)::Bx es X.env:=by rfl) (hpl:(backTo pos (Bx es X.env)).any (·.1)=false:=by rfl):PE X (.Call (.Name x p) (e::es) [] pos) (tCall sp [] E0 t) :=
 zlQ g.ok (hr.mono hj) hg g.m g.kp g.b .nil pass0 ha hdb he hpl
theorem nG(i:Nat)(hN:X.N.Nodup)(hi:X.N[i]?=some x:=by rfl)(hx:Loc X.env.scope x:=by exact Or.inl rfl)(hf:X.fn x=true∨X.env.scope.names.lookup x=some .local:=by first |exact .inl rfl |exact .inr rfl |assumption):PG X (.Name x pos) (gName i) :=
 zc3 hN hi hx hf
theorem sE(i:Nat)(hN:X.N.Nodup)(he:PE X e te)(hi:X.N[i]? = some x := by rfl)(hx:Loc X.env.scope x := by exact Or.inl rfl)(hs:swapsWith e (some (.Name x pos')) pos.line X.env=pure false := by rfl)
  (hf:X.fn x=true∨X.env.scope.names.lookup x=some .local:=by first |exact .inl rfl |exact .inr rfl |assumption):PS X (.Assign [.Name x pos'] e pos) (tAsg te (gName i)) :=
 zgk hN hi hx he hs hf
end
theorem bO{osc:Scope}{N:List Str}{sc:Scope}{N':List Str}{sel:List (Option Nat)}(a:sc.kind = .function := by rfl)(b:∀y ∈ sc.names, y.2 ≠ .cell := by decide +kernel)(c:∀y ∈ sc.names, y.2 = .local -> sc.names.lookup y.1=some .local := by decide +kernel)
  (d:∀y∈sc.names,y.2=.free->osc.names.lookup y.1=some .cell∨osc.names.lookup y.1=some .free:=by decide +kernel) (e:sel.length=N'.length:=by rfl) (f:∀p∈sel.zip N',∀i∈p.1,N[i]?=some p.2/\sc.names.lookup p.2=some .free:=by decide +kernel):BlkOk osc N sc N' sel:=⟨a,b,c,d,e,f⟩
section
variable {K:W.Frag}{x qual:Str}{st:Stmt}{f:Addr}{fd:BM}
theorem Fun.b1{p0:Str}(F:Fun K x qual st f fd)(h:∀(kV doc pm:Ac) (an:Option Addr) (cdv ct a0:Ac),Dt (C7 x qual (za5 st) (zaI st) (zad st) .none kV doc pm an cdv ct) ⟨[a0],[]⟩=pure [(p0,a0)]:=by intros;rfl):Binds K fd [p0] [] :=
 F.binds λkV doc pm an cdv ct us hl=>match us,hl with |[a0],_=>h kV doc pm an cdv ct a0
theorem Fun.b2{p0 p1:Str}(F:Fun K x qual st f fd)(h:∀(kV doc pm:Ac) (an:Option Addr) (cdv ct a0 a1:Ac),Dt (C7 x qual (za5 st) (zaI st) (zad st) .none kV doc pm an cdv ct) ⟨[a0,a1],[]⟩=pure [(p0,a0),(p1,a1)]:=by intros;rfl):Binds K fd [p0,p1] [] :=
 F.binds λkV doc pm an cdv ct us hl=>match us,hl with |[a0,a1],_=>h kV doc pm an cdv ct a0 a1
theorem Fun.b3{p0 p1 p2:Str}(F:Fun K x qual st f fd)(h:∀(kV doc pm:Ac) (an:Option Addr) (cdv ct a0 a1 a2:Ac),Dt (C7 x qual (za5 st) (zaI st) (zad st) .none kV doc pm an cdv ct) ⟨[a0,a1,a2],[]⟩=pure [(p0,a0),(p1,a1),(p2,a2)]:=by intros;rfl):Binds K fd [p0,p1,p2] [] :=
 F.binds λkV doc pm an cdv ct us hl=>match us,hl with |[a0,a1,a2],_=>h kV doc pm an cdv ct a0 a1 a2
theorem Fun.b4{p0 p1 p2 p3:Str}(F:Fun K x qual st f fd)(h:∀(kV doc pm:Ac) (an:Option Addr) (cdv ct a0 a1 a2 a3:Ac),Dt (C7 x qual (za5 st) (zaI st) (zad st) .none kV doc pm an cdv ct) ⟨[a0,a1,a2,a3],[]⟩=pure [(p0,a0),(p1,a1),(p2,a2),(p3,a3)]:=by intros;rfl):Binds K fd [p0,p1,p2,p3] [] :=
 F.binds λkV doc pm an cdv ct us hl=>match us,hl with |[a0,a1,a2,a3],_=>h kV doc pm an cdv ct a0 a1 a2 a3
theorem Fun.b6{p0 p1 p2 p3 p4 p5:Str}(F:Fun K x qual st f fd)(h:∀(kV doc pm:Ac) (an:Option Addr) (cdv ct a0 a1 a2 a3 a4 a5:Ac),Dt (C7 x qual (za5 st) (zaI st) (zad st) .none kV doc pm an cdv ct) ⟨[a0,a1,a2,a3,a4,a5],[]⟩=pure [(p0,a0),(p1,a1),(p2,a2),(p3,a3),(p4,a4),(p5,a5)]:=by intros;rfl):Binds K fd [p0,p1,p2,p3,p4,p5] [] :=
 F.binds λkV doc pm an cdv ct us hl=>match us,hl with |[a0,a1,a2,a3,a4,a5],_=>h kV doc pm an cdv ct a0 a1 a2 a3 a4 a5
end
noncomputable def DA(K:W.Frag)(x:Str)(st:Stmt):Prop:=∃(f:Addr) (od an:Option Addr) (sl:Array (Option Ac)) (oc kV dc pm cd ct:Ac),CO K AJ x=some (some (.ref f)) /\
 K.lookup f=some ⟨oc,od,.func (C7 x x (za5 st) (zaI st) (zad st) .none kV dc pm an cd ct),sl⟩/\W.codeIn K cd x=true/\W.keepIn K (.ref f)=true
section
variable {K:W.Frag}{mg:Str->Option Ac}{h:Heap}{x:Str}{st:Stmt}
theorem DA.mk{f:Addr}{od an:Option Addr}{sl:Array (Option Ac)}{oc kV dc pm cd ct:Ac}(a:CO K AJ x=some (some (.ref f)))
  (l:K.lookup f=some ⟨oc,od,.func (C7 x x (za5 st) (zaI st) (zad st) .none kV dc pm an cd ct),sl⟩) (c:W.codeIn K cd x=true) (k:W.keepIn K (.ref f)=true):DA K x st :=
 ⟨f,od,an,sl,oc,kV,dc,pm,cd,ct,a,l,c,k⟩
theorem DA.d1{p0:Str}(D:DA K x st)(X:K.In h)(G:h.Ns AJ mg)(hb:∀(kV doc pm:Ac) (an:Option Addr) (cdv ct a0:Ac),Dt (C7 x x (za5 st) (zaI st) (zad st) .none kV doc pm an cdv ct) ⟨[a0],[]⟩=pure [(p0,a0)]:=by intros;rfl):Nonempty (Df K mg x st [p0]):=by obtain⟨f,od,an,sl,oc,kV,dc,pm,cd,ct,a,l,c,k⟩:=D;exact⟨⟨f,_,zcF l c k,W.mg_of X G a,(zcF l c k).b1 hb⟩⟩
theorem DA.d2{p0 p1:Str}(D:DA K x st)(X:K.In h)(G:h.Ns AJ mg)(hb:∀(kV doc pm:Ac) (an:Option Addr) (cdv ct a0 a1:Ac),Dt (C7 x x (za5 st) (zaI st) (zad st) .none kV doc pm an cdv ct) ⟨[a0,a1],[]⟩=pure [(p0,a0),(p1,a1)]:=by intros;rfl):Nonempty (Df K mg x st [p0,p1]):=by obtain⟨f,od,an,sl,oc,kV,dc,pm,cd,ct,a,l,c,k⟩:=D;exact⟨⟨f,_,zcF l c k,W.mg_of X G a,(zcF l c k).b2 hb⟩⟩
theorem DA.d3{p0 p1 p2:Str}(D:DA K x st)(X:K.In h)(G:h.Ns AJ mg)(hb:∀(kV doc pm:Ac) (an:Option Addr) (cdv ct a0 a1 a2:Ac),Dt (C7 x x (za5 st) (zaI st) (zad st) .none kV doc pm an cdv ct) ⟨[a0,a1,a2],[]⟩=pure [(p0,a0),(p1,a1),(p2,a2)]:=by intros;rfl):Nonempty (Df K mg x st [p0,p1,p2]):=by obtain⟨f,od,an,sl,oc,kV,dc,pm,cd,ct,a,l,c,k⟩:=D;exact⟨⟨f,_,zcF l c k,W.mg_of X G a,(zcF l c k).b3 hb⟩⟩
theorem DA.d4{p0 p1 p2 p3:Str}(D:DA K x st)(X:K.In h)(G:h.Ns AJ mg)(hb:∀(kV doc pm:Ac) (an:Option Addr) (cdv ct a0 a1 a2 a3:Ac),Dt (C7 x x (za5 st) (zaI st) (zad st) .none kV doc pm an cdv ct) ⟨[a0,a1,a2,a3],[]⟩=pure [(p0,a0),(p1,a1),(p2,a2),(p3,a3)]:=by intros;rfl):Nonempty (Df K mg x st [p0,p1,p2,p3]):=by obtain⟨f,od,an,sl,oc,kV,dc,pm,cd,ct,a,l,c,k⟩:=D;exact⟨⟨f,_,zcF l c k,W.mg_of X G a,(zcF l c k).b4 hb⟩⟩
theorem DA.d6{p0 p1 p2 p3 p4 p5:Str}(D:DA K x st)(X:K.In h)(G:h.Ns AJ mg)(hb:∀(kV doc pm:Ac) (an:Option Addr) (cdv ct a0 a1 a2 a3 a4 a5:Ac),Dt (C7 x x (za5 st) (zaI st) (zad st) .none kV doc pm an cdv ct) ⟨[a0,a1,a2,a3,a4,a5],[]⟩=pure [(p0,a0),(p1,a1),(p2,a2),(p3,a3),(p4,a4),(p5,a5)]:=by intros;rfl):Nonempty (Df K mg x st [p0,p1,p2,p3,p4,p5]):=by obtain⟨f,od,an,sl,oc,kV,dc,pm,cd,ct,a,l,c,k⟩:=D;exact⟨⟨f,_,zcF l c k,W.mg_of X G a,(zcF l c k).b6 hb⟩⟩
end
open PySem RP
theorem zho{es:List Edge}{e:Edge}(y:Int):upr (es++[e]) y=if isUp y e=true then upr es y++[px e] else upr es y:=by
 unfold upr;rw[DX,A6]
 by_cases h:isUp y e=true
 .simp[h]
 .simp[h]
structure UD (H0 H:Hp) (a:Addr) (es:List Edge) (kvs:List (Key×V)) (B:Int->Addr):Prop where
 dict:H a=some (.dK kvs)
 new:H0 a=none
 same:Same H0 H
 len:kvs.length<=es.length
 nd:(kvs.map (·.1)).Nodup
 keys:∀k∈kvs.map (·.1),∃y,k=C5 y/\upr es y≠[]
 at_:∀y,upr es y≠[]->valV kvs (.inl y)=some (.ref (B y))/\H (B y)=some (.lst ((upr es y).map V.int))/\H0 (B y)=none/\B y≠a
 inj:∀y z,upr es y≠[]->upr es z≠[]->B y=B z->y=z
 no:∀y,upr es y=[]->valV kvs (.inl y)=none
theorem UD.start{H0:Hp}{a:Addr}(h:H0 a=none):UD H0 (upd H0 a (.dK [])) a [] [] λ_=>0 where
 dict:=zaa
 new:=h
 same:=λb u e=>by rw[zai (zak e h)];exact e
 len:=Am _
 nd:=.nil
 keys:=λ_ h=>(nomatch h)
 at_:=λy h=>absurd rfl h
 inj:=λy z h=>absurd rfl h
 no:=λ_ _=>rfl
variable {H0 H:Hp}{a z:Addr}{es:List Edge}{e:Edge}{kvs:List (Key×V)}{B:Int->Addr}
theorem UD.skip(h:UD H0 H a es kvs B)(hw:¬ (e.w=1∨e.w=3)):UD H0 H a (es++[e]) kvs B:=by
 have u:∀y,upr (es++[e]) y=upr es y:=λy=>by rw[zho,if_neg (λq=>hw (zfJ.mp q).1)]
 exact⟨h.dict,h.new,h.same,by rw[Ak];exact Nat.le_succ_of_le h.len,h.nd,λk hk=>by obtain⟨y,q,r⟩:=h.keys k hk;exact⟨y,q,by rw[u];exact r⟩,
  λy hy=>by rw[u]at hy ⊢;exact h.at_ y hy,λy z hy hz=>h.inj y z (by rwa [u]at hy) (by rwa [u]at hz),λy hy=>h.no y (by rwa [u]at hy)⟩
theorem ziQ(hw:e.w=1∨e.w=3)(y:Int):upr (es++[e]) y=if y=e.c.2 then upr es y++[px e] else upr es y:=by
 rw[zho]
 by_cases q:y=e.c.2
 .rw[if_pos (zfJ.mpr ⟨hw,q.symm⟩),if_pos q]
 .rw[if_neg (λz=>q (zfJ.mp z).2.symm),if_neg q]
theorem UD.more(h:UD H0 H a es kvs B)(hw:e.w=1 ∨ e.w=3)(hz:H z=none)(hy:upr es e.c.2 ≠ []) :
  UD H0 (upd (upd H z (.lst [])) (B e.c.2) (.lst ((upr es e.c.2).map V.int++[.int (px e)]))) a (es++[e]) kvs B:=by
 obtain⟨a1,a2,a3,a4⟩:=h.at_ _ hy;have u:=ziQ (es:=es) hw;have nz:∀{b o},H b=some o->b≠z:=λq w=>by rw[w,hz]at q;cases q
 have ne:∀y,upr (es++[e]) y≠[] ↔ upr es y≠[]:=λy=>by
  rw[u]
  by_cases q:y=e.c.2
  .subst q;simp[hy]
  .simp[q]
 refine⟨?_,h.new,λb o q=>?_,by rw[Ak];exact Nat.le_succ_of_le h.len,h.nd,λk hk=>?_,λy hy'=>?_,λy z' h1 h2=>h.inj y z' ((ne y).mp h1) ((ne z').mp h2),λy hy'=>h.no y ?_⟩
 .rw[zai a4.symm,zai (nz h.dict)];exact h.dict
 .have q':=h.same b o q;rw[zai (zak q a3),zai (nz q')];exact q'
 .obtain⟨y,q,r⟩:=h.keys k hk;exact⟨y,q,(ne y).mpr r⟩
 .obtain⟨b1,b2,b3,b4⟩:=h.at_ y ((ne y).mp hy');refine⟨b1,?_,b3,b4⟩;rw[u]
  by_cases q:y=e.c.2
  .subst q;rw[if_pos rfl,zaa,A6];rfl
  .rw[if_neg q,zai (λw=>q (h.inj y _ ((ne y).mp hy') hy w)),zai (nz b2)];exact b2
 .exact BI λw=>(ne y).mpr w hy'
theorem UD.first(h:UD H0 H a es kvs B)(hw:e.w=1 ∨ e.w=3)(hz:H z=none)(hy:upr es e.c.2 = []) :
  UD H0 (upd (upd (upd H z (.lst [])) a (.dK (putK kvs (.inl e.c.2) (.ref z)))) z (.lst ([]++[.int (px e)]))) a (es++[e]) (putK kvs (.inl e.c.2) (.ref z)) λy=>if y=e.c.2 then z else B y:=by
 have u:=ziQ (es:=es) hw;have nz:∀{b o},H b=some o->b≠z:=λq w=>by rw[w,hz]at q;cases q
 have haz:a≠z:=nz h.dict;have hv:=h.no _ hy
 have ne:∀y,upr (es++[e]) y≠[] ↔ y=e.c.2∨upr es y≠[]:=λy=>by
  rw[u]
  by_cases q:y=e.c.2
  .subst q;simp
  .simp[q]
 refine⟨?_,h.new,λb o q=>?_,?_,zl1 _ h.nd hv,λk hk=>?_,λy hy'=>?_,λy z' h1 h2 q=>?_,λy hy'=>?_⟩
 .rw[zai haz,zaa]
 .have q':=h.same b o q;rw[zai (nz q'),zai (zak q h.new),zai (nz q')];exact q'
 .have:=zaR kvs (C5 e.c.2) (V.ref z);have:=h.len;rw[Ak];simp only[A5,Cd];lia
 .rw[zfn _ hv,A6]at hk;rcases AH.mp hk with hk |hk
  .obtain⟨y,q,r⟩:=h.keys k hk;exact⟨y,q,(ne y).mpr (.inr r)⟩
  .exact⟨e.c.2,Ah.mp hk,(ne _).mpr (.inl rfl)⟩
 .by_cases q:y=e.c.2
  .subst q;refine⟨by rw[zcI,if_pos rfl,if_pos rfl],?_,?_,?_⟩
   .rw[if_pos rfl,zaa,u,if_pos rfl,hy];rfl
   .rw[if_pos rfl];exact h.same.free hz
   .rw[if_pos rfl];exact haz.symm
  .obtain⟨b1,b2,b3,b4⟩:=h.at_ y (((ne y).mp hy').resolve_left q);rw[if_neg q];refine⟨by rw[zcI,if_neg (λw=>q (Dq w))];exact b1,?_,b3,b4⟩;rw[zai (nz b2),zai b4,zai (nz b2),u,if_neg q];exact b2
 .by_cases q1:y=e.c.2 <;> by_cases q2:z'=e.c.2 <;> simp only[q1,q2,if_true,if_false]at q
  .rw[q1,q2]
  .exact absurd q.symm (nz (h.at_ z' (((ne z').mp h2).resolve_left q2)).2.1)
  .exact absurd q (nz (h.at_ y (((ne y).mp h1).resolve_left q1)).2.1)
  .exact h.inj y z' (((ne y).mp h1).resolve_left q1) (((ne z').mp h2).resolve_left q2) q
 .have q:y≠e.c.2:=λw=>(ne y).mpr (.inl w) hy'
  rw[zcI,if_neg (λw=>q (Dq w))];exact h.no y (BI λw=>(ne y).mpr (.inr w) hy')
end L2
namespace RP
theorem gapE1(c:Cell):gap ⟨c,1⟩=(c.1+1,c.2):=by unfold gap go mv;simp
theorem gapE3(c:Cell):gap ⟨c,3⟩=(c.1-1,c.2):=by unfold gap go mv;simp;lia
noncomputable def upL(y x:Int)(e:Edge):Bool:=decide (e.c.2=y) && ((decide (e.w=1) && decide (e.c.1+1<=x)) || (decide (e.w=3) && decide (e.c.1<=x)))
theorem zie{es:List Edge}(nd:es.Nodup)(e0:Edge):(es.filter λe=>decide (e=e0)).length=if e0∈es then 1 else 0:=by
 induction es with
 |nil=>rfl
 |cons a l ih =>
  have hn:=BF.mp nd;have ih:=ih hn.2
  by_cases h:a=e0
  .subst h;rw[List.filter_cons_of_pos (by simp),A5,ih,if_neg hn.1,if_pos An]
  .rw[List.filter_cons_of_neg (by simpa using h),ih]
   by_cases hm:e0∈l
   .rw[if_pos hm,if_pos (Ap _ hm)]
   .rw[if_neg hm,if_neg (λz=>(AM.mp z).elim (λq=>h q.symm) hm)]
theorem zc6{p q r:Edge->Bool}:∀{es:List Edge},(∀e∈es,p e=(q e ||r e))->(∀e∈es,¬ (q e=true/\r e=true))->(es.filter p).length=(es.filter q).length+(es.filter r).length
 |[],_,_=>rfl
 |e::l,h1,h2=>by
  have ih:=zc6 (p:=p) (q:=q) (r:=r) (es:=l) (λe he=>h1 e (Ap _ he)) (λe he=>h2 e (Ap _ he));have a:=h1 e An;have b:=h2 e An;rw[CD,CD,CD,a]
  cases hq:q e <;> cases hr:r e
  .simp only[Bool.or_self,A0,if_false];exact ih
  .simp only[Bool.false_or,if_true,A0,if_false,A5];lia
  .simp only[Bool.or_false,if_true,A0,if_false,A5];lia
  .exact absurd ⟨hq,hr⟩ b
theorem ziR{C:Cell -> Bool}{es:List Edge}(nd:es.Nodup)(all:∀e, e ∈ es ↔ IsE C e){y x0:Int}(h0:∀x, x <= x0 -> C (x, y)=false) :
  ∀n:Nat,((es.filter (upL y (x0+n))).length % 2=1 ↔ C (x0+n,y)=true)
 | 0=>by
  have:es.filter (upL y (x0+(0:Nat)))=[]:=by
   rw[List.filter_eq_nil_iff];intro e he hu;have hE:=(all e).mp he;unfold upL at hu;simp only[Bp,Bool.or_eq_true,decide_eq_true_eq]at hu;obtain⟨hy,h |h⟩:=hu
   .have:=h0 e.c.1 (by lia);rw[<- hy]at this;rw[show (e.c.1,e.c.2)=e.c from rfl,hE.2.1]at this
    cases this
   .have:=h0 e.c.1 (by lia);rw[<- hy]at this;rw[show (e.c.1,e.c.2)=e.c from rfl,hE.2.1]at this
    cases this
  rw[this,h0 _ (by lia)];simp
 |n+1=>by
  have ih:=ziR nd all h0 n;have c1:=zie nd ⟨(x0+n,y),1⟩;have c3:=zie nd ⟨(x0+n+1,y),3⟩
  have m1:(⟨(x0+n,y),1⟩:Edge)∈es ↔ C (x0+n,y)=true/\C (x0+n+1,y)=false:=by rw[all];unfold IsE;rw[gapE1];exact⟨λz=>z.2,λz=>⟨(by show 1<4;decide),z⟩⟩
  have m3:(⟨(x0+n+1,y),3⟩:Edge)∈es ↔ C (x0+n+1,y)=true/\C (x0+n,y)=false:=by rw[all];unfold IsE;rw[gapE3];show _/\_/\C (x0+n+1-1,y)=false ↔ _;rw[show x0+(n:Int)+1-1=x0+n by lia];exact⟨λz=>z.2,λz=>⟨(by show 3<4;decide),z⟩⟩
  have e1:(es.filter (upL y (x0+(n+1:Nat)))).length=(es.filter (upL y (x0+n))).length+(es.filter λe=>decide (e=⟨(x0+n,y),1⟩) ||decide (e=⟨(x0+n+1,y),3⟩)).length:=by
   refine zc6 (λe he=>?_) (λe he h=>?_)
   .have hw:=((all e).mp he).1;obtain⟨⟨a,b⟩,w⟩:=e;simp only at hw;unfold upL;rw[Cc];simp only[Bp,Bool.or_eq_true,decide_eq_true_eq,Edge.mk.injEq,Prod.mk.injEq];lia
   .obtain⟨⟨a,b⟩,w⟩:=e;unfold upL at h;simp only[Bp,Bool.or_eq_true,decide_eq_true_eq,Edge.mk.injEq,Prod.mk.injEq]at h;lia
  have e2:(es.filter λe=>decide (e=⟨(x0+n,y),1⟩) ||decide (e=⟨(x0+n+1,y),3⟩)).length=(es.filter λe=>decide (e=(⟨(x0+n,y),1⟩:Edge))).length+(es.filter λe=>decide (e=(⟨(x0+n+1,y),3⟩:Edge))).length :=
   zc6 (λe _=>rfl) (λe _ h=>by have a:=of_decide_eq_true h.1;have b:=of_decide_eq_true h.2;rw[a]at b;have:=congrArg Edge.w b;simp at this)
  rw[e1,e2,c1,c3,show x0+((n+1:Nat):Int)=x0+n+1 by lia]
  cases h1:C (x0+n,y) <;> cases h2:C (x0+n+1,y)
  .rw[h1]at ih;rw[if_neg (λz=>by rw[m1,h1]at z;cases z.1),if_neg (λz=>by rw[m3,h2]at z;cases z.1)];simp only[A0,iff_false]at ih ⊢;lia
  .rw[h1]at ih;rw[if_neg (λz=>by rw[m1,h1]at z;cases z.1),if_pos (m3.mpr ⟨h2,h1⟩)];simp only[A0,iff_false]at ih ⊢;simp only[iff_true];lia
  .rw[h1]at ih;rw[if_pos (m1.mpr ⟨h1,h2⟩),if_neg (λz=>by rw[m3,h2]at z;cases z.1)];simp only[iff_true]at ih;simp only[A0,iff_false];lia
  .rw[h1]at ih;rw[if_neg (λz=>by rw[m1,h2]at z;cases z.2),if_neg (λz=>by rw[m3,h1]at z;cases z.2)];simp only[iff_true]at ih ⊢;lia
theorem zig{cs:List Cell}{es:List Edge}(nd:es.Nodup)(all:∀e,e∈es ↔ IsE (isIn cs) e)(x y:Int):(es.filter (upL y x)).length % 2=1 ↔ isIn cs (x,y)=true:=by
 have low:∀l:List Cell,∃x0:Int,x0<=x/\∀c∈l,x0<c.1:=by
  intro l
  induction l with
  |nil=>exact⟨x,Int.le_refl _,λc h=>by cases h⟩
  |cons a l ih =>
   obtain⟨x0,h1,h2⟩:=ih;refine⟨min x0 (a.1-1),by lia,λc hc=>?_⟩;rcases AM.mp hc with z |z
   .rw[z];lia
   .have:=h2 c z;lia
 obtain⟨x0,h1,h2⟩:=low cs
 have h0:∀z,z<=x0->isIn cs (z,y)=false:=λz hz=>by
  unfold isIn;refine decide_eq_false λhm=>?_
  have:=h2 _ hm;simp only at this;lia
 have:=ziR nd all h0 (x-x0).toNat
 rw[show x0+((x-x0).toNat:Int)=x by lia]at this;exact this
noncomputable def facE(e:Edge):Edge:=⟨gap e,(e.w+2) % 4⟩
theorem zkU:∀w<4,mvNil ((2*w+6) % 8) ((2*((w+2) % 4)+6) % 8)=true:=by decide
theorem zfL{e:Edge}(h:e.w<4):gap (facE e)=e.c:=by unfold facE gap;exact zhb (zkU _ h)
theorem zdk{e:Edge}(h:e.w<4):facE (facE e)=e:=by
 obtain⟨c,w⟩:=e;have:=zfL (e:=⟨c,w⟩) h;show (⟨gap (facE ⟨c,w⟩),((w+2) % 4+2) % 4⟩:Edge)=_;rw[this];simp only at h
 congr 1
 lia
theorem zmb(e:Edge):(facE e).w<4:=BG _ (by decide)
theorem zhc:∀w<4,¬ ((mv ((2*w+6) % 8)).1=0/\(mv ((2*w+6) % 8)).2=0):=by decide
theorem zef{e:Edge}(h:e.w<4):gap e≠e.c:=λz=>by unfold gap go at z;have h1:=congrArg Prod.fst z;have h2:=congrArg Prod.snd z;simp only at h1 h2;exact zhc _ h ⟨by lia,by lia⟩
noncomputable def chg(C:Cell->Bool)(c:Cell)(b:Bool)(x:Cell):Bool:=if x=c then b else C x
theorem ze5(C:Cell->Bool)(c:Cell)(b:Bool):chg C c b c=b:=by unfold chg;rw[if_pos rfl]
theorem zbD{C:Cell->Bool}{c x:Cell}(b:Bool)(h:x≠c):chg C c b x=C x:=by unfold chg;rw[if_neg h]
theorem zdj{C:Cell->Bool}{e:Edge}(h:e.w<4):IsE C (facE e) ↔ C (gap e)=true/\C e.c=false:=by unfold IsE;rw[zfL h];exact⟨λz=>z.2,λz=>⟨zmb e,z⟩⟩
theorem zlO{C:Cell -> Bool}{c:Cell}(hc:C c=false)(e:Edge) :
  IsE (chg C c true) e ↔ (IsE C e/\∀w,w<4->e≠facE ⟨c,w⟩)∨∃w,w<4/\e=⟨c,w⟩/\¬ IsE C (facE ⟨c,w⟩):=by
 by_cases he:e.c=c
 .constructor
  .rintro⟨h1,h2,h3⟩;refine .inr ⟨e.w,h1,by rw[<- he],?_⟩;have e1:(⟨c,e.w⟩:Edge)=e:=by rw[<- he]
   rw[e1,zdj h1];rintro⟨z,_⟩;rw[zbD _ (by rw[<- he];exact zef h1),z]at h3
   cases h3
  .rintro (⟨⟨_,h2,_⟩,_⟩ |⟨w,hw,rfl,hn⟩)
   .rw[he,hc]at h2;cases h2
   .refine⟨hw,ze5 _ _ _,?_⟩;rw[zbD _ (zef (e:=⟨c,w⟩) hw)];rw[zdj (e:=⟨c,w⟩) hw]at hn
    cases z:C (gap ⟨c,w⟩) with
    |false=>rfl
    |true=>exact absurd ⟨z,hc⟩ hn
 .constructor
  .rintro⟨h1,h2,h3⟩;rw[zbD _ he]at h2;have hg:gap e≠c:=λz=>by rw[z,ze5]at h3;cases h3
   rw[zbD _ hg]at h3;refine .inl ⟨⟨h1,h2,h3⟩,λw hw z=>hg ?_⟩;rw[z,zfL (e:=⟨c,w⟩) hw]
  .rintro (⟨⟨h1,h2,h3⟩,hn⟩ |⟨w,hw,rfl,_⟩)
   .have hg:gap e ≠ c := λz => by
     refine hn ((e.w+2) % 4) (BG _ (by decide)) ?_
     have:=zdk h1;unfold facE at this;rw[z]at this;exact this.symm
    exact⟨h1,by rw[zbD _ he];exact h2,by rw[zbD _ hg];exact h3⟩
   .exact absurd rfl he
theorem zkj{C:Cell -> Bool}{c:Cell}(hc:C c=true)(e:Edge) :
  IsE (chg C c false) e ↔ (IsE C e/\∀w,w<4->e≠⟨c,w⟩)∨∃w,w<4/\e=facE ⟨c,w⟩/\¬ IsE C ⟨c,w⟩:=by
 constructor
 .rintro⟨h1,h2,h3⟩;have he:e.c≠c:=λz=>by rw[z,ze5]at h2;cases h2
  rw[zbD _ he]at h2
  by_cases hg:gap e=c
  .have e1:facE e=⟨c,(e.w+2) % 4⟩:=by unfold facE;rw[hg]
   refine .inr ⟨(e.w+2) % 4,BG _ (by decide),by rw[<- e1,zdk h1],λz=>?_⟩;rw[<- e1,zdj h1]at z;rw[h2]at z
   cases z.2
  .rw[zbD _ hg]at h3;exact .inl ⟨⟨h1,h2,h3⟩,λw hw z=>he (by rw[z])⟩
 .rintro (⟨⟨h1,h2,h3⟩,hn⟩ |⟨w,hw,rfl,hn⟩)
  .have he:e.c≠c:=λz=>hn e.w h1 (by rw[<- z])
   have hg:gap e≠c:=λz=>by rw[z,hc]at h3;cases h3
   exact⟨h1,by rw[zbD _ he];exact h2,by rw[zbD _ hg];exact h3⟩
  .have hgc:gap ⟨c,w⟩≠c:=zef (e:=⟨c,w⟩) hw;rw[zdj (e:=⟨c,w⟩) hw,zbD _ hgc,ze5];refine⟨?_,rfl⟩
   cases z:C (gap ⟨c,w⟩) with
   |true=>rfl
   |false=>exact absurd ⟨hw,hc,z⟩ hn
theorem ziU{C B:Cell->Bool}(hB:∀x,B x=true ↔ ∃e,IsE C e/\e.c=x){e:Edge}(he:IsE C e):stepB B e=stepB C e:=by
 have sub:∀x,C x=false->B x=false:=λx hx=>by
  cases z:B x with
  |false=>rfl
  |true =>
   obtain⟨f,h1,h2⟩:=(hB x).mp z;rw[<- h2,h1.2.1]at hx
   cases hx
 have hn:=zdB he;rcases zbf he with⟨q1,q2,q3⟩ |⟨q0,q1,q2,q3⟩ |⟨q0,q1,q2,q3⟩
 .rw[q3]at hn;have:B (go e.c ((2*e.w+7) % 8))=true:=(hB _).mpr ⟨_,hn,rfl⟩;rw[q2];unfold stepB;rw[if_pos this]
 .rw[q3]at hn;have:B (go e.c (2*e.w))=true:=(hB _).mpr ⟨_,hn,rfl⟩;rw[q2];unfold stepB;rw[if_neg (by rw[sub _ q0];decide),if_pos this]
 .rw[q2];unfold stepB;rw[if_neg (by rw[sub _ q0];decide),if_neg (by rw[sub _ q1];decide)]
theorem zl8{C B:Cell->Bool}(hB:∀x,B x=true ↔ ∃e,IsE C e/\e.c=x){e:Edge}(he:IsE C e):IsE B e:=by
 refine⟨he.1,(hB _).mpr ⟨e,he,rfl⟩,?_⟩
 cases z:B (gap e) with
 |false=>rfl
 |true =>
  obtain⟨f,h1,h2⟩:=(hB _).mp z;have:=he.2.2;rw[<- h2,h1.2.1]at this
  cases this
theorem zhg{C B:Cell->Bool}{b:Edge}{es:List Edge}(h:Closed B b es)(hb:IsE C b)(hs:∀e,IsE C e->stepB B e=stepB C e):Closed C b es/\∀e∈es,IsE C e:=by
 obtain⟨hc,l,hl,hlb⟩:=h
 have all:∀(i:Nat) e,es[i]?=some e->IsE C e:=by
  intro i
  induction i with
  |zero =>
   intro e he;have:=hc.1;rw[he]at this
   cases this
   exact hb
  |succ i ih =>
   intro e he;have hi:i<es.length:=by have:=(Ad.mp he).1;lia
   have h1:=ih _ (Aa hi);have h2:=hc.2.1 i _ e (Aa hi) he;rw[h2];unfold nxt;rw[hs _ h1];exact zdB h1
 have mem:∀e∈es,IsE C e:=λe he=>by obtain⟨i,hi,rfl⟩:=Az he;exact all i _ (Aa hi)
 have nx:∀e∈es,nxt C e=nxt B e:=λe he=>by unfold nxt;rw[hs e (mem e he)]
 refine⟨⟨⟨hc.1,λi e f h1 h2=>?_,mem,hc.2.2.2⟩,l,hl,?_⟩,mem⟩
 .rw[nx e (Aj h1)];exact hc.2.1 i e f h1 h2
 .rw[nx l (Aj hl)];exact hlb
theorem zh4:∀s<8,(mv s).1<2/\-2<(mv s).1/\(mv s).2<2/\-2<(mv s).2:=by decide
noncomputable def nearC(c x:Cell):Prop:=(x.1-c.1).natAbs<2/\(x.2-c.2).natAbs<2
theorem zkT{C:Cell->Bool}{c:Cell}{b:Bool}{e:Edge}(he:IsE C e)(h1:¬ nearC c e.c):stepB (chg C c b) e=stepB C e/\(¬ nearC c (gap e)->IsE (chg C c b) e):=by
 have hw:e.w<4:=he.1
 have hgo:∀s,s<8->go e.c s≠c:=λs hs z=>by have:=zh4 s hs;have z1:=congrArg Prod.fst z;have z2:=congrArg Prod.snd z;unfold go at z1 z2;simp only at z1 z2;exact h1 ⟨by lia,by lia⟩
 have hcc:e.c≠c:=λz=>h1 (by rw[z];exact⟨by lia,by lia⟩)
 refine⟨?_,λh2=>⟨hw,by rw[zbD _ hcc];exact he.2.1,?_⟩⟩
 .unfold stepB;rw[zbD _ (hgo _ (BG _ (by decide))),zbD _ (hgo (2*e.w) (by lia))]
 .rw[zbD _ (λz=>h2 (by rw[z];exact⟨by lia,by lia⟩))];exact he.2.2
end RP
namespace RR
open PySem L2
noncomputable def top(i:Nat):Stmt:=PySem.Challenge.pw_rimsteps_k62_rounds_that_stay.main.body.getD i (.Pass ⟨0,0,0,0⟩)
noncomputable abbrev zcA:Stmt:=top 8
noncomputable abbrev zgP:List Str:=["cell"]
theorem zfk:FnScope zgP ["cell"] (zad zcA):=sC
noncomputable abbrev zco:Stmt:=top 9
noncomputable abbrev zf0:List Str:=["picture","at"]
theorem zcV:FnScope zf0 ["picture"] (zad zco):=sC
noncomputable abbrev zjb:Stmt:=top 10
noncomputable abbrev zm4:List Str:=["x","y","step","right","up"]
theorem zgW:FnScope zm4 ["x","y","step"] (zad zjb):=sC
noncomputable abbrev zbZ:Stmt:=top 11
noncomputable abbrev zdE:List Str:=["picture"]
theorem zfj:FnScope zdE ["picture"] (zad zbZ):=sC
noncomputable abbrev zcy:Stmt:=top 13
noncomputable abbrev zgN:List Str:=["edge","x","y","way"]
theorem zbH:FnScope zgN ["edge"] (zad zcy):=sC
noncomputable abbrev zcl:Stmt:=top 14
noncomputable abbrev zfX:List Str:=["edge","x","y"]
theorem zb1:FnScope zfX ["edge"] (zad zcl):=sC
noncomputable abbrev zbN:Stmt:=top 15
noncomputable abbrev zda:List Str:=["picture","table","edges"]
theorem zcv:FnScope zda ["picture"] (zad zbN):=sC
noncomputable abbrev zbM:Stmt:=top 16
noncomputable abbrev zeo:List Str:=["way"]
theorem zdF:FnScope zeo ["way"] (zad zbM):=sC
noncomputable abbrev zcx:Stmt:=top 17
noncomputable abbrev zgM:List Str:=["way"]
theorem zfi:FnScope zgM ["way"] (zad zcx):=sC
noncomputable abbrev zci:Stmt:=top 18
noncomputable abbrev zfU:List Str:=["table","edge","x","y","way","step"]
theorem zbd:FnScope zfU ["table","edge"] (zad zci):=sC
noncomputable abbrev zdr:Stmt:=top 19
noncomputable abbrev ziK:List Str:=["step"]
theorem zgV:FnScope ziK ["step"] (zad zdr):=sC
noncomputable abbrev zcm:Stmt:=top 20
noncomputable abbrev zfY:List Str:=["edge","step","x","y","way","new_x","new_y"]
theorem za2:FnScope zfY ["edge","step"] (zad zcm):=sC
noncomputable abbrev zcZ:Stmt:=top 23
noncomputable abbrev zhh:List Str:=["table","begin","step","walk","edge"]
theorem zbl:FnScope zhh ["table","begin"] (zad zcZ):=sC
noncomputable abbrev zaO:Stmt:=top 24
noncomputable abbrev zbs:List Str:=["walk","lefts","slants"]
theorem zbi:FnScope zbs ["walk"] (zad zaO):=sC
noncomputable abbrev zbj:Stmt:=top 25
noncomputable abbrev zc9:List Str:=["walk","lefts","slants"]
theorem zbb:FnScope zc9 ["walk"] (zad zbj):=sC
noncomputable abbrev zd2:Stmt:=top 26
noncomputable abbrev zke:List Str:=["walk"]
theorem zis:FnScope zke ["walk"] (zad zd2):=sC
noncomputable abbrev zcN:Stmt:=top 27
noncomputable abbrev ze8:List Str:=["walk","sort"]
theorem zgY:FnScope ze8 ["walk","sort"] (zad zcN):=sC
noncomputable abbrev zbJ:Stmt:=top 28
noncomputable abbrev zdx:List Str:=["walk","sort","begin","at","row"]
theorem zbL:FnScope zdx ["walk"] (zad zbJ):=sC
noncomputable abbrev zcj:Stmt:=top 29
noncomputable abbrev zfV:List Str:=["one","sort","x","y","row"]
theorem zbe:FnScope zfV ["one"] (zad zcj):=sC
noncomputable abbrev zb4:Stmt:=top 30
noncomputable abbrev zeI:List Str:=["table","edges","walked","told","begin","walk","edge","step"]
theorem zaL:FnScope zeI ["table","edges"] (zad zb4):=sC
noncomputable abbrev zfl:Stmt:=top 31
noncomputable abbrev zk2:List Str:=["picture"]
theorem zja:FnScope zk2 ["picture"] (zad zfl):=sC
noncomputable abbrev zcB:Stmt:=top 34
noncomputable abbrev zgQ:List Str:=["one","sort","x","y","row"]
theorem zbo:FnScope zgQ ["one"] (zad zcB):=sC
noncomputable abbrev zdZ:Stmt:=top 35
noncomputable abbrev zkb:List Str:=["step"]
theorem zir:FnScope zkb ["step"] (zad zdZ):=sC
noncomputable abbrev zcn:Stmt:=top 36
noncomputable abbrev zfZ:List Str:=["begin_way","row","way","deeds","step","lefts"]
theorem za3:FnScope zfZ ["begin_way","row"] (zad zcn):=sC
noncomputable abbrev zd1:Stmt:=top 37
noncomputable abbrev zkd:List Str:=["begin","deeds","walk","edge","deed"]
theorem zcb:FnScope zkd ["begin","deeds"] (zad zd1):=sC
noncomputable abbrev zcw:Stmt:=top 38
noncomputable abbrev zgL:List Str:=["begin","row"]
theorem zfh:FnScope zgL ["begin","row"] (zad zcw):=sC
noncomputable abbrev zb3:Stmt:=top 39
noncomputable abbrev zeH:List Str:=["edge","step","x","y","way","behind","seen"]
theorem zaV:FnScope zeH ["edge","step"] (zad zb3):=sC
noncomputable abbrev zck:Stmt:=top 40
noncomputable abbrev zfW:List Str:=["walk","known","steps_gone","edge","step","cell","inside"]
theorem zaJ:FnScope zfW ["walk"] (zad zck):=sC
noncomputable abbrev zcz:Stmt:=top 41
noncomputable abbrev zgO:List Str:=["walk","edge","step"]
theorem zch:FnScope zgO ["walk"] (zad zcz):=sC
noncomputable abbrev zc0:Stmt:=top 42
noncomputable abbrev zhi:List Str:=["walk","sort"]
theorem zgi:FnScope zhi ["walk","sort"] (zad zc0):=sC
noncomputable abbrev zd0:Stmt:=top 43
noncomputable abbrev zkc:List Str:=["one","sort","x","y","row","begin","walk","at"]
theorem zbk:FnScope zkc ["one"] (zad zd0):=sC
noncomputable abbrev zcM:Stmt:=top 44
noncomputable abbrev ze7:List Str:=["one"]
theorem zgX:FnScope ze7 ["one"] (zad zcM):=sC
noncomputable abbrev zdq:Stmt:=top 46
noncomputable abbrev ziJ:List Str:=["edges","places","x","y","way"]
theorem zbK:FnScope ziJ ["edges"] (zad zdq):=sC
noncomputable abbrev zbI:Stmt:=top 48
noncomputable abbrev zcs:List Str:=["places","x","y","passed"]
theorem zcU:FnScope zcs ["places","x","y"] (zad zbI):=sC
noncomputable abbrev zbw:Stmt:=top 50
noncomputable abbrev zcX:List Str:=["some"]
theorem zdV:FnScope zcX ["some"] (zad zbw):=sC
noncomputable abbrev zd3:Stmt:=top 51
noncomputable abbrev zkf:List Str:=["edges","x","y"]
theorem zit:FnScope zkf ["edges","x","y"] (zad zd3):=sC
noncomputable abbrev zbp:Stmt:=top 52
noncomputable abbrev zbY:List Str:=["edges","x","y","inside","kept","way","edge","old","new"]
theorem zaM:FnScope zbY ["edges","x","y","inside"] (zad zbp):=sC
noncomputable abbrev zaD:Stmt:=top 53
noncomputable abbrev za1:List Str:=["some","edges","told"]
theorem zcc:FnScope za1 ["some","edges"] (zad zaD):=sC
noncomputable abbrev s_put:Stmt:=top 54
noncomputable abbrev N_put:List Str:=["some","x","y","edges"]
theorem zld:FnScope N_put ["some","x","y"] (zad s_put):=sC
noncomputable abbrev zgZ:Stmt:=top 55
noncomputable abbrev zmj:List Str:=["some","x","y","edges"]
theorem zhA:FnScope zmj ["some","x","y"] (zad zgZ):=sC
noncomputable abbrev zb6:Stmt:=top 57
noncomputable abbrev zeK:List Str:=["_law_script","_law_k"]
theorem zdY:FnScope zeK ["_law_script","_law_k"] (zad zb6):=sC
noncomputable abbrev zc1:Stmt:=top 58
noncomputable abbrev zhj:List Str:=["_law_pen","_law_base","_law_rest","_law_number"]
theorem zbz:FnScope zhj ["_law_pen","_law_base"] (zad zc1):=sC
noncomputable abbrev zds:Stmt:=top 59
noncomputable abbrev ziL:List Str:=["_law_pen","_law_way"]
theorem zdX:FnScope ziL ["_law_pen"] (zad zds):=sC
noncomputable abbrev zbO:Stmt:=top 60
noncomputable abbrev zeq:List Str:=["_law_pen","_law_way","_law_x","_law_y","_law_wide","_law_high"]
theorem zdG:FnScope zeq ["_law_pen","_law_way","_law_x","_law_y","_law_wide","_law_high"] (zad zbO):=sC
noncomputable abbrev zb5:Stmt:=top 61
noncomputable abbrev zeJ:List Str:=["_law_pen","_law_most","_law_wide","_law_high","_law_way","_law_dx","_law_dy","_law_found","_law_y","_law_x"]
theorem zau:FnScope zeJ ["_law_pen","_law_most"] (zad zb5):=sC
noncomputable abbrev zaP:Stmt:=top 62
noncomputable abbrev zf1:List Str:=["_law_x","_law_y","_law_step","_law_dx","_law_dy"]
theorem zb2:FnScope zf1 ["_law_x","_law_y","_law_step"] (zad zaP):=sC
noncomputable abbrev zc2:Stmt:=top 63
noncomputable abbrev zep:List Str:=["_law_one","_law_x","_law_y","_law_way","_law_found","_law_step","_law_turn"]
theorem zax:FnScope zep ["_law_one"] (zad zc2):=sC
noncomputable abbrev zbx:Stmt:=top 64
noncomputable abbrev zcY:List Str:=["_law_one","_law_x","_law_y"]
theorem zdW:FnScope zcY ["_law_one","_law_x","_law_y"] (zad zbx):=sC
noncomputable abbrev za7:Stmt:=top 65
noncomputable abbrev zbF:List Str:=["_law_some","_law_there","_law_x","_law_y","_law_behind","_law_went","_law_come","_law_again"]
theorem zaH:FnScope zbF ["_law_some","_law_there","_law_x","_law_y"] (zad za7):=sC
noncomputable abbrev s_law:Stmt:=top 66
noncomputable abbrev N_law:List Str:=["_law_script","_law_k","_law_pen","_law_there","_law_some","_law_turn","_law_x","_law_y"]
theorem zcd:FnScope N_law ["_law_script"] (zad s_law):=sC
open PySem L2 RP
noncomputable def cellT(c:Cell):List V:=[.int c.1,.int c.2]
noncomputable def edgeT(e:Edge):List V:=[.int e.c.1,.int e.c.2,.int e.w]
noncomputable def sv:Option Nat->V
 |none=>.non
 |some s=>.int s
noncomputable def Tab(H:Hp)(t:Addr)(C:Cell->Bool):Prop:=∃kvs:List (List Key×V),H t=some (.dT kvs)/\∀c:Cell,(valV kvs [C5 c.1,C5 c.2]).isSome=C c
theorem Tab.same{H H':Hp}{t:Addr}{C:Cell->Bool}(h:Tab H t C)(s:Same H H'):Tab H' t C:=let ⟨kvs,e,q⟩:=h;⟨kvs,s _ _ e,q⟩
theorem Same.up{H:Hp}{p:Addr}{o:HO}(h:H p=none):Same H (upd H p o):=λb u e=>by rw[zai (zak e h)];exact e
structure Txt (P:AR) (w:Be) (K:W.Frag) (mg:Str->Option Ac):Prop where
 moves:∃M,mg "MOVES" = some (.ref M)/\∀H,∃ms:List Addr,SqT K H M (ms.map V.ref)/\ms.length=8/\∀(i:Nat) a,ms[i]?=some a->SqT K H a [.int (mv i).1,.int (mv i).2]
 ways:Ways P w K mg
 more:Two P w K mg "MORE_LEFTS" 4 (-4)
 nabs:mg "abs" = none
 nmax:mg "max" = none
 nany:mg "any" = none
 nrange:mg "range" = none
 nlen:mg "len" = none
 nmin:mg "min" = none
 nsorted:mg "sorted" = none
 ntuple:mg "tuple" = none
 nint:mg "int" = none
 nbool:mg "bool" = none
 nstr:mg "str" = none
 nall:mg "all" = none
 nisinstance:mg "isinstance" = none
 nlist:mg "list" = none
 nsum:mg "sum" = none
 nenumerate:mg "enumerate" = none
 nzip:mg "zip" = none
theorem two:2<=sizeLine:=by decide
theorem three:3<=sizeLine:=by decide
section
variable {P:AR}{w:Be}{K:W.Frag}{mg:Str->Option Ac}{base:Heap}
noncomputable def zgS(K:W.Frag):Sp:=λvs H Q _=>∃(a:Addr) (x y:Int) (r:List V),vs=[.ref a]/\SqT K H a (.int x::.int y::r)/\∀(p:Addr) (H':Hp),H p=none->Same H H'->H' p=some (.tup [.int y,.int x])->Q (.ref p) H'
theorem zfz (d:Df K mg "cell_order" zcA ["cell"]):FnOk P w K mg base CX0 1 d.f d.fd ["cell"] (zgS K):=by
 refine d.F.ok zfk (λvs H Q E h=>?_) (λcdv A outer s H vs Q E hr h=>?_)
 .obtain⟨a,x,y,r,rfl,_⟩:=h;rfl
 .obtain⟨a,x,y,r,rfl,hq,k⟩:=h;refine⟨_,(zaf (zal (zay (zah (pe_ix zb0 (pv 0) zae (λ_ _=>rfl)) (zah (pe_ix zb0 (pv 0) zae (λ_ _=>rfl)) zab))))),?_⟩;refine⟨_,rfl,a,_,_,_,rfl,rfl,hq,zaw (j:=1) rfl,_,rfl,a,_,_,_,rfl,rfl,hq,zaw (j:=0) rfl,two,λp hp=>?_⟩;exact k p _ hp (Same.up hp) zaa
noncomputable def zgb:Sp:=λvs H Q _=>∃(c:Cell) (i:Nat),vs=[.int c.1,.int c.2,.int i]/\i<8/\∀(p:Addr) (H':Hp),H p=none->Same H H'->H' p=some (.tup (cellT (go c i)))->Q (.ref p) H'
theorem zlV (T:Txt P w K mg) (d:Df K mg "gone" zjb ["x","y","step"]):FnOk P w K mg base CX0 1 d.f d.fd ["x","y","step"] zgb:=by
 refine d.F.ok zgW (λvs H Q E h=>?_) (λcdv A outer s H vs Q E hr h=>?_)
 .obtain⟨c,i,rfl,_⟩:=h;rfl
 .obtain⟨c,i,rfl,hi,k⟩:=h;obtain⟨M,hM,hms⟩:=T.moves;obtain⟨ms,hq,hl,hm⟩:=hms H
  refine⟨_,(zac (zbm (pe_ix zb0 (zd5 (v:=.ref M) rfl hM rfl) (pv 2) (λ_ _=>rfl)) (za8 (by rfl) (zag (nG 3 zgW.nd) (zag (nG 4 zgW.nd) zas))))
   (zaf (zal (zay (pa_B (pe_op zaG (pv 0) (pv 3)) (pa_B (pe_op zaG (pv 1) (pv 4)) zab)))))),?_⟩
  have hi':i<ms.length:=by lia
  have e1:ms[i]?=some ms[i]:=by simp[hi']
  refine⟨_,rfl,M,_,(i:Int),.ref ms[i],rfl,rfl,hq,zaw (by simp[hi']),ms[i],_,rfl,hm i _ e1,rfl,_,_,rfl,_,_,rfl,rfl,?_⟩;refine⟨_,rfl,_,rfl,_,_,rfl,rfl,_,rfl,_,rfl,_,_,rfl,rfl,two,λp hp=>?_⟩;exact k p _ hp (Same.up hp) zaa
noncomputable def zdo:Sp:=λvs H Q _=>∃w:Nat,vs=[.int w]/\w<4/\Q (.int (2*w:Nat)) H
theorem zdH (d:Df K mg "straight_step" zbM ["way"]):FnOk P w K mg base CX0 1 d.f d.fd ["way"] zdo:=by
 refine d.F.ok zdF (λvs H Q E h=>?_) (λcdv A outer s H vs Q E hr h=>?_)
 .obtain⟨w,rfl,_⟩:=h;rfl
 .obtain⟨w,rfl,hw,k⟩:=h;refine⟨_,(zaf (zal (pe_op zbU zae (pv 0)))),?_⟩;refine⟨_,rfl,_,_,rfl,rfl,.inl ⟨by decide,by decide⟩,?_⟩;have e:(2*(w:Int))=((2*w:Nat):Int):=by lia
  show Q (.int (2*(w:Int))) H;rw[e];exact k
noncomputable def zgR:Sp:=λvs H Q _=>∃w:Nat,vs=[.int w]/\w<4/\Q (.int ((2*w+7) % 8:Nat)) H
theorem zfu (d:Df K mg "slant_step" zcx ["way"]):FnOk P w K mg base CX0 1 d.f d.fd ["way"] zgR:=by
 refine d.F.ok zfi (λvs H Q E h=>?_) (λcdv A outer s H vs Q E hr h=>?_)
 .obtain⟨w,rfl,_⟩:=h;rfl
 .obtain⟨w,rfl,hw,k⟩:=h;refine⟨_,(zaf (zal (pe_op za9 (pe_op zaG (pe_op zbU zae (pv 0)) zae) zae))),?_⟩;refine⟨_,rfl,_,_,rfl,rfl,.inl ⟨by decide,by decide⟩,_,_,rfl,rfl,_,_,rfl,rfl,(by show (0:Int)<8;decide),?_⟩;have e:(2*(w:Int)+7) % 8=(((2*w+7) % 8:Nat):Int):=by lia
  show Q (.int ((2*(w:Int)+7) % 8)) H;rw[e];exact k
noncomputable def zdd:Sp:=λvs H Q _=>∃o:Option Nat,vs=[sv o]/\Q (.bl (slant o)) H
theorem zg6 (d:Df K mg "is_slant" zdr ["step"]):FnOk P w K mg base CX0 1 d.f d.fd ["step"] zdd:=by
 refine d.F.ok zgV (λvs H Q E h=>?_) (λcdv A outer s H vs Q E hr h=>?_)
 .obtain⟨o,rfl,_⟩:=h;rfl
 .obtain⟨o,rfl,k⟩:=h;refine⟨_,(zaf (zal (zjo (zbc zfr (pv 0) zbS (zan _)) (zhH (zbc op_eq (pe_op za9 (pv 0) zae) zae (zan _)))))),?_⟩
  cases o with
  |none=>exact⟨_,rfl,rfl,false,rfl,iteF k⟩
  |some n =>
   refine⟨_,rfl,rfl,true,rfl,iteT ⟨_,rfl,_,_,rfl,rfl,(by show (0:Int)<2;decide),rfl,?_⟩⟩
   have e:decide (V.int ((n:Int) % 2)=V.int 1)=slant (some n):=by
    show _=(n % 2 == 1)
    by_cases q:n % 2=1
    .rw[decide_eq_true (by rw[show (n:Int) % 2=1 by lia]),q];rfl
    .rw[decide_eq_false (λz=>by injection z with z;lia)];simp[q]
   rw[<- e]at k;exact k
noncomputable def spGap(K:W.Frag):Sp:=λvs H Q _=>∃(a:Addr) (e:Edge),vs=[.ref a]/\SqT K H a (edgeT e)/\e.w<4/\∀(p:Addr) (H':Hp),H p=none->Same H H'->H' p=some (.tup (cellT (gap e)))->Q (.ref p) H'
theorem zfw (g_gone:Fn P w K mg base 1 "gone" ["x","y","step"] zgb) (d:Df K mg "gap_beside" zcy ["edge"]):FnOk P w K mg base CX0 2 d.f d.fd ["edge"] (spGap K):=by
 refine d.F.ok zbH (λvs H Q E h=>?_) (λcdv A outer s H vs Q E hr h=>?_)
 .obtain⟨a,e,rfl,_⟩:=h;rfl
 .obtain⟨a,e,rfl,hq,hw,k⟩:=h
  refine⟨_,(zac (zbm (pv 0) (za8 (by rfl) (zag (nG 1 zbH.nd) (zag (nG 2 zbH.nd) (zag (nG 3 zbH.nd) zas)))))
   (zaf (zal (pC g_gone hr (pa_N (pv 1) (pa_N (pv 2) (pa_B (pe_op za9 (pe_op zaG (pe_op zbU zae (pv 3)) zae) zae) zab))))))),?_⟩
  refine⟨_,rfl,a,_,rfl,hq,rfl,_,_,rfl,_,_,rfl,_,_,rfl,rfl,?_⟩;have e6:(2*(e.w:Int)+6) % 8=(((2*e.w+6) % 8:Nat):Int):=by lia
  refine⟨_,rfl,_,rfl,_,rfl,_,_,rfl,rfl,.inl ⟨by decide,by decide⟩,_,_,rfl,rfl,_,_,rfl,rfl,(by show (0:Int)<8;decide),e.c,(2*e.w+6) % 8,(by rw[<- e6];rfl),by lia,λp H' hp hS hH=>k p H' hp hS hH⟩
theorem iteN{b:Bool}{A B:Prop}(h:b=false)(q:B):if b=true then A else B:=by subst h;exact iteF q
theorem iteY{b:Bool}{A B:Prop}(h:b=true)(q:A):if b=true then A else B:=by subst h;exact iteT q
theorem zcf{tb:TS}{D:Ends}{σ:St}{H:Hp}(h:tb D σ H):tIfs (λ_ H Q=>Q true H) tb D σ H:=by
 show if true=true then tb D σ H else D.nx σ H
 exact iteT h
theorem gN{j:Nat}{v:V}{σ:St}{H:Hp}{tb:TS}{D:Ends}(h:tb D (σ.set j (some v)) H):gName j v σ H λσ2 H2=>tIfs (λ_ H Q=>Q true H) tb D σ2 H2:=zcf h
noncomputable def LR{α:Type}(K:W.Frag)(H:Hp)(a:Addr)(l:List α)(R:α->V->Hp->Prop):Prop:=∃vs:List V,SqL K H a vs/\vs.length=l.length/\∀(i:Nat) x v,l[i]?=some x->vs[i]?=some v->R x v H
noncomputable def cR(c:Cell)(v:V)(H:Hp):Prop:=∃b,v=.ref b/\H b=some (.tup (cellT c))
noncomputable def eR(e:Edge)(v:V)(H:Hp):Prop:=∃b,v=.ref b/\H b=some (.tup (edgeT e))
noncomputable def wR(q:Edge×Option Nat)(v:V)(H:Hp):Prop:=∃A b,v=.ref A/\H A=some (.tup [.ref b,sv q.2])/\H b=some (.tup (edgeT q.1))
theorem cR.same{c:Cell}{v:V}{H H':Hp}(h:cR c v H)(s:Same H H'):cR c v H':=let ⟨b,e,q⟩:=h;⟨b,e,s _ _ q⟩
theorem eR.same{c:Edge}{v:V}{H H':Hp}(h:eR c v H)(s:Same H H'):eR c v H':=let ⟨b,e,q⟩:=h;⟨b,e,s _ _ q⟩
theorem wR.same{c:Edge×Option Nat}{v:V}{H H':Hp}(h:wR c v H)(s:Same H H'):wR c v H':=let ⟨A,b,e,q,r⟩:=h;⟨A,b,e,s _ _ q,s _ _ r⟩
theorem LR.same{α:Type}{K:W.Frag}{H H':Hp}{a:Addr}{l:List α}{R:α->V->Hp->Prop}(h:LR K H a l R)(s:Same H H')(m:∀x v,R x v H->R x v H'):LR K H' a l R :=
 let ⟨vs,q,n,r⟩:=h;⟨vs,s.seq q,n,λi x v h1 h2=>m x v (r i x v h1 h2)⟩
theorem zbB{α:Type}{l:List α}{i:Nat}{x c:α}(h:l[i]?=some x):c∈l.take (i+1) ↔ c∈l.take i∨c=x:=by rw[DB,h,List.mem_append];exact⟨λz=>z.elim .inl λz=>.inr (Ah.mp z),λz=>z.elim .inl λz=>.inr (List.mem_singleton.mpr z)⟩
noncomputable def InOrd(cs:List Cell):Prop:=∀(i:Nat) c d,cs[i]?=some c->cs[i+1]?=some d->HT.lexLt [c.2,c.1] [d.2,d.1]=true
noncomputable def spAsk(K:W.Frag):Sp:=λvs H Q _=>∃(a:Addr) (cs:List Cell),vs=[.ref a]/\LR K H a cs cR/\InOrd cs/\cs.length<=1000/\∀H',Same H H'->Q (.bl true) H'
theorem zeB (T:Txt P w K mg) (g_cell_order:Fn P w K mg base 1 "cell_order" ["cell"] (zgS K)) (d:Df K mg "ask_picture" zco ["picture"]):FnOk P w K mg base CX0 2 d.f d.fd ["picture"] (spAsk K):=by
 refine d.F.ok zcV (λvs H Q E h=>?_) (λcdv A outer s H vs Q E hr h=>?_)
 .obtain⟨a,cs,rfl,_⟩:=h;rfl
 .obtain⟨a,cs,rfl,⟨ws,hq,hn,hc⟩,ho,hlen,k⟩:=h;have hu0:=hr.units0
  refine⟨_,(zac (zbG Bg rfl (zjl (by rfl) T.nrange (pa_C zae (zah (zaT zba (by rfl) T.nlen (by rfl) (pa_N (pv 0) zab)) zab))) (nG 1 zcV.nd)
   (zaf (ps_if (zam (zmJ hu0) (pC g_cell_order hr (zah (pe_ix zaS (pv 0) (pv 1) (λ_ _=>rfl)) zab)) (pC g_cell_order hr (zah (pe_ix zaS (pv 0) (pe_op zbn (pv 1) zae) (λ_ _=>rfl)) zab)) (zan _))
   (zaf zdi)
   zaA)))
   (zaf (zal pe_bl))),?_⟩
  refine⟨_,rfl,a,_,rfl,.inl hq,_,_,rfl,⟨by decide,by decide,by lia,by lia⟩,?_⟩;refine zbC (lo:=1) (n:=((ws.length:Int)-1).toNat) (λi σ H2=>∃o,σ=[some (.ref a),o]/\Same H H2) ⟨_,rfl,Same.refl _⟩ ?_ ?_
  .rintro i σ H2 hi ⟨o,rfl,s2⟩;have h1:i+1<ws.length:=by lia
   have v1:ws[i+1]?=some ws[i+1]:=Aa h1;have v0:ws[i]?=some ws[i]:=Aa (by lia)
   have c1:cs[i+1]?=some cs[i+1]:=Aa (by lia)
   have c0:cs[i]?=some cs[i]:=Aa (by lia)
   obtain⟨b1,e1,q1⟩:=hc (i+1) _ _ c1 v1;obtain⟨b0,e0,q0⟩:=hc i _ _ c0 v0;refine⟨_,rfl,_,rfl,a,_,_,_,rfl,rfl,s2.seq hq,(by rw[show (1:Int)+(i:Int)=((i+1:Nat):Int) by lia];exact zaw v1),b1,_,_,[],(by rw[e1];rfl),SqT.of (s2 _ _ q1),λp1 H3 hp1 s3 f1=>?_⟩;refine⟨_,rfl,_,rfl,_,_,rfl,rfl,a,_,_,_,rfl,rfl,(s2.trans s3).seq hq,(by rw[show (1:Int)+(i:Int)-1=(i:Int) by lia];exact zaw v0),b0,_,_,[],(by rw[e0];rfl),SqT.of ((s2.trans s3) _ _ q0),λp0 H4 hp0 s4 f0=>?_⟩;refine⟨p1,p0,[cs[i+1].2,cs[i+1].1],[cs[i].2,cs[i].1],rfl,rfl,SqT.of (s4 _ _ f1),SqT.of f0,_,rfl,iteN ?_ ?_⟩
   .rw[HT.lexLe_eq,ho i _ _ c0 c1];rfl
   .exact⟨_,rfl,(s2.trans s3).trans s4⟩
  .rintro σ H2 ⟨o,rfl,s2⟩;exact k H2 s2
noncomputable def kC(c:Cell):List Key:=[C5 c.1,C5 c.2]
theorem zjH{c d:Cell}:kC c=kC d ↔ c=d:=by
 constructor
 .intro h;unfold kC at h;injection h with h1 h2;injection h2 with h2 _;exact Prod.ext (Dq h1) (Dq h2)
 .rintro rfl;rfl
noncomputable def zfd(K:W.Frag):Sp:=λvs H Q _=>∃(a:Addr) (cs:List Cell),vs=[.ref a]/\LR K H a cs cR/\cs.length<=1000/\∀t H',H t=none->Same H H'->Tab H' t (isIn cs)->Q (.ref t) H'
theorem zfy (d:Df K mg "cell_table" zbZ ["picture"]):FnOk P w K mg base CX0 1 d.f d.fd ["picture"] (zfd K):=by
 refine d.F.ok zfj (λvs H Q E h=>?_) (λcdv A outer s H vs Q E hr h=>?_)
 .obtain⟨a,cs,rfl,_⟩:=h;rfl
 .obtain⟨a,cs,rfl,⟨ws,hq,hn,hc⟩,hlen,k⟩:=h;have hu1:=hu_of hr;have nb0:(["cell"]:List Str).Nodup:=by decide +kernel
  refine⟨_,(zaf (zal (zkA hu1 (osc:=zad zbZ) (N:=zdE) (N':=["cell"]) (sel:=[none]) bO (zaB (pv 0)) (λ_ _ _ _ _=>(nG 0 nb0)) (λ_ _ _ _ _=>zbQ) (λ_ _ _ _ _=>(pv 0)) (λ_ _ _ _ _=>pe_bl)))),?_⟩;refine⟨_,rfl,a,rfl,⟨_,hq⟩,λp hp=>?_⟩
  refine zar (K:=K) (a:=a) (xs:=ws) (λi σ H2=>∃o,σ=[o]/\Same H H2/\∃kvs,H2 p=some (.dT kvs)/\kvs.length<=i/\∀c:Cell,(valV kvs (kC c)).isSome=decide (c∈cs.take i))
   ⟨_,rfl,Same.up hp,[],zaa,Am _,λc=>by simp[valV]⟩ (λi σ H2 _ ⟨_,_,s2,_⟩=>s2.seq hq) ?_ ?_
  .rintro i v σ H2 hi ⟨o,rfl,s2,kvs,e2,hl,hv⟩;have hil:i<ws.length:=(Ad.mp hi).1;have ci:cs[i]?=some cs[i]:=Aa (by lia)
   obtain⟨b,rfl,q⟩:=hc i _ _ ci hi;refine gN ?_
   refine⟨_,rfl,_,.inr ⟨kvs,kC cs[i],b,e2,rfl,s2 _ _ q,zaj (by lia),rfl⟩,_,rfl,λz o e=>?_,_,zaa,?_,λc=>?_⟩
   .rw[zai (zak e hp)];exact s2 z o e
   .exact AW (zaR _ _ _) (by lia)
   .rw[zcI]
    by_cases e:c=cs[i]
    .rw[if_pos (zjH.mpr e),decide_eq_true ((zbB ci).mpr (.inr e))];rfl
    .rw[if_neg (λz=>e (zjH.mp z)),hv];exact decide_eq_decide.mpr ⟨λz=>(zbB ci).mpr (.inl z),λz=>((zbB ci).mp z).resolve_right e⟩
  .rintro σ H2 ⟨o,rfl,s2,kvs,e2,hl,hv⟩;refine k p H2 hp s2 ⟨kvs,e2,λc=>?_⟩;show (valV kvs (kC c)).isSome=isIn cs c;rw[hv,hn,AN];rfl
noncomputable def ziY(K:W.Frag):Sp:=λvs H Q _=>∃(t a:Addr) (C:Cell->Bool) (e:Edge),vs=[.ref t,.ref a]/\Tab H t C/\SqT K H a (edgeT e)/\e.w<4/\∀H',Same H H'->Q (sv (stepB C e)) H'
theorem zer (g_gone:Fn P w K mg base 1 "gone" ["x", "y", "step"] zgb) (g_slant_step:Fn P w K mg base 1 "slant_step" ["way"] zgR) (g_straight_step:Fn P w K mg base 1 "straight_step" ["way"] zdo)
  (d:Df K mg "step_behind" zci ["table","edge"]):FnOk P w K mg base CX0 2 d.f d.fd ["table","edge"] (ziY K):=by
 refine d.F.ok zbd (λvs H Q E h=>?_) (λcdv A outer s H vs Q E hr h=>?_)
 .obtain⟨t,a,C,e,rfl,_⟩:=h;rfl
 .obtain⟨t,a,C,e,rfl,⟨kvs,ht,hC⟩,hq,hw,k⟩:=h;have hu1:=hu_of hr
  refine⟨_,(zac (zbm (pv 1) (za8 (by rfl) (zag (nG 2 zbd.nd) (zag (nG 3 zbd.nd) (zag (nG 4 zbd.nd) zas)))))
   (zac (zbG Bg rfl (zjk (zay (zah (pC g_slant_step hr (pa_N (pv 4) zab)) (zah (pC g_straight_step hr (pa_N (pv 4) zab)) zab)))) (nG 5 zbd.nd)
   (zaf (ps_if (zhE (zll hu1 (pC g_gone hr (pa_N (pv 2) (pa_N (pv 3) (pa_N (pv 5) zab)))) (pv 0)))
   (zaf (zal (pv 5)))
   zaA)))
   (zaf (zal zbS)))),?_⟩
  refine⟨_,rfl,a,_,rfl,hq,rfl,_,_,rfl,_,_,rfl,_,_,rfl,rfl,?_⟩;refine⟨_,rfl,e.w,rfl,hw,_,rfl,e.w,rfl,hw,two,λp hp=>⟨p,rfl,⟨_,SqT.of zaa⟩,?_⟩⟩
  refine zhd (K:=K) (a:=p) (xs:=[.int ((2*e.w+7) % 8:Nat),.int (2*e.w:Nat)]) (λi σ H2=>∃o,σ=[some (.ref t),some (.ref a),some (.int e.c.1),some (.int e.c.2),some (.int e.w),o]/\Same (upd H p (.tup [.int ((2*e.w+7) % 8:Nat),.int (2*e.w:Nat)])) H2/\(1<=i->C (go e.c ((2*e.w+7) % 8))=false)/\(2<=i->C (go e.c (2*e.w))=false))
   ⟨_,rfl,Same.refl _,λh=>absurd h (by decide),λh=>absurd h (by decide)⟩ (λi σ H2 _ ⟨_,_,s2,_⟩=>s2.seqT (SqT.of zaa)) ?_ ?_
  .rintro i v σ H2 hi ⟨o,rfl,s2,n1,n2⟩;have sH:Same H H2:=(Same.up hp).trans s2
   match i,hi with
   | 0,hi =>
    cases hi
    refine⟨_,rfl,_,rfl,_,rfl,e.c,(2*e.w+7) % 8,rfl,by lia,λp1 H3 hp1 s3 f1=>?_⟩;refine⟨_,rfl,t,_,rfl,.inr ⟨kvs,kC (go e.c ((2*e.w+7) % 8)),p1,Rd.of ((sH.trans s3) _ _ ht),rfl,f1,rfl⟩,_,rfl,?_⟩;have hv:=hC (go e.c ((2*e.w+7) % 8));change (valV kvs (kC (go e.c ((2*e.w+7) % 8)))).isSome=_ at hv;rw[hv];refine ite2 (λhy=>?_) (λhn=>?_)
    .refine⟨_,rfl,?_⟩;have:=k H3 (sH.trans s3);unfold stepB at this;rw[if_pos hy]at this;exact this
    .exact⟨_,rfl,s2.trans s3,λ_=>by simpa using hn,λh=>absurd h (by decide)⟩
   | 1,hi =>
    cases hi
    refine⟨_,rfl,_,rfl,_,rfl,e.c,2*e.w,rfl,by lia,λp1 H3 hp1 s3 f1=>?_⟩;refine⟨_,rfl,t,_,rfl,.inr ⟨kvs,kC (go e.c (2*e.w)),p1,Rd.of ((sH.trans s3) _ _ ht),rfl,f1,rfl⟩,_,rfl,?_⟩;have hv:=hC (go e.c (2*e.w));change (valV kvs (kC (go e.c (2*e.w)))).isSome=_ at hv;rw[hv];have h1:=n1 (by decide);refine ite2 (λhy=>?_) (λhn=>?_)
    .refine⟨_,rfl,?_⟩;have:=k H3 (sH.trans s3);unfold stepB at this;rw[h1,if_neg (by decide),if_pos hy]at this;exact this
    .exact⟨_,rfl,s2.trans s3,λ_=>h1,λ_=>by simpa using hn⟩
   |i+2,hi=>simp at hi
  .rintro σ H2 ⟨o,rfl,s2,n1,n2⟩;have:=k H2 ((Same.up hp).trans s2);unfold stepB at this;rw[n1 (by simp),n2 (by simp),if_neg (by decide),if_neg (by decide)]at this;exact this
noncomputable def zdT(K:W.Frag):Sp:=λvs H Q _=>∃(a:Addr) (e:Edge) (o:Option Nat),vs=[.ref a,sv o]/\SqT K H a (edgeT e)/\e.w<4/\(∀s,o=some s->s<8)/\∀(p:Addr) (H':Hp),H p=none->Same H H'->H' p=some (.tup (edgeT (edgeB e o)))->Q (.ref p) H'
theorem zez (g_gone:Fn P w K mg base 1 "gone" ["x", "y", "step"] zgb) (g_is_slant:Fn P w K mg base 1 "is_slant" ["step"] zdd)
  (d:Df K mg "edge_behind" zcm ["edge","step"]):FnOk P w K mg base CX0 2 d.f d.fd ["edge","step"] (zdT K):=by
 refine d.F.ok za2 (λvs H Q E h=>?_) (λcdv A outer s H vs Q E hr h=>?_)
 .obtain⟨a,e,o,rfl,_⟩:=h;rfl
 .obtain⟨a,e,o,rfl,hq,hw,ho,k⟩:=h
  refine⟨_,(zac (zbm (pv 0) (za8 (by rfl) (zag (nG 2 za2.nd) (zag (nG 3 za2.nd) (zag (nG 4 za2.nd) zas)))))
   (zac (ps_if (zam zhK (pv 1) zbS (zan _))
   (zaf (zal (zay (pa_N (pv 2) (pa_N (pv 3) (pa_B (pe_op za9 (pe_op zaG (pv 4) zae) zae) zab))))))
   zaA)
   (zac (zbm (pC g_gone hr (pa_N (pv 2) (pa_N (pv 3) (pa_N (pv 1) zab)))) (za8 (by rfl) (zag (nG 5 za2.nd) (zag (nG 6 za2.nd) zas))))
   (zac (ps_if (zdh (pC g_is_slant hr (pa_N (pv 1) zab)))
   (zaf (zal (zay (pa_N (pv 5) (pa_N (pv 6) (pa_B (pe_op za9 (pe_op zaG (pv 4) zae) zae) zab))))))
   zaA)
   (zaf (zal (zay (pa_N (pv 5) (pa_N (pv 6) (pa_N (pv 4) zab)))))))))),?_⟩
  refine⟨_,rfl,a,_,rfl,hq,rfl,_,_,rfl,_,_,rfl,_,_,rfl,rfl,?_⟩
  cases o with
  |none =>
   refine⟨_,rfl,rfl,true,rfl,iteT ?_⟩;refine⟨_,rfl,_,rfl,_,rfl,_,_,rfl,rfl,_,_,rfl,rfl,(by show (0:Int)<4;decide),three,λp hp=>k p _ hp (Same.up hp) ?_⟩;rw[zaa];have e1:((e.w:Int)+1) % 4=(((e.w+1) % 4:Nat):Int):=by lia
   show some (HO.tup [.int e.c.1,.int e.c.2,.int (((e.w:Int)+1) % 4)])=_;rw[e1];rfl
  |some n =>
   refine⟨_,rfl,rfl,false,rfl,iteF ?_⟩;refine⟨_,rfl,_,rfl,_,rfl,e.c,n,rfl,ho n rfl,λp1 H1 hp1 s1 f1=>?_⟩;refine⟨p1,_,rfl,SqT.of f1,rfl,_,_,rfl,_,_,rfl,rfl,?_⟩;refine⟨_,rfl,some n,rfl,_,rfl,?_⟩;refine ite2 (λhs=>?_) (λhs=>?_)
   .refine⟨_,rfl,_,rfl,_,rfl,_,_,rfl,rfl,_,_,rfl,rfl,(by show (0:Int)<4;decide),three,λp hp=>k p _ (s1.free hp) (s1.trans (Same.up hp)) ?_⟩;rw[zaa];have e1:((e.w:Int)+3) % 4=(((e.w+3) % 4:Nat):Int):=by lia
    have hn:n % 2=1:=by simpa[slant]using hs
    show some (HO.tup [.int (go e.c n).1,.int (go e.c n).2,.int (((e.w:Int)+3) % 4)])=_;rw[e1];unfold edgeB;simp only[if_pos hn];rfl
   .refine⟨_,rfl,_,rfl,_,rfl,three,λp hp=>k p _ (s1.free hp) (s1.trans (Same.up hp)) ?_⟩;rw[zaa];have hn:¬ n % 2=1:=by simpa[slant]using hs
    unfold edgeB;simp only[if_neg hn];rfl
noncomputable def KT(H H':Hp):Prop:=∀b xs,H b=some (.tup xs)->H' b=some (.tup xs)
theorem KT.refl(H:Hp):KT H H:=λ_ _ h=>h
theorem KT.trans{H H1 H2:Hp}(a:KT H H1)(b:KT H1 H2):KT H H2:=λc o h=>b c o (a c o h)
theorem KT.of{H H':Hp}(s:Same H H'):KT H H':=λb xs e=>s b _ e
theorem KT.up{H:Hp}{p:Addr}{o:HO}(h:H p=none):KT H (upd H p o):=KT.of (Same.up h)
theorem KT.lst{H:Hp}{p:Addr}{xs:List V}{o:HO}(h:H p=some (.lst xs)):KT H (upd H p o):=λb ys e=>by rw[zai (ne_of e h (λz=>nomatch z))];exact e
theorem cR.kt{c:Cell}{v:V}{H H':Hp}(h:cR c v H)(s:KT H H'):cR c v H':=let ⟨b,e,q⟩:=h;⟨b,e,s _ _ q⟩
theorem eR.kt{c:Edge}{v:V}{H H':Hp}(h:eR c v H)(s:KT H H'):eR c v H':=let ⟨b,e,q⟩:=h;⟨b,e,s _ _ q⟩
theorem wR.kt{c:Edge×Option Nat}{v:V}{H H':Hp}(h:wR c v H)(s:KT H H'):wR c v H':=let ⟨A,b,e,q,r⟩:=h;⟨A,b,e,s _ _ q,s _ _ r⟩
noncomputable def VR{α:Type}(vs:List V)(l:List α)(R:α->V->Hp->Prop)(H:Hp):Prop:=vs.length=l.length/\∀(i:Nat) x v,l[i]?=some x->vs[i]?=some v->R x v H
theorem VR.nil{α:Type}{R:α->V->Hp->Prop}{H:Hp}:VR [] ([]:List α) R H:=⟨rfl,λi x v h=>by simp at h⟩
theorem VR.snoc{α:Type}{vs:List V}{l:List α}{R:α->V->Hp->Prop}{H H':Hp}{x:α}{v:V}(h:VR vs l R H)(m:∀x v,R x v H->R x v H')(hx:R x v H'):VR (vs++[v]) (l++[x]) R H':=by
 refine⟨by simp[h.1],λi y u h1 h2=>?_⟩;rcases AZ i l.length with hi |hi
 .rw[Ax hi]at h1;rw[Ax (by rw[h.1];exact hi)]at h2;exact m _ _ (h.2 i y u h1 h2)
 .rw[AK hi]at h1;rw[AK (by rw[h.1];exact hi)]at h2
  have hz:i-l.length=0:=by have:=(Ad.mp h1).1;simp at this;lia
  rw[hz]at h1;rw[h.1,hz]at h2
  cases h1;cases h2
  exact hx
theorem VR.mono{α:Type}{vs:List V}{l:List α}{R:α->V->Hp->Prop}{H H':Hp}(h:VR vs l R H)(m:∀x v,R x v H->R x v H'):VR vs l R H':=⟨h.1,λi x v h1 h2=>m _ _ (h.2 i x v h1 h2)⟩
theorem VR.at{α:Type}{vs:List V}{l:List α}{R:α->V->Hp->Prop}{H:Hp}(h:VR vs l R H){i:Nat}{v:V}(hv:vs[i]?=some v):∃x,l[i]?=some x/\R x v H:=by
 have hi:i<l.length:=by rw[<- h.1];exact (Ad.mp hv).1
 exact⟨l[i],Aa hi,h.2 i _ v (Aa hi) hv⟩
theorem zaq{H H2:Hp}{p:Addr}{o:HO}(hp:H p=none)(s:Same H H2):Same H (upd H2 p o):=λz u e=>by rw[zai (zak e hp)];exact s z u e
theorem ziq(cs:List Cell)(c:Cell):sides (cs++[c])=sides cs++(BS 4).map λw=>⟨c,w⟩:=by unfold sides;simp[List.flatMap_append]
theorem zaz{α:Type}{l:List α}{i:Nat}{x:α}(h:l[i]?=some x):l.take (i+1)=l.take i++[x]:=by rw[DB,h];rfl
theorem zeg{α:Type}(p:α->Bool)(l:List α)(x:α):(l++[x]).filter p=l.filter p++(if p x=true then [x] else []):=by rw[DX];congr 1;simp[CD]
noncomputable def zlc(K:W.Frag):Sp:=λvs H Q _=>∃(a:Addr) (cs:List Cell),vs=[.ref a]/\LR K H a cs cR/\cs.length<=120/\∀p H' es,H p=none->Same H H'->H' p=some (.lst es)->VR es (allE cs) eR H'->Q (.ref p) H'
theorem zgr (T:Txt P w K mg) (g_cell_table:Fn P w K mg base 1 "cell_table" ["picture"] (zfd K)) (g_gap_beside:Fn P w K mg base 2 "gap_beside" ["edge"] (spGap K))
  (d:Df K mg "all_edges" zbN ["picture"]):FnOk P w K mg base CX0 3 d.f d.fd ["picture"] (zlc K):=by
 refine d.F.ok zcv (λvs H Q E h=>?_) (λcdv A outer s H vs Q E hr h=>?_)
 .obtain⟨a,cs,rfl,_⟩:=h;rfl
 .obtain⟨a,cs,rfl,hLR,hlen,k⟩:=h;obtain⟨ws,hq,hn,hc⟩:=id hLR;have hu1:=hu_of hr;have nb0:(["x","y","way"]:List Str).Nodup:=by decide +kernel
  have nb1:(["edge","table"]:List Str).Nodup:=by decide +kernel
  refine⟨_,(zac (zgk (i:=1) zcv.nd (by rfl) (DH rfl) (pC g_cell_table hr (pa_N (pv 0) zab)))
   (zac (zjg (i:=2) (osc:=zad zbN) (N:=zda) (N':=["x","y","way"]) (sel:=[none,none,none]) bO zcv.nd (by rfl) (Or.inl rfl) (zaB (pv 0)) (λ_ _ _ _ _=>(zcD (K:=K) (n:=2) (by rfl) (zag (nG 0 nb0) (zag (nG 1 nb0) zas)))) (λ_ _ _ _ _=>zbQ) (λ_ _ _ _ _=>(zbR (by rfl) T.nrange (pa_C zae zab))) (λ_ _ _ _ _=>(nG 2 nb0)) (λ_ _ _ _ _=>zbQ) (λ_ _ _ _ _=>(zay (pa_N (pv 0) (pa_N (pv 1) (pa_N (pv 2) zab))))) (λ_ _ _=>rfl))
   (zaf (zal (za6 (osc:=zad zbN) (N:=zda) (N':=["edge","table"]) (sel:=[none,some 1]) bO (zaB (pv 2)) (λ_ _ _ _ _=>(nG 0 nb1)) (λ_ _ _ _ _=>zbP (zhE (zgn hu1 (pC g_gap_beside hr (pa_N (pv 0) zab)) (pv 1)))) (λ_ _ _ _ _=>(pv 0))))))),?_⟩
  refine⟨_,rfl,a,cs,rfl,hLR,by lia,λt H1 ht s1 tab=>?_⟩;obtain⟨kvs,et,hC⟩:=tab;refine⟨_,rfl,a,rfl,⟨_,s1.seq hq⟩,λp hp=>?_⟩
  refine zar (K:=K) (a:=a) (xs:=ws) (λi σ H2=>∃o1 o2 o3,σ=[o1,o2,o3]/\Same H1 H2/\∃es,H2 p=some (.lst es)/\VR es (sides (cs.take i)) eR H2)
   ⟨_,_,_,rfl,Same.up hp,[],zaa,VR.nil⟩ (λi σ H2 _ ⟨_,_,_,_,s2,_⟩=>(s1.trans s2).seq hq) ?_ ?_
  .rintro i v σ H2 hi ⟨o1,o2,o3,rfl,s2,es,e2,hv⟩;have hil:i<ws.length:=(Ad.mp hi).1;have ci:cs[i]?=some cs[i]:=Aa (by lia)
   obtain⟨b,rfl,qb⟩:=hc i _ _ ci hi;refine⟨b,_,rfl,SqT.of ((s1.trans s2) _ _ qb),rfl,_,_,rfl,_,_,rfl,rfl,?_⟩;refine zcf ?_
   refine⟨4,rfl,by decide,by decide,?_⟩
   refine zbC (lo:=0) (n:=4) (λj σ H3=>∃o,σ=[some (.int cs[i].1),some (.int cs[i].2),o]/\Same H1 H3/\∃es,H3 p=some (.lst es)/\VR es (sides (cs.take i)++(BS j).map λw=>⟨cs[i],w⟩) eR H3)
    ⟨_,rfl,s2,es,e2,by simpa using hv⟩ ?_ ?_
   .rintro j σ H3 hj ⟨o,rfl,s3,es3,e3,hv3⟩
    have hl3:es3.length<=1000:=by rw[hv3.1,Ak,zaX,AQ,Ao,List.length_range];lia
    refine gN ?_
    refine⟨_,rfl,_,rfl,_,rfl,three,λq hq'=>⟨es3,?_,zaj hl3,_,rfl,zaq hp (s3.trans (Same.up hq')),_,zaa,?_⟩⟩
    .rw[zai (zak e3 hq')];exact e3
    .rw[List.range_succ,A6,<- AL];have hpq:p≠q:=zak e3 hq';have k2:KT (upd H3 q (.tup [.int cs[i].1,.int cs[i].2,.int (0+(j:Int))])) (upd (upd H3 q (.tup [.int cs[i].1,.int cs[i].2,.int (0+(j:Int))])) p (.lst (es3++[.ref q]))):=KT.lst (xs:=es3) (by rw[zai hpq];exact e3);refine hv3.snoc (λx v hx=>hx.kt ((KT.up hq').trans k2)) ⟨q,rfl,k2 _ _ ?_⟩;rw[zaa];show some (HO.tup [.int cs[i].1,.int cs[i].2,.int (0+(j:Int))])=some (HO.tup [.int cs[i].1,.int cs[i].2,.int (j:Int)]);rw[Int.zero_add]
   .rintro σ H3 ⟨o,rfl,s3,es3,e3,hv3⟩;exact⟨_,_,_,rfl,s3,es3,e3,by rw[zaz ci,ziq];exact hv3⟩
  .rintro σ H2 ⟨o1,o2,o3,rfl,s2,es,e2,hv⟩;rw[hn,AN]at hv;have hles:es.length<=1000:=by rw[hv.1,zaX];lia
   refine⟨_,rfl,p,rfl,⟨_,SqL.of e2⟩,λp2 hp2=>?_⟩
   refine zar (K:=K) (a:=p) (xs:=es) (λi σ H3=>∃o,σ=[o,some (.ref t)]/\Same H2 H3/\∃es3,H3 p2=some (.lst es3)/\VR es3 (((sides cs).take i).filter λe=>!isIn cs (gap e)) eR H3)
    ⟨_,rfl,Same.up hp2,[],zaa,VR.nil⟩ (λi σ H3 _ ⟨_,_,s3,_⟩=>s3.seq (SqL.of e2)) ?_ ?_
   .rintro i v σ H3 hi ⟨o,rfl,s3,es3,e3,hv3⟩;obtain⟨e,he,b,rfl,qb⟩:=hv.at hi;have hw4:e.w<4:=(zbW.mp (Aj he)).2
    have hl3:es3.length<=1000:=by have h1:=AI (λe=>!isIn cs (gap e)) ((sides cs).take i);rw[hv3.1];rw[AQ,zaX]at h1;lia
    refine⟨_,rfl,b,e,rfl,SqT.of (s3 _ _ qb),hw4,λp3 H4 hp3 s4 f4=>?_⟩;refine⟨_,rfl,t,_,rfl,.inr ⟨kvs,kC (gap e),p3,Rd.of ((s2.trans (s3.trans s4)) _ _ et),rfl,f4,rfl⟩,_,rfl,?_⟩;have hcv:=hC (gap e);change (valV kvs (kC (gap e))).isSome=_ at hcv;rw[hcv,zaz he,zeg];refine ite2 (λhy=>?_) (λhn'=>?_)
    .refine⟨_,rfl,es3,s4 _ _ e3,zaj hl3,_,rfl,zaq hp2 (s3.trans s4),_,zaa,?_⟩;rw[if_pos hy];have k2:KT H4 (upd H4 p2 (.lst (es3++[.ref b]))):=KT.lst (s4 _ _ e3);exact hv3.snoc (λx v hx=>hx.kt ((KT.of s4).trans k2)) ⟨b,rfl,k2 _ _ ((s3.trans s4) _ _ qb)⟩
    .refine⟨_,rfl,s3.trans s4,es3,s4 _ _ e3,?_⟩;rw[if_neg hn',Bf];exact hv3.mono λx v hx=>hx.kt (KT.of s4)
   .rintro σ H3 ⟨o,rfl,s3,es3,e3,hv3⟩;rw[hv.1,AN]at hv3;exact k p2 H3 es3 (s1.free (s2.free hp2)) (s1.trans (s2.trans s3)) e3 hv3
noncomputable def eI(e:Edge):List Int:=[e.c.1,e.c.2,(e.w:Int)]
theorem zh8{e f:Edge}:eI e=eI f ↔ e=f:=by
 constructor
 .intro h;obtain⟨⟨x,y⟩,w⟩:=e;obtain⟨⟨x',y'⟩,w'⟩:=f;unfold eI at h;injection h with h1 h2;injection h2 with h2 h3;injection h3 with h3 _;simp only at h1 h2 h3;have:w=w':=by lia
  subst h1 h2 this;rfl
 .rintro rfl;rfl
theorem zcC{K:W.Frag}{H:Hp}{b:Addr}{e:Edge}(h:H b=some (.tup (edgeT e))):RD K H (.ref b) (tI (eI e)):=.tup (SqT.of h) (RDs.ints (eI e))
theorem zcL{C:Cell->Bool}{e:Edge}(hw:e.w<4):∀s,stepB C e=some s->s<8:=by
 intro s h;unfold stepB at h;split at h
 .cases h;lia
 .split at h
  .cases h;lia
  .cases h
noncomputable def wk(C:Cell->Bool)(es:List Edge):List (Edge×Option Nat):=es.map λe=>(e,stepB C e)
theorem zlz(C:Cell->Bool)(es:List Edge)(e:Edge):wk C (es++[e])=wk C es++[(e,stepB C e)]:=by unfold wk;simp
theorem zby(C:Cell->Bool)(es:List Edge):(wk C es).length=es.length:=by unfold wk;simp
noncomputable def zjz:Option HO->Nat
 |some (.lst ws)=>ws.length
 |_=>0
noncomputable def zk7(K:W.Frag):Sp:=λvs H Q _=>∃(t a:Addr) (cs:List Cell) (b:Edge),vs=[.ref t,.ref a]/\Tab H t (isIn cs)/\H a=some (.tup (edgeT b))/\IsE (isIn cs) b/\cs.length<=120 /\
 ∀p H' ws es,H p=none->Same H H'->H' p=some (.lst ws)->VR ws (wk (isIn cs) es) wR H'->Closed (isIn cs) b es->Q (.ref p) H'
theorem zgo (g_step_behind:Fn P w K mg base 2 "step_behind" ["table", "edge"] (ziY K)) (g_edge_behind:Fn P w K mg base 2 "edge_behind" ["edge", "step"] (zdT K))
  (d:Df K mg "walk_from" zcZ ["table","begin"]):FnOk P w K mg base CX0 3 d.f d.fd ["table","begin"] (zk7 K):=by
 refine d.F.ok zbl (λvs H Q E h=>?_) (λcdv A outer s H vs Q E hr h=>?_)
 .obtain⟨t,a,cs,b,rfl,_⟩:=h;rfl
 .obtain⟨t,a,cs,b,rfl,tab,ha,hb,hlen,k⟩:=h;have hu64:=hr.units
  refine⟨_,(zac (sE 2 zbl.nd (pC g_step_behind hr (pa_N (pv 0) (pa_N (pv 1) zab))))
   (zac (sE 3 zbl.nd (zaZ (pa_T (zay (pa_N (pv 1) (pa_N (pv 2) zab))) zab)))
   (zac (sE 4 zbl.nd (pC g_edge_behind hr (pa_N (pv 1) (pa_N (pv 2) zab))))
   (zac (zhF Bg (zam (zd6 hu64) (pv 4) (pv 1) (zan _))
   (zac (sE 2 zbl.nd (pC g_step_behind hr (pa_N (pv 0) (pa_N (pv 4) zab))))
   (zac (zbq (pe_bm AY Ba Bb za0 (pv 3) (pa_T (zay (pa_N (pv 4) (pa_N (pv 2) zab))) zab)))
   (zaf (sE 4 zbl.nd (pC g_edge_behind hr (pa_N (pv 4) (pa_N (pv 2) zab))))))))
   (zaf (zal (pv 3))))))),?_⟩
  refine⟨_,rfl,_,rfl,t,a,isIn cs,b,rfl,tab,SqT.of ha,hb.1,λH1 s1=>?_⟩;refine⟨_,rfl,_,rfl,two,λq hq=>⟨(by show 1<=sizeLine;decide),λp hp=>?_⟩⟩;have hpq:p≠q:=λz=>by subst z;rw[zaa]at hp;cases hp
  have hp1:H1 p=none:=by rw[zai hpq]at hp;exact hp
  have s2:Same H1 (upd (upd H1 q (.tup [.ref a,sv (stepB (isIn cs) b)])) p (.lst [.ref q])):=zaq hp1 (Same.up hq);refine⟨_,rfl,_,rfl,a,b,stepB (isIn cs) b,rfl,SqT.of (s2 _ _ (s1 _ _ ha)),hb.1,zcL hb.1,λr H3 hr3 s3 f3=>?_⟩;have s03:Same H H3:=s1.trans (s2.trans s3);have hp0:H p=none:=s1.free hp1
  refine zkg (λσ H4=>∃ws es l o re,σ=[some (.ref t),some (.ref a),some o,some (.ref p),some (.ref re)]/\Same H H4/\H4 p=some (.lst ws)/\VR ws (wk (isIn cs) (es++[l])) wR H4/\Chain (isIn cs) b (es++[l])/\H4 re=some (.tup (edgeT (nxt (isIn cs) l))))
   (λ_ H4=>4*cs.length+1-zjz (H4 p)) ?_ ?_ ?_
  .refine⟨[.ref q],[],b,_,r,rfl,s03,s3 _ _ zaa,⟨rfl,λi x v h1 h2=>?_⟩,Chain.start hb,f3⟩
   match i,h1,h2 with
   | 0,h1,h2 =>
    cases h1;cases h2
    refine⟨q,a,rfl,s3 _ _ ?_,s03 _ _ ha⟩;rw[zai (BW hpq),zaa]
   |i+1,h1,h2=>simp at h2
  .rintro σ H4 ⟨ws,es,l,o,re,rfl,s4,e4,hv,hch,er⟩;have hw4:(nxt (isIn cs) l).w<4:=(zdB (hch.2.2.1 l (by simp))).1;refine⟨_,rfl,_,rfl,_,_,zcC er,zcC (s4 _ _ ha),zaC _,zaC _,_,rfl,?_⟩;rw[zcG]
   by_cases hne:nxt (isIn cs) l=b
   .rw[decide_eq_true (zh8.mpr hne)];refine iteF ?_
    refine⟨_,rfl,k p H4 ws (es++[l]) hp0 s4 e4 hv ⟨hch,l,?_,hne⟩⟩;simp
   .rw[decide_eq_false (λz=>hne (zh8.mp z))];refine iteT ?_
    have hch2:=hch.more hne;have hsh:=hch2.short;have hl4:ws.length=(es++[l]).length:=by rw[hv.1,zby]
    have hl5:ws.length+1<=4*cs.length:=by rw[hl4];rw[Ak,BO]at hsh;exact hsh
    refine⟨_,rfl,_,rfl,t,re,isIn cs,nxt (isIn cs) l,rfl,tab.same s4,SqT.of er,hw4,λH5 s5=>?_⟩;refine⟨_,rfl,.inl ⟨rfl,_,SqL.of (s5 _ _ e4)⟩,_,rfl,_,rfl,two,λq5 hq5=>?_⟩;have e5:=s5 _ _ e4;have hp5:p≠q5:=zak e5 hq5;refine⟨p,ws,_,rfl,rfl,(by rw[zai hp5];exact e5),zaj (by lia),?_⟩;have k5:KT H5 (upd (upd H5 q5 (.tup [.ref re,sv (stepB (isIn cs) (nxt (isIn cs) l))])) p (.lst (ws++[.ref q5]))):=(KT.up hq5).trans (KT.lst (xs:=ws) (by rw[zai hp5];exact e5));have e6:upd (upd H5 q5 (.tup [.ref re,sv (stepB (isIn cs) (nxt (isIn cs) l))])) p (.lst (ws++[.ref q5])) re=some (.tup (edgeT (nxt (isIn cs) l))):=k5 _ _ (s5 _ _ er);have s6:Same H (upd (upd H5 q5 (.tup [.ref re,sv (stepB (isIn cs) (nxt (isIn cs) l))])) p (.lst (ws++[.ref q5]))):=zaq hp0 ((s4.trans s5).trans (Same.up hq5));refine⟨_,rfl,_,rfl,re,nxt (isIn cs) l,_,rfl,SqT.of e6,hw4,zcL hw4,λr7 H7 hr7 s7 f7=>?_⟩;have e7:=s7 _ _ zaa;refine⟨⟨ws++[.ref q5],es++[l],nxt (isIn cs) l,_,r7,rfl,s6.trans s7,e7,?_,hch2,f7⟩,?_⟩
    .rw[zlz];refine hv.snoc (λx v hx=>hx.kt ((KT.of s5).trans (k5.trans (KT.of s7)))) ⟨q5,re,rfl,s7 _ _ ?_,s7 _ _ e6⟩;rw[zai (BW hp5),zaa]
    .show 4*cs.length+1-zjz (H7 p)<4*cs.length+1-zjz (H4 p);rw[e7,e4];show 4*cs.length+1-(ws++[V.ref q5]).length<4*cs.length+1-ws.length;rw[Ak,BO];lia
  .rintro σ H4 Q1 Q2 hQ ⟨v,h1,v2,h2,dd,ee,r1,r2,x1,x2,kk,h3,q⟩;exact⟨v,h1,v2,h2,dd,ee,r1,r2,x1,x2,kk,h3,hQ _ _ q⟩
noncomputable abbrev Wk:=List (Edge×Option Nat)
noncomputable def nL(W:Wk):Nat:=(W.filter λq=>q.2.isNone).length
noncomputable def nS(W:Wk):Nat:=(W.filter λq=>slant q.2).length
theorem zk6(o:Option Nat):decide (sv o=V.non)=o.isNone:=by cases o <;> simp[sv]
theorem zc5{α:Type}{p:α->Bool}{l:List α}{i:Nat}{x:α}(h:l[i]?=some x):((l.take (i+1)).filter p)=(l.take i).filter p++(if p x=true then [x] else []):=by rw[zaz h,zeg]
theorem LR.vr{α:Type}{K:W.Frag}{H:Hp}{a:Addr}{l:List α}{R:α->V->Hp->Prop}(h:LR K H a l R):∃vs,SqL K H a vs/\VR vs l R H:=let ⟨vs,q,n,r⟩:=h;⟨vs,q,n,r⟩
theorem LR.of{α:Type}{K:W.Frag}{H:Hp}{a:Addr}{vs:List V}{l:List α}{R:α->V->Hp->Prop}(e:H a=some (.lst vs))(h:VR vs l R H):LR K H a l R:=⟨vs,SqL.of e,h.1,h.2⟩
noncomputable def zi2(K:W.Frag):Sp:=λvs H Q _=>∃(a:Addr) (W:Wk),vs=[.ref a]/\LR K H a W wR/\W.length<=500/\∀p H',H p=none->Same H H'->H' p=some (.tup [.int (nL W),.int (nS W)])->Q (.ref p) H'
theorem zc4 (T:Txt P w K mg) (g_is_slant:Fn P w K mg base 1 "is_slant" ["step"] zdd) (d:Df K mg "lefts_and_slants" zaO ["walk"]):FnOk P w K mg base CX0 2 d.f d.fd ["walk"] (zi2 K):=by
 refine d.F.ok zbi (λvs H Q E h=>?_) (λcdv A outer s H vs Q E hr h=>?_)
 .obtain⟨a,W,rfl,_⟩:=h;rfl
 .obtain⟨a,W,rfl,hLR,hlen,k⟩:=h;obtain⟨ws,hq,hv⟩:=hLR.vr;have nb0:(["edge","step"]:List Str).Nodup:=by decide +kernel
  have nb1:(["edge","step"]:List Str).Nodup:=by decide +kernel
  refine⟨_,(zac (sE 1 zbi.nd (zaT zba (by rfl) T.nlen (by rfl) (zah (za6 (osc:=zad zaO) (N:=zbs) (N':=["edge","step"]) (sel:=[none,none]) bO (zaB (pv 0)) (λ_ _ _ _ _=>(zcD (K:=K) (n:=2) (by rfl) (zag (nG 0 nb0) (zag (nG 1 nb0) zas)))) (λ_ _ _ _ _=>zbP (zam zhK (pv 1) zbS (zan _))) (λ_ _ _ _ _=>(pv 1))) zab)))
   (zac (sE 2 zbi.nd (zaT zba (by rfl) T.nlen (by rfl) (zah (za6 (osc:=zad zaO) (N:=zbs) (N':=["edge","step"]) (sel:=[none,none]) bO (zaB (pv 0)) (λ_ _ _ _ _=>(zcD (K:=K) (n:=2) (by rfl) (zag (nG 0 nb1) (zag (nG 1 nb1) zas)))) (λ_ _ _ _ _=>zbP (zdh (pC g_is_slant hr (pa_N (pv 1) zab)))) (λ_ _ _ _ _=>(pv 1))) zab)))
   (zaf (zal (zay (pa_N (pv 1) (pa_N (pv 2) zab))))))),?_⟩
  refine⟨_,rfl,a,rfl,⟨_,hq⟩,λp hp=>?_⟩
  refine zar (K:=K) (a:=a) (xs:=ws) (λi σ H2=>∃o1 o2,σ=[o1,o2]/\Same H H2/\∃ss:List V,H2 p=some (.lst ss)/\ss.length=((W.take i).filter λq=>q.2.isNone).length)
   ⟨_,_,rfl,Same.up hp,[],zaa,rfl⟩ (λi σ H2 _ ⟨_,_,_,s2,_⟩=>s2.seq hq) ?_ ?_
  .rintro i v σ H2 hi ⟨o1,o2,rfl,s2,ss,e2,hl⟩;obtain⟨⟨e,st⟩,he,B,b,rfl,q1,q2⟩:=hv.at hi
   have hl2:ss.length<=1000:=by have:=AI (λq:Edge×Option Nat=>q.2.isNone) (W.take i);rw[AQ]at this;lia
   refine⟨B,_,rfl,SqT.of (s2 _ _ q1),rfl,_,_,rfl,_,_,rfl,rfl,?_⟩;refine⟨_,rfl,rfl,_,rfl,?_⟩;rw[zk6];rw[zc5 he]at *;refine ite2 (λhy=>?_) (λhn=>?_)
   .refine⟨_,rfl,ss,e2,zaj hl2,_,_,rfl,zaq hp s2,_,zaa,?_⟩;rw[if_pos hy,Ak,Ak,hl];rfl
   .exact⟨_,_,rfl,s2,ss,e2,by rw[if_neg hn,Bf];exact hl⟩
  .rintro σ H2 ⟨o1,o2,rfl,s2,ss,e2,hl⟩;refine⟨p,_,rfl,.inl (SqL.of e2),?_⟩;refine⟨_,rfl,a,rfl,⟨_,s2.seq hq⟩,λp2 hp2=>?_⟩
   refine zar (K:=K) (a:=a) (xs:=ws) (λi σ H3=>∃o1 o2,σ=[o1,o2]/\Same H2 H3/\∃s3:List V,H3 p2=some (.lst s3)/\s3.length=((W.take i).filter λq=>slant q.2).length)
    ⟨_,_,rfl,Same.up hp2,[],zaa,rfl⟩ (λi σ H3 _ ⟨_,_,_,s3,_⟩=>(s2.trans s3).seq hq) ?_ ?_
   .rintro i v σ H3 hi ⟨o1,o2,rfl,s3,ss3,e3,hl3⟩;obtain⟨⟨e,st⟩,he,B,b,rfl,q1,q2⟩:=hv.at hi
    have hl2:ss3.length<=1000:=by have:=AI (λq:Edge×Option Nat=>slant q.2) (W.take i);rw[AQ]at this;lia
    refine⟨B,_,rfl,SqT.of ((s2.trans s3) _ _ q1),rfl,_,_,rfl,_,_,rfl,rfl,?_⟩;refine⟨_,rfl,st,rfl,_,rfl,?_⟩;rw[zc5 he]at *;refine ite2 (λhy=>?_) (λhn=>?_)
    .refine⟨_,rfl,ss3,e3,zaj hl2,_,_,rfl,zaq hp2 s3,_,zaa,?_⟩;rw[if_pos hy,Ak,Ak,hl3];rfl
    .exact⟨_,_,rfl,s3,ss3,e3,by rw[if_neg hn,Bf];exact hl3⟩
   .rintro σ H3 ⟨o1,o2,rfl,s3,ss3,e3,hl3⟩;refine⟨p2,_,rfl,.inl (SqL.of e3),?_⟩;refine⟨_,rfl,_,rfl,two,λp4 hp4=>k p4 _ (s2.free (s3.free hp4)) ((s2.trans s3).trans (Same.up hp4)) ?_⟩;rw[hv.1,AN]at hl hl3;rw[zaa,hl,hl3];rfl
noncomputable def zi1(K:W.Frag):Sp:=λvs H Q _=>∃(a:Addr) (W:Wk),vs=[.ref a]/\LR K H a W wR/\W.length<=500/\∀H',Same H H'->Q (.int ((nL W:Int)-nS W)) H'
theorem zcT (g_lefts_and_slants:Fn P w K mg base 2 "lefts_and_slants" ["walk"] (zi2 K)) (d:Df K mg "lefts_less_slants" zbj ["walk"]):FnOk P w K mg base CX0 3 d.f d.fd ["walk"] (zi1 K):=by
 refine d.F.ok zbb (λvs H Q E h=>?_) (λcdv A outer s H vs Q E hr h=>?_)
 .obtain⟨a,W,rfl,_⟩:=h;rfl
 .obtain⟨a,W,rfl,hLR,hlen,k⟩:=h
  refine⟨_,(zac (zbm (pC g_lefts_and_slants hr (pa_N (pv 0) zab)) (za8 (by rfl) (zag (nG 1 zbb.nd) (zag (nG 2 zbb.nd) zas))))
   (zaf (zal (pe_op zbn (pv 1) (pv 2))))),?_⟩
  refine⟨_,rfl,a,W,rfl,hLR,hlen,λp H1 hp s1 f1=>?_⟩;refine⟨p,_,rfl,SqT.of f1,rfl,_,_,rfl,_,_,rfl,rfl,?_⟩;exact⟨_,rfl,_,rfl,_,_,rfl,rfl,k H1 s1⟩
noncomputable def sortS (W:Wk):Str:=if nS W<nL W then "rim" else "hole"
noncomputable def zk9(K:W.Frag):Sp:=λvs H Q _=>∃(a:Addr) (W:Wk),vs=[.ref a]/\LR K H a W wR/\W.length<=500/\∀H',Same H H'->Q (.str (sortS W)) H'
theorem ziy (g_lefts_less_slants:Fn P w K mg base 3 "lefts_less_slants" ["walk"] (zi1 K)) (d:Df K mg "sort_of" zd2 ["walk"]):FnOk P w K mg base CX0 4 d.f d.fd ["walk"] (zk9 K):=by
 refine d.F.ok zis (λvs H Q E h=>?_) (λcdv A outer s H vs Q E hr h=>?_)
 .obtain⟨a,W,rfl,_⟩:=h;rfl
 .obtain⟨a,W,rfl,hLR,hlen,k⟩:=h;refine⟨_,(zaf (zal (zdM (zam op_gt (pC g_lefts_less_slants hr (pa_N (pv 0) zab)) zae (zan _)) zgm zgm))),?_⟩;refine⟨_,rfl,a,W,rfl,hLR,hlen,λH1 s1=>?_⟩;refine⟨_,_,rfl,rfl,_,rfl,?_⟩;have h1:=k H1 s1;unfold sortS at h1
  by_cases hlt:nS W<nL W
  .rw[if_pos hlt]at h1;exact iteY (decide_eq_true (by lia)) h1
  .rw[if_neg hlt]at h1;exact iteN (decide_eq_false (by lia)) h1
noncomputable def kOf (s:Str):Nat:=if s = "rim" then 0 else 2
noncomputable def zct(W:Wk)(s:Str)(e:Edge):Prop:=e∈W.map (·.1)/\e.w=kOf s/\∀f∈W.map (·.1),f.w=kOf s->HT.lexLt [f.c.2,f.c.1] [e.c.2,e.c.1]=false
noncomputable def zgU (K:W.Frag):Sp:=λvs H Q _=>∃(a:Addr) (W:Wk) (s:Str),vs=[.ref a,.str s]/\(s = "rim" ∨ s = "hole")/\LR K H a W wR/\W.length<=500/\(∃e∈W.map (·.1),e.w=kOf s) /\
 ∀b e H',Same H H'->H' b=some (.tup (edgeT e))->zct W s e->Q (.ref b) H'
theorem zg8 (T:Txt P w K mg) (g_cell_order:Fn P w K mg base 1 "cell_order" ["cell"] (zgS K)) (d:Df K mg "begin_of" zcN ["walk","sort"]):FnOk P w K mg base CX0 3 d.f d.fd ["walk","sort"] (zgU K):=by
  refine d.F.ok zgY (λvs H Q E h=>?_) (λcdv A outer s H vs Q E hr h=>?_)
  . obtain⟨a,W,s,rfl,_⟩:=h;rfl
  . obtain⟨a,W,so,rfl,hso,hLR,hlen,hex,k⟩:=h;obtain⟨ws,hq,hv⟩:=hLR.vr;have nb0:(["edge","step","sort"]:List Str).Nodup:=by decide +kernel
    refine⟨_,(zaf (zal (zlP g_cell_order.ok (hr.mono (by decide)) g_cell_order.b (by rfl) T.nmin (by rfl) g_cell_order.m (za6 (osc:=zad zcN) (N:=ze8) (N':=["edge","step","sort"]) (sel:=[none,none,some 1]) bO (zaB (pv 0)) (λ_ _ _ _ _=>(zcD (K:=K) (n:=2) (by rfl) (zag (nG 0 nb0) (zag (nG 1 nb0) zas)))) (λ_ _ _ _ _=>zbP (zam op_eq (pe_ix (zl7 (K:=K)) (pv 0) zae (λ_ _=>rfl)) (zjm (by rfl) T.ways (pv 2)) (zan _))) (λ_ _ _ _ _=>(pv 0)))))),?_⟩;refine⟨_,rfl,a,rfl,⟨_,hq⟩,λp hp=>?_⟩
    refine zar (K:=K) (a:=a) (xs:=ws) (λi σ H2=>∃o1 o2,σ=[o1,o2,some (.str so)]/\Same H H2/\∃es:List V,H2 p=some (.lst es)/\VR es (((W.take i).filter λq=>q.1.w == kOf so).map (·.1)) eR H2)
      ⟨_,_,rfl,Same.up hp,[],zaa,VR.nil⟩ (λi σ H2 _ ⟨_,_,_,s2,_⟩=>s2.seq hq) ?_ ?_
    . rintro i v σ H2 hi ⟨o1,o2,rfl,s2,es,e2,hl⟩;obtain⟨⟨e,st⟩,he,B,b,rfl,q1,q2⟩:=hv.at hi
      have hl2:es.length<=1000:=by have:=AI (λq:Edge×Option Nat=>q.1.w == kOf so) (W.take i);rw[hl.1,Ao];rw[AQ]at this;lia
      have fin:∀kk:Int, kk=(kOf so:Int) -> (if decide (V.int (e.w:Int)=V.int kk)=true then zca p (tVar 0) { nx := λσ H2 => ∃o1 o2, σ = [o1, o2, some (V.str so)] /\ Same H H2 /\ ∃es, H2 p=some (.lst es) /\ VR es (List.map (λx => x.fst) (List.filter (λq => q.1.w == kOf so) (List.take (i + 1) W))) eR H2, rt := λ_ _ => False } [some (.ref b), some (sv st), some (.str so)] H2
          else (∃o1 o2,[some (.ref b),some (sv st),some (V.str so)]=[o1,o2,some (V.str so)]/\Same H H2/\∃es,H2 p=some (.lst es)/\VR es (List.map (λx=>x.fst) (List.filter (λq=>q.1.w == kOf so) (List.take (i+1) W))) eR H2)):=λkk hk=>by
        have hd:decide (V.int (e.w:Int)=V.int kk)=(e.w == kOf so):=by
          subst hk
          by_cases q:e.w=kOf so
          . rw[q];simp
          . rw[decide_eq_false (λz=>q (by injection z with z;lia))];simp[q]
        rw[hd,zc5 he];refine ite2 (λhy=>?_) (λhn=>?_)
        . refine⟨_,rfl,es,e2,zaj hl2,_,_,rfl,zaq hp s2,_,zaa,?_⟩;rw[if_pos hy,A6];have k2:KT H2 (upd H2 p (.lst (es++[.ref b]))):=KT.lst e2;exact hl.snoc (λx v hx=>hx.kt k2) ⟨b,rfl,k2 _ _ (s2 _ _ q2)⟩
        . exact⟨_,_,rfl,s2,es,e2,by rw[if_neg hn,Bf];exact hl⟩
      refine⟨B,_,rfl,SqT.of (s2 _ _ q1),rfl,_,_,rfl,_,_,rfl,rfl,?_⟩;rcases hso with z |z
      . have f0:=fin 0 (by rw[z];rfl);exact⟨_,rfl,b,_,_,_,rfl,rfl,SqT.of (s2 _ _ q2),zaw (j:=2) rfl,_,rfl,.inl ⟨by rw[z],rfl,_,rfl,f0⟩⟩
      . have f2:=fin 2 (by rw[z];rfl);exact⟨_,rfl,b,_,_,_,rfl,rfl,SqT.of (s2 _ _ q2),zaw (j:=2) rfl,_,rfl,.inr ⟨by rw[z],rfl,_,rfl,f2⟩⟩
    . rintro σ H2 ⟨o1,o2,rfl,s2,es,e2,hl⟩;rw[hv.1,AN]at hl;obtain⟨L,hL⟩:∃L,L=((W.filter λq=>q.1.w == kOf so).map (·.1)):=⟨_,rfl⟩;rw[<- hL]at hl
      have memL:∀f,f∈L ↔ f∈W.map (·.1)/\f.w=kOf so:=λf=>by
        rw[hL];constructor
        . intro h;obtain⟨q,hq1,rfl⟩:=AS.mp h;obtain⟨h1,h2⟩:=Br.mp hq1;exact⟨AS.mpr ⟨q,h1,rfl⟩,by simpa using h2⟩
        . rintro⟨h1,h2⟩;obtain⟨q,hq1,rfl⟩:=AS.mp h1;exact AS.mpr ⟨q,List.mem_filter.mpr ⟨hq1,by simpa using h2⟩,rfl⟩
      have hpos:0<es.length:=by obtain⟨f,h1,h2⟩:=hex;rw[hl.1];exact List.length_pos_of_mem ((memL f).mpr ⟨h1,h2⟩)
      have kap:∀(i:Nat) e,L[i]?=some e->(λi=>(L[i]?.map λe:Edge=>[e.c.2,e.c.1]).getD []) i=[e.c.2,e.c.1]:=λi e h=>by simp only[h];rfl
      refine⟨p,es,λi=>(L[i]?.map λe:Edge=>[e.c.2,e.c.1]).getD [],rfl,SqL.of e2,hpos,λi x H3 hx s3=>?_,λi x H3 hx hle s3=>?_⟩
      . obtain⟨e,he,b,rfl,q⟩:=hl.at hx;refine⟨b,e.c.1,e.c.2,_,rfl,SqT.of (s3 _ _ q),λp4 H4 hp4 s4 f4=>⟨s4,p4,rfl,SqT.of ?_⟩⟩;rw[kap i e he];exact f4
      . obtain⟨e,he,b,rfl,q⟩:=hl.at hx;have hm:=(memL e).mp (Aj he);refine k b e H3 (s2.trans s3) (s3 _ _ q) ⟨hm.1,hm.2,λf h1 h2=>?_⟩;obtain⟨j,hj,ej⟩:=Az ((memL f).mpr ⟨h1,h2⟩);have hj':L[j]?=some f:=by rw[Aa hj,ej]
        have:=(hle j (by rw[hl.1];exact hj)).1;rw[kap j f hj',kap i e he]at this;exact this
theorem zjc(n d j:Nat):HT.sIx n d (some (j:Int))=min j n:=by show (if (j:Int)<0 then ((j:Int)+(n:Int)).toNat else min (j:Int).toNat n)=min j n;rw[if_neg (by lia),CW]
theorem zkY(xs:List V){j:Nat}(h:j<=xs.length):cutV xs (some (j:Int)) none=xs.drop j:=by unfold cutV;rw[zjc,Nat.min_eq_left h];exact Dc (by rw[List.length_drop];exact Am _)
theorem zmZ(xs:List V){j:Nat}(h:j<=xs.length):cutV xs none (some (j:Int))=xs.take j:=by unfold cutV;rw[zjc,Nat.min_eq_left h];rfl
theorem VR.rot{α:Type}{vs:List V}{l:List α}{R:α->V->Hp->Prop}{H:Hp}(h:VR vs l R H)(j:Nat):VR (vs.drop j++vs.take j) (l.drop j++l.take j) R H:=by
 refine⟨by simp[h.1],λi x v h1 h2=>?_⟩;have hd:(vs.drop j).length=(l.drop j).length:=by simp[h.1]
 rcases AZ i (l.drop j).length with hi |hi
 .rw[Ax hi,DW]at h1;rw[Ax (by lia),DW]at h2;exact h.2 _ x v h1 h2
 .rw[AK hi]at h1;rw[AK (by lia),hd]at h2;rw[List.getElem?_take]at h1 h2;split at h1
  .rw[if_pos (by assumption)]at h2;exact h.2 _ x v h1 h2
  .cases h1
theorem zh3{α:Type} [DecidableEq α]{x:α}:∀{l:List α},x∈l->∃j:Nat,l[j]?=some x/\∀(m:Nat) y,m<j->l[m]?=some y->y≠x
 |[],h=>by cases h
 |a::l,h=>by
  by_cases e:a=x
  .exact⟨0,by rw[e];rfl,λm y hm=>absurd hm (Nat.not_lt_zero _)⟩
  .obtain⟨j,h1,h2⟩:=zh3 ((AM.mp h).resolve_left (BW e));refine⟨j+1,by simpa using h1,λm y hm hy=>?_⟩
   match m,hm,hy with
   | 0,_,hy=>cases hy;exact e
   |m+1,hm,hy=>exact h2 m y (by lia) (by simpa using hy)
theorem zgj{K:W.Frag}{H:Hp}:∀{vs:List V}{l:List Edge},VR vs l eR H->RDs K H vs (l.map λe=>tI (eI e))
 |[],[],_=>.nil
 |[],_::_,h=>by have:=h.1;cases this
 |_::_,[],h=>by have:=h.1;cases this
 |v::vs,e::l,h=>by
  obtain⟨b,rfl,q⟩:=h.2 0 e v rfl rfl;exact .cons (zcC q) (zgj ⟨by simpa using h.1,λi x u h1 h2=>h.2 (i+1) x u (by simpa using h1) (by simpa using h2)⟩)
structure Rnd where
 so:Str
 x:Int
 y:Int
 row:List Nat
 deriving DecidableEq
noncomputable def rowV(row:List Nat):List V:=row.map λn:Nat=>V.int (n:Int)
noncomputable def rR(r:Rnd)(v:V)(H:Hp):Prop:=∃a b,v=.ref a/\H a=some (.tup [.str r.so,.int r.x,.int r.y,.ref b])/\H b=some (.tup (rowV r.row))
theorem rR.kt{r:Rnd}{v:V}{H H':Hp}(h:rR r v H)(s:KT H H'):rR r v H':=let ⟨a,b,e,q1,q2⟩:=h;⟨a,b,e,s _ _ q1,s _ _ q2⟩
noncomputable def IsRnd(W:Wk)(r:Rnd):Prop:=r.so=sortS W/\∃(j:Nat) (e:Edge),(W.map (·.1))[j]?=some e/\zct W (sortS W) e/\r.x=e.c.1/\r.y=e.c.2/\r.row=(W.drop j++W.take j).filterMap (·.2)
theorem zde (W:Wk):sortS W = "rim" ∨ sortS W = "hole":=by unfold sortS;split <;> simp
noncomputable def zf9(K:W.Frag):Sp:=λvs H Q _=>∃(a:Addr) (W:Wk),vs=[.ref a]/\LR K H a W wR/\W.length<=500/\(∃e∈W.map (·.1),e.w=0)/\(∃e∈W.map (·.1),e.w=2) /\
 ∀v H' r,Same H H'->rR r v H'->IsRnd W r->Q v H'
theorem zg3 (T:Txt P w K mg) (g_sort_of:Fn P w K mg base 4 "sort_of" ["walk"] (zk9 K)) (g_begin_of:Fn P w K mg base 3 "begin_of" ["walk", "sort"] (zgU K))
  (d:Df K mg "round_of" zbJ ["walk"]):FnOk P w K mg base CX0 5 d.f d.fd ["walk"] (zf9 K):=by
 refine d.F.ok zbL (λvs H Q E h=>?_) (λcdv A outer s H vs Q E hr h=>?_)
 .obtain⟨a,W,rfl,_⟩:=h;rfl
 .obtain⟨a,W,rfl,hLR,hlen,h0,h2,k⟩:=h;obtain⟨ws,hq,hv⟩:=hLR.vr;have hun:=hr.un;have hu65:(A.deeper (DJ (BD "round_of") (zad zbJ) s.heap.objs.size d.f cdv)).units+65<cLine:=by lia
  have nb0:(["edge","step"]:List Str).Nodup:=by decide +kernel
  have nb1:(["edge","step"]:List Str).Nodup:=by decide +kernel
  refine⟨_,(zac (sE 1 zbL.nd (pC g_sort_of hr (pa_N (pv 0) zab)))
   (zac (sE 2 zbL.nd (pC g_begin_of hr (pa_N (pv 0) (pa_N (pv 1) zab))))
   (zac (sE 3 zbL.nd (pe_bm AY PySem.F.slot_list_index PySem.F.type_list_index (zjw hu65) (za6 (osc:=zad zbJ) (N:=zdx) (N':=["edge","step"]) (sel:=[none,none]) bO (zaB (pv 0)) (λ_ _ _ _ _=>(zcD (K:=K) (n:=2) (by rfl) (zag (nG 0 nb0) (zag (nG 1 nb0) zas)))) (λ_ _ _ _ _=>zbQ) (λ_ _ _ _ _=>(pv 0))) (pa_N (pv 2) zab)))
   (zac (sE 4 zbL.nd (zbT zfS (by rfl) T.ntuple (by rfl) (zah (za6 (osc:=zad zbJ) (N:=zdx) (N':=["edge","step"]) (sel:=[none,none]) bO (zaB (pe_op zhM (zdL zi7 (pv 0) (zfo (pv 3)) zfp) (zdL zi7 (pv 0) zfp (zfo (pv 3))))) (λ_ _ _ _ _=>(zcD (K:=K) (n:=2) (by rfl) (zag (nG 0 nb1) (zag (nG 1 nb1) zas)))) (λ_ _ _ _ _=>zbP (zam zfr (pv 1) zbS (zan _))) (λ_ _ _ _ _=>(pv 1))) zab)))
   (zaf (zal (zay (pa_N (pv 1) (zah (pe_ix zb0 (pv 2) zae (λ_ _=>rfl)) (zah (pe_ix zb0 (pv 2) zae (λ_ _=>rfl)) (pa_N (pv 4) zab))))))))))),?_⟩
  refine⟨_,rfl,a,W,rfl,hLR,hlen,λH1 s1=>?_⟩
  have hex:∃e∈W.map (·.1),e.w=kOf (sortS W):=by
   rcases zde W with z |z <;> rw[z]
   .exact h0
   .exact h2
  refine⟨_,rfl,_,rfl,a,W,sortS W,rfl,zde W,hLR.same s1 (λx v hx=>hx.same s1),hlen,hex,λb e H2 s2 hb hbg=>?_⟩;have s12:=s1.trans s2;refine⟨_,rfl,a,rfl,⟨_,s12.seq hq⟩,λp hp=>?_⟩
  refine zar (K:=K) (a:=a) (xs:=ws) (λi σ H3=>∃o1 o2,σ=[o1,o2]/\Same H2 H3/\∃es:List V,H3 p=some (.lst es)/\VR es ((W.take i).map (·.1)) eR H3)
   ⟨_,_,rfl,Same.up hp,[],zaa,VR.nil⟩ (λi σ H3 _ ⟨_,_,_,s3,_⟩=>(s12.trans s3).seq hq) ?_ ?_
  .rintro i v σ H3 hi ⟨o1,o2,rfl,s3,es,e3,hl⟩;obtain⟨⟨f,st⟩,he,B,bb,rfl,q1,q2⟩:=hv.at hi;have hl2:es.length<=1000:=by rw[hl.1,Ao,AQ];lia
   refine⟨B,_,rfl,SqT.of ((s12.trans s3) _ _ q1),rfl,_,_,rfl,_,_,rfl,rfl,?_⟩;refine zcf ?_
   refine⟨_,rfl,es,e3,zaj hl2,_,_,rfl,zaq hp s3,_,zaa,?_⟩;rw[zaz he,A6];have k2:KT H3 (upd H3 p (.lst (es++[.ref bb]))):=KT.lst e3;exact hl.snoc (λx v hx=>hx.kt k2) ⟨bb,rfl,k2 _ _ ((s12.trans s3) _ _ q2)⟩
  .rintro σ H3 ⟨o1,o2,rfl,s3,es,e3,hl⟩;rw[hv.1,AN]at hl;obtain⟨j,hj,hjm⟩:=zh3 hbg.1;have hjl:j<W.length:=by have:=(Ad.mp hj).1;simpa using this
   have s13:=s12.trans s3;refine⟨.inl ⟨rfl,_,SqL.of e3⟩,_,rfl,p,es,_,_,_,j,_,rfl,rfl,SqL.of e3,zcC (s3 _ _ hb),zgj hl,zaC _,(λz hz=>by obtain⟨f,_,rfl⟩:=AS.mp hz;exact zaC _),(by rw[AC,hj];rfl),(by rw[zcG];exact decide_eq_true rfl),(λm z hm hz=>?_),?_⟩
   .rw[AC]at hz;obtain⟨f,hf,rfl⟩:=Ca.mp hz;rw[zcG];exact decide_eq_false (λq=>hjm m f hm hf (zh8.mp q))
   have hwl:j<=ws.length:=by rw[hv.1];lia
   refine⟨_,rfl,_,rfl,_,rfl,a,ws,rfl,s13.seq hq,λp4 hp4=>?_⟩;rw[zkY ws hwl];have s4:=Same.up (o:=.lst (ws.drop j)) hp4;refine⟨_,rfl,_,rfl,_,rfl,a,ws,rfl,(s13.trans s4).seq hq,λp5 hp5=>?_⟩;rw[zmZ ws hwl];have s5:=Same.up (o:=.lst (ws.take j)) hp5;refine⟨p4,p5,_,_,rfl,rfl,s5 _ _ zaa,zaa,BJ (zaj (by simp[hv.1];lia)),λp6 hp6=>?_⟩;have s6:=Same.up (o:=.lst (ws.drop j++ws.take j)) hp6;have s16:=s13.trans (s4.trans (s5.trans s6));have e6:upd (upd (upd H3 p4 (.lst (ws.drop j))) p5 (.lst (ws.take j))) p6 (.lst (ws.drop j++ws.take j)) p6=some (.lst (ws.drop j++ws.take j)):=zaa;have b6:=(s4.trans (s5.trans s6)) _ _ (s3 _ _ hb);generalize upd (upd (upd H3 p4 (.lst (ws.drop j))) p5 (.lst (ws.take j))) p6 (.lst (ws.drop j++ws.take j))=H6 at s16 e6 b6 ⊢;have hv6:=hv.rot j;have hWl:(W.drop j++W.take j).length<=500:=by simp;lia
   generalize hW6:W.drop j++W.take j=W6 at hv6 hWl;generalize ws.drop j++ws.take j=ws6 at hv6 e6;refine⟨p6,rfl,⟨_,SqL.of e6⟩,λp7 hp7=>?_⟩
   refine zar (K:=K) (a:=p6) (xs:=ws6) (λi σ H7=>∃o1 o2,σ=[o1,o2]/\Same H6 H7/\H7 p7=some (.lst (rowV ((W6.take i).filterMap (·.2)))))
    ⟨_,_,rfl,Same.up hp7,zaa⟩ (λi σ H7 _ ⟨_,_,_,s7,_⟩=>s7.seq (SqL.of e6)) ?_ ?_
   .rintro i v σ H7 hi ⟨o1,o2,rfl,s7,e7⟩;obtain⟨⟨f,st⟩,he,B,bb,rfl,q1,q2⟩:=hv6.at hi
    have hl2:(rowV ((W6.take i).filterMap (·.2))).length<=1000:=by unfold rowV;rw[Ao];have:=DO (λq:Edge×Option Nat=>q.2) (W6.take i);rw[AQ]at this;lia
    refine⟨B,_,rfl,SqT.of ((s16.trans s7) _ _ q1),rfl,_,_,rfl,_,_,rfl,rfl,?_⟩;refine⟨_,rfl,rfl,_,rfl,?_⟩;rw[zk6,zaz he,List.filterMap_append]
    cases st with
    |none=>exact iteF ⟨_,_,rfl,s7,by simpa using e7⟩
    |some n =>
     refine iteT ⟨_,rfl,_,e7,zaj hl2,_,_,rfl,zaq hp7 s7,?_⟩;rw[zaa];simp[rowV,sv]
   .rintro σ H7 ⟨o1,o2,rfl,s7,e7⟩;rw[hv6.1,AN]at e7;refine⟨p7,_,rfl,.inl ⟨SqL.of e7,λp8 hp8=>?_⟩⟩;have s8:=Same.up (o:=.tup (rowV (W6.filterMap (·.2)))) hp8;have b8:=s8 _ _ (s7 _ _ b6);refine⟨_,rfl,_,rfl,b,_,_,_,rfl,rfl,SqT.of b8,zaw (j:=0) rfl,_,rfl,b,_,_,_,rfl,rfl,SqT.of b8,zaw (j:=1) rfl,_,rfl,(by show 4<=sizeLine;decide),λp9 hp9=>?_⟩;refine k _ _ ⟨sortS W,e.c.1,e.c.2,W6.filterMap (·.2)⟩ ((s16.trans (s7.trans s8)).trans (Same.up hp9)) ⟨p9,p8,rfl,zaa,Same.up hp9 _ _ zaa⟩ ⟨rfl,j,e,hj,hbg,rfl,rfl,?_⟩;rw[<- hW6]
noncomputable def keyV (r:Rnd):List V:=[.int r.y,.int r.x,.bl (decide (V.str r.so=V.str "hole"))]
noncomputable def zdy(K:W.Frag):Sp:=λvs H Q _=>∃(v:V) (r:Rnd),vs=[v]/\rR r v H/\∀p H',H p=none->Same H H'->H' p=some (.tup (keyV r))->Q (.ref p) H'
theorem zes (d:Df K mg "round_order" zcj ["one"]):FnOk P w K mg base CX0 1 d.f d.fd ["one"] (zdy K):=by
 refine d.F.ok zbe (λvs H Q E h=>?_) (λcdv A outer s H vs Q E hr h=>?_)
 .obtain⟨v,r,rfl,_⟩:=h;rfl
 .obtain⟨v,r,rfl,⟨a,b,rfl,q1,q2⟩,k⟩:=h
  refine⟨_,(zac (zbm (pv 0) (za8 (by rfl) (zag (nG 1 zbe.nd) (zag (nG 2 zbe.nd) (zag (nG 3 zbe.nd) (zag (nG 4 zbe.nd) zas))))))
   (zaf (zal (zay (pa_N (pv 3) (pa_N (pv 2) (zah (zbc op_eq (pv 1) zgm (zan _)) zab))))))),?_⟩
  refine⟨_,rfl,a,_,rfl,SqT.of q1,rfl,_,_,rfl,_,_,rfl,_,_,rfl,_,_,rfl,rfl,?_⟩;refine⟨_,rfl,_,rfl,_,rfl,rfl,three,λp hp=>k p _ hp (Same.up hp) zaa⟩
theorem VR.cons{α:Type}{v:V}{vs:List V}{x:α}{l:List α}{R:α->V->Hp->Prop}{H:Hp}:VR (v::vs) (x::l) R H ↔ R x v H/\VR vs l R H:=by
 constructor
 .intro h;exact⟨h.2 0 x v rfl rfl,by simpa using h.1,λi y u h1 h2=>h.2 (i+1) y u (by simpa using h1) (by simpa using h2)⟩
 .rintro⟨h1,h2⟩;refine⟨by simp[h2.1],λi y u e1 e2=>?_⟩
  match i,e1,e2 with
  | 0,e1,e2=>cases e1;cases e2;exact h1
  |i+1,e1,e2=>exact h2.2 i y u (by simpa using e1) (by simpa using e2)
noncomputable def kE(e:Edge):List Key:=[C5 e.c.1,C5 e.c.2,C5 (e.w:Int)]
theorem zhX{e f:Edge}:kE e=kE f ↔ e=f:=by
 constructor
 .intro h;refine zh8.mp ?_
  unfold kE at h;injection h with h1 h2;injection h2 with h2 h3;injection h3 with h3 _;unfold eI;rw[Dq h1,Dq h2,Dq h3]
 .rintro rfl;rfl
theorem _root_.RP.Closed.back{C:Cell->Bool}{b x:Edge}{es:List Edge}(h:Closed C b es)(hx:IsE C x)(hm:nxt C x∈es):x∈es:=by
 obtain⟨⟨h0,hs,hE,hnd⟩,l,hl,hb⟩:=h;obtain⟨i,hi,ei⟩:=Az hm;have hlm:l∈es:=Aj hl;rcases Nat.eq_zero_or_pos i with rfl |hp
 .rw[Aa hi,ei]at h0;have e:=AX h0;rw[<- hb]at e;rw[zg9 hx (hE l hlm) e];exact hlm
 .have hi':i-1<es.length:=by lia
  have e1:=hs (i-1) es[i-1] (nxt C x) (Aa hi') (by rw[show i-1+1=i by lia,Aa hi,ei]);rw[zg9 hx (hE _ (Bi hi')) e1];exact Bi hi'
theorem _root_.RP.Closed.apart{C:Cell->Bool}{b:Edge}{es done:List Edge}(h:Closed C b es)(hd:∀x,IsE C x->nxt C x∈done->x∈done)(hb:b ∉ done):∀e∈es,e ∉ done:=by
 obtain⟨⟨h0,hs,hE,hnd⟩,_⟩:=h
 have key:∀(i:Nat) e,es[i]?=some e->e ∉ done:=by
  intro i
  induction i with
  |zero=>intro e he;rw[he]at h0;cases h0;exact hb
  |succ i ih =>
   intro e he hm;have hi:i+1<es.length:=(Ad.mp he).1;have h1:es[i]?=some es[i]:=Aa (by lia)
   have hn:=hs i _ e h1 he;rw[hn]at hm;exact ih _ h1 (hd _ (hE _ (Bi _)) hm)
 intro e he;obtain⟨i,hi,ei⟩:=Az he;exact key i e (by rw[Aa hi,ei])
structure Part (C:Cell->Bool) (ESS:List (List Edge)) (R:List Rnd):Prop where
 len:R.length=ESS.length
 each:∀(i:Nat) es r,ESS[i]?=some es->R[i]?=some r->(∃b,Closed C b es)/\IsRnd (wk C es) r
 nd:ESS.flatten.Nodup
theorem Part.closed{C:Cell->Bool}{ESS:List (List Edge)}{R:List Rnd}(h:Part C ESS R):∀es∈ESS,∃b,Closed C b es:=λes he=>by
 obtain⟨i,hi,ei⟩:=Az he;have hr:i<R.length:=by rw[h.len];exact hi
 exact (h.each i es R[i] (by rw[Aa hi,ei]) (Aa hr)).1
theorem Part.isE{C:Cell->Bool}{ESS:List (List Edge)}{R:List Rnd}(h:Part C ESS R):∀e∈ESS.flatten,IsE C e:=λe he=>by obtain⟨es,h1,h2⟩:=DF.mp he;obtain⟨b,hc⟩:=h.closed es h1;exact hc.1.2.2.1 e h2
theorem Part.back{C:Cell->Bool}{ESS:List (List Edge)}{R:List Rnd}(h:Part C ESS R):∀x,IsE C x->nxt C x∈ESS.flatten->x∈ESS.flatten:=λx hx hm=>by obtain⟨es,h1,h2⟩:=DF.mp hm;obtain⟨b,hc⟩:=h.closed es h1;exact List.mem_flatten.mpr ⟨es,h1,hc.back hx h2⟩
theorem Part.nil{C:Cell->Bool}:Part C [] []:=⟨rfl,λi es r h=>by simp at h,by simp⟩
theorem Part.snoc{C:Cell->Bool}{ESS:List (List Edge)}{R:List Rnd}{b:Edge}{es:List Edge}{r:Rnd}(h:Part C ESS R)(hc:Closed C b es)(hr:IsRnd (wk C es) r)(hb:b ∉ ESS.flatten):Part C (ESS++[es]) (R++[r]):=by
 refine⟨by simp[h.len],λi fs q h1 h2=>?_,?_⟩
 .rcases AZ i ESS.length with hi |hi
  .rw[Ax hi]at h1;rw[Ax (by rw[h.len];exact hi)]at h2;exact h.each i fs q h1 h2
  .rw[AK hi]at h1;rw[AK (by rw[h.len];exact hi)]at h2
   have hz:i-ESS.length=0:=by have:=(Ad.mp h1).1;simp at this;lia
   rw[hz]at h1;rw[h.len,hz]at h2
   cases h1;cases h2
   exact⟨⟨b,hc⟩,hr⟩
 .have ap:=hc.apart h.back hb;rw[Cb,Do];refine⟨h.nd,by simpa using hc.1.2.2.2,λx hx y hy e=>?_⟩;subst e;exact ap x (by simpa using hy) hx
theorem zhV{p:Edge->Bool}:∀(ESS:List (List Edge)),(∀es∈ESS,∃e∈es,p e=true)->ESS.length<=(ESS.flatten.filter p).length
 |[],_=>A9 _
 |es::r,h=>by
  have ih:=zhV r λes he=>h es (Ap _ he)
  obtain⟨e,he,hp⟩:=h es An;rw[By,DX,Ak,A5];have:0<(es.filter p).length:=List.length_pos_of_mem (List.mem_filter.mpr ⟨he,hp⟩);lia
theorem Part.few{cs:List Cell}{ESS:List (List Edge)}{R:List Rnd}(h:Part (isIn cs) ESS R):R.length<=cs.length:=by
 rw[h.len];refine AW (zhV (p:=λe=>e.w == 0) ESS λes he=>?_) ?_
 .obtain⟨b,hc⟩:=h.closed es he;obtain⟨e,h1,h2⟩:=hc.has (k:=0) (.inl rfl);exact⟨e,h1,by simpa using h2⟩
 .rw[<- Ao (f:=λc:Cell=>(⟨c,0⟩:Edge)) (as:=cs)];refine zav (List.Pairwise.filter _ h.nd) λe he=>?_
  obtain⟨h1,h2⟩:=Br.mp he;have hE:=h.isE e h1;refine AS.mpr ⟨e.c,of_decide_eq_true hE.2.1,?_⟩;obtain⟨c,w⟩:=e;simp only at h2 ⊢;have:w=0:=by simpa using h2
  rw[this]
theorem Part.small{cs:List Cell}{ESS:List (List Edge)}{R:List Rnd}(h:Part (isIn cs) ESS R):ESS.flatten.length<=4*cs.length:=by rw[<- zaX];exact zav h.nd λe he=>zbW.mpr ⟨of_decide_eq_true (h.isE e he).2.1,(h.isE e he).1⟩
noncomputable def keyI (r:Rnd):List Int:=[r.y,r.x,PyProof.Rows.b2i (decide (V.str r.so=V.str "hole"))]
noncomputable def Whole(cs:List Cell)(R:List Rnd):Prop:=∃ESS,Part (isIn cs) ESS R/\∀e,e∈ESS.flatten ↔ IsE (isIn cs) e
noncomputable def zhv(K:W.Frag):Sp:=λvs H Q _=>∃(a:Addr) (cs:List Cell),vs=[.ref a]/\LR K H a cs cR/\InOrd cs/\cs.length<=120 /\
 ∀p H' rs R R0,H p=none->Same H H'->H' p=some (.lst rs)->VR rs R rR H'->R.Perm R0->R.Pairwise (λr q=>HT.lexLt (keyI q) (keyI r)=false)->Whole cs R0->Q (.ref p) H'
noncomputable def Along(cs:List Cell)(L:List Edge)(R:List Rnd):Prop:=∃ESS,Part (isIn cs) ESS R/\(∀e∈L,e∈ESS.flatten)/\∀es∈ESS,∃b∈L,Closed (isIn cs) b es
noncomputable def zcg(K:W.Frag):Sp:=λvs H Q _=>∃(t pe:Addr) (cs:List Cell) (es:List V) (L:List Edge),vs=[.ref t,.ref pe]/\Tab H t (isIn cs)/\H pe=some (.lst es)/\VR es L eR H/\(∀e∈L,IsE (isIn cs) e)/\cs.length<=120 /\
 ∀p H' rs R R0,H p=none->Same H H'->H' p=some (.lst rs)->VR rs R rR H'->R.Perm R0->R.Pairwise (λr q=>HT.lexLt (keyI q) (keyI r)=false)->Along cs L R0->Q (.ref p) H'
theorem zd8(T:Txt P w K mg)
    (g_walk_from:Fn P w K mg base 3 "walk_from" ["table","begin"] (zk7 K)) (g_round_of:Fn P w K mg base 5 "round_of" ["walk"] (zf9 K)) (g_round_order:Fn P w K mg base 1 "round_order" ["one"] (zdy K))
    (d:Df K mg "rounds_along" zb4 ["table","edges"]):FnOk P w K mg base CX0 6 d.f d.fd ["table","edges"] (zcg K):=by
  refine d.F.ok zaL (λvs H Q E h=>?_) (λcdv A outer s H2 vs Q E hr h=>?_)
  . obtain⟨t,pe,cs,es,L,rfl,_⟩:=h;rfl
  . obtain⟨t,pe,cs,es,L,rfl,tab,epe,hvpe,hLE,hlen,k⟩:=h;have hu1:=hu_of hr
    refine⟨_,(zac (sE 2 zaL.nd zhJ)
      (zac (sE 3 zaL.nd (zaZ zab))
      (zac (zbG Bg rfl (zaB (pv 1)) (nG 4 zaL.nd)
      (zaf (ps_if (zhE (zgn hu1 (pv 4) (pv 2)))
      (zac (sE 5 zaL.nd (pC g_walk_from hr (pa_N (pv 0) (pa_N (pv 4) zab))))
      (zac (zbG Bg rfl (zaB (pv 5)) (za8 (by rfl) (zag (nG 6 zaL.nd) (zag (nG 7 zaL.nd) zas)))
      (zaf (zjf hu1 (pv 2) (pv 6) pe_bl rfl)))
      (zaf (zbq (pe_bm AY Ba Bb za0 (pv 3) (zah (pC g_round_of hr (pa_N (pv 5) zab)) zab))))))
      zaA)))
      (zaf (zal (zkw g_round_order.ok (hr.mono (by decide)) g_round_order.b (by rfl) T.nsorted (by rfl) g_round_order.m (pv 3))))))),?_⟩
    refine λdd hdd=>⟨(by show 0<=sizeLine;decide),λp hp=>?_⟩
    have hpd:p≠dd:=λz=>by subst z;rw[zaa]at hp;cases hp
    have s4:Same H2 (upd (upd H2 dd (.dT [])) p (.lst [])):=(Same.up hdd).trans (Same.up hp);have d4:upd (upd H2 dd (.dT [])) p (.lst []) dd=some (.dT []):=by rw[zai (BW hpd),zaa]
    have p4:upd (upd H2 dd (.dT [])) p (.lst []) p=some (.lst []):=zaa;have n2:H2 dd=none:=hdd;have n2p:H2 p=none:=by rw[zai hpd]at hp;exact hp
    generalize upd (upd H2 dd (.dT [])) p (.lst [])=H5 at s4 d4 p4;have s15:Same H2 H5:=s4;have e5:=s4 _ _ epe;have hv5:=hvpe.mono λx v hx=>hx.same s4
    refine⟨_,rfl,pe,rfl,⟨_,SqL.of e5⟩,?_⟩;have hped:pe≠dd:=zak epe n2;have hpep:pe≠p:=zak epe n2p
    refine zar (K := K) (a := pe) (xs := es) (λi σ H6 => ∃o4 o5 o6 o7, σ = [some (.ref t), some (.ref pe), some (.ref dd), some (.ref p), o4, o5, o6, o7] /\ Same H2 H6 /\ H6 pe=some (.lst es) /\ KT H5 H6 /\
        ∃kvs rs ESS R,H6 dd=some (.dT kvs)/\H6 p=some (.lst rs)/\VR rs R rR H6/\Part (isIn cs) ESS R/\(∀e,(valV kvs (kE e)).isSome=decide (e∈ESS.flatten))/\kvs.length<=ESS.flatten.length/\(∀e∈L.take i,e∈ESS.flatten)/\∀es∈ESS,∃b∈L,Closed (isIn cs) b es)
      ⟨_,_,_,_,rfl,s15,e5,KT.refl _,[],[],[],[],d4,p4,VR.nil,Part.nil,(λe=>by simp[valV]),Am _,(λe he=>by simp at he),(λe he=>by simp at he)⟩ (λi σ H6 _ ⟨_,_,_,_,_,_,e6,_⟩=>SqL.of e6) ?_ ?_
    . rintro i v σ H6 hi ⟨o4,o5,o6,o7,rfl,s6,e6,kt6,kvs,rs,ESS,R,d6,p6,hR,hP,hkv,hkl,hall,hbe⟩;obtain⟨e,he,b,rfl,qb⟩:=hv5.at hi;have hE:IsE (isIn cs) e:=hLE e (Aj he);have qb6:=kt6 _ _ qb;refine⟨_,rfl,_,rfl,dd,_,rfl,.inr ⟨kvs,kE e,b,Rd.of d6,rfl,qb6,rfl⟩,_,rfl,?_⟩;rw[hkv]
      by_cases hin:e∈ESS.flatten
      . rw[decide_eq_true hin];refine iteF ⟨_,_,_,_,rfl,s6,e6,kt6,kvs,rs,ESS,R,d6,p6,hR,hP,hkv,hkl,λf hf=>?_,hbe⟩;rcases (zbB he).mp hf with z |z
        . exact hall f z
        . rw[z];exact hin
      . rw[decide_eq_false hin];refine iteT ?_
        have tab6:=tab.same s6;refine⟨_,rfl,_,rfl,t,b,cs,e,rfl,tab6,qb6,hE,by lia,λpw H7 ws fs hpw s7 e7 hv7 hcl=>?_⟩;have hfs:fs.length<=4*cs.length:=hcl.1.short;have hap:=hcl.apart hP.back hin;have d7:=s7 _ _ d6;have hdw:dd≠pw:=λz=>by subst z;rw[d6]at hpw;cases hpw
        have hws:ws.length=fs.length:=by rw[hv7.1,zby]
        refine⟨_,rfl,pw,rfl,⟨_,SqL.of e7⟩,?_⟩
        refine zar (K := K) (a := pw) (xs := ws) (λj σ H8 => ∃o6 o7, σ = [some (.ref t), some (.ref pe), some (.ref dd), some (.ref p), some (.ref b), some (.ref pw), o6, o7] /\ (∀z o, z ≠ dd -> H7 z=some o -> H8 z=some o) /\
            ∃kv8,H8 dd=some (.dT kv8)/\(∀f,(valV kv8 (kE f)).isSome=decide (f∈ESS.flatten∨f∈fs.take j))/\kv8.length<=ESS.flatten.length+j)
          ⟨_,_,rfl,(λz o _ h=>h),kvs,d7,(λf=>by rw[hkv];simp),by lia⟩ (λj σ H8 _ ⟨_,_,_,k8,_⟩=>SqL.of (k8 _ _ (BW hdw) e7)) ?_ ?_
        . rintro j u σ H8 hj ⟨o6,o7,rfl,k8,kv8,d8,hk8,hl8⟩;obtain⟨⟨f,st⟩,hf,B,bb,rfl,q1,q2⟩:=hv7.at hj
          have hf':fs[j]?=some f:=by
            unfold wk at hf;rw[AC]at hf;obtain⟨g,hg,eg⟩:=Ca.mp hf
            cases eg
            exact hg
          have nB:B≠dd:=ne_of q1 d7 (λz=>nomatch z);have nb:bb≠dd:=ne_of q2 d7 (λz=>nomatch z);refine⟨B,_,rfl,SqT.of (k8 _ _ nB q1),rfl,_,_,rfl,_,_,rfl,rfl,?_⟩;have hjl:j<fs.length:=by rw[<- hws];exact (Ad.mp hj).1
          have hsm:=hP.small;refine⟨_,rfl,_,rfl,dd,_,rfl,.inr ⟨kv8,kE f,bb,d8,rfl,k8 _ _ nb q2,zaj (by lia),rfl⟩,?_⟩;refine⟨_,_,rfl,(λz o hz h=>by rw[zai hz];exact k8 z o hz h),_,zaa,(λg=>?_),AW (zaR _ _ _) (by lia)⟩;rw[zcI]
          by_cases eg:g=f
          . rw[if_pos (zhX.mpr eg),decide_eq_true (.inr ((zbB hf').mpr (.inr eg)))];rfl
          . rw[if_neg (λz=>eg (zhX.mp z)),hk8];refine decide_eq_decide.mpr ⟨λz=>z.imp id λq=>(zbB hf').mpr (.inl q),λz=>z.imp id λq=>((zbB hf').mp q).resolve_right eg⟩
        . rintro σ H8 ⟨o6,o7,rfl,k8,kv8,d8,hk8,hl8⟩;rw[hws,AN]at hk8;have hdp:p≠dd:=hpd;have p8:=k8 _ _ hdp (s7 _ _ p6);have kt8:KT H7 H8:=λz xs h=>k8 z _ (ne_of h d7 (λq=>nomatch q)) h
          have w8:H8 pw=some (.lst ws):=k8 _ _ (BW hdw) e7;have hrl:rs.length<=120:=by rw[hR.1];exact AW hP.few hlen
          have hh:∀kk,kk=0∨kk=2->∃x∈(wk (isIn cs) fs).map (·.1),x.w=kk:=λkk hkk=>by obtain⟨x,h1,h2⟩:=hcl.has hkk;exact⟨x,by unfold wk;rw[List.map_map];simpa using h1,h2⟩
          refine⟨_,rfl,.inl ⟨rfl,_,SqL.of p8⟩,_,rfl,pw,wk (isIn cs) fs,rfl,LR.of w8 (hv7.mono λx v hx=>hx.kt kt8),(by rw[zby];lia),hh 0 (.inl rfl),hh 2 (.inr rfl),λvr H9 r s9 hr9 hrn=>?_⟩;have p9:=s9 _ _ p8;refine⟨p,rs,_,rfl,rfl,p9,zaj (by lia),?_⟩;have kt9:KT H9 (upd H9 p (.lst (rs++[vr]))):=KT.lst p9;have ktA:KT H6 (upd H9 p (.lst (rs++[vr]))):=(KT.of s7).trans (kt8.trans ((KT.of s9).trans kt9));refine⟨_,_,_,_,rfl,(λz o h=>?_),?_,kt6.trans ktA,kv8,rs++[vr],ESS++[fs],R++[r],?_,zaa,hR.snoc (λx v hx=>hx.kt ktA) (hr9.kt kt9),hP.snoc hcl hrn hin,(λf=>?_),?_,(λf hf=>?_),(λfs' hfs'=>?_)⟩
          . rw[zai (zak h n2p)];exact s9 _ _ (k8 _ _ (zak h n2) (s7 _ _ (s6 _ _ h)))
          . rw[zai hpep];exact s9 _ _ (k8 _ _ hped (s7 _ _ e6))
          . rw[zai (BW hpd)];exact s9 _ _ d8
          . rw[hk8];refine decide_eq_decide.mpr ?_
            rw[Cb,List.mem_append];simp
          . rw[Cb,Ak,show [fs].flatten=fs by simp];lia
          . rw[Cb,List.mem_append];rcases (zbB he).mp hf with z |z
            . exact .inl (hall f z)
            . rw[z];refine .inr ?_
              have:=hcl.1.1;simpa using Aj this
          . rcases AH.mp hfs' with z |z
            . exact hbe fs' z
            . rw[Ah.mp z];exact⟨e,Aj he,hcl⟩
    . rintro σ H6 ⟨o4,o5,o6,o7,rfl,s6,e6,kt6,kvs,rs,ESS,R,d6,p6,hR,hP,hkv,hkl,hall,hbe⟩;rw[hv5.1,AN]at hall;have hrl:rs.length<=120:=by rw[hR.1];exact AW hP.few hlen
      have ge:∀(i:Nat) r,R[i]?=some r->R.getD i ⟨"",0,0,[]⟩=r:=λi r h=>by simp only[Bk,h,Option.getD_some]
      refine⟨_,rfl,p,rs,λi=>keyV (R.getD i ⟨"",0,0,[]⟩),λi=>keyI (R.getD i ⟨"",0,0,[]⟩),rfl,SqL.of p6,by lia,λi x H7 hx s7=>?_,
        λi j hi hj=>⟨_,_,_,_,_,_,rfl,rfl,.cons (.int _ _) (.cons (.bl _ _) .nil),rfl,rfl⟩,λpp D H7 hpm hpo hD s7 f7=>?_⟩
      . obtain⟨r,hr',hx'⟩:=hR.at hx;refine⟨x,r,rfl,hx'.kt (KT.of s7),λq H8 hq s8 f8=>⟨s8,q,rfl,SqT.of ?_⟩⟩;show H8 q=some (HO.tup (keyV (R.getD i ⟨"",0,0,[]⟩)));rw[ge i r hr'];exact f8
      . have hpl:pp.length=R.length:=by rw[hpm.length_eq,List.length_range,hR.1]
        have hlt:∀i∈pp,i<R.length:=λi hi=>by have:=List.mem_range.mp (hpm.mem_iff.mp hi);rw[hR.1]at this;exact this
        have hRR:(pp.map λi=>R.getD i ⟨"",0,0,[]⟩).Perm R:=by
          have h1:=hpm.map λi=>R.getD i (⟨"",0,0,[]⟩:Rnd)
          rw[hR.1]at h1
          have h2:((BS R.length).map λi=>R.getD i (⟨"",0,0,[]⟩:Rnd))=R:=by
            apply List.ext_getElem
            . simp
            . intro i a b;simp[show i<R.length by simpa using a]
          rw[h2]at h1;exact h1
        have vR:VR (pp.map λi=>rs.getD i V.non) (pp.map λi=>R.getD i ⟨"",0,0,[]⟩) rR H7:=by
          refine⟨by simp,λi r v h1 h2=>?_⟩;rw[AC]at h1 h2;obtain⟨a,ha,rfl⟩:=Ca.mp h1;rw[ha]at h2
          cases h2
          have hal:=hlt a (Aj ha);have hal2:a<rs.length:=by rw[hR.1];exact hal
          have e1:R.getD a ⟨"",0,0,[]⟩=R[a]:=by simp[hal]
          have e2:rs.getD a V.non=rs[a]:=by simp[hal2]
          rw[e1];show rR R[a] (rs.getD a V.non) H7;rw[e2];exact (hR.2 a _ _ (Aa hal) (Aa hal2)).kt (KT.of s7)
        refine k D H7 _ _ R (s6.free hD) (s6.trans s7) f7 vR hRR ?_ ⟨ESS,hP,hall,hbe⟩
        rw[List.pairwise_map];exact hpo
theorem zjt (T:Txt P w K mg) (g_ask_picture:Fn P w K mg base 2 "ask_picture" ["picture"] (spAsk K)) (g_cell_table:Fn P w K mg base 1 "cell_table" ["picture"] (zfd K)) (g_all_edges:Fn P w K mg base 3 "all_edges" ["picture"] (zlc K))
  (g_rounds_along:Fn P w K mg base 6 "rounds_along" ["table","edges"] (zcg K))
  (d:Df K mg "rounds" zfl ["picture"]):FnOk P w K mg base CX0 7 d.f d.fd ["picture"] (zhv K):=by
 refine d.F.ok zja (λvs H Q E h=>?_) (λcdv A outer s H vs Q E hr h=>?_)
 .obtain⟨a,cs,rfl,_⟩:=h;rfl
 .obtain⟨a,cs,rfl,hLR,hord,hlen,k⟩:=h;have hu1:=hu_of hr
  refine⟨_,(zac (zbq (pC g_ask_picture hr (pa_N (pv 0) zab)))
   (zaf (zal (pC g_rounds_along hr (zah (pC g_cell_table hr (pa_N (pv 0) zab)) (zah (pC g_all_edges hr (pa_N (pv 0) zab)) zab)))))),?_⟩
  refine⟨_,rfl,a,cs,rfl,hLR,hord,by lia,λH1 s1=>?_⟩;have hLR1:=hLR.same s1 λx v hx=>hx.same s1
  refine⟨_,rfl,a,cs,rfl,hLR1,by lia,λt H2 ht s2 tab=>?_⟩;refine⟨_,rfl,a,cs,rfl,hLR1.same s2 (λx v hx=>hx.same s2),by lia,λpe H5 es hpe s5 e5 hv5=>?_⟩;refine⟨t,pe,cs,es,allE cs,rfl,tab.same s5,e5,hv5,(λe he=>zhS.mp he),hlen,λp H' rs R R0 hp sp f1 f2 f3 f4 f5=>?_⟩;obtain⟨ESS,g1,g2,_⟩:=f5;exact k p H' rs R R0 (s1.free (s2.free (s5.free hp))) (s1.trans (s2.trans (s5.trans sp))) f1 f2 f3 f4 ⟨ESS,g1,λe=>⟨g1.isE e,λh=>g2 e (zhS.mpr h)⟩⟩
theorem _root_.RP.Closed.uniq{C:Cell->Bool}{b:Edge}{es fs:List Edge}(h:Closed C b es)(k:Closed C b fs):es=fs:=by
 have lt:∀{es fs:List Edge},Closed C b es->Closed C b fs->¬ es.length<fs.length:=λ{es fs} h k hl=>by have e:=h.it_len;have hp:=h.pos;have g1:=k.1.get es.length hl;have g2:=k.1.get 0 (by lia);rw[e]at g1;have:=(CV (i:=es.length) (j:=0) hl k.1.2.2.2).mp (by rw[g1,g2];rfl);lia
 have hl:es.length=fs.length:=by have:=lt h k;have:=lt k h;lia
 apply List.ext_getElem?
 intro i;rcases AZ i es.length with hi |hi
 .rw[h.1.get i hi,k.1.get i (by lia)]
 .rw[Dk hi,Dk (by lia)]
theorem zfm{α:Type}(l:List α)(j:Nat):(l.drop j++l.take j).Perm l:=by have:=CL (l₁:=l.drop j) (l₂:=l.take j);rw[CK]at this;exact this
theorem _root_.RP.Closed.share{C:Cell -> Bool}{b c e:Edge}{es fs:List Edge}(h:Closed C b es)(k:Closed C c fs)(h1:e ∈ es)(h2:e ∈ fs) :
  ∃i j,es[i]?=some e/\fs[j]?=some e/\es.drop i++es.take i=fs.drop j++fs.take j:=by
 obtain⟨i,hi,ei⟩:=Az h1;obtain⟨j,hj,ej⟩:=Az h2;have a1:es[i]?=some e:=by rw[Aa hi,ei]
 have a2:fs[j]?=some e:=by rw[Aa hj,ej]
 exact⟨i,j,a1,a2,(h.rot i a1).uniq (k.rot j a2)⟩
theorem _root_.RP.Closed.perm{C:Cell->Bool}{b c e:Edge}{es fs:List Edge}(h:Closed C b es)(k:Closed C c fs)(h1:e∈es)(h2:e∈fs):es.Perm fs:=by obtain⟨i,j,_,_,q⟩:=h.share k h1 h2;exact (zfm es i).symm.trans (q ▸ zfm fs j)
theorem zdb{C:Cell->Bool}(es:List Edge):(wk C es).map (·.1)=es:=by unfold wk;rw[List.map_map];exact List.map_id' _
theorem zeT{C:Cell->Bool}{es fs:List Edge}(p:es.Perm fs):sortS (wk C es)=sortS (wk C fs):=by have q:(wk C es).Perm (wk C fs):=p.map _;unfold sortS nL nS;have a:=(q.filter λq=>q.2.isNone).length_eq;have b:=(q.filter λq=>slant q.2).length_eq;rw[a,b]
theorem lex2{a b c d:Int}(h1:HT.lexLt [a,b] [c,d]=false)(h2:HT.lexLt [c,d] [a,b]=false):a=c/\b=d:=by have:=HT.lexLt_total h1 h2;simpa using this
theorem zct.one{W W':Wk}{s:Str}{e f:Edge}(p:(W.map (·.1)).Perm (W'.map (·.1)))(h:zct W s e)(k:zct W' s f):e=f:=by obtain⟨h1,h2,h3⟩:=h;obtain⟨k1,k2,k3⟩:=k;have a:=h3 f (p.mem_iff.mpr k1) k2;have b:=k3 e (p.mem_iff.mp h1) h2;obtain⟨q1,q2⟩:=lex2 a b;obtain⟨⟨x,y⟩,w⟩:=e;obtain⟨⟨x',y'⟩,w'⟩:=f;simp only at q1 q2 h2 k2;rw[h2,k2,q1,q2]
theorem IsRnd.one{C:Cell->Bool}{b c e:Edge}{es fs:List Edge}{r q:Rnd}(h:Closed C b es)(k:Closed C c fs)(h1:e∈es)(h2:e∈fs)(hr:IsRnd (wk C es) r)(hq:IsRnd (wk C fs) q):r=q:=by
 have p:=h.perm k h1 h2;obtain⟨r0,i,f,rf,rb,rx,ry,rr⟩:=hr;obtain⟨q0,j,g,qg,qb,qx,qy,qr⟩:=hq;have ss:=zeT (C:=C) p;rw[<- ss]at qb;have fg:f=g:=rb.one (by rw[zdb,zdb];exact p) qb;subst fg;rw[zdb]at rf qg;have e1:=(h.rot i rf).uniq (k.rot j qg)
 have e2:(wk C es).drop i++(wk C es).take i=(wk C fs).drop j++(wk C fs).take j:=by unfold wk;rw[<- List.map_drop,<- List.map_take,<- A6,e1,A6,List.map_drop,List.map_take]
 obtain⟨a1,a2,a3,a4⟩:=r;obtain⟨b1,b2,b3,b4⟩:=q;simp only at r0 rx ry rr q0 qx qy qr;rw[r0,q0,rx,ry,rr,qx,qy,qr,ss,e2]
noncomputable def begE(r:Rnd):Edge:=⟨(r.x,r.y),kOf r.so⟩
theorem IsRnd.beg {C:Cell->Bool}{es:List Edge}{r:Rnd}(h:IsRnd (wk C es) r):begE r∈es/\(r.so = "rim" ∨ r.so = "hole"):=by
 obtain⟨r0,i,f,rf,⟨rb,rw',_⟩,rx,ry,rr⟩:=h;rw[zdb]at rb;refine⟨?_,by rw[r0];exact zde _⟩
 have:begE r=f:=by obtain⟨⟨x,y⟩,w⟩:=f;unfold begE;rw[rx,ry,r0];simp only at rw' ⊢;rw[rw']
 rw[this];exact rb
theorem Part.got{C:Cell->Bool}{ESS:List (List Edge)}{R:List Rnd}(h:Part C ESS R){i:Nat}{r:Rnd}(hr:R[i]?=some r):∃es b,ESS[i]?=some es/\Closed C b es/\IsRnd (wk C es) r:=by have hi:=(Ad.mp hr).1;rw[h.len]at hi;obtain⟨⟨b,hb⟩,q⟩:=h.each i _ r (Aa hi) hr;exact⟨_,b,Aa hi,hb,q⟩
theorem zkS{α:Type}{L:List (List α)}(h:L.flatten.Nodup):∀{i j:Nat}{a b:List α}{x:α},L[i]?=some a->L[j]?=some b->x∈a->x∈b->i=j:=by
 induction L with
 |nil=>intro i j a b x h1;simp at h1
 |cons l r ih =>
  rw[By,Do]at h;obtain⟨_,h2,h3⟩:=h;intro i j a b x h1 h4 xa xb
  cases i with
  |zero =>
   cases j with
   |zero=>rfl
   |succ j =>
    simp only[List.getElem?_cons_zero,Option.some.injEq,C3]at h1 h4;subst h1;exact absurd rfl (h3 x xa x (List.mem_flatten.mpr ⟨b,Aj h4,xb⟩))
  |succ i =>
   cases j with
   |zero =>
    simp only[List.getElem?_cons_zero,Option.some.injEq,C3]at h1 h4;subst h4;exact absurd rfl (h3 x xb x (List.mem_flatten.mpr ⟨a,Aj h1,xa⟩))
   |succ j =>
    have:=ih h2 (i:=i) (j:=j) (by simpa using h1) (by simpa using h4) xa xb;rw[this]
theorem Part.beg_inj{C:Cell->Bool}{ESS:List (List Edge)}{R:List Rnd}(h:Part C ESS R){i j:Nat}{r q:Rnd}(hr:R[i]?=some r)(hq:R[j]?=some q)(e:begE r=begE q):i=j:=by obtain⟨es,b,h1,h2,h3⟩:=h.got hr;obtain⟨fs,c,k1,k2,k3⟩:=h.got hq;exact zkS h.nd h1 k1 h3.beg.1 (e ▸ k3.beg.1)
theorem Part.so {C:Cell->Bool}{ESS:List (List Edge)}{R:List Rnd}(h:Part C ESS R){r:Rnd}(hr:r∈R):r.so = "rim" ∨ r.so = "hole":=by obtain⟨i,hi,ei⟩:=Az hr;obtain⟨es,b,h1,h2,h3⟩:=h.got (by rw[Aa hi,ei]);exact h3.beg.2
theorem Whole.mem{cs:List Cell}{R S:List Rnd}(h:Whole cs R)(k:Whole cs S){r:Rnd}(hr:r∈R):r∈S:=by
 obtain⟨E,h1,h2⟩:=h;obtain⟨F,k1,k2⟩:=k;obtain⟨i,hi,ei⟩:=Az hr;obtain⟨es,b,a1,a2,a3⟩:=h1.got (by rw[Aa hi,ei]);have m:=a3.beg.1;obtain⟨fs,f1,f2⟩:=DF.mp ((k2 _).mpr (a2.1.2.2.1 _ m));obtain⟨j,hj,ej⟩:=Az f1;have hjs:j<S.length:=by rw[k1.len];exact hj
 obtain⟨⟨c,hc⟩,q⟩:=k1.each j fs S[j] (by rw[Aa hj,ej]) (Aa hjs);rw[IsRnd.one a2 hc m f2 a3 q];exact Bi _
theorem zl6 {r q:Rnd}(hr:r.so = "rim" ∨ r.so = "hole") (hq:q.so = "rim" ∨ q.so = "hole") (h:keyI r=keyI q):begE r=begE q:=by obtain⟨a1,a2,a3,a4⟩:=r;obtain⟨b1,b2,b3,b4⟩:=q;simp only[keyI,List.cons.injEq,and_true]at h;obtain⟨h1,h2,h3⟩:=h;subst h1 h2;unfold begE;simp only at hr hq h3 ⊢;have n:decide (V.str "rim" = V.str "hole")=false:=decide_eq_false (by decide);have y:decide (V.str "hole" = V.str "hole")=true:=decide_eq_true rfl;rcases hr with rfl |rfl <;> rcases hq with rfl |rfl <;> first |rfl | (rw[n,y]at h3;exact absurd h3 (by decide))
theorem zl5{r q:Rnd}(h1:HT.lexLt (keyI r) (keyI q)=false)(h2:HT.lexLt (keyI q) (keyI r)=false):keyI r=keyI q:=HT.lexLt_total h1 h2
noncomputable abbrev InKey(R:List Rnd):Prop:=R.Pairwise (λr q=>HT.lexLt (keyI q) (keyI r)=false)
theorem InKey.one:∀{R S:List Rnd},InKey R->InKey S->(∀r,r∈R ↔ r∈S)->R.Nodup->S.Nodup->(∀r∈R,∀q∈R,keyI r=keyI q->r=q)->R=S
  |[],[],_,_,_,_,_,_=>rfl
  |[],q::S,_,_,h,_,_,_=>by have:=(h q).mpr An;cases this
  |r::R,[],_,_,h,_,_,_=>by have:=(h r).mp An;cases this
  |r::R,q::S,h1,h2,h,n1,n2,kj=>by
    obtain⟨a1,a2⟩:=Db.mp h1;obtain⟨b1,b2⟩:=Db.mp h2
    have e:r=q:=by
      rcases AM.mp ((h r).mp An) with z |z
      . exact z
      rcases AM.mp ((h q).mpr An) with y |y
      . exact y.symm
      . exact kj r An q (Ap _ y) (zl5 (b1 r z) (a1 q y))
    subst e;have m1:=BF.mp n1;have m2:=BF.mp n2
    rw[InKey.one a2 b2 (λx => ⟨λhx => by
        rcases AM.mp ((h x).mp (Ap _ hx)) with z |z
        . rw[z]at hx;exact absurd hx m1.1
        . exact z,λhx=>by
        rcases AM.mp ((h x).mpr (Ap _ hx)) with z |z
        . rw[z]at hx;exact absurd hx m2.1
        . exact z⟩) m1.2 m2.2 λx hx y hy=>kj x (Ap _ hx) y (Ap _ hy)]
theorem Part.nodup{C:Cell->Bool}{ESS:List (List Edge)}{R:List Rnd}(h:Part C ESS R):R.Nodup:=by unfold List.Nodup;rw[CN];intro i j hi hj hij e;have:=h.beg_inj (i:=i) (j:=j) (r:=R[j]) (q:=R[j]) (by rw[Aa hi,e]) (Aa hj) rfl;lia
theorem Part.key_inj{C:Cell->Bool}{ESS:List (List Edge)}{R:List Rnd}(h:Part C ESS R):∀r∈R,∀q∈R,keyI r=keyI q->r=q:=by intro r hr q hq e;have be:=zl6 (h.so hr) (h.so hq) e;obtain⟨i,hi,ei⟩:=Az hr;obtain⟨j,hj,ej⟩:=Az hq;have:=h.beg_inj (i:=i) (j:=j) (by rw[Aa hi,ei]) (by rw[Aa hj,ej]) be;subst this;rw[<- ei,<- ej]
theorem Whole.one{cs:List Cell}{R R0 S S0:List Rnd}(p:R.Perm R0)(q:S.Perm S0)(hR:InKey R)(hS:InKey S)(h:Whole cs R0)(k:Whole cs S0):R=S:=by
 obtain⟨E,h1,h2⟩:=id h;obtain⟨F,k1,k2⟩:=id k;refine InKey.one hR hS (λr=>⟨λm=>q.mem_iff.mpr (h.mem k (p.mem_iff.mp m)),λm=>p.mem_iff.mpr (k.mem h (q.mem_iff.mp m))⟩) (p.nodup_iff.mpr h1.nodup) (q.nodup_iff.mpr k1.nodup) ?_
 exact λr hr q hq=>h1.key_inj r (p.mem_iff.mp hr) q (p.mem_iff.mp hq)
theorem zib(s:Nat):∀(l:List Nat) (w:Nat),dgo w (l++[s])=((dgo w l).1++(Aq ((zaW s+4-(dgo w l).2) % 4) none++[some s]),wayB s)
 |[],w=>by simp[dgo]
 |a::l,w=>by
  have ih:=zib s l (wayB a);show (Aq ((zaW a+4-w) % 4) none++some a::(dgo (wayB a) (l++[s])).1,(dgo (wayB a) (l++[s])).2)=_;rw[ih];show _=((Aq ((zaW a+4-w) % 4) none++some a::(dgo (wayB a) l).1)++_,_);simp;rfl
theorem zfP:∀(l:List Nat) (w:Nat),(dgo w l).1.length<=4*l.length
 |[],w=>by simp[dgo]
 |a::l,w=>by
  have ih:=zfP l (wayB a);show (Aq ((zaW a+4-w) % 4) none++some a::(dgo (wayB a) l).1).length<=_;have:(zaW a+4-w) % 4<4:=BG _ (by decide);simp only[Ak,Cf,A5];lia
theorem zhf:∀(l:List Nat) (w:Nat),w<4->(dgo w l).2<4
 |[],w,h=>h
 |a::l,w,h=>zhf l (wayB a) (BG _ (by decide))
theorem ziN(s:Nat):zaW s<4:=BG _ (by decide)
theorem zh2(n:Nat):(Aq n [V.non]).flatten=(Aq n (none:Option Nat)).map sv:=by
 induction n with
 |zero=>rfl
 |succ n ih=>rw[Cu,By,ih];rfl
theorem zaU{n:Nat}(h:n<=5000):n<sizeLine:=DV h (by decide)
theorem zlp:1<=sizeLine:=by decide
noncomputable def zgd:Sp:=λvs H Q _=>∃(v:V) (r:Rnd),vs=[v]/\rR r v H/\(r.so = "rim" ∨ r.so = "hole")/\∀p H',H p=none->Same H H'->H' p=some (.tup (edgeT (begE r)))->Q (.ref p) H'
theorem zfA (T:Txt P w K mg) (d:Df K mg "begin_edge" zcB ["one"]):FnOk P w K mg base CX0 1 d.f d.fd ["one"] zgd:=by
 refine d.F.ok zbo (λvs H Q E h=>?_) (λcdv A outer s H vs Q E hr h=>?_)
 .obtain⟨v,r,rfl,_⟩:=h;rfl
 .obtain⟨v,r,rfl,⟨a,b,rfl,q1,q2⟩,hso,k⟩:=h
  refine⟨_,(zac (zbm (pv 0) (za8 (by rfl) (zag (nG 1 zbo.nd) (zag (nG 2 zbo.nd) (zag (nG 3 zbo.nd) (zag (nG 4 zbo.nd) zas))))))
   (zaf (zal (zay (pa_N (pv 2) (pa_N (pv 3) (zah (zjm (by rfl) T.ways (pv 1)) zab))))))),?_⟩
  refine⟨_,rfl,a,_,rfl,SqT.of q1,rfl,_,_,rfl,_,_,rfl,_,_,rfl,_,_,rfl,rfl,?_⟩;refine⟨_,rfl,_,rfl,_,rfl,?_⟩;rcases hso with e |e
  .refine .inl ⟨by rw[e],three,λp hp=>k p _ hp (Same.up hp) ?_⟩;rw[zaa];unfold begE edgeT kOf;simp only[e];rfl
  .refine .inr ⟨by rw[e],three,λp hp=>k p _ hp (Same.up hp) ?_⟩;rw[zaa];unfold begE edgeT kOf;simp only[e];rfl
noncomputable def zhs:Sp:=λvs H Q _=>∃s:Nat,vs=[.int s]/\Q (.int (zaW s:Nat)) H
theorem ziv (d:Df K mg "way_for" zdZ ["step"]):FnOk P w K mg base CX0 1 d.f d.fd ["step"] zhs:=by
 refine d.F.ok zir (λvs H Q E h=>?_) (λcdv A outer s H vs Q E hr h=>?_)
 .obtain⟨s,rfl,_⟩:=h;rfl
 .obtain⟨t,rfl,k⟩:=h;refine⟨_,(zaf (zal (pe_op za9 (pe_op zfs (pe_op zaG (pv 0) zae) zae) zae))),?_⟩;refine⟨_,rfl,_,_,rfl,rfl,_,_,rfl,rfl,⟨by decide,by decide⟩,_,_,rfl,rfl,(by show (0:Int)<4;decide),?_⟩;have e:((t:Int)+1) / 2 % 4=(zaW t:Nat):=by unfold zaW;lia
  show Q (V.int (((t:Int)+1) / 2 % 4)) H;rw[e];exact k
noncomputable def zi4(K:W.Frag):Sp:=λvs H Q _=>∃(wn:Nat) (b:Addr) (row:List Nat),vs=[.int (wn:Int),.ref b]/\wn<4/\SqT K H b (rowV row)/\row.length<=500 /\
 ∀p H',H p=none->Same H H'->H' p=some (.lst ((deeds wn row).map sv))->Q (.ref p) H'
theorem zeA (g_way_for:Fn P w K mg base 1 "way_for" ["step"] zhs) (d:Df K mg "deeds_along" zcn ["begin_way","row"]):FnOk P w K mg base CX0 2 d.f d.fd ["begin_way","row"] (zi4 K):=by
 refine d.F.ok za3 (λvs H Q E h=>?_) (λcdv A outer s H vs Q E hr h=>?_)
 .obtain⟨wn,b,row,rfl,_⟩:=h;rfl
 .obtain⟨wn,b,row,rfl,hw,hq,hlen,k⟩:=h
  refine⟨_,(zac (sE 2 za3.nd (pv 0))
   (zac (sE 3 za3.nd (zaZ zab))
   (zac (zbG Bg rfl (zjk (pv 1)) (nG 4 za3.nd)
   (zac (zbq (pe_bm AY PySem.F.slot_list_extend PySem.F.type_list_extend zgs (pv 3) (pa_B (pe_op zlm (zaZ (pa_C zbS zab)) (pe_op za9 (pe_op zbn (pC g_way_for hr (pa_N (pv 4) zab)) (pv 2)) zae)) zab)))
   (zac (zbq (pe_bm AY Ba Bb za0 (pv 3) (pa_N (pv 4) zab)))
   (zaf (sE 2 za3.nd (pe_op za9 (pe_op zbn (pC g_way_for hr (pa_N (pv 4) zab)) (pe_op za9 (pv 4) zae)) zae))))))
   (zac (sE 5 za3.nd (zdM (zkr (pv 1) (λ_=>rfl)) (pe_op za9 (pe_op zbn (pv 0) (pv 2)) zae) zae))
   (zaf (zal (pe_op zhM (pv 3) (pe_op zlm (zaZ (pa_C zbS zab)) (pv 5))))))))),?_⟩
  refine⟨_,rfl,(by show 0<=sizeLine;decide),λp hp=>?_⟩;have s0:Same H (upd H p (.lst [])):=Same.up hp;have e0:upd H p (.lst []) p=some (.lst []):=zaa;generalize upd H p (.lst [])=H0 at s0 e0;refine⟨_,rfl,b,rfl,⟨_,s0.seqT hq⟩,?_⟩;have hrl:(rowV row).length=row.length:=by unfold rowV;exact Ao _
  refine zhd (K:=K) (a:=b) (xs:=rowV row) (λi σ H1=>∃o4 o5,σ=[some (.int (wn:Int)),some (.ref b),some (.int ((dgo wn (row.take i)).2:Nat)),some (.ref p),o4,o5]/\Same H H1/\H1 p=some (.lst ((dgo wn (row.take i)).1.map sv)))
   ⟨_,_,rfl,s0,e0⟩ (λi σ H1 _ ⟨_,_,_,s1,_⟩=>s1.seqT hq) ?_ ?_
  .rintro i v σ H1 hi ⟨o4,o5,rfl,s1,e1⟩;have hi':i<row.length:=by rw[<- hrl];exact (Ad.mp hi).1
   unfold rowV at hi;rw[AC,Aa hi']at hi
   cases hi
   have hdl:=zfP (row.take i) wn;rw[AQ]at hdl;have hdw:=zhf (row.take i) wn hw;have hwf:=ziN row[i];have hn:=zib row[i] (row.take i) wn;rw[<- zaz (Aa hi')]at hn;refine⟨_,rfl,.inl ⟨rfl,_,SqL.of e1⟩,zlp,λl hl=>?_⟩;have s2:Same H1 (upd H1 l (.lst [.non])):=Same.up hl;have e2:upd H1 l (.lst [.non]) l=some (.lst [.non]):=zaa;generalize upd H1 l (.lst [.non])=H2 at s2 e2;refine⟨_,rfl,row[i],rfl,?_⟩;refine⟨_,rfl,_,_,rfl,rfl,_,_,rfl,rfl,(by show (0:Int)<4;decide),?_⟩;have ek:(((zaW row[i]:Nat):Int)-((dgo wn (row.take i)).2:Nat)) % 4=(((zaW row[i]+4-(dgo wn (row.take i)).2) % 4:Nat):Int):=by lia
   have k4:(zaW row[i]+4-(dgo wn (row.take i)).2) % 4<4:=BG _ (by decide);generalize hk:(zaW row[i]+4-(dgo wn (row.take i)).2) % 4=kk at *;refine⟨l,(kk:Int),_,rfl,congrArg V.int ek,e2,by lia,by lia,(BJ (zaj (by simp;lia))),λq hq'=>?_⟩;rw[CW,zh2];have s3:Same H2 (upd H2 q (.lst ((Aq kk (none:Option Nat)).map sv))):=Same.up hq';have e3:upd H2 q (.lst ((Aq kk (none:Option Nat)).map sv)) q=some (.lst ((Aq kk (none:Option Nat)).map sv)):=zaa;have hpq:p≠q:=λz=>by subst z;rw[s2 _ _ e1]at hq';cases hq'
   generalize upd H2 q (.lst ((Aq kk (none:Option Nat)).map sv))=H3 at s3 e3;have e13:=s3 _ _ (s2 _ _ e1);refine⟨p,q,_,_,rfl,rfl,e13,e3,?_,?_⟩
   .simp only[Ao,Cf];exact BJ (zaU (by lia))
   have hp2:H p=none:=hp;have s4:Same H (upd H3 p (.lst ((dgo wn (row.take i)).1.map sv++(Aq kk (none:Option Nat)).map sv))):=zaq hp2 (s1.trans (s2.trans s3));have e4:upd H3 p (.lst ((dgo wn (row.take i)).1.map sv++(Aq kk (none:Option Nat)).map sv)) p=some (.lst ((dgo wn (row.take i)).1.map sv++(Aq kk (none:Option Nat)).map sv)):=zaa;generalize upd H3 p (.lst ((dgo wn (row.take i)).1.map sv++(Aq kk (none:Option Nat)).map sv))=H4 at s4 e4;refine⟨_,rfl,.inl ⟨rfl,_,SqL.of e4⟩,_,rfl,p,_,_,rfl,rfl,e4,?_,?_⟩
   .simp only[Ak,Ao,Cf];exact zaU (by lia)
   have s5:Same H (upd H4 p (.lst (((dgo wn (row.take i)).1.map sv++(Aq kk (none:Option Nat)).map sv)++[V.int (row[i]:Nat)]))):=zaq hp2 s4
   have e5:upd H4 p (.lst (((dgo wn (row.take i)).1.map sv++(Aq kk (none:Option Nat)).map sv)++[V.int (row[i]:Nat)])) p=some (.lst ((dgo wn (row.take (i+1))).1.map sv)):=by rw[zaa,hn];simp[sv]
   generalize upd H4 p (.lst (((dgo wn (row.take i)).1.map sv++(Aq kk (none:Option Nat)).map sv)++[V.int (row[i]:Nat)]))=H5 at s5 e5;refine⟨_,rfl,row[i],rfl,?_⟩;refine⟨_,rfl,_,_,rfl,rfl,(by show (0:Int)<2;decide),_,_,rfl,rfl,_,_,rfl,rfl,(by show (0:Int)<4;decide),?_⟩
   have ew:(((zaW row[i]:Nat):Int)-(row[i]:Int) % 2) % 4=((dgo wn (row.take (i+1))).2:Nat):=by rw[hn];show _=((wayB row[i]:Nat):Int);unfold wayB;lia
   refine⟨some (V.int (row[i]:Nat)),o5,?_,s5,e5⟩;exact congrArg (λz:Int=>[some (V.int (wn:Int)),some (V.ref b),some (V.int z),some (V.ref p),some (V.int (row[i]:Nat)),o5]) ew
  .rintro σ H1 ⟨o4,o5,rfl,s1,e1⟩;rw[hrl,AN]at e1;rw[hrl,AN];have hdl:=zfP row wn;have hdw:=zhf row wn hw
   have fin:∀z:Int,z=(zaQ wn row:Nat)->tRet (tOp rCat (tVar 3) (tOp rRep (tLst (tCons (tC .non) tNil)) (tVar 5))) { nx:=λ_ H'=>Q .non H',rt:=Q } [some (.int (wn:Int)),some (.ref b),some (.int ((dgo wn row).2:Nat)),some (.ref p),o4,some (.int z)] H1:=λz hz=>by
    have hll:zaQ wn row<=4:=by
     unfold zaQ;split
     .decide
     .exact BJ (BG _ (by decide))
    refine⟨_,rfl,zlp,λl hl=>?_⟩;have s2:Same H1 (upd H1 l (.lst [.non])):=Same.up hl;have e2:upd H1 l (.lst [.non]) l=some (.lst [.non]):=zaa;generalize upd H1 l (.lst [.non])=H2 at s2 e2;subst hz;refine⟨_,rfl,l,_,_,rfl,rfl,e2,by lia,by lia,(BJ (zaj (by simp;lia))),λq hq'=>?_⟩;rw[CW,zh2];have s3:Same H2 (upd H2 q (.lst ((Aq (zaQ wn row) (none:Option Nat)).map sv))):=Same.up hq';have e3:upd H2 q (.lst ((Aq (zaQ wn row) (none:Option Nat)).map sv)) q=some (.lst ((Aq (zaQ wn row) (none:Option Nat)).map sv)):=zaa;generalize upd H2 q (.lst ((Aq (zaQ wn row) (none:Option Nat)).map sv))=H3 at s3 e3;refine⟨p,q,_,_,rfl,rfl,s3 _ _ (s2 _ _ e1),e3,?_,λx hx=>?_⟩
    .simp only[Ao,Cf];exact BJ (zaU (by lia))
    .have s13:=s1.trans (s2.trans s3);refine k x _ (s13.free hx) (s13.trans (Same.up hx)) ?_
     rw[zaa];unfold deeds;rw[A6]
   refine⟨_,rfl,_,.inr (.inl ⟨_,s1.seqT hq,rfl⟩),?_⟩
   by_cases he:row=[]
   .exact iteN (by rw[he];rfl) (fin 4 (by rw[he];rfl))
   .refine iteY (by cases row with |nil=>exact absurd rfl he |cons x r=>rfl) ⟨_,rfl,_,rfl,_,_,rfl,rfl,_,_,rfl,rfl,(by show (0:Int)<4;decide),fin _ ?_⟩
    have hl:zaQ wn row=(wn+4-(dgo wn row).2) % 4:=by unfold zaQ;rw[if_neg (by simpa using he)]
    rw[hl];lia
noncomputable def wby:Edge->List (Option Nat)->List (Edge×Option Nat)
 |_,[]=>[]
 |e,d::r=>(e,d)::wby (edgeB e d) r
noncomputable def eAt:Edge->List (Option Nat)->Edge
 |e,[]=>e
 |e,d::r=>eAt (edgeB e d) r
theorem zh9(d:Option Nat):∀(l:List (Option Nat)) (e:Edge),eAt e (l++[d])=edgeB (eAt e l) d
 |[],_=>rfl
 |_::l,e=>zh9 d l _
theorem zhk(d:Option Nat):∀(l:List (Option Nat)) (e:Edge),wby e (l++[d])=wby e l++[(eAt e l,d)]
 |[],_=>rfl
 |a::l,e=>by
  show (e,a)::wby (edgeB e a) (l++[d])=_;rw[zhk d l];rfl
theorem zeM:∀(l:List (Option Nat)) (e:Edge),(wby e l).length=l.length
 |[],_=>rfl
 |a::l,e=>by show (wby (edgeB e a) l).length+1=_;rw[zeM l];rfl
theorem zkV{e:Edge}{o:Option Nat}(h:e.w<4):(edgeB e o).w<4:=by
 unfold edgeB
 cases o with
 |none=>exact BG _ (by decide)
 |some s=>simp only;split <;> simp only <;> lia
theorem zls:∀(l:List (Option Nat)){e:Edge},e.w<4->(eAt e l).w<4
 |[],_,h=>h
 |_::l,_,h=>zls l (zkV h)
theorem zf2{C:Cell->Bool}:∀(es:List Edge){b:Edge},es[0]?=some b∨es=[]->(∀i e f,es[i]?=some e->es[i+1]?=some f->f=nxt C e)->wby b (es.map (stepB C))=wk C es
 |[],_,_,_=>rfl
 |e::r,b,h0,hs=>by
  have hb:e=b:=by rcases h0 with h |h;simpa using h;cases h
  subst hb;show (e,stepB C e)::wby (nxt C e) (r.map (stepB C))=(e,stepB C e)::wk C r;rw[zf2 r (b:=nxt C e) ?_ λi x y h1 h2=>hs (i+1) x y (by simpa using h1) (by simpa using h2)]
  cases r with
  |nil=>exact .inr rfl
  |cons f r=>exact .inl (by have:=hs 0 e f rfl rfl;rw[<- this];rfl)
noncomputable def zhu(K:W.Frag):Sp:=λvs H Q _=>∃(a l:Addr) (b:Edge) (ds:List (Option Nat)),vs=[.ref a,.ref l]/\H a=some (.tup (edgeT b))/\b.w<4/\H l=some (.lst (ds.map sv))/\(∀s,some s∈ds->s<8)/\ds.length<=3000 /\
 ∀p H' ws,H p=none->Same H H'->H' p=some (.lst ws)->VR ws (wby b ds) wR H'->Q (.ref p) H'
theorem zix (g_edge_behind:Fn P w K mg base 2 "edge_behind" ["edge","step"] (zdT K)) (d:Df K mg "walk_by" zd1 ["begin","deeds"]):FnOk P w K mg base CX0 3 d.f d.fd ["begin","deeds"] (zhu K):=by
 refine d.F.ok zcb (λvs H Q E h=>?_) (λcdv A outer s H vs Q E hr h=>?_)
 .obtain⟨a,l,b,ds,rfl,_⟩:=h;rfl
 .obtain⟨a,l,b,ds,rfl,ha,hb,hl,h8,hlen,k⟩:=h
  refine⟨_,(zac (sE 2 zcb.nd (zaZ zab))
   (zac (sE 3 zcb.nd (pv 0))
   (zac (zbG Bg rfl (zaB (pv 1)) (nG 4 zcb.nd)
   (zac (zbq (pe_bm AY Ba Bb za0 (pv 2) (pa_T (zay (pa_N (pv 3) (pa_N (pv 4) zab))) zab)))
   (zaf (sE 3 zcb.nd (pC g_edge_behind hr (pa_N (pv 3) (pa_N (pv 4) zab)))))))
   (zaf (zal (pv 2)))))),?_⟩
  refine⟨(by show 0<=sizeLine;decide),λp hp=>?_⟩;have s0:Same H (upd H p (.lst [])):=Same.up hp;have e0:upd H p (.lst []) p=some (.lst []):=zaa;generalize upd H p (.lst [])=H0 at s0 e0;refine⟨_,rfl,_,rfl,l,rfl,⟨_,SqL.of (s0 _ _ hl)⟩,?_⟩
  refine zar (K:=K) (a:=l) (xs:=ds.map sv) (λi σ H1=>∃(c:Addr) (o4:Option V) (ws:List V),σ=[some (.ref a),some (.ref l),some (.ref p),some (.ref c),o4]/\Same H H1/\H1 c=some (.tup (edgeT (eAt b (ds.take i))))/\H1 p=some (.lst ws)/\VR ws (wby b (ds.take i)) wR H1)
   ⟨a,_,[],rfl,s0,s0 _ _ ha,e0,VR.nil⟩ (λi σ H1 _ ⟨_,_,_,_,s1,_⟩=>SqL.of (s1 _ _ hl)) ?_ ?_
  .rintro i v σ H1 hi ⟨c,o4,ws,rfl,s1,hc,e1,hv⟩;have hi':i<ds.length:=by have:=(Ad.mp hi).1;rwa [Ao]at this
   rw[AC,Aa hi']at hi
   cases hi
   have tk:=zaz (Aa hi');have wl:ws.length<=3000:=by rw[hv.1,zeM,AQ];lia
   refine⟨_,rfl,.inl ⟨rfl,_,SqL.of e1⟩,_,rfl,_,rfl,two,λt ht=>?_⟩;have s2:Same H1 (upd H1 t (.tup [.ref c,sv ds[i]])):=Same.up ht;have e2:upd H1 t (.tup [.ref c,sv ds[i]]) t=some (.tup [.ref c,sv ds[i]]):=zaa;generalize upd H1 t (.tup [.ref c,sv ds[i]])=H2 at s2 e2;have e12:=s2 _ _ e1;refine⟨p,ws,_,rfl,rfl,e12,zaU (by lia),?_⟩;have kt3:KT H2 (upd H2 p (.lst (ws++[.ref t]))):=KT.lst e12;have s3:Same H (upd H2 p (.lst (ws++[.ref t]))):=zaq hp (s1.trans s2);have e3:upd H2 p (.lst (ws++[.ref t])) p=some (.lst (ws++[.ref t])):=zaa;generalize upd H2 p (.lst (ws++[.ref t]))=H3 at kt3 s3 e3;have hc3:=kt3 _ _ (s2 _ _ hc);refine⟨_,rfl,_,rfl,c,eAt b (ds.take i),ds[i],rfl,SqT.of hc3,zls _ hb,λz hz=>h8 z (hz ▸ Bi _),λq H4 hq s4 e4=>?_⟩;refine⟨q,_,ws++[.ref t],rfl,s3.trans s4,?_,s4 _ _ e3,?_⟩
   .rw[tk,zh9];exact e4
   .rw[tk,zhk];exact hv.snoc (λx v h=>((h.kt (KT.of s2)).kt kt3).kt (KT.of s4)) ⟨t,c,rfl,s4 _ _ (kt3 _ _ e2),s4 _ _ hc3⟩
  .rintro σ H1 ⟨c,o4,ws,rfl,s1,hc,e1,hv⟩;rw[Ao,AN]at hv;exact⟨_,rfl,k p H1 ws hp s1 e1 hv⟩
noncomputable def zdS(K:W.Frag):Sp:=λvs H Q _=>∃(a b:Addr) (e:Edge) (row:List Nat),vs=[.ref a,.ref b]/\H a=some (.tup (edgeT e))/\e.w<4/\SqT K H b (rowV row)/\row.length<=500/\(∀s,some s∈deeds e.w row->s<8) /\
 ∀p H' ws,H p=none->Same H H'->H' p=some (.lst ws)->VR ws (wby e (deeds e.w row)) wR H'->Q (.ref p) H'
theorem zft (g_walk_by:Fn P w K mg base 3 "walk_by" ["begin","deeds"] (zhu K)) (g_deeds_along:Fn P w K mg base 2 "deeds_along" ["begin_way","row"] (zi4 K)) (d:Df K mg "walk_along" zcw ["begin","row"]):FnOk P w K mg base CX0 4 d.f d.fd ["begin","row"] (zdS K):=by
 refine d.F.ok zfh (λvs H Q E h=>?_) (λcdv A outer s H vs Q E hr h=>?_)
 .obtain⟨a,b,e,row,rfl,_⟩:=h;rfl
 .obtain⟨a,b,e,row,rfl,ha,hw,hq,hlen,h8,k⟩:=h;refine⟨_,(zaf (zal (pC g_walk_by hr (pa_N (pv 0) (zah (pC g_deeds_along hr (zah (pe_ix zb0 (pv 0) zae (λ_ _=>rfl)) (pa_N (pv 1) zab))) zab))))),?_⟩;refine⟨_,rfl,_,rfl,a,_,_,_,rfl,rfl,SqT.of ha,zaw (j:=2) rfl,_,rfl,e.w,b,row,rfl,hw,hq,hlen,λp H1 hp s1 e1=>?_⟩
  have hd:(deeds e.w row).length<=3000:=by
   unfold deeds;have:=zfP row e.w
   have:zaQ e.w row<=4:=by
    unfold zaQ;split
    .decide
    .exact BJ (BG _ (by decide))
   simp only[Ak,Cf];lia
  exact⟨a,p,e,_,rfl,s1 _ _ ha,hw,e1,h8,hd,λq H2 ws hq2 s2 e2 hv=>k q H2 ws (s1.free hq2) (s1.trans s2) e2 hv⟩
noncomputable def sR(q:Cell×Bool)(v:V)(H:Hp):Prop:=∃A b,v=.ref A/\H A=some (.tup [.ref b,.bl q.2])/\H b=some (.tup (cellT q.1))
theorem sR.kt{q:Cell×Bool}{v:V}{H H':Hp}(h:sR q v H)(s:KT H H'):sR q v H':=let ⟨A,b,e,q1,q2⟩:=h;⟨A,b,e,s _ _ q1,s _ _ q2⟩
noncomputable def zla(K:W.Frag):Sp:=λvs H Q _=>∃(a:Addr) (C:Cell->Bool) (e:Edge),vs=[.ref a,sv (stepB C e)]/\H a=some (.tup (edgeT e))/\IsE C e /\
 ∀p H' ss L,H p=none->Same H H'->H' p=some (.lst ss)->VR ss L sR H'->(∀q∈L,C q.1=q.2)->L.length<=6->Q (.ref p) H'
theorem zd7 (g_edge_behind:Fn P w K mg base 2 "edge_behind" ["edge", "step"] (zdT K)) (g_gap_beside:Fn P w K mg base 2 "gap_beside" ["edge"] (spGap K)) (g_is_slant:Fn P w K mg base 1 "is_slant" ["step"] zdd)
  (g_gone:Fn P w K mg base 1 "gone" ["x","y","step"] zgb) (g_slant_step:Fn P w K mg base 1 "slant_step" ["way"] zgR) (g_straight_step:Fn P w K mg base 1 "straight_step" ["way"] zdo)
  (d:Df K mg "seen_between" zb3 ["edge","step"]):FnOk P w K mg base CX0 3 d.f d.fd ["edge","step"] (zla K):=by
 refine d.F.ok zaV (λvs H Q E h=>?_) (λcdv A outer s H vs Q E hr h=>?_)
 .obtain⟨a,C,e,rfl,_⟩:=h;rfl
 .obtain⟨a,C,e,rfl,ha,hE,k⟩:=h
  refine⟨_,(zac (zbm (pv 0) (za8 (by rfl) (zag (nG 2 zaV.nd) (zag (nG 3 zaV.nd) (zag (nG 4 zaV.nd) zas)))))
   (zac (sE 5 zaV.nd (pC g_edge_behind hr (pa_N (pv 0) (pa_N (pv 1) zab))))
   (zac (sE 6 zaV.nd (zaZ (pa_T (zay (pa_T (zay (pa_N (pv 2) (pa_N (pv 3) zab))) (pa_C pe_bl zab))) (pa_T (zay (zah (pC g_gap_beside hr (pa_N (pv 0) zab)) (pa_C pe_bl zab))) (pa_T (zay (zah (zdL zi6 (pv 5) zfp (zfo zae)) (pa_C pe_bl zab))) (pa_T (zay (zah (pC g_gap_beside hr (pa_N (pv 5) zab)) (pa_C pe_bl zab))) zab))))))
   (zac (ps_if (zhD (zdh (pC g_is_slant hr (pa_N (pv 1) zab))))
   (zaf (zbq (pe_bm AY Ba Bb za0 (pv 6) (pa_T (zay (zah (pC g_gone hr (pa_N (pv 2) (pa_N (pv 3) (zah (pC g_slant_step hr (pa_N (pv 4) zab)) zab)))) (pa_C pe_bl zab))) zab))))
   zaA)
   (zac (ps_if (zam zhK (pv 1) zbS (zan _))
   (zaf (zbq (pe_bm AY Ba Bb za0 (pv 6) (pa_T (zay (zah (pC g_gone hr (pa_N (pv 2) (pa_N (pv 3) (zah (pC g_straight_step hr (pa_N (pv 4) zab)) zab)))) (pa_C pe_bl zab))) zab))))
   zaA)
   (zaf (zal (pv 6)))))))),?_⟩
  have hw:=hE.1;have hN:=zdB hE;refine⟨_,rfl,a,_,rfl,SqT.of ha,rfl,_,_,rfl,_,_,rfl,_,_,rfl,rfl,?_⟩;refine⟨_,rfl,_,rfl,a,e,stepB C e,rfl,SqT.of ha,hw,zcL hw,λp1 H1 hp1 s1 e1=>?_⟩;change H1 p1=some (.tup (edgeT (nxt C e))) at e1;refine⟨_,rfl,_,rfl,two,λt1 ht1=>⟨two,λt2 ht2=>?_⟩⟩;have s2:Same H1 (upd (upd H1 t1 (.tup [.int e.c.1,.int e.c.2])) t2 (.tup [.ref t1,.bl true])):=(Same.up ht1).trans (Same.up ht2);have r1:sR (e.c,true) (.ref t2) (upd (upd H1 t1 (.tup [.int e.c.1,.int e.c.2])) t2 (.tup [.ref t1,.bl true])):=⟨t2,t1,rfl,zaa,by rw[zai (λz=>by subst z;rw[zaa]at ht2;cases ht2),zaa];rfl⟩;generalize upd (upd H1 t1 (.tup [.int e.c.1,.int e.c.2])) t2 (.tup [.ref t1,.bl true])=H2 at s2 r1;refine⟨_,rfl,a,e,rfl,SqT.of ((s1.trans s2) _ _ ha),hw,λp3 H3 hp3 s3 e3=>⟨two,λt3 ht3=>?_⟩⟩;have s4:Same H3 (upd H3 t3 (.tup [.ref p3,.bl false])):=Same.up ht3;have r2:sR (gap e,false) (.ref t3) (upd H3 t3 (.tup [.ref p3,.bl false])):=⟨t3,p3,rfl,zaa,s4 _ _ e3⟩;generalize upd H3 t3 (.tup [.ref p3,.bl false])=H4 at s4 r2;have s14:=s2.trans (s3.trans s4);have e14:=s14 _ _ e1;have hs1:HT.sIx 3 3 (some 2)=2:=by decide
  refine⟨_,rfl,_,rfl,p1,_,rfl,SqT.of e14,λhx=>absurd (show (3:Nat)=2 from hx.2.symm.trans hs1) (by decide),λ_ t5 ht5=>⟨two,λt6 ht6=>?_⟩⟩;have ec:cutV (edgeT (nxt C e)) none (some 2)=cellT (nxt C e).c:=rfl;have s6:Same H4 (upd (upd H4 t5 (.tup (cutV (edgeT (nxt C e)) none (some 2)))) t6 (.tup [.ref t5,.bl true])):=(Same.up ht5).trans (Same.up ht6);have r3:sR ((nxt C e).c,true) (.ref t6) (upd (upd H4 t5 (.tup (cutV (edgeT (nxt C e)) none (some 2)))) t6 (.tup [.ref t5,.bl true])):=⟨t6,t5,rfl,zaa,by rw[zai (λz=>by subst z;rw[zaa]at ht6;cases ht6),zaa,ec]⟩;generalize upd (upd H4 t5 (.tup (cutV (edgeT (nxt C e)) none (some 2)))) t6 (.tup [.ref t5,.bl true])=H6 at s6 r3;refine⟨_,rfl,p1,nxt C e,rfl,SqT.of (s6 _ _ e14),hN.1,λp7 H7 hp7 s7 e7=>⟨two,λt7 ht7=>?_⟩⟩;have s8:Same H7 (upd H7 t7 (.tup [.ref p7,.bl false])):=Same.up ht7;have r4:sR (gap (nxt C e),false) (.ref t7) (upd H7 t7 (.tup [.ref p7,.bl false])):=⟨t7,p7,rfl,zaa,s8 _ _ e7⟩;generalize upd H7 t7 (.tup [.ref p7,.bl false])=H8 at s8 r4;refine⟨(by show 4<=sizeLine;decide),λl hl=>?_⟩;have s48:=s6.trans (s7.trans s8);have s28:=s3.trans (s4.trans s48);have s08:=s1.trans (s2.trans s28);have kl:KT H8 (upd H8 l (.lst [.ref t2,.ref t3,.ref t6,.ref t7])):=KT.up hl;have sl:Same H (upd H8 l (.lst [.ref t2,.ref t3,.ref t6,.ref t7])):=s08.trans (Same.up hl);have el:upd H8 l (.lst [.ref t2,.ref t3,.ref t6,.ref t7]) l=some (.lst [.ref t2,.ref t3,.ref t6,.ref t7]):=zaa;have hl0:H l=none:=s08.free hl
  have hv:VR [.ref t2,.ref t3,.ref t6,.ref t7] [(e.c,true),(gap e,false),((nxt C e).c,true),(gap (nxt C e),false)] sR (upd H8 l (.lst [.ref t2,.ref t3,.ref t6,.ref t7])) :=
   VR.cons.mpr ⟨(r1.kt (KT.of s28)).kt kl,VR.cons.mpr ⟨(r2.kt (KT.of s48)).kt kl,VR.cons.mpr ⟨(r3.kt (KT.of (s7.trans s8))).kt kl,VR.cons.mpr ⟨r4.kt kl,VR.nil⟩⟩⟩⟩
  generalize upd H8 l (.lst [.ref t2,.ref t3,.ref t6,.ref t7])=H9 at kl sl el hv
  have hL:∀q∈[(e.c,true),(gap e,false),((nxt C e).c,true),(gap (nxt C e),false)],C q.1=q.2:=by
   intro q hq;simp only[List.mem_cons,List.not_mem_nil,or_false]at hq;rcases hq with rfl |rfl |rfl |rfl
   .exact hE.2.1
   .exact hE.2.2
   .exact hN.2.1
   .exact hN.2.2
  rcases zbf hE with⟨c1,hs,_⟩ |⟨c1,c2,hs,_⟩ |⟨c1,c2,hs,_⟩ <;> rw[hs]
  .refine⟨_,rfl,some ((2*e.w+7) % 8),rfl,_,rfl,?_⟩;have:slant (some ((2*e.w+7) % 8))=true:=by show ((2*e.w+7) % 8 % 2 == 1)=true;rw[odd7];rfl
   rw[this];refine iteF ?_
   refine⟨_,rfl,rfl,_,rfl,iteF ?_⟩;exact⟨_,rfl,k l H9 _ _ hl0 sl el hv hL (by show 4<=6;decide)⟩
  .refine⟨_,rfl,some (2*e.w),rfl,_,rfl,?_⟩;have:slant (some (2*e.w))=false:=by show ((2*e.w) % 2 == 1)=false;rw[show 2*e.w % 2=0 by lia];rfl
   rw[this];refine iteT ?_
   refine⟨_,rfl,.inl ⟨rfl,_,SqL.of el⟩,_,rfl,_,rfl,_,rfl,e.w,rfl,hw,e.c,(2*e.w+7) % 8,rfl,BG _ (by decide),λp10 H10 hp10 s10 e10=>⟨two,λt11 ht11=>?_⟩⟩;have s11:Same H10 (upd H10 t11 (.tup [.ref p10,.bl false])):=Same.up ht11;have r5:sR (go e.c ((2*e.w+7) % 8),false) (.ref t11) (upd H10 t11 (.tup [.ref p10,.bl false])):=⟨t11,p10,rfl,zaa,s11 _ _ e10⟩;generalize upd H10 t11 (.tup [.ref p10,.bl false])=H11 at s11 r5;have el11:=(s10.trans s11) _ _ el;refine⟨l,_,_,rfl,rfl,el11,zaU (by show 4<=5000;decide),?_⟩;have kt12:KT H11 (upd H11 l (.lst ([.ref t2,.ref t3,.ref t6,.ref t7]++[.ref t11]))):=KT.lst el11;have s12:Same H (upd H11 l (.lst ([.ref t2,.ref t3,.ref t6,.ref t7]++[.ref t11]))):=zaq hl0 (sl.trans (s10.trans s11));have e12:upd H11 l (.lst ([.ref t2,.ref t3,.ref t6,.ref t7]++[.ref t11])) l=some (.lst ([.ref t2,.ref t3,.ref t6,.ref t7]++[.ref t11])):=zaa;have hv12:=hv.snoc (λx v h=>(h.kt (KT.of (s10.trans s11))).kt kt12) (r5.kt kt12);generalize upd H11 l (.lst ([.ref t2,.ref t3,.ref t6,.ref t7]++[.ref t11]))=H12 at kt12 s12 e12 hv12;refine⟨_,rfl,rfl,_,rfl,iteF ?_⟩;refine⟨_,rfl,k l H12 _ _ hl0 s12 e12 hv12 (λq hq=>?_) (by show 5<=6;decide)⟩;rcases AH.mp hq with m |m
   .exact hL q m
   .rw[Ah.mp m];exact c1
  .refine⟨_,rfl,none,rfl,_,rfl,iteT ?_⟩;refine⟨_,rfl,.inl ⟨rfl,_,SqL.of el⟩,_,rfl,_,rfl,_,rfl,e.w,rfl,hw,e.c,(2*e.w+7) % 8,rfl,BG _ (by decide),λp10 H10 hp10 s10 e10=>⟨two,λt11 ht11=>?_⟩⟩;have s11:Same H10 (upd H10 t11 (.tup [.ref p10,.bl false])):=Same.up ht11;have r5:sR (go e.c ((2*e.w+7) % 8),false) (.ref t11) (upd H10 t11 (.tup [.ref p10,.bl false])):=⟨t11,p10,rfl,zaa,s11 _ _ e10⟩;generalize upd H10 t11 (.tup [.ref p10,.bl false])=H11 at s11 r5;have el11:=(s10.trans s11) _ _ el;refine⟨l,_,_,rfl,rfl,el11,zaU (by show 4<=5000;decide),?_⟩;have kt12:KT H11 (upd H11 l (.lst ([.ref t2,.ref t3,.ref t6,.ref t7]++[.ref t11]))):=KT.lst el11;have s12:Same H (upd H11 l (.lst ([.ref t2,.ref t3,.ref t6,.ref t7]++[.ref t11]))):=zaq hl0 (sl.trans (s10.trans s11));have e12:upd H11 l (.lst ([.ref t2,.ref t3,.ref t6,.ref t7]++[.ref t11])) l=some (.lst ([.ref t2,.ref t3,.ref t6,.ref t7]++[.ref t11])):=zaa;have hv12:=hv.snoc (λx v h=>(h.kt (KT.of (s10.trans s11))).kt kt12) (r5.kt kt12);generalize upd H11 l (.lst ([.ref t2,.ref t3,.ref t6,.ref t7]++[.ref t11]))=H12 at kt12 s12 e12 hv12;refine⟨_,rfl,rfl,_,rfl,iteT ?_⟩;refine⟨_,rfl,.inl ⟨rfl,_,SqL.of e12⟩,_,rfl,_,rfl,_,rfl,e.w,rfl,hw,e.c,2*e.w,rfl,by lia,λp13 H13 hp13 s13 e13=>⟨two,λt14 ht14=>?_⟩⟩;have s14':Same H13 (upd H13 t14 (.tup [.ref p13,.bl false])):=Same.up ht14;have r6:sR (go e.c (2*e.w),false) (.ref t14) (upd H13 t14 (.tup [.ref p13,.bl false])):=⟨t14,p13,rfl,zaa,s14' _ _ e13⟩;generalize upd H13 t14 (.tup [.ref p13,.bl false])=H14 at s14' r6;have e14':=(s13.trans s14') _ _ e12;refine⟨l,_,_,rfl,rfl,e14',zaU (by show 5<=5000;decide),?_⟩;have kt15:KT H14 (upd H14 l (.lst (([.ref t2,.ref t3,.ref t6,.ref t7]++[.ref t11])++[.ref t14]))):=KT.lst e14';have s15:Same H (upd H14 l (.lst (([.ref t2,.ref t3,.ref t6,.ref t7]++[.ref t11])++[.ref t14]))):=zaq hl0 (s12.trans (s13.trans s14'));have e15:upd H14 l (.lst (([.ref t2,.ref t3,.ref t6,.ref t7]++[.ref t11])++[.ref t14])) l=some (.lst (([.ref t2,.ref t3,.ref t6,.ref t7]++[.ref t11])++[.ref t14])):=zaa;have hv15:=hv12.snoc (λx v h=>(h.kt (KT.of (s13.trans s14'))).kt kt15) (r6.kt kt15);refine⟨_,rfl,k l _ _ _ hl0 s15 e15 hv15 (λq hq=>?_) (by show 6<=6;decide)⟩;rcases AH.mp hq with m |m
   .rcases AH.mp m with m |m
    .exact hL q m
    .rw[Ah.mp m];exact c1
   .rw[Ah.mp m];exact c2
noncomputable def Known(C:Cell->Bool)(kvs:List (List Key×V)):Prop:=∀c v,valV kvs (kC c)=some v->v=.bl (C c)
noncomputable def zeS(K:W.Frag):Sp:=λvs H Q _=>∃(a:Addr) (C:Cell->Bool) (es:List Edge),vs=[.ref a]/\LR K H a (wk C es) wR/\(∀e∈es,IsE C e)/\es.length<=500/\∀H',Same H H'->Q .non H'
theorem zex (g_seen_between:Fn P w K mg base 3 "seen_between" ["edge","step"] (zla K)) (d:Df K mg "gainsaid_at" zck ["walk"]):FnOk P w K mg base CX0 4 d.f d.fd ["walk"] (zeS K):=by
 refine d.F.ok zaJ (λvs H Q E h=>?_) (λcdv A outer s H vs Q E hr h=>?_)
 .obtain⟨a,C,es,rfl,_⟩:=h;rfl
 .obtain⟨a,C,es,rfl,hLR,hE,hlen,k⟩:=h;have hu1:=hu_of hr
  refine⟨_,(zac (sE 1 zaJ.nd zhJ)
   (zac (sE 2 zaJ.nd zae)
   (zac (zbG Bg rfl (zaB (pv 0)) (za8 (by rfl) (zag (nG 3 zaJ.nd) (zag (nG 4 zaJ.nd) zas)))
   (zac (zbG Bg rfl (zaB (pC g_seen_between hr (pa_N (pv 3) (pa_N (pv 4) zab)))) (za8 (by rfl) (zag (nG 5 zaJ.nd) (zag (nG 6 zaJ.nd) zas)))
   (zaf (ps_if (zam op_ne (zkx hu1 (pv 1) (pv 5) (pv 6) ⟨rfl,rfl,rfl,rfl⟩) (pv 6) (zan _))
   (zaf (zal (pv 2)))
   zaA)))
   (zaf (ps_if (zam zfr (pv 4) zbS (zan _))
   (zaf (zmF (i:=2) zaJ.nd (by rfl) (Or.inl rfl) zae zmV))
   zaA))))
   (zaf (zal zbS))))),?_⟩
  obtain⟨ws,hq,hv⟩:=hLR.vr;have hwl:ws.length=es.length:=by rw[hv.1,zby]
  refine λdd hdd=>?_
  have s0:Same H (upd H dd (.dT [])):=Same.up hdd;have d0:upd H dd (.dT []) dd=some (.dT []):=zaa;generalize upd H dd (.dT [])=H0 at s0 d0;refine⟨_,rfl,a,rfl,⟨_,s0.seq hq⟩,?_⟩
  refine zar (K:=K) (a:=a) (xs:=ws) (λi σ H1=>∃(n:Int) (o3 o4 o5 o6:Option V) (kvs:List (List Key×V)),σ=[some (.ref a),some (.ref dd),some (.int n),o3,o4,o5,o6]/\Same H H1/\H1 dd=some (.dT kvs)/\Known C kvs/\kvs.length<=6*i)
   ⟨_,_,_,_,_,[],rfl,s0,d0,(λc v h=>by cases h),A9 _⟩ (λi σ H1 _ ⟨_,_,_,_,_,_,_,s1,_⟩=>s1.seq hq) ?_ ?_
  .rintro i v σ H1 hi ⟨n,o3,o4,o5,o6,kvs,rfl,s1,d1,hk,hkl⟩;obtain⟨⟨e,st⟩,he,B,b,rfl,q1,q2⟩:=hv.at hi;have hi':i<es.length:=by rw[<- hwl];exact (Ad.mp hi).1
   have he':es[i]?=some e/\st=stepB C e:=by
    unfold wk at he;rw[AC]at he;obtain⟨g,hg,eg⟩:=Ca.mp he
    cases eg
    exact⟨hg,rfl⟩
   obtain⟨he1,rfl⟩:=he';have hEe:=hE e (Aj he1);refine⟨B,_,rfl,SqT.of (s1 _ _ q1),rfl,_,_,rfl,_,_,rfl,rfl,?_⟩;refine⟨_,rfl,_,rfl,b,C,e,rfl,s1 _ _ q2,hEe,λp H2 ss L hp s2 e2 hs2 hL hLl=>?_⟩;have hpd:p≠dd:=λz=>by subst z;rw[d1]at hp;cases hp
   have d2:=s2 _ _ d1;refine⟨p,rfl,⟨_,SqL.of e2⟩,?_⟩
   refine zar (K:=K) (a:=p) (xs:=ss) (λj σ H3=>∃(o5 o6:Option V) (kv3:List (List Key×V)),σ=[some (.ref a),some (.ref dd),some (.int n),some (.ref b),some (sv (stepB C e)),o5,o6]/\(∀z o,z≠dd->H2 z=some o->H3 z=some o)/\H3 dd=some (.dT kv3)/\Known C kv3/\kv3.length<=6*i+j)
    ⟨_,_,kvs,rfl,(λz o _ h=>h),d2,hk,by lia⟩ (λj σ H3 _ ⟨_,_,_,_,k3,_⟩=>SqL.of (k3 _ _ hpd e2)) ?_ ?_
   .rintro j u σ H3 hj ⟨o5,o6,kv3,rfl,k3,d3,hk3,hl3⟩;obtain⟨⟨c,t⟩,hq',A2,b2,rfl,r1,r2⟩:=hs2.at hj;have hjl:j<L.length:=by rw[<- hs2.1];exact (Ad.mp hj).1
    have hct:C c=t:=hL _ (Aj hq');have nA:A2≠dd:=ne_of r1 d2 (λz=>nomatch z);have nb:b2≠dd:=ne_of r2 d2 (λz=>nomatch z);refine⟨A2,_,rfl,SqT.of (k3 _ _ nA r1),rfl,_,_,rfl,_,_,rfl,rfl,?_⟩;refine⟨_,rfl,dd,rfl,.inr ⟨_,Rd.of d3⟩,_,rfl,_,rfl,kv3,kC c,b2,d3,rfl,k3 _ _ nb r2,zaU (by lia),λv hv'=>?_,λhn=>?_⟩
    .have hv2:v=.bl t:=by rw[hk3 c v hv',hct]
     subst hv2;refine⟨_,rfl,rfl,_,rfl,iteN (by simp) ?_⟩;exact⟨_,_,kv3,rfl,k3,d3,hk3,by lia⟩
    .refine⟨_,rfl,rfl,_,rfl,iteN (by simp) ?_⟩;refine⟨_,_,putK kv3 (kC c) (.bl t),rfl,(λz o hz h=>by rw[zai hz];exact k3 z o hz h),zaa,(λc' v' hv'=>?_),AW (zaR _ _ _) (by lia)⟩;rw[zcI]at hv'
     by_cases ec:c'=c
     .subst ec;rw[if_pos rfl]at hv'
      cases hv'
      rw[hct]
     .rw[if_neg (λz=>ec (zjH.mp z))]at hv';exact hk3 c' v' hv'
   .rintro σ H3 ⟨o5,o6,kv3,rfl,k3,d3,hk3,hl3⟩;have s3:Same H H3:=λz o h=>k3 z o (zak h hdd) (s2 _ _ (s1 _ _ h))
    have hl4:kv3.length<=6*(i+1):=by have:=hs2.1;lia
    cases hst:stepB C e with
    |none =>
     refine⟨_,rfl,rfl,_,rfl,iteF ?_⟩;exact⟨_,_,_,_,_,kv3,rfl,s3,d3,hk3,hl4⟩
    |some z =>
     refine⟨_,rfl,rfl,_,rfl,iteT ?_⟩;refine⟨_,rfl,_,_,rfl,rfl,?_⟩;exact⟨_,_,_,_,_,kv3,rfl,s3,d3,hk3,hl4⟩
  .rintro σ H1 ⟨n,o3,o4,o5,o6,kvs,rfl,s1,d1,hk,hkl⟩;exact k H1 s1
theorem zk1{α:Type}{xs:List α}(h:0<xs.length):atI xs (-1)=xs[xs.length-1]?:=by unfold atI ixN;rw[if_neg (by decide),if_pos (by lia)];show xs[((-1:Int)+xs.length).toNat]?=_;rw[show ((-1:Int)+xs.length).toNat=xs.length-1 by lia]
noncomputable def zi5(K:W.Frag):Sp:=λvs H Q _=>∃(a:Addr) (C:Cell->Bool) (b:Edge) (es:List Edge),vs=[.ref a]/\LR K H a (wk C es) wR/\Closed C b es/\es.length<=500/\∀H',Same H H'->Q (.bl true) H'
theorem zfx (g_edge_behind:Fn P w K mg base 2 "edge_behind" ["edge","step"] (zdT K)) (d:Df K mg "comes_back" zcz ["walk"]):FnOk P w K mg base CX0 3 d.f d.fd ["walk"] (zi5 K):=by
 refine d.F.ok zch (λvs H Q E h=>?_) (λcdv A outer s H vs Q E hr h=>?_)
 .obtain⟨a,C,b,es,rfl,_⟩:=h;rfl
 .obtain⟨a,C,b,es,rfl,hLR,hcl,hlen,k⟩:=h;have hu64:=hr.units
  refine⟨_,(zac (zbm (pe_ix zaS (pv 0) (pe_un zk3 zae) (λ_ _=>rfl)) (za8 (by rfl) (zag (nG 1 zch.nd) (zag (nG 2 zch.nd) zas))))
   (zaf (zal (zbc (zlo hu64) (pC g_edge_behind hr (pa_N (pv 1) (pa_N (pv 2) zab))) (pe_ix zb0 (pe_ix zaS (pv 0) zae (λ_ _=>rfl)) zae (λ_ _=>rfl)) (zan _))))),?_⟩
  obtain⟨ws,hq,hv⟩:=hLR.vr;have hwl:ws.length=es.length:=by rw[hv.1,zby]
  have hp:=hcl.pos;obtain⟨hch,l,hl,hb⟩:=id hcl;obtain⟨v1,hv1⟩:∃v,ws[ws.length-1]?=some v:=⟨_,Aa (by lia)⟩;obtain⟨⟨e1,st1⟩,he1,B1,b1,rfl,q1,q2⟩:=hv.at hv1;obtain⟨v0,hv0⟩:∃v,ws[0]?=some v:=⟨_,Aa (by lia)⟩;obtain⟨⟨e0,st0⟩,he0,B0,b0,rfl,r1,r2⟩:=hv.at hv0
  have h1:e1=l/\st1=stepB C l:=by
   unfold wk at he1;rw[hwl,AC,hl]at he1
   cases he1;exact⟨rfl,rfl⟩
  obtain⟨rfl,rfl⟩:=h1
  have h0:e0=b:=by
   unfold wk at he0;rw[AC,hch.1]at he0
   cases he0;rfl
  subst h0;have hEl:IsE C e1:=hch.2.2.1 e1 (Aj hl);refine⟨_,rfl,_,rfl,a,ws,_,_,rfl,rfl,hq,(zk1 (by lia)).trans hv1,?_⟩;refine⟨B1,_,rfl,SqT.of q1,rfl,_,_,rfl,_,_,rfl,rfl,?_⟩;refine⟨_,rfl,_,rfl,b1,e1,stepB C e1,rfl,SqT.of q2,hEl.1,zcL hEl.1,λp H1 hp1 s1 f1=>?_⟩;refine⟨_,rfl,a,ws,_,_,rfl,rfl,s1.seq hq,(zaw (j:=0) hv0),B0,_,_,_,rfl,rfl,SqT.of (s1 _ _ r1),zaw (j:=0) rfl,?_⟩;refine⟨_,_,zcC f1,zcC (s1 _ _ r2),zaC _,zaC _,?_⟩;rw[zcG,decide_eq_true (by show eI (nxt C e1)=eI e0;rw[hb])];exact k H1 s1
theorem nL_wk(C:Cell->Bool)(es:List Edge):nL (wk C es)=(es.filter λe=>(stepB C e).isNone).length:=by unfold nL wk;rw[List.filter_map,Ao];rfl
theorem nS_wk(C:Cell->Bool)(es:List Edge):nS (wk C es)=(es.filter λe=>slant (stepB C e)).length:=by unfold nS wk;rw[List.filter_map,Ao];rfl
theorem zlB{C:Cell->Bool}{b:Edge}{es:List Edge}(h:Closed C b es):(nL (wk C es):Int)-nS (wk C es)=4∨(nL (wk C es):Int)-nS (wk C es)=-4:=by rw[nL_wk,nS_wk,<- zhp];exact h.turning
noncomputable def zeR(K:W.Frag):Sp:=λvs H Q _=>∃(a:Addr) (C:Cell->Bool) (b:Edge) (es:List Edge),vs=[.ref a,.str (sortS (wk C es))]/\LR K H a (wk C es) wR/\Closed C b es/\es.length<=500/\∀H',Same H H'->Q (.bl true) H'
theorem zgq (T:Txt P w K mg) (g_comes_back:Fn P w K mg base 3 "comes_back" ["walk"] (zi5 K)) (g_lefts_less_slants:Fn P w K mg base 3 "lefts_less_slants" ["walk"] (zi1 K)) (d:Df K mg "is_closed" zc0 ["walk","sort"]):FnOk P w K mg base CX0 4 d.f d.fd ["walk","sort"] (zeR K):=by
 refine d.F.ok zgi (λvs H Q E h=>?_) (λcdv A outer s H vs Q E hr h=>?_)
 .obtain⟨a,C,b,es,rfl,_⟩:=h;rfl
 .obtain⟨a,C,b,es,rfl,hLR,hcl,hlen,k⟩:=h;refine⟨_,(zaf (zal (zjo (pC g_comes_back hr (pa_N (pv 0) zab)) (zhH (zbc op_eq (pC g_lefts_less_slants hr (pa_N (pv 0) zab)) (zmH (by rfl) T.more (pv 1)) (zan _)))))),?_⟩;refine⟨_,rfl,a,C,b,es,rfl,hLR,hcl,hlen,λH1 s1=>⟨_,rfl,iteT ?_⟩⟩;refine⟨_,rfl,a,wk C es,rfl,hLR.same s1 (λx v h=>h.same s1),by rw[zby];lia,λH2 s2=>⟨_,rfl,?_⟩⟩;rcases zlB hcl with t |t
  .refine .inl ⟨?_,rfl,?_⟩
   .unfold sortS;rw[if_pos (by lia)]
   .rw[t,decide_eq_true rfl];exact k H2 (s1.trans s2)
  .refine .inr ⟨?_,rfl,?_⟩
   .unfold sortS;rw[if_neg (by lia)]
   .rw[t,decide_eq_true rfl];exact k H2 (s1.trans s2)
theorem IsRnd.walk{C:Cell -> Bool}{b:Edge}{es:List Edge}{r:Rnd}(h:Closed C b es)(k:IsRnd (wk C es) r) :
  ∃es',Closed C (begE r) es'/\es'.Perm es/\r.row=(es'.map (stepB C)).filterMap id/\zct (wk C es') r.so (begE r)/\r.so=sortS (wk C es')/\IsRnd (wk C es') r:=by
 obtain⟨r0,j,f,rf,⟨rb,rw',rl⟩,rx,ry,rr⟩:=id k;rw[zdb]at rf rb rl
 have ef:begE r=f:=by obtain⟨⟨x,y⟩,w⟩:=f;unfold begE;rw[rx,ry,r0];simp only at rw' ⊢;rw[rw']
 have h1:=h.rot j rf;have pm:=zfm es j;have ss:=zeT (C:=C) pm
 have hrow:r.row=((es.drop j++es.take j).map (stepB C)).filterMap id:=by rw[rr];unfold wk;rw[<- List.map_drop,<- List.map_take,<- A6,BU,BU];rfl
 have hb:zct (wk C (es.drop j++es.take j)) r.so f:=⟨by rw[zdb];exact pm.mem_iff.mpr rb,by rw[rw',r0],λg hg hw=>by rw[zdb]at hg;exact rl g (pm.mem_iff.mp hg) (by rw[hw,r0])⟩
 rw[ef];refine⟨_,h1,pm,hrow,hb,by rw[r0,ss],by rw[r0,ss],0,f,by rw[zdb];exact h1.1.1,by rw[ss,<- r0];exact hb,rx,ry,?_⟩;rw[hrow,List.drop_zero,Dz,Bf];unfold wk;rw[BU,BU];rfl
noncomputable def zht(K:W.Frag):Sp:=λvs H Q _=>∃(v:V) (r:Rnd) (C:Cell->Bool) (es:List Edge),vs=[v]/\rR r v H/\Closed C (begE r) es/\r.row=(es.map (stepB C)).filterMap id/\zct (wk C es) r.so (begE r)/\r.so=sortS (wk C es)/\es.length<=500 /\
 ∀p H' ws,H p=none->Same H H'->H' p=some (.lst ws)->VR ws (wk C es) wR H'->Q (.ref p) H'
theorem ziw (g_begin_edge:Fn P w K mg base 1 "begin_edge" ["one"] zgd) (g_walk_along:Fn P w K mg base 4 "walk_along" ["begin", "row"] (zdS K)) (g_gainsaid_at:Fn P w K mg base 4 "gainsaid_at" ["walk"] (zeS K))
  (g_is_closed:Fn P w K mg base 4 "is_closed" ["walk","sort"] (zeR K)) (g_begin_of:Fn P w K mg base 3 "begin_of" ["walk","sort"] (zgU K)) (d:Df K mg "walk_of" zd0 ["one"]):FnOk P w K mg base CX0 5 d.f d.fd ["one"] (zht K):=by
 refine d.F.ok zbk (λvs H Q E h=>?_) (λcdv A outer s H vs Q E hr h=>?_)
 .obtain⟨v,r,C,es,rfl,_⟩:=h;rfl
 .obtain⟨v,r,C,es,rfl,hv,hcl,hrow,hbg,hso,hlen,k⟩:=h;have hu64:=hr.units
  refine⟨_,(zac (zbm (pv 0) (za8 (by rfl) (zag (nG 1 zbk.nd) (zag (nG 2 zbk.nd) (zag (nG 3 zbk.nd) (zag (nG 4 zbk.nd) zas))))))
   (zac (sE 5 zbk.nd (pC g_begin_edge hr (pa_N (pv 0) zab)))
   (zac (sE 6 zbk.nd (pC g_walk_along hr (pa_N (pv 5) (pa_N (pv 4) zab))))
   (zac (sE 7 zbk.nd (pC g_gainsaid_at hr (pa_N (pv 6) zab)))
   (zac (ps_if (zam zfr (pv 7) zbS (zan _))
   (zaf zdi)
   zaA)
   (zac (ps_if (pw_or (zhD (zdh (pC g_is_closed hr (pa_N (pv 6) (pa_N (pv 1) zab))))) (zlh (zam (zd6 hu64) (pC g_begin_of hr (pa_N (pv 6) (pa_N (pv 1) zab))) (pv 5) (zan _)))).pt
   (zaf zdi)
   zaA)
   (zaf (zal (pv 6))))))))),?_⟩
  obtain⟨a,b,rfl,q1,q2⟩:=id hv;have hE:IsE C (begE r):=hcl.1.2.2.1 _ (Aj hcl.1.1);have so2:r.so = "rim" ∨ r.so = "hole":=by rw[hso];exact zde _
  have hrl:r.row.length<=500:=by rw[hrow];exact AW (DO _ _) (by rw[Ao];exact hlen)
  have hdd:deeds (begE r).w r.row=es.map (stepB C):=by rw[hrow];exact hcl.deeds.symm
  refine⟨_,rfl,a,_,rfl,SqT.of q1,rfl,_,_,rfl,_,_,rfl,_,_,rfl,_,_,rfl,rfl,?_⟩;refine⟨_,rfl,.ref a,r,rfl,hv,so2,λp1 H1 hp1 s1 e1=>?_⟩;refine⟨_,rfl,_,rfl,p1,b,begE r,r.row,rfl,e1,hE.1,SqT.of (s1 _ _ q2),hrl,(λz hz=>?_),λp H2 ws hp s2 e2 hw=>?_⟩
  .rw[hdd]at hz;obtain⟨e,he,ez⟩:=AS.mp hz;exact zcL (hcl.1.2.2.1 e he).1 z ez
  rw[hdd,zf2 es (.inl hcl.1.1) hcl.1.2.1]at hw;have lr:LR K H2 p (wk C es) wR:=LR.of e2 hw;refine⟨_,rfl,p,C,es,rfl,lr,hcl.1.2.2.1,hlen,λH3 s3=>?_⟩;refine⟨_,rfl,rfl,_,rfl,iteF ?_⟩;have lr3:=lr.same s3 (λx v h=>h.same s3);refine⟨_,rfl,_,rfl,p,C,begE r,es,(by rw[<- hso];rfl),lr3,hcl,hlen,λH4 s4=>⟨_,rfl,iteF ?_⟩⟩;have lr4:=lr3.same s4 (λx v h=>h.same s4);refine⟨_,rfl,_,rfl,p,wk C es,r.so,rfl,so2,lr4,by rw[zby];lia,⟨begE r,hbg.1,hbg.2.1⟩,λb5 e5 H5 s5 f5 ib=>?_⟩;have ee:e5=begE r:=ib.one (List.Perm.refl _) hbg;subst ee;have s25:=s3.trans (s4.trans s5);refine⟨_,rfl,_,_,zcC f5,zcC ((s2.trans s25) _ _ e1),zaC _,zaC _,_,rfl,iteN (by rw[zcG,decide_eq_true rfl];rfl) ?_⟩;refine⟨_,rfl,k p H5 ws (s1.free hp) (s1.trans (s2.trans s25)) (s25 _ _ e2) (hw.mono λx v h=>h.same s25)⟩
noncomputable def rowI(row:List Nat):List Int:=row.map λn:Nat=>(n:Int)
noncomputable def dR(r:Rnd):PyData:=.tuple [.str r.so,.int r.x,.int r.y,tI (rowI r.row)]
theorem zlg(row:List Nat):rowV row=(rowI row).map V.int:=by unfold rowV rowI;rw[List.map_map];rfl
theorem zko{a b:List Nat}(h:rowI a=rowI b):a=b:=by unfold rowI at h;exact List.map_inj_right (f:=λn:Nat=>(n:Int)) (λx y e=>by lia) |>.mp h
theorem zhB{K:W.Frag}{H:Hp}{r:Rnd}{v:V}(h:rR r v H):RD K H v (dR r):=by obtain⟨a,b,rfl,q1,q2⟩:=h;refine .tup (SqT.of q1) (.cons (.str _) (.cons (.int _) (.cons (.int _) (.cons (.tup (SqT.of q2) ?_) .nil))));rw[zlg];exact RDs.ints _
theorem zjP(r q:Rnd):Bv (dR r) (dR q)=decide (r=q):=by
 show ((r.so == q.so) && ((r.x == q.x) && ((r.y == q.y) && (Bv (tI (rowI r.row)) (tI (rowI q.row)) && true))))=_;rw[zcG,Bool.and_true];obtain⟨a,b,c,d⟩:=r;obtain⟨a',b',c',d'⟩:=q;simp only
 by_cases h1:a=a'
 .by_cases h2:b=b'
  .by_cases h3:c=c'
   .by_cases h4:d=d'
    .subst h1 h2 h3 h4;simp
    .have:¬ rowI d=rowI d':=λz=>h4 (zko z)
     simp[h4,this]
   .simp[h3]
  .simp[h2]
 .have:(a == a')=false:=by rw[beq_eq_false_iff_ne];exact h1
  rw[this];simp[h1]
noncomputable abbrev SoOk (r:Rnd):Prop:=r.so = "rim" ∨ r.so = "hole"
theorem zgE{r:Rnd}(h:SoOk r):CG (dR r)=true:=by have:=zaC (rowI r.row);unfold Bc at this;rw[Bp]at this;show (PyData.strOk r.so && (true && (true && (CG (tI (rowI r.row)) && true))))=true;rw[this.1];rcases h with h |h <;> rw[h] <;> decide +kernel
theorem zic(ns:List Int):B9 (tI ns)=1:=by unfold tI;rw[B9,zcr]
theorem zfQ(r:Rnd):B9 (dR r)=2:=by show B9 (.tuple [.str r.so,.int r.x,.int r.y,tI (rowI r.row)])=2;rw[B9];show max 0 (max 0 (max 0 (max (B9 (tI (rowI r.row))) 0)))+1=2;rw[zic];rfl
theorem zgg{r:Rnd}(h:SoOk r):Bc (dR r)=true:=by unfold Bc;rw[zgE h,zfQ];rfl
noncomputable def lR(R:List Rnd):PyData:=.list (R.map dR)
theorem zgB:∀R S:List Rnd,Di (R.map dR) (S.map dR)=decide (R=S)
 |[],[]=>rfl
 |[],_::_=>rfl
 |_::_,[]=>rfl
 |r::R,q::S=>by
  show (Bv (dR r) (dR q) && Di (R.map dR) (S.map dR))=_;rw[zgB R S,zjP]
  by_cases e:r=q
  .subst e;by_cases e2:R=S <;> simp[e2]
  .simp[e]
theorem zh6(R S:List Rnd):Bv (lR R) (lR S)=decide (R=S):=zgB R S
theorem zbE:∀R:List Rnd,(∀r∈R,SoOk r)->BQ (R.map dR)=true
 |[],_=>rfl
 |r::R,h=>by show (CG (dR r) && BQ (R.map dR))=true;rw[zgE (h r An),zbE R λq hq=>h q (Ap _ hq)];rfl
theorem zek:∀R:List Rnd,B5 (R.map dR)<=2
 |[]=>A9 _
 |r::R=>by show max (B9 (dR r)) (B5 (R.map dR))<=2;rw[zfQ];have:=zek R;lia
theorem zgf{R:List Rnd}(h:∀r∈R,SoOk r):Bc (lR R)=true:=by unfold Bc lR;rw[CG,zbE R h,B9];have:=zek R;simp only[Bool.true_and,decide_eq_true_eq];lia
theorem zdt{K:W.Frag}{H:Hp}:∀{vs:List V}{R:List Rnd},VR vs R rR H->RDs K H vs (R.map dR)
 |[],[],_=>.nil
 |[],_::_,h=>by have:=h.1;cases this
 |_::_,[],h=>by have:=h.1;cases this
 |v::vs,r::R,h=>by
  obtain⟨h1,h2⟩:=VR.cons.mp h;exact .cons (zhB h1) (zdt h2)
theorem zbA{K:W.Frag}{H:Hp}{a:Addr}{vs:List V}{R:List Rnd}(e:SqL K H a vs)(h:VR vs R rR H):RD K H (.ref a) (lR R):=.lst e (zdt h)
theorem Whole.few{cs:List Cell}{R:List Rnd}(h:Whole cs R):R.length<=cs.length:=let ⟨_,hP,_⟩:=h;hP.few
structure Can (C:Cell->Bool) (es:List Edge) (r:Rnd):Prop where
 cl:Closed C (begE r) es
 row:r.row=(es.map (stepB C)).filterMap id
 bg:zct (wk C es) r.so (begE r)
 so:r.so=sortS (wk C es)
inductive Al {α β:Type} (P:α->β->Prop):List α->List β->Prop where
 |nil:Al P [] []
 |cons {a:α} {b:β} {l:List α} {m:List β}:P a b->Al P l m->Al P (a::l) (b::m)
theorem Al.of{α β:Type}{P:α->β->Prop}:∀{l:List α}{m:List β},l.length=m.length->(∀(i:Nat) a b,m[i]?=some b->l[i]?=some a->P a b)->Al P l m
 |[],[],_,_=>.nil
 |[],_::_,h,_=>by cases h
 |_::_,[],h,_=>by cases h
 |a::l,b::m,h,q=>.cons (q 0 a b rfl rfl) (Al.of (by simpa using h) λi x y h1 h2=>q (i+1) x y (by simpa using h1) (by simpa using h2))
theorem Al.length{α β:Type}{P:α->β->Prop}{l:List α}{m:List β}(h:Al P l m):l.length=m.length:=by
 induction h with
 |nil=>rfl
 |cons _ _ ih=>simp[ih]
theorem Al.at{α β:Type}{P:α->β->Prop}{l:List α}{m:List β}(h:Al P l m):∀{i:Nat}{a:α}{b:β},m[i]?=some b->l[i]?=some a->P a b:=by
 induction h with
 |nil=>intro i a b h1;simp at h1
 |cons p _ ih =>
  intro i a b h1 h2
  cases i with
  |zero=>simp at h1 h2;subst h1 h2;exact p
  |succ i=>exact ih (by simpa using h1) (by simpa using h2)
theorem Al.perm{α β:Type}{P:α->β->Prop}{l' l:List α}(p:l'.Perm l):∀{m:List β},Al P l m->∃m',m'.Perm m/\Al P l' m':=by
 induction p with
 |nil=>intro m h;exact⟨m,.refl _,h⟩
 |cons a _ ih =>
  intro m h
  cases h with
  |cons p t =>
   obtain⟨m',q,r⟩:=ih t;exact⟨_::m',q.cons _,.cons p r⟩
 |swap a b l =>
  intro m h
  cases h with
  |cons p t =>
   cases t with
   |cons p2 t2=>exact⟨_::_::_,.swap _ _ _,.cons p2 (.cons p t2)⟩
 |trans _ _ ih1 ih2 =>
  intro m h;obtain⟨m1,q1,r1⟩:=ih2 h;obtain⟨m2,q2,r2⟩:=ih1 r1;exact⟨m2,q2.trans q1,r2⟩
theorem Al.bind{α γ:Type}{P Q:α->List γ->Prop}(f:∀a b,P a b->∃c,Q a c/\c.Perm b){l:List α}{m:List (List γ)}(h:Al P l m):∃m',Al Q l m'/\m'.flatten.Perm m.flatten:=by
 induction h with
 |nil=>exact⟨[],.nil,.refl _⟩
 |cons p _ ih =>
  obtain⟨c,q1,q2⟩:=f _ _ p;obtain⟨m',r1,r2⟩:=ih;exact⟨c::m',.cons q1 r1,by rw[By,By];exact q2.append r2⟩
theorem zgA{γ:Type}{a b:List (List γ)}(p:a.Perm b):a.flatten.Perm b.flatten:=by
 induction p with
 |nil=>exact .refl _
 |cons x _ ih=>rw[By,By];exact ih.append_left _
 |swap x y l =>
  simp only[By];rw[<- AL,<- AL];exact List.perm_append_comm.append_right _
 |trans _ _ i1 i2=>exact i1.trans i2
structure Cans (C:Cell->Bool) (ESS:List (List Edge)) (R:List Rnd):Prop where
 al:Al (λr es=>Can C es r) R ESS
 nd:ESS.flatten.Nodup
 all:∀e,e∈ESS.flatten ↔ IsE C e
theorem Whole.cans{cs:List Cell}{R R0:List Rnd}(p:R.Perm R0)(h:Whole cs R0):∃ESS,Cans (isIn cs) ESS R:=by
 obtain⟨E,h1,h2⟩:=h;have a1:Al (λr es=>(∃b,Closed (isIn cs) b es)/\IsRnd (wk (isIn cs) es) r) R0 E:=Al.of h1.len λi r es e1 e2=>h1.each i es r e1 e2
 obtain⟨F,q1,a2⟩:=a1.perm p
 obtain⟨G,a3,q2⟩:=Al.bind (Q:=λr es=>Can (isIn cs) es r) (λr es ⟨⟨b,hb⟩,hr⟩=>by obtain⟨es',k1,k2,k3,k4,k5,_⟩:=IsRnd.walk hb hr;exact⟨es',⟨k1,k3,k4,k5⟩,k2⟩) a2
 have pm:=q2.trans (zgA q1);exact⟨G,a3,pm.nodup_iff.mpr h1.nd,λe=>by rw[pm.mem_iff];exact h2 e⟩
theorem Cans.so{C:Cell->Bool}{ESS:List (List Edge)}{R:List Rnd}(h:Cans C ESS R){i:Nat}{r:Rnd}(hr:R[i]?=some r):∃es,ESS[i]?=some es/\Can C es r:=by have hi:=(Ad.mp hr).1;rw[h.al.length]at hi;exact⟨_,Aa hi,h.al.at (Aa hi) hr⟩
noncomputable def zaF(c:Cell):List Nat->List Cell
 |[]=>[c]
 |s::ss=>c::zaF (go c s) ss
noncomputable def endC(c:Cell)(l:List Nat):Cell:=l.foldl go c
theorem zeQ:∀(l:List Nat) (c:Cell) (s:Nat),zaF c (l++[s])=zaF c l++[go (endC c l) s]
 |[],c,s=>rfl
 |x::l,c,s=>by
  show c::zaF (go c x) (l++[s])=(c::zaF (go c x) l)++[go (endC (go c x) l) s];rw[zeQ l (go c x) s];rfl
theorem zjR(l:List Nat)(c:Cell)(s:Nat):endC c (l++[s])=go (endC c l) s:=by unfold endC;rw[List.foldl_append];rfl
theorem zhO{C:Cell->Bool}{e:Edge}(h:stepB C e=none):(nxt C e).c=e.c:=by unfold nxt;rw[h];rfl
theorem zhN{C:Cell->Bool}{e:Edge}{s:Nat}(h:stepB C e=some s):(nxt C e).c=go e.c s:=by unfold nxt;rw[h];show (if s % 2=1 then (⟨go e.c s,(e.w+3) % 4⟩:Edge) else ⟨go e.c s,e.w⟩).c=go e.c s;split <;> rfl
inductive Lnk (C:Cell->Bool):Edge->List Edge->Prop where
 |one (e:Edge):Lnk C e []
 |more {e:Edge} {es:List Edge}:Lnk C (nxt C e) es->Lnk C e (nxt C e::es)
theorem ziV{C:Cell->Bool}{e:Edge}{es:List Edge}(h:Lnk C e es)(c:Cell):c∈zaF e.c ((e::es).filterMap (stepB C)) ↔ (∃f∈e::es,f.c=c)∨c=(nxt C ((e::es).getLast (by simp))).c:=by
 induction h with
 |one e =>
  cases hs:stepB C e with
  |none =>
   rw[List.filterMap_cons_none hs];simp only[List.filterMap_nil,zaF,List.mem_singleton,List.getLast_singleton,zhO hs];constructor
   .rintro rfl;exact .inl ⟨e,by simp,rfl⟩
   .rintro (⟨f,hf,rfl⟩ |rfl)
    .rw[hf]
    .rfl
  |some s =>
   rw[List.filterMap_cons_some hs];simp only[List.filterMap_nil,zaF,List.mem_cons,List.not_mem_nil,or_false,List.getLast_singleton,zhN hs];constructor
   .rintro (rfl |rfl)
    .exact .inl ⟨e,rfl,rfl⟩
    .exact .inr rfl
   .rintro (⟨f,rfl,rfl⟩ |rfl)
    .exact .inl rfl
    .exact .inr rfl
 |@more e es h ih =>
  rw[List.getLast_cons (by simp)]
  cases hs:stepB C e with
  |none =>
   rw[List.filterMap_cons_none hs];have e1:=zhO hs;rw[e1]at ih;rw[ih];constructor
   .rintro (⟨f,hf,rfl⟩ |z)
    .exact .inl ⟨f,Ap _ hf,rfl⟩
    .exact .inr z
   .rintro (⟨f,hf,rfl⟩ |z)
    .rcases AM.mp hf with rfl |hf
     .exact .inl ⟨nxt C f,An,e1⟩
     .exact .inl ⟨f,hf,rfl⟩
    .exact .inr z
  |some s =>
   rw[List.filterMap_cons_some hs];have e1:=zhN hs;rw[e1]at ih;show c∈e.c::zaF (go e.c s) _ ↔ _;rw[List.mem_cons,ih];constructor
   .rintro (rfl |⟨f,hf,rfl⟩ |z)
    .exact .inl ⟨e,An,rfl⟩
    .exact .inl ⟨f,Ap _ hf,rfl⟩
    .exact .inr z
   .rintro (⟨f,hf,rfl⟩ |z)
    .rcases AM.mp hf with rfl |hf
     .exact .inl rfl
     .exact .inr (.inl ⟨f,hf,rfl⟩)
    .exact .inr (.inr z)
theorem zlq{C:Cell->Bool}:∀(es:List Edge) (e:Edge),(∀(i:Nat) f g,(e::es)[i]?=some f->(e::es)[i+1]?=some g->g=nxt C f)->Lnk C e es
 |[],e,_=>.one e
 |f::es,e,h=>by
  obtain rfl:f=nxt C e:=h 0 e f rfl rfl;exact .more (zlq es _ λi a b h1 h2=>h (i+1) a b (by simpa using h1) (by simpa using h2))
theorem Can.spots{C:Cell->Bool}{es:List Edge}{r:Rnd}(h:Can C es r)(c:Cell):c∈zaF (r.x,r.y) r.row ↔ c∈es.map (·.c):=by
 obtain⟨⟨h0,h1,_,_⟩,l,hl,hn⟩:=h.cl
 cases es with
 |nil=>simp at h0
 |cons e es =>
  have eb:e=begE r:=by simpa using h0
  have er:r.row=(e::es).filterMap (stepB C):=by rw[h.row,BU];rfl
  have ec:(r.x,r.y)=e.c:=by rw[eb];rfl
  have lst:(e::es).getLast (by simp)=l:=by rw[List.getLast_eq_getElem];have:=(Ad.mp hl);exact this.2
  rw[er,ec,ziV (zlq es e h1),lst,hn,List.mem_map];constructor
  .rintro (⟨f,hf,rfl⟩ |z)
   .exact⟨f,hf,rfl⟩
   .exact⟨e,An,by rw[z,eb]⟩
  .rintro⟨f,hf,rfl⟩;exact .inl ⟨f,hf,rfl⟩
structure Box where
 (a b c d:Int)
theorem VR.app{α:Type}{vs ws:List V}{l m:List α}{R:α->V->Hp->Prop}{H:Hp}(h:VR vs l R H)(k:VR ws m R H):VR (vs++ws) (l++m) R H:=by
 refine⟨by rw[Ak,Ak,h.1,k.1],λi x v h1 h2=>?_⟩
 by_cases hi:i<l.length
 .rw[Ax hi]at h1;rw[Ax (by rw[h.1];exact hi)]at h2;exact h.2 i x v h1 h2
 .rw[AK (by lia)]at h1;rw[AK (by rw[h.1];lia),h.1]at h2;exact k.2 _ x v h1 h2
noncomputable def lT(l:List (List Int)):PyData:=.list (l.map tI)
theorem zdD:∀l:List (List Int),BQ (l.map tI)=true
 |[]=>rfl
 |x::l=>by
  have:=zaC x;unfold Bc at this;rw[Bp]at this;show (CG (tI x) && BQ (l.map tI))=true;rw[this.1,zdD l];rfl
theorem zej:∀l:List (List Int),B5 (l.map tI)<=1
 |[]=>A9 _
 |x::l=>by show max (B9 (tI x)) (B5 (l.map tI))<=1;rw[zic];have:=zej l;lia
theorem zdf(l:List (List Int)):Bc (lT l)=true:=by unfold Bc lT;rw[CG,zdD l,B9];have:=zej l;simp only[Bool.true_and,decide_eq_true_eq];lia
noncomputable def cI(c:Cell):List Int:=[c.1,c.2]
theorem zdg{K:W.Frag}{H:Hp}:∀{vs:List V}{cs:List Cell},VR vs cs cR H->RDs K H vs ((cs.map cI).map tI)
 |[],[],_=>.nil
 |[],_::_,h=>by have:=h.1;cases this
 |_::_,[],h=>by have:=h.1;cases this
 |v::vs,r::R,h=>by
  obtain⟨⟨b,rfl,q⟩,h2⟩:=VR.cons.mp h;exact .cons (.tup (SqT.of q) (RDs.ints (cI r))) (zdg h2)
theorem zdK{K:W.Frag}{H:Hp}{a:Addr}{vs:List V}{cs:List Cell}(e:SqL K H a vs)(h:VR vs cs cR H):RD K H (.ref a) (lT (cs.map cI)):=.lst e (zdg h)
noncomputable def zgc(K:W.Frag):Sp:=λvs H Q _=>∃(v:V) (r:Rnd) (C:Cell->Bool) (es:List Edge),vs=[v]/\rR r v H/\Can C es r/\es.length<=480/\∀p H' us,H p=none->Same H H'->H' p=some (.lst us)->VR us es eR H'->Q (.ref p) H'
theorem zg7 (g_walk_of:Fn P w K mg base 5 "walk_of" ["one"] (zht K)) (d:Df K mg "edges_of" zcM ["one"]):FnOk P w K mg base CX0 6 d.f d.fd ["one"] (zgc K):=by
 refine d.F.ok zgX (λvs H Q E h=>?_) (λcdv A outer s H vs Q E hr h=>?_)
 .obtain⟨v,r,C,es,rfl,_⟩:=h;rfl
 .obtain⟨v,r,C,es,rfl,hv,hc,hlen,k⟩:=h;have nb0:(["edge","step"]:List Str).Nodup:=by decide +kernel
  refine⟨_,(zaf (zal (za6 (osc:=zad zcM) (N:=ze7) (N':=["edge","step"]) (sel:=[none,none]) bO (zaB (pC g_walk_of hr (pa_N (pv 0) zab))) (λ_ _ _ _ _=>(zcD (K:=K) (n:=2) (by rfl) (zag (nG 0 nb0) (zag (nG 1 nb0) zas)))) (λ_ _ _ _ _=>zbQ) (λ_ _ _ _ _=>(pv 0))))),?_⟩;refine⟨_,rfl,v,r,C,es,rfl,hv,hc.cl,hc.row,hc.bg,hc.so,by lia,λp H1 ws hp s1 e1 hw=>?_⟩;refine⟨p,rfl,⟨_,SqL.of e1⟩,λg hg=>?_⟩;have wl:ws.length=es.length:=by rw[hw.1,zby]
  refine zar (K:=K) (a:=p) (xs:=ws) (λj σ H2=>∃o0 o1,σ=[o0,o1]/\Same H1 H2/\∃zs,H2 g=some (.lst zs)/\VR zs (es.take j) eR H2)
   ⟨_,_,rfl,Same.up hg,[],zaa,VR.nil⟩ (λj σ H2 _ ⟨_,_,_,s2,_⟩=>SqL.of (s2 _ _ e1)) ?_ ?_
  .rintro j u σ H2 hj ⟨o0,o1,rfl,s2,zs,e2,hz⟩;have hjl:j<ws.length:=(Ad.mp hj).1;obtain⟨⟨f,st⟩,he,B,bb,rfl,q1,q2⟩:=hw.at hj
   have hf:es[j]?=some f:=by
    unfold wk at he;rw[AC]at he;obtain⟨y,hy,ey⟩:=Ca.mp he
    cases ey;exact hy
   have hl3:zs.length<=480:=by rw[hz.1,AQ];lia
   refine⟨B,_,rfl,SqT.of (s2 _ _ q1),rfl,_,_,rfl,_,_,rfl,rfl,?_⟩;refine zcf ?_
   refine⟨_,rfl,zs,e2,zaj (by lia),_,_,rfl,zaq hg s2,_,zaa,?_⟩;rw[zaz hf];exact hz.snoc (λx v h=>h.kt (KT.lst e2)) ⟨bb,rfl,KT.lst e2 _ _ (s2 _ _ q2)⟩
  .rintro σ H2 ⟨o0,o1,rfl,s2,zs,e2,hz⟩;rw[wl,AN]at hz;exact k g H2 zs (s1.free hg) (s1.trans s2) e2 hz
noncomputable def spUp(K:W.Frag):Sp:=λvs H Q _=>∃(p:Addr) (us:List V) (es:List Edge),vs=[.ref p]/\H p=some (.lst us)/\VR us es eR H/\es.length<=480/\∀a H' kvs B,UD H H' a es kvs B->Q (.ref a) H'
theorem zg2 (T:Txt P w K mg) (d:Df K mg "uprights" zdq ["edges"]):FnOk P w K mg base CX0 1 d.f d.fd ["edges"] (spUp K):=by
 refine d.F.ok zbK (λvs H Q E h=>?_) (λcdv A outer s H vs Q E hr h=>?_)
 .obtain⟨p,us,es,rfl,_⟩:=h;rfl
 .obtain⟨p,us,es,rfl,hp,hw,hlen,k⟩:=h
  refine⟨_,(zac (sE 1 zbK.nd zky)
   (zac (zbG Bg rfl (zaB (pv 0)) (za8 (by rfl) (zag (nG 2 zbK.nd) (zag (nG 3 zbK.nd) (zag (nG 4 zbK.nd) zas))))
   (zaf (ps_if (zam op_eq (pv 4) zae (zan _))
   (zaf (zbq (pe_bm AY Ba Bb za0 (zhI (pv 1) (pv 3) (zaZ zab) ⟨rfl,rfl,rfl,rfl⟩) (pa_B (pe_op zaG (pv 2) zae) zab))))
   (zaf (ps_if (zam op_eq (pv 4) zae (zan _))
   (zaf (zbq (pe_bm AY Ba Bb za0 (zhI (pv 1) (pv 3) (zaZ zab) ⟨rfl,rfl,rfl,rfl⟩) (pa_N (pv 2) zab))))
   zaA)))))
   (zaf (zal (pv 1))))),?_⟩
  intro a ha;have U0:=UD.start ha;refine⟨_,rfl,p,rfl,⟨_,SqL.of (U0.same _ _ hp)⟩,?_⟩
  refine zar (K:=K) (a:=p) (xs:=us) (λj σ H2=>∃o2 o3 o4 kvs B,σ=[some (.ref p),some (.ref a),o2,o3,o4]/\UD H H2 a (es.take j) kvs B)
   ⟨_,_,_,_,_,rfl,U0⟩ (λj σ H2 _ ⟨_,_,_,_,_,_,U⟩=>SqL.of (U.same _ _ hp)) ?_ ?_
  .rintro j u σ H2 hj ⟨o2,o3,o4,kvs,B,rfl,U⟩;obtain⟨f,hf,bf,rfl,qf⟩:=hw.at hj;have hjl:j<es.length:=(Ad.mp hf).1;have hkl:kvs.length<=480:=by have:=U.len;rw[AQ]at this;lia
   have hul:∀y,(upr (es.take j) y).length<=480:=λy=>by have h1:=AI (isUp y) (es.take j);have h2:=List.length_take_le j es;unfold upr;rw[Ao];lia
   refine⟨bf,_,rfl,SqT.of (U.same _ _ qf),rfl,_,_,rfl,_,_,rfl,_,_,rfl,rfl,?_⟩;refine⟨_,rfl,rfl,_,rfl,?_⟩;rw[zaz hf];refine ite2 (λhy=>?_) (λhn=>?_)
   .have hw1:f.w=1 := by have:=of_decide_eq_true hy;injection this with this;lia
    have hpx:V.int (px f)=V.int (f.c.1+1):=by simp[px,hw1]
    refine⟨_,rfl,a,rfl,.inl ⟨kvs,.inl U.dict⟩,_,rfl,A9 _,λz hz=>?_⟩;have nz:∀{b o},H2 b=some o->b≠z:=λq w=>by rw[w,hz]at q;cases q
    refine⟨kvs,.inl f.c.2,by rw[zai (nz U.dict)];exact U.dict,rfl,zaj (by lia),λv hv=>?_,λhv=>?_⟩
    .by_cases hy:upr (es.take j) f.c.2=[]
     .rw[U.no _ hy]at hv;cases hv
     .obtain⟨b1,b2,b3,b4⟩:=U.at_ _ hy;rw[b1]at hv
      cases hv
      have e3:upd H2 z (.lst []) (B f.c.2)=some (.lst ((upr (es.take j) f.c.2).map V.int)):=by rw[zai (nz b2)];exact b2
      have U':=U.more (Or.inl hw1) hz hy;rw[hpx]at U';exact⟨.inl ⟨rfl,_,SqL.of e3⟩,_,rfl,_,_,rfl,rfl,_,_,_,rfl,rfl,e3,zaj (by rw[Ao];have:=hul f.c.2;lia),_,_,_,kvs,B,rfl,U'⟩
    .have hy:upr (es.take j) f.c.2=[]:=BI λhy=>by rw[(U.at_ _ hy).1]at hv;cases hv
     have e3:upd (upd H2 z (.lst [])) a (.dK (putK kvs (.inl f.c.2) (.ref z))) z=some (.lst []):=by rw[zai (nz U.dict).symm];exact zaa
     have U':=U.first (Or.inl hw1) hz hy;rw[hpx]at U';exact⟨.inl ⟨rfl,_,SqL.of e3⟩,_,rfl,_,_,rfl,rfl,_,_,_,rfl,rfl,e3,zaj (by simp),_,_,_,_,_,rfl,U'⟩
   .have hw1:f.w≠1:=λz=>hn (by rw[z];rfl)
    refine⟨_,rfl,rfl,_,rfl,?_⟩;refine ite2 (λhy=>?_) (λhn3=>?_)
    .have hw1:f.w=3 := by have:=of_decide_eq_true hy;injection this with this;lia
     have hpx:V.int (px f)=V.int f.c.1:=by simp[px,hw1]
     refine⟨_,rfl,a,rfl,.inl ⟨kvs,.inl U.dict⟩,_,rfl,A9 _,λz hz=>?_⟩;have nz:∀{b o},H2 b=some o->b≠z:=λq w=>by rw[w,hz]at q;cases q
     refine⟨kvs,.inl f.c.2,by rw[zai (nz U.dict)];exact U.dict,rfl,zaj (by lia),λv hv=>?_,λhv=>?_⟩
     .by_cases hy:upr (es.take j) f.c.2=[]
      .rw[U.no _ hy]at hv;cases hv
      .obtain⟨b1,b2,b3,b4⟩:=U.at_ _ hy;rw[b1]at hv
       cases hv
       have e3:upd H2 z (.lst []) (B f.c.2)=some (.lst ((upr (es.take j) f.c.2).map V.int)):=by rw[zai (nz b2)];exact b2
       have U':=U.more (DH hw1) hz hy;rw[hpx]at U';exact⟨.inl ⟨rfl,_,SqL.of e3⟩,_,rfl,_,_,_,rfl,rfl,e3,zaj (by rw[Ao];have:=hul f.c.2;lia),_,_,_,kvs,B,rfl,U'⟩
     .have hy:upr (es.take j) f.c.2=[]:=BI λhy=>by rw[(U.at_ _ hy).1]at hv;cases hv
      have e3:upd (upd H2 z (.lst [])) a (.dK (putK kvs (.inl f.c.2) (.ref z))) z=some (.lst []):=by rw[zai (nz U.dict).symm];exact zaa
      have U':=U.first (DH hw1) hz hy;rw[hpx]at U';exact⟨.inl ⟨rfl,_,SqL.of e3⟩,_,rfl,_,_,_,rfl,rfl,e3,zaj (by simp),_,_,_,_,_,rfl,U'⟩
    .have hw3:f.w≠3:=λz=>hn3 (by rw[z];rfl)
     exact⟨_,_,_,kvs,B,rfl,U.skip (λz=>z.elim hw1 hw3)⟩
  .rintro σ H2 ⟨o2,o3,o4,kvs,B,rfl,U⟩;rw[show us.length=es.length from hw.1,AN]at U;exact⟨_,rfl,k a H2 kvs B U⟩
noncomputable def Boxed(m:Nat)(cs:List Cell):Prop:=∃(x y:Int) (w h:Nat),w*h<=m/\∀c∈cs,x<=c.1/\c.1<x+w/\y<=c.2/\c.2<y+h
noncomputable def apart(o:Cell)(k:Int)(c:Cell):Cell:=(o.1+(c.1-o.1)*k,o.2+(c.2-o.2)*k)
noncomputable def zm5(H:Hp)(p:Addr)(t:Int):Prop:=∃c:Int,H p=some (.lst [.int c,.int t])/\0<=t/\t<2 ^ 40
theorem cpow{i j:Int}(h:0<=j/\j<=1000000/\i.natAbs<2 ^ 64):CPow i j:=h
noncomputable def zhw(K:W.Frag):Sp:=λvs H Q _=>∃(a:Addr) (ns:List Int) (k:Nat),vs=[.ref a,.int k]/\SqL K H a (ns.map V.int)/\∀n,Q (.int n) H
theorem zew (T:Txt P w K mg) (d:Df K mg "_law_cell_at" zb6 ["_law_script","_law_k"]):FnOk P w K mg base CX0 1 d.f d.fd ["_law_script","_law_k"] (zhw K):=by
 refine d.F.ok zdY (λvs H Q E h=>?_) (λcdv A outer s H vs Q E hr h=>?_)
 .obtain⟨a,ns,k,rfl,_⟩:=h;rfl
 .obtain⟨a,ns,i,rfl,hq,k⟩:=h
  refine⟨_,(zac (ps_if (zam op_lt (pv 1) (zaT zba (by rfl) T.nlen (by rfl) (pa_N (pv 0) zab)) (zan _))
   (zaf (zal (pe_ix zaS (pv 0) (pv 1) (λ_ _=>rfl))))
   zaA)
   (zaf (zal zae))),?_⟩
  refine⟨_,rfl,_,rfl,a,_,rfl,.inl hq,_,_,rfl,rfl,_,rfl,?_⟩;refine ite2 (λhy=>?_) (λhn=>k 0)
  have hlt:i<ns.length:=by have:=of_decide_eq_true hy;rw[Ao]at this;lia
  exact⟨_,rfl,_,rfl,a,_,_,_,rfl,rfl,hq,zaw (v:=.int ns[i]) (by simp[hlt]),k _⟩
noncomputable def zk8:Sp:=λvs H Q _=>∃(p:Addr) (t b:Int),vs=[.ref p,.int b]/\zm5 H p t/\0<b/\b.natAbs.log2<9000/\∀(n c:Int),0<=n->n<b->Q (.int n) (upd H p (.lst [.int c,.int (t+1)]))
theorem zg4 (T:Txt P w K mg) (d:Df K mg "_law_take" zc1 ["_law_pen","_law_base"]):FnOk P w K mg base CX0 1 d.f d.fd ["_law_pen","_law_base"] zk8:=by
 refine d.F.ok zbz (λvs H Q E h=>?_) (λcdv A outer s H vs Q E hr h=>?_)
 .obtain⟨p,t,b,rfl,_⟩:=h;rfl
 .obtain⟨p,t,b,rfl,⟨c,hp,ht0,ht1⟩,hb,hlog,k⟩:=h
  refine⟨_,(zac (zbm (pe_op zaG (pe_ix zaS (pv 0) zae (λ_ _=>rfl)) zae) (zlk (pv 0) zae zhy))
   (zac (ps_if (zam op_ge (zaT zdQ (by rfl) T.nabs (by rfl) (zah (pe_ix zaS (pv 0) zae (λ_ _=>rfl)) zab)) (pe_op zeX zae zae) (zan _))
   (zac (sE 2 zbz.nd (pe_op zbn (zaT zdQ (by rfl) T.nabs (by rfl) (zah (pe_ix zaS (pv 0) zae (λ_ _=>rfl)) zab)) (pe_op zeX zae zae)))
   (zac (zbm (pe_op zaG (pe_op zeX zae zae) (pe_op zhL (pv 2) (pv 1))) (zlk (pv 0) zae zhy))
   (zaf (zal (pe_op za9 (pv 2) (pv 1))))))
   zaA)
   (zac (sE 3 zbz.nd (pe_op zaG (pe_op zbU (pe_op za9 (pe_ix zaS (pv 0) zae (λ_ _=>rfl)) zae) zae) (pe_op zbU (pe_op zbU zae (pe_ix zaS (pv 0) zae (λ_ _=>rfl))) (pe_ix zaS (pv 0) zae (λ_ _=>rfl)))))
   (zac (sE 3 zbz.nd (pe_op za9 (pe_op zaG (pe_op zaG (pv 3) (pe_op zbU zae (pe_ix zaS (pv 0) zae (λ_ _=>rfl)))) zae) zae))
   (zac (sE 3 zbz.nd (pe_op za9 (pe_op zaG (pe_op zaG (pe_op zbU (pv 3) (pv 3)) (pe_op zbU zae (pv 3))) (pe_ix zaS (pv 0) zae (λ_ _=>rfl))) zae))
   (zaf (zal (pe_op za9 (pe_op zfs (pv 3) zae) (pv 1))))))))),?_⟩
  refine⟨_,rfl,p,_,_,_,rfl,rfl,SqL.of hp,zaw (j:=1) rfl,_,_,rfl,rfl,_,rfl,p,_,_,1,rfl,rfl,hp,rfl,?_⟩;have h1:upd H p (.lst [.int c,.int (t+1)]) p=some (.lst [.int c,.int (t+1)]):=zaa;have hmod:∀z:Int,0<=z % b/\z % b<b:=λz=>⟨Int.emod_nonneg _ (by lia),Int.emod_lt_of_pos _ hb⟩
  refine⟨_,rfl,p,_,_,_,rfl,rfl,SqL.of h1,zaw (j:=0) rfl,c,rfl,_,_,rfl,rfl,(by refine cpow ?_;decide),_,_,rfl,rfl,_,rfl,?_⟩;refine ite2 (λ_=>?_) (λ_=>?_)
  .refine⟨_,rfl,p,_,_,_,rfl,rfl,SqL.of h1,zaw (j:=0) rfl,c,rfl,_,_,rfl,rfl,(by refine cpow ?_;decide),_,_,rfl,rfl,?_⟩;refine⟨_,_,rfl,rfl,(by refine cpow ?_;decide),_,rfl,_,rfl,_,_,rfl,rfl,⟨hb,hlog⟩,_,_,rfl,rfl,_,rfl,p,_,_,0,rfl,rfl,h1,rfl,?_⟩;refine⟨_,rfl,_,rfl,_,_,rfl,rfl,hb,?_⟩;rw[zlA];exact k _ _ (hmod _).1 (hmod _).2
  .refine⟨_, rfl, p, _, _, _, rfl, rfl, SqL.of h1, zaw (j := 0) rfl, _, _, rfl, rfl, (by show (0:Int) < 2147483647; decide), _, _, rfl, rfl, .inr ⟨by decide, by decide⟩,
    _,rfl,p,_,_,_,rfl,rfl,SqL.of h1,zaw (j:=1) rfl,_,_,rfl,rfl,.inl ⟨by decide,by decide⟩,_,rfl,p,_,_,_,rfl,rfl,SqL.of h1,zaw (j:=1) rfl,_,_,rfl,rfl,.inr ⟨by lia,by lia⟩,_,_,rfl,rfl,?_⟩
   refine⟨_,rfl,_,rfl,p,_,_,_,rfl,rfl,SqL.of h1,zaw (j:=1) rfl,_,_,rfl,rfl,.inl ⟨by decide,by decide⟩,_,_,rfl,rfl,_,_,rfl,rfl,_,_,rfl,rfl,(by show (0:Int)<2147483629;decide),?_⟩
   refine⟨_,rfl,_,rfl,_,_,rfl,rfl,.inl ⟨Int.lt_of_lt_of_le (show (-(2 ^ 64):Int)<0 by decide) (Int.emod_nonneg _ (by decide)),Int.lt_trans (Int.emod_lt_of_pos _ (by decide)) (by decide)⟩,_,rfl,_,_,rfl,rfl,.inl ⟨by decide,by decide⟩,_,_,rfl,rfl,
    _,rfl,p,_,_,_,rfl,rfl,SqL.of h1,zaw (j:=1) rfl,_,_,rfl,rfl,_,_,rfl,rfl,(by show (0:Int)<2147483587;decide),?_⟩
   refine⟨_,rfl,_,_,rfl,rfl,⟨by decide,by decide⟩,_,rfl,_,_,rfl,rfl,hb,?_⟩;exact k _ _ (hmod _).1 (hmod _).2
noncomputable def HasB(H:Hp)(p:Addr)(n:Nat):Prop:=∃c t:Int,H p=some (.lst [.int c,.int t])/\0<=t/\t+n<2 ^ 40
theorem HasB.le{H:Hp}{p:Addr}{n m:Nat}(h:HasB H p n)(hm:m<=n):HasB H p m:=let ⟨c,t,e,a,b⟩:=h;⟨c,t,e,a,by lia⟩
theorem HasB.same{H H':Hp}{p:Addr}{n:Nat}(h:HasB H p n)(s:Same H H'):HasB H' p n:=let ⟨c,t,e,a,b⟩:=h;⟨c,t,s _ _ e,a,b⟩
noncomputable def But(H H':Hp)(p:Addr):Prop:=∀z o,z≠p->H z=some o->H' z=some o
theorem But.refl(H:Hp)(p:Addr):But H H p:=λ_ _ _ h=>h
theorem But.trans{H H1 H2:Hp}{p:Addr}(a:But H H1 p)(b:But H1 H2 p):But H H2 p:=λz o hz h=>b z o hz (a z o hz h)
theorem But.of{H H1:Hp}{p:Addr}(a:Same H H1):But H H1 p:=λz o _ h=>a z o h
theorem But.free{H H1:Hp}{p q:Addr}{n:Nat}(a:But H H1 p)(h:HasB H p n)(hq:H1 q=none)(hp:HasB H1 p 0):H q=none:=by
 obtain⟨c,t,e,_⟩:=hp;have hne:q≠p:=λz=>by subst z;rw[e]at hq;cases hq
 cases x:H q with
 |none=>rfl
 |some o=>rw[a q o hne x]at hq;cases hq
theorem But.kt{H H1:Hp}{p:Addr}{n:Nat}(a:But H H1 p)(h:HasB H p n):KT H H1:=λb xs e=>by obtain⟨c,t,ep,_⟩:=h;exact a b _ (ne_of e ep (λz=>nomatch z)) e
theorem zki{A:Prop}{D:Int->Hp->Prop}(C:Int->Hp->Prop)(g:(∀n H1,D n H1->C n H1)->A)(h:∀n H1,D n H1->C n H1):A:=g h
theorem zaN{b:Int}(h0:0<b)(h:b<=1000):b.natAbs.log2<9000:=by refine (Nat.log2_lt (by lia)).mpr (A8 (show b.natAbs<2 ^ 10 by lia) (Nat.pow_le_pow_right (by decide) (by decide)))
noncomputable def spTk:Sp:=λvs H Q _=>∃(p:Addr) (n:Nat) (b:Int),vs=[.ref p,.int b]/\HasB H p (n+1)/\0<b/\b.natAbs.log2<9000/\∀(r:Int) (H':Hp),0<=r->r<b->But H H' p->HasB H' p n->Q (.int r) H'
theorem tk_of {f:Addr}{fd:BM}(h:FnOk P w K mg base CX0 1 f fd ["_law_pen","_law_base"] zk8):FnOk P w K mg base CX0 1 f fd ["_law_pen","_law_base"] spTk:=by
 refine h.imp λvs H Q E h=>?_
 obtain⟨p,n,b,rfl,⟨c,t,e,h0,h1⟩,hb,hl,k⟩:=h;refine⟨p,t,b,rfl,⟨c,e,h0,by lia⟩,hb,hl,λr c' h2 h3=>k r _ h2 h3 (λz o hz h=>by rw[zai hz];exact h) ⟨c',t+1,zaa,by lia,by lia⟩⟩
noncomputable abbrev Tk (P:AR) (w:Be) (K:W.Frag) (mg:Str->Option Ac) (base:Heap):=Fn P w K mg base 1 "_law_take" ["_law_pen","_law_base"] spTk
noncomputable def spFar:Sp:=λvs H Q _=>∃(p:Addr) (n:Nat),vs=[.ref p]/\HasB H p (n+3)/\∀(r:Int) (H':Hp),-(2 ^ 104)<r/\r<2 ^ 104->But H H' p->HasB H' p n->Q (.int r) H'
theorem atI3{a b c:V}{n:Int}(h0:0<=n)(h3:n<3):∃v,atI [a,b,c] n=some v/\(v=a∨v=b∨v=c):=by
 have:n=0∨n=1∨n=2:=by lia
 rcases this with rfl |rfl |rfl
 .exact⟨a,rfl,.inl rfl⟩
 .exact⟨b,rfl,.inr (.inl rfl)⟩
 .exact⟨c,rfl,.inr (.inr rfl)⟩
theorem ziz (g__law_take:Tk P w K mg base) (d:Df K mg "_law_far" zds ["_law_pen"]):FnOk P w K mg base CX0 2 d.f d.fd ["_law_pen"] spFar:=by
 refine d.F.ok zdX (λvs H Q E h=>?_) (λcdv A outer s H vs Q E hr h=>?_)
 .obtain⟨p,n,rfl,_⟩:=h;rfl
 .obtain⟨p,n,rfl,hp,k⟩:=h
  refine⟨_,(zac (sE 1 zdX.nd (pC g__law_take hr (pa_N (pv 0) (pa_C zae zab))))
   (zac (ps_if (zam op_lt (pv 1) zae (zan _))
   (zaf (zal (pe_ix zaS (zaZ (pa_C zae (pa_B (pe_op zbn (pC g__law_take hr (pa_N (pv 0) (pa_C zae zab))) zae) (pa_B (pe_op zbn (pC g__law_take hr (pa_N (pv 0) (pa_C zae zab))) zae) zab)))) (pv 1) (λ_ _=>rfl))))
   zaA)
   (zaf (zal (pe_op zaG (pe_op zbn (pC g__law_take hr (pa_N (pv 0) (pa_B (pe_op zbn (pe_op zbU zae (pe_op zeX zae zae)) zae) zab))) (pe_op zeX zae zae)) zae))))),?_⟩
  refine⟨_,rfl,p,n+2,4,rfl,hp,by decide,zaN (by decide) (by decide),λr H1 h0 h4 b1 p1=>?_⟩;refine⟨_,rfl,_,_,rfl,rfl,_,rfl,?_⟩;refine ite2 (λhy=>?_) (λhn=>?_)
  .have h3:r<3:=of_decide_eq_true hy;refine⟨_,rfl,p,n+1,41,rfl,p1,by decide,zaN (by decide) (by decide),λr2 H2 x1 x2 b2 p2=>⟨_,_,rfl,rfl,?_⟩⟩;refine⟨_,rfl,p,n,2000001,rfl,p2,by decide,by decide +kernel,λr3 H3 y1 y2 b3 p3=>⟨_,_,rfl,rfl,three,λl hl=>?_⟩⟩;obtain⟨v,hv,hor⟩:=atI3 (a:=.int 0) (b:=.int (r2-20)) (c:=.int (r3-1000000)) h0 h3;refine⟨_,rfl,l,_,_,v,rfl,rfl,SqL.of zaa,hv,?_⟩;have fin:∀z:Int,-(2 ^ 104)<z/\z<2 ^ 104->Q (.int z) (upd H3 l (.lst [.int 0,.int (r2-20),.int (r3-1000000)])):=λz hz=>k z _ hz ((b1.trans (b2.trans b3)).trans (But.of (Same.up hl))) (p3.same (Same.up hl))
   rcases hor with z |z |z <;> rw[z] <;> exact fin _ (by lia)
  .refine⟨_,rfl,_,_,rfl,rfl,(by refine cpow ?_;decide),_,_,rfl,rfl,.inl ⟨by decide,by decide⟩,_,_,rfl,rfl,p,n+1,_,rfl,p1,(by decide),(by decide +kernel),λr2 H2 x1 x2 b2 p2=>?_⟩;refine⟨_,_,rfl,rfl,(by refine cpow ?_;decide),_,_,rfl,rfl,_,_,rfl,rfl,?_⟩;refine k _ _ ?_ (b1.trans b2) (p2.le (by lia))
   have x2':r2<2*10 ^ 30-799:=x2;show -(2 ^ 104)<r2-10 ^ 30+400/\r2-10 ^ 30+400<2 ^ 104;lia
noncomputable def ziW:Sp:=λvs H Q _=>∃(p:Addr) (n:Nat) (way x y wd hg:Int),vs=[.ref p,.int way,.int x,.int y,.int wd,.int hg]/\0<=way/\HasB H p (n+1)/\∀(b:Bool) (H':Hp),But H H' p->HasB H' p n->Q (.bl b) H'
theorem zd9 (T:Txt P w K mg) (g__law_take:Tk P w K mg base) (d:Df K mg "_law_is_there" zbO ["_law_pen", "_law_way", "_law_x", "_law_y", "_law_wide", "_law_high"]) :
  FnOk P w K mg base CX0 2 d.f d.fd ["_law_pen","_law_way","_law_x","_law_y","_law_wide","_law_high"] ziW:=by
 refine d.F.ok zdG (λvs H Q E h=>?_) (λcdv A outer s H vs Q E hr h=>?_)
 .obtain⟨p,n,way,x,y,wd,hg,rfl,_⟩:=h;rfl
 .obtain⟨p,n,way,x,y,wd,hg,rfl,hw,hp,k⟩:=h
  refine⟨_,(zac (ps_if (zam op_eq (pv 1) zae (zan _))
   (zaf (zal pe_bl))
   zaA)
   (zac (ps_if (zam op_lt (pv 1) zae (zan _))
   (zaf (zal (zbc op_lt (pC g__law_take hr (pa_N (pv 0) (zah (pe_ix zaS (zaZ (pa_C zae (pa_C zae (pa_C zae zab)))) (pe_op zbn (pv 1) zae) (λ_ _=>rfl)) zab))) (pe_ix zaS (zaZ (pa_C zae (pa_C zae (pa_C zae zab)))) (pe_op zbn (pv 1) zae) (λ_ _=>rfl)) (zan _))))
   zaA)
   (zac (ps_if (zam op_eq (pv 1) zae (zan _))
   (zaf (zal (zbc op_eq (pe_op za9 (zaT (zj3 rfl) (by rfl) T.nmin (by rfl) (pa_N (pv 2) (pa_N (pv 3) (pa_B (pe_op zbn (pe_op zbn (pv 4) zae) (pv 2)) (pa_B (pe_op zbn (pe_op zbn (pv 5) zae) (pv 3)) zab))))) zae) zae (zan _))))
   zaA)
   (zaf (zal (pe_or (zbc op_eq (pe_op za9 (pe_op zaG (pv 2) (pv 3)) zae) zae (zan _)) (zhH (zbc op_eq (pC g__law_take hr (pa_N (pv 0) (pa_C zae zab))) zae (zan _))))))))),?_⟩
  have fin:∀b,Q (.bl b) H:=λb=>k b H (But.refl _ _) (hp.le (by lia))
  refine⟨_,rfl,rfl,_,rfl,?_⟩;refine ite2 (λ_=>fin _) (λhn0=>?_);refine⟨_,rfl,_,_,rfl,rfl,_,rfl,?_⟩;refine ite2 (λhy=>?_) (λ_=>?_)
  .have h4:way<4:=of_decide_eq_true hy;have hne:way≠0:=λz=>hn0 (by rw[z];rfl)
   refine⟨_,rfl,three,λl hl=>?_⟩;obtain⟨v,hv,hor⟩:=atI3 (a:=V.int 2) (b:=V.int 5) (c:=V.int 4) (n:=way-1) (by lia) (by lia)
   obtain⟨bb,rfl,hb0,hb1⟩:∃bb:Int,v=.int bb/\0<bb/\bb<=1000:=by
    rcases hor with z |z |z
    .exact⟨2,z,by decide,by decide⟩
    .exact⟨5,z,by decide,by decide⟩
    .exact⟨4,z,by decide,by decide⟩
   refine⟨_,rfl,_,_,rfl,rfl,l,_,_,_,rfl,rfl,SqL.of zaa,hv,p,n,bb,rfl,hp.same (Same.up hl),hb0,zaN hb0 hb1,λr H1 _ _ b1 p1=>?_⟩;refine⟨three,λl2 hl2=>?_⟩;obtain⟨v2,hv2,hor2⟩:=atI3 (a:=V.int 1) (b:=V.int 4) (c:=V.int 1) (n:=way-1) (by lia) (by lia)
   obtain⟨b2,rfl⟩:∃bb:Int,v2=.int bb:=by
    rcases hor2 with z |z |z
    .exact⟨1,z⟩
    .exact⟨4,z⟩
    .exact⟨1,z⟩
   refine⟨_,rfl,_,_,rfl,rfl,l2,_,_,_,rfl,rfl,SqL.of zaa,hv2,_,_,rfl,rfl,?_⟩;exact k _ _ (((But.of (Same.up hl)).trans b1).trans (But.of (Same.up hl2))) (p1.same (Same.up hl2))
  .refine⟨_,rfl,rfl,_,rfl,?_⟩;refine ite2 (λ_=>?_) (λ_=>?_)
   .refine⟨_,rfl,_,rfl,_,rfl,_,_,rfl,rfl,_,rfl,_,_,rfl,rfl,_,rfl,_,_,rfl,rfl,_,rfl,_,_,rfl,rfl,_,_,_,_,rfl,λz=>⟨_,_,rfl,rfl,(by show (0:Int)<2;decide),rfl,fin _⟩⟩
   .refine⟨_,rfl,_,rfl,_,_,rfl,rfl,_,_,rfl,rfl,(by show (0:Int)<2;decide),rfl,_,rfl,?_⟩;refine ite2 (λ_=>fin _) (λ_=>?_);refine⟨_,rfl,p,n,6,rfl,hp,by decide,zaN (by decide) (by decide),λr H1 _ _ b1 p1=>⟨rfl,k _ _ b1 p1⟩⟩
noncomputable def Bef(cs:List Cell)(x y:Int):Prop:=∀c∈cs,c.2<y∨(c.2=y/\c.1<x)
theorem InOrd.snoc{cs:List Cell}{x y:Int}(h:InOrd cs)(b:Bef cs x y):InOrd (cs++[(x,y)]):=λi c e h1 h2=>by
 have hi:i+1<(cs++[(x,y)]).length:=(Ad.mp h2).1;rw[Ak,BO]at hi;rw[Ax (by lia)]at h1;rcases AZ (i+1) cs.length with hl |hl
 .rw[Ax hl]at h2;exact h i c e h1 h2
 .rw[AK hl,show i+1-cs.length=0 by lia]at h2
  cases h2
  have hb:=b c (Aj h1);rw[HT.lexLt_cons];rcases hb with z |⟨z1,z2⟩
  .rw[if_neg (by lia)];exact decide_eq_true z
  .rw[if_pos z1,HT.lexLt_cons,if_neg (by lia)];exact decide_eq_true z2
noncomputable def CellB(c:Cell):Prop:=(-(2 ^ 105)<c.1/\c.1<2 ^ 105)/\-(2 ^ 105)<c.2/\c.2<2 ^ 105
noncomputable def zga(K:W.Frag):Sp:=λvs H Q _=>∃(p:Addr) (n m:Nat),vs=[.ref p,.int m]/\HasB H p (n+(20+m))/\1<=m/\m<=200 /\
 ∀(a:Addr) (cs:List Cell) (H':Hp),H a=none->But H H' p->HasB H' p n->(∃vs,H' a=some (.lst vs)/\VR vs cs cR H')->InOrd cs->Boxed m cs->cs.length<=m->(∀c∈cs,CellB c)->Q (.ref a) H'
theorem zeu (T:Txt P w K mg) (g__law_take:Tk P w K mg base) (g__law_far:Fn P w K mg base 2 "_law_far" ["_law_pen"] spFar)
    (g__law_is_there:Fn P w K mg base 2 "_law_is_there" ["_law_pen","_law_way","_law_x","_law_y","_law_wide","_law_high"] ziW) (d:Df K mg "_law_picture" zb5 ["_law_pen","_law_most"]) :
    FnOk P w K mg base CX0 3 d.f d.fd ["_law_pen","_law_most"] (zga K):=by
  refine d.F.ok zau (λvs H Q E h=>?_) (λcdv A outer s H vs Q E hr h=>?_)
  . obtain⟨p,n,m,rfl,_⟩:=h;rfl
  . obtain⟨p,n,m,rfl,hp,hm1,hm,k⟩:=h
    refine⟨_,(zac (sE 2 zau.nd (pe_op zaG zae (pC g__law_take hr (pa_N (pv 0) (zah (zdM (zam op_gt (pv 1) zae (zan _)) (pe_ix zaS (zaZ (pa_C zae (pa_N (pv 1) zab))) (zbT zdn (by rfl) T.nint (by rfl) (zah (zbc op_eq (pC g__law_take hr (pa_N (pv 0) (pa_C zae zab))) zae (zan _)) zab)) (λ_ _=>rfl)) (pv 1)) zab)))))
      (zac (sE 3 zau.nd (pe_op zaG zae (pC g__law_take hr (pa_N (pv 0) (pa_B (pe_op zhL (pv 1) (pv 2)) zab)))))
      (zac (sE 4 zau.nd (pC g__law_take hr (pa_N (pv 0) (pa_C zae zab))))
      (zac (sE 5 zau.nd (pC g__law_far hr (pa_N (pv 0) zab)))
      (zac (sE 6 zau.nd (pC g__law_far hr (pa_N (pv 0) zab)))
      (zac (sE 7 zau.nd (zaZ zab))
      (zac (zbG Bg rfl (zbR (by rfl) T.nrange (pa_N (pv 3) zab)) (nG 8 zau.nd)
      (zaf (zbG Bg rfl (zbR (by rfl) T.nrange (pa_N (pv 2) zab)) (nG 9 zau.nd)
      (zaf (ps_if (zdh (pC g__law_is_there hr (pa_N (pv 0) (pa_N (pv 4) (pa_N (pv 9) (pa_N (pv 8) (pa_N (pv 2) (pa_N (pv 3) zab))))))))
      (zaf (zbq (pe_bm AY Ba Bb za0 (pv 7) (pa_T (zay (pa_B (pe_op zaG (pv 9) (pv 5)) (pa_B (pe_op zaG (pv 8) (pv 6)) zab))) zab))))
      zaA)))))
      (zaf (zal (pv 7)))))))))),?_⟩
    refine zki (D:=λr H1=>0<=r/\r<m/\But H H1 p/\HasB H1 p (n+(18+m))) ?C (λshare=>?g) ?h
    case g =>
      refine⟨_,rfl,_,rfl,_,_,rfl,rfl,_,rfl,?_⟩;refine ite2 (λhy=>?_) (λhn=>?_)
      . have h12:(12:Int)<m:=of_decide_eq_true hy;refine⟨_,rfl,two,λl hl=>?_⟩;refine⟨_,rfl,p,n+(19+m),4,rfl,(hp.same (Same.up hl)).le (by lia),by decide,zaN (by decide) (by decide),λr H1 _ _ b1 p1=>?_⟩;refine⟨rfl,.inr ⟨_,rfl,?_⟩⟩;obtain⟨c0,t0,e0,_⟩:=hp;have hlp:l≠p:=λz=>by subst z;rw[e0]at hl;cases hl
        have l1:H1 l=some (.lst [.int 12,.int m]):=b1 _ _ hlp zaa
        obtain⟨v,hv,bb,rfl,hb0,hb1⟩:∃v,atI [V.int 12,V.int (m:Int)] (if decide (V.int r=V.int 0)=true then 1 else 0)=some v/\∃bb:Int,v=.int bb/\0<bb/\bb<=m:=by
          by_cases hz:decide (V.int r=V.int 0)=true
          . rw[if_pos hz];exact⟨_,rfl,m,rfl,by lia,by lia⟩
          . rw[if_neg hz];exact⟨_,rfl,12,rfl,by decide,by lia⟩
        refine⟨l,_,_,_,rfl,rfl,SqL.of l1,hv,p,n+(18+m),bb,rfl,p1.le (by lia),hb0,zaN hb0 (by lia),λr2 H2 h0 h2 b2 p2=>?_⟩;exact share r2 H2 ⟨h0,by lia,((But.of (Same.up hl)).trans b1).trans b2,p2⟩
      . refine⟨_,rfl,p,n+(18+m),m,rfl,hp.le (by lia),by lia,zaN (by lia) (by lia),λr2 H2 h0 h2 b2 p2=>?_⟩;exact share r2 H2 ⟨h0,h2,b2,p2⟩
    case h =>
      rintro r H1 ⟨h0,hrm,b1,p1⟩;refine⟨_,_,rfl,rfl,?_⟩;have hwd:0<1+r:=by lia
      obtain⟨W,hW⟩:∃W:Nat,(1+r:Int)=W:=⟨(1+r).toNat,by lia⟩;have hq1:1<=(m:Int) / (1+r):=Int.le_ediv_of_mul_le hwd (by lia);have hq2:(m:Int) / (1+r)<=m:=Int.ediv_le_self _ (by lia);have hq3:(1+r)*((m:Int) / (1+r))<=m:=Int.mul_ediv_self_le (by lia);refine⟨_,rfl,_,rfl,_,rfl,_,_,rfl,rfl,⟨hwd,zaN hwd (by lia)⟩,p,n+(17+m),_,rfl,p1.le (by lia),by lia,zaN (by lia) (by lia),λr2 H2 h20 h2 b2 p2=>⟨_,_,rfl,rfl,?_⟩⟩;obtain⟨G,hG⟩:∃G:Nat,(1+r2:Int)=G:=⟨(1+r2).toNat,by lia⟩
      have hWG:W*G<=m:=by
        have h1:(1+r)*(1+r2)<=(1+r)*((m:Int) / (1+r)):=Int.mul_le_mul_of_nonneg_left (by lia) (by lia);rw[hW,hG]at h1;rw[hW]at hq3
        have h2:((W*G:Nat):Int)<=m:=by rw[Int.natCast_mul];lia
        lia
      refine⟨_,rfl,p,n+(16+m),6,rfl,p2.le (by lia),by decide,zaN (by decide) (by decide),λr3 H3 h30 _ b3 p3=>?_⟩;refine⟨_,rfl,p,n+(13+m),rfl,p3.le (by lia),λdx H4 fx b4 p4=>?_⟩;refine⟨_,rfl,p,n+(10+m),rfl,p4.le (by lia),λdy H5 fy b5 p5=>?_⟩;refine⟨(by show 0<=sizeLine;decide),λq hq=>?_⟩;have b05:But H H5 p:=b1.trans (b2.trans (b3.trans (b4.trans b5)));have hq0:H q=none:=b05.free hp hq (p5.le (by lia))
      have hqp:q≠p:=λz=>by obtain⟨c0,t0,e0,_⟩:=hp;subst z;rw[e0]at hq0;cases hq0
      refine⟨_,rfl,1+r2,rfl,by lia,by lia,?_⟩;have hGn:(1+r2:Int).toNat=G:=by lia
      have hWn:(1+r:Int).toNat=W:=by lia
      rw[hGn]
      refine zbC (lo := 0) (n := G) (λi σ H6 => ∃o8 o9 cs vs, σ = [some (.ref p), some (.int m), some (.int (1 + r)), some (.int (1 + r2)), some (.int r3), some (.int dx), some (.int dy), some (.ref q), o8, o9] /\ But H H6 p /\ HasB H6 p (n + (m-W * i)) /\
          H6 q=some (.lst vs)/\VR vs cs cR H6/\InOrd cs/\(cs.length<=W*i/\(∀c∈cs,dx<=c.1/\c.1<dx+W/\dy<=c.2))/\Bef cs dx (dy+i))
        ⟨_,_,[],[],rfl,b05.trans (But.of (Same.up hq)),(p5.same (Same.up hq)).le (by lia),zaa,VR.nil,(λi c e h=>by simp at h),⟨A9 _,λc hc=>by cases hc⟩,(λc hc=>by cases hc)⟩ ?_ ?_
      . rintro i σ H6 hi ⟨o8,o9,cs,vs,rfl,b6,p6,q6,hv,ho,hl,hbf⟩;have hWi:W*i+W<=W*G:=by rw[<- Nat.mul_succ];exact Nat.mul_le_mul_left _ hi
        refine⟨_,rfl,1+r,rfl,by lia,by lia,?_⟩;rw[hWn]
        refine zbC (lo := 0) (n := W) (λj σ H7 => ∃o9 cs vs, σ = [some (.ref p), some (.int m), some (.int (1 + r)), some (.int (1 + r2)), some (.int r3), some (.int dx), some (.int dy), some (.ref q), some (.int (0 + (i:Int))), o9] /\ But H H7 p /\ HasB H7 p (n + (m-(W * i + j))) /\
            H7 q=some (.lst vs)/\VR vs cs cR H7/\InOrd cs/\(cs.length<=W*i+j/\(∀c∈cs,dx<=c.1/\c.1<dx+W/\dy<=c.2))/\Bef cs (dx+j) (dy+i))
          ⟨_,cs,vs,rfl,b6,p6,q6,hv,ho,hl,by simpa using hbf⟩ ?_ ?_
        . rintro j σ H7 hj ⟨o9,cs,vs,rfl,b7,p7,q7,hv,ho,⟨hl,hbox⟩,hbf⟩;refine⟨_,rfl,_,rfl,_,rfl,_,rfl,_,rfl,_,rfl,p,n+(m-(W*i+j+1)),_,_,_,_,_,rfl,h30,p7.le (by lia),λb H8 b8 p8=>⟨_,rfl,?_⟩⟩;have q8:=b8 _ _ hqp q7;have kt8:=b8.kt p7;refine ite2 (λ_=>?_) (λ_=>?_)
          . have hvl:vs.length<=1000:=by rw[hv.1];lia
            refine⟨_,rfl,.inl ⟨rfl,_,SqL.of q8⟩,_,rfl,_,rfl,_,_,rfl,rfl,_,rfl,_,rfl,_,_,rfl,rfl,two,λa ha=>?_⟩;have haq:q≠a:=zak q8 ha;refine⟨q,vs,_,rfl,rfl,(by rw[zai haq];exact q8),zaj hvl,?_⟩
            have hap:a≠p:=λz=>by obtain⟨c0,t0,e0,_⟩:=p8;subst z;rw[e0]at ha;cases ha
            obtain⟨nc,hnc⟩:∃nc:Cell,nc=(dx+(j:Int),dy+(i:Int)):=⟨_,rfl⟩
            have hcell:[V.int (0+(j:Int)+dx),V.int (0+(i:Int)+dy)]=cellT nc:=by rw[hnc];unfold cellT;rw[show 0+(j:Int)+dx=dx+j by lia,show 0+(i:Int)+dy=dy+i by lia]
            rw[hcell];have k2:KT (upd H8 a (.tup (cellT nc))) (upd (upd H8 a (.tup (cellT nc))) q (.lst (vs++[.ref a]))):=KT.lst (xs:=vs) (by rw[zai haq];exact q8);refine⟨_,cs++[nc],vs++[.ref a],rfl,(λz o hz h=>?_),?_,zaa,?_,?_,?_,?_⟩
            . rw[zai (zak h hq0)];exact Same.up ha _ _ (b8 _ _ hz (b7 _ _ hz h))
            . obtain⟨c0,t0,e0,h1,h2⟩:=p8;refine⟨c0,t0,?_,h1,by lia⟩;rw[zai (BW hqp),zai (BW hap)];exact e0
            . exact hv.snoc (λx v hx=>hx.kt (kt8.trans ((KT.up ha).trans k2))) ⟨a,rfl,k2 _ _ zaa⟩
            . rw[hnc];exact ho.snoc hbf
            . refine⟨by rw[Ak,BO];lia,λc hc=>?_⟩;rcases AH.mp hc with z |z
              . exact hbox c z
              . rw[Ah.mp z,hnc];exact⟨by show dx<=dx+(j:Int);lia,by show dx+(j:Int)<dx+(W:Int);lia,by show dy<=dy+(i:Int);lia⟩
            . intro c hc;rcases AH.mp hc with z |z
              . rcases hbf c z with y |⟨y1,y2⟩
                . exact .inl y
                . exact .inr ⟨y1,by lia⟩
              . rw[Ah.mp z,hnc];exact .inr ⟨rfl,by show dx+(j:Int)<dx+((j+1:Nat):Int);lia⟩
          . refine⟨_,cs,vs,rfl,b7.trans b8,p8.le (by lia),q8,hv.mono λx v hx=>hx.kt kt8,ho,⟨by lia,hbox⟩,λc hc=>?_⟩;rcases hbf c hc with y |⟨y1,y2⟩
            . exact .inl y
            . exact .inr ⟨y1,by lia⟩
        . rintro σ H7 ⟨o9,cs,vs,rfl,b7,p7,q7,hv,ho,⟨hl,hbox⟩,hbf⟩;refine⟨_,_,cs,vs,rfl,b7,?_,q7,hv,ho,⟨by rw[Nat.mul_succ];exact hl,hbox⟩,λc hc=>?_⟩
          . rw[Nat.mul_succ];exact p7
          . rcases hbf c hc with y |⟨y1,y2⟩
            . exact .inl (by lia)
            . exact .inl (by lia)
      . rintro σ H6 ⟨o8,o9,cs,vs,rfl,b6,p6,q6,hv,ho,⟨hl,hbox⟩,hbf⟩
        have hcell:∀c∈cs,dx<=c.1/\c.1<dx+W/\dy<=c.2/\c.2<dy+G:=λc hc=>by
          obtain⟨x1,x2,x3⟩:=hbox c hc;refine⟨x1,x2,x3,?_⟩;rcases hbf c hc with y |⟨y1,y2⟩
          . exact y
          . lia
        refine⟨_,rfl,k q cs H6 hq0 b6 (p6.le (by lia)) ⟨_,q6,hv⟩ ho ⟨dx,dy,W,G,hWG,hcell⟩ (by lia) λc hc=>?_⟩;obtain⟨x1,x2,x3,x4⟩:=hcell c hc;have hW2:W<=200:=by lia
        have hG2:G<=200:=by lia
        unfold CellB;lia
theorem ziP(es:List Edge)(y x:Int):((upr es y).filter λp=>decide (p<=x)).length=(es.filter (upL y x)).length:=by
 unfold upr;rw[List.filter_map,Ao,List.filter_filter]
 congr 1
 refine List.filter_congr λe _=>?_
 rw[Cc];unfold upL isUp px;simp only[Function.comp,Bp,Bool.or_eq_true,decide_eq_true_eq,beq_iff_eq];constructor
 .rintro⟨h1,h2⟩;rcases h2.1 with z |z
  .rw[if_pos (.inl z)]at h1;exact⟨h2.2,.inl ⟨z,h1⟩⟩
  .rw[if_neg (by lia)]at h1;exact⟨h2.2,.inr ⟨z,by lia⟩⟩
 .rintro⟨h1,⟨z,h2⟩ |⟨z,h2⟩⟩
  .rw[if_pos (.inl z)];exact⟨h2,.inl z,h1⟩
  .rw[if_neg (by lia)];exact⟨by lia,.inr z,h1⟩
theorem zeh{α:Type}(p:α->Bool){l:List α}{j:Nat}{x:α}(h:l[j]?=some x):(l.take (j+1)).filter p=(l.take j).filter p++(if p x=true then [x] else []):=by
 rw[zaz h,DX]
 congr 1
 cases z:p x <;> simp[z]
noncomputable def zlb:Sp:=λvs H Q _=>∃(a:Addr) (x y:Int) (H0:Hp) (es:List Edge) (kvs:List (Key×V)) (B:Int->Addr),vs=[.ref a,.int x,.int y]/\UD H0 H a es kvs B/\es.length<=480/\∀H',Same H H'->Q (.bl (decide ((es.filter (upL y x)).length % 2=1))) H'
theorem zet (T:Txt P w K mg) (d:Df K mg "lies_within" zbI ["places","x","y"]):FnOk P w K mg base CX0 1 d.f d.fd ["places","x","y"] zlb:=by
 refine d.F.ok zcU (λvs H Q E h=>?_) (λcdv A outer s H vs Q E hr h=>?_)
 .obtain⟨a,x,y,H0,es,kvs,B,rfl,_⟩:=h;rfl
 .obtain⟨a,x,y,H0,es,kvs,B,rfl,U,hlen,k⟩:=h;have hu1:=hu_of hr;have nb0:(["place","x"]:List Str).Nodup:=by decide +kernel
  refine⟨_,(zac (zhG (i:=3) (osc:=zad zbI) (N:=zcs) (N':=["place","x"]) (sel:=[none,some 1]) bO zcU.nd (by rfl) (Or.inl rfl) (zaB (zkz hu1 (pv 0) (pv 2) (zaZ zab) ⟨rfl,rfl,rfl,rfl⟩)) (λ_ _ _ _ _=>(nG 0 nb0)) (λ_ _ _ _ _=>zbP (zam op_le (pv 0) (pv 1) (zan _))) (λ_ _ _ _ _=>(pv 0)))
   (zaf (zal (zbc op_eq (pe_op za9 (zaT zba (by rfl) T.nlen (by rfl) (pa_N (pv 3) zab)) zae) zae (zan _))))),?_⟩
  have hσ:L2.start zcs [.ref a,.int x,.int y]=[some (.ref a),some (.int x),some (.int y),none]:=rfl;rw[hσ];refine⟨_,rfl,a,rfl,.inl ⟨kvs,.inl U.dict⟩,_,rfl,A9 _,λz hz=>?_⟩;have s1:=Same.up (o:=.lst []) hz;have e1:upd H z (.lst []) z=some (.lst []):=zaa;generalize upd H z (.lst [])=H1 at s1 e1 ⊢
  obtain⟨o,l,hDG,hol,hl⟩:∃o l,DGet H1 a (.int y) o/\o.getD (.ref z)=.ref l/\H1 l=some (.lst ((upr es y).map V.int)):=by
   by_cases hy:upr es y=[]
   .exact⟨none,z,.inl ⟨kvs,.inl y,.inl (s1 _ _ U.dict),rfl,(U.no _ hy).symm⟩,rfl,by rw[hy];exact e1⟩
   .obtain⟨b1,b2,b3,b4⟩:=U.at_ _ hy;exact⟨some (.ref (B y)),B y,.inl ⟨kvs,.inl y,.inl (s1 _ _ U.dict),rfl,b1.symm⟩,rfl,s1 _ _ b2⟩
  refine⟨o,hDG,l,hol,⟨_,SqL.of hl⟩,λg hg=>?_⟩
  have hul:(upr es y).length<=480:=by unfold upr;rw[Ao];exact AW (AI _ _) hlen
  have eml:((upr es y).map V.int).length=(upr es y).length:=Ao _;refine zar (K:=K) (a:=l) (xs:=(upr es y).map V.int) (λj σ H2=>∃o,σ=[o,some (.int x)]/\Same H1 H2/\H2 g=some (.lst ((((upr es y).take j).filter λp=>decide (p<=x)).map V.int))) ⟨_,rfl,Same.up hg,zaa⟩ (λj σ H2 _ ⟨_,_,s2,_⟩=>SqL.of (s2 _ _ hl)) ?_ ?_
  .rintro j v σ H2 hj ⟨o,rfl,s2,e2⟩;have hjl:j<(upr es y).length:=by have:=(Ad.mp hj).1;rw[eml]at this;exact this
   rw[AC,Aa hjl]at hj
   cases hj
   simp only[zap,AD,AE];refine⟨_,rfl,_,rfl,_,_,rfl,rfl,_,rfl,?_⟩;rw[zeh _ (Aa hjl)];refine ite2 (λhy=>?_) (λhn=>?_)
   .rw[if_pos hy];refine⟨_,rfl,_,e2,zaj ?_,_,rfl,zaq hg s2,?_⟩
    .rw[Ao];have:=AI (λp=>decide (p<=x)) ((upr es y).take j);rw[AQ]at this;lia
    .rw[zaa,A6];rfl
   .rw[if_neg hn,Bf];exact⟨_,rfl,s2,e2⟩
  .rintro σ H2 ⟨o,rfl,s2,e2⟩;rw[eml,AN]at e2;simp only[zap,AD,AE];refine⟨_,rfl,g,_,rfl,.inl (SqL.of e2),_,_,rfl,rfl,(by show (0:Int)<2;decide),rfl,?_⟩;have hq:=k H2 (s1.trans s2)
   have e3:decide (V.int ((((((upr es y).filter λp=>decide (p<=x)).map V.int).length:Nat):Int) % 2)=V.int 1)=decide ((es.filter (upL y x)).length % 2=1):=by
    rw[Ao,ziP];refine decide_eq_decide.mpr ⟨λq=>?_,λq=>?_⟩
    .injection q with q;lia
    .congr 1;lia
   rw[<- e3]at hq;exact hq
noncomputable def zdp(K:W.Frag):Sp:=λvs H Q _=>∃(a:Addr) (us:List V) (R:List Rnd) (cs:List Cell) (ESS:List (List Edge)),vs=[.ref a]/\H a=some (.lst us)/\VR us R rR H/\Cans (isIn cs) ESS R/\cs.length<=120 /\
 ∀p H' ws,H p=none->Same H H'->H' p=some (.lst ws)->VR ws ESS.flatten eR H'->Q (.ref p) H'
theorem zea (g_edges_of:Fn P w K mg base 6 "edges_of" ["one"] (zgc K)) (d:Df K mg "edges_of_all" zbw ["some"]):FnOk P w K mg base CX0 7 d.f d.fd ["some"] (zdp K):=by
 refine d.F.ok zdV (λvs H Q E h=>?_) (λcdv A outer s H vs Q E hr h=>?_)
 .obtain⟨a,us,R,cs,ESS,rfl,_⟩:=h;rfl
 .obtain⟨a,us,R,cs,ESS,rfl,ha,hv,hc,hcl,k⟩:=h;have nb0:(["one","edge"]:List Str).Nodup:=by decide +kernel
  refine⟨_,(zaf (zal (zjn (osc:=zad zbw) (N:=zcX) (N':=["one","edge"]) (sel:=[none,none]) bO (zaB (pv 0)) (λ_ _ _ _ _=>(nG 0 nb0)) (λ_ _ _ _ _=>zbQ) (λ_ _ _ _ _=>(zkv (K:=K) (pC g_edges_of hr (pa_N (pv 0) zab)))) (λ_ _ _ _ _=>(nG 1 nb0)) (λ_ _ _ _ _=>zbQ) (λ_ _ _ _ _=>(pv 1)) (λ_ _ _=>rfl)))),?_⟩;have hER:=hc.al.length
  have hsm:ESS.flatten.length<=480:=by
   rw[show (480:Nat)=4*120 from rfl];refine AW ?_ (Nat.mul_le_mul_left 4 hcl)
   rw[<- zaX];exact zav hc.nd λe he=>zbW.mpr ⟨of_decide_eq_true ((hc.all e).mp he).2.1,((hc.all e).mp he).1⟩
  refine⟨_,rfl,a,rfl,⟨_,SqL.of ha⟩,λg hg=>?_⟩;refine zar (K:=K) (a:=a) (xs:=us) (λj σ H2=>∃o0 o1 zs,σ=[o0,o1]/\Same H H2/\H2 g=some (.lst zs)/\VR zs (ESS.take j).flatten eR H2) ⟨_,_,[],rfl,Same.up hg,zaa,VR.nil⟩ (λj σ H2 _ ⟨_,_,_,_,s2,_⟩=>SqL.of (s2 _ _ ha)) ?_ ?_
  .rintro j v σ H2 hj ⟨o0,o1,zs,rfl,s2,e2,hz⟩;obtain⟨r,hr',hrv⟩:=hv.at hj;obtain⟨es,hes,hcan⟩:=hc.so hr';simp only[zap,AD,AE];refine zcf ?_
   have hesl:es.length<=480:=by have:=hcan.cl.1.short;lia
   have sub:(ESS.take j).flatten.length+es.length<=480:=by
    have e1:(ESS.take (j+1)).flatten=(ESS.take j).flatten++es:=by rw[zaz hes,Cb];simp
    have e2:ESS.flatten=(ESS.take (j+1)).flatten++(ESS.drop (j+1)).flatten:=by rw[<- Cb,CK]
    have e3:=congrArg List.length e2;rw[Ak,e1,Ak]at e3;lia
   refine⟨_,rfl,v,r,isIn cs,es,rfl,rR.kt hrv (KT.of s2),hcan,hesl,λpe H3 ws hpe s3 e3 hw=>?_⟩;refine⟨pe,rfl,⟨_,SqL.of e3⟩,?_⟩;have s23:=s2.trans s3;have hgp:g≠pe:=λq=>by rw[<- q,e2]at hpe;cases hpe
   have hpe0:H pe=none:=s2.free hpe;refine zar (K:=K) (a:=pe) (xs:=ws) (λi σ H4=>∃o1 zs',σ=[some v,o1]/\(∀b o,b≠g->H3 b=some o->H4 b=some o)/\H4 g=some (.lst zs')/\VR zs' ((ESS.take j).flatten++es.take i) eR H4) ⟨_,zs,rfl,(λb o _ h=>h),s3 _ _ e2,by rw[Dz,Bf];exact hz.mono λx v h=>h.kt (KT.of s3)⟩ (λi σ H4 _ ⟨_,_,_,b4,_⟩=>SqL.of (b4 _ _ (BW hgp) e3)) ?_ ?_
   .rintro i u σ H4 hi ⟨o1,zs',rfl,b4,e4,hz4⟩;obtain⟨f,hf,bf,rfl,qf⟩:=hw.at hi;simp only[zap,AD,AE];refine zcf ?_
    have hil:i<es.length:=(Ad.mp hf).1
    have hzl:zs'.length<=480:=by rw[hz4.1,Ak,AQ];lia
    refine⟨_,rfl,zs',e4,zaj (by lia),_,_,rfl,(λb o hb h=>by rw[zai hb];exact b4 b o hb h),zaa,?_⟩;rw[zaz hf,<- AL];have ktg:KT H4 (upd H4 g (.lst (zs'++[.ref bf]))):=KT.lst e4;refine hz4.snoc (λx v h=>h.kt ktg) ⟨bf,rfl,ktg _ _ (b4 _ _ (λq=>by rw[q,s3 _ _ e2]at qf;cases qf) qf)⟩
   .rintro σ H4 ⟨o1,zs',rfl,b4,e4,hz4⟩;rw[hw.1,AN]at hz4;refine⟨_,_,zs',rfl,(λb o h=>b4 b o (zak h hg) (s23 _ _ h)),e4,?_⟩;rw[zaz hes,Cb];simpa using hz4
  .rintro σ H2 ⟨o0,o1,zs,rfl,s2,e2,hz⟩;rw[hv.1,hER,AN]at hz;exact k g H2 zs hg s2 e2 hz
noncomputable def spFac:Sp:=λvs H Q _=>∃(b:Addr) (e:Edge),vs=[.ref b]/\H b=some (.tup (edgeT e))/\e.w<4/\∀p H',H p=none->Same H H'->H' p=some (.tup (edgeT (facE e)))->Q (.ref p) H'
theorem zey (g_gap_beside:Fn P w K mg base 2 "gap_beside" ["edge"] (spGap K)) (d:Df K mg "edge_facing" zcl ["edge"]):FnOk P w K mg base CX0 3 d.f d.fd ["edge"] spFac:=by
 refine d.F.ok zb1 (λvs H Q E h=>?_) (λcdv A outer s H vs Q E hr h=>?_)
 .obtain⟨b,e,rfl,_⟩:=h;rfl
 .obtain⟨b,e,rfl,hb,hw,k⟩:=h
  refine⟨_,(zac (zbm (pC g_gap_beside hr (pa_N (pv 0) zab)) (za8 (by rfl) (zag (nG 1 zb1.nd) (zag (nG 2 zb1.nd) zas))))
   (zaf (zal (zay (pa_N (pv 1) (pa_N (pv 2) (pa_B (pe_op za9 (pe_op zaG (pe_ix zb0 (pv 0) zae (λ_ _=>rfl)) zae) zae) zab))))))),?_⟩
  refine⟨_,rfl,b,e,rfl,SqT.of hb,hw,λp H1 hp s1 e1=>?_⟩;refine⟨p,_,rfl,SqT.of e1,rfl,_,_,rfl,_,_,rfl,rfl,?_⟩;refine⟨_,rfl,_,rfl,_,rfl,b,_,_,_,rfl,rfl,SqT.of (s1 _ _ hb),zaw (j:=2) rfl,_,_,rfl,rfl,_,_,rfl,rfl,(by show (0:Int)<4;decide),three,λq hq=>?_⟩;refine k q _ (s1.free hq) (s1.trans (Same.up hq)) ?_
  rw[zaa];show some (HO.tup [V.int (gap e).1,V.int (gap e).2,V.int (((e.w:Int)+2) % 4)])=some (HO.tup [V.int (gap e).1,V.int (gap e).2,V.int (((e.w+2) % 4:Nat):Int)]);rw[show (((e.w:Int)+2) % 4)=(((e.w+2) % 4:Nat):Int) by lia]
noncomputable def dE(L:List Edge):List (List Key×V):=L.map λe=>(kE e,.bl true)
theorem zhm(L:List Edge)(e:Edge):(valV (dE L) (kE e)).isSome=decide (e∈L):=by
 unfold valV dE;rw[Option.isSome_map]
 induction L with
 |nil=>simp
 |cons a L ih =>
  rw[A7,CQ]
  by_cases h:a=e
  .subst h;simp
  .have:decide (kE a=kE e)=false:=decide_eq_false λz=>h (zhX.mp z)
   rw[this];simp only;rw[ih];refine decide_eq_decide.mpr ⟨λz=>Ap _ z,λz=>(AM.mp z).resolve_left λq=>h q.symm⟩
theorem zli{L:List Edge}{e:Edge}(h:e ∉ L):putK (dE L) (kE e) (.bl true)=dE (L++[e]):=by
 have:valV (dE L) (kE e)=none:=by
  have:=zhm L e;rw[decide_eq_false h]at this
  cases z:valV (dE L) (kE e) with
  |none=>rfl
  |some v=>rw[z]at this;cases this
 rw[zfn _ this];unfold dE;rw[A6];rfl
theorem zmc(L:List Edge)(e:Edge):dropK (dE L) (kE e)=dE (L.filter λf=>decide (f≠e)):=by
 unfold dropK dE;rw[List.filter_map]
 congr 1
 refine List.filter_congr λf _=>?_
 show decide (kE f≠kE e)=decide (f≠e);exact decide_eq_decide.mpr ⟨λz q=>z (by rw[q]),λz q=>z (zhX.mp q)⟩
noncomputable def oldE(c:Cell)(b:Bool)(w:Nat):Edge:=if b=true then facE ⟨c,w⟩ else ⟨c,w⟩
noncomputable def newE(c:Cell)(b:Bool)(w:Nat):Edge:=if b=true then ⟨c,w⟩ else facE ⟨c,w⟩
theorem zh5{e f:Edge}(he:e.w<4)(hf:f.w<4)(h:facE e=facE f):e=f:=by rw[<- zdk he,h,zdk hf]
theorem zlU{c:Cell}{b:Bool}{v w:Nat}(hv:v<4)(hw:w<4)(h:oldE c b v=oldE c b w):v=w:=by
 unfold oldE at h
 cases b
 .simp only[A0,if_false]at h;exact congrArg Edge.w h
 .simp only[if_true]at h;exact congrArg Edge.w (zh5 hv hw h)
theorem zlZ{c:Cell}{b:Bool}{v w:Nat}(hv:v<4)(hw:w<4)(h:newE c b v=newE c b w):v=w:=by
 unfold newE at h
 cases b
 .simp only[A0,if_false]at h;exact congrArg Edge.w (zh5 hv hw h)
 .simp only[if_true]at h;exact congrArg Edge.w h
theorem zjs{c:Cell}{b:Bool}{v w:Nat}(hv:v<4)(hw:w<4):oldE c b v≠newE c b w:=λh=>by
 unfold oldE newE at h
 cases b
 .simp only[A0,if_false]at h;exact zef (e:=⟨c,w⟩) hw (congrArg Edge.c h).symm
 .simp only[if_true]at h;exact zef (e:=⟨c,v⟩) hv (congrArg Edge.c h)
noncomputable def Chg(c:Cell)(b:Bool)(es:List Edge)(i:Nat)(L:List Edge):Prop:=L.Nodup/\∀e,e∈L ↔ (e∈es/\∀w,w<i->e≠oldE c b w)∨∃w,w<i/\e=newE c b w/\oldE c b w ∉ es
theorem Chg.start{c:Cell}{b:Bool}{es:List Edge}(h:es.Nodup):Chg c b es 0 es:=⟨h,λe=>⟨λz=>.inl ⟨z,λw hw=>by lia⟩,λz=>by
 rcases z with z |⟨w,hw,_⟩
 .exact z.1
 .lia⟩⟩
theorem Chg.old{c:Cell}{b:Bool}{es L:List Edge}{i:Nat}(h:Chg c b es i L)(hi:i<4):oldE c b i∈L ↔ oldE c b i∈es:=by
 rw[h.2];constructor
 .rintro (z |⟨w,hw,z,_⟩)
  .exact z.1
  .exact absurd z (zjs hi (by lia))
 .intro z;exact .inl ⟨z,λw hw q=>by have:=zlU hi (by lia) q;lia⟩
theorem Chg.drop{c:Cell}{b:Bool}{es L:List Edge}{i:Nat}(h:Chg c b es i L)(hi:i<4)(ho:oldE c b i∈es):Chg c b es (i+1) (L.filter λf=>decide (f≠oldE c b i)):=by
 refine⟨h.1.filter _,λe=>?_⟩;rw[Br,decide_eq_true_iff,h.2];constructor
 .rintro⟨z |⟨w,hw,z,hn⟩,hne⟩
  .refine .inl ⟨z.1,λw hw=>?_⟩;rcases AZ w i with q |q
   .exact z.2 w q
   .have:w=i:=by lia
    rw[this];exact hne
  .exact .inr ⟨w,by lia,z,hn⟩
 .rintro (z |⟨w,hw,z,hn⟩)
  .exact⟨.inl ⟨z.1,λw hw=>z.2 w (by lia)⟩,z.2 i (by lia)⟩
  .have hwi:w≠i:=λq=>by rw[q]at hn;exact hn ho
   refine⟨.inr ⟨w,by lia,z,hn⟩,λq=>?_⟩;rw[z]at q;exact zjs hi (by lia) q.symm
theorem Chg.put{c:Cell}{b:Bool}{es L:List Edge}{i:Nat}(h:Chg c b es i L)(hi:i<4)(ho:oldE c b i ∉ es)(hn:∀w,w<4->newE c b w ∉ es):newE c b i ∉ L/\Chg c b es (i+1) (L++[newE c b i]):=by
 have hnot:newE c b i ∉ L:=λz=>by
  rcases (h.2 _).mp z with q |⟨w,hw,q,_⟩
  .exact hn i hi q.1
  .have:=zlZ hi (by lia) q;lia
 refine⟨hnot,List.nodup_append.mpr ⟨h.1,by simp,λa ha b' hb' q=>?_⟩,λe=>?_⟩
 .rw[Ah.mp hb']at q;rw[q]at ha;exact hnot ha
 .rw[List.mem_append,List.mem_singleton,h.2];constructor
  .rintro ((z |⟨w,hw,z,hn'⟩) |z)
   .refine .inl ⟨z.1,λw hw=>?_⟩;rcases AZ w i with q |q
    .exact z.2 w q
    .have:w=i:=by lia
     rw[this];exact λq=>ho (by rw[<- q];exact z.1)
   .exact .inr ⟨w,by lia,z,hn'⟩
   .exact .inr ⟨i,by lia,z,ho⟩
  .rintro (z |⟨w,hw,z,hn'⟩)
   .exact .inl (.inl ⟨z.1,λw hw=>z.2 w (by lia)⟩)
   .rcases AZ w i with q |q
    .exact .inl (.inr ⟨w,q,z,hn'⟩)
    .have:w=i:=by lia
     rw[this]at z;exact .inr z
theorem zi8{D:Ends}{H H3:Hp}{dd ro rn:Addr}{x y:Int}{b:Bool}{i:Nat}{es L:List Edge}{o0 o1 o2 o3 o5 o6:Option V}(hdd:H dd=none)(s3:Same H H3)(e3:H3 dd=some (.dT (dE L)))(hC:Chg (x, y) b es i L)(hi:i < 4)(hLl:L.length <= 480 + i)(hnew:∀w, w < 4 -> newE (x, y) b w ∉ es)
  (eo:H3 ro=some (.tup (edgeT (oldE (x,y) b i)))) (en:H3 rn=some (.tup (edgeT (newE (x,y) b i))))
  (k:∀H' L',Same H H'->H' dd=some (.dT (dE L'))->Chg (x,y) b es (i+1) L'->L'.length<=480+(i+1)->D.nx [o0,o1,o2,o3,some (.ref dd),o5,o6,some (.ref ro),some (.ref rn)] H') :
  tIfS (tB (tDIn (tVar 7) (tVar 4))) (zle (tVar 4) (tVar 7)) (sDPut (tVar 4) (tVar 8) (tC (V.bl true))) D [o0,o1,o2,o3,some (.ref dd),o5,o6,some (.ref ro),some (.ref rn)] H3:=by
 refine⟨_,rfl,_,rfl,dd,_,rfl,.inr ⟨_,kE (oldE (x,y) b i),ro,Rd.of e3,rfl,eo,rfl⟩,_,rfl,?_⟩;have sm:∀kvs,Same H (upd H3 dd (.dT kvs)):=λkvs z o e=>by rw[zai (zak e hdd)];exact s3 z o e
 refine ite2 (λhy=>?_) (λhn=>?_)
 .rw[zhm]at hy;have hin:=(hC.old hi).mp (of_decide_eq_true hy);refine⟨_,rfl,_,rfl,dd,_,kE (oldE (x,y) b i),ro,rfl,e3,rfl,eo,by rw[zhm];exact hy,?_⟩;rw[zmc];exact k _ _ (sm _) zaa (hC.drop hi hin) (AW (AI _ _) (by lia))
 .rw[zhm]at hn;have hno:oldE (x,y) b i ∉ es:=λz=>hn (decide_eq_true ((hC.old hi).mpr z))
  obtain⟨h1,h2⟩:=hC.put hi hno hnew;refine⟨_,rfl,_,rfl,dd,_,rfl,.inr ⟨_,kE (newE (x,y) b i),rn,e3,rfl,en,zaj (by unfold dE;rw[Ao];lia),rfl⟩,?_⟩;rw[zli h1];exact k _ _ (sm _) zaa h2 (by rw[Ak,BO];lia)
noncomputable def zff(K:W.Frag):Sp:=λvs H Q _=>∃(p:Addr) (us:List V) (es:List Edge) (x y:Int),vs=[.ref p,.int x,.int y]/\H p=some (.lst us)/\VR us es eR H/\es.length<=480/\∀H',Same H H'->Q (.bl (decide ((es.filter (upL y x)).length % 2=1))) H'
theorem ziA (g_lies_within:Fn P w K mg base 1 "lies_within" ["places","x","y"] zlb) (g_uprights:Fn P w K mg base 1 "uprights" ["edges"] (spUp K)) (d:Df K mg "is_cell" zd3 ["edges","x","y"]):FnOk P w K mg base CX0 2 d.f d.fd ["edges","x","y"] (zff K):=by
 refine d.F.ok zit (λvs H Q E h=>?_) (λcdv A outer s H vs Q E hr h=>?_)
 .obtain⟨p,us,es,x,y,rfl,_⟩:=h;rfl
 .obtain⟨p,us,es,x,y,rfl,hp,hv,hl,k⟩:=h;refine⟨_,(zaf (zal (pC g_lies_within hr (zah (pC g_uprights hr (pa_N (pv 0) zab)) (pa_N (pv 1) (pa_N (pv 2) zab)))))),?_⟩;refine⟨_,rfl,p,us,es,rfl,hp,hv,hl,λa H1 kvs B U=>?_⟩;exact⟨_,rfl,_,rfl,a,x,y,H,es,kvs,B,rfl,U,hl,λH2 s2=>k H2 (U.same.trans s2)⟩
noncomputable def zi3:Sp:=λvs H Q _=>∃(p:Addr) (us:List V) (es:List Edge) (x y:Int) (b:Bool),vs=[.ref p,.int x,.int y,.bl b]/\H p=some (.lst us)/\VR us es eR H/\es.Nodup/\es.length<=480/\(∀w,w<4->newE (x,y) b w ∉ es) /\
 ∀q H' ws L,H q=none->Same H H'->H' q=some (.lst ws)->VR ws L eR H'->Chg (x,y) b es 4 L->Q (.ref q) H'
theorem zdI (T:Txt P w K mg) (g_edge_facing:Fn P w K mg base 3 "edge_facing" ["edge"] spFac) (d:Df K mg "edges_changed" zbp ["edges","x","y","inside"]):FnOk P w K mg base CX0 4 d.f d.fd ["edges","x","y","inside"] zi3:=by
 refine d.F.ok zaM (λvs H Q E h=>?_) (λcdv A outer s H vs Q E hr h=>?_)
 .obtain⟨p,us,es,x,y,b,rfl,_⟩:=h;rfl
 .obtain⟨p,us,es,x,y,b,rfl,hp,hv,hnd,hl,hnew,k⟩:=h;have hu1:=hu_of hr;have nb0:(["edge"]:List Str).Nodup:=by decide +kernel
  refine⟨_,(zac (zkt (i:=4) hu1 (osc:=zad zbp) (N:=zbY) (N':=["edge"]) (sel:=[none]) bO zaM.nd (by rfl) (Or.inl rfl) (zaB (pv 0)) (λ_ _ _ _ _=>(nG 0 nb0)) (λ_ _ _ _ _=>zbQ) (λ_ _ _ _ _=>(pv 0)) (λ_ _ _ _ _=>pe_bl))
   (zac (zbG Bg rfl (zbR (by rfl) T.nrange (pa_C zae zab)) (nG 5 zaM.nd)
   (zac (sE 6 zaM.nd (zay (pa_N (pv 1) (pa_N (pv 2) (pa_N (pv 5) zab)))))
   (zac (zbm (zdM (zdh (pv 3)) (zay (zah (pC g_edge_facing hr (pa_N (pv 6) zab)) (pa_N (pv 6) zab))) (zay (pa_N (pv 6) (zah (pC g_edge_facing hr (pa_N (pv 6) zab)) zab)))) (za8 (by rfl) (zag (nG 7 zaM.nd) (zag (nG 8 zaM.nd) zas))))
   (zaf (ps_if (zhE (zll hu1 (pv 7) (pv 4)))
   (zaf (zks hu1 (pv 4) (pv 7)))
   (zaf (zjf hu1 (pv 4) (pv 8) pe_bl rfl)))))))
   (zaf (zal (zbT (zgG rfl) (by rfl) T.nlist (by rfl) (pa_N (pv 4) zab)))))),?_⟩
  have hσ:L2.start zbY [.ref p,.int x,.int y,.bl b]=[some (.ref p),some (.int x),some (.int y),some (.bl b),none,none,none,none,none]:=rfl;rw[hσ];refine⟨_,rfl,p,rfl,⟨_,SqL.of hp⟩,λdd hdd=>?_⟩;refine zar (K:=K) (a:=p) (xs:=us) (λi σ H2=>∃o,σ=[o]/\Same H H2/\H2 dd=some (.dT (dE (es.take i)))) ⟨_,rfl,Same.up hdd,zaa⟩ (λi σ H2 _ ⟨_,_,s2,_⟩=>SqL.of (s2 _ _ hp)) ?_ ?_
  .rintro i v σ H2 hi ⟨o,rfl,s2,e2⟩;obtain⟨f,hf,bf,rfl,qf⟩:=hv.at hi;have hil:i<es.length:=(Ad.mp hf).1;refine gN ?_
   have hnot:f ∉ es.take i:=λz=>by
    obtain⟨j,hj,ej⟩:=Az z;rw[AQ]at hj;rw[List.getElem_take]at ej;have h1:es[i]=f:=by rw[Aa hil]at hf;exact AX hf
    have:=List.pairwise_iff_getElem.mp hnd j i (by lia) hil (by lia);rw[ej,h1]at this;exact this rfl
   refine⟨_,rfl,_,.inr ⟨_,kE f,bf,e2,rfl,s2 _ _ qf,zaj (by unfold dE;rw[Ao,AQ];lia),rfl⟩,_,rfl,(λz o e=>by rw[zai (zak e hdd)];exact s2 z o e),?_⟩;rw[zaa,zli hnot,zaz hf]
  .rintro σ H2 ⟨o,rfl,s2,e2⟩;rw[hv.1,AN]at e2;simp only[zap,AD,AE];refine⟨4,rfl,by decide,by decide,?_⟩;refine zbC (lo:=0) (n:=(4:Int).toNat) (λi σ H3=>∃o5 o6 o7 o8 L,σ=[some (.ref p),some (.int x),some (.int y),some (.bl b),some (.ref dd),o5,o6,o7,o8]/\Same H H3/\H3 dd=some (.dT (dE L))/\Chg (x,y) b es i L/\L.length<=480+i) ⟨_,_,_,_,es,rfl,s2,e2,Chg.start hnd,by lia⟩ ?_ ?_
   .rintro i σ H3 hi ⟨o5,o6,o7,o8,L,rfl,s3,e3,hC,hLl⟩;have hi4:i<4:=hi;simp only[zap,AD,AE];refine⟨_,rfl,_,rfl,_,rfl,three,λt ht=>?_⟩;have s4:=Same.up (o:=.tup [.int x,.int y,.int (0+(i:Int))]) ht;have e4:upd H3 t (.tup [.int x,.int y,.int (0+(i:Int))]) t=some (.tup (edgeT ⟨(x,y),i⟩)):=by rw[zaa,Int.zero_add];rfl
    generalize upd H3 t (.tup [.int x,.int y,.int (0+(i:Int))])=H4 at s4 e4 ⊢;simp only[zap,AD,AE]
    cases b with
    |true =>
     refine⟨_,rfl,_,rfl,iteT ?_⟩;refine⟨_,rfl,t,⟨(x,y),i⟩,rfl,e4,hi4,λpf H5 hpf s5 e5=>⟨_,rfl,two,λtp htp=>?_⟩⟩;have s6:=Same.up (o:=.tup [.ref pf,.ref t]) htp;have e6:upd H5 tp (.tup [.ref pf,.ref t]) tp=some (.tup [.ref pf,.ref t]):=zaa;generalize upd H5 tp (.tup [.ref pf,.ref t])=H6 at s6 e6 ⊢;refine⟨tp,_,rfl,SqT.of e6,rfl,_,_,rfl,_,_,rfl,rfl,?_⟩;simp only[zap,AD,AE];have s36:=s4.trans (s5.trans s6);refine zi8 (i:=i) (b:=true) hdd (s3.trans s36) (s36 _ _ e3) hC hi4 hLl hnew (s6 _ _ e5) ((s5.trans s6) _ _ e4) λH7 L' s7 e7 hC' hl'=>?_
     exact⟨_,_,_,_,L',rfl,s7,e7,hC',hl'⟩
    |false =>
     refine⟨_,rfl,_,rfl,iteF ?_⟩;refine⟨_,rfl,_,rfl,t,⟨(x,y),i⟩,rfl,e4,hi4,λpf H5 hpf s5 e5=>⟨two,λtp htp=>?_⟩⟩;have s6:=Same.up (o:=.tup [.ref t,.ref pf]) htp;have e6:upd H5 tp (.tup [.ref t,.ref pf]) tp=some (.tup [.ref t,.ref pf]):=zaa;generalize upd H5 tp (.tup [.ref t,.ref pf])=H6 at s6 e6 ⊢;refine⟨tp,_,rfl,SqT.of e6,rfl,_,_,rfl,_,_,rfl,rfl,?_⟩;simp only[zap,AD,AE];have s36:=s4.trans (s5.trans s6);refine zi8 (i:=i) (b:=false) hdd (s3.trans s36) (s36 _ _ e3) hC hi4 hLl hnew ((s5.trans s6) _ _ e4) (s6 _ _ e5) λH7 L' s7 e7 hC' hl'=>?_
     exact⟨_,_,_,_,L',rfl,s7,e7,hC',hl'⟩
   .rintro σ H3 ⟨o5,o6,o7,o8,L,rfl,s3,e3,hC,hLl⟩;refine⟨_,rfl,dd,_,rfl,Rd.of e3,λq ts hq hK=>?_⟩;have sq:=Same.up (o:=.lst ts) hq;refine k q _ ts L (s3.free hq) (s3.trans sq) zaa ?_ hC;have hkl:(dE L).length=L.length:=Ao _;refine⟨by rw[hK.1,hkl],λi e v h1 h2=>?_⟩;have h3:(dE L)[i]?=some (kE e,.bl true):=by unfold dE;rw[AC,h1];rfl
    obtain⟨bb,rfl,hb⟩:=hK.2 i v _ _ h2 h3;exact⟨bb,rfl,sq _ _ hb⟩
structure Rds (cs:List Cell) (R:List Rnd):Prop where
 ord:InKey R
 ex:∃R0,R.Perm R0/\Whole cs R0
theorem Rds.one{cs:List Cell}{R S:List Rnd}(h:Rds cs R)(k:Rds cs S):R=S:=by obtain⟨R0,p,h1⟩:=h.ex;obtain⟨S0,q,k1⟩:=k.ex;exact Whole.one p q h.ord k.ord h1 k1
theorem Whole.congr{cs ds:List Cell}{R:List Rnd}(e:isIn cs=isIn ds)(h:Whole cs R):Whole ds R:=by unfold Whole at h ⊢;rw[<- e];exact h
theorem Rds.congr{cs ds:List Cell}{R:List Rnd}(e:isIn cs=isIn ds)(h:Rds cs R):Rds ds R:=⟨h.ord,let ⟨R0,p,w⟩:=h.ex;⟨R0,p,w.congr e⟩⟩
theorem Rds.cans{cs:List Cell}{R:List Rnd}(h:Rds cs R):∃ESS,Cans (isIn cs) ESS R:=let ⟨_,p,w⟩:=h.ex;w.cans p
theorem Rds.few{cs:List Cell}{R:List Rnd}(h:Rds cs R):R.length<=cs.length:=by obtain⟨R0,p,w⟩:=h.ex;rw[p.length_eq];exact w.few
theorem Rds.so{cs:List Cell}{R:List Rnd}(h:Rds cs R):∀r∈R,SoOk r:=λr hr=>by obtain⟨ESS,hc⟩:=h.cans;obtain⟨i,hi,rfl⟩:=Az hr;obtain⟨es,_,hcan⟩:=hc.so (Aa hi);rw[SoOk,hcan.so];exact zde _
theorem Along.whole{cs bs:List Cell}{L:List Edge}{R:List Rnd}(hL:∀e,e∈L ↔ IsE (isIn cs) e)(hB:∀x,isIn bs x=true ↔ ∃e,IsE (isIn cs) e/\e.c=x)(h:Along bs L R):Whole cs R:=by
 obtain⟨ESS,hP,h1,h2⟩:=h;have st:∀e,IsE (isIn cs) e->stepB (isIn bs) e=stepB (isIn cs) e:=λe he=>ziU hB he
 have cl:∀es∈ESS,∃b,Closed (isIn cs) b es/\∀e∈es,IsE (isIn cs) e:=λes he=>by obtain⟨b,hb,hc⟩:=h2 es he;exact⟨b,zhg hc ((hL b).mp hb) st⟩
 refine⟨ESS,⟨hP.len,λi es r e1 e2=>?_,hP.nd⟩,λe=>⟨λz=>?_,λz=>h1 e ((hL e).mpr z)⟩⟩
 .obtain⟨b,c1,c2⟩:=cl es (Aj e1);refine⟨⟨b,c1⟩,?_⟩
  have:wk (isIn bs) es=wk (isIn cs) es:=by unfold wk;exact List.map_congr_left λe he=>by rw[st e (c2 e he)]
  rw[<- this];exact (hP.each i es r e1 e2).2
 .obtain⟨es,m1,m2⟩:=DF.mp z;obtain⟨b,_,c2⟩:=cl es m1;exact c2 e m2
noncomputable def ChgR(H:Hp)(t:Addr)(R R':List Rnd):Prop:=∃pt pw pc ts vs us,H t=some (.tup [.ref pt,.ref pw,.ref pc])/\H pt=some (.lst ts)/\VR ts R' rR H/\H pw=some (.lst vs)/\VR vs (R.filter λr=>decide (r ∉ R')) rR H/\H pc=some (.lst us)/\VR us (R'.filter λr=>decide (r ∉ R)) rR H
theorem zcP{σ : St}{H:Hp}{Q:VK}{a b:Addr}{us vs:List V}{R S:List Rnd}{ia ib:Nat}(ha:H a=some (.lst us))(hb:H b=some (.lst vs))(hu:VR us R rR H)(hv:VR vs S rR H)(hR:∀r ∈ R, SoOk r)(hS:∀r ∈ S, SoOk r)(hl:R.length <= 120)(h1 : σ[ia]? = some (some (.ref a)))(h2 : σ[ib]? = some (some (.ref b)))
  (k:∀p H' ws,H p=none->Same H H'->H' p=some (.lst ws)->VR ws (R.filter λr=>decide (r ∉ S)) rR H'->Q (.ref p) H') :
  zf8 (iList K (tVar ia)) [none,some ib] (gName 0) (tTest (tOp (zd4 K) (tVar 0) (tVar 1))) (tVar 0) σ H Q:=by
 refine⟨_,h1,a,rfl,⟨_,SqL.of ha⟩,λg hg=>?_⟩;refine zar (K:=K) (a:=a) (xs:=us) (λj σ H2=>∃o ws,σ=[o,some (.ref b)]/\Same H H2/\H2 g=some (.lst ws)/\VR ws ((R.take j).filter λr=>decide (r ∉ S)) rR H2) ⟨none,[],by simp[selSt,h2],Same.up hg,zaa,VR.nil⟩ (λj σ H2 _ ⟨_,_,_,s2,_⟩=>SqL.of (s2 _ _ ha)) ?_ ?_
 .rintro j v σ H2 hj ⟨o,ws,rfl,s2,e2,hw⟩;obtain⟨r,hr,hrv⟩:=hu.at hj;have hjl:j<R.length:=(Ad.mp hr).1;simp only[zap,AD,AE]
  have hany:(!(S.map dR).any λe=>Bv e (dR r))=decide (r ∉ S):=by
   rw[List.any_map]
   by_cases hm:r∈S
   .rw[decide_eq_false (λq=>q hm)];rw[List.any_eq_true.mpr ⟨r,hm,by show Bv (dR r) (dR r)=true;rw[zjP];exact decide_eq_true rfl⟩];rfl
   .rw[decide_eq_true hm]
    have:(S.any ((λe=>Bv e (dR r)) ∘ dR))=false:=by rw[List.any_eq_false];intro q hq z;have:Bv (dR q) (dR r)=true:=z;rw[zjP]at this;rw[of_decide_eq_true this]at hq;exact hm hq
    rw[this];rfl
  refine⟨_,rfl,_,rfl,b,vs,dR r,S.map dR,rfl,SqL.of (s2 _ _ hb),zhB (rR.kt hrv (KT.of s2)),zdt (hv.mono λx v h=>rR.kt h (KT.of s2)),zgg (hR r (Aj hr)),?_,_,rfl,?_⟩
  .intro e he;obtain⟨q,hq,rfl⟩:=AS.mp he;exact zgg (hS q hq)
  rw[hany,zeh _ hr];refine ite2 (λhy=>?_) (λhn=>?_)
  .rw[if_pos hy];refine⟨_,rfl,ws,e2,zaj ?_,_,_,rfl,zaq hg s2,zaa,?_⟩
   .rw[hw.1];have:=AI (λr=>decide (r ∉ S)) (R.take j);rw[AQ]at this;lia
   .exact hw.snoc (λx v h=>rR.kt h (KT.lst e2)) (rR.kt (rR.kt hrv (KT.of s2)) (KT.lst e2))
  .rw[if_neg hn,Bf];exact⟨_,ws,rfl,s2,e2,hw⟩
 .rintro σ H2 ⟨o,ws,rfl,s2,e2,hw⟩;rw[hu.1,AN]at hw;exact k g H2 ws hg s2 e2 hw
noncomputable def zi0(K:W.Frag):Sp:=λvs H Q _=>∃(a p:Addr) (us ws:List V) (R:List Rnd) (L:List Edge) (cs:List Cell),vs=[.ref a,.ref p]/\H a=some (.lst us)/\VR us R rR H/\(∀r∈R,SoOk r)/\R.length<=120/\H p=some (.lst ws)/\VR ws L eR H/\L.length<=490/\(∀e,e∈L ↔ IsE (isIn cs) e)/\cs.length<=120 /\
 ∀t R' H',Same H H'->ChgR H' t R R'->Rds cs R'->Q (.ref t) H'
theorem zdu (T:Txt P w K mg) (g_rounds_along:Fn P w K mg base 6 "rounds_along" ["table","edges"] (zcg K)) (g_cell_table:Fn P w K mg base 1 "cell_table" ["picture"] (zfd K)) (d:Df K mg "rounds_changed" zaD ["some","edges"]):FnOk P w K mg base CX0 7 d.f d.fd ["some","edges"] (zi0 K):=by
 refine d.F.ok zcc (λvs H Q E h=>?_) (λcdv A outer s H vs Q E hr h=>?_)
 .obtain⟨a,p,us,ws,R,L,cs,rfl,_⟩:=h;rfl
 .obtain⟨a,p,us,ws,R,L,cs,rfl,ha,hv,hso,hRl,hp,hw,hLl,hL,hcl,k⟩:=h;have hu65:(A.deeper (DJ (BD "rounds_changed") (zad zaD) s.heap.objs.size d.f cdv)).units+65<cLine:=by have:=hr.un;lia
  have nb0:(["edge"]:List Str).Nodup:=by decide +kernel
  have nb1:(["one","some"]:List Str).Nodup:=by decide +kernel
  have nb2:(["one","told"]:List Str).Nodup:=by decide +kernel
  refine⟨_,(zac (zgk (i:=2) zcc.nd (by rfl) (DH rfl) (pC g_rounds_along hr (zah (pC g_cell_table hr (zah (za6 (osc:=zad zaD) (N:=za1) (N':=["edge"]) (sel:=[none]) bO (zaB (pv 1)) (λ_ _ _ _ _=>(nG 0 nb0)) (λ_ _ _ _ _=>zbQ) (λ_ _ _ _ _=>(zdL (zkl (K:=K)) (pv 0) zfp (zfo zae)))) zab)) (pa_N (pv 1) zab))))
   (zaf (zal (zay (pa_N (pv 2) (zah (za6 (osc:=zad zaD) (N:=za1) (N':=["one","told"]) (sel:=[none,some 2]) bO (zaB (pv 0)) (λ_ _ _ _ _=>(nG 0 nb2)) (λ_ _ _ _ _=>zbP (zam (zcO (K:=K) hu65) (pv 0) (pv 1) rfl)) (λ_ _ _ _ _=>(pv 0))) (zah (za6 (osc:=zad zaD) (N:=za1) (N':=["one","some"]) (sel:=[none,some 0]) bO (zaB (pv 2)) (λ_ _ _ _ _=>(nG 0 nb1)) (λ_ _ _ _ _=>zbP (zam (zcO (K:=K) hu65) (pv 0) (pv 1) rfl)) (λ_ _ _ _ _=>(pv 0))) zab))))))),?_⟩
  have hσ:L2.start za1 [.ref a,.ref p]=[some (.ref a),some (.ref p),none]:=rfl;rw[hσ];refine⟨_,rfl,p,rfl,⟨_,SqL.of hp⟩,λg hg=>?_⟩;refine zar (K:=K) (a:=p) (xs:=ws) (λj σ H2=>∃o zs,σ=[o]/\Same H H2/\H2 g=some (.lst zs)/\VR zs ((L.map (·.c)).take j) cR H2) ⟨_,[],rfl,Same.up hg,zaa,VR.nil⟩ (λj σ H2 _ ⟨_,_,_,s2,_⟩=>SqL.of (s2 _ _ hp)) ?_ ?_
  .rintro j v σ H2 hj ⟨o,zs,rfl,s2,e2,hz⟩;obtain⟨f,hf,bf,rfl,qf⟩:=hw.at hj;have hjl:j<L.length:=(Ad.mp hf).1;have hfc:(L.map (·.c))[j]?=some f.c:=by rw[AC,hf];rfl
   refine gN ?_
   refine⟨_,rfl,_,rfl,bf,_,rfl,SqT.of (s2 _ _ qf),(λhw=>absurd (show HT.sIx 3 3 (some 2)=3 from hw.2) (by decide)),λ_ t ht=>?_⟩;have hcut:cutV (edgeT f) none (some 2)=cellT f.c:=rfl;rw[hcut];have s3:=Same.up (o:=.tup (cellT f.c)) ht;have e3:upd H2 t (.tup (cellT f.c)) t=some (.tup (cellT f.c)):=zaa;generalize upd H2 t (.tup (cellT f.c))=H3 at s3 e3 ⊢;have e23:=s3 _ _ e2;have ktg:KT H3 (upd H3 g (.lst (zs++[.ref t]))):=KT.lst e23;refine⟨zs,e23,zaj (by rw[hz.1,AQ,Ao];lia),_,_,rfl,zaq hg (s2.trans s3),zaa,?_⟩;rw[zaz hfc];exact hz.snoc (λx v h=>(h.kt (KT.of s3)).kt ktg) ⟨t,rfl,ktg _ _ e3⟩
  .rintro σ H2 ⟨o,zs,rfl,s2,e2,hz⟩;have hml:(L.map (·.c)).length=L.length:=Ao _;rw[hw.1,<- hml,AN]at hz;refine⟨g,L.map (·.c),rfl,LR.of e2 hz,by lia,λt H3 ht s3 tab=>?_⟩
   have ebs:isIn (L.map (·.c))=isIn (cs.filter λc=>decide (c∈L.map (·.c))):=by
    funext c
    unfold isIn;refine decide_eq_decide.mpr ?_
    rw[Br,decide_eq_true_iff];refine⟨λz=>⟨?_,z⟩,λz=>z.2⟩;obtain⟨e,he,rfl⟩:=AS.mp z;exact of_decide_eq_true ((hL e).mp he).2.1
   have hB:∀x,isIn (cs.filter λc=>decide (c∈L.map (·.c))) x=true ↔ ∃e,IsE (isIn cs) e/\e.c=x:=λx=>by rw[<- ebs];unfold isIn;rw[decide_eq_true_iff,List.mem_map];exact⟨λ⟨e,he,q⟩=>⟨e,(hL e).mp he,q⟩,λ⟨e,he,q⟩=>⟨e,(hL e).mpr he,q⟩⟩
   rw[ebs]at tab;have hbl:(cs.filter λc=>decide (c∈L.map (·.c))).length<=120:=AW (AI _ _) hcl;generalize (cs.filter λc=>decide (c∈L.map (·.c)))=bs at tab hB hbl;have s03:=s2.trans s3;refine⟨_,rfl,t,p,bs,ws,L,rfl,tab,s03 _ _ hp,hw.mono (λx v h=>h.same s03),(λe he=>zl8 hB ((hL e).mp he)),hbl,λpr H4 rs R' R0 hpr s4 e4 hv4 hpm hord hAl=>?_⟩;have hRds:Rds cs R':=⟨hord,R0,hpm,hAl.whole hL hB⟩;have s04:=s03.trans s4;simp only[zap,AD,AE];have hR'l:R'.length<=120:=AW hRds.few hcl;refine⟨_,rfl,zcP (K:=K) (ia:=0) (ib:=2) (s04 _ _ ha) e4 (hv.mono λx v h=>rR.kt h (KT.of s04)) hv4 hso hRds.so hRl rfl rfl λpw H5 vs5 hpw s5 e5 hv5=>?_⟩;refine zcP (K:=K) (ia:=2) (ib:=0) (s5 _ _ e4) ((s04.trans s5) _ _ ha) (hv4.mono λx v h=>rR.kt h (KT.of s5)) (hv.mono λx v h=>rR.kt h (KT.of (s04.trans s5))) hRds.so hso hR'l rfl rfl λpc H6 vs6 hpc s6 e6 hv6=>?_
   refine⟨(by show 3<=sizeLine;decide),λt7 ht7=>?_⟩;have s7:=Same.up (o:=.tup [.ref pr,.ref pw,.ref pc]) ht7;refine k t7 R' _ (s04.trans (s5.trans (s6.trans s7))) ⟨pr,pw,pc,rs,vs5,vs6,zaa,(s5.trans (s6.trans s7)) _ _ e4,hv4.mono λx v h=>rR.kt h (KT.of (s5.trans (s6.trans s7))),(s6.trans s7) _ _ e5,hv5.mono λx v h=>rR.kt h (KT.of (s6.trans s7)),s7 _ _ e6,hv6.mono λx v h=>rR.kt h (KT.of s7)⟩ hRds
theorem zfK(cs:List Cell)(c:Cell):isIn (cs++[c])=chg (isIn cs) c true:=by
 funext x
 unfold isIn chg
 by_cases h:x=c
 .rw[if_pos h,h];simp
 .rw[if_neg h];simp[h]
theorem zed(cs:List Cell)(c:Cell):isIn (cs.filter λx=>decide (x≠c))=chg (isIn cs) c false:=by
 funext x
 unfold isIn chg
 by_cases h:x=c
 .rw[if_pos h,h];simp
 .rw[if_neg h];simp[h]
theorem zmf{cs:List Cell}{c:Cell}{es L:List Edge}(hc:isIn cs c=false)(hE:∀e,e∈es ↔ IsE (isIn cs) e)(h:Chg c true es 4 L):∀e,e∈L ↔ IsE (isIn (cs++[c])) e:=λe=>by rw[zfK,zlO hc,h.2];unfold oldE newE;simp only[if_true,hE]
theorem zkZ{cs:List Cell}{c:Cell}{es L:List Edge}(hc:isIn cs c=true)(hE:∀e,e∈es ↔ IsE (isIn cs) e)(h:Chg c false es 4 L):∀e,e∈L ↔ IsE (isIn (cs.filter λx=>decide (x≠c))) e:=λe=>by rw[zed,zkj hc,h.2];unfold oldE newE;simp only[A0,if_false,hE]
theorem zlY{cs:List Cell}{c:Cell}{es:List Edge}(hc:isIn cs c=false)(hE:∀e,e∈es ↔ IsE (isIn cs) e):∀w,w<4->newE c true w ∉ es:=λw hw z=>by
 have:=((hE _).mp z).2.1;have e:(newE c true w).c=c:=rfl;rw[e,hc]at this
 cases this
theorem zkC{cs:List Cell}{c:Cell}{es:List Edge}(hc:isIn cs c=true)(hE:∀e,e∈es ↔ IsE (isIn cs) e):∀w,w<4->newE c false w ∉ es:=λw hw z=>by
 have h1:=(hE _).mp z;have e:newE c false w=facE ⟨c,w⟩:=rfl;rw[e,zdj hw,hc]at h1
 cases h1.2
theorem Cans.small{cs:List Cell}{ESS:List (List Edge)}{R:List Rnd}(hc:Cans (isIn cs) ESS R):ESS.flatten.length<=4*cs.length:=by rw[<- zaX];exact zav hc.nd λe he=>zbW.mpr ⟨of_decide_eq_true ((hc.all e).mp he).2.1,((hc.all e).mp he).1⟩
theorem zlr{cs:List Cell}{L:List Edge}(nd:L.Nodup)(h:∀e,e∈L ↔ IsE (isIn cs) e):L.length<=4*cs.length:=by rw[<- zaX];exact zav nd λe he=>zbW.mpr ⟨of_decide_eq_true ((h e).mp he).2.1,((h e).mp he).1⟩
noncomputable def spPut(K:W.Frag):Sp:=λvs H Q _=>∃(a:Addr) (us:List V) (R:List Rnd) (cs:List Cell) (x y:Int),vs=[.ref a,.int x,.int y]/\H a=some (.lst us)/\VR us R rR H/\Rds cs R/\cs.length<=119/\isIn cs (x,y)=false /\
 ∀t R' H',Same H H'->ChgR H' t R R'->Rds (cs++[(x,y)]) R'->Q (.ref t) H'
theorem zmK (T:Txt P w K mg) (g_edges_of_all:Fn P w K mg base 7 "edges_of_all" ["some"] (zdp K)) (g_is_cell:Fn P w K mg base 2 "is_cell" ["edges", "x", "y"] (zff K)) (g_edges_changed:Fn P w K mg base 4 "edges_changed" ["edges", "x", "y", "inside"] zi3) (g_rounds_changed:Fn P w K mg base 7 "rounds_changed" ["some", "edges"] (zi0 K))
  (d:Df K mg "put" s_put ["some","x","y"]):FnOk P w K mg base CX0 8 d.f d.fd ["some","x","y"] (spPut K):=by
 refine d.F.ok zld (λvs H Q E h=>?_) (λcdv A outer s H vs Q E hr h=>?_)
 .obtain⟨a,us,R,cs,x,y,rfl,_⟩:=h;rfl
 .obtain⟨a,us,R,cs,x,y,rfl,ha,hv,hR,hcl,hc,k⟩:=h
  refine⟨_,(zac (sE 3 zld.nd (pC g_edges_of_all hr (pa_N (pv 0) zab)))
   (zac (ps_if (zdh (pC g_is_cell hr (pa_N (pv 3) (pa_N (pv 1) (pa_N (pv 2) zab)))))
   (zaf zdi)
   zaA)
   (zaf (zal (pC g_rounds_changed hr (pa_N (pv 0) (zah (pC g_edges_changed hr (pa_N (pv 3) (pa_N (pv 1) (pa_N (pv 2) (pa_C pe_bl zab))))) zab))))))),?_⟩
  obtain⟨ESS,hcans⟩:=hR.cans;have hsm:=hcans.small;refine⟨_,rfl,a,us,R,cs,ESS,rfl,ha,hv,hcans,by lia,λp H1 ws hp s1 e1 hw=>?_⟩;simp only[zap];refine⟨_,rfl,_,rfl,_,rfl,p,ws,ESS.flatten,x,y,rfl,e1,hw,by lia,λH2 s2=>⟨_,rfl,iteN ?_ ?_⟩⟩
  .refine decide_eq_false λz=>?_
   rw[zig hcans.nd hcans.all x y,hc]at z
   cases z
  refine⟨_,rfl,_,rfl,_,rfl,_,rfl,p,ws,ESS.flatten,x,y,true,rfl,s2 _ _ e1,hw.mono (λx v h=>h.same s2),hcans.nd,by lia,zlY hc hcans.all,λq H3 ws3 L hq s3 e3 hw3 hC=>?_⟩;have hLE:=zmf hc hcans.all hC;have s03:=s1.trans (s2.trans s3);have hL4:=zlr hC.1 hLE;rw[Ak,BO]at hL4;refine⟨a,q,us,ws3,R,L,cs++[(x,y)],rfl,s03 _ _ ha,hv.mono (λx v h=>rR.kt h (KT.of s03)),hR.so,by have:=hR.few;lia,e3,hw3,by lia,hLE,by rw[Ak,BO];lia,λt R' H4 s4 hCR hRds=>?_⟩;exact k t R' H4 (s03.trans s4) hCR hRds
noncomputable def ziX(K:W.Frag):Sp:=λvs H Q _=>∃(a:Addr) (us:List V) (R:List Rnd) (cs:List Cell) (x y:Int),vs=[.ref a,.int x,.int y]/\H a=some (.lst us)/\VR us R rR H/\Rds cs R/\cs.length<=120/\isIn cs (x,y)=true /\
 ∀t R' H',Same H H'->ChgR H' t R R'->Rds (cs.filter λc=>decide (c≠(x,y))) R'->Q (.ref t) H'
theorem zkB (T:Txt P w K mg) (g_edges_of_all:Fn P w K mg base 7 "edges_of_all" ["some"] (zdp K)) (g_is_cell:Fn P w K mg base 2 "is_cell" ["edges", "x", "y"] (zff K)) (g_edges_changed:Fn P w K mg base 4 "edges_changed" ["edges", "x", "y", "inside"] zi3) (g_rounds_changed:Fn P w K mg base 7 "rounds_changed" ["some", "edges"] (zi0 K))
  (d:Df K mg "taken" zgZ ["some","x","y"]):FnOk P w K mg base CX0 8 d.f d.fd ["some","x","y"] (ziX K):=by
 refine d.F.ok zhA (λvs H Q E h=>?_) (λcdv A outer s H vs Q E hr h=>?_)
 .obtain⟨a,us,R,cs,x,y,rfl,_⟩:=h;rfl
 .obtain⟨a,us,R,cs,x,y,rfl,ha,hv,hR,hcl,hc,k⟩:=h
  refine⟨_,(zac (sE 3 zhA.nd (pC g_edges_of_all hr (pa_N (pv 0) zab)))
   (zac (ps_if (zhD (zdh (pC g_is_cell hr (pa_N (pv 3) (pa_N (pv 1) (pa_N (pv 2) zab))))))
   (zaf zdi)
   zaA)
   (zaf (zal (pC g_rounds_changed hr (pa_N (pv 0) (zah (pC g_edges_changed hr (pa_N (pv 3) (pa_N (pv 1) (pa_N (pv 2) (pa_C pe_bl zab))))) zab))))))),?_⟩
  obtain⟨ESS,hcans⟩:=hR.cans;have hsm:=hcans.small;refine⟨_,rfl,a,us,R,cs,ESS,rfl,ha,hv,hcans,by lia,λp H1 ws hp s1 e1 hw=>?_⟩;simp only[zap];refine⟨_,rfl,_,rfl,_,rfl,p,ws,ESS.flatten,x,y,rfl,e1,hw,by lia,λH2 s2=>⟨_,rfl,iteN ?_ ?_⟩⟩
  .have:decide ((ESS.flatten.filter (upL y x)).length % 2=1)=true:=decide_eq_true ((zig hcans.nd hcans.all x y).mpr hc);rw[this];rfl
  refine⟨_,rfl,_,rfl,_,rfl,_,rfl,p,ws,ESS.flatten,x,y,false,rfl,s2 _ _ e1,hw.mono (λx v h=>h.same s2),hcans.nd,by lia,zkC hc hcans.all,λq H3 ws3 L hq s3 e3 hw3 hC=>?_⟩;have hLE:=zkZ hc hcans.all hC;have s03:=s1.trans (s2.trans s3);have hL4:=zlr hC.1 hLE;have hfl:=AI (λc=>decide (c≠(x,y))) cs;refine⟨a,q,us,ws3,R,L,cs.filter λc=>decide (c≠(x,y)),rfl,s03 _ _ ha,hv.mono (λx v h=>rR.kt h (KT.of s03)),hR.so,by have:=hR.few;lia,e3,hw3,AW hL4 (AW (Nat.mul_le_mul_left 4 (AI _ _)) (by lia)),hLE,AW (AI _ _) hcl,λt R' H4 s4 hCR hRds=>?_⟩;exact k t R' H4 (s03.trans s4) hCR hRds
mutual
inductive DD (H:Hp):V->PyData->Prop where
 |non:DD H .non .none
 |bl (b:Bool):DD H (.bl b) (.bool b)
 |int (i:Int):DD H (.int i) (.int i)
 |str (x:Str):DD H (.str x) (.str x)
 |lst {a:Addr} {xs:List V} {ds:List PyData}:H a=some (.lst xs)->DDs H xs ds->DD H (.ref a) (.list ds)
 |tup {a:Addr} {xs:List V} {ds:List PyData}:H a=some (.tup xs)->DDs H xs ds->DD H (.ref a) (.tuple ds)
inductive DDs (H:Hp):List V->List PyData->Prop where
 |nil:DDs H [] []
 |cons {x:V} {xs:List V} {d:PyData} {ds:List PyData}:DD H x d->DDs H xs ds->DDs H (x::xs) (d::ds)
end
mutual
theorem DD.rd{K:W.Frag}{H:Hp}:∀{v:V}{d:PyData},DD H v d->RD K H v d
 |_,_,.non=>.non
 |_,_,.bl b=>.bl b
 |_,_,.int i=>.int i
 |_,_,.str x=>.str x
 |_,_,.lst e h=>.lst (SqL.of e) h.rds
 |_,_,.tup e h=>.tup (SqT.of e) h.rds
theorem DDs.rds{K:W.Frag}{H:Hp}:∀{vs:List V}{ds:List PyData},DDs H vs ds->RDs K H vs ds
 |_,_,.nil=>.nil
 |_,_,.cons h t=>.cons h.rd t.rds
end
mutual
theorem DD.same{H H':Hp}(s:Same H H'):∀{v:V}{d:PyData},DD H v d->DD H' v d
 |_,_,.non=>.non
 |_,_,.bl b=>.bl b
 |_,_,.int i=>.int i
 |_,_,.str x=>.str x
 |_,_,.lst e h=>.lst (s _ _ e) (h.same s)
 |_,_,.tup e h=>.tup (s _ _ e) (h.same s)
theorem DDs.same{H H':Hp}(s:Same H H'):∀{vs:List V}{ds:List PyData},DDs H vs ds->DDs H' vs ds
 |_,_,.nil=>.nil
 |_,_,.cons h t=>.cons (h.same s) (t.same s)
end
theorem DDs.len{H:Hp}:∀{vs:List V}{ds:List PyData},DDs H vs ds->vs.length=ds.length
 |_,_,.nil=>rfl
 |_,_,.cons _ t=>by simp[t.len]
theorem DDs.at{H:Hp}:∀{vs:List V}{ds:List PyData},DDs H vs ds->∀{i:Nat}{v:V},vs[i]?=some v->∃d,ds[i]?=some d/\DD H v d
 |_,_,.nil,i,v,h=>by simp at h
 |_,_,.cons h t,0,v,e=>by simp at e;subst e;exact⟨_,rfl,h⟩
 |_,_,.cons h t,i+1,v,e=>by
  obtain⟨d,h1,h2⟩:=t.at (i:=i) (v:=v) (by simpa using e);exact⟨d,by simpa using h1,h2⟩
noncomputable def iv:PyData->Int
 |.int i=>i
 |_=>0
structure Nc (d:PyData) (w k:Nat):Prop where
 ls:d.leavesShort 120=true
 sh:d.showable=true
 cl:d.canLay0=true
 dp:d.depth<=k
 wt:d.weight<=w
structure Ncs (ds:List PyData) (w k:Nat):Prop where
 ls:PyData.leavesShortAll 120 ds=true
 sh:PyData.showableAll ds=true
 cl:BQ ds=true
 dp:B5 ds<=k
 wt:PyData.weightAll ds<=w
mutual
inductive IsD:Expr->PyData->Prop where
 |non {j:Nat} {p:Pos}:IsD (.Constant .none j p) .none
 |bl {b:Bool} {j:Nat} {p:Pos}:IsD (.Constant (.bool b) j p) (.bool b)
 |int {i:Int} {j:Nat} {p:Pos}:IsD (.Constant (.int i) j p) (.int i)
 |str {x:Str} {j:Nat} {p:Pos}:IsD (.Constant (.str x) j p) (.str x)
 |neg {i:Int} {j:Nat} {p q:Pos}:IsD (.UnaryOp .USub (.Constant (.int i) j p) q) (.int (-i))
 |pow {i m:Int} {j j':Nat} {p p' q:Pos}:CPow i m->IsD (.BinOp (.Constant (.int i) j p) .Pow (.Constant (.int m) j' p') q) (.int (i ^ m.toNat))
 |lst {es:List Expr} {ds:List PyData} {p:Pos}:IsDs es ds->ds.length<=1000->IsD (.List es p) (.list ds)
 |tup {es:List Expr} {ds:List PyData} {j:Nat} {p:Pos}:IsDs es ds->ds.length<=1000->IsD (.Tuple es j p) (.tuple ds)
inductive IsDs:List Expr->List PyData->Prop where
 |nil:IsDs [] []
 |cons {e:Expr} {es:List Expr} {d:PyData} {ds:List PyData}:IsD e d->IsDs es ds->IsDs (e::es) (d::ds)
end
noncomputable def tDat(d:PyData):TE:=λ_ H Q=>∀v H',Same H H'->DD H' v d->Q v H'
noncomputable def tDats(ds:List PyData):TA:=λ_ H Q=>∀vs H',Same H H'->DDs H' vs ds->Q vs H'
theorem PE.imp{X:Cx}{e:Expr}{t t':TE}(h:PE X e t)(k:∀ σ H Q,t' σ H Q->t σ H Q):PE X e t':=λpins s σ H Q I q=>h pins s σ H Q I (k σ H Q q)
theorem PA.imp{X:Cx}{e:List Expr}{t t':TA}(h:PA X e t)(k:∀ σ H Q,t' σ H Q->t σ H Q):PA X e t':=λpos pins s σ H Q I q=>h pos pins s σ H Q I (k σ H Q q)
mutual
theorem zmI{X:Cx}:∀{e:Expr}{d:PyData},IsD e d->PE X e (tDat d)
 |_,_,.non=>PE.imp zbS λσ H Q q=>q _ H (Same.refl _) .non
 |_,_,.bl=>PE.imp pe_bl λσ H Q q=>q _ H (Same.refl _) (.bl _)
 |_,_,.int=>PE.imp zae λσ H Q q=>q _ H (Same.refl _) (.int _)
 |_,_,.str=>PE.imp zgm λσ H Q q=>q _ H (Same.refl _) (.str _)
 |_,_,.neg=>PE.imp (pe_un zk3 zae) λσ H Q q=>⟨_,rfl,q _ H (Same.refl _) (.int _)⟩
 |_,_,.pow hc=>PE.imp (pe_op zeX zae zae) λσ H Q q=>⟨_,_,rfl,rfl,hc,q _ H (Same.refl _) (.int _)⟩
 |_,_,.lst h hl=>PE.imp (zaZ (zfq h)) λσ H Q q vs H1 s1 d1=>⟨BJ (zaj (by rw[d1.len];exact hl)),λp hp=>q _ _ (s1.trans (Same.up hp)) (.lst zaa (d1.same (Same.up hp)))⟩
 |_,_,.tup h hl=>PE.imp (zay (zfq h)) λσ H Q q vs H1 s1 d1=>⟨BJ (zaj (by rw[d1.len];exact hl)),λp hp=>q _ _ (s1.trans (Same.up hp)) (.tup zaa (d1.same (Same.up hp)))⟩
theorem zfq{X:Cx}:∀{es:List Expr}{ds:List PyData},IsDs es ds->PA X es (tDats ds)
 |_,_,.nil=>PA.imp zab λσ H Q q=>q _ H (Same.refl _) .nil
 |_,_,.cons h t=>PA.imp (zah (zmI h) (zfq t) (by cases h <;> rfl)) λσ H Q q v H1 s1 d1 vs H2 s2 d2=>q _ H2 (s1.trans s2) (.cons (d1.same s2) d2)
end
noncomputable def getB1:List Stmt->List Expr
 |.Assign _ (.Subscript (.List es _) _ _) _::_=>es
 |_=>[]
noncomputable def setB1(es:List Expr):List Stmt->List Stmt
 |.Assign t (.Subscript (.List _ p) ix q) r::l=>.Assign t (.Subscript (.List es p) ix q) r::l
 |l=>l
noncomputable def mvD:List PyData:=[.tuple [.int 1,.int 0],.tuple [.int 1,.int 1],.tuple [.int 0,.int 1],.tuple [.int (-1),.int 1],.tuple [.int (-1),.int 0],.tuple [.int (-1),.int (-1)],.tuple [.int 0,.int (-1)],.tuple [.int 1,.int (-1)]]
theorem zmN{n:Nat}(h:n<8):mvD[n]?=some (.tuple [.int (mv n).1,.int (mv n).2]):=by
 have:n=0∨n=1∨n=2∨n=3∨n=4∨n=5∨n=6∨n=7:=by lia
 rcases this with rfl |rfl |rfl |rfl |rfl |rfl |rfl |rfl <;> rfl
structure SeenI (H:Hp) (F:Addr) (H2:Hp) (S:List Cell) (n:Nat):Prop where
 same:Same H H2
 new:H F=none
 ex:∃ws,H2 F=some (.lst ws)/\VR ws S cR H2
 len:S.length<=n
theorem SeenI.up{H H2 H3:Hp}{F:Addr}{S:List Cell}{n:Nat}(h:SeenI H F H2 S n)(s:Same H2 H3):SeenI H F H3 S n:=⟨h.same.trans s,h.new,let ⟨ws,e,v⟩:=h.ex;⟨ws,s _ _ e,v.mono λx v q=>q.kt (KT.of s)⟩,h.len⟩
theorem SeenI.le{H H2:Hp}{F:Addr}{S:List Cell}{n m:Nat}(h:SeenI H F H2 S n)(l:n<=m):SeenI H F H2 S m:=⟨h.same,h.new,h.ex,AW h.len l⟩
theorem SeenI.app{H H3:Hp}{F:Addr}{S T:List Cell}{n m:Nat}{ws zs:List V}(h:SeenI H F H3 S n)(e:H3 F=some (.lst ws))(v:VR ws S cR H3)(z:VR zs T cR H3)(hm:n+T.length<=m):SeenI H F (upd H3 F (.lst (ws++zs))) (S++T) m:=by have kt:KT H3 (upd H3 F (.lst (ws++zs))):=KT.lst e;refine⟨zaq h.new h.same,h.new,⟨_,zaa,(v.mono λx v q=>q.kt kt).app (z.mono λx v q=>q.kt kt)⟩,?_⟩;have:=h.len;rw[Ak];lia
noncomputable def zhx:Sp:=λvs H Q _=>∃(x y st:Int),vs=[.int x,.int y,.int st]/\∀p H',H p=none->Same H H'->H' p=some (.tup (cellT (go (x,y) (st % 8).toNat)))->Q (.ref p) H'
theorem zfv (d:Df K mg "_law_beside" zaP ["_law_x","_law_y","_law_step"]):FnOk P w K mg base CX0 1 d.f d.fd ["_law_x","_law_y","_law_step"] zhx:=by
 refine d.F.ok zb2 (λvs H Q E h=>?_) (λcdv A outer s H vs Q E hr h=>?_)
 .obtain⟨x,y,st,rfl,_⟩:=h;rfl
 .obtain⟨x,y,st,rfl,k⟩:=h;have e:zaI zaP=setB1 (getB1 (zaI zaP)) (zaI zaP):=by rfl
  have hE1:IsDs (getB1 (zaI zaP)) mvD:=.cons (.tup (.cons .int (.cons .int .nil)) (by decide)) (.cons (.tup (.cons .int (.cons .int .nil)) (by decide)) (.cons (.tup (.cons .int (.cons .int .nil)) (by decide)) (.cons (.tup (.cons .neg (.cons .int .nil)) (by decide)) (.cons (.tup (.cons .neg (.cons .int .nil)) (by decide)) (.cons (.tup (.cons .neg (.cons .neg .nil)) (by decide)) (.cons (.tup (.cons .int (.cons .neg .nil)) (by decide)) (.cons (.tup (.cons .int (.cons .neg .nil)) (by decide)) .nil)))))));rw[e];generalize getB1 (zaI zaP)=es1 at hE1 ⊢;clear e
  refine⟨_,(zac (zbm (pe_ix zaS (zaZ (zfq hE1)) (pe_op za9 (pv 2) zae) (λ_ _=>rfl)) (za8 (by rfl) (zag (nG 3 zb2.nd) (zag (nG 4 zb2.nd) zas))))
   (zaf (zal (zay (pa_B (pe_op zaG (pv 0) (pv 3)) (pa_B (pe_op zaG (pv 1) (pv 4)) zab)))))),?_⟩
  obtain⟨n,hn,hn8⟩:∃n:Nat,st % 8=(n:Int)/\n<8:=⟨(st % 8).toNat,by lia,by lia⟩;refine λvs1 H1 s1 d1=>⟨BJ (zaj (by rw[d1.len];decide)),λl hl=>?_⟩
  have s2:=Same.up (o:=.lst vs1) hl;have e2:upd H1 l (.lst vs1) l=some (.lst vs1):=zaa;have d2:=d1.same s2;generalize upd H1 l (.lst vs1)=H2 at s2 e2 d2 ⊢;have hvl:vs1.length=8:=d1.len;have hvx:vs1[n]?=some vs1[n]:=Aa (by lia)
  obtain⟨dt,hdt,hDt⟩:=d2.at hvx;rw[zmN hn8]at hdt
  cases hdt
  generalize vs1[n]=tv at hvx hDt
  cases hDt with
  |@tup c xs _ ec hds =>
   cases hds with
   |cons h1 h2 =>
   cases h2 with
   |cons h3 h4 =>
   cases h4
   cases h1
   cases h3
   refine⟨_,rfl,_,_,rfl,rfl,(by show (0:Int)<8;decide),l,_,_,_,rfl,rfl,SqL.of e2,(by show atI vs1 (st % 8)=_;rw[hn];exact zaw hvx),?_⟩;refine⟨c,_,rfl,SqT.of ec,rfl,_,_,rfl,_,_,rfl,rfl,?_⟩;refine⟨_,rfl,_,rfl,_,_,rfl,rfl,_,rfl,_,rfl,_,_,rfl,rfl,two,λp hp=>?_⟩;refine k p _ (s1.free (s2.free hp)) (s1.trans (s2.trans (Same.up hp))) ?_
   rw[zaa,hn,CW];rfl
noncomputable def ziZ (K:W.Frag):Sp:=λvs H Q _=>∃(v:V) (r:Rnd),vs=[v]/\rR r v H/\(r.so = "rim" ∨ r.so = "hole")/\(∀s∈r.row,s<8)/\r.row.length<=480/\∀p H' ws S,H p=none->Same H H'->H' p=some (.lst ws)->VR ws S cR H'->(∀c∈zaF (r.x,r.y) r.row,c∈S)->S.length<=6000->Q (.ref p) H'
theorem zg5 (T:Txt P w K mg) (g__law_beside:Fn P w K mg base 1 "_law_beside" ["_law_x","_law_y","_law_step"] zhx) (d:Df K mg "_law_seen" zc2 ["_law_one"]):FnOk P w K mg base CX0 2 d.f d.fd ["_law_one"] (ziZ K):=by
 refine d.F.ok zax (λvs H Q E h=>?_) (λcdv A outer s H vs Q E hr h=>?_)
 .obtain⟨v,r,rfl,_⟩:=h;rfl
 .obtain⟨v,r,rfl,hv,hso,h8,hl,k⟩:=h;have hu64:=hr.units
  refine⟨_,(zac (sE 1 zax.nd (pe_ix zb0 (pv 0) zae (λ_ _=>rfl)))
   (zac (sE 2 zax.nd (pe_ix zb0 (pv 0) zae (λ_ _=>rfl)))
   (zac (sE 3 zax.nd (pe_ix zaS (zaZ (pa_C zae (pa_C zae zab))) (zbT zdn (by rfl) T.nint (by rfl) (zah (zbc op_eq (pe_ix zb0 (pv 0) zae (λ_ _=>rfl)) zgm (zan _)) zab)) (λ_ _=>rfl)))
   (zac (sE 4 zax.nd (zaZ (pa_T (zay (pa_N (pv 1) (pa_N (pv 2) zab))) (zah (pC g__law_beside hr (pa_N (pv 1) (pa_N (pv 2) (pa_B (pe_op zaG (pe_op zbU zae (pv 3)) zae) zab)))) zab))))
   (zac (zbG Bg rfl (zjk (pe_ix zb0 (pv 0) zae (λ_ _=>rfl))) (nG 5 zax.nd)
   (zac (zhF Bg (zam op_ne (pv 3) (pe_op za9 (pe_op zfs (pe_op zaG (pv 5) zae) zae) zae) (zan _))
   (zac (sE 3 zax.nd (pe_op za9 (pe_op zaG (pv 3) zae) zae))
   (zaf (zbq (pe_bm AY Ba Bb za0 (pv 4) (zah (pC g__law_beside hr (pa_N (pv 1) (pa_N (pv 2) (pa_B (pe_op zaG (pe_op zbU zae (pv 3)) zae) zab)))) zab))))))
   (zac (zbm (pC g__law_beside hr (pa_N (pv 1) (pa_N (pv 2) (pa_N (pv 5) zab)))) (za8 (by rfl) (zag (nG 1 zax.nd) (zag (nG 2 zax.nd) zas))))
   (zac (sE 3 zax.nd (pe_op zfs (pv 5) zae))
   (zaf (zbq (pe_bm AY PySem.F.slot_list_extend PySem.F.type_list_extend zgs (pv 4) (zah (zaZ (pa_T (zay (pa_N (pv 1) (pa_N (pv 2) zab))) (zah (pC g__law_beside hr (pa_N (pv 1) (pa_N (pv 2) (pa_B (pe_op zaG (pe_op zbU zae (pv 3)) zae) zab)))) zab))) zab))))))))
   (zac (zbG Bg rfl (zbR (by rfl) T.nrange (pa_C zae zab)) (nG 6 zax.nd)
   (zac (sE 3 zax.nd (pe_op za9 (pe_op zaG (pv 3) zae) zae))
   (zaf (ps_if (zam (zlo hu64) (pe_ix zb0 (pv 0) zae (λ_ _=>rfl)) (zay zab) (zan _))
   (zaf (zbq (pe_bm AY Ba Bb za0 (pv 4) (zah (pC g__law_beside hr (pa_N (pv 1) (pa_N (pv 2) (pa_B (pe_op zaG (pe_op zbU zae (pv 3)) zae) zab)))) zab))))
   zaA))))
   (zaf (zal (pv 4))))))))),?_⟩
  obtain⟨a,b,rfl,q1,q2⟩:=id hv;have hσ:L2.start zep [.ref a]=[some (.ref a),none,none,none,none,none,none]:=rfl;rw[hσ];refine⟨_,rfl,a,_,_,_,rfl,rfl,SqT.of q1,zaw (j:=1) rfl,?_⟩;simp only[zap,AD,AE];refine⟨_,rfl,a,_,_,_,rfl,rfl,SqT.of q1,zaw (j:=2) rfl,?_⟩;simp only[zap,AD,AE];refine⟨two,λl1 hl1=>?_⟩;have s1:=Same.up (o:=.lst [.int 0,.int 2]) hl1;have e1:upd H l1 (.lst [.int 0,.int 2]) l1=some (.lst [.int 0,.int 2]):=zaa;generalize upd H l1 (.lst [.int 0,.int 2])=H1 at s1 e1 ⊢
  obtain⟨wy,hwy,hwat⟩:∃wy:Nat,wy<4/\atI ([.int 0,.int 2]:List V) (if decide (V.str r.so=V.str (BD "hole"))=true then 1 else 0)=some (.int (wy:Int)):=by
   by_cases hz:decide (V.str r.so=V.str (BD "hole"))=true
   .rw[if_pos hz];exact⟨2,by decide,rfl⟩
   .rw[if_neg hz];exact⟨0,by decide,rfl⟩
  refine⟨_,rfl,a,_,_,_,rfl,rfl,SqT.of (s1 _ _ q1),zaw (j:=0) rfl,rfl,.inr ⟨_,rfl,l1,_,_,_,rfl,rfl,SqL.of e1,hwat,?_⟩⟩;simp only[zap,AD,AE];refine⟨_,rfl,_,rfl,two,λt2 ht2=>?_⟩;have s2:=Same.up (o:=.tup [.int r.x,.int r.y]) ht2;have e2:upd H1 t2 (.tup [.int r.x,.int r.y]) t2=some (.tup (cellT (r.x,r.y))):=zaa;generalize upd H1 t2 (.tup [.int r.x,.int r.y])=H2 at s2 e2 ⊢;refine⟨_,rfl,_,rfl,_,rfl,_,_,rfl,rfl,.inl ⟨by decide,by decide⟩,_,_,rfl,rfl,r.x,r.y,_,rfl,λt3 H3 ht3 s3 e3=>?_⟩;refine⟨two,λF hF=>?_⟩;have s4:=Same.up (o:=.lst [.ref t2,.ref t3]) hF;have e4:upd H3 F (.lst [.ref t2,.ref t3]) F=some (.lst [.ref t2,.ref t3]):=zaa;generalize upd H3 F (.lst [.ref t2,.ref t3])=H4 at s4 e4 ⊢;simp only[zap,AD,AE];have s04:=s1.trans (s2.trans (s3.trans s4));generalize hg0:go (r.x,r.y) ((2*(wy:Int)+6) % 8).toNat=g0 at e3;have I4:SeenI H F H4 [(r.x,r.y),g0] 2:=⟨s04,s1.free (s2.free (s3.free hF)),⟨_,e4,VR.cons.mpr ⟨⟨t2,rfl,(s3.trans s4) _ _ e2⟩,VR.cons.mpr ⟨⟨t3,rfl,s4 _ _ e3⟩,VR.nil⟩⟩⟩,Am _⟩;have hrl:(rowV r.row).length=r.row.length:=Ao ..;refine⟨_,rfl,a,_,_,_,rfl,rfl,SqT.of (s04 _ _ q1),zaw (j:=3) rfl,b,rfl,⟨_,SqT.of (s04 _ _ q2)⟩,?_⟩
  refine zhd (K:=K) (a:=b) (xs:=rowV r.row) (λj σ H5=>∃(cx cy:Int) (wy:Nat) (S:List Cell) (o5:Option V),σ=[some (.ref a),some (.int cx),some (.int cy),some (.int (wy:Int)),some (.ref F),o5,none]/\wy<4/\(cx,cy)=endC (r.x,r.y) (r.row.take j)/\SeenI H F H5 S (2+6*j)/\∀c∈zaF (r.x,r.y) (r.row.take j),c∈S)
   ⟨r.x,r.y,wy,_,_,rfl,hwy,rfl,I4,λc hc=>by rw[Dz]at hc;rw[Ah.mp hc];exact An⟩ (λj σ H5 _ ⟨_,_,_,_,_,_,_,_,I5,_⟩=>SqT.of (I5.same _ _ q2)) ?_ ?_
  .rintro j v σ H5 hj ⟨cx,cy,wy,S,o5,rfl,hwy,hcc,I5,hsp⟩;have hjl:j<r.row.length:=by have:=(Ad.mp hj).1;rw[hrl]at this;exact this
   have hrj:r.row[j]?=some r.row[j]:=Aa hjl;unfold rowV at hj;rw[AC,hrj]at hj
   cases hj
   have hs8:=h8 _ (Bi hjl);generalize hst:r.row[j]=st at hrj hs8;simp only[zap,AD,AE];have hg4:zaW st<4:=BG _ (by decide);have hgI:((st:Int)+1) / 2 % 4=((zaW st:Nat):Int):=by unfold zaW;lia
   refine⟨λm σ H6=>∃(wy':Nat) (S':List Cell),σ=[some (.ref a),some (.int cx),some (.int cy),some (.int (wy':Int)),some (.ref F),some (.int (st:Int)),none]/\wy'<4/\m=(zaW st+4-wy') % 4/\SeenI H F H6 S' (2+6*j+(3-m))/\∀c∈S,c∈S',⟨_,wy,S,rfl,hwy,rfl,I5.le (by lia),λc h=>h⟩,?_⟩;rintro m σ H6 ⟨wy',S',rfl,hwy',hm,I6,hsub⟩;refine⟨_,rfl,_,rfl,_,_,rfl,rfl,_,_,rfl,rfl,⟨by decide,by decide⟩,_,_,rfl,rfl,(by show (0:Int)<4;decide),rfl,_,rfl,?_⟩
   by_cases hz:wy'=zaW st
   .refine iteN ?_ ?_
    .show (!decide (V.int (wy':Int)=V.int (((st:Int)+1) / 2 % 4)))=false;rw[hgI,hz,decide_eq_true rfl];rfl
    refine⟨_,rfl,_,rfl,_,rfl,cx,cy,_,rfl,λt7 H7 ht7 s7 e7=>?_⟩;refine⟨t7,_,rfl,SqT.of e7,rfl,_,_,rfl,_,_,rfl,rfl,?_⟩;simp only[zap,AD,AE];rw[show ((st:Int) % 8).toNat=st by lia];generalize hgo:go (cx,cy) st=gc;refine⟨_,rfl,_,_,rfl,rfl,⟨by decide,by decide⟩,?_⟩;simp only[zap,AD,AE];have I7:=I6.up s7;obtain⟨ws7,f7,v7⟩:=I7.ex;refine⟨_,rfl,.inl ⟨rfl,_,SqL.of f7⟩,_,rfl,_,rfl,two,λt8 ht8=>?_⟩;have s8:=Same.up (o:=.tup [.int gc.1,.int gc.2]) ht8;have e8:upd H7 t8 (.tup [.int gc.1,.int gc.2]) t8=some (.tup (cellT gc)):=zaa;generalize upd H7 t8 (.tup [.int gc.1,.int gc.2])=H8 at s8 e8 ⊢;refine⟨_,rfl,_,rfl,_,rfl,_,_,rfl,rfl,.inl ⟨by decide,by decide⟩,_,_,rfl,rfl,gc.1,gc.2,_,rfl,λt9 H9 ht9 s9 e9=>?_⟩;refine⟨two,λl10 hl10=>?_⟩;have s10:=Same.up (o:=.lst [.ref t8,.ref t9]) hl10;have e10:upd H9 l10 (.lst [.ref t8,.ref t9]) l10=some (.lst [.ref t8,.ref t9]):=zaa;generalize upd H9 l10 (.lst [.ref t8,.ref t9])=H10 at s10 e10 ⊢;generalize go (gc.1,gc.2) ((2*((st:Int) / 2)+6) % 8).toNat=g9 at e9;have s710:=s8.trans (s9.trans s10);have I10:=I7.up s710;have v10:VR ws7 S' cR H10:=v7.mono λx v h=>h.kt (KT.of s710)
    have z10:VR [.ref t8,.ref t9] [gc,g9] cR H10:=VR.cons.mpr ⟨⟨t8,rfl,(s9.trans s10) _ _ e8⟩,VR.cons.mpr ⟨⟨t9,rfl,s10 _ _ e9⟩,VR.nil⟩⟩;have hln:=I10.len;refine⟨F,l10,_,_,rfl,rfl,s710 _ _ f7,e10,BJ (zaU (by rw[v10.1];simp;lia)),?_⟩;refine⟨gc.1,gc.2,st / 2,S'++[gc,g9],some (.int (st:Int)),?_,by lia,?_,I10.app (s710 _ _ f7) v10 z10 (by simp;lia),λc hc=>?_⟩
    .rw[show ((st / 2:Nat):Int)=(st:Int) / 2 by lia]
    .rw[zaz hrj,zjR,<- hcc,hgo]
    .rw[zaz hrj,zeQ]at hc;rcases AH.mp hc with q |q
     .exact BH _ (hsub c (hsp c q))
     .rw[Ah.mp q,<- hcc,hgo];exact As _ An
   .refine iteY ?_ ?_
    .show (!decide (V.int (wy':Int)=V.int (((st:Int)+1) / 2 % 4)))=true;rw[hgI,decide_eq_false (λq=>hz (by injection q with q;lia))];rfl
    refine⟨λσ H7=>∃(wy':Nat) (S':List Cell),σ=[some (.ref a),some (.int cx),some (.int cy),some (.int (wy':Int)),some (.ref F),some (.int (st:Int)),none]/\wy'<4/\m-1=(zaW st+4-wy') % 4/\SeenI H F H7 S' (2+6*j+(3-(m-1)))/\∀c∈S,c∈S',λσ' H' h=>⟨m-1,by lia,h⟩,?_⟩;refine⟨_,rfl,_,_,rfl,rfl,_,_,rfl,rfl,(by show (0:Int)<4;decide),?_⟩;simp only[zap,AD,AE];have hw1:((wy':Int)+1) % 4=(((wy'+1) % 4:Nat):Int):=by lia
    rw[hw1];obtain⟨ws6,f6,v6⟩:=I6.ex;refine⟨_,rfl,.inl ⟨rfl,_,SqL.of f6⟩,_,rfl,_,rfl,_,rfl,_,_,rfl,rfl,.inl ⟨by decide,by decide⟩,_,_,rfl,rfl,cx,cy,_,rfl,λt7 H7 ht7 s7 e7=>?_⟩;generalize go (cx,cy) ((2*(((wy'+1) % 4:Nat):Int)+6) % 8).toNat=g7 at e7;have I7:=I6.up s7;have v7:VR ws6 S' cR H7:=v6.mono λx v h=>h.kt (KT.of s7)
    have hln:=I7.len;refine⟨F,ws6,_,rfl,rfl,s7 _ _ f6,zaU (by rw[v7.1];lia),?_⟩;refine⟨(wy'+1) % 4,S'++[g7],rfl,BG _ (by decide),by lia,I7.app (s7 _ _ f6) v7 (VR.cons.mpr ⟨⟨t7,rfl,e7⟩,VR.nil⟩) (by simp;lia),λc hc=>BH _ (hsub c hc)⟩
  .rintro σ H5 ⟨cx,cy,wy,S,o5,rfl,hwy,hcc,I5,hsp⟩;rw[hrl,AN]at hcc hsp;rw[hrl]at I5;refine⟨3,rfl,by decide,by decide,?_⟩;refine zbC (lo:=0) (n:=(3:Int).toNat) (λi σ H6=>∃(wy':Nat) (S':List Cell) (o6:Option V),σ=[some (.ref a),some (.int cx),some (.int cy),some (.int (wy':Int)),some (.ref F),o5,o6]/\wy'<4/\SeenI H F H6 S' (2+6*r.row.length+i)/\∀c∈S,c∈S') ⟨wy,S,_,rfl,hwy,I5.le (by lia),λc h=>h⟩ ?_ ?_
   .rintro i σ H6 hi ⟨wy',S',o6,rfl,hwy',I6,hsub⟩;have hi3:i<3:=hi;simp only[zap,AD,AE];refine⟨_,rfl,_,_,rfl,rfl,_,_,rfl,rfl,(by show (0:Int)<4;decide),?_⟩;simp only[zap,AD,AE];have hw1:((wy':Int)+1) % 4=(((wy'+1) % 4:Nat):Int):=by lia
    rw[hw1];have q2':=I6.same _ _ q2;rw[zlg]at q2';refine⟨_,rfl,a,_,_,_,rfl,rfl,SqT.of (I6.same _ _ q1),zaw (j:=3) rfl,(by show 0<=sizeLine;decide),λt5 ht5=>?_⟩;have s5:=Same.up (o:=.tup []) ht5;have e5:upd H6 t5 (.tup []) t5=some (.tup []):=zaa;generalize upd H6 t5 (.tup [])=H7 at s5 e5 ⊢;have I7:=I6.up s5;refine⟨tI (rowI r.row),tI [],.tup (SqT.of (s5 _ _ q2')) (RDs.ints _),.tup (SqT.of e5) .nil,zaC _,zaC _,_,rfl,?_⟩;rw[zcG];refine ite2 (λhy=>?_) (λhn=>?_)
    .obtain⟨ws6,f6,v6⟩:=I7.ex;refine⟨_,rfl,.inl ⟨rfl,_,SqL.of f6⟩,_,rfl,_,rfl,_,rfl,_,_,rfl,rfl,.inl ⟨by decide,by decide⟩,_,_,rfl,rfl,cx,cy,_,rfl,λt8 H8 ht8 s8 e8=>?_⟩;generalize go (cx,cy) ((2*(((wy'+1) % 4:Nat):Int)+6) % 8).toNat=g8 at e8;have I8:=I7.up s8;have v8:VR ws6 S' cR H8:=v6.mono λx v h=>h.kt (KT.of s8)
     have hln:=I8.len;refine⟨F,ws6,_,rfl,rfl,s8 _ _ f6,zaU (by rw[v8.1];lia),?_⟩;exact⟨(wy'+1) % 4,S'++[g8],_,rfl,BG _ (by decide),I8.app (s8 _ _ f6) v8 (VR.cons.mpr ⟨⟨t8,rfl,e8⟩,VR.nil⟩) (by simp;lia),λc hc=>BH _ (hsub c hc)⟩
    .exact⟨(wy'+1) % 4,S',_,rfl,BG _ (by decide),I7.le (by lia),hsub⟩
   .rintro σ H6 ⟨wy',S',o6,rfl,hwy',I6,hsub⟩;obtain⟨ws6,f6,v6⟩:=I6.ex;have hln:=I6.len;exact⟨_,rfl,k F H6 ws6 S' I6.new I6.same f6 v6 (λc hc=>hsub c (hsp c hc)) (AW hln (by show 2+6*r.row.length+3<=6000;lia))⟩
theorem Can.rndP{C:Cell->Bool}{es:List Edge}{r:Rnd}(h:Can C es r):IsRnd (wk C es) r:=by
 refine⟨h.so,0,begE r,?_,by rw[<- h.so];exact h.bg,rfl,rfl,?_⟩
 .rw[zdb];exact h.cl.1.1
 .rw[h.row,List.drop_zero,Dz,Bf];unfold wk;rw[BU,BU];rfl
theorem Whole.has{cs:List Cell}{R:List Rnd}(k:Whole cs R){b:Edge}{es:List Edge}{r:Rnd}(hc:Closed (isIn cs) b es)(hr:IsRnd (wk (isIn cs) es) r):r∈R:=by
 obtain⟨F,k1,k2⟩:=k;have m:=hr.beg.1;obtain⟨fs,f1,f2⟩:=DF.mp ((k2 _).mpr (hc.1.2.2.1 _ m));obtain⟨j,hj,ej⟩:=Az f1;have hjs:j<R.length:=by rw[k1.len];exact hj
 obtain⟨⟨c,hc'⟩,q⟩:=k1.each j fs R[j] (by rw[Aa hj,ej]) (Aa hjs);rw[IsRnd.one hc hc' m f2 hr q];exact Bi _
theorem ziG{C D:Cell->Bool}{b:Edge}{es:List Edge}(h:Closed C b es)(hs:∀e∈es,stepB D e=stepB C e/\IsE D e):Closed D b es:=by
 obtain⟨hc,l,hl,hb⟩:=h;have nx:∀e∈es,nxt D e=nxt C e:=λe he=>by unfold nxt;rw[(hs e he).1]
 exact⟨⟨hc.1,λi e f h1 h2=>by rw[nx e (Aj h1)];exact hc.2.1 i e f h1 h2,λe he=>(hs e he).2,hc.2.2.2⟩,l,hl,by rw[nx l (Aj hl)];exact hb⟩
theorem Rds.stays{cs ds:List Cell}{R S:List Rnd}{c:Cell}{b:Bool}(h:Rds cs R)(k:Rds ds S)(e:isIn ds=chg (isIn cs) c b){r:Rnd}(hr:r∈R)(hf:∀x∈zaF (r.x,r.y) r.row,¬ nearC c x):r∈S:=by
 obtain⟨ESS,hc⟩:=h.cans;obtain⟨i,hi,rfl⟩:=Az hr;obtain⟨es,_,hcan⟩:=hc.so (Aa hi);obtain⟨S0,p,w⟩:=k.ex;have far:∀f∈es,¬ nearC c f.c:=λf hf'=>hf _ ((hcan.spots f.c).mpr (AS.mpr ⟨f,hf',rfl⟩))
 have st:∀f∈es,stepB (isIn ds) f=stepB (isIn cs) f/\IsE (isIn ds) f:=λf hf'=>by
  have hE:=hcan.cl.1.2.2.1 f hf';have h1:=far f hf';have h2:=zkT (b:=b) hE h1;rw[e];refine⟨h2.1,hE.1,?_,?_⟩
  .rw[zbD _ (λz=>h1 (by rw[z];exact⟨by lia,by lia⟩))];exact hE.2.1
  .rw[zbD _ (λz=>h1 ?_)]
   .exact hE.2.2
   .have hw:f.w<4:=hE.1;have:=zh4 ((2*f.w+6) % 8) (BG _ (by decide));have z1:=congrArg Prod.fst z;have z2:=congrArg Prod.snd z;unfold gap go at z1 z2;simp only at z1 z2;exact⟨by lia,by lia⟩
 have cl:=ziG hcan.cl st
 have wke:wk (isIn ds) es=wk (isIn cs) es:=by unfold wk;exact List.map_congr_left λf hf'=>by rw[(st f hf').1]
 exact p.mem_iff.mpr (w.has cl (by rw[wke];exact hcan.rndP))
theorem Rds.gone{cs ds:List Cell}{R S:List Rnd}{c:Cell}{b:Bool}(h:Rds cs R)(k:Rds ds S)(e:isIn ds=chg (isIn cs) c b){r:Rnd}(hr:r∈R)(hn:r ∉ S):∃x∈zaF (r.x,r.y) r.row,nearC c x:=by refine BI λhf=>hn (h.stays k e hr λx hx hx'=>hf ⟨x,hx,hx'⟩)
theorem zif{C:Cell->Bool}{c:Cell}(b:Bool):chg (chg C c b) c (C c)=C:=by
 funext x
 unfold chg
 by_cases h:x=c
 .rw[if_pos h,h]
 .rw[if_neg h,if_neg h]
theorem Rds.keys{cs:List Cell}{R:List Rnd}(h:Rds cs R):R.Nodup/\∀r∈R,∀q∈R,keyI r=keyI q->r=q:=by obtain⟨R0,p,F,k1,k2⟩:=h.ex;exact⟨p.nodup_iff.mpr k1.nodup,λr hr q hq=>k1.key_inj r (p.mem_iff.mp hr) q (p.mem_iff.mp hq)⟩
theorem Rds.both{cs ds:List Cell}{R S:List Rnd}(h:Rds cs R)(k:Rds ds S):(R.filter λr=>decide (r ∉ R.filter λr=>decide (r ∉ S)))=S.filter λr=>decide (r ∉ S.filter λr=>decide (r ∉ R)):=by
 obtain⟨n1,kj⟩:=h.keys;obtain⟨n2,_⟩:=k.keys
 have m:∀{A B:List Rnd} {r:Rnd},r∈(A.filter λr=>decide (r ∉ A.filter λr=>decide (r ∉ B))) ↔ r∈A/\r∈B:=λ{A B r}=>by
  rw[Br,decide_eq_true_iff,Br,decide_eq_true_iff];constructor
  .rintro⟨h1,h2⟩;exact⟨h1,BI λz=>h2 ⟨h1,z⟩⟩
  .rintro⟨h1,h2⟩;exact⟨h1,λz=>z.2 h2⟩
 refine InKey.one (List.Pairwise.filter _ h.ord) (List.Pairwise.filter _ k.ord) (λr=>?_) (n1.filter _) (n2.filter _) λr hr q hq=>kj r (Br.mp hr).1 q (Br.mp hq).1
 rw[m,m];exact And.comm
noncomputable def nearB(x y:Int)(c:Cell):Bool:=decide ((c.1-x).natAbs<2) && decide ((c.2-y).natAbs<2)
noncomputable def zgT (K:W.Frag):Sp:=λvs H Q _=>∃(v:V) (r:Rnd) (x y:Int),vs=[v,.int x,.int y]/\rR r v H/\(r.so = "rim" ∨ r.so = "hole")/\(∀s∈r.row,s<8)/\r.row.length<=480/\(∃c∈zaF (r.x,r.y) r.row,nearC (x,y) c)/\∀H',Same H H'->Q (.bl true) H'
theorem zev (T:Txt P w K mg) (g__law_seen:Fn P w K mg base 2 "_law_seen" ["_law_one"] (ziZ K)) (d:Df K mg "_law_is_near" zbx ["_law_one","_law_x","_law_y"]):FnOk P w K mg base CX0 3 d.f d.fd ["_law_one","_law_x","_law_y"] (zgT K):=by
 refine d.F.ok zdW (λvs H Q E h=>?_) (λcdv A outer s H vs Q E hr h=>?_)
 .obtain⟨v,r,x,y,rfl,_⟩:=h;rfl
 .obtain⟨v,r,x,y,rfl,hv,hso,h8,hl,hnear,k⟩:=h;have nb0:(["_law_a","_law_b","_law_x","_law_y"]:List Str).Nodup:=by decide +kernel
  refine⟨_,(zaf (zal (zaT (zj6 rfl) (by rfl) T.nany (by rfl) (zah (za6 (osc:=zad zbx) (N:=zcY) (N':=["_law_a","_law_b","_law_x","_law_y"]) (sel:=[none,none,some 1,some 2]) bO (zaB (pC g__law_seen hr (pa_N (pv 0) zab))) (λ_ _ _ _ _=>(zcD (K:=K) (n:=2) (by rfl) (zag (nG 0 nb0) (zag (nG 1 nb0) zas)))) (λ_ _ _ _ _=>zbQ) (λ_ _ _ _ _=>(zjo (zbc op_lt (zaT zdQ (by rfl) T.nabs (by rfl) (pa_B (pe_op zbn (pv 0) (pv 2)) zab)) zae (zan _)) (zhH (zbc op_lt (zaT zdQ (by rfl) T.nabs (by rfl) (pa_B (pe_op zbn (pv 1) (pv 3)) zab)) zae (zan _)))))) zab)))),?_⟩;refine⟨_,rfl,v,r,rfl,hv,hso,h8,hl,λp H1 ws S hp s1 e1 hw hsp hSl=>?_⟩;refine⟨p,rfl,⟨_,SqL.of e1⟩,λg hg=>?_⟩;refine zar (K:=K) (a:=p) (xs:=ws) (λj σ H2=>∃o0 o1,σ=[o0,o1,some (.int x),some (.int y)]/\Same H1 H2/\H2 g=some (.lst (((S.take j).map (nearB x y)).map V.bl))) ⟨_,_,rfl,Same.up hg,zaa⟩ (λj σ H2 _ ⟨_,_,_,s2,_⟩=>SqL.of (s2 _ _ e1)) ?_ ?_
  .rintro j v σ H2 hj ⟨o0,o1,rfl,s2,e2⟩;obtain⟨c,hc,bc,rfl,qc⟩:=hw.at hj;have hjl:j<S.length:=(Ad.mp hc).1;refine⟨bc,_,rfl,SqT.of (s2 _ _ qc),rfl,_,_,rfl,_,_,rfl,rfl,?_⟩;refine zcf ?_
   have hfin:∀bb,bb=nearB x y c->(upd H2 g (.lst (((S.take j).map (nearB x y)).map V.bl++[V.bl bb]))) g=some (.lst (((S.take (j+1)).map (nearB x y)).map V.bl)):=λbb h=>by rw[zaa,zaz hc,A6,A6,h];rfl
   have hab:∀i:Int,decide ((if i<0 then -i else i)<2)=decide (i.natAbs<2):=λi=>decide_eq_decide.mpr (by split <;> lia)
   have hsm:((((S.take j).map (nearB x y)).map V.bl).length)<sizeLine:=DV (show _<=6000 by rw[Ao,Ao,AQ];lia) (by decide);refine⟨_,rfl,_,rfl,_,_,rfl,rfl,_,rfl,_,_,rfl,rfl,_,rfl,?_⟩;rw[hab];refine ite2 (λh0=>?_) (λh0=>?_)
   .refine⟨_,rfl,_,rfl,_,_,rfl,rfl,_,rfl,_,_,rfl,rfl,_,e2,hsm,_,_,rfl,zaq hg s2,hfin _ ?_⟩;rw[hab];unfold nearB;rw[h0,Bool.true_and]
   .refine⟨_,e2,hsm,_,_,rfl,zaq hg s2,hfin _ ?_⟩;unfold nearB;rw[Bool.eq_false_iff.mpr h0,Bool.false_and]
  .rintro σ H2 ⟨o0,o1,rfl,s2,e2⟩;rw[hw.1,AN]at e2;refine⟨g,_,rfl,SqL.of e2,?_⟩
   have:(S.map (nearB x y)).any id=true:=by obtain⟨c,hc,hn⟩:=hnear;rw[List.any_map,List.any_eq_true];refine⟨c,hsp c hc,?_⟩;show nearB x y c=true;unfold nearB;rw[decide_eq_true hn.1,decide_eq_true hn.2];rfl
   rw[this];exact k H2 (s1.trans s2)
noncomputable def d3R(A B C:List Rnd):PyData:=.tuple [lR A,lR B,lR C]
theorem zmW(A B C:List Rnd):Bv (d3R A B C) (d3R A B C)=true:=by show (Bv (lR A) (lR A) && (Bv (lR B) (lR B) && (Bv (lR C) (lR C) && true)))=true;rw[zh6,zh6,zh6,decide_eq_true rfl,decide_eq_true rfl,decide_eq_true rfl];rfl
theorem zgh{A B C:List Rnd}(hA:∀r∈A,SoOk r)(hB:∀r∈B,SoOk r)(hC:∀r∈C,SoOk r):Bc (d3R A B C)=true:=by
 have dp:∀R:List Rnd,B5 (R.map dR)<=2:=λR=>by
  induction R with
  |nil=>exact A9 _
  |cons r R ih =>
   rw[A7,B5,zfQ];lia
 unfold Bc d3R lR;rw[Bp,decide_eq_true_iff];refine⟨?_,?_⟩
 .simp only[CG,BQ,zbE _ hA,zbE _ hB,zbE _ hC,Bool.and_self]
 .have h1:=dp A;have h2:=dp B;have h3:=dp C;simp only[B9,B5];lia
theorem Rds.row{cs:List Cell}{R:List Rnd}(h:Rds cs R)(hcl:cs.length<=120):∀r∈R,(∀s∈r.row,s<8)/\r.row.length<=480:=λr hr=>by
 obtain⟨ESS,hc⟩:=h.cans;obtain⟨i,hi,rfl⟩:=Az hr;obtain⟨es,_,hcan⟩:=hc.so (Aa hi);refine⟨λs hs=>?_,?_⟩
 .rw[hcan.row,BU]at hs;obtain⟨e,he,e1⟩:=List.mem_filterMap.mp hs;exact zcL (hcan.cl.1.2.2.1 e he).1 s e1
 .have h1:=hcan.cl.1.short;rw[hcan.row];have h2:=DO id (es.map (stepB (isIn cs)));rw[Ao]at h2;lia
theorem zlX{t:TS}{D:Ends}{σ:St}{H:Hp}(h:t D σ H):tNext { D with nx:=t D } σ H:=h
theorem zma{K:W.Frag}{e1 e2:TE}{b1 b2 b3:TS}{D:Ends}{σ:St}{H:Hp}(h:e1 σ H λx H1=>e2 σ H1 λy H2=>rNeD K x y H2 λv H3=>∃k,v=.bl k/\if k=true then b1 { D with nx:=b3 D } σ H3 else b2 { D with nx:=b3 D } σ H3):tSeq (tIfS (tTest (tOp (rNeD K) e1 e2)) b1 b2) b3 D σ H:=h
theorem zeW{K:W.Frag}{D:Ends}{H:Hp}{a th pt pw pc ta:Addr}{us ts vs ws:List V}{R R':List Rnd}{cs ds:List Cell}{x y:Int}{b b':Bool}(ha:H a=some (.lst us))(hv:VR us R rR H)(hR:Rds cs R)(hR':Rds ds R')(he:isIn ds=chg (isIn cs) (x, y) b)(he':isIn cs=chg (isIn ds) (x, y) b')(hcl:cs.length <= 120)(hdl:ds.length <= 120)
  (ept:H pt=some (.lst ts)) (vt:VR ts R' rR H) (epw:H pw=some (.lst vs)) (vw:VR vs (R.filter λr=>decide (r ∉ R')) rR H) (epc:H pc=some (.lst ws)) (vc:VR ws (R'.filter λr=>decide (r ∉ R)) rR H) (hta:ChgR H ta R' R)
  (k:∀H',Same H H'->D.rt (.ref pt) H') :
  tSeq (tIfS (tOr (tTest (tOp (rNeD K) (tVar 7) (tTup (tCons (tVar 0) (tCons (tVar 6) (tCons (tVar 5) tNil)))))) (tNot (tB (tCB (λxs H_1 Q=>∃p bs,xs=[V.ref p]/\SqL K H_1 p (List.map V.bl bs)/\Q (V.bl (bs.all id)) H_1) (tCons (zf8 (iList K (tOp rCat (tVar 5) (tVar 6))) [none,some 2,some 3] (gName 0) (λx H Q=>Q true H) (tCall (zgT K) [] E0 (tCons (tVar 0) (tCons (tVar 1) (tCons (tVar 2) tNil))))) tNil))))) (tRet (tC V.non)) tNext) (tSeq (tIfS (tTest (tOp (rNeD K) (zf8 (iList K (tVar 0)) [none,some 5] (gName 0) (tTest (tOp (zd4 K) (tVar 0) (tVar 1))) (tVar 0)) (zf8 (iList K (tVar 4)) [none,some 6] (gName 0) (tTest (tOp (zd4 K) (tVar 0) (tVar 1))) (tVar 0)))) (tRet (tC V.non)) tNext) (tRet (tVar 4))) D [some (.ref a),some (.ref th),some (.int x),some (.int y),some (.ref pt),some (.ref pw),some (.ref pc),some (.ref ta)] H:=by
 have so1:=hR.so;have so2:=hR'.so;have soW:∀r∈R.filter (λr=>decide (r ∉ R')),SoOk r:=λr hr=>so1 r (Br.mp hr).1
 have soC:∀r∈R'.filter (λr=>decide (r ∉ R)),SoOk r:=λr hr=>so2 r (Br.mp hr).1
 have lR1:=hR.few;have lR2:=hR'.few;have lW:=AI (λr=>decide (r ∉ R')) R;have lC:=AI (λr=>decide (r ∉ R)) R';obtain⟨p1,p2,p3,u1,u2,u3,f0,f1,g1,f2,g2,f3,g3⟩:=hta;refine⟨_,rfl,_,rfl,_,rfl,_,rfl,(by show 3<=sizeLine;decide),λt4 ht4=>?_⟩;have s4:=Same.up (o:=.tup [.ref a,.ref pc,.ref pw]) ht4;have e4:upd H t4 (.tup [.ref a,.ref pc,.ref pw]) t4=some (.tup [.ref a,.ref pc,.ref pw]):=zaa;generalize upd H t4 (.tup [.ref a,.ref pc,.ref pw])=H4 at s4 e4 ⊢;have up:∀{l:List V} {X:List Rnd} {H5:Hp},Same H H5->VR l X rR H->VR l X rR H5:=λs h=>h.mono λx v q=>rR.kt q (KT.of s)
 refine⟨d3R R (R'.filter λr=>decide (r ∉ R)) (R.filter λr=>decide (r ∉ R')),d3R R (R'.filter λr=>decide (r ∉ R)) (R.filter λr=>decide (r ∉ R')),
  .tup (SqT.of (s4 _ _ f0)) (.cons (zbA (SqL.of (s4 _ _ f1)) (up s4 g1)) (.cons (zbA (SqL.of (s4 _ _ f2)) (up s4 g2)) (.cons (zbA (SqL.of (s4 _ _ f3)) (up s4 g3)) .nil))),
  .tup (SqT.of e4) (.cons (zbA (SqL.of (s4 _ _ ha)) (up s4 hv)) (.cons (zbA (SqL.of (s4 _ _ epc)) (up s4 vc)) (.cons (zbA (SqL.of (s4 _ _ epw)) (up s4 vw)) .nil))),zgh so1 soC soW,zgh so1 soC soW,_,rfl,iteN (by rw[zmW];rfl) ?_⟩
 refine⟨_,rfl,_,rfl,pw,pc,_,_,rfl,rfl,s4 _ _ epw,s4 _ _ epc,BJ (zaj (by rw[vw.1,vc.1];lia)),λl5 hl5=>?_⟩;have s5:=Same.up (o:=.lst (vs++ws)) hl5;have e5:upd H4 l5 (.lst (vs++ws)) l5=some (.lst (vs++ws)):=zaa;generalize upd H4 l5 (.lst (vs++ws))=H5 at s5 e5 ⊢;have s05:=s4.trans s5;have v5:VR (vs++ws) (R.filter (λr=>decide (r ∉ R'))++R'.filter (λr=>decide (r ∉ R))) rR H5:=(up s05 vw).app (up s05 vc)
 have hnear:∀r∈R.filter (λr=>decide (r ∉ R'))++R'.filter (λr=>decide (r ∉ R)),SoOk r/\(∀s∈r.row,s<8)/\r.row.length<=480/\∃c∈zaF (r.x,r.y) r.row,nearC (x,y) c:=λr hr=>by
  rcases AH.mp hr with z |z
  .obtain⟨z1,z2⟩:=Br.mp z;have:=hR.row hcl r z1;exact⟨so1 r z1,this.1,this.2,hR.gone hR' he z1 (of_decide_eq_true z2)⟩
  .obtain⟨z1,z2⟩:=Br.mp z;have:=hR'.row hdl r z1;exact⟨so2 r z1,this.1,this.2,hR'.gone hR he' z1 (of_decide_eq_true z2)⟩
 have hl5':(vs++ws).length<=240:=by rw[Ak,vw.1,vc.1];lia
 generalize (R.filter (λr=>decide (r ∉ R'))++R'.filter (λr=>decide (r ∉ R)))=WC at v5 hnear;generalize vs++ws=us5 at e5 v5 hl5';refine⟨l5,rfl,⟨_,SqL.of e5⟩,λg hg=>?_⟩;refine zar (K:=K) (a:=l5) (xs:=us5) (λj σ H6=>∃o,σ=[o,some (.int x),some (.int y)]/\Same H5 H6/\H6 g=some (.lst ((Aq j true).map V.bl))) ⟨_,rfl,Same.up hg,zaa⟩ (λj σ H6 _ ⟨_,_,s6,_⟩=>SqL.of (s6 _ _ e5)) ?_ ?_
 .rintro j v σ H6 hj ⟨o,rfl,s6,e6⟩;obtain⟨r,hr,hrv⟩:=v5.at hj;have hjl:j<us5.length:=(Ad.mp hj).1;obtain⟨n1,n2,n3,n4⟩:=hnear r (Aj hr);refine gN ?_
  refine⟨_,rfl,_,rfl,_,rfl,v,r,x,y,rfl,rR.kt hrv (KT.of s6),n1,n2,n3,n4,λH7 s7=>?_⟩;refine⟨_,s7 _ _ e6,zaj (by simp;lia),_,rfl,zaq hg (s6.trans s7),?_⟩;rw[zaa,List.replicate_succ',A6];rfl
 .rintro σ H6 ⟨o,rfl,s6,e6⟩;refine⟨g,Aq us5.length true,rfl,SqL.of e6,_,rfl,?_⟩;rw[show (Aq us5.length true).all id=true by simp];refine iteF ?_
  have s06:=s05.trans s6;refine zlX (zma (zcP (K:=K) (ia:=0) (ib:=5) (s06 _ _ ha) (s06 _ _ epw) (up s06 hv) (up s06 vw) so1 soW (by lia) rfl rfl λp7 H7 ws7 hp7 s7 e7 v7=>?_));have s07:=s06.trans s7;refine zcP (K:=K) (σ:=[some (.ref a),some (.ref th),some (.int x),some (.int y),some (.ref pt),some (.ref pw),some (.ref pc),some (.ref ta)]) (ia:=4) (ib:=6) (s07 _ _ ept) (s07 _ _ epc) (up s07 vt) (up s07 vc) so2 soC (by lia) rfl rfl λp8 H8 ws8 hp8 s8 e8 v8=>?_
  rw[<- hR.both hR']at v8;have so7:∀r∈(R.filter λr=>decide (r ∉ R.filter λr=>decide (r ∉ R'))),SoOk r:=λr hr=>so1 r (Br.mp hr).1
  refine⟨lR _,lR _,zbA (SqL.of (s8 _ _ e7)) (v7.mono λx v q=>rR.kt q (KT.of s8)),zbA (SqL.of e8) v8,zgf so7,zgf so7,_,rfl,iteN (by rw[zh6,decide_eq_true rfl];rfl) ?_⟩;exact⟨_,rfl,k H8 (s07.trans s8)⟩
theorem zjQ:∀l m:List (List Int),Di (l.map tI) (m.map tI)=decide (l=m)
 |[],[]=>rfl
 |[],_::_=>rfl
 |_::_,[]=>rfl
 |x::l,y::m=>by
  show (Bv (tI x) (tI y) && Di (l.map tI) (m.map tI))=_;rw[zjQ l m,zcG]
  by_cases h1:x=y <;> by_cases h2:l=m <;> simp[h1,h2]
theorem zlv{a b:Cell}(h:cI a=cI b):a=b:=by unfold cI at h;injection h with h1 h2;injection h2 with h2 _;exact Prod.ext h1 h2
theorem eqv2(cs ds:List Cell):Bv (lT (cs.map cI)) (lT (ds.map cI))=decide (cs=ds):=by show Di ((cs.map cI).map tI) ((ds.map cI).map tI)=_;rw[zjQ];refine decide_eq_decide.mpr ⟨λh=>(List.map_inj_right (λx y e=>?_)).mp h,λh=>by rw[h]⟩;obtain⟨a,b⟩:=x;obtain⟨c,d⟩:=y;simp[cI]at e;rw[e.1,e.2]
theorem zhY(cs:List Cell)(c:Cell):(((cs.map cI).map tI).any λe=>Bv e (tI (cI c)))=isIn cs c:=by
 rw[Cc];constructor
 .intro h;obtain⟨e,he,e1⟩:=List.any_eq_true.mp h;obtain⟨l,hl,rfl⟩:=AS.mp he;obtain⟨d,hd,rfl⟩:=AS.mp hl;rw[zcG]at e1;have:=zlv (of_decide_eq_true e1);subst this;exact decide_eq_true hd
 .intro h;have hm:c∈cs:=of_decide_eq_true h;exact List.any_eq_true.mpr ⟨_,AS.mpr ⟨_,AS.mpr ⟨_,hm,rfl⟩,rfl⟩,by rw[zcG];exact decide_eq_true rfl⟩
theorem zdz(cs:List Cell):∀e∈(cs.map cI).map tI,Bc e=true:=λe he=>by obtain⟨l,_,rfl⟩:=AS.mp he;exact zaC l
noncomputable def zj1(cs:List Cell)(c:Cell):List Cell:=if isIn cs c=true then cs.filter λx=>decide (x≠c) else cs++[c]
noncomputable def zfe:Sp:=λvs H Q _=>∃(a th:Addr) (us ts:List V) (R:List Rnd) (cs:List Cell) (x y:Int),vs=[.ref a,.ref th,.int x,.int y]/\H a=some (.lst us)/\VR us R rR H/\Rds cs R/\cs.length<=118/\H th=some (.lst ts)/\VR ts cs cR H /\
 ∀p us' R' H',Same H H'->H' p=some (.lst us')->VR us' R' rR H'->Rds (zj1 cs (x,y)) R'->Q (.ref p) H'
theorem zgp (T:Txt P w K mg) (g_taken:Fn P w K mg base 8 "taken" ["some", "x", "y"] (ziX K)) (g_put:Fn P w K mg base 8 "put" ["some", "x", "y"] (spPut K)) (g__law_is_near:Fn P w K mg base 3 "_law_is_near" ["_law_one", "_law_x", "_law_y"] (zgT K))
  (d:Df K mg "_law_right" za7 ["_law_some","_law_there","_law_x","_law_y"]):FnOk P w K mg base CX0 9 d.f d.fd ["_law_some","_law_there","_law_x","_law_y"] zfe:=by
 refine d.F.ok zaH (λvs H Q E h=>?_) (λcdv A outer s H vs Q E hr h=>?_)
 .obtain⟨a,th,us,ts,R,cs,x,y,rfl,_⟩:=h;rfl
 .obtain⟨a,th,us,ts,R,cs,x,y,rfl,ha,hv,hR,hcl,hth,ht,k⟩:=h;have hu64:=hr.units;have hu65:(A.deeper (DJ (BD "_law_right") (zad za7) s.heap.objs.size d.f cdv)).units+65<cLine:=by have:=hr.un;lia
  have nb0:(["_law_one","_law_x","_law_y"]:List Str).Nodup:=by decide +kernel
  have nb1:(["_law_one","_law_went"]:List Str).Nodup:=by decide +kernel
  have nb2:(["_law_one","_law_come"]:List Str).Nodup:=by decide +kernel
  refine⟨_,(zac (ps_if (zam (zln hu65) (zay (pa_N (pv 2) (pa_N (pv 3) zab))) (pv 1) rfl)
   (zac (zbm (pC g_taken hr (pa_N (pv 0) (pa_N (pv 2) (pa_N (pv 3) zab)))) (za8 (by rfl) (zag (nG 4 zaH.nd) (zag (zc3 (i:=5) zaH.nd (by rfl) (DH rfl)) (zag (zc3 (i:=6) zaH.nd (by rfl) (DH rfl)) zas)))))
   (zaf (sE 7 zaH.nd (pC g_put hr (pa_N (pv 4) (pa_N (pv 2) (pa_N (pv 3) zab)))))))
   (zac (zbm (pC g_put hr (pa_N (pv 0) (pa_N (pv 2) (pa_N (pv 3) zab)))) (za8 (by rfl) (zag (nG 4 zaH.nd) (zag (zc3 (i:=5) zaH.nd (by rfl) (DH rfl)) (zag (zc3 (i:=6) zaH.nd (by rfl) (DH rfl)) zas)))))
   (zaf (sE 7 zaH.nd (pC g_taken hr (pa_N (pv 4) (pa_N (pv 2) (pa_N (pv 3) zab))))))))
   (zac (ps_if (pw_or (zam (zd6 hu64) (pv 7) (zay (pa_N (pv 0) (pa_N (pv 6) (pa_N (pv 5) zab)))) (zan _)) (zlh (zhD (zdh (zaT (zj7 rfl) (by rfl) T.nall (by rfl) (zah (za6 (osc:=zad za7) (N:=zbF) (N':=["_law_one","_law_x","_law_y"]) (sel:=[none,some 2,some 3]) bO (zaB (pe_op zhM (pv 5) (pv 6))) (λ_ _ _ _ _=>(nG 0 nb0)) (λ_ _ _ _ _=>zbQ) (λ_ _ _ _ _=>(pC g__law_is_near hr (pa_N (pv 0) (pa_N (pv 1) (pa_N (pv 2) zab)))))) zab)))))).pt
   (zaf (zal zbS))
   zaA)
   (zac (ps_if (zam (zd6 hu64) (za6 (osc:=zad za7) (N:=zbF) (N':=["_law_one","_law_went"]) (sel:=[none,some 5]) bO (zaB (pv 0)) (λ_ _ _ _ _=>(nG 0 nb1)) (λ_ _ _ _ _=>zbP (zam (zcO (K:=K) hu65) (pv 0) (pv 1) rfl)) (λ_ _ _ _ _=>(pv 0))) (za6 (osc:=zad za7) (N:=zbF) (N':=["_law_one","_law_come"]) (sel:=[none,some 6]) bO (zaB (pv 4)) (λ_ _ _ _ _=>(nG 0 nb2)) (λ_ _ _ _ _=>zbP (zam (zcO (K:=K) hu65) (pv 0) (pv 1) rfl)) (λ_ _ _ _ _=>(pv 0))) (zan _))
   (zaf (zal zbS))
   zaA)
   (zaf (zal (pv 4)))))),?_⟩
  have hσ:L2.start zbF [.ref a,.ref th,.int x,.int y]=[some (.ref a),some (.ref th),some (.int x),some (.int y),none,none,none,none]:=rfl;rw[hσ];refine⟨_,rfl,_,rfl,(by show 2<=sizeLine;decide),λpq hpq=>?_⟩;have sq:=Same.up (o:=.tup [.int x,.int y]) hpq;have eq:upd H pq (.tup [.int x,.int y]) pq=some (.tup [.int x,.int y]):=zaa;generalize upd H pq (.tup [.int x,.int y])=Hq at sq eq ⊢;have up:∀{l:List V} {X:List Rnd} {H1 H5:Hp},Same H1 H5->VR l X rR H1->VR l X rR H5:=λs h=>h.mono λx v q=>rR.kt q (KT.of s)
  refine⟨_,rfl,th,ts,tI (cI (x,y)),(cs.map cI).map tI,rfl,SqL.of (sq _ _ hth),.tup (SqT.of eq) (RDs.ints (cI (x,y))),zdg (ht.mono λx v h=>h.kt (KT.of sq)),zaC _,zdz cs,_,rfl,?_⟩;rw[zhY];unfold zj1 at k
  cases hc:isIn cs (x,y) with
  |true =>
   rw[if_pos hc]at k;have hf:=AI (λc=>decide (c≠(x,y))) cs;have hcut:=zed cs (x,y);generalize hds:(cs.filter λc=>decide (c≠(x,y)))=ds at k hf hcut;have hback:isIn cs=chg (isIn ds) (x,y) true:=by rw[hcut,<- hc,zif]
   refine iteT ?_
   refine⟨_,rfl,_,rfl,_,rfl,a,us,R,cs,x,y,rfl,sq _ _ ha,up sq hv,hR,by lia,hc,λt R' H1 s1 hchg hR'=>?_⟩;rw[hds]at hR';obtain⟨pt,pw,pc,ts',vs,ws,f0,ept,vt,epw,vw,epc,vc⟩:=hchg;refine⟨t,_,rfl,SqT.of f0,rfl,?_⟩;refine⟨_,_,rfl,_,_,rfl,_,_,rfl,rfl,?_⟩;refine⟨_,rfl,_,rfl,_,rfl,pt,ts',R',ds,x,y,rfl,ept,vt,hR',by lia,by rw[hcut,ze5],λta R2 H2 s2 h2 hR2=>?_⟩;have e2:R2=R:=Rds.one (hR2.congr (by rw[zfK];exact hback.symm)) hR;subst e2;refine zeW (K:=K) ((sq.trans (s1.trans s2)) _ _ ha) (up (sq.trans (s1.trans s2)) hv) hR hR' hcut hback (by lia) (by lia) (s2 _ _ ept) (up s2 vt) (s2 _ _ epw) (up s2 vw) (s2 _ _ epc) (up s2 vc) h2 λH3 s3=>?_
   exact k pt ts' R' H3 (sq.trans (s1.trans (s2.trans s3))) (s3 _ _ (s2 _ _ ept)) (up (s2.trans s3) vt) hR'
  |false =>
   rw[if_neg (by rw[hc];decide)]at k;have hcut:=zfK cs (x,y);have hf:(cs++[(x,y)]).length=cs.length+1:=by rw[Ak];rfl
   generalize hds:cs++[(x,y)]=ds at k hf hcut;have hback:isIn cs=chg (isIn ds) (x,y) false:=by rw[hcut,<- hc,zif]
   refine iteF ?_
   refine⟨_,rfl,_,rfl,_,rfl,a,us,R,cs,x,y,rfl,sq _ _ ha,up sq hv,hR,by lia,hc,λt R' H1 s1 hchg hR'=>?_⟩;rw[hds]at hR';obtain⟨pt,pw,pc,ts',vs,ws,f0,ept,vt,epw,vw,epc,vc⟩:=hchg;refine⟨t,_,rfl,SqT.of f0,rfl,?_⟩;refine⟨_,_,rfl,_,_,rfl,_,_,rfl,rfl,?_⟩;refine⟨_,rfl,_,rfl,_,rfl,pt,ts',R',ds,x,y,rfl,ept,vt,hR',by lia,by rw[hcut,ze5],λta R2 H2 s2 h2 hR2=>?_⟩;have e2:R2=R:=Rds.one (hR2.congr (by rw[zed];exact hback.symm)) hR;subst e2;refine zeW (K:=K) ((sq.trans (s1.trans s2)) _ _ ha) (up (sq.trans (s1.trans s2)) hv) hR hR' hcut hback (by lia) (by lia) (s2 _ _ ept) (up s2 vt) (s2 _ _ epw) (up s2 vw) (s2 _ _ epc) (up s2 vc) h2 λH3 s3=>?_
   exact k pt ts' R' H3 (sq.trans (s1.trans (s2.trans s3))) (s3 _ _ (s2 _ _ ept)) (up (s2.trans s3) vt) hR'
theorem InOrd.pw{cs:List Cell}(h:InOrd cs):cs.Pairwise λa b=>HT.lexLt [a.2,a.1] [b.2,b.1]=true:=by
 induction cs with
 |nil=>exact .nil
 |cons a r ih =>
  have ih':=ih λi c d h1 h2=>h (i+1) c d (by simpa using h1) (by simpa using h2)
  refine List.pairwise_cons.mpr ⟨λb hb=>?_,ih'⟩
  cases r with
  |nil=>cases hb
  |cons c r =>
   have h0:HT.lexLt [a.2,a.1] [c.2,c.1]=true:=h 0 a c rfl rfl;rcases AM.mp hb with rfl |hb
   .exact h0
   .exact HT.lexLt_trans h0 ((Db.mp ih').1 b hb)
theorem InOrd.nodup{cs:List Cell}(h:InOrd cs):cs.Nodup:=h.pw.imp λ{a b} q e=>by subst e;rw[HT.lexLt_irrefl]at q;cases q
theorem zjA{ds:List Cell}{c:Cell}(hnd:ds.Nodup)(hne:ds≠[])(hx:ds≠[c]):(ds.filter λx=>decide (x≠c))≠[]:=by
 intro h
 have hall:∀a∈ds,a=c:=λa ha=>by have:=List.filter_eq_nil_iff.mp h a ha;simpa using this
 cases ds with
 |nil=>exact hne rfl
 |cons a r =>
  cases r with
  |nil=>exact hx (by rw[hall a (An ..)])
  |cons b r =>
   have h1:=hall a (by simp);have h2:=hall b (by simp);rw[h1,h2]at hnd;simp at hnd
theorem zjU{K:W.Frag}{D:Ends}{H:Hp}{x0 x1 x5:Option V}{p pt ps:Addr}{ts us:List V}{ds:List Cell}{S:List Rnd}{x y:Int}{n:Nat}(hpen:HasB H p n)(hptx:pt ≠ p)(hpsx:ps ≠ p)(e5t:H pt=some (.lst ts))(v5t:VR ts ds cR H)(e5s:H ps=some (.lst us))(v5s:VR us S rR H)(hS:Rds ds S)(hnd:ds.Nodup)(hne:ds ≠ [])(hdl:ds.length <= 104)
  (k:∀H' pt' ps' ts' us' ds' S',Same H H'->pt'≠p->ps'≠p->H' pt'=some (.lst ts')->VR ts' ds' cR H'->H' ps'=some (.lst us')->VR us' S' rR H'->Rds ds' S'->ds'.Nodup->ds'≠[]->ds'.length<=ds.length+1->D.nx [x0,x1,some (.ref p),some (.ref pt'),some (.ref ps'),x5,some (.int x),some (.int y)] H') :
  tIfS (tTest (tOp (rNeD K) (tVar 3) (tLst (tCons (tTup (tCons (tVar 6) (tCons (tVar 7) tNil))) tNil)))) (tSeq (tAsg (tCall zfe [] E0 (tCons (tVar 4) (tCons (tVar 3) (tCons (tVar 6) (tCons (tVar 7) tNil))))) (gName 4)) (tSeq (tIfS (tTest (tOp (λx y H Q=>y=V.non/\Q (V.bl (decide (x=V.non))) H) (tVar 4) (tC V.non))) (tRet (tC (V.bl false))) tNext) (tIfS (tTest (tOp (rInD K) (tTup (tCons (tVar 6) (tCons (tVar 7) tNil))) (tVar 3))) (zlf (iList K (tVar 3)) [none,some 6,some 7] (gName 0) (tTest (tOp (rNeD K) (tVar 0) (tTup (tCons (tVar 1) (tCons (tVar 2) tNil))))) (tVar 0) 3) (tAsg (tOp rCat (tVar 3) (tLst (tCons (tTup (tCons (tVar 6) (tCons (tVar 7) tNil))) tNil))) (gName 3))))) tNext D [x0,x1,some (.ref p),some (.ref pt),some (.ref ps),x5,some (.int x),some (.int y)] H:=by
 have up:∀{l:List V} {X:List Rnd} {H1 H5:Hp},Same H1 H5->VR l X rR H1->VR l X rR H5:=λs h=>h.mono λx v q=>rR.kt q (KT.of s)
 have uc:∀{l:List V} {X:List Cell} {H1 H5:Hp},Same H1 H5->VR l X cR H1->VR l X cR H5:=λs h=>h.mono λx v q=>q.kt (KT.of s)
 refine⟨_,rfl,_,rfl,_,rfl,(by show 2<=sizeLine;decide),λt1 ht1=>?_⟩;have s1:=Same.up (o:=.tup [.int x,.int y]) ht1;have e1:upd H t1 (.tup [.int x,.int y]) t1=some (.tup [.int x,.int y]):=zaa;generalize upd H t1 (.tup [.int x,.int y])=H1 at s1 e1 ⊢;refine⟨(by show 1<=sizeLine;decide),λl2 hl2=>?_⟩;have s2:=Same.up (o:=.lst [.ref t1]) hl2;have e2:upd H1 l2 (.lst [.ref t1]) l2=some (.lst [.ref t1]):=zaa;generalize upd H1 l2 (.lst [.ref t1])=H2 at s2 e2 ⊢;have s02:=s1.trans s2;have v1:VR [V.ref t1] [((x,y):Cell)] cR H2:=VR.cons.mpr ⟨⟨t1,rfl,s2 _ _ e1⟩,VR.nil⟩;refine⟨lT (ds.map cI),lT ([(x,y)].map cI),zdK (SqL.of (s02 _ _ e5t)) (uc s02 v5t),zdK (SqL.of e2) v1,zdf _,zdf _,_,rfl,?_⟩;rw[eqv2]
 by_cases hx:ds=[(x,y)]
 .refine iteN (by rw[decide_eq_true hx];rfl) ?_
  exact k H2 pt ps ts us ds S s02 hptx hpsx (s02 _ _ e5t) (uc s02 v5t) (s02 _ _ e5s) (up s02 v5s) hS hnd hne (by lia)
 refine iteY (by rw[decide_eq_false hx];rfl) ?_
 refine⟨_,rfl,_,rfl,_,rfl,_,rfl,ps,pt,us,ts,S,ds,x,y,rfl,s02 _ _ e5s,up s02 v5s,hS,by lia,s02 _ _ e5t,uc s02 v5t,λq us' S' H3 s3 e3 v3 hS3=>?_⟩;have s03:=s02.trans s3
 have hqx:q≠p:=λz=>by
  obtain⟨c0,t0,e0,_⟩:=hpen.same s03;rw[z,e0]at e3;injection e3 with e3;injection e3 with e3;subst e3
  cases S' with
  |nil=>have:=v3.1;cases this
  |cons r S' =>
   have h3:=(VR.cons.mp v3).1;exact nomatch h3
 refine⟨_,rfl,rfl,_,rfl,iteN rfl ?_⟩;refine⟨_,rfl,_,rfl,(by show 2<=sizeLine;decide),λt4 ht4=>?_⟩;have s4:=Same.up (o:=.tup [.int x,.int y]) ht4;have e4:upd H3 t4 (.tup [.int x,.int y]) t4=some (.tup [.int x,.int y]):=zaa;generalize upd H3 t4 (.tup [.int x,.int y])=H4 at s4 e4 ⊢;have s04:=s03.trans s4;refine⟨_,rfl,pt,ts,tI (cI (x,y)),(ds.map cI).map tI,rfl,SqL.of (s04 _ _ e5t),.tup (SqT.of e4) (RDs.ints (cI (x,y))),zdg (uc s04 v5t),zaC _,zdz ds,_,rfl,?_⟩;rw[zhY];unfold zj1 at hS3
 cases hc:isIn ds (x,y) with
 |true =>
  rw[if_pos hc]at hS3;refine iteT ?_
  have e4t:=s04 _ _ e5t;have v4t:VR ts ds cR H4:=uc s04 v5t;have e4s:=s4 _ _ e3;have v4s:VR us' S' rR H4:=up s4 v3;refine⟨_,rfl,pt,rfl,⟨_,SqL.of e4t⟩,λg hg=>?_⟩
  have hgx:g≠p:=λz=>by obtain⟨c0,t0,e0,_⟩:=hpen.same s04;rw[z,e0]at hg;cases hg
  refine zar (K:=K) (a:=pt) (xs:=ts) (λj σ H5=>∃o ws,σ=[o,some (.int x),some (.int y)]/\Same H4 H5/\H5 g=some (.lst ws)/\VR ws ((ds.take j).filter λc=>decide (c≠(x,y))) cR H5) ⟨none,[],rfl,Same.up hg,zaa,VR.nil⟩ (λj σ H5 _ ⟨_,_,_,s5,_⟩=>SqL.of (s5 _ _ e4t)) ?_ ?_
  .rintro j v σ H5 hj ⟨o,ws,rfl,s5,e5,hw⟩;obtain⟨c,hcj,hcv⟩:=v4t.at hj;have hjl:j<ds.length:=(Ad.mp hcj).1;simp only[zap,AD,AE];refine⟨_,rfl,_,rfl,_,rfl,(by show 2<=sizeLine;decide),λt6 ht6=>?_⟩;have s6:=Same.up (o:=.tup [.int x,.int y]) ht6;have e6:upd H5 t6 (.tup [.int x,.int y]) t6=some (.tup [.int x,.int y]):=zaa;generalize upd H5 t6 (.tup [.int x,.int y])=H6 at s6 e6 ⊢;have s46:=s5.trans s6;have hcv6:cR c v H6:=hcv.kt (KT.of s46);obtain⟨b,rfl,hb⟩:=hcv6;refine⟨tI (cI c),tI (cI (x,y)),.tup (SqT.of hb) (RDs.ints (cI c)),.tup (SqT.of e6) (RDs.ints (cI (x,y))),zaC _,zaC _,_,rfl,?_⟩
   have hne':(!PyData.eqv (tI (cI c)) (tI (cI (x,y))))=decide (c≠(x,y)):=by
    rw[zcG]
    by_cases z:c=(x,y)
    .rw[decide_eq_true (by rw[z]),decide_eq_false (λq=>q z)];rfl
    .rw[decide_eq_false (λq=>z (zlv q)),decide_eq_true z];rfl
   rw[hne',zeh _ hcj];refine ite2 (λhy=>?_) (λhn=>?_)
   .rw[if_pos hy];refine⟨_,rfl,ws,s6 _ _ e5,zaj ?_,_,_,rfl,zaq hg s46,zaa,?_⟩
    .rw[hw.1];have:=AI (λc=>decide (c≠(x,y))) (ds.take j);rw[AQ]at this;lia
    .exact (uc s6 hw).snoc (λx v h=>h.kt (KT.lst (s6 _ _ e5))) (cR.kt ⟨b,rfl,hb⟩ (KT.lst (s6 _ _ e5)))
   .rw[if_neg hn,Bf];exact⟨_,ws,rfl,s46,s6 _ _ e5,uc s6 hw⟩
  .rintro σ H5 ⟨o,ws,rfl,s5,e5,hw⟩;rw[v4t.1,AN]at hw;refine k H5 g q ws us' _ S' (s04.trans s5) hgx hqx e5 hw (s5 _ _ e4s) (up s5 v4s) hS3 (hnd.filter _) (zjA hnd hne hx) (by have:=AI (λc=>decide (c≠(x,y))) ds;lia)
 |false =>
  rw[if_neg (by rw[hc];decide)]at hS3;refine iteF ?_
  have e4t:=s04 _ _ e5t;refine⟨_,rfl,_,rfl,_,rfl,(by show 2<=sizeLine;decide),λt5 ht5=>?_⟩;have s5:=Same.up (o:=.tup [.int x,.int y]) ht5;have e5:upd H4 t5 (.tup [.int x,.int y]) t5=some (.tup [.int x,.int y]):=zaa;generalize upd H4 t5 (.tup [.int x,.int y])=H5 at s5 e5 ⊢;refine⟨(by show 1<=sizeLine;decide),λl6 hl6=>?_⟩;have s6:=Same.up (o:=.lst [.ref t5]) hl6;have e6:upd H5 l6 (.lst [.ref t5]) l6=some (.lst [.ref t5]):=zaa;generalize upd H5 l6 (.lst [.ref t5])=H6 at s6 e6 ⊢;have s46:=s5.trans s6;have s06:=s04.trans s46;refine⟨pt,l6,ts,[.ref t5],rfl,rfl,s06 _ _ e5t,e6,BJ (zaj (by rw[v5t.1];show ds.length+1<=1000;lia)),λl7 hl7=>?_⟩
  have hlx:l7≠p:=λz=>by obtain⟨c0,t0,e0,_⟩:=hpen.same s06;rw[z,e0]at hl7;cases hl7
  have s7:=Same.up (o:=.lst (ts++[.ref t5])) hl7;have e7:upd H6 l7 (.lst (ts++[.ref t5])) l7=some (.lst (ts++[.ref t5])):=zaa;generalize upd H6 l7 (.lst (ts++[.ref t5]))=H7 at s7 e7 ⊢;have s07:=s06.trans s7;have v7:VR (ts++[.ref t5]) (ds++[((x,y):Cell)]) cR H7:=(uc s07 v5t).app (VR.cons.mpr ⟨⟨t5,rfl,s7 _ _ (s6 _ _ e5)⟩,VR.nil⟩);have hnm:((x,y):Cell) ∉ ds:=of_decide_eq_false hc;refine k H7 l7 q _ us' _ S' s07 hlx hqx e7 v7 ((s4.trans (s46.trans s7)) _ _ e3) (up (s4.trans (s46.trans s7)) v3) hS3 ?_ (by simp) (by rw[Ak];exact Am _)
  exact List.nodup_append.mpr ⟨hnd,List.nodup_cons.mpr ⟨by simp,List.nodup_nil⟩,λa ha b hb e=>hnm (by rw[Ah.mp hb]at e;rw[<- e];exact ha)⟩
noncomputable def spLaw(K:W.Frag):Sp:=λvs H Q _=>∃(a:Addr) (ns:List Int),vs=[.ref a]/\SqL K H a (ns.map V.int)/\ns.length<=63/\∀H',Q (.bl true) H'
theorem zmL (T:Txt P w K mg) (g__law_cell_at:Fn P w K mg base 1 "_law_cell_at" ["_law_script", "_law_k"] (zhw K)) (g__law_take:Tk P w K mg base) (g__law_picture:Fn P w K mg base 3 "_law_picture" ["_law_pen", "_law_most"] (zga K)) (g_rounds:Fn P w K mg base 7 "rounds" ["picture"] (zhv K))
  (g__law_right:Fn P w K mg base 9 "_law_right" ["_law_some","_law_there","_law_x","_law_y"] zfe)
  (d:Df K mg "law" s_law ["_law_script"]):FnOk P w K mg base CX0 10 d.f d.fd ["_law_script"] (spLaw K):=by
 refine d.F.ok zcd (λvs H Q E h=>?_) (λcdv A outer s H vs Q E hr h=>?_)
 .obtain⟨a,ns,rfl,_⟩:=h;rfl
 .obtain⟨a,ns,rfl,hS,hlen,k⟩:=h;have hu64:=hr.units;have hu65:(A.deeper (DJ (BD "law") (zad s_law) s.heap.objs.size d.f cdv)).units+65<cLine:=by have:=hr.un;lia
  have nb0:(["_law_cell","_law_x","_law_y"]:List Str).Nodup:=by decide +kernel
  refine⟨_,(zac (zbG Bg rfl (zbR (by rfl) T.nrange (zah (zaT (zj5 rfl) (by rfl) T.nmax (by rfl) (pa_C zae (zah (zaT (zj4 rfl) (by rfl) T.nmin (by rfl) (pa_C zae (zah (zaT zba (by rfl) T.nlen (by rfl) (pa_N (pv 0) zab)) zab))) zab))) zab)) (nG 1 zcd.nd)
   (zac (sE 2 zcd.nd (zaZ (zah (pC g__law_cell_at hr (pa_N (pv 0) (pa_N (pv 1) zab))) (pa_C zae zab))))
   (zac (sE 3 zcd.nd (pC g__law_picture hr (pa_N (pv 2) (zah (pe_ix zaS (zaZ (pa_C zae (pa_C zae zab))) (zbT zdn (by rfl) T.nint (by rfl) (zah (zbc op_gt (pv 1) zae (zan _)) zab)) (λ_ _=>rfl)) zab))))
   (zac (sE 4 zcd.nd (pC g_rounds hr (zah (zbT zgF (by rfl) T.nlist (by rfl) (pa_N (pv 3) zab)) zab)))
   (zaf (zbG Bg rfl (zbR (by rfl) T.nrange (pa_B (pe_op zbU zae (zbT zdn (by rfl) T.nint (by rfl) (zah (zbc (zd6 hu64) (pv 3) (zaZ zab) (zan _)) zab))) zab)) (nG 5 zcd.nd)
   (zac (zbm (pe_ix zaS (pv 3) (pC g__law_take hr (pa_N (pv 2) (zah (zaT zba (by rfl) T.nlen (by rfl) (pa_N (pv 3) zab)) zab))) (λ_ _=>rfl)) (za8 (by rfl) (zag (zc3 (i:=6) zcd.nd (by rfl) (DH rfl)) (zag (zc3 (i:=7) zcd.nd (by rfl) (DH rfl)) zas))))
   (zac (ps_if (zam op_gt (pC g__law_take hr (pa_N (pv 2) (pa_C zae zab))) zae (zan _))
   (zac (zgk (i:=6) zcd.nd (by rfl) (DH rfl) (pe_op zbn (pe_op zaG (pv 6) (pC g__law_take hr (pa_N (pv 2) (pa_C zae zab)))) zae))
   (zaf (zgk (i:=7) zcd.nd (by rfl) (DH rfl) (pe_op zbn (pe_op zaG (pv 7) (pC g__law_take hr (pa_N (pv 2) (pa_C zae zab)))) zae))))
   zaA)
   (zaf (ps_if (zam (zd6 hu64) (pv 3) (zaZ (pa_T (zay (pa_N (pv 6) (pa_N (pv 7) zab))) zab)) (zan _))
   (zac (sE 4 zcd.nd (pC g__law_right hr (pa_N (pv 4) (pa_N (pv 3) (pa_N (pv 6) (pa_N (pv 7) zab))))))
   (zac (ps_if (zam zhK (pv 4) zbS (zan _))
   (zaf (zal pe_bl))
   zaA)
   (zaf (ps_if (zam (zln hu65) (zay (pa_N (pv 6) (pa_N (pv 7) zab))) (pv 3) rfl)
   (zaf (zhG (i:=3) (osc:=zad s_law) (N:=N_law) (N':=["_law_cell","_law_x","_law_y"]) (sel:=[none,some 6,some 7]) bO zcd.nd (by rfl) (Or.inl rfl) (zaB (pv 3)) (λ_ _ _ _ _=>(nG 0 nb0)) (λ_ _ _ _ _=>zbP (zam (zlT (K:=K) hu64) (pv 0) (zay (pa_N (pv 1) (pa_N (pv 2) zab))) (zan _))) (λ_ _ _ _ _=>(pv 0))))
   (zaf (sE 3 zcd.nd (pe_op zhM (pv 3) (zaZ (pa_T (zay (pa_N (pv 6) (pa_N (pv 7) zab))) zab)))))))))
   zaA))))))))))
   (zaf (zal pe_bl))),?_⟩
  refine⟨_,rfl,a,_,rfl,.inl hS,_,_,rfl,_,_,rfl,_,rfl,?_,?_,?_⟩
  .split <;> lia
  .split
   .split <;> lia
   .decide
  have hσ:L2.start N_law [.ref a]=[some (.ref a),none,none,none,none,none,none,none]:=rfl;rw[hσ];refine zbC (lo:=0) (λi σ H5=>∃o1 o2 o3 o4 o5 o6 o7,σ=[some (.ref a),o1,o2,o3,o4,o5,o6,o7]/\Same H H5) ⟨_,_,_,_,_,_,_,rfl,Same.refl _⟩ ?_ ?_
  .rintro i σ H5 hi ⟨o1,o2,o3,o4,o5,o6,o7,rfl,s5⟩;simp only[zap,AD,AE];refine⟨_,rfl,_,rfl,a,ns,i,(by rw[show ((0:Int)+(i:Int))=(i:Int) by lia];rfl),s5.seq hS,λc=>⟨two,λp hp=>?_⟩⟩;have hp0:H p=none:=s5.free hp;have sp:Same H (upd H5 p (.lst [.int c,.int 0])):=s5.trans (Same.up hp);have pen0:HasB (upd H5 p (.lst [.int c,.int 0])) p 200000:=⟨c,0,zaa,by decide,by decide⟩;generalize upd H5 p (.lst [.int c,.int 0])=H6 at sp pen0;refine⟨_,rfl,two,λl hl=>?_⟩;have s7:=Same.up (o:=.lst [.int 100,.int 40]) hl;have e7:upd H6 l (.lst [.int 100,.int 40]) l=some (.lst [.int 100,.int 40]):=zaa;generalize upd H6 l (.lst [.int 100,.int 40])=H7 at s7 e7 ⊢;refine⟨_,rfl,_,_,rfl,rfl,.inr ⟨_,rfl,?_⟩⟩
   obtain⟨v,hv,m,rfl,hm1,hm⟩:∃v,atI [V.int 100,V.int 40] (if decide ((0:Int)<0+(i:Int))=true then 1 else 0)=some v/\∃m:Nat,v=.int m/\1<=m/\m<=100:=by
    by_cases hz:decide ((0:Int)<0+(i:Int))=true
    .rw[if_pos hz];exact⟨_,rfl,40,rfl,by decide,by decide⟩
    .rw[if_neg hz];exact⟨_,rfl,100,rfl,by decide,by decide⟩
   refine⟨l,_,_,_,rfl,rfl,SqL.of e7,hv,p,1000,m,rfl,(pen0.same s7).le (by lia),hm1,by lia,λap cs H8 hap b8 p8 hLR hord hbox hcl hcB=>?_⟩;have s8:Same H H8:=λz o h=>b8 z o (zak h hp0) ((sp.trans s7) z o h)
   obtain⟨tv,e8,hv8⟩:=hLR
   have hapx:ap≠p:=λz=>by obtain⟨c0,t0,e0,_⟩:=pen0.same s7;rw[z,e0]at hap;cases hap
   refine⟨_,rfl,ap,tv,rfl,.inl (SqL.of e8),λl9 hl9=>?_⟩;have s9:=Same.up (o:=.lst tv) hl9;have e9:upd H8 l9 (.lst tv) l9=some (.lst tv):=zaa;generalize upd H8 l9 (.lst tv)=H9 at s9 e9 ⊢;refine⟨l9,cs,rfl,⟨tv,SqL.of e9,hv8.mono λx v h=>h.kt (KT.of s9)⟩,hord,by lia,λpr H10 rv R R0 hpr s10 e10 hvr hpm hkey hwh=>?_⟩;have s810:=s9.trans s10;have hR:Rds cs R:=⟨hkey,R0,hpm,hwh⟩;have p9:=p8.same s9
   have hprx:pr≠p:=λz=>by obtain⟨c0,t0,e0,_⟩:=p9;rw[z,e0]at hpr;cases hpr
   have p10:=p9.same s10;have hpa:H8 l9=none:=hl9;clear hpa;refine⟨_,rfl,(by show 0<=sizeLine;decide),λl11 hl11=>?_⟩;have s11:=Same.up (o:=.lst []) hl11;have e11:upd H10 l11 (.lst []) l11=some (.lst []):=zaa;generalize upd H10 l11 (.lst [])=H11 at s11 e11 ⊢;have s811:=s810.trans s11;have p11:=p10.same s11;have e11s:=s11 _ _ e10;have hv11s:VR rv R rR H11:=hvr.mono λx v q=>rR.kt q (KT.of s11)
   have e11t:=s811 _ _ e8;have hv11t:VR tv cs cR H11:=hv8.mono λx v h=>h.kt (KT.of s811)
   have s011:=s8.trans s811;refine⟨lT (cs.map cI),lT (([]:List Cell).map cI),zdK (SqL.of e11t) hv11t,zdK (SqL.of e11) VR.nil,zdf _,zdf _,?_⟩;rw[eqv2];refine .inr ⟨_,rfl,_,_,rfl,rfl,.inl ⟨by decide,by decide⟩,_,rfl,?_,?_,?_⟩
   .split <;> decide
   .split <;> decide
   refine zbC (lo:=0) (λj σ H5=>∃o5 o6 o7 pt ps ts us ds S,σ=[some (.ref a),some (.int (0+(i:Int))),some (.ref p),some (.ref pt),some (.ref ps),o5,o6,o7]/\But H11 H5 p/\HasB H5 p (1000-10*j)/\pt≠p/\ps≠p/\H5 pt=some (.lst ts)/\VR ts ds cR H5/\H5 ps=some (.lst us)/\VR us S rR H5/\Rds ds S/\ds.Nodup/\(cs=[]∨ds≠[])/\ds.length<=100+j)
    ⟨_,_,_,ap,pr,tv,rv,cs,R,rfl,But.refl _ _,p11.le (by lia),hapx,hprx,e11t,hv11t,e11s,hv11s,hR,InOrd.nodup hord,Decidable.em _,by lia⟩ ?_ ?_
   .rintro j σ H5 hj ⟨o5,o6,o7,pt,ps,ts,us,ds,S,rfl,b5,p5,hptx,hpsx,e5t,v5t,e5s,v5s,hS5,hnd,hne,hdl⟩
    have hj4:j<4/\cs≠[]:=by
     by_cases z:cs=[]
     .rw[z]at hj;exact absurd hj (by simp)
     .rw[decide_eq_false z]at hj;exact⟨hj,z⟩
    have hdne:ds≠[]:=hne.resolve_left hj4.2;have hj4:=hj4.1;have hl0:0<ds.length:=List.length_pos_iff.mpr hdne;have htl:ts.length=ds.length:=v5t.1;simp only[zap,AD,AE];refine⟨_,rfl,_,rfl,_,rfl,pt,ts,rfl,.inl (SqL.of e5t),p,999-10*j,(ts.length:Int),rfl,p5.le (by lia),by lia,zaN (by lia) (by lia),λr6 H6 r60 r61 b6 p6=>?_⟩;obtain⟨n6,rfl⟩:=Int.eq_ofNat_of_zero_le r60;have hn6:n6<ts.length:=by lia
    obtain⟨c6,hc6,hcv⟩:=v5t.at (Aa hn6);obtain⟨b,hbe,hb⟩:=hcv;obtain⟨x,y⟩:=c6;refine⟨pt,ts,_,_,rfl,rfl,SqL.of (b6 _ _ hptx e5t),zaw (by rw[Aa hn6,hbe]),b,[.int x,.int y],rfl,SqT.of (b6.kt p5 _ _ hb),rfl,_,_,rfl,_,_,rfl,rfl,?_⟩;refine⟨_,rfl,p,998-10*j,3,rfl,p6.le (by lia),by decide,zaN (by decide) (by decide),λr7 H7 _ _ b7 p7=>⟨_,_,rfl,rfl,_,rfl,?_⟩⟩;have b57:=b6.trans b7;refine ite2 (λ_=>?_) (λ_=>?_)
    .refine⟨_,rfl,_,rfl,p,997-10*j,5,rfl,p7.le (by lia),by decide,zaN (by decide) (by decide),λr8 H8 _ _ b8 p8=>⟨_,_,rfl,rfl,_,_,rfl,rfl,?_⟩⟩;refine⟨_,rfl,_,rfl,p,996-10*j,5,rfl,p8.le (by lia),by decide,zaN (by decide) (by decide),λr9 H9 _ _ b9 p9=>⟨_,_,rfl,rfl,_,_,rfl,rfl,?_⟩⟩;have b59:=b57.trans (b8.trans b9);refine zjU (K:=K) p9 hptx hpsx (b59 _ _ hptx e5t) (v5t.mono λx v h=>h.kt (b59.kt p5)) (b59 _ _ hpsx e5s) (v5s.mono λx v h=>rR.kt h (b59.kt p5)) hS5 hnd hdne (by lia) λH' pt' ps' ts' us' ds' S' s' q1 q2 q3 q4 q5 q6 q7 q8 q9 q10=>?_
     exact⟨_,_,_,pt',ps',ts',us',ds',S',rfl,b5.trans (b59.trans (But.of s')),(p9.same s').le (by lia),q1,q2,q3,q4,q5,q6,q7,q8,.inr q9,by lia⟩
    .refine zjU (K:=K) p7 hptx hpsx (b57 _ _ hptx e5t) (v5t.mono λx v h=>h.kt (b57.kt p5)) (b57 _ _ hpsx e5s) (v5s.mono λx v h=>rR.kt h (b57.kt p5)) hS5 hnd hdne (by lia) λH' pt' ps' ts' us' ds' S' s' q1 q2 q3 q4 q5 q6 q7 q8 q9 q10=>?_
     exact⟨_,_,_,pt',ps',ts',us',ds',S',rfl,b5.trans (b57.trans (But.of s')),(p7.same s').le (by lia),q1,q2,q3,q4,q5,q6,q7,q8,.inr q9,by lia⟩
   .rintro σ H5 ⟨o5,o6,o7,pt,ps,ts,us,ds,S,rfl,b5,p5,hptx,hpsx,e5t,v5t,e5s,v5s,hS5,hnd,hne,hdl⟩;exact⟨_,_,_,_,_,_,_,rfl,λz o h=>b5 z o (zak h hp0) (s011 z o h)⟩
  .rintro σ H5 ⟨o1,o2,o3,o4,o5,o6,o7,rfl,s5⟩;exact k H5
end
theorem all_mk {l:W.OpenLaw}{w:Be}{K:W.Frag}{h:Heap}{mg:Str -> Option Ac}{fa:Addr}(X:K.In h) (G:h.Ns AJ mg) (hfa:mg "law" = some (.ref fa)){fx49:Addr}{od49 an49:Option Addr}{sl49:Array (Option Ac)}{oc49 kV49 dc49 pm49 ct49 cd49:Ac}
  (h0:DA K "cell_order" zcA)
  (h1:DA K "ask_picture" zco)
  (h2:DA K "gone" zjb)
  (h3:DA K "cell_table" zbZ)
  (h4:DA K "gap_beside" zcy)
  (h5:DA K "edge_facing" zcl)
  (h6:DA K "all_edges" zbN)
  (h7:DA K "straight_step" zbM)
  (h8:DA K "slant_step" zcx)
  (h9:DA K "step_behind" zci)
  (h10:DA K "is_slant" zdr)
  (h11:DA K "edge_behind" zcm)
  (h12:DA K "walk_from" zcZ)
  (h13:DA K "lefts_and_slants" zaO)
  (h14:DA K "lefts_less_slants" zbj)
  (h15:DA K "sort_of" zd2)
  (h16:DA K "begin_of" zcN)
  (h17:DA K "round_of" zbJ)
  (h18:DA K "round_order" zcj)
  (h19:DA K "rounds_along" zb4)
  (h20:DA K "rounds" zfl)
  (h21:DA K "begin_edge" zcB)
  (h22:DA K "way_for" zdZ)
  (h23:DA K "deeds_along" zcn)
  (h24:DA K "walk_by" zd1)
  (h25:DA K "walk_along" zcw)
  (h26:DA K "seen_between" zb3)
  (h27:DA K "gainsaid_at" zck)
  (h28:DA K "comes_back" zcz)
  (h29:DA K "is_closed" zc0)
  (h30:DA K "walk_of" zd0)
  (h31:DA K "edges_of" zcM)
  (h32:DA K "uprights" zdq)
  (h33:DA K "lies_within" zbI)
  (h34:DA K "edges_of_all" zbw)
  (h35:DA K "is_cell" zd3)
  (h36:DA K "edges_changed" zbp)
  (h37:DA K "rounds_changed" zaD)
  (h38:DA K "put" s_put)
  (h39:DA K "taken" zgZ)
  (h40:DA K "_law_cell_at" zb6)
  (h41:DA K "_law_take" zc1)
  (h42:DA K "_law_far" zds)
  (h43:DA K "_law_is_there" zbO)
  (h44:DA K "_law_picture" zb5)
  (h45:DA K "_law_beside" zaP)
  (h46:DA K "_law_seen" zc2)
  (h47:DA K "_law_is_near" zbx)
  (h48:DA K "_law_right" za7)
  (a49:CO K AJ "law" = some (some (.ref fx49))) (l49:K.lookup fx49=some ⟨oc49,od49,.func (C7 "law" "law" (za5 s_law) (zaI s_law) (zad s_law) .none kV49 dc49 pm49 an49 cd49 ct49),sl49⟩) (c49:W.codeIn K cd49 "law" = true) (k49:W.keepIn K (.ref fx49)=true)
  {M m0 m1 m2 m3 m4 m5 m6 m7:Addr}{odM:Option Addr}{nM:Nat}{slM:Array (Option Ac)}
  (aM:CO K AJ "MOVES" = some (some (.ref M))) (lM:K.lookup M=some ⟨.type "tuple",odM,.seq #[.ref m0,.ref m1,.ref m2,.ref m3,.ref m4,.ref m5,.ref m6,.ref m7] nM,slM⟩)
  {odm0:Option Addr}{nm0:Nat}{slm0:Array (Option Ac)}{tm0 um0:Tok} (x0:K.lookup m0=some ⟨.type "tuple",odm0,.seq #[.int (1) tm0,.int (0) um0] nm0,slm0⟩)
  {odm1:Option Addr}{nm1:Nat}{slm1:Array (Option Ac)}{tm1 um1:Tok} (x1:K.lookup m1=some ⟨.type "tuple",odm1,.seq #[.int (1) tm1,.int (1) um1] nm1,slm1⟩)
  {odm2:Option Addr}{nm2:Nat}{slm2:Array (Option Ac)}{tm2 um2:Tok} (x2:K.lookup m2=some ⟨.type "tuple",odm2,.seq #[.int (0) tm2,.int (1) um2] nm2,slm2⟩)
  {odm3:Option Addr}{nm3:Nat}{slm3:Array (Option Ac)}{tm3 um3:Tok} (x3:K.lookup m3=some ⟨.type "tuple",odm3,.seq #[.int (-1) tm3,.int (1) um3] nm3,slm3⟩)
  {odm4:Option Addr}{nm4:Nat}{slm4:Array (Option Ac)}{tm4 um4:Tok} (x4:K.lookup m4=some ⟨.type "tuple",odm4,.seq #[.int (-1) tm4,.int (0) um4] nm4,slm4⟩)
  {odm5:Option Addr}{nm5:Nat}{slm5:Array (Option Ac)}{tm5 um5:Tok} (x5:K.lookup m5=some ⟨.type "tuple",odm5,.seq #[.int (-1) tm5,.int (-1) um5] nm5,slm5⟩)
  {odm6:Option Addr}{nm6:Nat}{slm6:Array (Option Ac)}{tm6 um6:Tok} (x6:K.lookup m6=some ⟨.type "tuple",odm6,.seq #[.int (0) tm6,.int (-1) um6] nm6,slm6⟩)
  {odm7:Option Addr}{nm7:Nat}{slm7:Array (Option Ac)}{tm7 um7:Tok} (x7:K.lookup m7=some ⟨.type "tuple",odm7,.seq #[.int (1) tm7,.int (-1) um7] nm7,slm7⟩)
  {B:Addr}{t1 t2 t3 t4:Tok}{nB:Nat} (aB:CO K AJ "BEGIN_WAYS" = some (some (.ref B))) (lB:K.lookup B=some ⟨.type "dict",none,.dict #[⟨BV w.params "rim",.str "rim" t1,.int 0 t2⟩,⟨BV w.params "hole",.str "hole" t3,.int 2 t4⟩] nB,#[]⟩)
  {B2:Addr}{u1 u2 u3 u4:Tok}{nB2:Nat} (aB2:CO K AJ "MORE_LEFTS" = some (some (.ref B2))) (lB2:K.lookup B2=some ⟨.type "dict",none,.dict #[⟨BV w.params "rim",.str "rim" u1,.int 4 u2⟩,⟨BV w.params "hole",.str "hole" u3,.int (-4) u4⟩] nB2,#[]⟩)
  (z_abs:CO K AJ "abs" = some none)
  (z_max:CO K AJ "max" = some none)
  (z_any:CO K AJ "any" = some none)
  (z_range:CO K AJ "range" = some none)
  (z_len:CO K AJ "len" = some none)
  (z_min:CO K AJ "min" = some none)
  (z_sorted:CO K AJ "sorted" = some none)
  (z_tuple:CO K AJ "tuple" = some none)
  (z_int:CO K AJ "int" = some none)
  (z_bool:CO K AJ "bool" = some none)
  (z_str:CO K AJ "str" = some none)
  (z_all:CO K AJ "all" = some none)
  (z_isinstance:CO K AJ "isinstance" = some none)
  (z_list:CO K AJ "list" = some none)
  (z_sum:CO K AJ "sum" = some none)
  (z_enumerate:CO K AJ "enumerate" = some none)
  (z_zip:CO K AJ "zip" = some none) :
  ∃fd:BM,(∀(s:Ae) (v:Ac),BindsTo s fd ⟨[v],[]⟩ [("_law_script",v)])/\∀base:Heap,K.In base->base.Ns AJ mg->FnOk l.prog w K mg base CX0 10 fa fd ["_law_script"] (spLaw K):=by
 have e:=hfa.symm.trans (W.mg_of X G a49)
 cases e
 have moves:∃M,mg "MOVES" = some (.ref M)/\∀H,∃ms:List Addr,SqT K H M (ms.map V.ref)/\ms.length=8/\∀(i:Nat) a,ms[i]?=some a->SqT K H a [.int (mv i).1,.int (mv i).2]:=by
  refine⟨M,W.mg_of X G aM,λH=>⟨[m0,m1,m2,m3,m4,m5,m6,m7],.inr ⟨_,_,_,lM,rfl,rfl,(by show 8<=sizeLine;decide),.cons rfl (.cons rfl (.cons rfl (.cons rfl (.cons rfl (.cons rfl (.cons rfl (.cons rfl .nil)))))))⟩,rfl,λi a e=>?_⟩⟩
  match i,e with
  | 0,e=>cases e;exact .inr ⟨_,_,_,x0,rfl,rfl,(by show 2<=sizeLine;decide),.cons ⟨_,rfl⟩ (.cons ⟨_,rfl⟩ .nil)⟩
  | 1,e=>cases e;exact .inr ⟨_,_,_,x1,rfl,rfl,(by show 2<=sizeLine;decide),.cons ⟨_,rfl⟩ (.cons ⟨_,rfl⟩ .nil)⟩
  | 2,e=>cases e;exact .inr ⟨_,_,_,x2,rfl,rfl,(by show 2<=sizeLine;decide),.cons ⟨_,rfl⟩ (.cons ⟨_,rfl⟩ .nil)⟩
  | 3,e=>cases e;exact .inr ⟨_,_,_,x3,rfl,rfl,(by show 2<=sizeLine;decide),.cons ⟨_,rfl⟩ (.cons ⟨_,rfl⟩ .nil)⟩
  | 4,e=>cases e;exact .inr ⟨_,_,_,x4,rfl,rfl,(by show 2<=sizeLine;decide),.cons ⟨_,rfl⟩ (.cons ⟨_,rfl⟩ .nil)⟩
  | 5,e=>cases e;exact .inr ⟨_,_,_,x5,rfl,rfl,(by show 2<=sizeLine;decide),.cons ⟨_,rfl⟩ (.cons ⟨_,rfl⟩ .nil)⟩
  | 6,e=>cases e;exact .inr ⟨_,_,_,x6,rfl,rfl,(by show 2<=sizeLine;decide),.cons ⟨_,rfl⟩ (.cons ⟨_,rfl⟩ .nil)⟩
  | 7,e=>cases e;exact .inr ⟨_,_,_,x7,rfl,rfl,(by show 2<=sizeLine;decide),.cons ⟨_,rfl⟩ (.cons ⟨_,rfl⟩ .nil)⟩
  |i+8,e=>exact absurd (Ad.mp e).1 (by simp)
 have ways:Ways l.prog w K mg:=⟨⟨B,t1,t2,t3,t4,nB,W.mg_of X G aB,lB⟩⟩;have T:Txt l.prog w K mg:={ moves:=moves,ways:=ways,more:=⟨⟨B2,u1,u2,u3,u4,nB2,W.mg_of X G aB2,lB2⟩⟩,nabs:=BE X G z_abs,nmax:=BE X G z_max,nany:=BE X G z_any,nrange:=BE X G z_range,nlen:=BE X G z_len,nmin:=BE X G z_min,nsorted:=BE X G z_sorted,ntuple:=BE X G z_tuple,nint:=BE X G z_int,nbool:=BE X G z_bool,nstr:=BE X G z_str,nall:=BE X G z_all,nisinstance:=BE X G z_isinstance,nlist:=BE X G z_list,nsum:=BE X G z_sum,nenumerate:=BE X G z_enumerate,nzip:=BE X G z_zip };obtain⟨d'0⟩:=h0.d1 X G (p0:="cell");obtain⟨d'1⟩:=h1.d1 X G (p0:="picture");obtain⟨d'2⟩:=h2.d3 X G (p0:="x") (p1:="y") (p2:="step");obtain⟨d'3⟩:=h3.d1 X G (p0:="picture");obtain⟨d'4⟩:=h4.d1 X G (p0:="edge");obtain⟨d'5⟩:=h5.d1 X G (p0:="edge");obtain⟨d'6⟩:=h6.d1 X G (p0:="picture");obtain⟨d'7⟩:=h7.d1 X G (p0:="way");obtain⟨d'8⟩:=h8.d1 X G (p0:="way");obtain⟨d'9⟩:=h9.d2 X G (p0:="table") (p1:="edge");obtain⟨d'a⟩:=h10.d1 X G (p0:="step");obtain⟨d'b⟩:=h11.d2 X G (p0:="edge") (p1:="step");obtain⟨d'c⟩:=h12.d2 X G (p0:="table") (p1:="begin");obtain⟨d'd⟩:=h13.d1 X G (p0:="walk");obtain⟨d'e⟩:=h14.d1 X G (p0:="walk");obtain⟨d'f⟩:=h15.d1 X G (p0:="walk");obtain⟨d'10⟩:=h16.d2 X G (p0:="walk") (p1:="sort");obtain⟨d'11⟩:=h17.d1 X G (p0:="walk");obtain⟨d'12⟩:=h18.d1 X G (p0:="one");obtain⟨d'13⟩:=h19.d2 X G (p0:="table") (p1:="edges");obtain⟨d'14⟩:=h20.d1 X G (p0:="picture");obtain⟨d'15⟩:=h21.d1 X G (p0:="one");obtain⟨d'16⟩:=h22.d1 X G (p0:="step");obtain⟨d'17⟩:=h23.d2 X G (p0:="begin_way") (p1:="row");obtain⟨d'18⟩:=h24.d2 X G (p0:="begin") (p1:="deeds");obtain⟨d'19⟩:=h25.d2 X G (p0:="begin") (p1:="row");obtain⟨d'1a⟩:=h26.d2 X G (p0:="edge") (p1:="step");obtain⟨d'1b⟩:=h27.d1 X G (p0:="walk");obtain⟨d'1c⟩:=h28.d1 X G (p0:="walk");obtain⟨d'1d⟩:=h29.d2 X G (p0:="walk") (p1:="sort");obtain⟨d'1e⟩:=h30.d1 X G (p0:="one");obtain⟨d'1f⟩:=h31.d1 X G (p0:="one");obtain⟨d'20⟩:=h32.d1 X G (p0:="edges");obtain⟨d'21⟩:=h33.d3 X G (p0:="places") (p1:="x") (p2:="y");obtain⟨d'22⟩:=h34.d1 X G (p0:="some");obtain⟨d'23⟩:=h35.d3 X G (p0:="edges") (p1:="x") (p2:="y");obtain⟨d'24⟩:=h36.d4 X G (p0:="edges") (p1:="x") (p2:="y") (p3:="inside");obtain⟨d'25⟩:=h37.d2 X G (p0:="some") (p1:="edges");obtain⟨d'26⟩:=h38.d3 X G (p0:="some") (p1:="x") (p2:="y");obtain⟨d'27⟩:=h39.d3 X G (p0:="some") (p1:="x") (p2:="y");obtain⟨d'28⟩:=h40.d2 X G (p0:="_law_script") (p1:="_law_k");obtain⟨d'29⟩:=h41.d2 X G (p0:="_law_pen") (p1:="_law_base");obtain⟨d'2a⟩:=h42.d1 X G (p0:="_law_pen");obtain⟨d'2b⟩:=h43.d6 X G (p0:="_law_pen") (p1:="_law_way") (p2:="_law_x") (p3:="_law_y") (p4:="_law_wide") (p5:="_law_high");obtain⟨d'2c⟩:=h44.d2 X G (p0:="_law_pen") (p1:="_law_most");obtain⟨d'2d⟩:=h45.d3 X G (p0:="_law_x") (p1:="_law_y") (p2:="_law_step");obtain⟨d'2e⟩:=h46.d1 X G (p0:="_law_one");obtain⟨d'2f⟩:=h47.d3 X G (p0:="_law_one") (p1:="_law_x") (p2:="_law_y");obtain⟨d'30⟩:=h48.d4 X G (p0:="_law_some") (p1:="_law_there") (p2:="_law_x") (p3:="_law_y");have F49:=zcF (st:=s_law) l49 c49 k49;have b49:=F49.b1 (p0:="_law_script");refine⟨C7 "law" "law" (za5 s_law) (zaI s_law) (zad s_law) .none kV49 dc49 pm49 an49 cd49 ct49,λs v=>.of_eq rfl,λbase _ _=>?_⟩;have fn:∀{k:Nat}{x:Str}{s:Stmt}{ps:List Str}{sp:Sp} (d:Df K mg x s ps),FnOk l.prog w K mg base CX0 k d.f d.fd ps sp->Fn l.prog w K mg base k x ps sp:=λd h=>d.fn h
 have g'31:=fn d'0 (zfz d'0);have g'32:=fn d'2 (zlV T d'2);have g'33:=fn d'7 (zdH d'7);have g'34:=fn d'8 (zfu d'8);have g'35:=fn d'a (zg6 d'a);have g'36:=fn d'4 (zfw g'32 d'4);have g'37:=fn d'1 (zeB T g'31 d'1);have g'38:=fn d'3 (zfy d'3);have g'39:=fn d'9 (zer g'32 g'34 g'33 d'9);have g'3a:=fn d'b (zez g'32 g'35 d'b);have g'3b:=fn d'6 (zgr T g'38 g'36 d'6);have g'3c:=fn d'c (zgo g'39 g'3a d'c);have g'3d:=fn d'd (zc4 T g'35 d'd);have g'3e:=fn d'e (zcT g'3d d'e);have g'3f:=fn d'f (ziy g'3e d'f);have g'40:=fn d'10 (zg8 T g'31 d'10);have g'41:=fn d'11 (zg3 T g'3f g'40 d'11);have g'42:=fn d'12 (zes d'12);have g'43:=fn d'13 (zd8 T g'3c g'41 g'42 d'13);have g'44:=fn d'14 (zjt T g'37 g'38 g'3b g'43 d'14);have g'45:=fn d'15 (zfA T d'15);have g'46:=fn d'16 (ziv d'16);have g'47:=fn d'17 (zeA g'46 d'17);have g'48:=fn d'18 (zix g'3a d'18);have g'49:=fn d'19 (zft g'48 g'47 d'19);have g'4a:=fn d'1a (zd7 g'3a g'36 g'35 g'32 g'34 g'33 d'1a);have g'4b:=fn d'1b (zex g'4a d'1b);have g'4c:=fn d'1c (zfx g'3a d'1c);have g'4d:=fn d'1d (zgq T g'4c g'3e d'1d);have g'4e:=fn d'1e (ziw g'45 g'49 g'4b g'4d g'40 d'1e);have g'4f:=fn d'1f (zg7 g'4e d'1f);have g'50:=fn d'20 (zg2 T d'20);have g'51:=fn d'21 (zet T d'21);have g'52:=fn d'22 (zea g'4f d'22);have g'53:=fn d'5 (zey g'36 d'5);have g'54:=fn d'23 (ziA g'51 g'50 d'23);have g'55:=fn d'24 (zdI T g'53 d'24);have g'56:=fn d'25 (zdu T g'43 g'38 d'25);have g'57:=fn d'26 (zmK T g'52 g'54 g'55 g'56 d'26);have g'58:=fn d'27 (zkB T g'52 g'54 g'55 g'56 d'27);have g'59:=fn d'28 (zew T d'28);have g'5a:=fn d'29 (tk_of (zg4 T d'29));have g'5b:=fn d'2a (ziz g'5a d'2a);have g'5c:=fn d'2b (zd9 T g'5a d'2b);have g'5d:=fn d'2c (zeu T g'5a g'5b g'5c d'2c);have g'5e:=fn d'2d (zfv d'2d);have g'5f:=fn d'2e (zg5 T g'5e d'2e);have g'60:=fn d'2f (zev T g'5f d'2f);have g'61:=fn d'30 (zgp T g'58 g'57 g'60 d'30);exact zmL T g'59 g'5a g'5d g'44 g'61 ⟨_,_,F49,W.mg_of X G a49,b49⟩
theorem walk{l:W.OpenLaw}{q:AR}{loose:List Str}{XP:(Str -> Option Ac) -> Heap -> Prop}{YP:Be -> Heap -> Prop}{d:DefRec}{K:Params -> W.Frag}(hn:l.most=some 63)(hdf:d.params.defaults = [])
  (hY:∀(w:Be) (h:Heap),YP w h->(K w.params).In h)
  (F:∀(w:Be) (mg:Str->Option Ac) (fa:Addr) (h:Heap),(K w.params).In h->h.Ns AJ mg->mg d.name=some (.ref fa) ->
   ∃fd:BM,(∀(s:Ae) (u:Ac),BindsTo s fd ⟨[u],[]⟩ [("_law_script",u)])/\∀base:Heap,(K w.params).In base->base.Ns AJ mg->FnOk l.prog w (K w.params) mg base CX0 10 fa fd ["_law_script"] (spLaw (K w.params))) :
  W.WalkO q loose XP YP l.row.toRowW d [] (λf vs=>PySem.call f vs) :=
 L2.walk_of (n:=63) (k:=10) (x:="_law_script") (CX:=λ_=>CX0) (sp:=λw=>spLaw (K w.params)) hn (by decide) hdf ⟨rfl,by decide,by decide,rfl⟩ hY F (λ_ _ a ns hl _ hS=>⟨a,ns,rfl,hS,hl,λ_=>rfl⟩) λ_ _ _ _ _ z=>z
end RR
namespace PySem.W.Fast
noncomputable def tw15989282644274026504:=()
noncomputable def tw6002226294522912856:=()
noncomputable def tw691220290759809434:=()
noncomputable def tw7348366563433460844:=()
noncomputable def tw8827231203135449113:=()
noncomputable def tw14133013871872941522:=()
noncomputable def tw16473965238987246686:=()
noncomputable def tw9294333830409511709:=()
noncomputable def tw18302049709647285000:=()
noncomputable def tw815096946659318204:=()
noncomputable def tw17453666559829364979:=()
noncomputable def tw13736121286839391904:=()
noncomputable def tw3688136616201735373:=()
noncomputable def tw5883470833229691450:=()
noncomputable def tw13019108999157979739:=()
noncomputable def tw8153491620488124234:=()
noncomputable def tw17972983436189261956:=()
noncomputable def tw12013090351733208701:=()
noncomputable def tw4883998474149353258:=()
noncomputable def tw10110449067128206989:=()
noncomputable def tw7396484737609210919:=()
noncomputable def tw7285057784240441891:=()
noncomputable def tw10869836262246064046:=()
noncomputable def tw18378645303547438129:=()
noncomputable def tw2598668872857845397:=()
noncomputable def tw10150467585934082326:=()
noncomputable def tw17943563398137483786:=()
noncomputable def tw2137351501912621523:=()
noncomputable def tw7063007305109399117:=()
noncomputable def tw14330328898349326310:=()
noncomputable def tw2206339022645632901:=()
noncomputable def tw6466392758720270617:=()
noncomputable def tw9076127102787181221:=()
noncomputable def tw5787169050278825554:=()
noncomputable def tw7531694872791079711:=()
noncomputable def tw10921187489596201172:=()
noncomputable def tw4905086191087741048:=()
noncomputable def tw3334031686572297702:=()
noncomputable def tw4759978002430627406:=()
noncomputable def tw8036863793176991394:=()
noncomputable def tw3136191080403524210:=()
noncomputable def tw5168591434866491137:=()
noncomputable def tw16495252691981328161:=()
noncomputable def tw12564668495129840869:=()
noncomputable def tw8222432071354848972:=()
noncomputable def tw15539315885460734890:=()
noncomputable def tw1396243460382240699:=()
noncomputable def tw3210778537147502438:=()
noncomputable def tw12488234697318275183:=()
noncomputable def tw4425270419055628340:=()
noncomputable def tw827369174401343728:=()
noncomputable def tw14451090804606719534:=()
noncomputable def tw11978841743510294272:=()
noncomputable def tw18241221273102486552:=()
noncomputable def tw40192124174623014:=()
noncomputable def tw8101459107121566090:=()
noncomputable def tw7415492376121891730:=()
noncomputable def tw5683027108338418851:=()
noncomputable def tw8616840602051159542:=()
noncomputable def tw4011729011927022491:=()
noncomputable def tw7113288492393186001:=()
noncomputable def tw13439546005670600367:=()
noncomputable def tw594144501267612563:=()
noncomputable def tw17399989281970599421:=()
noncomputable def tw2732204514101821513:=()
noncomputable def tw16647252145501968671:=()
noncomputable def tw10321713660205112731:=()
noncomputable def tw13330883458040982577:=()
noncomputable def tw8207574471374857707:=()
noncomputable def tw16745601454934807064:=()
noncomputable def tw7116720105007630088:=()
noncomputable def tw15261560696799938329:=()
noncomputable def tw15794292032019514951:=()
noncomputable def tw2169042003846559294:=()
noncomputable def tw13273316125826280641:=()
noncomputable def tw15964158137940415459:=()
noncomputable def tw4768475469390304409:=()
noncomputable def tw17398241550459046829:=()
noncomputable def tw11331413009212680388:=()
noncomputable def tw13018448090472457242:=()
noncomputable def tw15550555806994250744:=()
noncomputable def tw9506101395701169:=()
noncomputable def tw8881214104468051508:=()
noncomputable def tw18383679023702357798:=()
noncomputable def tw10941366310290725692:=()
noncomputable def tw9980577001495334588:=()
noncomputable def tw8317041557007700281:=()
noncomputable def tw10425732541494160330:=()
noncomputable def tw8681679112958089030:=()
noncomputable def tw11408521356676374501:=()
noncomputable def tw2241107709862533789:=()
noncomputable def tw12606139101883058924:=()
noncomputable def tw2615136263132033364:=()
noncomputable def tw17895522480767520666:=()
noncomputable def tw14566881116736816185:=()
noncomputable def tw10626841888472140346:=()
noncomputable def tw1701886055740480684:=()
noncomputable def tw10368324002027738064:=()
noncomputable def tw16649977120154099425:=()
noncomputable def tw11411589375981264199:=()
noncomputable def tw10192082666586871314:=()
noncomputable def tw6170280793665003664:=()
noncomputable def tw11060337468862559433:=()
noncomputable def tw4859165738818097106:=()
noncomputable def tw16873671710430270290:=()
noncomputable def tw4893235783004271526:=()
noncomputable def tw11458032296467510602:=()
noncomputable def tw15080219983218171157:=()
noncomputable def tw12786160128202216495:=()
noncomputable def tw2250110889508349328:=()
noncomputable def tw15066370610367382379:=()
noncomputable def tw13265171812089111957:=()
noncomputable def tw112274926755735235:=()
noncomputable def tw12169749101020495417:=()
noncomputable def tw112630488832196896:=()
noncomputable def tw963662083324167595:=()
noncomputable def tw3862661400070173390:=()
noncomputable def tw15096721681551012395:=()
noncomputable def tw4249024577150326853:=()
noncomputable def tw113833007648592126:=()
noncomputable def tw14079149138015805600:=()
noncomputable def tw10372430270639589858:=()
noncomputable def tw1305600048057112879:=()
noncomputable def tw5756831617407984769:=()
noncomputable def tw12974433177616231486:=()
noncomputable def tw5054607571029430258:=()
noncomputable def tw9017909326195934367:=()
noncomputable def tw381687077207484173:=()
noncomputable def tw17241269533711142561:=()
noncomputable def tw9337573155804551427:=()
noncomputable def tw14836309704784283752:=()
noncomputable def tw12087616766040178838:=()
noncomputable def tw9718114425543472856:=()
noncomputable def tw11412269037567936880:=()
noncomputable def tw11162204062064006791:=()
noncomputable def tw11314309472072389935:=()
noncomputable def tw13338996038987469264:=()
noncomputable def tw7763177441799371393:=()
noncomputable def tw17345651546459255154:=()
noncomputable def tw471626386572524606:=()
noncomputable def tw14781478669308578237:=()
noncomputable def tw2194239029747844327:=()
noncomputable def tw2169877847370381880:=()
noncomputable def tw12502126983163914895:=()
noncomputable def tw14199332041566763724:=()
noncomputable def tw8997316627049385604:=()
noncomputable def tw12023806295549606447:=()
noncomputable def tw15544785974621702136:=()
noncomputable def tw3650449085285955816:=()
noncomputable def tw17999014772445713520:=()
noncomputable def tw181989821487059942:=()
noncomputable def tw16194644759846878402:=()
noncomputable def tw6980536338450366925:=()
noncomputable def tw6899297937452349644:=()
noncomputable def tw10221766831332051660:=()
noncomputable def tw3647972744841378077:=()
noncomputable def tw12506094185026799502:=()
noncomputable def tw15920672064934834923:=()
noncomputable def tw4399825972443115857:=()
noncomputable def tw15999819885195392683:=()
noncomputable def tw16981771888087527894:=()
noncomputable def tw7080903786544310264:=()
noncomputable def tw9152253822235172898:=()
noncomputable def tw3539556713174605496:=()
noncomputable def tw12688890991304291887:=()
noncomputable def tw5645534776750533862:=()
noncomputable def tw6377658322783690416:=()
noncomputable def tw12450079244062716060:=()
noncomputable def tw17964910854517905035:=()
noncomputable def tw13634651167146280333:=()
noncomputable def tw6286862912445008254:=()
noncomputable def tw12174904557825351116:=()
noncomputable def tw8535464998287935177:=()
noncomputable def tw13022976097223212431:=()
noncomputable def tw3944066449777675767:=()
noncomputable def tw5547027225701266280:=()
noncomputable def tw2488237394621268320:=()
noncomputable def tw2473587522578344632:=()
noncomputable def tw2330322530144916663:=()
noncomputable def tw15567890699148364784:=()
noncomputable def tw16597678108346190765:=()
noncomputable def tw11469786613533411405:=()
noncomputable def tw8376094203271606792:=()
noncomputable def tw18020393155735944443:=()
noncomputable def tw13285973676121356859:=()
noncomputable def tw9910394812659919539:=()
noncomputable def tw18080680813170884350:=()
noncomputable def tw6603268737184567980:=()
noncomputable def tw3851127738565444674:=()
noncomputable def tw16988838456033632587:=()
noncomputable def tw12234330634424048342:=()
noncomputable def tw14296706292079584351:=()
noncomputable def tw15760481689306341452:=()
noncomputable def tw7474529485997409208:=()
noncomputable def tw9326976664746211887:=()
noncomputable def tw18378277080686403921:=()
noncomputable def tw6031968121620282309:=()
noncomputable def tw9197433378670853526:=()
noncomputable def tw12101952062070491144:=()
noncomputable def tw15285891500794776912:=()
noncomputable def tw1861914846133623060:=()
noncomputable def tw16349056059542798374:=()
noncomputable def tw8436278394448972689:=()
noncomputable def tw9816008164186699152:=()
noncomputable def tw6417640153501764912:=()
noncomputable def tw2562894620022715397:=()
noncomputable def tw13064125986042563477:=()
noncomputable def tw18244728153941743244:=()
noncomputable def tw4661907456178785031:=()
noncomputable def tw12892085300827529242:=()
noncomputable def tw1398708716137157343:=()
noncomputable def tw10370758420177889921:=()
noncomputable def tw13193890663327797107:=()
noncomputable def tw13357632315046424011:=()
noncomputable def tw6179674742208618733:=()
noncomputable def tw5285535079722763598:=()
noncomputable def tw6174344398728796603:=()
noncomputable def tw16989682962287256775:=()
noncomputable def tw13499948180900261448:=()
noncomputable def tw6109006502837425333:=()
noncomputable def tw858848698564213260:=()
noncomputable def tw13754762225167628746:=()
noncomputable def tw6880150546038754236:=()
noncomputable def tw16430661210183942539:=()
noncomputable def tw11980934272581069487:=()
noncomputable def tw15439757765750063050:=()
noncomputable def tw6019499410237560230:=()
noncomputable def tw15504011555803173459:=()
noncomputable def tw4625108422150967169:=()
noncomputable def tw13109145182625438424:=()
noncomputable def tw9094774275734758551:=()
noncomputable def tw4808186757528728253:=()
noncomputable def tw16128148959781044747:=()
noncomputable def tw16664332943320862677:=()
noncomputable def tw2280925687117195956:=()
noncomputable def tw7319538551534344396:=()
noncomputable def tw4152574137159020705:=()
noncomputable def tw2904237327240966936:=()
noncomputable def tw7040175823876717712:=()
noncomputable def tw10261157208248878915:=()
noncomputable def tw10711221557830963444:=()
noncomputable def tw17344501514870881826:=()
noncomputable def tw1048541996811642278:=()
noncomputable def tw3269430351863285353:=()
noncomputable def tw17059095739608137040:=()
noncomputable def tw15307631198734239064:=()
noncomputable def tw18195236389539174705:=()
noncomputable def tw8775335950561468905:=()
noncomputable def tw4246441056785789508:=()
noncomputable def tw2588646693493746279:=()
noncomputable def tw14065524092787900643:=()
noncomputable def tw13503628169529005443:=()
noncomputable def tw2673221827066726109:=()
noncomputable def tw702738726644713132:=()
noncomputable def tw13934262465449911597:=()
noncomputable def tw17075074358001554293:=()
noncomputable def tw17341422562627106406:=()
noncomputable def tw9168663127127876049:=()
noncomputable def tw2010488719458476192:=()
noncomputable def tw833070292206823022:=()
noncomputable def tw11503451376404001498:=()
noncomputable def tw1174794482172167006:=()
noncomputable def tw9974158845793535799:=()
noncomputable def tw15798066798232681736:=()
noncomputable def tw4083073786177338749:=()
noncomputable def tw5872934202158230439:=()
noncomputable def tw18179859406416067648:=()
noncomputable def tw2623216543393236019:=()
noncomputable def tw16587269740893342409:=()
noncomputable def tw14001390226136295519:=()
noncomputable def tw16648226260225382390:=()
noncomputable def tw4411874203981964364:=()
noncomputable def tw15215858507315792148:=()
noncomputable def tw13935676636454535033:=()
noncomputable def tw10479673642596482570:=()
noncomputable def tw12071983486725452357:=()
noncomputable def tw15286638924961693783:=()
noncomputable def tw12997895561884033405:=()
noncomputable def tw10767152371553233720:=()
noncomputable def tw16170723606498939551:=()
noncomputable def tw40483524884905738:=()
noncomputable def tw12074363267476300982:=()
noncomputable def tw3532293428502877839:=()
noncomputable def tw8417364609204848183:=()
noncomputable def tw17407830954590701362:=()
noncomputable def tw3889749740129089489:=()
noncomputable def tw1878814597494873748:=()
noncomputable def tw4428509971298687408:=()
noncomputable def tw16868160280987394489:=()
noncomputable def tw350473206447011496:=()
noncomputable def tw8422552885169821795:=()
noncomputable def tw14629922686706427224:=()
noncomputable def tw13644799780037104051:=()
noncomputable def tw8430734339432919978:=()
noncomputable def tw13520864479400255332:=()
noncomputable def tw2151440354019137772:=()
noncomputable def tw8468621033129870176:=()
noncomputable def tw10971062742668299649:=()
end PySem.W.Fast
open PySem PySem.W PyProof.Rows
set_option maxRecDepth 100000 in
set_option maxHeartbeats 0 in
theorem PySem.Challenge.cw_rimsteps_k62_rounds_that_stay_holds : PySem.Challenge.rw_rimsteps_k62_rounds_that_stay.Holds := by
 w_on;o_law;k_head;(case hw=>w_witness2)
 k_fill
 refine RR.walk (l:=PySem.Challenge.rw_rimsteps_k62_rounds_that_stay) rfl rfl (λw h Y=>W.kIn_of Y) ?F
 case F =>
  intro w mg fa h KX G hmg
  refine' RR.all_mk KX G hmg (.mk ?a0 ?l0 ?c0 ?k0) (.mk ?a1 ?l1 ?c1 ?k1) (.mk ?a2 ?l2 ?c2 ?k2) (.mk ?a3 ?l3 ?c3 ?k3) (.mk ?a4 ?l4 ?c4 ?k4) (.mk ?a5 ?l5 ?c5 ?k5) (.mk ?a6 ?l6 ?c6 ?k6) (.mk ?a7 ?l7 ?c7 ?k7) (.mk ?a8 ?l8 ?c8 ?k8) (.mk ?a9 ?l9 ?c9 ?k9) (.mk ?a10 ?l10 ?c10 ?k10) (.mk ?a11 ?l11 ?c11 ?k11) (.mk ?a12 ?l12 ?c12 ?k12) (.mk ?a13 ?l13 ?c13 ?k13) (.mk ?a14 ?l14 ?c14 ?k14) (.mk ?a15 ?l15 ?c15 ?k15) (.mk ?a16 ?l16 ?c16 ?k16) (.mk ?a17 ?l17 ?c17 ?k17) (.mk ?a18 ?l18 ?c18 ?k18) (.mk ?a19 ?l19 ?c19 ?k19) (.mk ?a20 ?l20 ?c20 ?k20) (.mk ?a21 ?l21 ?c21 ?k21) (.mk ?a22 ?l22 ?c22 ?k22) (.mk ?a23 ?l23 ?c23 ?k23) (.mk ?a24 ?l24 ?c24 ?k24) (.mk ?a25 ?l25 ?c25 ?k25) (.mk ?a26 ?l26 ?c26 ?k26) (.mk ?a27 ?l27 ?c27 ?k27) (.mk ?a28 ?l28 ?c28 ?k28) (.mk ?a29 ?l29 ?c29 ?k29) (.mk ?a30 ?l30 ?c30 ?k30) (.mk ?a31 ?l31 ?c31 ?k31) (.mk ?a32 ?l32 ?c32 ?k32) (.mk ?a33 ?l33 ?c33 ?k33) (.mk ?a34 ?l34 ?c34 ?k34) (.mk ?a35 ?l35 ?c35 ?k35) (.mk ?a36 ?l36 ?c36 ?k36) (.mk ?a37 ?l37 ?c37 ?k37) (.mk ?a38 ?l38 ?c38 ?k38) (.mk ?a39 ?l39 ?c39 ?k39) (.mk ?a40 ?l40 ?c40 ?k40) (.mk ?a41 ?l41 ?c41 ?k41) (.mk ?a42 ?l42 ?c42 ?k42) (.mk ?a43 ?l43 ?c43 ?k43) (.mk ?a44 ?l44 ?c44 ?k44) (.mk ?a45 ?l45 ?c45 ?k45) (.mk ?a46 ?l46 ?c46 ?k46) (.mk ?a47 ?l47 ?c47 ?k47) (.mk ?a48 ?l48 ?c48 ?k48) ?a49 ?l49 ?c49 ?k49 ?aM ?lM ?x0 ?x1 ?x2 ?x3 ?x4 ?x5 ?x6 ?x7 ?aB ?lB ?aB2 ?lB2 ?z_abs ?z_max ?z_any ?z_range ?z_len ?z_min ?z_sorted ?z_tuple ?z_int ?z_bool ?z_str ?z_all ?z_isinstance ?z_list ?z_sum ?z_enumerate ?z_zip
  (case a0=>k_is)
  (case l0=>k_is)
  (case c0=>k_is)
  (case k0=>k_is)
  (case a1=>k_is)
  (case l1=>k_is)
  (case c1=>k_is)
  (case k1=>k_is)
  (case a2=>k_is)
  (case l2=>k_is)
  (case c2=>k_is)
  (case k2=>k_is)
  (case a3=>k_is)
  (case l3=>k_is)
  (case c3=>k_is)
  (case k3=>k_is)
  (case a4=>k_is)
  (case l4=>k_is)
  (case c4=>k_is)
  (case k4=>k_is)
  (case a5=>k_is)
  (case l5=>k_is)
  (case c5=>k_is)
  (case k5=>k_is)
  (case a6=>k_is)
  (case l6=>k_is)
  (case c6=>k_is)
  (case k6=>k_is)
  (case a7=>k_is)
  (case l7=>k_is)
  (case c7=>k_is)
  (case k7=>k_is)
  (case a8=>k_is)
  (case l8=>k_is)
  (case c8=>k_is)
  (case k8=>k_is)
  (case a9=>k_is)
  (case l9=>k_is)
  (case c9=>k_is)
  (case k9=>k_is)
  (case a10=>k_is)
  (case l10=>k_is)
  (case c10=>k_is)
  (case k10=>k_is)
  (case a11=>k_is)
  (case l11=>k_is)
  (case c11=>k_is)
  (case k11=>k_is)
  (case a12=>k_is)
  (case l12=>k_is)
  (case c12=>k_is)
  (case k12=>k_is)
  (case a13=>k_is)
  (case l13=>k_is)
  (case c13=>k_is)
  (case k13=>k_is)
  (case a14=>k_is)
  (case l14=>k_is)
  (case c14=>k_is)
  (case k14=>k_is)
  (case a15=>k_is)
  (case l15=>k_is)
  (case c15=>k_is)
  (case k15=>k_is)
  (case a16=>k_is)
  (case l16=>k_is)
  (case c16=>k_is)
  (case k16=>k_is)
  (case a17=>k_is)
  (case l17=>k_is)
  (case c17=>k_is)
  (case k17=>k_is)
  (case a18=>k_is)
  (case l18=>k_is)
  (case c18=>k_is)
  (case k18=>k_is)
  (case a19=>k_is)
  (case l19=>k_is)
  (case c19=>k_is)
  (case k19=>k_is)
  (case a20=>k_is)
  (case l20=>k_is)
  (case c20=>k_is)
  (case k20=>k_is)
  (case a21=>k_is)
  (case l21=>k_is)
  (case c21=>k_is)
  (case k21=>k_is)
  (case a22=>k_is)
  (case l22=>k_is)
  (case c22=>k_is)
  (case k22=>k_is)
  (case a23=>k_is)
  (case l23=>k_is)
  (case c23=>k_is)
  (case k23=>k_is)
  (case a24=>k_is)
  (case l24=>k_is)
  (case c24=>k_is)
  (case k24=>k_is)
  (case a25=>k_is)
  (case l25=>k_is)
  (case c25=>k_is)
  (case k25=>k_is)
  (case a26=>k_is)
  (case l26=>k_is)
  (case c26=>k_is)
  (case k26=>k_is)
  (case a27=>k_is)
  (case l27=>k_is)
  (case c27=>k_is)
  (case k27=>k_is)
  (case a28=>k_is)
  (case l28=>k_is)
  (case c28=>k_is)
  (case k28=>k_is)
  (case a29=>k_is)
  (case l29=>k_is)
  (case c29=>k_is)
  (case k29=>k_is)
  (case a30=>k_is)
  (case l30=>k_is)
  (case c30=>k_is)
  (case k30=>k_is)
  (case a31=>k_is)
  (case l31=>k_is)
  (case c31=>k_is)
  (case k31=>k_is)
  (case a32=>k_is)
  (case l32=>k_is)
  (case c32=>k_is)
  (case k32=>k_is)
  (case a33=>k_is)
  (case l33=>k_is)
  (case c33=>k_is)
  (case k33=>k_is)
  (case a34=>k_is)
  (case l34=>k_is)
  (case c34=>k_is)
  (case k34=>k_is)
  (case a35=>k_is)
  (case l35=>k_is)
  (case c35=>k_is)
  (case k35=>k_is)
  (case a36=>k_is)
  (case l36=>k_is)
  (case c36=>k_is)
  (case k36=>k_is)
  (case a37=>k_is)
  (case l37=>k_is)
  (case c37=>k_is)
  (case k37=>k_is)
  (case a38=>k_is)
  (case l38=>k_is)
  (case c38=>k_is)
  (case k38=>k_is)
  (case a39=>k_is)
  (case l39=>k_is)
  (case c39=>k_is)
  (case k39=>k_is)
  (case a40=>k_is)
  (case l40=>k_is)
  (case c40=>k_is)
  (case k40=>k_is)
  (case a41=>k_is)
  (case l41=>k_is)
  (case c41=>k_is)
  (case k41=>k_is)
  (case a42=>k_is)
  (case l42=>k_is)
  (case c42=>k_is)
  (case k42=>k_is)
  (case a43=>k_is)
  (case l43=>k_is)
  (case c43=>k_is)
  (case k43=>k_is)
  (case a44=>k_is)
  (case l44=>k_is)
  (case c44=>k_is)
  (case k44=>k_is)
  (case a45=>k_is)
  (case l45=>k_is)
  (case c45=>k_is)
  (case k45=>k_is)
  (case a46=>k_is)
  (case l46=>k_is)
  (case c46=>k_is)
  (case k46=>k_is)
  (case a47=>k_is)
  (case l47=>k_is)
  (case c47=>k_is)
  (case k47=>k_is)
  (case a48=>k_is)
  (case l48=>k_is)
  (case c48=>k_is)
  (case k48=>k_is)
  (case a49=>k_is)
  (case l49=>k_is)
  (case c49=>k_is)
  (case k49=>k_is)
  (case aM=>k_is)
  (case lM=>k_is)
  (case x0=>k_is)
  (case x1=>k_is)
  (case x2=>k_is)
  (case x3=>k_is)
  (case x4=>k_is)
  (case x5=>k_is)
  (case x6=>k_is)
  (case x7=>k_is)
  (case aB=>k_is)
  (case lB=>k_is)
  (case aB2=>k_is)
  (case lB2=>k_is)
  (case z_abs=>k_is)
  (case z_max=>k_is)
  (case z_any=>k_is)
  (case z_range=>k_is)
  (case z_len=>k_is)
  (case z_min=>k_is)
  (case z_sorted=>k_is)
  (case z_tuple=>k_is)
  (case z_int=>k_is)
  (case z_bool=>k_is)
  (case z_str=>k_is)
  (case z_all=>k_is)
  (case z_isinstance=>k_is)
  (case z_list=>k_is)
  (case z_sum=>k_is)
  (case z_enumerate=>k_is)
  (case z_zip=>k_is)

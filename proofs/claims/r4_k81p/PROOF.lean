import PyProof.Rows.All
import Wide.All
import OpenK.AllK
import Wide.FinOn
import Lean
import PyProof.EqAt
import PyProof.EqKinds
import PyProof.TupleCall
import PySem.Challenge.RW_rimsteps_k81_whole_texts_read_back
set_option Elab.async false
set_option linter.all false
set_option maxRecDepth 100000
open PySem.Str renaming ofString → Aa,join → Cc
open List renaming getElem?_eq_getElem → Ab,replicate → Ac,getElem?_eq_some_iff → Ae,length_map → Ag,getElem?_append_left → Aj,length_append → Am,mem_of_getElem? → An,mem_singleton → Ao,map_append → Aq,getElem?_append_right → Ar,size_toArray → As,mem_append_right → At,getElem?_map → Ay,mem_append → Az,length_take → AA,append_assoc → AB,mem_map → AG,mem_cons → AI,mem_cons_of_mem → AK,take_length → AL,mem_cons_self → AM,length_replicate → AR,pairwise_append → AW,set_cons_succ → AY,set_cons_zero → AZ,getElem_of_mem → A6,length_cons → A9,getD_eq_getElem?_getD → Be,replicate_succ → Bh,flatten_cons → Bi,map_cons → Bj,append_nil → Bk,range → Bq,mem_append_left → Bt,take_of_length_le → Bx,mem_of_mem_drop → By,lookup_cons → Bz,getElem_mem → BA,length_filter_le → BK,mem_of_mem_take → BM,extract_eq_take_drop → BZ,length_eq_zero_iff → Cb,mem_range → Ce,take_sublist → Cf,length_range → Ck,take_append_drop → Cq,filterMap_map → Ct,not_mem_nil → Cw,sum_cons → CD,replicate_succ' → CK,drop_sublist → CL,find?_cons → CN,length_drop → CW,length_singleton → C5,perm_append_comm → C6,nodup_cons → Db,getElem?_inj → Dh,length_filterMap_le → Dm,length_reverse → Do,getElem?_replicate → Dp,drop_zero → Dr,length_pos_of_mem → Dw,take_succ → DT,filter → DV,drop_eq_getElem_cons → D1,pairwise_iff_getElem → D2,map_eq_nil_iff → D6,flatten_append → D7,map_drop → Ee,map_take → Ef,length_nil → Ej,nil_append → Ek,sum_append → En,getElem?_drop → Et,filter_append → Ew,mem_replicate → Ex,length → Ez,mem_filter → EB
open PySem renaming wpAny_bind → Ad,Shared → Af,wpAny_pure → Ak,wpAny → Aw,model → AE,Program → AF,mainGlobals → AH,Around → AS,World → A7,wpAny_holding → Br,starEach → Bw,Spec → BB,wpAny_newObj_type → BG,FuncData → BI,wpAny_loadPart' → BP,wpAny_mono → BR,foldedSetIterable → BU,compareOp → BX,wpAny_truthy_bool → B4,call_meets → Cg,wpAny_tryCatch → Cj,sysModules → Cr,wpAny_Call_Name_kw → Cs,wpAny_typeNameOfWhole_keyiter → CJ,assignEach → CM,binaryOp → CO,mem_of_lookup → CP,keywordEach → CV,wpAny_getItem_of → CY,codeAny → C4,wpAny_passesOwn → C9,letOwnedTupleGo → Da,plainId_quiet → Dk,wpAny_rule → Dl,wpAny_callSpecial?_slot → Dq,wpAny_letGo → Ds,compEnvC → DC,codeAny_builtin → DD,wpAny_updateSeq → DE,wpAny_standAt → DH,wpAny_pyIter_list → DM,rawInt → DO,wpAny_seqItems → DR,codeAny_mono → DW,wpAny_call_entry → DY,wpAny_binaryOp_repeat_ref → D0,bindArgs → D9,backToKw → Ea,wpAny_comprehension_free → Ec,tupleKind_room_in1 → Ep,typeIs_str → Er,Model → Ey,sliceBounds → EA
open PySem.Heap renaming get?_push_of_some → Ah,get?_push_size → AC,lt_size → AD,SameBut → CQ,get?_update_other → Dt
open Nat renaming le_refl → Ai,lt_of_lt_of_le → AJ,zero_le → AT,le_trans → AV,ne_of_lt → A3,lt_or_ge → Bl,le_of_lt → BD,mod_lt → Cv,le_succ → CG,zero_add → CT,lt_irrefl → CU,ne_of_gt → Dc,eq_zero_or_pos → Dv,lt_trans → DX,lt_of_le_of_lt → Es
open PyProof.Rows renaming wpS_bind → Ap,wpS_pure → Av,arrOf → Ax,SortSt → AQ,pendingOf → AU,wpS_forRange → BE,seqObj → BH,slot_tuple_getitem → BJ,getElem?_mirror_all → BQ,wpS_modify → BS,toString_length_le → Co,wpS_mono → Cp,failedOf → CH,SortKind → CZ,mem_join → DK,callWith_type1 → DN,get?_update_seq → El,wpS_get → Em
open PySem.Value renaming ref → Au,none → BY,int → DG,bool → Eo
open Array renaming length_toList → AN,toList_append → Bp,getElem?_toList → Bv,getElem?_eq_some_iff → BC,getElem?_eq_getElem → B3,size_extract → Cu,toList_extract → CI,toList_push → Dg
open PySem.F renaming plainAttrs_list → AO,slot_list_append → A4,type_list_append → A5,plain_min_loop → Ba,plainAttrs_str → Bf,slot_str_join → B5,type_str_join → B6,slot_dict_keyiterator_next → B9,entry_min_loop → Ci,slot_int_rmul → DB,slot_dict_getitem → D3,args_dict_keyiterator_next_1 → D5,entry_dict_keyiterator_next → Ed,slot_list_extend → Eg,type_list_extend → Eh,args_tuple_mul_2 → Eu,slot_int_index → EC
open Bool renaming false_ne_true → AX,and_eq_true → Bo,false_eq_true → BO,eq_false_iff → Cm,eq_iff_iff → Ei
open Option.some renaming inj → A0
open PySem.Obj renaming mapSeq → A8
open Option renaming map_eq_some_iff → Bb,map_some → Dz
open PySem.PyData renaming keyHash → Bc,canLayAll0 → Dd,depth → De,int → Du,eqv → DQ
open PySem.NumText renaming digitsVal → Bd,AllDigits → BW
open ToString renaming toString → Bg
open PySem.PassesOwn renaming never → Bs
open PySem.Txt renaming join → Bu,partition → Cd,split → Cy,startswith → DU
open PySem.NameKind renaming free → BF,cell → DJ
open PySem.Heap.SameBut renaming update → BL
open False renaming elim → BN
open Int renaming toNat_natCast → BV,emod_lt_of_pos → C3,zero_add → Dy,emod_nonneg → DF,sub_add_cancel → Ev
open PySem.Builtin.Tuple renaming tupleExact → B7,tupleTooMany → C1
open PySem.W renaming mg_none_of → B8,nsIn → Cn,mg_of → CC,codeHdIn → Dx,kia_one → DI,keepIn → DP,kas_item → DS,fnOf → D4
open PySem.Builtin.Str renaming occurrences → Ca
open PySem.SeqAt renaming shaped → Ch
open Ne renaming symm → Cz
open PySem.AutoSeq1 renaming sub_tuple_tuple → CA
open Lean renaming maxHeartbeats → CB
open PySem.Around renaming under_plainId → CF
open PySem.Builtin.Builtins renaming bindParams → CS
open Break.runK renaming match_1 → C0
open PySem.StrLaws renaming glued_eq_join → C7
open PySem.Builtin.Slice renaming slicePlaces → C8,sliceAdjust → DZ
open True renaming intro → Di
open PySem.Builtin.List renaming listTooLong → Dj
open Sum renaming inl → DL
open PySem.Paired renaming length → D8
open Prod renaming ext → Eb
namespace L2
open PySem PySem.Spec PyProof.Rows
noncomputable abbrev Key:=Sum Int Str
noncomputable def keyIs:Key->Value->Bool
 |.inl k,v=>Value.isInt k v
 |.inr x,v=>Value.isStrOf x v
noncomputable def keyH(w:A7):Key->Int
 |.inl k=>hashInt k
 |.inr x=>hashStr w x
theorem zaZ:∀{k:Key}{v:Value},keyIs k v=true->(∃i t,k=DL i/\v=DG i t)∨(∃x t,k=Sum.inr x/\v=Value.str x t)
 |.inl i,v,h=>by
  obtain⟨t,e⟩:=Value.isInt_shape (k:=i) (v:=v) h;exact .inl ⟨i,t,rfl,e⟩
 |.inr x,v,h=>by
  obtain⟨t,e⟩:=Value.isStrOf_shape (x:=x) (v:=v) h;exact .inr ⟨x,t,rfl,e⟩
theorem zkW(i:Int)(t:Tok):keyIs (.inl i) (.int i t)=true:=by simp[keyIs,Value.isInt]
theorem zkV(x:Str)(t:Tok):keyIs (.inr x) (.str x t)=true:=by simp[keyIs,Value.isStrOf]
theorem zon(a b:Int):decide ((DL a:Key)=DL b)=(a == b):=by
 by_cases e:a=b
 .subst e;simp
 .have h:¬ (DL a:Key)=DL b:=λq=>e (Sum.inl.inj q)
  rw[decide_eq_false h];exact (beq_eq_false_iff_ne.mpr e).symm
theorem zok(a b:Str):decide ((Sum.inr a:Key)=Sum.inr b)=decide (a=b):=by
 by_cases e:a=b
 .subst e;simp
 .have h:¬ (Sum.inr a:Key)=Sum.inr b:=λq=>e (Sum.inr.inj q)
  rw[decide_eq_false h,decide_eq_false e]
theorem zom(a:Int)(b:Str):decide ((DL a:Key)=Sum.inr b)=false:=decide_eq_false (λq=>nomatch q)
theorem zol(a:Str)(b:Int):decide ((Sum.inr a:Key)=DL b)=false:=decide_eq_false (λq=>nomatch q)
noncomputable def zaD(prog:AF)(w:A7):PySem.KeyKind prog w Key where
 is:=keyIs
 hash:=keyH w
 inj:=λv a b ha hb=>by
  rcases zaZ ha with⟨i,t,rfl,rfl⟩ |⟨x,t,rfl,rfl⟩
  .rcases zaZ hb with⟨j,u,rfl,e⟩ |⟨y,u,rfl,e⟩
   .injection e with e1 _;rw[e1]
   .exact nomatch e
  .rcases zaZ hb with⟨j,u,rfl,e⟩ |⟨y,u,rfl,e⟩
   .exact nomatch e
   .injection e with e1 _;rw[e1]
 byValue:=λk v h=>by rcases zaZ h with⟨i,t,rfl,rfl⟩ |⟨x,t,rfl,rfl⟩ <;> rfl
 pyHash:=λhv h=>by
  rcases zaZ hv with⟨i,t,rfl,rfl⟩ |⟨x,t,rfl,rfl⟩
  .exact wpAny_pyHash_int h
  .exact wpAny_pyHash_str h
 eqBool:=λhu hv h=>by
  rcases zaZ hu with⟨i,t,rfl,rfl⟩ |⟨x,t,rfl,rfl⟩
  .rcases zaZ hv with⟨j,u,rfl,rfl⟩ |⟨y,u,rfl,rfl⟩
   .rw[zon]at h;exact wpAny_eqBool_int h
   .rw[zom]at h;exact SeqAt.EqAt.int_str i t y u _ _ _ _ h
  .rcases zaZ hv with⟨j,u,rfl,rfl⟩ |⟨y,u,rfl,rfl⟩
   .rw[zol]at h;exact SeqAt.EqAt.str_int x t j u _ _ _ _ h
   .rw[zok]at h;exact wpAny_eqBool_str h
 «strs»:=λk x t v h=>by
  rcases zaZ h with⟨i,u,rfl,e⟩ |⟨y,u,rfl,e⟩
  .exact nomatch e
  .injection e with e1 _;subst e1
   cases v <;> rfl
theorem zjx(prog:AF)(w:A7)(k:Key)(v:Value):(zaD prog w).is k v=keyIs k v:=rfl
theorem zhX(prog:AF)(w:A7)(i:Int)(t:Tok):(zaD prog w).is (.inl i) (.int i t)=true:=zkW i t
theorem zaN(prog:AF)(w:A7)(x:Str)(t:Tok):(zaD prog w).is (.inr x) (.str x t)=true:=zkV x t
inductive V where
 |non |bl (b:Bool) |int (i:Int) |str (x:Str) |byt (b:Array UInt8) |flt (b:UInt64) |ref (a:Addr) |ty (n:String)
 deriving DecidableEq
noncomputable def RelV:V->Value->Prop
 |.non,u=>u=BY
 |.bl b,u=>u=Eo b
 |.int i,u=>∃t,u=DG i t
 |.str x,u=>∃t,u=Value.str x t
 |.byt b,u=>∃t,u=Value.bytes b t
 |.flt b,u=>∃t,u=Value.float b t
 |.ref a,u=>u=Au a
 |.ty n,u=>u=Value.type n
noncomputable abbrev Vals:List V->List Value->Prop:=Paired RelV
theorem Vals.length{xs:List V}{us:List Value}(r:Vals xs us):xs.length=us.length:=D8 r
theorem Vals.get:∀{xs:List V}{us:List Value}{i:Nat}{x:V},Vals xs us->xs[i]?=some x->∃u,us[i]?=some u/\RelV x u
 |_,_,_,_,.nil,e=>by simp at e
 |_,_,0,_,.cons r _,e=>by simp at e;subst e;exact⟨_,rfl,r⟩
 |_,_,i+1,x,.cons _ t,e=>by
  obtain⟨u,h1,h2⟩:=Vals.get (i:=i) (x:=x) t (by simpa using e);exact⟨u,by simpa using h1,h2⟩
theorem Vals.set{x:V}{u:Value}(r:RelV x u):∀{xs:List V}{us:List Value}(i:Nat),Vals xs us->Vals (xs.set i x) (us.set i u)
 |_,_,_,.nil=>.nil
 |_,_,0,.cons _ t=>.cons r t
 |_,_,i+1,.cons q t=>.cons q (Vals.set r i t)
theorem Vals.append:∀{xs ys:List V}{us ws:List Value},Vals xs us->Vals ys ws->Vals (xs++ys) (us++ws)
 |_,_,_,_,.nil,s=>s
 |_,_,_,_,.cons r t,s=>.cons r (Vals.append t s)
theorem Vals.take:∀{xs:List V}{us:List Value}(n:Nat),Vals xs us->Vals (xs.take n) (us.take n)
 |_,_,0,_=>.nil
 |_,_,_+1,.nil=>.nil
 |_,_,n+1,.cons r t=>.cons r (Vals.take n t)
theorem Vals.drop:∀{xs:List V}{us:List Value}(n:Nat),Vals xs us->Vals (xs.drop n) (us.drop n)
 |_,_,0,r=>r
 |_,_,_+1,.nil=>.nil
 |_,_,n+1,.cons _ t=>Vals.drop n t
noncomputable def RelO:Option V->Option Value->Prop
 |some v,some u=>RelV v u
 |none,none=>True
 |_,_=>False
noncomputable def KV{κ:Type}:List (κ×V)->List (κ×Value)->Prop:=Paired λ(p:κ×V) (q:κ×Value)=>p.1=q.1/\RelV p.2 q.2
noncomputable def kV:Key->V
 |.inl i=>.int i
 |.inr x=>.str x
inductive HO where
 /-- a list -/
 |lst (xs:List V)
 /-- a tuple (never changes) -/
 |tup (xs:List V)
 /-- a dict whose keys are ints and texts;one whose keys are tuples of ints and texts (the empty one is both) -/
 |dK (kvs:List (Key×V)) |dT (kvs:List (List Key×V))
 /-- a set of ints: its members,its size -/
 |set (S:Int->Bool) (n:Nat)
 /-- an instance of the class at C,its dict at dx,its attributes -/
 |ins (C dx:Addr) (fs:List (Str×V))
 /-- the dict of the instance at x -/
 |own (x:Addr)
 /-- the dict of an exception -/
 |xd (fs:List (Str×V))
 /-- a bound method,f of x -/
 |met (f x:Addr)
 /-- a range object lo,lo+1,.. below hi -/
 |rng (lo hi:Int)
 /-- a thing that is known to the object (the script;a dict while a loop walks it): read,never written while it is so -/
 |frz (o:Obj) (u:HO)
 /-- a code object's table -/
 |tbl (ps:Array Value)
 /-- any other thing,by what is true of its one object (a def of one's own: SetO a S n:=HO.ext λh=>..) -/
 |ext (φ:Heap->Prop)
noncomputable abbrev Hp:=Addr->Option HO
noncomputable def upd(H:Hp)(a:Addr)(o:HO):Hp:=λb=>if b=a then some o else H b
theorem zaa{H:Hp}{a:Addr}{o:HO}:upd H a o a=some o:=by unfold upd;rw[if_pos rfl]
theorem zai{H:Hp}{a b:Addr}{o:HO}(h:b≠a):upd H a o b=H b:=by unfold upd;rw[if_neg h]
theorem ne_of{H:Hp}{a b:Addr}{o u:HO}(h:H a=some o)(h':H b=some u)(d:o≠u):a≠b:=by intro e;subst e;rw[h]at h';exact d (A0 h')
theorem zal{H:Hp}{a b:Addr}{o:HO}(h:H a=some o)(h':H b=none):a≠b:=by intro e;subst e;rw[h]at h';cases h'
section
variable (P:AF) (w:A7)
noncomputable def ObjOk(H:Hp)(h:Heap)(a:Addr):HO->Prop
  |.lst xs=>xs.length<=sizeLine/\∃(its:List Value) (n:Nat),Vals xs its/\h.get? a=some { cls:=.type "list",data:=.seq its.toArray n }
  |.tup xs=>xs.length<=sizeLine/\∃its:List Value,Vals xs its/\IsTup h a its.toArray
  |.dK kvs=>kvs.length<=sizeLine/\(a == Cr)=false/\∃vs,KV kvs vs/\h.DictOf (zaD P w) a vs
  |.dT kvs => kvs.length <= sizeLine /\ (a == Cr)=false /\ ∃xs:List (List Key × Addr × Value),
      Paired (λ(p:List Key×V) (q:List Key×Addr×Value)=>p.1=q.1/\H q.2.1=some (.tup (p.1.map kV))/\RelV p.2 q.2.2) kvs xs /\
      ∃o es ep,h.get? a=some o/\o.ExactDict/\o.data=.dict es ep/\es.toList=xs.map (entryOfKey (tupleKind (zaD P w)))/\(xs.map (·.1)).Nodup
  |.set S n=>h.SetOf (intKind P w) a S n
  |.ins C dx fs => H dx=some (.own a) /\ fs.length <= 1000 /\ dx ≠ a /\ h.get? a=some (W.instObj C dx) /\
      ∃mA,h.Ns1 dx mA/\(∀f,RelO (fs.lookup f) (mA f))/\PySem.Within mA (fs.map (·.1))
  |.own _=>∃o,h.get? a=some o
  |.xd fs=>∃mA,h.Ns1 a mA/\∀f,RelO (fs.lookup f) (mA f)
  |.rng lo hi=>∃t u v,h.get? a=some { cls:=.type "range",data:=.fields #[.int lo t,.int hi u,.int 1 v] }
  |.frz o u=>h.get? a=some o/\ObjOk H h a u
  |.tbl ps=>h.get? a=some { cls:=.none,data:=.fields ps }
  |.met f x=>h.get? a=some (W.methodObj (.ref f) (.ref x))
  |.ext φ=>φ h/\(∃o,h.get? a=some o)/\∀h1 h2:Heap,φ h1->(∀o,h1.get? a=some o->h2.get? a=some o)->φ h2
noncomputable def HOk(H:Hp)(h:Heap):Prop:=∀a o,H a=some o->ObjOk P w H h a o
end
section
variable {P:AF}{w:A7}{H H':Hp}{h h':Heap}{a:Addr}{o:HO}
theorem ObjOk.lt(x:ObjOk P w H h a o):a<h.objs.size:=by
 cases o with
 |lst xs=>obtain⟨_,_,_,_,e⟩:=x;exact AD e
 |tup xs=>obtain⟨_,_,_,p⟩:=x;exact p.lt
 |dK kvs=>obtain⟨_,_,_,_,o,_,_,e,_⟩:=x;exact AD e
 |dT kvs=>obtain⟨_,_,_,_,o,_,_,e,_⟩:=x;exact AD e
 |set S n=>obtain⟨o,_,_,_,e,_⟩:=x;exact AD e
 |ins C dx fs=>obtain⟨_,_,_,e,_⟩:=x;exact AD e
 |own y=>obtain⟨_,e⟩:=x;exact AD e
 |xd fs=>obtain⟨_,⟨_,_,_,e,_⟩,_⟩:=x;exact AD e
 |rng lo hi=>obtain⟨_,_,_,e⟩:=x;exact AD e
 |frz ob u=>obtain⟨e,_⟩:=x;exact AD e
 |tbl ps=>exact AD (show h.get? a=some _ from x)
 |met f y=>exact AD (show h.get? a=some _ from x)
 |ext φ=>obtain⟨_,⟨_,e⟩,_⟩:=x;exact AD e
theorem Paired.mapP{α β:Type}{F G:α->β->Prop}:∀{l₁:List α}{l₂:List β},Paired F l₁ l₂->(∀a b,F a b->G a b)->Paired G l₁ l₂
 |_,_,.nil,_=>.nil
 |_,_,.cons r t,f=>.cons (f _ _ r) (Paired.mapP t f)
theorem ObjOk.stay(x:ObjOk P w H h a o)(k:∀b u, (b=a ∨ H b=some (.own a)) -> h.get? b=some u -> h'.get? b=some u)
  (ho:∀b,H b=some (.own a)->H' b=some (.own a)) (ht:∀b xs,H b=some (.tup xs)->H' b=some (.tup xs)):ObjOk P w H' h' a o:=by
 induction o with
 |lst xs=>obtain⟨z,its,n,r,e⟩:=x;exact⟨z,its,n,r,k _ _ (.inl rfl) e⟩
 |tup xs=>obtain⟨z,its,r,ob,e,c⟩:=x;exact⟨z,its,r,ob,k _ _ (.inl rfl) e,c⟩
 |dK kvs=>obtain⟨z,y,vs,r,ob,es,ep,e,c⟩:=x;exact⟨z,y,vs,r,ob,es,ep,k _ _ (.inl rfl) e,c⟩
 |dT kvs =>
  obtain⟨z,y,xs,r,ob,es,ep,e,c⟩:=x;exact⟨z,y,xs,Paired.mapP r λp q z=>⟨z.1,ht _ _ z.2.1,z.2.2⟩,ob,es,ep,k _ _ (.inl rfl) e,c⟩
 |set S n=>obtain⟨ob,es,ep,t,e,c⟩:=x;exact⟨ob,es,ep,t,k _ _ (.inl rfl) e,c⟩
 |ins C dx fs =>
  obtain⟨d,z,ne,e,mA,⟨od,es,ep,e2,c⟩,r⟩:=x;exact⟨ho _ d,z,ne,k _ _ (.inl rfl) e,mA,⟨od,es,ep,k _ _ (.inr d) e2,c⟩,r⟩
 |own y=>obtain⟨ob,e⟩:=x;exact⟨ob,k _ _ (.inl rfl) e⟩
 |xd fs=>obtain⟨mA,⟨od,es,ep,e,c⟩,r⟩:=x;exact⟨mA,⟨od,es,ep,k _ _ (.inl rfl) e,c⟩,r⟩
 |rng lo hi=>obtain⟨t,u,v,e⟩:=x;exact⟨t,u,v,k _ _ (.inl rfl) e⟩
 |frz ob u ih=>obtain⟨e,q⟩:=x;exact⟨k _ _ (.inl rfl) e,ih q⟩
 |tbl ps =>
  have e:h.get? a=some { cls:=.none,data:=.fields ps }:=x;show h'.get? a=some { cls:=.none,data:=.fields ps };exact k a _ (.inl rfl) e
 |met f y =>
  have e:h.get? a=some (W.methodObj (.ref f) (.ref y)):=x;show h'.get? a=some (W.methodObj (.ref f) (.ref y));exact k a _ (.inl rfl) e
 |ext φ=>obtain⟨p,⟨o,e⟩,st⟩:=x;exact⟨st _ _ p λo q=>k _ _ (.inl rfl) q,⟨o,k _ _ (.inl rfl) e⟩,st⟩
theorem HOk.lt(x:HOk P w H h)(e:H a=some o):a<h.objs.size:=(x a o e).lt
theorem HOk.fresh(x:HOk P w H h)(e:h.objs.size<=a):H a=none:=by
 cases q:H a with
 |none=>rfl
 |some u=>exact absurd (AJ (x.lt q) e) (CU _)
theorem HOk.kept(x:HOk P w H h)(k:∀b u,h.get? b=some u->h'.get? b=some u):HOk P w H h':=λa o e =>
 (x a o e).stay (λb u _ q=>k b u q) (λ_ q=>q) λ_ _ q=>q
theorem HOk.laid(x:HOk P w H h)(k:∀b u,h.get? b=some u->h'.get? b=some u)(hp:h.objs.size<=a)(new:ObjOk P w (upd H a o) h' a o):HOk P w (upd H a o) h':=λb u e=>by
 have hn:=x.fresh hp
 by_cases hb:b=a
 .subst hb;rw[zaa]at e;cases e;exact new
 .rw[zai hb]at e;exact (x b u e).stay (λc v _ q=>k c v q) (λc q=>by rw[zai (zal q hn)];exact q) λc xs q=>by rw[zai (zal q hn)];exact q
end
noncomputable def Rd(H:Hp)(a:Addr)(u:HO):Prop:=H a=some u∨∃o,H a=some (.frz o u)
theorem Rd.of{H:Hp}{a:Addr}{u:HO}(h:H a=some u):Rd H a u:=.inl h
theorem Rd.ok{P:AF}{w:A7}{H:Hp}{h:Heap}{a:Addr}{u:HO}(r:Rd H a u)(x:HOk P w H h):ObjOk P w H h a u:=by
 rcases r with r |⟨o,r⟩
 .exact x a u r
 .obtain⟨_,q⟩:=x a _ r;exact q
noncomputable def Mut:Option HO->Prop
 |some (.lst _)=>True
 |some (.dK _)=>True
 |some (.dT _)=>True
 |some (.set _ _)=>True
 |some (.ins _ _ _)=>True
 |some (.ext _)=>True
 |_=>False
section
variable {P:AF}{w:A7}{H:Hp}{h h':Heap}{x e:Addr}{o':HO}
theorem HOk.write(ok:HOk P w H h)(mu:Mut (H x))(he:e=x ∨ H e=some (.own x))(k:∀b u, b ≠ e -> h.get? b=some u -> h'.get? b=some u)(heo:∃u, h'.get? e=some u)
  (new:ObjOk P w (upd H x o') h' x o'):HOk P w (upd H x o') h':=λb u q=>by
 have nown:∀c y,H c=some (.own y)->c≠x:=λc y r z=>by subst z;rw[r]at mu;exact mu
 have ntup:∀c xs,H c=some (.tup xs)->c≠x:=λc xs r z=>by subst z;rw[r]at mu;exact mu
 by_cases hb:b=x
 .subst hb;rw[zaa]at q;cases q;exact new
 .rw[zai hb]at q
  by_cases hbe:b=e
  .have q':H b=some (.own x) := by
    rcases he with z |z
    .exact absurd (hbe.trans z) hb
    .rw[hbe];exact z
   rw[q]at q';cases q';obtain⟨v,hv⟩:=heo;exact⟨v,by rw[hbe];exact hv⟩
  .refine (ok b u q).stay (λc v hc r=>k c v ?_ r) (λc r=>by rw[zai (nown c b r)];exact r) λc xs r=>by rw[zai (ntup c xs r)];exact r
   rcases hc with rfl |hc
   .exact hbe
   .rintro rfl;rcases he with z |z
    .exact nown c b hc z
    .rw[hc]at z;cases z;exact hb rfl
end
structure Un (fs ex:List Addr) (H H':Hp) (h h':Heap):Prop where
 keep:∀b o,h.get? b=some o->H b=none->b ∉ fs->b ∉ ex->h'.get? b=some o
 slot:∀b o,h.get? b=some o->H b=none->b∈fs->b ∉ ex->∃sl,h'.get? b=some { o with slots:=sl }
 free:∀b o,h.get? b=some o->H b=none->b ∉ ex->H' b=none
 there:∀b o,h.get? b=some o->b ∉ ex->∃o',h'.get? b=some o'
 tups:∀b xs,H b=some (.tup xs)->H' b=some (.tup xs)
 frzs:∀b o u,H b=some (.frz o u)->H' b=some (.frz o u)
 tbls:∀b ps,H b=some (.tbl ps)->∃more,H' b=some (.tbl (ps++more))
section
variable {fs fs' ex ex':List Addr}{H H1 H2:Hp}{h h1 h2 h':Heap}{a x e:Addr}{o:HO}
theorem Un.any(u:Un fs ex H H1 h h1){b:Addr}{ob:Obj}(q:h.get? b=some ob)(n:H b=none)(hx:b ∉ ex):∃sl,h1.get? b=some { ob with slots:=sl }:=by
 by_cases hb:b∈fs
 .exact u.slot b ob q n hb hx
 .exact⟨ob.slots,u.keep b ob q n hb hx⟩
theorem Un.kept(k:∀b u,h.get? b=some u->h'.get? b=some u):Un fs ex H H h h' :=
 ⟨λb ob q _ _ _=>k b ob q,λb ob q _ _ _=>⟨ob.slots,k b ob q⟩,λ_ _ _ n _=>n,λb ob q _=>⟨ob,k b ob q⟩,λ_ _ q=>q,λ_ _ _ q=>q,λ_ ps q=>⟨#[],by rw[q];simp⟩⟩
theorem Un.refl:Un fs ex H H h h:=Un.kept λ_ _ q=>q
theorem Un.laid(k:∀b u,h.get? b=some u->h'.get? b=some u)(hp:h.objs.size<=a)(hn:H a=none):Un fs ex H (upd H a o) h h' where
 keep:=λb u q _ _ _=>k b u q
 slot:=λb u q _ _ _=>⟨u.slots,k b u q⟩
 free:=λb u q n _=>by rw[zai (A3 (AJ (AD q) hp))];exact n
 there:=λb u q _=>⟨u,k b u q⟩
 tups:=λb xs q=>by rw[zai (zal q hn)];exact q
 frzs:=λb u xs q=>by rw[zai (zal q hn)];exact q
 tbls:=λb ps q=>⟨#[],by rw[zai (zal q hn),q];simp⟩
theorem Un.write(mu:Mut (H x))(he:e=x∨H e=some (.own x))(k:∀b u,b≠e->h.get? b=some u->h'.get? b=some u)(heo:∃u,h'.get? e=some u):Un fs ex H (upd H x o) h h':=by
 have hx:∀b,H b=none->b≠x:=λb n z=>by subst z;rw[n]at mu;exact mu
 have hb:∀b,H b=none->b≠e:=λb n z=>by
  subst z;rcases he with r |r
  .exact hx b n r
  .rw[n]at r;cases r
 have hm:∀b u,H b=some u->¬ Mut (some u)->b≠x:=λb u q nm z=>by subst z;rw[q]at mu;exact nm mu
 refine⟨λb u q n _ _=>k b u (hb b n) q,λb u q n _ _=>⟨u.slots,k b u (hb b n) q⟩,λb u q n _=>by rw[zai (hx b n)];exact n,λb u q _=>?_,
  λb xs q=>by rw[zai (hm b _ q λz=>z)];exact q,λb u xs q=>by rw[zai (hm b _ q λz=>z)];exact q,λb ps q=>⟨#[],by rw[zai (hm b _ q λz=>z),q];simp⟩⟩
 by_cases hbe:b=e
 .subst hbe;exact heo
 .exact⟨u,k b u hbe q⟩
end
noncomputable def trk(h:Heap)(H:Hp):List Addr:=(Bq h.objs.size).filter λa=>(H a).isSome
noncomputable def hidT(h:Heap)(H:Hp):Heap:=W.hideAll h (trk h H)
theorem zk2(h:Heap)(H:Hp):(hidT h H).objs.size=h.objs.size:=W.hideAll_size _ _
theorem zl1{h:Heap}{H:Hp}{b:Addr}{o:Obj}(e:h.get? b=some o)(n:H b=none):(hidT h H).get? b=some o :=
 W.hideAll_get _ e λhm=>by have q:(H b).isSome=true:=(EB.mp hm).2;rw[n]at q;simp at q
theorem znn{h:Heap}{H:Hp}{b:Addr}{o:Obj}(e:(hidT h H).get? b=some o):h.get? b=some o/\H b=none:=by
 have e':h.get? b=some o:=W.of_hideAll (trk h H) e;refine⟨e',?_⟩
 cases q:H b with
 |none=>rfl
 |some x =>
  have hm:b∈trk h H:=List.mem_filter.mpr ⟨Ce.mpr (AD e'),by simp[q]⟩;have z:(hidT h H).get? b=none:=W.hideAll_none (trk h H) hm;rw[z]at e;cases e
noncomputable def znE(g h:Heap)(L:Addr):List (Addr×Obj):=(Bq h.objs.size).filterMap λa=>if a=L∨(g.get? a).isSome=true then none else (h.get? a).map λo=>(a,o)
noncomputable def rest(g h:Heap)(L d:Addr):List (Addr×Obj):=(znE g h L).filter λp=>decide (p.1≠d)
structure Mod (K:W.Frag) (mg:Str->Option Value) (base:Heap):Prop where
 kin:K.In base
 glob:base.Ns AH mg
 blt:∃mb,base.Ns builtinsNs mb/\∀x:Str,x ≠ "__name__" -> mb x=bootBuiltins x
 nolimit:base.NoLimit
structure Cx where
 prog:AF
 w:A7
 K:W.Frag
 mg:Str->Option Value
 base:Heap
 A:AS
 N:List Str
 s₀:Af
 H₀:Hp
 env:Env
 outer:List Env
 stack:List Env
 ex:List Addr
 fn:Str->Bool
 calm:Bool
 pn:List (Addr×Obj)
 xe:Value->Af->Prop
noncomputable def frs(l:List Env):List Addr:=l.filterMap (·.frame)
noncomputable abbrev Cx.fs(X:Cx):List Addr:=frs X.outer
noncomputable def Vis(sc:Scope)(x:Str):Prop:=sc.names.lookup x=some .local∨sc.names.lookup x=some .cell∨sc.names.lookup x=some .free
noncomputable def Loc(sc:Scope)(x:Str):Prop:=sc.names.lookup x=some .local∨sc.names.lookup x=some .cell
noncomputable def Look(env:Env)(h:Heap)(m:Str->Option Value)(x:Str)(u:Value):Prop :=
 (env.kindOf x=some .local/\m x=some u)∨((env.kindOf x=some .cell∨env.kindOf x=some .free)/\∃c,env.cells.lookup x=some c/\h.IsCell c (some u))
structure Cx.Ok (X:Cx):Prop where
 mod:Mod X.K X.mg X.base
 kind:X.env.scope.kind=.function
 glob:X.env.globals=AH
 blt:X.env.builtins=builtinsNs
 above:X.s₀.heap.objs.size<=X.env.locals
 inj:∀x y c,X.env.cells.lookup x=some c->X.env.cells.lookup y=some c->x=y
 has:∀x,(X.env.kindOf x=some .cell∨X.env.kindOf x=some .free)->∃c,X.env.cells.lookup x=some c
 cab:∀x c,X.fn x=true->X.env.cells.lookup x=some c->X.s₀.heap.objs.size<=c
 hd:X.calm=true->X.A.handled=none
 frames:X.A.frames=some X.stack
 stk:X.stack=X.outer∨(X.stack=X.env::X.outer/\X.env.frame=some X.env.locals)
 exf:∀b∈X.ex,b≠X.env.locals/\∀x c,X.env.cells.lookup x=some c->c≠b
 bs:∀b o,X.base.get? b=some o->X.s₀.heap.get? b=some o/\X.H₀ b=none
 bsz:X.base.objs.size<=X.s₀.heap.objs.size
 noex:∀b o,X.base.get? b=some o->b ∉ X.ex
 exfs:∀b∈X.ex,b ∉ X.fs
 funs:X.s₀.heap.FunFrames X.base X.outer
 frf:∀b∈X.fs,X.H₀ b=none
structure Inv (X:Cx) (pins:List (Addr×Obj)) (σ:List (Option V)) (H:Hp) (s:Af):Prop where
 ok:X.Ok
 os:s.os=X.s₀.os
 bare:AllBare s.gens
 base:Un X.fs X.ex X.H₀ H X.s₀.heap s.heap
 loc:∃m,s.heap.Ns X.env.locals m/\∀(i:Nat) (x:Str) (v:V),X.N[i]?=some x->σ[i]?=some (some v)->Vis X.env.scope x->∃u,RelV v u/\Look X.env s.heap m x u
 cell:∀x c,X.env.cells.lookup x=some c->∃v,s.heap.IsCell c v
 free:H X.env.locals=none
 freeC:∀x c,X.env.cells.lookup x=some c->H c=none
 pin:∀p∈X.pn++pins,s.heap.get? p.1=some p.2/\H p.1=none/\p.1≠X.env.locals/\p.1 ∉ X.fs/\∀v,p.2.data≠.cell v
 hok:HOk X.prog X.w H s.heap
 len:σ.length=X.N.length
section
variable {X:Cx}{pins:List (Addr×Obj)}{σ:List (Option V)}{H H':Hp}{s:Af}{h':Heap}
theorem Cx.Ok.nofr(ok:X.Ok){b:Addr}{o:Obj}(e:X.base.get? b=some o):b ∉ X.fs:=λhb=>by have:=(ok.funs.mem hb).1;rw[e]at this;cases this
theorem Inv.bs(I:Inv X pins σ H s):∀b o,X.base.get? b=some o->s.heap.get? b=some o/\H b=none:=λb o e =>
 ⟨I.base.keep b o (I.ok.bs b o e).1 (I.ok.bs b o e).2 (I.ok.nofr e) (I.ok.noex b o e),I.base.free b o (I.ok.bs b o e).1 (I.ok.bs b o e).2 (I.ok.noex b o e)⟩
theorem Inv.bk(I:Inv X pins σ H s):∀b o,X.base.get? b=some o->s.heap.get? b=some o:=λb o e=>(I.bs b o e).1
theorem Inv.mod(I:Inv X pins σ H s):Mod X.K X.mg X.base:=I.ok.mod
theorem Inv.kIn(I:Inv X pins σ H s):X.K.In s.heap:=I.ok.mod.kin.keeps I.bk
theorem Inv.lt(I:Inv X pins σ H s):X.env.locals<s.heap.objs.size:=let ⟨_,hn,_⟩:=I.loc;hn.lt
theorem Inv.sz(I:Inv X pins σ H s):X.s₀.heap.objs.size<=s.heap.objs.size:=AV I.ok.above (BD I.lt)
theorem Inv.nofs(I:Inv X pins σ H s){a:Addr}(h:s.heap.objs.size<=a):a ∉ X.fs:=λhb=>by obtain⟨_,o,ho,_⟩:=I.ok.funs.mem hb;exact absurd (AJ (AD ho) (AV I.sz h)) (CU _)
theorem Inv.cne(I:Inv X pins σ H s):∀x c,X.env.cells.lookup x=some c->c≠X.env.locals:=λx c e z=>by obtain⟨v,o,ho,hd⟩:=I.cell x c e;obtain⟨m,⟨o',es,ep,ho',hd',_⟩,_⟩:=I.loc;rw[z,ho']at ho;cases ho;rw[hd']at hd;cases hd
theorem Inv.funs(I:Inv X pins σ H s):s.heap.FunFrames X.base X.outer:=by
 have all:∀(l:List Env),(∀b∈frs l,b∈X.fs)->X.s₀.heap.FunFrames X.base l->s.heap.FunFrames X.base l:=by
  intro l
  induction l with
  |nil=>intro _ _;trivial
  |cons env r ih =>
   intro hs hl;obtain⟨hk,⟨L,o,hf,hn,ho,hd⟩,hr⟩:=hl;have hL:L∈X.fs:=hs L (by unfold frs;rw[List.filterMap_cons,hf];exact AM);obtain⟨sl,e⟩:=I.base.slot L o ho (I.ok.frf L hL) hL λz=>I.ok.exfs L z hL
   exact⟨hk,⟨L,_,hf,hn,e,hd⟩,ih (λb hb=>hs b (by unfold frs;rw[List.filterMap_cons,hf];exact AK _ hb)) hr⟩
 exact all X.outer (λ_ hb=>hb) I.ok.funs
theorem Inv.stack(I:Inv X pins σ H s):s.heap.FunFrames X.base X.stack:=by
 rcases I.ok.stk with e |⟨e,hf⟩
 .rw[e];exact I.funs
 .rw[e];obtain⟨m,hn,_⟩:=I.loc;refine .cons (by rw[I.ok.kind];decide) hf hn ?_ I.funs;exact Heap.get?_none_of_le (AV I.ok.bsz I.ok.above)
theorem Inv.stkSub(I:Inv X pins σ H s):∀b∈frs X.stack,b∈X.env.locals::X.fs:=λb hb=>by
 rcases I.ok.stk with e |⟨e,hf⟩
 .rw[e]at hb;exact AK _ hb
 .rw[e]at hb;unfold frs at hb;rw[List.filterMap_cons,hf]at hb;exact hb
theorem Inv.stkFree(I:Inv X pins σ H s):∀b∈frs X.stack,H b=none:=λb hb=>by
 rcases AI.mp (I.stkSub b hb) with e |hb
 .rw[e];exact I.free
 .obtain⟨_,o,ho,_⟩:=I.ok.funs.mem hb;exact I.base.free b o ho (I.ok.frf b hb) λz=>I.ok.exfs b z hb
theorem Inv.step{g':Array GenState}{t':Nat}{d':Drawn}{ch:List Addr}(I:Inv X pins σ H s)
  (hch:∀b∈ch,(b∈X.ex∨X.s₀.heap.objs.size<=b)/\b≠X.env.locals/\(∀x c,X.env.cells.lookup x=some c->c≠b)/\∀p∈X.pn++pins,p.1≠b)
  (keep:∀b o,b≠X.env.locals->b ∉ X.fs->b ∉ ch->s.heap.get? b=some o->H b=none->h'.get? b=some o)
  (slot:∀b o,b≠X.env.locals->b∈X.fs->b ∉ ch->s.heap.get? b=some o->H b=none->∃sl,h'.get? b=some { o with slots:=sl }) (free:∀b o,b ∉ ch->s.heap.get? b=some o->H b=none->H' b=none)
  (there:∀b o,b ∉ ch->s.heap.get? b=some o->∃o',h'.get? b=some o')
  (tups:∀b xs,H b=some (.tup xs)->H' b=some (.tup xs)) (frzs:∀b o u,H b=some (.frz o u)->H' b=some (.frz o u)) (tbls:∀b ps,H b=some (.tbl ps)->∃more,H' b=some (.tbl (ps++more)))
  (ns:∀m,s.heap.Ns X.env.locals m->h'.Ns X.env.locals m) (hok:HOk X.prog X.w H' h') (hg:AllBare g') :
  Inv X pins σ H' { s with heap:=h',gens:=g',drawn:=d',toks:=t' }:=by
 have neL:∀b o,X.s₀.heap.get? b=some o->b≠X.env.locals:=λb o e=>A3 (AJ (AD e) I.ok.above)
 have neC:∀b o,X.s₀.heap.get? b=some o->b ∉ X.ex->b ∉ ch:=λb o e hx hb=>by
  rcases (hch b hb).1 with z |z
  .exact hx z
  .exact absurd (AJ (AD e) z) (CU _)
 have cellK:∀x c,X.env.cells.lookup x=some c->∀v,s.heap.IsCell c v->h'.IsCell c v:=λx c e v ⟨o,ho,hd⟩=>by
  have nch:c ∉ ch:=λz=>(hch c z).2.2.1 x c e rfl
  by_cases hc:c∈X.fs
  .obtain⟨sl,q⟩:=slot c o (I.cne x c e) hc nch ho (I.freeC x c e);exact⟨_,q,hd⟩
  .exact⟨o,keep c o (I.cne x c e) hc nch ho (I.freeC x c e),hd⟩
 refine⟨I.ok,I.os,hg,⟨λb o e n hb hx=>?_,λb o e n hb hx=>?_,λb o e n hx=>?_,λb o e hx=>?_,λb xs e=>tups b xs (I.base.tups b xs e),λb o xs e=>frzs b o xs (I.base.frzs b o xs e),λb ps e=>?_⟩,?_,λx c e=>?_,?_,λx c e=>?_,λp hp=>?_,hok,I.len⟩
 .exact keep b o (neL b o e) hb (neC b o e hx) (I.base.keep b o e n hb hx) (I.base.free b o e n hx)
 .obtain⟨sl,e1⟩:=I.base.slot b o e n hb hx;obtain⟨sl',e2⟩:=slot b _ (neL b o e) hb (neC b o e hx) e1 (I.base.free b o e n hx);exact⟨sl',e2⟩
 .obtain⟨o',e1⟩:=I.base.there b o e hx;exact free b o' (neC b o e hx) e1 (I.base.free b o e n hx)
 .obtain⟨o',e1⟩:=I.base.there b o e hx;exact there b o' (neC b o e hx) e1
 .obtain⟨m1,e1⟩:=I.base.tbls b ps e;obtain⟨m2,e2⟩:=tbls b _ e1;exact⟨m1++m2,by rw[e2,Array.append_assoc]⟩
 .obtain⟨m,hn,hl⟩:=I.loc;refine⟨m,ns m hn,λi x v e1 e2 e3=>?_⟩;obtain⟨u,r,l⟩:=hl i x v e1 e2 e3;refine⟨u,r,?_⟩;rcases l with l |⟨k,c,e,z⟩
  .exact .inl l
  .exact .inr ⟨k,c,e,cellK x c e _ z⟩
 .obtain⟨v,z⟩:=I.cell x c e;exact⟨v,cellK x c e v z⟩
 .obtain⟨m,⟨o,_,_,ho,_⟩,_⟩:=I.loc;exact free _ o (λz=>(hch _ z).2.1 rfl) ho I.free
 .obtain⟨v,o,ho,hd⟩:=I.cell x c e;exact free c o (λz=>(hch c z).2.2.1 x c e rfl) ho (I.freeC x c e)
 .obtain⟨e,n,ne,nf,d⟩:=I.pin p hp;have nch:p.1 ∉ ch:=λz=>(hch p.1 z).2.2.2 p hp rfl
  exact⟨keep p.1 p.2 ne nf nch e n,free p.1 p.2 nch e n,ne,nf,d⟩
theorem Inv.un{t':Nat}(I:Inv X pins σ H s)(u:Un X.fs [] H H' s.heap h')(hok:HOk X.prog X.w H' h'):Inv X pins σ H' { s with heap:=h',toks:=t' }:=by
 obtain⟨m,⟨o,es,ep,ho,r⟩,_⟩:=id I.loc;obtain⟨sl,hL⟩:=u.any ho I.free (by simp)
 exact I.step (g':=s.gens) (d':=s.drawn) (ch:=[]) (λ_ z=>nomatch z) (λb o _ hb _ e n=>u.keep b o e n hb (by simp)) (λb o _ hb _ e n=>u.slot b o e n hb (by simp)) (λb o _ e n=>u.free b o e n (by simp)) (λb o _ e=>u.there b o e (by simp)) u.tups u.frzs u.tbls (λm' hm=>by obtain⟨o',es',ep',ho',r'⟩:=hm;rw[ho]at ho';cases ho';exact⟨_,es',ep',hL,r'⟩) hok I.bare
theorem Inv.call{g':Array GenState}{t':Nat}{d':Drawn}{ch:List Addr}(I:Inv X pins σ H s)(u:Un (frs X.stack) ch H H' s.heap h')(hok:HOk X.prog X.w H' h')(hg:AllBare g')
  (hch:∀b∈ch,(b∈X.ex∨X.s₀.heap.objs.size<=b)/\b≠X.env.locals/\(∀x c,X.env.cells.lookup x=some c->c≠b)/\∀p∈X.pn++pins,p.1≠b) :
  Inv X pins σ H' { s with heap:=h',gens:=g',drawn:=d',toks:=t' }:=by
 obtain⟨m,⟨o,es,ep,ho,r⟩,_⟩:=id I.loc;obtain⟨sl,hL⟩:=u.any ho I.free λz=>(hch _ z).2.1 rfl
 exact I.step (ch:=ch) hch (λb o hL hb hc e n=>u.keep b o e n (λz=>(AI.mp (I.stkSub b z)).elim hL hb) hc) (λb o _ _ hc e n=>u.any e n hc) (λb o hc e n=>u.free b o e n hc) (λb o hc e=>u.there b o e hc) u.tups u.frzs u.tbls (λm' hm=>by obtain⟨o',es',ep',ho',r'⟩:=hm;rw[ho]at ho';cases ho';exact⟨_,es',ep',hL,r'⟩) hok hg
theorem Inv.turned{t':Nat}{it:Addr}(I:Inv X pins σ H s)(k:∀b o, b ≠ it -> s.heap.get? b=some o -> h'.get? b=some o)(hn:H it=none)(hL:it ≠ X.env.locals)
  (h1:it∈X.ex∨X.s₀.heap.objs.size<=it) (h2:∀x c,X.env.cells.lookup x=some c->c≠it) (h3:∀p∈X.pn++pins,p.1≠it):Inv X pins σ H { s with heap:=h',toks:=t' }:=by
 have nit:∀b u,H b=some u->b≠it:=λb u e z=>by rw[z,hn]at e;cases e
 refine I.step (g':=s.gens) (d':=s.drawn) (ch:=[it]) (λb hb=>?_) (λb o _ _ hc e _=>k b o (λz=>hc (by simp[z])) e) (λb o _ _ hc e _=>⟨o.slots,k b o (λz=>hc (by simp[z])) e⟩) (λ_ _ _ _ n=>n)
  (λb o hc e=>⟨o,k b o (λz=>hc (by simp[z])) e⟩) (λ_ _ e=>e) (λ_ _ _ e=>e) (λb ps e=>⟨#[],by rw[e];simp⟩) (λm hm=>?_) (λb u e=>?_) I.bare
 .have e:b=it:=by simpa using hb
  subst e;exact⟨h1,hL,h2,h3⟩
 .obtain⟨o,es,ep,ho,r⟩:=hm;exact⟨o,es,ep,k _ o (Cz hL) ho,r⟩
 .refine (I.hok b u e).stay (λc v hc q=>k c v ?_ q) (λ_ q=>q) λ_ _ q=>q
  rcases hc with z |z
  .rw[z];exact nit b u e
  .exact nit c _ z
theorem Inv.tok(I:Inv X pins σ H s)(t:Nat):Inv X pins σ H { s with toks:=t }:=I.un (h':=s.heap) (t':=t) Un.refl I.hok
theorem Inv.kept{t':Nat}(I:Inv X pins σ H s)(k:∀b u,s.heap.get? b=some u->h'.get? b=some u):Inv X pins σ H { s with heap:=h',toks:=t' }:=I.un (Un.kept k) (I.hok.kept k)
theorem Inv.laid{a:Addr}{o:HO}{t':Nat}(I:Inv X pins σ H s)(k:∀b u, s.heap.get? b=some u -> h'.get? b=some u)(hp:s.heap.objs.size <= a)(new:ObjOk X.prog X.w (upd H a o) h' a o) :
  Inv X pins σ (upd H a o) { s with heap:=h',toks:=t' }:=I.un (Un.laid k hp (I.hok.fresh hp)) (I.hok.laid k hp new)
theorem Inv.write{x e:Addr}{o:HO}{t':Nat}(I:Inv X pins σ H s)(mu:Mut (H x))(he:e=x ∨ H e=some (.own x))(k:∀b u, b ≠ e -> s.heap.get? b=some u -> h'.get? b=some u)(heo:∃u, h'.get? e=some u)
  (new:ObjOk X.prog X.w (upd H x o) h' x o):Inv X pins σ (upd H x o) { s with heap:=h',toks:=t' }:=I.un (Un.write mu he k heo) (I.hok.write mu he k heo new)
theorem Inv.pins_of{pins':List (Addr×Obj)}(I:Inv X pins σ H s)(h:∀p∈pins',s.heap.get? p.1=some p.2/\H p.1=none/\p.1≠X.env.locals/\p.1 ∉ X.fs/\∀v,p.2.data≠.cell v):Inv X pins' σ H s :=
 ⟨I.ok,I.os,I.bare,I.base,I.loc,I.cell,I.free,I.freeC,λp hp=>(Az.mp hp).elim (λz=>I.pin p (Bt _ z)) (h p),I.hok,I.len⟩
theorem ziN{N:List Str}(hN:N.Nodup){i j:Nat}{x:Str}(a:N[i]?=some x)(b:N[j]?=some x):i=j:=by obtain⟨h1,e1⟩:=Ae.mp a;obtain⟨h2,e2⟩:=Ae.mp b;exact (List.getElem_inj hN).mp (e1.trans e2.symm)
theorem zgI{M:Ey}{A:AS}{E:Value -> Af -> Prop}{i:Nat}{x:Str}{v:V}{u:Value}{Q:Unit -> Af -> Prop}(I:Inv X pins σ H s)(hN:X.N.Nodup)(hi:X.N[i]? = some x)(hx:Loc X.env.scope x)(r:RelV v u)
  (h:∀s',Inv X pins (σ.set i (some v)) H s'->(∃a,CQ a s.heap s'.heap/\(a=X.env.locals∨X.env.cells.lookup x=some a))->Q () s') (hf:X.fn x=true∨X.env.scope.names.lookup x=some .local:=by first |exact .inl rfl |exact .inr rfl |assumption):Aw M A (storeName X.env x u) Q E s:=by
 obtain⟨m,hn,hl⟩:=id I.loc;have hcls:(X.env.scope.kind == .class || (X.env.scope.kind == .module && X.env.locals != X.env.globals))=false:=by rw[I.ok.kind];rfl
 have hiσ:i<σ.length:=by rw[I.len];exact (Ae.mp hi).1
 have cne:=I.cne
 have tracked:∀{a:Addr} {h':Heap},(∃o,s.heap.get? a=some o/\H a=none)->CQ a s.heap h'->HOk X.prog X.w H h':=λ{a h'} ha hs b ob e=>by
  obtain⟨_,_,hfree⟩:=ha;refine (I.hok b ob e).stay (λc w' hc q=>(hs.2 c ?_).trans q) (λ_ q=>q) λ_ _ q=>q
  rintro rfl;rcases hc with rfl |hc
  .rw[hfree]at e;cases e
  .rw[hfree]at hc;cases hc
 rcases hx with hk |hk
 .refine wpAny_storeName_local hk hn (λh' hn' hs=>?_) hcls;obtain⟨oL,_,_,hoL,_⟩:=id hn;refine h _ ⟨I.ok,I.os,I.bare,⟨λb o e n hb hx=>?_,λb o e n hb hx=>?_,I.base.free,λb o e hx=>?_,I.base.tups,I.base.frzs,I.base.tbls⟩,⟨_,hn',λj y v' e1 e2 e3=>?_⟩,λy c e=>?_,I.free,I.freeC,λp hp=>?_,tracked ⟨oL,hoL,I.free⟩ hs,by simpa using I.len⟩ ⟨_,hs,.inl rfl⟩
  .exact (hs.2 b (A3 (AJ (AD e) I.ok.above))).trans (I.base.keep b o e n hb hx)
  .obtain⟨sl,e1⟩:=I.base.slot b o e n hb hx;exact⟨sl,(hs.2 b (A3 (AJ (AD e) I.ok.above))).trans e1⟩
  .obtain⟨o',e1⟩:=I.base.there b o e hx;exact⟨o',(hs.2 b (A3 (AJ (AD e) I.ok.above))).trans e1⟩
  .by_cases hj:j=i
   .subst hj;rw[hi]at e1;cases e1;rw[List.getElem?_set_self hiσ]at e2
    cases e2
    exact⟨u,r,.inl ⟨hk,by simp⟩⟩
   .rw[List.getElem?_set_ne (Cz hj)]at e2;obtain⟨u',r',q⟩:=hl j y v' e1 e2 e3;refine⟨u',r',?_⟩;rcases q with⟨k,e⟩ |⟨k,c,e,z⟩
    .refine .inl ⟨k,?_⟩;have:y≠x:=λe=>hj (ziN hN e1 (e ▸ hi))
     simp[this,e]
    .exact .inr ⟨k,c,e,z.sameBut hs (cne y c e)⟩
  .obtain⟨w',z⟩:=I.cell y c e;exact⟨w',z.sameBut hs (cne y c e)⟩
  .obtain⟨e,n,ne,nf,d⟩:=I.pin p hp;exact⟨(hs.2 p.1 ne).trans e,n,ne,nf,d⟩
 .have hfn:X.fn x=true := by
   rcases hf with z |z
   .exact z
   .rw[z]at hk;cases hk
  obtain⟨c,hc⟩:=I.ok.has x (.inl hk);obtain⟨w',z⟩:=I.cell x c hc;refine wpAny_storeName_cell I.ok.kind hk hc z (λh' hc' hs=>?_);obtain⟨oc,hoc,hocd⟩:=id z;refine h { s with heap:=h' } ⟨I.ok,I.os,I.bare,⟨λb o e n hb hx=>?_,λb o e n hb hx=>?_,I.base.free,λb o e hx=>?_,I.base.tups,I.base.frzs,I.base.tbls⟩,⟨m,hn.sameBut hs (Cz (cne x c hc)),λj y v' e1 e2 e3=>?_⟩,λy c' e=>?_,I.free,I.freeC,λp hp=>?_,tracked ⟨oc,hoc,I.freeC x c hc⟩ hs,by simpa using I.len⟩ ⟨c,hs,.inr hc⟩
  .exact (hs.2 b (A3 (AJ (AD e) (I.ok.cab x c hfn hc)))).trans (I.base.keep b o e n hb hx)
  .obtain⟨sl,e1⟩:=I.base.slot b o e n hb hx;exact⟨sl,(hs.2 b (A3 (AJ (AD e) (I.ok.cab x c hfn hc)))).trans e1⟩
  .obtain⟨o',e1⟩:=I.base.there b o e hx;exact⟨o',(hs.2 b (A3 (AJ (AD e) (I.ok.cab x c hfn hc)))).trans e1⟩
  .by_cases hj:j=i
   .subst hj;rw[hi]at e1;cases e1;rw[List.getElem?_set_self hiσ]at e2
    cases e2
    exact⟨u,r,.inr ⟨.inl hk,c,hc,hc'⟩⟩
   .rw[List.getElem?_set_ne (Cz hj)]at e2;obtain⟨u',r',q⟩:=hl j y v' e1 e2 e3;refine⟨u',r',?_⟩;rcases q with q |⟨k,c',e,z'⟩
    .exact .inl q
    .refine .inr ⟨k,c',e,z'.sameBut hs ?_⟩;rintro rfl;exact hj (ziN hN e1 (I.ok.inj _ _ _ e hc ▸ hi))
  .by_cases hcc:c'=c
   .subst hcc;exact⟨_,hc'⟩
   .obtain⟨w2,z2⟩:=I.cell y c' e;exact⟨w2,z2.sameBut hs hcc⟩
  .obtain⟨e,n,ne,nf,d⟩:=I.pin p hp;refine⟨(hs.2 p.1 ?_).trans e,n,ne,nf,d⟩;intro q;rw[q,hoc]at e;have q':oc=p.2:=A0 e;exact d w' (by rw[<- q'];exact hocd)
theorem zfG{M:Ey}{A:AS}{E:Value -> Af -> Prop}{i:Nat}{x:Str}{v:V}{u:Value}{Q:Unit -> Af -> Prop}(I:Inv X pins σ H s)(hN:X.N.Nodup)(hi:X.N[i]? = some x)(hx:Loc X.env.scope x)(r:RelV v u)
  (h:∀s',Inv X pins (σ.set i (some v)) H s'->Q () s') (hf:X.fn x=true∨X.env.scope.names.lookup x=some .local:=by first |exact .inl rfl |exact .inr rfl |assumption):Aw M A (storeName X.env x u) Q E s :=
 zgI I hN hi hx r (λs' I' _=>h s' I') hf
theorem Inv.call'{s':Af}{ch:List Addr}(I:Inv X pins σ H s)(ho:s'.os=s.os)(u:Un (frs X.stack) ch H H' s.heap s'.heap)(hok:HOk X.prog X.w H' s'.heap)(hg:AllBare s'.gens)
  (hch:∀b∈ch,(b∈X.ex∨X.s₀.heap.objs.size<=b)/\b≠X.env.locals/\(∀x c,X.env.cells.lookup x=some c->c≠b)/\∀p∈X.pn++pins,p.1≠b):Inv X pins σ H' s':=by
 obtain⟨h',g',d',t',o'⟩:=s';have e:o'=s.os:=ho;subst e;exact I.call (g':=g') (t':=t') (d':=d') u hok hg hch
end
noncomputable abbrev XK:=Value->Option Addr->Hp->Prop
noncomputable abbrev St:=List (Option V)
noncomputable abbrev VK:=V->Hp->Prop
noncomputable abbrev TE:=St->Hp->VK->Prop
noncomputable abbrev TT:=St->Hp->(Bool->Hp->Prop)->Prop
noncomputable abbrev TA:=St->Hp->(List V->Hp->Prop)->Prop
structure Ends where
 nx:St->Hp->Prop
 rt:VK
 bk:St->Hp->Prop:=λ_ _=>False
 ct:St->Hp->Prop:=λ_ _=>False
noncomputable abbrev TS:=Ends->St->Hp->Prop
noncomputable def EP(X:Cx)(pins:List (Addr×Obj))(σ:St)(Q:VK)(u:Value)(s':Af):Prop:=∃v H',Inv X pins σ H' s'/\RelV v u/\Q v H'
noncomputable def TP(X:Cx)(pins:List (Addr×Obj))(σ:St)(Q:Bool->Hp->Prop)(b:Bool)(s':Af):Prop:=∃H',Inv X pins σ H' s'/\Q b H'
noncomputable def AP(X:Cx)(pins:List (Addr×Obj))(σ:St)(Q:List V->Hp->Prop)(us:List Value)(s':Af):Prop:=∃vs H',Inv X pins σ H' s'/\Vals vs us/\Q vs H'
noncomputable def SP(X:Cx)(pins:List (Addr×Obj))(D:Ends)(f:Flow)(s':Af):Prop :=
 match f with
 |.next=>∃ σ' H',Inv X pins σ' H' s'/\D.nx σ' H'
 |.brk=>∃ σ' H',Inv X pins σ' H' s'/\D.bk σ' H'
 |.cont=>∃ σ' H',Inv X pins σ' H' s'/\D.ct σ' H'
 |.ret u=>∃v σ' H',Inv X pins σ' H' s'/\RelV v u/\D.rt v H'
noncomputable def PE(X:Cx)(e:Expr)(t:TE):Prop :=
 ∀(pins:List (Addr×Obj)) (s:Af) (σ:St) (H:Hp) (Q:VK),Inv X pins σ H s->t σ H Q->Aw (AE X.prog X.w) X.A (eval e X.env) (EP X pins σ Q) X.xe s
noncomputable def PT(X:Cx)(e:Expr)(t:TT):Prop :=
 ∀(pins:List (Addr×Obj)) (s:Af) (σ:St) (H:Hp) (Q:Bool->Hp->Prop),Inv X pins σ H s->t σ H Q->Aw (AE X.prog X.w) X.A (isTrue e X.env (eval e X.env)) (TP X pins σ Q) X.xe s
noncomputable def PW(X:Cx)(e:Expr)(t:TT):Prop :=
 ∀(whole:Sem Value) (pins:List (Addr×Obj)) (s:Af) (σ:St) (H:Hp) (Q:Bool->Hp->Prop),Inv X pins σ H s->t σ H Q->Aw (AE X.prog X.w) X.A (isTrue e X.env whole) (TP X pins σ Q) X.xe s
theorem PW.pt{X:Cx}{e:Expr}{t:TT}(h:PW X e t):PT X e t:=h _
noncomputable def PA(X:Cx)(es:List Expr)(t:TA):Prop :=
 ∀(pos:Pos) (pins:List (Addr×Obj)) (s:Af) (σ:St) (H:Hp) (Q:List V->Hp->Prop),Inv X pins σ H s->t σ H Q->Aw (AE X.prog X.w) X.A (spliced (backTo pos (Bw es X.env))) (AP X pins σ Q) X.xe s
noncomputable def PS(X:Cx)(st:Stmt)(t:TS):Prop :=
 ∀(pins:List (Addr×Obj)) (s:Af) (σ:St) (H:Hp) (D:Ends),Inv X pins σ H s->t D σ H->Aw (AE X.prog X.w) X.A (exec st X.env) (SP X pins D) X.xe s
noncomputable def PSs(X:Cx)(st:List Stmt)(t:TS):Prop :=
 ∀(pins:List (Addr×Obj)) (s:Af) (σ:St) (H:Hp) (D:Ends),Inv X pins σ H s->t D σ H->Aw (AE X.prog X.w) X.A (execs st X.env) (SP X pins D) X.xe s
theorem thn{α:Type}{t:Sem α}{Q Q':α->Af->Prop}{M:Ey}{A:AS}{E:Value->Af->Prop}{s:Af}(h:Aw M A t Q E s)(hQ:∀a s,Q a s->Q' a s):Aw M A t Q' E s:=BR h hQ λ_ _ x=>x
section
variable {X:Cx}
noncomputable def tVar(i:Nat):TE:=λσ H Q=>∃v,σ[i]?=some (some v)/\Q v H
noncomputable def tC(v:V):TE:=λ_ H Q=>Q v H
theorem zn9 {i:Nat}{x:Str}{pos:Pos}(hN:X.N[i]?=some x) (hv:Vis X.env.scope x) (hd:(x == ("__debug__" : Str))=false:=by decide) (hcd:(x == ("__classdict__" : Str))=false:=by decide):PE X (.Name x pos) (tVar i):=by
 intro pins s σ H Q I h;obtain⟨v,e,h⟩:=h;obtain⟨m,hn,hl⟩:=I.loc;obtain⟨u,r,l⟩:=hl i x v hN e hv;have fin:EP X pins σ Q u s:=⟨v,H,I,r,h⟩;rcases l with⟨hk,hm⟩ |⟨hk,c,hc,hcell⟩
 .exact wpAny_Name (wpAny_loadName_local I.ok.kind hk hn hm fin) hd
 .rcases hk with hk |hk
  .exact wpAny_Name (wpAny_loadName_cell I.ok.kind hk hc hcell fin) hd
  .exact wpAny_Name (wpAny_loadName_free I.ok.kind hk hc hcell fin hcd) hd
theorem zae{i j pos}:PE X (.Constant (.int i) j pos) (tC (.int i)):=λ_ _ _ H _ I h=>wpAny_Constant_int ⟨.int i,H,I.tok _,⟨_,rfl⟩,h⟩
theorem pe_bl{b j pos}:PE X (.Constant (.bool b) j pos) (tC (.bl b)):=λ_ _ _ H _ I h=>Constant_bool ⟨.bl b,H,I,rfl,h⟩
theorem za5{j pos}:PE X (.Constant .none j pos) (tC .non):=λ_ _ _ H _ I h=>Constant_none ⟨.non,H,I,rfl,h⟩
theorem zaC{x j pos}:PE X (.Constant (.str x) j pos) (tC (.str x)):=λ_ _ _ H _ I h=>Calls.Constant_str ⟨.str x,H,I.tok _,⟨_,rfl⟩,h⟩
noncomputable def Gl(X:Cx)(x:Str):Prop:=X.env.kindOf x=some .globalImplicit
theorem zkR{E:Value -> Af -> Prop}{pins:List (Addr × Obj)}{s:Af}{σ : St}{H:Hp}{x:Str}{u:Value}{pos:Pos}{Q:Value -> Af -> Prop}(I:Inv X pins σ H s)(hg:Gl X x)(hm:X.mg x=some u)(h:Q u s)
  (hd:(x == ("__debug__" : Str))=false:=by decide):Aw (AE X.prog X.w) X.A (eval (.Name x pos) X.env) Q E s :=
 Calls.Name_function_global I.ok.kind hg (Calls.loadGlobal_global (by rw[I.ok.glob];exact I.mod.glob.keeps I.bk) hm h) hd
theorem zeN{E:Value -> Af -> Prop}{pins:List (Addr × Obj)}{s:Af}{σ : St}{H:Hp}{x:Str}{u:Value}{pos:Pos}{Q:Value -> Af -> Prop}(I:Inv X pins σ H s)(hg:Gl X x)(hm:X.mg x=none)(hv:bootBuiltins x=some u)(h:Q u s)
  (hn:x ≠ "__name__":=by decide) (hd:(x == ("__debug__" : Str))=false:=by decide):Aw (AE X.prog X.w) X.A (eval (.Name x pos) X.env) Q E s:=by
 obtain⟨mb,h1,h2⟩:=I.mod.blt;exact Calls.Name_function_global I.ok.kind hg (Calls.loadGlobal_builtin (by rw[I.ok.glob];exact I.mod.glob.keeps I.bk) hm (by rw[I.ok.blt];exact h1.keeps I.bk) ((h2 x hn).trans hv) h) hd
theorem zbA {x:Str}{v:V}{u:Value}{pos:Pos}(hg:Gl X x) (hm:X.mg x=some u) (r:RelV v u) (hd:(x == ("__debug__" : Str))=false:=by decide):PE X (.Name x pos) (tC v) :=
 λ_ _ _ H _ I h=>zkR I hg hm ⟨v,H,I,r,h⟩ hd
theorem zdS {x:Str}{v:V}{u:Value}{pos:Pos}(hg:Gl X x) (hm:X.mg x=none) (hv:bootBuiltins x=some u) (r:RelV v u) (hn:x ≠ "__name__":=by decide) (hd:(x == ("__debug__" : Str))=false:=by decide):PE X (.Name x pos) (tC v) :=
 λ_ _ _ H _ I h=>zeN I hg hm hv ⟨v,H,I,r,h⟩ hn hd
variable {a b:Expr}{ta tb:TE}{pos:Pos}
noncomputable def PC(X:Cx)(op:CmpOp)(a b:Expr)(t:TE):Prop :=
 ∀(pins:List (Addr×Obj)) (s:Af) (σ:St) (H:Hp) (Q:VK),Inv X pins σ H s->t σ H Q ->
  Aw (AE X.prog X.w) X.A (eval a X.env) (λv s₁=>Aw (AE X.prog X.w) X.A (eval b X.env) (λu s₂=>Aw (AE X.prog X.w) X.A (BX op v u) (EP X pins σ Q) X.xe s₂) X.xe s₁) X.xe s
noncomputable def tB(t:TE):TT:=λσ H Q=>t σ H λx H1=>∃c,x=.bl c/\Q c H1
theorem zgR{op:CmpOp}{t:TE}(h:PC X op a b t)(h1:behindInMarks op b=false:=by first |exact nobehind _ (by decide) (by decide) |rfl):PT X (.Compare a [op] [b] pos) (tB t):=by
 intro pins s σ H Q I hw;refine wpAny_isTrue_Compare1 (thn (h pins s σ H _ I hw) λv s1 h1=>thn h1 λu s2 h2=>thn h2 λc s3 ⟨x,H1,I1,r1,q1⟩=>?_) h1;obtain⟨d,rfl,q⟩:=q1
 cases r1
 exact B4 ⟨H1,I1,q⟩
theorem zbK{e:Expr}{t:TE}(h:PE X e t)(he:∀whole,isTrue e X.env whole=(do let v <- whole;standAt e.pos;holding [v] (truthy v)):=by intro _;rfl):PT X e (tB t):=by
 intro pins s σ H Q I hw;refine isTrue_plain (thn (h pins s σ H _ I hw) λv s1 ⟨x,H1,I1,r1,q1⟩=>?_) (he _);obtain⟨d,rfl,q⟩:=q1
 cases r1
 exact B4 ⟨H1,I1,q⟩
variable {tA tB':TT}{rest:List Expr}
noncomputable def tAnd(t u:TT):TT:=λσ H Q=>t σ H λc H1=>if c=true then u σ H1 Q else Q false H1
noncomputable def tOr(t u:TT):TT:=λσ H Q=>t σ H λc H1=>if c=true then Q true H1 else u σ H1 Q
noncomputable def tNot(t:TT):TT:=λσ H Q=>t σ H λc H1=>Q (!c) H1
theorem zfV(ha:PT X a tA):PW X (.BoolOp .And [a] pos) tA:=by
 intro wh pins s σ H Q I h;refine isTrue_and (thn (ha pins s σ H Q I h) λc s1 e=>?_)
 cases c with
 |true=>exact isTrue_and_nil e
 |false=>exact e
theorem zdz(ha:PT X a tA):PW X (.BoolOp .Or [a] pos) tA:=by
 intro wh pins s σ H Q I h;refine isTrue_or (thn (ha pins s σ H Q I h) λc s1 e=>?_)
 cases c with
 |false=>exact isTrue_or_nil e
 |true=>exact e
theorem ziG(ha:PT X a tA)(hb:PW X (.BoolOp .And (b::rest) pos) tB'):PW X (.BoolOp .And (a::b::rest) pos) (tAnd tA tB'):=by
 intro wh pins s σ H Q I h;refine isTrue_and (thn (ha pins s σ H _ I h) λc s1 ⟨H1,I1,q1⟩=>?_)
 cases c with
 |true=>exact hb wh pins s1 σ H1 Q I1 q1
 |false=>exact⟨H1,I1,q1⟩
theorem pw_or(ha:PT X a tA)(hb:PW X (.BoolOp .Or (b::rest) pos) tB'):PW X (.BoolOp .Or (a::b::rest) pos) (tOr tA tB'):=by
 intro wh pins s σ H Q I h;refine isTrue_or (thn (ha pins s σ H _ I h) λc s1 ⟨H1,I1,q1⟩=>?_)
 cases c with
 |true=>exact⟨H1,I1,q1⟩
 |false=>exact hb wh pins s1 σ H1 Q I1 q1
theorem zck(ha:PT X a tA):PT X (.UnaryOp .Not a pos) (tNot tA):=by intro pins s σ H Q I h;exact isTrue_not (ha pins s σ H (λc H1=>Q (!c) H1) I h)
noncomputable def tAndV(ta tb:TE):TE:=λσ H Q=>ta σ H λx H1=>∃c,x=.bl c/\if c=true then tb σ H1 Q else Q (.bl false) H1
noncomputable def tNotV(ta:TE):TE:=λσ H Q=>ta σ H λx H1=>∃c,x=.bl c/\Q (.bl (!c)) H1
theorem ziH{op}{t:TE}(h:PE X a t):PE X (.BoolOp op [a] pos) t:=λpins s σ H Q I hw=>BoolOp_one (h pins s σ H Q I hw)
theorem ziI(ha:PE X a ta)(hb:PE X (.BoolOp .And (b::rest) pos) tb):PE X (.BoolOp .And (a::b::rest) pos) (tAndV ta tb):=by
 intro pins s σ H Q I h;refine BoolOp_and (thn (ha pins s σ H _ I h) λv s1 ⟨x,H1,I1,r1,q1⟩=>?_);obtain⟨c,rfl,q1⟩:=q1
 cases r1
 refine B4 ?_
 cases c with
 |true=>exact hb pins s1 σ H1 Q I1 q1
 |false=>exact⟨.bl false,H1,I1,rfl,q1⟩
theorem zob(ha:PE X a ta):PE X (.UnaryOp .Not a pos) (tNotV ta):=by
 intro pins s σ H Q I h;refine UnaryOp_ (thn (ha pins s σ H _ I h) λv s1 ⟨x,H1,I1,r1,q1⟩=>?_);obtain⟨c,rfl,q1⟩:=q1
 cases r1
 exact not_of (B4 ⟨.bl (!c),H1,I1,rfl,q1⟩)
noncomputable def tIf(t:TT)(ta tb:TE):TE:=λσ H Q=>t σ H λc H1=>if c=true then ta σ H1 Q else tb σ H1 Q
theorem zbT{c:Expr}(hc:PT X c tA)(ha:PE X a ta)(hb:PE X b tb):PE X (.IfExp c a b pos) (tIf tA ta tb):=by
 intro pins s σ H Q I h;refine wpAny_IfExp (thn (hc pins s σ H _ I h) λd s1 ⟨H1,I1,q1⟩=>?_)
 cases d with
 |true=>exact ha pins s1 σ H1 Q I1 q1
 |false=>exact hb pins s1 σ H1 Q I1 q1
end
noncomputable def SqL(K:W.Frag)(H:Hp)(a:Addr)(xs:List V):Prop :=
 Rd H a (.lst xs) ∨
  ∃(o:Obj) (its:Array Value) (n:Nat),K.lookup a=some o/\o.cls=.type "list" /\ o.dict=none/\o.data=.seq its n/\its.size<=sizeLine/\Vals xs its.toList
noncomputable def SqT(K:W.Frag)(H:Hp)(a:Addr)(xs:List V):Prop :=
 Rd H a (.tup xs) ∨
  ∃(o:Obj) (its:Array Value) (n:Nat),K.lookup a=some o/\o.cls=.type "tuple" /\ o.data=.seq its n/\its.size<=sizeLine/\Vals xs its.toList
noncomputable def absV:Value->Option V
 |.none=>some .non
 |.bool b=>some (.bl b)
 |.int i _=>some (.int i)
 |.str x _=>some (.str x)
 |.bytes b _=>some (.byt b)
 |.float b _=>some (.flt b)
 |.ref a=>some (.ref a)
 |.type n=>some (.ty n)
 |_=>none
theorem RelV.abs{x:V}{u:Value}(r:RelV x u):absV u=some x:=by
 cases x with
 |non=>cases r;rfl
 |bl _=>cases r;rfl
 |int _=>obtain⟨t,rfl⟩:=r;rfl
 |str _=>obtain⟨t,rfl⟩:=r;rfl
 |byt _=>obtain⟨t,rfl⟩:=r;rfl
 |flt _=>obtain⟨t,rfl⟩:=r;rfl
 |ref _=>cases r;rfl
 |ty _=>cases r;rfl
theorem RelV.inj{x y:V}{u:Value}(r:RelV x u)(q:RelV y u):x=y:=A0 (r.abs.symm.trans q.abs)
theorem Vals.inj:∀{xs ys:List V}{us:List Value},Vals xs us->Vals ys us->xs=ys
 |_,_,_,.nil,.nil=>rfl
 |_,_,_,.cons r t,.cons r' t'=>by rw[r.inj r',Vals.inj t t']
section
variable {X:Cx}{pins:List (Addr×Obj)}{σ:St}{H:Hp}{s:Af}{a:Addr}{xs ys:List V}
theorem SqL.of{K:W.Frag}(h:H a=some (.lst xs)):SqL K H a xs:=.inl (.inl h)
theorem SqT.of{K:W.Frag}(h:H a=some (.tup xs)):SqT K H a xs:=.inl (.inl h)
theorem Inv.list(I:Inv X pins σ H s)(h:SqL X.K H a xs):∃its:List Value,Vals xs its/\PlainL s.heap a its.toArray/\xs.length<=sizeLine:=by
 rcases h with h |⟨o,its,n,hk,hc,hd,hs,hz,r⟩
 .obtain⟨z,its,n,r,e⟩:=h.ok I.hok;exact⟨its,r,⟨_,n,e,rfl,rfl,rfl⟩,z⟩
 .refine⟨its.toList,r,⟨o,n,I.kIn a o hk,hc,hd,by simpa using hs⟩,?_⟩;have e:=r.length;simp only[AN]at e;lia
theorem Inv.tuple(I:Inv X pins σ H s)(h:SqT X.K H a xs):∃its:List Value,Vals xs its/\IsTup s.heap a its.toArray/\xs.length<=sizeLine:=by
 rcases h with h |⟨o,its,n,hk,hc,hs,hz,r⟩
 .obtain⟨z,its,r,p⟩:=h.ok I.hok;exact⟨its,r,p,z⟩
 .refine⟨its.toList,r,⟨o,I.kIn a o hk,hc,n,by simpa using hs⟩,?_⟩;have e:=r.length;simp only[AN]at e;lia
theorem Inv.list_inj(I:Inv X pins σ H s)(h:SqL X.K H a xs)(h':SqL X.K H a ys):xs=ys:=by
 obtain⟨its,r,⟨o,n,e,_,_,d⟩,_⟩:=I.list h;obtain⟨its',r',⟨o',n',e',_,_,d'⟩,_⟩:=I.list h';rw[e]at e';cases e';rw[d]at d';injection d' with d1 _;have:its=its':=by simpa using congrArg Array.toList d1
 subst this;exact r.inj r'
theorem Inv.tuple_inj(I:Inv X pins σ H s)(h:SqT X.K H a xs)(h':SqT X.K H a ys):xs=ys:=by
 obtain⟨its,r,⟨o,e,_,n,d⟩,_⟩:=I.tuple h;obtain⟨its',r',⟨o',e',_,n',d'⟩,_⟩:=I.tuple h';rw[e]at e';cases e';rw[d]at d';injection d' with d1 _;have:its=its':=by simpa using congrArg Array.toList d1
 subst this;exact r.inj r'
end
noncomputable abbrev Cx.wish(X:Cx)(E:Value->Af->Prop):Cx:={ X with xe:=E }
noncomputable abbrev Cx.nox(X:Cx):Cx:=X.wish λ_ _=>False
theorem Cx.Ok.wish{X:Cx}(ok:X.Ok)(E:Value->Af->Prop):(X.wish E).Ok :=
 ⟨ok.mod,ok.kind,ok.glob,ok.blt,ok.above,ok.inj,ok.has,ok.cab,ok.hd,ok.frames,ok.stk,ok.exf,ok.bs,ok.bsz,ok.noex,ok.exfs,ok.funs,ok.frf⟩
theorem Cx.Ok.unwish{X:Cx}{E:Value->Af->Prop}(ok:(X.wish E).Ok):X.Ok :=
 ⟨ok.mod,ok.kind,ok.glob,ok.blt,ok.above,ok.inj,ok.has,ok.cab,ok.hd,ok.frames,ok.stk,ok.exf,ok.bs,ok.bsz,ok.noex,ok.exfs,ok.funs,ok.frf⟩
section
variable {X:Cx}{pins:List (Addr×Obj)}{σ:St}{H:Hp}{s:Af}{E:Value->Af->Prop}
theorem Inv.wish(I:Inv X pins σ H s)(E:Value->Af->Prop):Inv (X.wish E) pins σ H s:=⟨I.ok.wish E,I.os,I.bare,I.base,I.loc,I.cell,I.free,I.freeC,I.pin,I.hok,I.len⟩
theorem Inv.unwish(I:Inv (X.wish E) pins σ H s):Inv X pins σ H s:=⟨I.ok.unwish,I.os,I.bare,I.base,I.loc,I.cell,I.free,I.freeC,I.pin,I.hok,I.len⟩
theorem SP.unwish{D:Ends}{f:Flow}{s':Af}(h:SP (X.wish E) pins D f s'):SP X pins D f s':=by
 cases f with
 |next=>obtain⟨σ',H',I,q⟩:=h;exact⟨σ',H',I.unwish,q⟩
 |brk=>obtain⟨σ',H',I,q⟩:=h;exact⟨σ',H',I.unwish,q⟩
 |cont=>obtain⟨σ',H',I,q⟩:=h;exact⟨σ',H',I.unwish,q⟩
 |ret u=>obtain⟨v,σ',H',I,r,q⟩:=h;exact⟨v,σ',H',I.unwish,r,q⟩
theorem PE.nox{e:Expr}{t:TE}(h:PE X.nox e t):PE X e t:=λpins s σ H Q I hw =>
 BR (h pins s σ H Q (I.wish _) hw) (λ_ _ ⟨v,H',I',r,q⟩=>⟨v,H',I'.unwish,r,q⟩) λ_ _ z=>BN z
theorem PSs.nox{st:List Stmt}{t:TS}(h:PSs X.nox st t):PSs X st t:=λpins s σ H D I hw =>
 BR (h pins s σ H D (I.wish _) hw) (λ_ _ q=>q.unwish) λ_ _ z=>BN z
end
section
variable {X:Cx}{st:Stmt}{rest:List Stmt}{t u:TS}{e:Expr}{te:TE}{pos:Pos}
noncomputable def tNext:TS:=λD σ H=>D.nx σ H
noncomputable def tSeq(t u:TS):TS:=λD σ H=>t { D with nx:=u D } σ H
theorem zaB:PSs X [] tNext:=λ_ _ σ H _ I h=>wpAny_execs_nil ⟨σ,H,I,h⟩
theorem zac(h1:PS X st t)(h2:PSs X rest u):PSs X (st::rest) (tSeq t u):=by
 intro pins s σ H D I h;refine wpAny_execs_cons (thn (h1 pins s σ H { D with nx:=u D } I h) λf s1 q=>?_)
 cases f with
 |next =>
  obtain⟨σ',H',I',q⟩:=q;exact h2 pins s1 σ' H' D I' q
 |ret v=>exact q
 |brk=>exact q
 |cont=>exact q
theorem zag(h1:PS X st t):PSs X [st] t:=by
 intro pins s σ H D I h;refine wpAny_execs_cons (thn (h1 pins s σ H D I h) λf s1 q=>?_)
 cases f with
 |next=>exact wpAny_execs_nil q
 |ret v=>exact q
 |brk=>exact q
 |cont=>exact q
theorem Inv.quiet{pins:List (Addr×Obj)}{σ:St}{H:Hp}{s:Af}(I:Inv X pins σ H s):interactive X.env=false:=by simp[interactive,I.ok.kind]
noncomputable def tDrop(te:TE):TS:=λD σ H=>te σ H λ_ H1=>D.nx σ H1
theorem zaY(he:PE X e te)(hs:swapsWith e none pos.line X.env=pure false:=by rfl):PS X (.Expr e pos) (tDrop te):=by intro pins s σ H D I h;exact wpAny_Expr_any (thn (he pins s σ H _ I h) λv s1 ⟨x,H1,I1,r1,q1⟩=>⟨σ,H1,I1,q1⟩) I.quiet hs
noncomputable def tRet(te:TE):TS:=λD σ H=>te σ H D.rt
theorem zak(he:PE X e te):PS X (.Return (some e) pos) (tRet te):=by intro pins s σ H D I h;exact wpAny_Return_some (thn (he pins s σ H _ I h) λv s1 ⟨x,H1,I1,r1,q1⟩=>⟨x,σ,H1,I1,r1,q1⟩)
noncomputable def tIfS(c:TT)(t u:TS):TS:=λD σ H=>c σ H λb H1=>if b=true then t D σ H1 else u D σ H1
theorem ps_if{c:Expr}{a b:List Stmt}{tc:TT}(hc:PT X c tc)(ha:PSs X a t)(hb:PSs X b u):PS X (.If c a b pos) (tIfS tc t u):=by
 intro pins s σ H D I h;refine wpAny_If (thn (hc pins s σ H _ I h) λd s1 ⟨H1,I1,q1⟩=>?_)
 cases d with
 |true=>exact ha pins s1 σ H1 D I1 q1
 |false=>exact hb pins s1 σ H1 D I1 q1
noncomputable def znM:TS:=λ_ _ _=>False
theorem zeg:PS X st znM:=λ_ _ _ _ _ _ h=>h.elim
end
noncomputable abbrev TG:=V->St->Hp->(St->Hp->Prop)->Prop
noncomputable abbrev TGs:=List V->St->Hp->(St->Hp->Prop)->Prop
noncomputable def PG(X:Cx)(target:Expr)(t:TG):Prop :=
 ∀(pins:List (Addr×Obj)) (s:Af) (σ:St) (H:Hp) (v:V) (u:Value) (Q:St->Hp->Prop),Inv X pins σ H s->RelV v u->t v σ H Q ->
  Aw (AE X.prog X.w) X.A (assign target X.env u) (λ_ s'=>∃ σ' H',Inv X pins σ' H' s'/\Q σ' H') X.xe s
noncomputable def PGs(X:Cx)(ts:List Expr)(t:TGs):Prop :=
 ∀(pins:List (Addr×Obj)) (s:Af) (σ:St) (H:Hp) (vs:List V) (us:List Value) (Q:St->Hp->Prop),Inv X pins σ H s->Vals vs us->t vs σ H Q ->
  Aw (AE X.prog X.w) X.A (assignInOrder ((CM ts X.env).map (·.2)) us) (λ_ s'=>∃ σ' H',Inv X pins σ' H' s'/\Q σ' H') X.xe s
noncomputable abbrev TSet:=V->V->V->Hp->(Hp->Prop)->Prop
noncomputable def PSet(X:Cx)(t:TSet):Prop :=
 ∀(pins:List (Addr×Obj)) (s:Af) (σ:St) (H:Hp) (o i v:V) (ov iv u:Value) (Q:Hp->Prop),Inv X pins σ H s->RelV o ov->RelV i iv->RelV v u->t o i v H Q ->
  Aw (AE X.prog X.w) X.A (setItem ov iv u) (λ_ s'=>∃H',Inv X pins σ H' s'/\Q H') X.xe s
noncomputable abbrev TIp:=V->V->Hp->VK->Prop
noncomputable def PIp(X:Cx)(op:Operator)(t:TIp):Prop :=
 ∀(pins:List (Addr×Obj)) (s:Af) (σ:St) (H:Hp) (x y:V) (v u:Value) (Q:VK),Inv X pins σ H s->RelV x v->RelV y u->t x y H Q ->
  Aw (AE X.prog X.w) X.A (inplaceOp op v u) (EP X pins σ Q) X.xe s
section
variable {X:Cx}{pos:Pos}
noncomputable def gName(i:Nat):TG:=λv σ H Q=>Q (σ.set i (some v)) H
theorem zdl{i:Nat}{x:Str}(hN:X.N.Nodup)(hi:X.N[i]?=some x)(hx:Loc X.env.scope x)(hf:X.fn x=true∨X.env.scope.names.lookup x=some .local:=by first |exact .inl rfl |exact .inr rfl |assumption):PG X (.Name x pos) (gName i):=by intro pins s σ H v u Q I r h;exact wpAny_assign_Name (zfG I hN hi hx r (λs' I'=>⟨_,H,I',h⟩) hf)
noncomputable def gNil:TGs:=λvs σ H Q=>vs=[]/\Q σ H
noncomputable def gCons(t:TG)(u:TGs):TGs:=λvs σ H Q=>∃v r,vs=v::r/\t v σ H λσ' H'=>u r σ' H' Q
theorem zat:PGs X [] gNil:=by
 intro pins s σ H vs us Q I r h;obtain⟨e,h⟩:=h;subst e
 cases r
 exact assignInOrder_nil ⟨σ,H,I,h⟩
theorem zaf{e:Expr}{es:List Expr}{t:TG}{u:TGs}(h1:PG X e t)(h2:PGs X es u)
  (hs:(CM (e::es) X.env).map (·.2)=assign e X.env::(CM es X.env).map (·.2):=by rfl):PGs X (e::es) (gCons t u):=by
 intro pins s σ H vs us Q I r h;obtain⟨v,vr,e1,h⟩:=h;subst e1
 cases r with
 |cons r rr =>
  rw[hs];refine assignInOrder_cons (thn (h1 pins s σ H _ _ _ I r h) λ_ s1 ⟨σ1,H1,I1,q1⟩=>?_);exact h2 pins s1 σ1 H1 _ _ Q I1 rr q1
noncomputable def gTup(K:W.Frag)(n:Nat)(t:TGs):TG:=λv σ H Q=>∃a xs,v=.ref a/\SqT K H a xs/\xs.length=n/\t xs σ H Q
theorem zba{es:List Expr}{k:Nat}{t:TGs}{n:Nat}(hc:X.calm=true)(h:PGs X es t)
  (hn:(CM es X.env).length=n:=by rfl) (hst:(CM es X.env).findIdx? (·.1)=none:=by rfl):PG X (.Tuple es k pos) (gTup X.K n t):=by
 intro pins s σ H v u Q I r hw;obtain⟨a,xs,e1,hq,hl,hw⟩:=hw;subst e1
 cases r
 obtain⟨its,rv,ht,hz⟩:=I.tuple hq;refine assign_Tuple_tuple (I.ok.hd hc) ht (by simp[hn,<- hl,rv.length]) hst λh' hx=>?_
 have I1:Inv X pins σ H { s with heap:=h' }:=I.kept (t':=s.toks) λb o e=>hx b o (A3 (AD e)) e
 exact h pins _ σ H xs _ Q I1 (by simpa using rv) hw
noncomputable def gSub(to ti:TE)(t:TSet):TG:=λv σ H Q=>to σ H λo H1=>ti σ H1 λi H2=>t o i v H2 λH3=>Q σ H3
theorem zn8{o i:Expr}{to ti:TE}{t:TSet}(ho:PE X o to)(hi:PE X i ti)(hs:PSet X t)
  (ha:∀v,assign (.Subscript o i pos) X.env v=(do
   let ov <- holding [v] (eval o X.env)
   let iv <- holding [v,ov] (eval i X.env)
   standAt pos
   holding [v,ov,iv] (setItem ov iv v)
   release [v,ov,iv] []):=by intro _;rfl):PG X (.Subscript o i pos) (gSub to ti t):=by
 intro pins s σ H v u Q I r h;rw[ha];refine Ad (Br (thn (ho pins s σ H _ I h) λov s1 ⟨x,H1,I1,r1,q1⟩=>?_));refine Ad (Br (thn (hi pins s1 σ H1 _ I1 q1) λiv s2 ⟨y,H2,I2,r2,q2⟩=>?_));refine Ad (DH (Ad (Br (thn (hs pins s2 σ H2 x y v ov iv u _ I2 r1 r2 r q2) λ_ s3 ⟨H3,I3,q3⟩=>?_))));exact wpAny_release ⟨σ,H3,I3,q3⟩
noncomputable def tAsg(te:TE)(g:TG):TS:=λD σ H=>te σ H λx H1=>g x σ H1 D.nx
theorem zbm{tg e:Expr}{te:TE}{g:TG}(he:PE X e te)(hg:PG X tg g)(hs:swapsWithSole [tg] e pos.line X.env=pure false := by rfl)(hw:swappedStores [tg] e X.env=pure none := by rfl)
  (h1:(CM [tg] X.env).map (·.2)=[assign tg X.env]:=by rfl):PS X (.Assign [tg] e pos) (tAsg te g):=by
 intro pins s σ H D I h;refine wpAny_Assign_stores (thn (he pins s σ H _ I h) λv s1 ⟨x,H1,I1,r1,q1⟩=>?_) hs hw;rw[h1];exact thn (hg pins s1 σ H1 x v _ I1 r1 q1) λ_ s2 q=>q
theorem zgS{i:Nat}{x:Str}{e:Expr}{te:TE}{pos':Pos}(hN:X.N.Nodup)(hi:X.N[i]? = some x)(hx:Loc X.env.scope x)(he:PE X e te)(hs:swapsWith e (some (.Name x pos')) pos.line X.env=pure false := by rfl)(hf:X.fn x=true ∨ X.env.scope.names.lookup x=some .local := by first |exact .inl rfl |exact .inr rfl |assumption) :
  PS X (.Assign [.Name x pos'] e pos) (tAsg te (gName i)):=by
 intro pins s σ H D I h;refine wpAny_Assign_Name (thn (he pins s σ H _ I h) λv s1 ⟨y,H1,I1,r1,q1⟩=>?_) hs;exact zfG I1 hN hi hx r1 (λs2 I2=>⟨_,H1,I2,q1⟩) hf
noncomputable def tAug(i:Nat)(te:TE)(ti:TIp):TS:=λD σ H=>∃x,σ[i]?=some (some x)/\te σ H λy H1=>ti x y H1 λz H2=>D.nx (σ.set i (some z)) H2
theorem zn7{i:Nat}{x:Str}{e:Expr}{te:TE}{op:Operator}{ti:TIp}{pos':Pos}(hN:X.N.Nodup)(hi:X.N[i]? = some x)(hx:Loc X.env.scope x)(he:PE X e te)(ho:PIp X op ti)(hf:X.fn x=true ∨ X.env.scope.names.lookup x=some .local := by first |exact .inl rfl |exact .inr rfl |assumption) :
  PS X (.AugAssign (.Name x pos') op e pos) (tAug i te ti):=by
 intro pins s σ H D I h;obtain⟨v,e1,h⟩:=h;obtain⟨m,hn,hl⟩:=I.loc;have vis:Vis X.env.scope x:=by rcases hx with k |k;exact .inl k;exact .inr (.inl k)
 obtain⟨u,r,l⟩:=hl i x v hi e1 vis;refine wpAny_AugAssign_Name ?_
 have go:Aw (AE X.prog X.w) X.A (eval e X.env) (λw s₂=>Aw (AE X.prog X.w) X.A (inplaceOp op u w) (λr s₃=>Aw (AE X.prog X.w) X.A (storeName X.env x r) (λ_=>SP X pins D .next) X.xe s₃) X.xe s₂) X.xe s:=by
  refine thn (he pins s σ H _ I h) λw s1 ⟨y,H1,I1,r1,q1⟩=>?_
  refine thn (ho pins s1 σ H1 v y u w _ I1 r r1 q1) λz s2 ⟨zv,H2,I2,r2,q2⟩=>?_
  exact zfG I2 hN hi hx r2 (λs3 I3=>⟨_,H2,I3,q2⟩) hf
 rcases l with⟨hk,hm⟩ |⟨hk,c,hc,hcell⟩
 .exact wpAny_loadName_local I.ok.kind hk hn hm go
 .rcases hk with hk |hk
  .exact wpAny_loadName_cell I.ok.kind hk hc hcell go
  .rcases hx with k |k
   .have:X.env.scope.names.lookup x=some .free:=hk;rw[k]at this;cases this
   .have:X.env.scope.names.lookup x=some .free:=hk;rw[k]at this;cases this
noncomputable def ipI(f:Int->Int->Int):TIp:=λx y H Q=>∃i j,x=.int i/\y=.int j/\Q (.int (f i j)) H
theorem zoq:PIp X .Add (ipI λi j=>i+j):=by intro pins s σ H x y v u Q I r1 r2 h;obtain⟨i,j,e1,e2,q⟩:=h;subst e1;subst e2;obtain⟨t,rfl⟩:=r1;obtain⟨t',rfl⟩:=r2;exact iadd_int ⟨.int _,H,I.tok _,⟨_,rfl⟩,q⟩
end
section
variable {X:Cx}{pos:Pos}
noncomputable def zml(c:TT)(tb:TS):TS:=λD σ H=>∃W:Nat->St->Hp->Prop,(∃m,W m σ H)/\∀m σ H,W m σ H ->
 c σ H λb H1=>if b=true then ∃N:St->Hp->Prop,(∀ σ' H',N σ' H'->∃m',m'<m/\W m' σ' H')/\tb { D with nx:=N,ct:=N,bk:=D.nx } σ H1 else D.nx σ H1
theorem zfW{c:Expr}{body:List Stmt}{tc:TT}{tb:TS}(hp:PassesOwn (AE X.prog X.w) X.A X.env X.xe)(hc:PT X c tc)(hb:PSs X body tb):PS X (.While c body [] pos) (zml tc tb):=by
 intro pins s σ H D I h;obtain⟨W,⟨m0,w0⟩,turn⟩:=h;refine wpAny_While (codeAny_whileLoop (λn s'=>∃ σ' H',Inv X pins σ' H' s'/\W n σ' H') ?_ m0 ⟨σ,H,I,w0⟩);rintro n s1 ⟨σ1,H1,I1,w1⟩;refine C9 hp (thn (hc pins s1 σ1 H1 _ I1 (turn n σ1 H1 w1)) λb s2 ⟨H2,I2,q2⟩=>?_)
 cases b with
 |true =>
  obtain⟨N,hN,q2⟩:=q2;rw[if_pos rfl];refine C9 hp (thn (hb pins s2 σ1 H2 _ I2 q2) λf s3 q3=>?_)
  cases f with
  |next =>
   obtain⟨σ3,H3,I3,n3⟩:=q3;obtain⟨m',hm,w3⟩:=hN σ3 H3 n3;exact⟨m',hm,σ3,H3,I3,w3⟩
  |cont =>
   obtain⟨σ3,H3,I3,n3⟩:=q3;obtain⟨m',hm,w3⟩:=hN σ3 H3 n3;exact⟨m',hm,σ3,H3,I3,w3⟩
  |brk=>exact q3
  |ret v=>exact q3
 |false =>
  rw[if_neg AX];exact wpAny_execs_nil ⟨σ1,H2,I2,q2⟩
end
structure It where
 go:Nat->Hp->Prop
 yld:Nat->Hp->V->Hp->Prop
 stop:Nat->Hp->Prop
noncomputable def FpOk(X:Cx)(pins:List (Addr×Obj))(H:Hp)(b:Addr):Prop :=
 H b=none/\b≠X.env.locals/\b ∉ X.fs/\(b∈X.ex∨X.s₀.heap.objs.size<=b)/\(∀x c,X.env.cells.lookup x=some c->c≠b)/\∀p∈X.pn++pins,p.1≠b
theorem Inv.fpOk{X:Cx}{pins:List (Addr×Obj)}{σ:St}{H H':Hp}{s:Af}{b:Addr}(I:Inv X pins σ H s)(hb:s.heap.objs.size<=b)(hn:H' b=none):FpOk X pins H' b:=by
 refine⟨hn,Dc (AJ I.lt hb),I.nofs hb,.inr (AV I.sz hb),λx c e z=>?_,λp hp z=>?_⟩
 .obtain⟨v,q⟩:=I.cell x c e;exact absurd (AJ q.lt (by rw[z];exact hb)) (CU _)
 .exact absurd (AJ (AD (I.pin p hp).1) (by rw[z];exact hb)) (CU _)
structure Turn (P:AF) (w:A7) (K:W.Frag) (tg:Expr) (J:It) (fp:List Addr) (it:Addr) (tn:Nat->Heap->Prop):Prop where
 mem:it∈fp
 obj:∀i h,tn i h->∀b∈fp,∃o,h.get? b=some o/\∀v,o.data≠.cell v
 keep:∀i h h',tn i h->(∀b∈fp,∀o,h.get? b=some o->h'.get? b=some o)->tn i h'
 item:∀(X:Cx),X.prog=P->X.w=w->X.K=K->X.calm=true->∀(i:Nat) (pins:List (Addr×Obj)) (s:Af) (σ:St) (H:Hp) (E:Value->Af->Prop),Inv X pins σ H s->(∀b∈fp,FpOk X pins H b)->tn i s.heap->J.go i H ->
  Aw (AE P w) X.A (pyNext (.ref it)) (λr s1=>∃u,r=some u /\
   Aw (AE P w) X.A (Da tg (.ref it) u) (λ_ s2=>∃x H',Inv X pins σ H' s2/\RelV x u/\J.yld i H x H'/\tn (i+1) s2.heap/\∀b∈fp,H' b=none) E s1) E s
 done:∀(X:Cx),X.prog=P->X.w=w->X.K=K->X.calm=true->∀(i:Nat) (pins:List (Addr×Obj)) (s:Af) (σ:St) (H:Hp) (E:Value->Af->Prop),Inv X pins σ H s->(∀b∈fp,FpOk X pins H b)->tn i s.heap->J.stop i H ->
  Aw (AE P w) X.A (pyNext (.ref it)) (λr s1=>r=none/\Inv X pins σ H s1) E s
 self:∀(A:AS) (i:Nat) (s:Af) (Q:Value->Af->Prop) (E:Value->Af->Prop),tn i s.heap->Q (.ref it) s->Aw (AE P w) A (pyIter (.ref it)) Q E s
noncomputable abbrev TI:=St->Hp->(It->Hp->Prop)->Prop
noncomputable def PIE(X:Cx)(pins:List (Addr×Obj))(σ:St)(tg:Expr)(R:It->Hp->Prop)(itv:Value)(s2:Af):Prop :=
 ∃(it:Addr) (fp:List Addr) (tn:Nat->Heap->Prop) (J:It) (H':Hp),itv=.ref it/\Inv X pins σ H' s2/\Turn X.prog X.w X.K tg J fp it tn/\tn 0 s2.heap/\(∀b∈fp,FpOk X pins H' b)/\R J H'
noncomputable def PI(X:Cx)(tg iter:Expr)(wi:TI):Prop :=
 ∀(pins:List (Addr×Obj)) (s:Af) (σ:St) (H:Hp) (R:It->Hp->Prop),Inv X pins σ H s->wi σ H R ->
  Aw (AE X.prog X.w) X.A (eval iter X.env) (λv s1=>Aw (AE X.prog X.w) X.A (pyIter v) (PIE X pins σ tg R) X.xe s1) X.xe s
theorem go_of {M : Ey}{A : AS}{E : Value → Af → Prop}{s : Af}{tg : Expr}{it : Addr}{u : Value}{o : Obj}{n : String}{vs : Array Value}{Q : Unit → Af → Prop}(ho : s.heap.get? it = some o) (hc : o.cls = .type n) (hd : o.data = .fields vs)
    (hn:["enumerate","zip","dict_itemiterator","dict_reverseitemiterator","odict_iterator","itertools.zip_longest","itertools.pairwise"].contains n=false) (hQ:Q () s):Aw M A (Da tg (.ref it) u) Q E s:=by
  unfold Da
  cases tg <;> first
    | exact Ak hQ
    | (cases u <;> first
        | exact Ak hQ
        | (refine Ad (wpAny_load ho ?_)
           rw[hc,hd]
           show Aw M A (if (["enumerate","zip","dict_itemiterator","dict_reverseitemiterator","odict_iterator","itertools.zip_longest","itertools.pairwise"].contains n && vs[0]? == some (DO _))=true then _ else _) Q E s
           rw[if_neg (by intro h;rw[hn,Bool.false_and] at h;cases h)]
           exact Ak hQ))
noncomputable def Itl(K:W.Frag)(a:Addr):It :=
 ⟨λi H=>∃xs x,SqL K H a xs/\xs[i]?=some x,λi H x H'=>H'=H/\∀xs,SqL K H a xs->xs[i]?=some x,λi H=>∃xs,SqL K H a xs/\xs.length<=i⟩
noncomputable def Itt(K:W.Frag)(a:Addr):It :=
 ⟨λi H=>∃xs x,SqT K H a xs/\xs[i]?=some x,λi H x H'=>H'=H/\∀xs,SqT K H a xs->xs[i]?=some x,λi H=>∃xs,SqT K H a xs/\xs.length<=i⟩
noncomputable def Itr(lo:Int)(n:Nat):It:=⟨λi _=>i<n,λi H x H'=>H'=H/\x=.int (lo+i),λi _=>n<=i⟩
theorem zjR{P:AF}{w:A7}{K:W.Frag}{tg:Expr}(a it:Addr):Turn P w K tg (Itl K a) [it] it (λi h=>h.IsListIter it a i) where
 mem:=by simp
 obj:=λi h st b hb=>by
  have e:b=it:=by simpa using hb
  subst e;obtain⟨o,e,c,d⟩:=st;exact⟨o,e,λv z=>by rw[d]at z;cases z⟩
 keep:=λi h h' st k=>st.at λo e=>k it (by simp) o e
 item:=by
  intro X hP hw hK hc i pins s σ H E I hf st hg;subst hP hw hK;obtain⟨xs,x,hq,hx⟩:=hg;obtain⟨its,rv,p,hz⟩:=I.list hq;obtain⟨u,hu,ru⟩:=rv.get hx;obtain⟨f0,f1,f2,f3,f4,f5⟩:=hf it (by simp);refine wpAny_pyNext_list_item st p.isList (x:=u) (by simpa using hu) λh' st' sb=>?_
  have I1:Inv X pins σ H { s with heap:=h' }:=I.turned (t':=s.toks) (λb o hb e=>(sb.2 b hb).trans e) f0 f1 f3 f4 f5;obtain⟨o,e,c,d⟩:=id st';exact⟨u,rfl,go_of (s:={ s with heap:=h' }) e c d (by decide) ⟨x,H,I1,ru,⟨rfl,λys hy=>by rw[I.list_inj hy hq];exact hx⟩,st',λb hb=>(hf b hb).1⟩⟩
 done:=by intro X hP hw hK hc i pins s σ H E I hf st hg;subst hP hw hK;obtain⟨xs,hq,hx⟩:=hg;obtain⟨its,rv,p,hz⟩:=I.list hq;obtain⟨f0,f1,f2,f3,f4,f5⟩:=hf it (by simp);have hl:=rv.length;exact wpAny_pyNext_list_end (I.ok.hd hc) st p.isList (by simp;lia) λh' eb=>⟨rfl,I.turned (t':=s.toks) (λb o hb e=>eb b o hb e) f0 f1 f3 f4 f5⟩
 self:=λ_ _ _ _ _ st h=>wpAny_pyIter_listiter st h
theorem zjb{P:AF}{w:A7}{K:W.Frag}{tg:Expr}(a it:Addr):Turn P w K tg (Itt K a) [it] it (λi h=>h.IsTupleIter it a i) where
 mem:=by simp
 obj:=λi h st b hb=>by
  have e:b=it:=by simpa using hb
  subst e;obtain⟨o,e,c,d⟩:=st;exact⟨o,e,λv z=>by rw[d]at z;cases z⟩
 keep:=λi h h' st k=>st.at λo e=>k it (by simp) o e
 item:=by
  intro X hP hw hK hc i pins s σ H E I hf st hg;subst hP hw hK;obtain⟨xs,x,hq,hx⟩:=hg;obtain⟨its,rv,p,hz⟩:=I.tuple hq;obtain⟨u,hu,ru⟩:=rv.get hx;obtain⟨f0,f1,f2,f3,f4,f5⟩:=hf it (by simp);refine wpAny_pyNext_tuple_item st (show s.heap.IsTuple a its.toArray from p) (x:=u) (by simpa using hu) λh' st' sb=>?_
  have I1:Inv X pins σ H { s with heap:=h' }:=I.turned (t':=s.toks) (λb o hb e=>(sb.2 b hb).trans e) f0 f1 f3 f4 f5;obtain⟨o,e,c,d⟩:=id st';exact⟨u,rfl,go_of (s:={ s with heap:=h' }) e c d (by decide) ⟨x,H,I1,ru,⟨rfl,λys hy=>by rw[I.tuple_inj hy hq];exact hx⟩,st',λb hb=>(hf b hb).1⟩⟩
 done:=by intro X hP hw hK hc i pins s σ H E I hf st hg;subst hP hw hK;obtain⟨xs,hq,hx⟩:=hg;obtain⟨its,rv,p,hz⟩:=I.tuple hq;obtain⟨f0,f1,f2,f3,f4,f5⟩:=hf it (by simp);have hl:=rv.length;exact wpAny_pyNext_tuple_end (I.ok.hd hc) st (show s.heap.IsTuple a its.toArray from p) (by simp;lia) λh' eb=>⟨rfl,I.turned (t':=s.toks) (λb o hb e=>eb b o hb e) f0 f1 f3 f4 f5⟩
 self:=λ_ _ _ _ _ st h=>wpAny_pyIter_tupleiter st h
theorem zjc{P:AF}{w:A7}{K:W.Frag}{tg:Expr}(it:Addr)(lo:Int)(n:Nat):Turn P w K tg (Itr lo n) [it] it (λi h=>IsRangeIter h it (lo+(i:Nat)*1) ((n:Int)-(i:Nat)) 1) where
 mem:=by simp
 obj:=λi h st b hb=>by
  have e:b=it:=by simpa using hb
  subst e
  exact⟨_,st,λv z=>by
   have z':Data.fields _=Data.cell v:=z
   cases z'⟩
 keep:=λi h h' st k=>k it (by simp) _ st
 item:=by
  intro X hP hw hK hc i pins s σ H E I hf st hg;subst hP hw hK;obtain⟨f0,f1,f2,f3,f4,f5⟩:=hf it (by simp);have W:=Walks.range (prog:=X.prog) (w:=X.w) (I.ok.hd hc) it lo 1 n;refine W.item i s _ _ hg st λv h' tk hv st' kk=>?_
  obtain⟨t,rfl⟩:=hv;have I1:Inv X pins σ H { s with heap:=h',toks:=tk }:=I.turned (λb o hb e=>kk b o (by simpa using hb) e) f0 f1 f3 f4 f5;refine⟨_,rfl,go_of (s:={ s with heap:=h',toks:=tk }) (n:="range_iterator") st' rfl rfl (by decide) ⟨.int (lo+i),H,I1,⟨t,?_⟩,⟨rfl,rfl⟩,st',λb hb=>(hf b hb).1⟩⟩;rw[Int.mul_one]
 done:=by intro X hP hw hK hc i pins s σ H E I hf st hg;subst hP hw hK;obtain⟨f0,f1,f2,f3,f4,f5⟩:=hf it (by simp);exact wpAny_pyNext_range_end (I.ok.hd hc) st (by have:n<=i:=hg;lia) λh' eb=>⟨rfl,I.turned (t':=s.toks) (λb o hb e=>eb b o hb e) f0 f1 f3 f4 f5⟩
 self:=λ_ _ _ _ _ st h=>wpAny_pyIter_rangeiter st h
section
variable {X:Cx}{tg:Expr}
noncomputable def iList(K:W.Frag)(tl:TE):TI:=λσ H R=>tl σ H λx H1=>∃a,x=.ref a/\(∃xs,SqL K H1 a xs)/\R (Itl K a) H1
noncomputable def iTup(K:W.Frag)(tl:TE):TI:=λσ H R=>tl σ H λx H1=>∃a,x=.ref a/\(∃xs,SqT K H1 a xs)/\R (Itt K a) H1
theorem zaU{l:Expr}{tl:TE}(hl:PE X l tl):PI X tg l (iList X.K tl):=by
 intro pins s σ H R I h;refine thn (hl pins s σ H _ I h) λv s1 ⟨x,H1,I1,r1,q1⟩=>?_
 obtain⟨a,e,⟨xs,hq⟩,q⟩:=q1;subst e
 cases r1
 obtain⟨its,rv,p,hz⟩:=I1.list hq;refine DM p.isList ?_
 refine⟨s1.heap.objs.size,[s1.heap.objs.size],_,_,H1,rfl,I1.kept (t':=s1.toks) λb o e=>Ah _ e,zjR a _,⟨_,AC _ rfl,rfl,rfl⟩,λb hb=>?_,q⟩;have e:b=s1.heap.objs.size:=by simpa using hb
 subst e;exact I1.fpOk (Ai _) (I1.hok.fresh (Ai _))
theorem zgT{l:Expr}{tl:TE}(hl:PE X l tl):PI X tg l (iTup X.K tl):=by
 intro pins s σ H R I h;refine thn (hl pins s σ H _ I h) λv s1 ⟨x,H1,I1,r1,q1⟩=>?_
 obtain⟨a,e,⟨xs,hq⟩,q⟩:=q1;subst e
 cases r1
 obtain⟨its,rv,p,hz⟩:=I1.tuple hq;refine wpAny_pyIter_tuple (show s1.heap.IsTuple a its.toArray from p) ?_
 refine⟨s1.heap.objs.size,[s1.heap.objs.size],_,_,H1,rfl,I1.kept (t':=s1.toks) λb o e=>Ah _ e,zjb a _,⟨_,AC _ rfl,rfl,rfl⟩,λb hb=>?_,q⟩;have e:b=s1.heap.objs.size:=by simpa using hb
 subst e;exact I1.fpOk (Ai _) (I1.hok.fresh (Ai _))
theorem zlK{pins:List (Addr × Obj)}{σ : St}{H:Hp}{s:Af}{R:It -> Hp -> Prop}{E:Value -> Af -> Prop}{lo hi:Int}{t u v:Tok}{tk:Nat}(I:Inv X pins σ H s)(h1 : -(2 ^ 62) <= lo)(h2:lo < 2 ^ 62)(h3 : -(2 ^ 62) <= hi)(h4:hi < 2 ^ 62)
  (q:R (Itr lo (hi-lo).toNat) H):Aw (AE X.prog X.w) X.A (pyIter (.ref s.heap.objs.size)) (PIE X pins σ tg R) E { s with heap:=s.heap.push { cls:=.type "range",data:=.fields #[.int lo t,.int hi u,.int 1 v] },toks:=tk }:=by
 refine wpAny_pyIter_range (IsRange.new ..) (small_one h1 h2 h3 h4) ?_
 have I1:Inv X pins σ H { s with heap:=s.heap.push { cls:=.type "range",data:=.fields #[.int lo t,.int hi u,.int 1 v] },toks:=tk }:=I.kept λb o e=>Ah _ e
 refine⟨(s.heap.push { cls:=.type "range",data:=.fields #[.int lo t,.int hi u,.int 1 v] }).objs.size,[(s.heap.push { cls:=.type "range",data:=.fields #[.int lo t,.int hi u,.int 1 v] }).objs.size],_,_,H,rfl,
  I1.kept (t':=tk) λb o e=>Ah _ e,zjc _ lo (hi-lo).toNat,?_,λb hb=>?_,q⟩
 .have e1:lo+((0:Nat):Int)*1=lo:=by simp
  have e2:(((hi-lo).toNat:Nat):Int)-((0:Nat):Int)=Builtin.Range.rangeSize lo hi 1:=by rw[rangeSize_one];split <;> lia
  show IsRangeIter _ _ (lo+((0:Nat):Int)*1) ((((hi-lo).toNat:Nat):Int)-((0:Nat):Int)) 1;rw[e1,e2];exact AC _ rfl
 .have e:b=(s.heap.push { cls:=.type "range",data:=.fields #[.int lo t,.int hi u,.int 1 v] }).objs.size:=by simpa using hb
  subst e;exact I1.fpOk (Ai _) (I1.hok.fresh (Ai _))
noncomputable def iRng1(ta:TA):TI:=λσ H R=>ta σ H λvs H1=>∃j:Int,vs=[.int j]/\-(2 ^ 62)<=j/\j<2 ^ 62/\R (Itr 0 j.toNat) H1
theorem zbX {a:Expr}{ta:TA}{p pos:Pos}(hg:Gl X "range") (hm:X.mg "range" = none) (ha:PA X [a] ta) (hs:Bw [a] X.env=[(false,eval a X.env)]:=by rfl):PI X tg (.Call (.Name "range" p) [a] [] pos) (iRng1 ta):=by
 intro pins s σ H R I h;refine Call_ (zeN I hg hm boot_range (DN (thn (ha pos pins s σ H _ I h) λus s1 ⟨vs,H1,I1,r1,q1⟩=>?_) hs rfl));obtain⟨j,e,q1,q2,q⟩:=q1;subst e
 cases r1 with
 |cons r rr =>
  cases rr
  obtain⟨t,rfl⟩:=r;exact call_range_1 (zlK I1 (by lia) (by lia) q1 q2 (by simpa using q))
noncomputable def tFor(wi:TI)(g:TG)(tb:TS):TS:=λD σ H=>wi σ H λJ H1=>∃W:Nat->Nat->St->Hp->Prop,(∃m,W 0 m σ H1)/\∀i m σ H,W i m σ H ->
 (J.stop i H/\D.nx σ H)∨(J.go i H/\∃N:St->Hp->Prop,(∀ σ' H',N σ' H'->∃m',m'<m/\W (i+1) m' σ' H')/\∀x H',J.yld i H x H'->g x σ H' λσ2 H2=>tb { D with nx:=N,ct:=N,bk:=D.nx } σ2 H2)
noncomputable def zdZ(fp:List Addr)(h:Heap):List (Addr×Obj):=fp.filterMap λb=>(h.get? b).map λo=>(b,o)
theorem za4{fp:List Addr}{h:Heap}{b:Addr}{o:Obj}(hb:b∈fp)(e:h.get? b=some o):(b,o)∈zdZ fp h:=List.mem_filterMap.mpr ⟨b,hb,by rw[e];rfl⟩
theorem zkD{fp:List Addr}{h:Heap}{p:Addr×Obj}(hp:p∈zdZ fp h):p.1∈fp/\h.get? p.1=some p.2:=by
 obtain⟨b,hb,e⟩:=List.mem_filterMap.mp hp
 cases q:h.get? b with
 |none=>rw[q]at e;cases e
 |some o =>
  rw[q]at e;have e':(b,o)=p:=A0 e;subst e';exact⟨hb,q⟩
theorem Inv.pinned{pins:List (Addr×Obj)}{σ:St}{H:Hp}{s:Af}{fp:List Addr}(I:Inv X pins σ H s)(hf:∀b∈fp,FpOk X pins H b)(ho:∀b∈fp,∃o,s.heap.get? b=some o/\∀v,o.data≠.cell v):Inv X (pins++zdZ fp s.heap) σ H s :=
 I.pins_of λp hp=>(Az.mp hp).elim (λz=>I.pin p (At _ z)) λz=>by obtain⟨hb,e⟩:=zkD z;obtain⟨f0,f1,f2,_⟩:=hf p.1 hb;obtain⟨o,e',d⟩:=ho p.1 hb;rw[e]at e';cases e';exact⟨e,f0,f1,f2,d⟩
theorem Inv.unpinned{pins pl:List (Addr×Obj)}{σ:St}{H:Hp}{s:Af}(I:Inv X (pins++pl) σ H s):Inv X pins σ H s:=I.pins_of λp hp=>I.pin p (At _ (Bt _ hp))
theorem zb6{iter:Expr}{body:List Stmt}{wi:TI}{g:TG}{tb:TS}{pos:Pos}(hp:PassesOwn (AE X.prog X.w) X.A X.env X.xe)(hc:X.calm=true)(hi:PI X tg iter wi)(hg:PG X tg g)(hb:PSs X body tb)
  (hs:∀x,BU iter X.env x=pure x:=by intro _;rfl):PS X (.For tg iter body [] pos) (tFor wi g tb):=by
 intro pins s σ H D I h;refine wpAny_For (thn (hi pins s σ H _ I h) λv s1 h1=>thn h1 λitv s2 h2=>?_) hs;obtain⟨it,fp,tn,J,H2,e,I2,T,st2,f2,W,⟨m0,w0⟩,turn⟩:=h2;subst e;have stat:∀{H':Hp},(∀b∈fp,H' b=none)->∀b∈fp,FpOk X pins H' b:=λhn b hb=>⟨hn b hb,(f2 b hb).2⟩
 refine codeAny_forLoop_any (λn s'=>∃i σ' H',Inv X pins σ' H' s'/\tn i s'.heap/\(∀b∈fp,H' b=none)/\W i n σ' H') ?_ m0 ⟨0,σ,H2,I2,st2,λb hb=>(f2 b hb).1,w0⟩;rintro n s3 ⟨i,σ3,H3,I3,st3,fr3,w3⟩;rcases turn i n σ3 H3 w3 with⟨stop,qn⟩ |⟨go,N,hN,step⟩
 .refine C9 hp (thn (T.done X rfl rfl rfl hc i pins s3 σ3 H3 X.xe I3 (stat fr3) st3 stop) λr s4 ⟨hr,I4⟩=>?_);subst hr;exact wpAny_execs_nil ⟨σ3,H3,I4,qn⟩
 .refine C9 hp (thn (T.item X rfl rfl rfl hc i pins s3 σ3 H3 X.xe I3 (stat fr3) st3 go) λr s4 ⟨u,hr,h4⟩=>?_);subst hr;refine C9 hp (thn h4 λ_ s5 ⟨x,H5,I5,r5,y5,st5,fr5⟩=>?_);have I5':=I5.pinned (stat fr5) (T.obj _ _ st5);refine C9 hp (thn (hg _ s5 σ3 H5 x u _ I5' r5 (step x H5 y5)) λ_ s6 ⟨σ6,H6,I6,q6⟩=>?_);refine C9 hp (thn (hb _ s6 σ6 H6 _ I6 q6) λf s7 q7=>?_)
  have again:∀{σ7:St} {H7:Hp},Inv X (pins++zdZ fp s5.heap) σ7 H7 s7->N σ7 H7->∃m,m<n/\∃i σ' H',Inv X pins σ' H' s7/\tn i s7.heap/\(∀b∈fp,H' b=none)/\W i m σ' H':=λ{σ7 H7} I7 n7=>by obtain⟨m',hm,w7⟩:=hN σ7 H7 n7;refine⟨m',hm,i+1,σ7,H7,I7.unpinned,T.keep _ _ _ st5 λb hb o e=>(I7.pin (b,o) (At _ (At _ (za4 hb e)))).1,λb hb=>?_,w7⟩;obtain⟨o,e,d⟩:=T.obj _ _ st5 b hb;exact (I7.pin (b,o) (At _ (At _ (za4 hb e)))).2.1
  cases f with
  |next=>obtain⟨σ7,H7,I7,n7⟩:=q7;exact again I7 n7
  |cont=>obtain⟨σ7,H7,I7,n7⟩:=q7;exact again I7 n7
  |brk=>obtain⟨σ7,H7,I7,q7⟩:=q7;exact⟨σ7,H7,I7.unpinned,q7⟩
  |ret v=>obtain⟨x7,σ7,H7,I7,r7,q7⟩:=q7;exact⟨x7,σ7,H7,I7.unpinned,r7,q7⟩
end
theorem zaH{K:W.Frag}{a:Addr}{xs:List V}{g:TG}{tb:TS}{D:Ends}{σ : St}{H:Hp}(Pv:Nat -> St -> Hp -> Prop)(h0:Pv 0 σ H)(hl:∀i σ H, i <= xs.length -> Pv i σ H -> SqL K H a xs)
  (hs:∀i x σ H,xs[i]?=some x->Pv i σ H->g x σ H λσ2 H2=>tb { D with nx:=Pv (i+1),ct:=Pv (i+1),bk:=D.nx } σ2 H2) (hd:∀ σ H,Pv xs.length σ H->D.nx σ H) :
  ∃W:Nat->Nat->St->Hp->Prop,(∃m,W 0 m σ H)/\∀i m σ H,W i m σ H ->
   ((Itl K a).stop i H/\D.nx σ H)∨((Itl K a).go i H/\∃N:St->Hp->Prop,(∀ σ' H',N σ' H'->∃m',m'<m/\W (i+1) m' σ' H')/\∀x H',(Itl K a).yld i H x H'->g x σ H' λσ2 H2=>tb { D with nx:=N,ct:=N,bk:=D.nx } σ2 H2):=by
 refine⟨λi m σ H=>m=xs.length-i/\i<=xs.length/\Pv i σ H,⟨xs.length,by simp,AT _,h0⟩,?_⟩;rintro i m σ H ⟨rfl,hi,p⟩;have q:=hl i σ H hi p
 by_cases hlt:i<xs.length
 .refine .inr ⟨⟨xs,xs[i],q,by simp[hlt]⟩,Pv (i+1),λσ' H' p'=>⟨xs.length-(i+1),by lia,rfl,hlt,p'⟩,λx H' y=>?_⟩;obtain⟨e,y⟩:=y;subst e;exact hs i x σ _ (y xs q) p
 .have e:i=xs.length:=by lia
  subst e;exact .inl ⟨⟨xs,q,Ai _⟩,hd σ H p⟩
theorem zeP{K:W.Frag}{a:Addr}{xs:List V}{g:TG}{tb:TS}{D:Ends}{σ : St}{H:Hp}(Pv:Nat -> St -> Hp -> Prop)(h0:Pv 0 σ H)(hl:∀i σ H, i <= xs.length -> Pv i σ H -> SqT K H a xs)
  (hs:∀i x σ H,xs[i]?=some x->Pv i σ H->g x σ H λσ2 H2=>tb { D with nx:=Pv (i+1),ct:=Pv (i+1),bk:=D.nx } σ2 H2) (hd:∀ σ H,Pv xs.length σ H->D.nx σ H) :
  ∃W:Nat->Nat->St->Hp->Prop,(∃m,W 0 m σ H)/\∀i m σ H,W i m σ H ->
   ((Itt K a).stop i H/\D.nx σ H)∨((Itt K a).go i H/\∃N:St->Hp->Prop,(∀ σ' H',N σ' H'->∃m',m'<m/\W (i+1) m' σ' H')/\∀x H',(Itt K a).yld i H x H'->g x σ H' λσ2 H2=>tb { D with nx:=N,ct:=N,bk:=D.nx } σ2 H2):=by
 refine⟨λi m σ H=>m=xs.length-i/\i<=xs.length/\Pv i σ H,⟨xs.length,by simp,AT _,h0⟩,?_⟩;rintro i m σ H ⟨rfl,hi,p⟩;have q:=hl i σ H hi p
 by_cases hlt:i<xs.length
 .refine .inr ⟨⟨xs,xs[i],q,by simp[hlt]⟩,Pv (i+1),λσ' H' p'=>⟨xs.length-(i+1),by lia,rfl,hlt,p'⟩,λx H' y=>?_⟩;obtain⟨e,y⟩:=y;subst e;exact hs i x σ _ (y xs q) p
 .have e:i=xs.length:=by lia
  subst e;exact .inl ⟨⟨xs,q,Ai _⟩,hd σ H p⟩
theorem zb0{lo:Int}{n:Nat}{g:TG}{tb:TS}{D:Ends}{σ : St}{H:Hp}(Pv:Nat -> St -> Hp -> Prop)(h0:Pv 0 σ H)
  (hs:∀i σ H,i<n->Pv i σ H->g (.int (lo+i)) σ H λσ2 H2=>tb { D with nx:=Pv (i+1),ct:=Pv (i+1),bk:=D.nx } σ2 H2) (hd:∀ σ H,Pv n σ H->D.nx σ H) :
  ∃W:Nat->Nat->St->Hp->Prop,(∃m,W 0 m σ H)/\∀i m σ H,W i m σ H ->
   ((Itr lo n).stop i H/\D.nx σ H)∨((Itr lo n).go i H/\∃N:St->Hp->Prop,(∀ σ' H',N σ' H'->∃m',m'<m/\W (i+1) m' σ' H')/\∀x H',(Itr lo n).yld i H x H'->g x σ H' λσ2 H2=>tb { D with nx:=N,ct:=N,bk:=D.nx } σ2 H2):=by
 refine⟨λi m σ H=>m=n-i/\i<=n/\Pv i σ H,⟨n,by simp,AT _,h0⟩,?_⟩;rintro i m σ H ⟨rfl,hi,p⟩
 by_cases hlt:i<n
 .refine .inr ⟨hlt,Pv (i+1),λσ' H' p'=>⟨n-(i+1),by lia,rfl,hlt,p'⟩,λx H' y=>?_⟩;obtain⟨e,y⟩:=y;subst e y;exact hs i σ _ hlt p
 .have e:i=n:=by lia
  subst e;exact .inl ⟨Ai _,hd σ H p⟩
theorem zlw{c:TT}{tb:TS}{D:Ends}{σ : St}{H:Hp}(Pv:St -> Hp -> Prop)(μ : St -> Hp -> Nat)(h0:Pv σ H)
  (hs:∀ σ H,Pv σ H->c σ H λb H1=>if b=true then tb { D with nx:=λσ' H'=>Pv σ' H'/\μ σ' H'<μ σ H,ct:=λσ' H'=>Pv σ' H'/\μ σ' H'<μ σ H,bk:=D.nx } σ H1 else D.nx σ H1)
  (mono:∀ σ H Q Q',(∀b H1,Q b H1->Q' b H1)->c σ H Q->c σ H Q'):zml c tb D σ H:=by
 refine⟨λm σ H=>m=μ σ H/\Pv σ H,⟨_,rfl,h0⟩,?_⟩;rintro m σ H ⟨rfl,p⟩;refine mono σ H _ _ (λb H1 q=>?_) (hs σ H p)
 cases b with
 |true=>exact⟨_,λσ' H' ⟨p',l⟩=>⟨_,l,rfl,p'⟩,q⟩
 |false=>exact q
noncomputable abbrev R2:=V->V->Hp->VK->Prop
noncomputable def OpR(X:Cx)(f:Value->Value->Sem Value)(r:R2):Prop :=
 ∀(pins:List (Addr×Obj)) (s:Af) (σ:St) (H:Hp) (x y:V) (v u:Value) (Q:VK),Inv X pins σ H s->RelV x v->RelV y u->r x y H Q ->
  Aw (AE X.prog X.w) X.A (f v u) (EP X pins σ Q) X.xe s
noncomputable def UnR(X:Cx)(f:Value->Sem Value)(r:V->Hp->VK->Prop):Prop :=
 ∀(pins:List (Addr×Obj)) (s:Af) (σ:St) (H:Hp) (x:V) (v:Value) (Q:VK),Inv X pins σ H s->RelV x v->r x H Q ->
  Aw (AE X.prog X.w) X.A (f v) (EP X pins σ Q) X.xe s
noncomputable def CallR(X:Cx)(f:Value)(r:List V->Hp->VK->Prop):Prop :=
 ∀(pins:List (Addr×Obj)) (s:Af) (σ:St) (H:Hp) (xs:List V) (us:List Value) (Q:VK),Inv X pins σ H s->Vals xs us->r xs H Q ->
  Aw (AE X.prog X.w) X.A (call f us) (EP X pins σ Q) X.xe s
noncomputable def TruR(X:Cx)(r:V->Hp->(Bool->Hp->Prop)->Prop):Prop :=
 ∀(pins:List (Addr×Obj)) (s:Af) (σ:St) (H:Hp) (x:V) (v:Value) (Q:Bool->Hp->Prop),Inv X pins σ H s->RelV x v->r x H Q ->
  Aw (AE X.prog X.w) X.A (truthy v) (TP X pins σ Q) X.xe s
noncomputable def tOp(r:R2)(ta tb:TE):TE:=λσ H Q=>ta σ H λx H1=>tb σ H1 λy H2=>r x y H2 Q
noncomputable def tUn(r:V->Hp->VK->Prop)(ta:TE):TE:=λσ H Q=>ta σ H λx H1=>r x H1 Q
noncomputable def rI(C:Int->Int->Prop)(g:Int->Int->V):R2:=λx y H Q=>∃i j,x=.int i/\y=.int j/\C i j/\Q (g i j) H
noncomputable def rI0(g:Int->Int->V):R2:=λx y H Q=>∃i j,x=.int i/\y=.int j/\Q (g i j) H
noncomputable def rU(g:Int->V):V->Hp->VK->Prop:=λx H Q=>∃i,x=.int i/\Q (g i) H
section
variable {X:Cx}{a b c:Expr}{ta tb tc:TE}{pos:Pos}
theorem binT(ha:PE X a ta)(hb:PE X b tb){pins:List (Addr × Obj)}{s:Af}{σ : St}{H:Hp}{R:V -> V -> Hp -> Prop}(I:Inv X pins σ H s)
  (h:ta σ H λx H1=>tb σ H1 λy H2=>R x y H2) {Q:Value->Af->Prop} {f:Value->Value->Sem Value}
  (hf:∀v u s2 x y H2,Inv X pins σ H2 s2->RelV x v->RelV y u->R x y H2->Aw (AE X.prog X.w) X.A (f v u) Q X.xe s2) :
  Aw (AE X.prog X.w) X.A (eval a X.env) (λv s₁=>Aw (AE X.prog X.w) X.A (eval b X.env) (λu s₂=>Aw (AE X.prog X.w) X.A (f v u) Q X.xe s₂) X.xe s₁) X.xe s:=by
 refine thn (ha pins s σ H _ I h) λv s1 ⟨x,H1,I1,r1,q1⟩=>?_
 refine thn (hb pins s1 σ H1 _ I1 q1) λu s2 ⟨y,H2,I2,r2,q2⟩=>?_
 exact hf v u s2 x y H2 I2 r1 r2 q2
theorem pe_op{op:Operator}{r:R2}(ho:OpR X (CO op) r)(ha:PE X a ta)(hb:PE X b tb):PE X (.BinOp a op b pos) (tOp r ta tb):=by intro pins s σ H Q I h;exact wpAny_BinOp (binT ha hb I h λv u s2 x y H2 I2 rx ry q=>ho pins s2 σ H2 x y v u Q I2 rx ry q)
theorem pe_un{op:UnaryOp}{r:V->Hp->VK->Prop}(ho:UnR X (unaryOp op) r)(ha:PE X a ta):PE X (.UnaryOp op a pos) (tUn r ta):=by intro pins s σ H Q I h;exact UnaryOp_ (thn (ha pins s σ H _ I h) λv s1 ⟨x,H1,I1,r1,q1⟩=>ho pins s1 σ H1 x v Q I1 r1 q1)
theorem opI{f:Value -> Value -> Sem Value}{C:Int -> Int -> Prop}{g:Int -> Int -> Int}
  (rule:∀(i j:Int) (t u:Tok) (s:Af) (Q:Value->Af->Prop) (E:Value->Af->Prop),C i j->Q (.int (g i j) s.toks) { s with toks:=s.toks+1 }->Aw (AE X.prog X.w) X.A (f (.int i t) (.int j u)) Q E s) :
  OpR X f (rI C λi j=>.int (g i j)):=by
 intro pins s σ H x y v u Q I rx ry h;obtain⟨i,j,rfl,rfl,hc,q⟩:=h;obtain⟨t,rfl⟩:=rx;obtain⟨t',rfl⟩:=ry;exact rule i j t t' s _ _ hc ⟨.int (g i j),H,I.tok _,⟨_,rfl⟩,q⟩
theorem opI0{f:Value -> Value -> Sem Value}{g:Int -> Int -> Int}
  (rule:∀(i j:Int) (t u:Tok) (s:Af) (Q:Value->Af->Prop) (E:Value->Af->Prop),Q (.int (g i j) s.toks) { s with toks:=s.toks+1 }->Aw (AE X.prog X.w) X.A (f (.int i t) (.int j u)) Q E s) :
  OpR X f (rI0 λi j=>.int (g i j)):=by
 intro pins s σ H x y v u Q I rx ry h;obtain⟨i,j,rfl,rfl,q⟩:=h;obtain⟨t,rfl⟩:=rx;obtain⟨t',rfl⟩:=ry;exact rule i j t t' s _ _ ⟨.int (g i j),H,I.tok _,⟨_,rfl⟩,q⟩
theorem opB0{f:Value -> Value -> Sem Value}{g:Int -> Int -> Bool}
  (rule:∀(i j:Int) (t u:Tok) (s:Af) (Q:Value->Af->Prop) (E:Value->Af->Prop),Q (.bool (g i j)) s->Aw (AE X.prog X.w) X.A (f (.int i t) (.int j u)) Q E s) :
  OpR X f (rI0 λi j=>.bl (g i j)):=by
 intro pins s σ H x y v u Q I rx ry h;obtain⟨i,j,rfl,rfl,q⟩:=h;obtain⟨t,rfl⟩:=rx;obtain⟨t',rfl⟩:=ry;exact rule i j t t' s _ _ ⟨.bl (g i j),H,I,rfl,q⟩
noncomputable def CDiv(i j:Int):Prop:=0<j/\j<1073741824
noncomputable def CPow(i j:Int):Prop:=0<=j/\j<=1000000/\i.natAbs<2 ^ 64
noncomputable def CMul(i j:Int):Prop:=(-(2 ^ 64)<i/\i<2 ^ 64)∨(-(2 ^ 64)<j/\j<2 ^ 64)
theorem CMul.ok{i j:Int}(h:CMul i j):IntMulOk i j:=by
 rcases h with⟨h1,h2⟩ |⟨h1,h2⟩
 .exact .of_left (intBits_le_64 h1 h2)
 .exact .of_right (intBits_le_64 h1 h2)
theorem zaL:OpR X (CO .Add) (rI0 λi j=>.int (i+j)):=opI0 λ_ _ _ _ _ _ _ q=>add_int q
theorem zda:OpR X (CO .Sub) (rI0 λi j=>.int (i-j)):=opI0 λ_ _ _ _ _ _ _ q=>sub_int q
theorem zbt:OpR X (CO .Mult) (rI CMul λi j=>.int (i*j)):=opI λ_ _ _ _ _ _ _ hc q=>mul_int q hc.ok
theorem zhQ:OpR X (CO .FloorDiv) (rI CDiv λi j=>.int (i / j)):=opI λi j _ _ _ _ _ hc q=>by have h1:(0:Int)<j:=hc.1;have h2:j<1073741824:=hc.2;exact floordiv_int (by lia) (by rw[Int.fdiv_eq_ediv_of_nonneg i (by lia)];exact q) (.inl (PyProof.noPylong_small (by lia)))
theorem zaS:OpR X (CO .Mod) (rI (λ_ j=>0<j) λi j=>.int (i % j)):=opI λi j _ _ _ _ _ hc q=>by have h1:(0:Int)<j:=hc;exact mod_int' (by lia) (by rw[Int.fmod_eq_emod_of_nonneg i (by lia)];exact q)
theorem zkz:OpR X (CO .Pow) (rI CPow λi j=>.int (i ^ j.toNat)):=opI λ_ _ _ _ _ _ _ hc q=>pow_int_small hc.1 hc.2.1 hc.2.2 q
theorem unI{f:Value -> Sem Value}{g:Int -> Int}
  (rule:∀(i:Int) (t:Tok) (s:Af) (Q:Value->Af->Prop) (E:Value->Af->Prop),Q (.int (g i) s.toks) { s with toks:=s.toks+1 }->Aw (AE X.prog X.w) X.A (f (.int i t)) Q E s) :
  UnR X f (rU λi=>.int (g i)):=by
 intro pins s σ H x v Q I rx h;obtain⟨i,rfl,q⟩:=h;obtain⟨t,rfl⟩:=rx;exact rule i t s _ _ ⟨.int (g i),H,I.tok _,⟨_,rfl⟩,q⟩
theorem zcF:UnR X (unaryOp .USub) (rU λi=>.int (-i)):=unI λ_ _ _ _ _ q=>neg_int q
end
noncomputable def scal:V->V->Bool
 |.non,.non=>true |.non,.int _=>true |.int _,.non=>true |.non,.bl _=>true |.bl _,.non=>true |.non,.str _=>true |.str _,.non=>true
 |.int _,.int _=>true |.bl _,.bl _=>true |.str _,.str _=>true |.byt _,.byt _=>true
 |.int _,.str _=>true |.str _,.int _=>true |.bl _,.str _=>true |.str _,.bl _=>true
 |_,_=>false
noncomputable def rEq:R2:=λx y H Q=>scal x y=true/\Q (.bl (decide (x=y))) H
noncomputable def rNe:R2:=λx y H Q=>scal x y=true/\Q (.bl (!decide (x=y))) H
theorem zlb{i j:Int}:decide (V.int i=V.int j)=(i == j):=by rw[Ei];simp
theorem zmL{i j:Bool}:decide (V.bl i=V.bl j)=(i == j):=by rw[Ei];simp
theorem zla{i j:Str}:decide (V.str i=V.str j)=(i == j):=by rw[Ei];simp
theorem zlc{i j:Array UInt8}:decide (V.byt i=V.byt j)=(i.toList == j.toList):=by
 rw[Ei]
 cases i
 cases j
 simp
section
variable {X:Cx}{a b c:Expr}{ta tb tc:TE}{pos:Pos}
theorem zaI{pins:List (Addr×Obj)}{σ:St}{H:Hp}{s:Af}{Q:VK}{k k':Bool}(I:Inv X pins σ H s)(q:Q (.bl k) H)(e:k=k'):EP X pins σ Q (.bool k') s:=by subst e;exact⟨.bl k,H,I,rfl,q⟩
theorem op_eq:OpR X (BX .Eq) rEq:=by
 intro pins s σ H x y v u Q I rx ry h;obtain⟨hs,q⟩:=h
 cases x with
 |non =>
  cases rx
  cases y with
  |non=>cases ry;exact PySem.EqNone.eq_none_none (zaI I q (by simp))
  |bl j=>cases ry;exact PySem.EqNone.eq_none_bool (zaI I q (by simp))
  |int j=>obtain⟨t',rfl⟩:=ry;exact PySem.EqNone.eq_none_int (zaI I q (by simp))
  |str j=>obtain⟨t',rfl⟩:=ry;exact PySem.EqNone.eq_none_str (zaI I q (by simp))
  |_=>exact absurd (show false=true from hs) AX
 |bl i =>
  cases rx
  cases y with
  |non=>cases ry;exact PySem.EqNone.eq_bool_none (zaI I q (by simp))
  |bl j=>cases ry;exact eq_bool (zaI I q zmL)
  |str j=>obtain⟨t',rfl⟩:=ry;exact PySem.EqMixed.eq_bool_str (zaI I q (by simp))
  |_=>exact absurd (show false=true from hs) AX
 |int i =>
  obtain⟨t,rfl⟩:=rx
  cases y with
  |non=>cases ry;exact PySem.EqNone.eq_int_none (zaI I q (by simp))
  |int j=>obtain⟨t',rfl⟩:=ry;exact eq_int (zaI I q zlb)
  |str j=>obtain⟨t',rfl⟩:=ry;exact PySem.EqMixed.eq_int_str (zaI I q (by simp))
  |_=>exact absurd (show false=true from hs) AX
 |str i =>
  obtain⟨t,rfl⟩:=rx
  cases y with
  |non=>cases ry;exact PySem.EqNone.eq_str_none (zaI I q (by simp))
  |bl j=>cases ry;exact PySem.EqMixed.eq_str_bool (zaI I q (by simp))
  |int j=>obtain⟨t',rfl⟩:=ry;exact PySem.EqMixed.eq_str_int (zaI I q (by simp))
  |str j=>obtain⟨t',rfl⟩:=ry;exact eq_str (zaI I q zla)
  |_=>exact absurd (show false=true from hs) AX
 |byt i =>
  obtain⟨t,rfl⟩:=rx
  cases y with
  |byt j=>obtain⟨t',rfl⟩:=ry;exact W.eq_bytes (zaI I q zlc)
  |_=>exact absurd (show false=true from hs) AX
 |_=>cases y <;> exact absurd (show false=true from hs) AX
theorem op_ne:OpR X (BX .NotEq) rNe:=by
 intro pins s σ H x y v u Q I rx ry h;obtain⟨hs,q⟩:=h
 cases x with
 |non =>
  cases rx
  cases y with
  |non=>cases ry;exact PySem.EqNone.ne_none_none (zaI I q (by simp))
  |bl j=>cases ry;exact PySem.EqNone.ne_none_bool (zaI I q (by simp))
  |int j=>obtain⟨t',rfl⟩:=ry;exact PySem.EqNone.ne_none_int (zaI I q (by simp))
  |str j=>obtain⟨t',rfl⟩:=ry;exact PySem.EqNone.ne_none_str (zaI I q (by simp))
  |_=>exact absurd (show false=true from hs) AX
 |bl i =>
  cases rx
  cases y with
  |non=>cases ry;exact PySem.EqNone.ne_bool_none (zaI I q (by simp))
  |bl j=>cases ry;exact ne_bool (zaI I q (congrArg not zmL))
  |str j=>obtain⟨t',rfl⟩:=ry;exact PySem.EqMixed.ne_bool_str (zaI I q (by simp))
  |_=>exact absurd (show false=true from hs) AX
 |int i =>
  obtain⟨t,rfl⟩:=rx
  cases y with
  |non=>cases ry;exact PySem.EqNone.ne_int_none (zaI I q (by simp))
  |int j=>obtain⟨t',rfl⟩:=ry;exact ne_int (zaI I q (congrArg not zlb))
  |str j=>obtain⟨t',rfl⟩:=ry;exact PySem.EqMixed.ne_int_str (zaI I q (by simp))
  |_=>exact absurd (show false=true from hs) AX
 |str i =>
  obtain⟨t,rfl⟩:=rx
  cases y with
  |non=>cases ry;exact PySem.EqNone.ne_str_none (zaI I q (by simp))
  |bl j=>cases ry;exact PySem.EqMixed.ne_str_bool (zaI I q (by simp))
  |int j=>obtain⟨t',rfl⟩:=ry;exact PySem.EqMixed.ne_str_int (zaI I q (by simp))
  |str j=>obtain⟨t',rfl⟩:=ry;exact ne_str (zaI I q (congrArg not zla))
  |_=>exact absurd (show false=true from hs) AX
 |byt i =>
  obtain⟨t,rfl⟩:=rx
  cases y with
  |byt j=>obtain⟨t',rfl⟩:=ry;exact W.ne_bytes (zaI I q (congrArg not zlc))
  |_=>exact absurd (show false=true from hs) AX
 |_=>cases y <;> exact absurd (show false=true from hs) AX
theorem op_lt:OpR X (BX .Lt) (rI0 λi j=>.bl (decide (i<j))):=opB0 λ_ _ _ _ _ _ _ q=>lt_int q
theorem op_le:OpR X (BX .LtE) (rI0 λi j=>.bl (decide (i<=j))):=opB0 λ_ _ _ _ _ _ _ q=>le_int q
theorem op_gt:OpR X (BX .Gt) (rI0 λi j=>.bl (decide (j<i))):=opB0 λ_ _ _ _ _ _ _ q=>gt_int q
theorem op_ge:OpR X (BX .GtE) (rI0 λi j=>.bl (decide (j<=i))):=opB0 λ_ _ _ _ _ _ _ q=>ge_int q
theorem zgY:OpR X (BX .In) (λx y H Q=>∃i j,x=.str i/\y=.str j/\Q (.bl (!(Ca j i 0 j.length 1).isEmpty)) H):=by intro pins s σ H x y v u Q I rx ry h;obtain⟨i,j,rfl,rfl,q⟩:=h;obtain⟨t,rfl⟩:=rx;obtain⟨t',rfl⟩:=ry;exact in_str (zaI I q rfl)
theorem ziK:OpR X (BX .Is) (λx y H Q=>y=.non/\Q (.bl (decide (x=.non))) H):=by
 intro pins s σ H x y v u Q I rx ry h;obtain⟨rfl,q⟩:=h
 cases ry
 refine is_none_gen (zaI I q ?_)
 cases x <;> first
  | (cases rx;rfl)
  | (obtain⟨t,rfl⟩:=rx;rfl)
theorem zdT:OpR X (BX .IsNot) (λx y H Q=>y=.non/\Q (.bl (!decide (x=.non))) H):=by
 intro pins s σ H x y v u Q I rx ry h;obtain⟨rfl,q⟩:=h
 cases ry
 refine isnot_none_gen (zaI I q ?_)
 cases x <;> first
  | (cases rx;rfl)
  | (obtain⟨t,rfl⟩:=rx;rfl)
theorem zaq(b:Expr){op:CmpOp}(h:op≠.In:=by decide)(h2:op≠.NotIn:=by decide):behindInMarks op b=false:=by
 have e1:(op == CmpOp.In)=false:=by cases op <;> first |rfl |exact absurd rfl h
 have e2:(op == CmpOp.NotIn)=false:=by cases op <;> first |rfl |exact absurd rfl h2
 cases b <;> simp[behindInMarks,e1,e2]
theorem zbc{op:CmpOp}{r:R2}(ho:OpR X (BX op) r)(ha:PE X a ta)(hb:PE X b tb)(hm:behindInMarks op b=false):PE X (.Compare a [op] [b] pos) (tOp r ta tb):=by intro pins s σ H Q I h;exact wpAny_Compare1 (binT ha hb I h λv u s2 x y H2 I2 rx ry q=>ho pins s2 σ H2 x y v u Q I2 rx ry q) hm
noncomputable def tTest(t:TE):TT:=λσ H Q=>t σ H λx H'=>∃k,x=.bl k/\Q k H'
theorem zap{op:CmpOp}{r:R2}(ho:OpR X (BX op) r)(ha:PE X a ta)(hb:PE X b tb)(hm:behindInMarks op b=false):PT X (.Compare a [op] [b] pos) (tTest (tOp r ta tb)):=by
 intro pins s σ H Q I h
 refine wpAny_isTrue_Compare1 (thn (ha pins s σ H _ I h) λv s1 ⟨x,H1,I1,r1,q1⟩=>thn (hb pins s1 σ H1 _ I1 q1) λu s2 ⟨y,H2,I2,r2,q2⟩ =>
  thn (ho pins s2 σ H2 x y v u _ I2 r1 r2 q2) λc s3 ⟨z,H3,I3,r3,k,e,q3⟩=>?_) hm
 subst e
 cases r3
 exact B4 ⟨H3,I3,q3⟩
noncomputable def TruV(K:W.Frag)(x:V)(H:Hp)(k:Bool):Prop :=
 match x with
 |.non=>k=false
 |.bl b=>k=b
 |.int i=>k=(i != 0)
 |.str y=>y.length<=sizeLine/\k=((y.length:Int) != 0)
 |.byt y=>y.size<=sizeLine/\k=((y.size:Int) != 0)
 |.ref p=>(∃xs,SqL K H p xs/\k=!xs.isEmpty)∨(∃xs,SqT K H p xs/\k=!xs.isEmpty)∨∃kvs,H p=some (.dK kvs)/\k=!kvs.isEmpty
 |_=>False
theorem zjB{κ:Type}{kvs:List (κ×V)}{vs:List (κ×Value)}(r:KV kvs vs):(!vs.isEmpty)=!kvs.isEmpty:=by
 cases r <;> rfl
theorem zfy{xs:List V}{its:List Value}(r:Vals xs its):(!its.toArray.isEmpty)=!xs.isEmpty:=by
 cases r <;> simp
theorem zeL:(sizeLine:Nat)<2 ^ 63:=by rw[sizeLine_eq];decide
theorem znI:TruR X (λx H Q=>∃k,TruV X.K x H k/\Q k H):=by
 intro pins s σ H x v Q I rx h;obtain⟨k,e,q⟩:=h;have hl:=zeL;have hs:sizeLine=16777216:=sizeLine_eq
 cases x with
 |non =>
  cases rx
  have e':k=false:=e;subst e';exact truthy_none ⟨H,I,q⟩
 |bl b =>
  cases rx
  have e':k=b:=e;subst e';exact B4 ⟨H,I,q⟩
 |int i =>
  obtain⟨t,rfl⟩:=rx;have e':k=(i != 0):=e;subst e';exact PySem.P.truthy_int ⟨H,I,q⟩
 |str y =>
  obtain⟨t,rfl⟩:=rx;obtain⟨hy,e'⟩:y.length<=sizeLine/\k=((y.length:Int) != 0):=e;subst e';exact PySem.P.truthy_str (by lia) ⟨H,I.tok _,q⟩
 |byt y =>
  obtain⟨t,rfl⟩:=rx;obtain⟨hy,e'⟩:y.size<=sizeLine/\k=((y.size:Int) != 0):=e;subst e';exact W.truthy_bytes (by lia) ⟨H,I.tok _,q⟩
 |ref p =>
  cases rx
  have e':(∃xs,SqL X.K H p xs/\k=!xs.isEmpty)∨(∃xs,SqT X.K H p xs/\k=!xs.isEmpty)∨∃kvs,H p=some (.dK kvs)/\k=!kvs.isEmpty:=e;rcases e' with⟨xs,hx,e'⟩ |⟨xs,hx,e'⟩ |⟨kvs,hx,e'⟩
  .subst e';obtain⟨its,r,pl,hz⟩:=I.list hx;have hlen:=r.length;exact wpAny_truthy_list pl.isList (by simp only[As];lia) ⟨H,I.tok _,by rw[zfy r];exact q⟩
  .subst e';obtain⟨its,r,pl,hz⟩:=I.tuple hx;have hlen:=r.length;exact truthy_tuple pl (by simp only[As];lia) ⟨H,I.tok _,by rw[zfy r];exact q⟩
  .subst e';obtain⟨hz,hS,vs,r,m⟩:kvs.length<=sizeLine/\(p == Cr)=false/\∃vs,KV kvs vs/\s.heap.DictOf (zaD X.prog X.w) p vs:=I.hok p _ hx;have hlen:kvs.length=vs.length:=D8 r;exact wpAny_truthy_dict hS m (by lia) ⟨H,I.tok _,by rw[zjB r];exact q⟩
 |_=>exact (show False from e).elim
theorem zef(ha:PE X a ta)(he:∀whole, isTrue a X.env whole=(do let v <- whole; standAt a.pos; holding [v] (truthy v))) :
  PT X a (λσ H Q=>ta σ H λx H'=>∃k,TruV X.K x H' k/\Q k H'):=by
 intro pins s σ H Q I h;exact isTrue_plain (thn (ha pins s σ H _ I h) λv s1 ⟨x,H1,I1,r1,q1⟩=>znI pins s1 σ H1 x v Q I1 r1 q1) (he _)
theorem vals1{x:V}{us:List Value}(r:Vals [x] us):∃u,us=[u]/\RelV x u:=by
 cases r with
 |cons r1 r2=>cases r2;exact⟨_,rfl,r1⟩
theorem vals2{x y:V}{us:List Value}(r:Vals [x,y] us):∃u w',us=[u,w']/\RelV x u/\RelV y w':=by
 cases r with
 |cons r1 r2 =>
  cases r2 with
  |cons r3 r4=>cases r4;exact⟨_,_,rfl,r1,r3⟩
theorem zlo (hc:X.calm=true):CallR X (.builtin "min") (λxs H Q=>∃i j,xs=[.int i,.int j]/\Q (.int (if j<i then j else i)) H):=by
 intro pins s σ H xs us Q I r h;obtain⟨i,j,rfl,q⟩:=h;obtain⟨u,w',rfl,⟨t,rfl⟩,⟨t',rfl⟩⟩:=vals2 r;refine min_two_ints (I.ok.hd hc) λh' tk k=>⟨_,H,I.kept k,?_,q⟩
 by_cases hj:j<i
 .rw[if_pos hj,if_pos hj];exact⟨_,rfl⟩
 .rw[if_neg hj,if_neg hj];exact⟨_,rfl⟩
theorem zcZ:CallR X (.type "int") (λxs H Q=>(∃i,xs=[.int i]/\Q (.int i) H)∨∃k,xs=[.bl k]/\Q (.int (if k then 1 else 0)) H):=by
 intro pins s σ H xs us Q I r h;rcases h with⟨i,rfl,q⟩ |⟨k,rfl,q⟩
 .obtain⟨u,rfl,t,rfl⟩:=vals1 r;exact call_int_int ⟨.int i,H,I,⟨_,rfl⟩,q⟩
 .obtain⟨u,rfl,r1⟩:=vals1 r
  cases r1
  exact call_int_bool ⟨.int (if k then 1 else 0),H,I.tok _,⟨_,rfl⟩,q⟩
theorem zbo:CallR X (.type "str") (λxs H Q=>∃i,xs=[.int i]/\i.natAbs.log2<1920/\Q (.str (Bg i)) H):=by intro pins s σ H xs us Q I r h;obtain⟨i,rfl,hz,q⟩:=h;obtain⟨u,rfl,t,rfl⟩:=vals1 r;exact PySem.P.str_of_int hz ⟨.str _,H,I.tok _,⟨_,rfl⟩,q⟩
end
structure ObjM (h:Heap) (x dx C:Addr) (mA:Str->Option Value):Prop where
 obj:h.get? x=some (W.instObj C dx)
 ns:h.Ns1 dx mA
 ne:dx≠x
theorem zkO{h:Heap}{dx:Addr}{mA:Str->Option Value}(n:h.Ns1 dx mA):∃od,h.get? dx=some od/\∀name,W.lookIn name od=some (mA name):=by
 obtain⟨o,es,ep,ho,hd,hk,_,hm⟩:=n;refine⟨o,ho,λname=>?_⟩;have e:=hm name;unfold nsFind findBy at e;rw[<- Array.find?_toList]at e;unfold W.lookIn;rw[hd];dsimp only;split
 .rename_i y q
  rw[q]at e;exact congrArg some e
 .rename_i q
  rw[q]at e
  have a:es.toList.any (·.refKey)=false:=by rw[List.any_eq_false];intro y hy;obtain⟨z,t,hkey⟩:=hk y (Array.mem_toList_iff.mp hy);simp[DictEntry.refKey,hkey]
  have a':¬ es.toList.any (·.refKey)=true:=by rw[a];exact AX
  rw[if_neg a'];exact congrArg some e
theorem ObjM.look{h:Heap}{x dx C:Addr}{mA:Str->Option Value}(I:ObjM h x dx C mA):∃od,W.InstAt h x (W.instObj C dx) C (some od)/\∀name,W.lookIn name od=some (mA name) :=
 let ⟨od,ho,hl⟩:=zkO I.ns
 ⟨od,⟨I.obj,rfl,rfl,ho⟩,hl⟩
section
variable {prog:AF}{w:A7}{A:AS}{E:Value->Af->Prop}{s:Af}{K:W.Frag}{x dx C f:Addr}{mA:Str->Option Value}{name:Str}{v:Value}
end
section
variable {P:AF}{w:A7}{H H':Hp}{h h':Heap}{a C dx:Addr}{fs fs':List (Str×V)}
theorem znv(hok:HOk P w H h)(e:H a=some (.ins C dx fs)):∃mA,ObjM h a dx C mA/\(∀f,RelO (fs.lookup f) (mA f))/\PySem.Within mA (fs.map (·.1))/\fs.length<=1000/\H dx=some (.own a):=by obtain⟨d,z,ne,ob,mA,n,r,q⟩:=(show ObjOk P w H h a (.ins C dx fs) from hok a _ e);exact⟨mA,⟨ob,n,ne⟩,r,q,z,d⟩
end
structure Cls (K:W.Frag) (C:Addr):Prop where
 pg:W.plainGet K C Str.empty=true
 hd:W.hasDictIn K C=true
 po:W.plainOver K C=true
 sa:W.findIn K (.ref C) "__setattr__" = some (some (.builtin "object.__setattr__"))
theorem Cls.get{K:W.Frag}{C:Addr}(c:Cls K C)(f:Str):W.plainGet K C f=true:=c.pg
structure Con (K:W.Frag) (C:Addr) (f:Str) (v:V) (u:Value):Prop where
 at_:W.findIn K (.ref C) f=some (some u)
 rel:RelV v u
 get:W.specialIn K u "__get__" = some none
 cp:W.copiedNames.contains f=false
structure Meth (K:W.Frag) (C:Addr) (m:Str) (f:Addr):Prop where
 at_:W.findIn K (.ref C) m=some (some (.ref f))
 fn:W.isFn K (.ref f)=true
 kp:DP K (.ref f)=true
section
variable {X:Cx}{pins:List (Addr×Obj)}{σ:St}{H:Hp}{s:Af}{a C dx:Addr}{fs:List (Str×V)}{f:Str}{v:V}{A:AS}{E:Value->Af->Prop}
end
section
variable {X:Cx}{o e value:Expr}{f:Str}{pos pos' tpos:Pos}{ta tv:TE}
end
section
variable {X:Cx}{pins:List (Addr×Obj)}{σ:St}{H:Hp}{s:Af}{A:AS}{E:Value->Af->Prop}{Q:Value->Af->Prop}{c:Value}{b:Bool}
inductive TyOf (K:W.Frag) (H:Hp):V->Value->Prop where
  |non:TyOf K H .non (.type "NoneType")
  |bl (x:Bool):TyOf K H (.bl x) (.type "bool")
  |int (i:Int):TyOf K H (.int i) (.type "int")
  |str (x:Str):TyOf K H (.str x) (.type "str")
  |flt (x:UInt64):TyOf K H (.flt x) (.type "float")
  |lst {a:Addr} {xs:List V} (e:H a=some (.lst xs)):TyOf K H (.ref a) (.type "list")
  |frz {a:Addr} {o:Obj} {xs:List V} (e:H a=some (.frz o (.lst xs))):TyOf K H (.ref a) (.type "list")
  |tup {a:Addr} {xs:List V} (e:H a=some (.tup xs)):TyOf K H (.ref a) (.type "tuple")
  |dK {a:Addr} {kvs:List (Key×V)} (e:H a=some (.dK kvs)):TyOf K H (.ref a) (.type "dict")
  |dT {a:Addr} {kvs:List (List Key×V)} (e:H a=some (.dT kvs)):TyOf K H (.ref a) (.type "dict")
  |ins {a C dx:Addr} {fs:List (Str × V)} (e:H a=some (.ins C dx fs)) (cl:Cls K C) (ha:W.findIn K (.ref C) "__class__" = some (some (.builtin "object.__class__")))
      (hn:W.specialIn K (.builtin "object.__class__") "__get__" = some (some (.builtin "getset_descriptor.__get__"))) (htk:W.takesIn K (.builtin "object.__class__")=some true)
      (hm:W.mroIn K C (.type "object")=some true):TyOf K H (.ref a) (.ref C)
theorem zk0{x:V}{u t:Value}(I:Inv X pins σ H s)(rx:RelV x u)(ty:TyOf X.K H x t)(e:W.kitOne X.K t c=some b)(h:∀tk, Q (.bool b) { s with toks := tk }) :
  Aw (AE X.prog X.w) A (call (.builtin "isinstance") [u,c]) Q E s:=by
 cases ty with
 |non=>cases (show u=BY from rx);exact DI W.kitx_none I.kIn Di e (λz=>nomatch z) h
 |bl y=>cases (show u=Eo y from rx);exact DI W.kitx_bool I.kIn Di e (λz=>nomatch z) h
 |int i=>obtain⟨t,q⟩:=(show ∃t,u=DG i t from rx);cases q;exact DI W.kitx_int I.kIn Di e (λz=>nomatch z) h
 |str y=>obtain⟨t,q⟩:=(show ∃t,u=Value.str y t from rx);cases q;exact DI W.kitx_str I.kIn Di e (λz=>nomatch z) h
 |flt y=>obtain⟨t,q⟩:=(show ∃t,u=Value.float y t from rx);cases q;exact DI W.kitx_float I.kIn Di e (λz=>nomatch z) h
 |@lst a xs ea =>
  cases (show u=Au a from rx)
  obtain⟨_,_,n,_,h1⟩:=(show ObjOk X.prog X.w H s.heap a (.lst xs) from I.hok a _ ea);exact DI W.kitx_list I.kIn ⟨_,h1,rfl⟩ e (λz=>nomatch z) h
 |@frz a ob xs ea =>
  cases (show u=Au a from rx)
  obtain⟨_,_,_,n,_,h1⟩:=(show ObjOk X.prog X.w H s.heap a (.frz ob (.lst xs)) from I.hok a _ ea);exact DI W.kitx_list I.kIn ⟨_,h1,rfl⟩ e (λz=>nomatch z) h
 |@tup a xs ea =>
  cases (show u=Au a from rx)
  obtain⟨_,_,_,p⟩:=(show ObjOk X.prog X.w H s.heap a (.tup xs) from I.hok a _ ea);obtain⟨o,h1,h2,_⟩:=p;exact DI W.kitx_tuple I.kIn ⟨o,h1,h2⟩ e (λz=>nomatch z) h
 |@dK a kvs ea =>
  cases (show u=Au a from rx)
  obtain⟨_,_,vs,_,p⟩:=(show ObjOk X.prog X.w H s.heap a (.dK kvs) from I.hok a _ ea);obtain⟨o,es,ep,h1,h2,_⟩:=p;exact DI W.kitx_dict I.kIn ⟨o,h1,h2.1⟩ e (λz=>nomatch z) h
 |@dT a kvs ea =>
  cases (show u=Au a from rx)
  obtain⟨_,_,xs,_,o,es,ep,h1,h2,_⟩:=(show ObjOk X.prog X.w H s.heap a (.dT kvs) from I.hok a _ ea);exact DI W.kitx_dict I.kIn ⟨o,h1,h2.1⟩ e (λz=>nomatch z) h
 |@ins a C dx fs ea cl ha hn htk hm =>
  cases (show u=Au a from rx)
  obtain⟨mA,O,_⟩:=znv I.hok ea;obtain⟨od,J,_⟩:=O.look;exact DI (W.kitx_own (cl.get _) cl.hd ha hn htk hm) I.kIn J e (λz=>nomatch z) h
end
structure Room (k:Nat) (A:AS):Prop where
 hd:A.handled=none
 dp:A.depth+3*k+5<recursionLimit
 un:A.units+16*k+200<cLine
 gd:A.guards=some []
theorem Room.mono{j k:Nat}{A:AS}(r:Room k A)(h:j<=k):Room j A:=⟨r.hd,by have:=r.dp;lia,by have:=r.un;lia,r.gd⟩
theorem Room.deeper{k:Nat}{A:AS}(r:Room (k+1) A)(env:Env):Room k (A.deeper env) :=
 ⟨r.hd,by have:=r.dp;show A.depth+1+3*k+5<_;lia,by have:=r.un;show A.units+3+16*k+200<_;lia,r.gd⟩
theorem Room.in1{k:Nat}{A:AS}(r:Room (k+1) A):Room k A.in1 :=
 ⟨r.hd,by have:=r.dp;show A.depth+3*k+5<_;lia,by have:=r.un;show A.units+1+16*k+200<_;lia,r.gd⟩
theorem Room.depth{k:Nat}{A:AS}(r:Room k A):A.depth<recursionLimit:=by have:=r.dp;lia
theorem Room.units{k:Nat}{A:AS}(r:Room k A):A.units+64<cLine:=by have:=r.un;lia
noncomputable def tNil:TA:=λ_ H Q=>Q [] H
noncomputable def tCons(ta:TE)(tr:TA):TA:=λσ H Q=>ta σ H λx H1=>tr σ H1 λxs H2=>Q (x::xs) H2
section
variable {X:Cx}{e:Expr}{es:List Expr}{te:TE}{t:TA}{pos:Pos}
theorem zab:PA X [] tNil:=λ_ _ _ _ H Q I h=>Calls.spliced_nil ⟨[],H,I,.nil,h⟩
theorem zah(ha:PE X e te)(hr:PA X es t)(hs:Bw (e::es) X.env=(false,eval e X.env)::Bw es X.env:=by rfl):PA X (e::es) (tCons te t):=by intro pos pins s σ H Q I h;rw[hs];show Aw _ _ (spliced ((false,eval e X.env)::backTo pos (Bw es X.env))) _ _ s;refine Calls.spliced_cons (thn (ha pins s σ H _ I h) λu s1 ⟨x,H1,I1,r1,q1⟩=>?_);exact thn (hr pos pins s1 σ H1 _ I1 q1) λus s2 ⟨xs,H2,I2,r2,q2⟩=>⟨x::xs,H2,I2,.cons r1 r2,q2⟩
noncomputable def tTup(t:TA):TE:=λσ H Q=>t σ H λxs H1=>xs.length<=sizeLine/\∀p,H1 p=none->Q (.ref p) (upd H1 p (.tup xs))
noncomputable def tLst(t:TA):TE:=λσ H Q=>t σ H λxs H1=>xs.length<=sizeLine/\∀p,H1 p=none->Q (.ref p) (upd H1 p (.lst xs))
theorem zam{x1}(h:PA X es t):PE X (.Tuple es x1 pos) (tTup t):=by intro pins s σ H Q I hq;refine wpAny_Tuple_spliced (thn (h pos pins s σ H _ I hq) λus s1 ⟨xs,H1,I1,r,z,q⟩=>⟨by rw[<- r.length];exact z,?_⟩);have hf:H1 s1.heap.objs.size=none:=I1.hok.fresh (Ai _);refine⟨.ref s1.heap.objs.size,upd H1 s1.heap.objs.size (.tup xs),I1.laid (t':=s1.toks) (λb u e=>Ah _ e) (Ai _) ?_,rfl,q _ hf⟩;exact⟨z,us,r,⟨_,AC _ rfl,rfl,_,rfl⟩⟩
theorem zaV(h:PA X es t):PE X (.List es pos) (tLst t):=by intro pins s σ H Q I hq;refine wpAny_List_spliced (thn (h pos pins s σ H _ I hq) λus s1 ⟨xs,H1,I1,r,z,q⟩=>⟨by rw[<- r.length];exact z,?_⟩);have hf:H1 s1.heap.objs.size=none:=I1.hok.fresh (Ai _);refine⟨.ref s1.heap.objs.size,upd H1 s1.heap.objs.size (.lst xs),I1.laid (t':=s1.toks) (λb u e=>Ah _ e) (Ai _) ?_,rfl,q _ hf⟩;exact⟨z,us,0,r,AC _ rfl⟩
end
noncomputable abbrev Sp:=List V->Hp->VK->XK->Prop
noncomputable abbrev CXT:=List Env->Hp->Af->XK->Value->Af->Prop
structure Env0 (P:AF) (w:A7) (K:W.Frag) (mg:Str->Option Value) (base:Heap) (A:AS) (outer:List Env) (s:Af) (H:Hp):Prop where
 frames:A.frames=some outer
 mod:Mod K mg base
 bs:∀b o,base.get? b=some o->s.heap.get? b=some o/\H b=none
 bsz:base.objs.size<=s.heap.objs.size
 funs:s.heap.FunFrames base outer
 frf:∀b∈frs outer,H b=none
 hok:HOk P w H s.heap
 bare:AllBare s.gens
noncomputable def CE(outer:List Env)(P:AF)(w:A7)(H:Hp)(s:Af)(Q:VK)(u:Value)(s':Af):Prop :=
 ∃v H',s'.os=s.os/\AllBare s'.gens/\Un (frs outer) [] H H' s.heap s'.heap/\HOk P w H' s'.heap/\RelV v u/\Q v H'
noncomputable def CR(CX:CXT)(outer:List Env)(P:AF)(w:A7)(H:Hp)(s:Af)(Q:VK)(E:XK)(r:Result)(s':Af):Prop :=
 match r with
 |.ok (.ret u)=>CE outer P w H s Q u s'
 |.ok _=>False
 |.error e=>CX outer H s E e s'
structure FnOk (P:AF) (w:A7) (K:W.Frag) (mg:Str->Option Value) (base:Heap) (CX:CXT) (k:Nat) (f:Addr) (fd:BI) (ps:List Str) (sp:Sp):Prop where
 len:∀vs H Q E,sp vs H Q E->vs.length=ps.length
 run:∀(A:AS) (outer:List Env) (s:Af) (H:Hp) (args:Args) (us:List Value) (vs:List V) (Q:VK) (E:XK),Room k A->Env0 P w K mg base A outer s H->BindsTo s fd args (ps.zip us)->Vals vs us->sp vs H Q E ->
  C4 (AE P w) A (.call (.ref f) args) (CR CX outer P w H s Q E) s
theorem Env0.in1{P:AF}{w:A7}{K:W.Frag}{mg:Str -> Option Value}{base:Heap}{A:AS}{outer:List Env}{s:Af}{H:Hp}(e:Env0 P w K mg base A outer s H) :
  Env0 P w K mg base A.in1 outer s H:=⟨e.frames,e.mod,e.bs,e.bsz,e.funs,e.frf,e.hok,e.bare⟩
section
variable {X:Cx}{pins:List (Addr×Obj)}{σ:St}{H:Hp}{s s':Af}
theorem Inv.env0(I:Inv X pins σ H s):Env0 X.prog X.w X.K X.mg X.base X.A X.stack s H :=
 ⟨I.ok.frames,I.ok.mod,I.bs,AV I.ok.bsz I.sz,I.stack,I.stkFree,I.hok,I.bare⟩
theorem Inv.after{Q:VK}{u:Value}(I:Inv X pins σ H s)(h:CE X.stack X.prog X.w H s Q u s'):EP X pins σ Q u s':=by obtain⟨v,H',os,bare,un,hok,r,q⟩:=h;obtain⟨hh,g,d,t,os'⟩:=s';obtain rfl:os'=s.os:=os;exact⟨v,H',I.call (h':=hh) (g':=g) (d':=d) (t':=t) (ch:=[]) un hok bare (λb z=>absurd z (by simp)),r,q⟩
end
noncomputable def tCall(sp:Sp)(dvs:List V)(E:XK)(t:TA):TE:=λσ H Q=>t σ H λvs H1=>sp (vs++dvs) H1 Q E
noncomputable def Binds(K:W.Frag)(fd:BI)(ps:List Str)(ds:List Value):Prop :=
 ∀(s:Af) (us:List Value),K.In s.heap->(us++ds).length=ps.length->BindsTo s fd ⟨us,[]⟩ (ps.zip (us++ds))
theorem Binds.all{K:W.Frag}{fd:BI}{ps:List Str}(h:∀us:List Value,us.length=ps.length->D9 fd ⟨us,[]⟩=pure (ps.zip us)):Binds K fd ps []:=λs us _ hl=>by rw[Bk]at hl ⊢;exact .of_eq (h us hl)
noncomputable def zlq(CX:CXT)(X:Cx)(E:XK):Prop:=∀(pins:List (Addr×Obj)) (σ:St) (H:Hp) (s:Af) (e:Value) (s':Af),Inv X pins σ H s->CX X.stack H s E e s'->X.xe e s'
section
variable {X:Cx}{CX:CXT}{k:Nat}{f C:Addr}{fd:BI}{ps:List Str}{sp:Sp}{dvs:List V}{ds:List Value}{E:XK}{x m:Str}{p pos apos:Pos}{e o:Expr}{es:List Expr}{ta:TE}{t:TA}
theorem ziA{pins:List (Addr × Obj)}{σ : St}{H:Hp}{s:Af}{Q:VK}{us:List Value}{vs:List V}(F:FnOk X.prog X.w X.K X.mg X.base CX k f fd ps sp)(hr:Room k X.A)(hb:Binds X.K fd ps ds)(hd:Vals dvs ds)(hx:zlq CX X E)
  (I:Inv X pins σ H s) (r:Vals vs us) (h:sp (vs++dvs) H Q E):Aw (AE X.prog X.w) X.A (call (.ref f) us) (EP X pins σ Q) X.xe s:=by
 have r2:Vals (vs++dvs) (us++ds):=r.append hd;have hl:(us++ds).length=ps.length:=by rw[<- r2.length];exact F.len _ _ _ _ h
 refine wpAny_call (DW (F.run X.A X.stack s H ⟨us,[]⟩ (us++ds) (vs++dvs) Q E hr I.env0 (hb s us I.kIn hl) r2 h) λr s' hq=>?_)
 cases r with
 |error e=>exact hx pins σ H s e s' I hq
 |ok fl =>
  cases fl with
  |ret u=>exact I.after hq
  |next=>exact BN hq
  |brk=>exact BN hq
  |cont=>exact BN hq
theorem znj(F:FnOk X.prog X.w X.K X.mg X.base CX k f fd ps sp)(hr:Room k X.A)(hg:Gl X x)(hm:X.mg x=some (.ref f))(hk:DP X.K (.ref f)=true)(hb:Binds X.K fd ps ds)(hd:Vals dvs ds)(hx:zlq CX X E)
  (ha:PA X (e::es) t) (hdb:(x == ("__debug__" : Str))=false:=by decide) (he:Bw (e::es) X.env=(false,eval e X.env)::Bw es X.env:=by rfl) (hpl:(backTo pos (Bw es X.env)).any (·.1)=false:=by rfl) :
  PE X (.Call (.Name x p) (e::es) [] pos) (tCall sp dvs E t):=by
 intro pins s σ H Q I h;refine Cs (zkR I hg hm ?_ hdb);refine W.callWith_K (h₀:=X.base) I.ok.mod.kin hk (thn (ha pos pins s σ H _ I h) λus s1 ⟨vs,H1,I1,r,q⟩=>⟨I1.kIn,?_⟩) he hpl;exact ziA F hr hb hd hx I1 r q
structure Mk (K:W.Frag) (C f:Addr):Prop where
 makes:W.makesIn K C=true
 init:W.findIn K (.ref C) "__init__" = some (some (.ref f))
 fn:W.isFn K (.ref f)=true
 kp:DP K (.ref C)=true
end
noncomputable def PK(X:Cx)(kws:List Keyword)(t:TA):Prop :=
 ∀(pos:Pos) (pins:List (Addr×Obj)) (s:Af) (σ:St) (H:Hp) (Q:List V->Hp->Prop),Inv X pins σ H s->t σ H Q->Aw (AE X.prog X.w) X.A (evalAll ((Ea pos (CV kws X.env)).map (·.2))) (AP X pins σ Q) X.xe s
section
variable {X:Cx}{CX:CXT}{k:Nat}{f C:Addr}{fd:BI}{ps ks:List Str}{sp:Sp}{E:XK}{x m:Str}{p pos apos kpos:Pos}{e o:Expr}{es:List Expr}{kws:List Keyword}{te ta:TE}{t tk:TA}{nm:Option Str}
theorem zmz:PK X [] tNil:=λ_ _ _ _ H Q I h=>wpAny_evalAll_nil ⟨[],H,I,.nil,h⟩
theorem zkq(ha:PE X e te)(hr:PK X kws t):PK X (⟨nm,e,kpos⟩::kws) (tCons te t):=by intro pos pins s σ H Q I h;show Aw _ _ (evalAll ((do let v <- eval e X.env;standAt pos;pure v)::(Ea pos (CV kws X.env)).map (·.2))) _ _ s;refine wpAny_evalAll_cons (Ad (thn (ha pins s σ H _ I h) λu s1 ⟨x,H1,I1,r1,q1⟩=>Ad (DH (Ak ?_))));exact thn (hr pos pins s1 σ H1 _ I1 q1) λus s2 ⟨xs,H2,I2,r2,q2⟩=>⟨x::xs,H2,I2,.cons r1 r2,q2⟩
structure KBinds (K:W.Frag) (fd:BI) (ps ks:List Str) (g:List Value->List Value->List Value) (gV:List V->List V->List V):Prop where
 to:∀(s:Af) (us ws:List Value),K.In s.heap->(g us ws).length=ps.length->BindsTo s fd ⟨us,ks.zip ws⟩ (ps.zip (g us ws))
 rel:∀{vs:List V} {us:List Value} {zs:List V} {ws:List Value},Vals vs us->Vals zs ws->Vals (gV vs zs) (g us ws)
variable {g:List Value->List Value->List Value}{gV:List V->List V->List V}
end
structure FnScope (N P:List Str) (sc:Scope):Prop where
 kind:sc.kind=.function
 co:sc.isCoroutine=false
 gen:sc.isGenerator=false
 nd:N.Nodup
 pre:N.take P.length=P
 par:∀x∈P,sc.names.lookup x=some .local∨sc.names.lookup x=some .cell
 nofree:∀y∈sc.names,y.2≠.free
theorem zhs{kindOf:Str->Option NameKind}{x:Str}:∀{binds:List (Str×Value)}{m:Str->Option Value},(∀v,(x,v) ∉ binds)->bindL kindOf binds m x=m x
 |[],_,_=>rfl
 | (n,v)::r,m,h=>by
  unfold bindL;rw[zhs λw hw=>h w (AK _ hw)];split
  .have:x≠n:=by rintro rfl;exact h v AM
   simp[this]
  .rfl
theorem zhu{kindOf:Str->Option NameKind}{x:Str}:∀{binds:List (Str×Value)}{m:Str->Option Value},(∀v,(x,v) ∉ binds)->bindC kindOf binds m x=m x
 |[],_,_=>rfl
 | (n,v)::r,m,h=>by
  unfold bindC;rw[zhu λw hw=>h w (AK _ hw)];split
  .rfl
  .have:x≠n:=by rintro rfl;exact h v AM
   simp[this]
theorem zht{kindOf:Str -> Option NameKind}{x:Str}{v:Value} : ∀{P:List Str}{vs:List Value}{i:Nat}{m:Str -> Option Value}, P.Nodup -> P[i]? = some x -> vs[i]? = some v -> kindOf x=some .local ->
  bindL kindOf (P.zip vs) m x=some v
 |[],_,_,_,_,h,_,_=>by simp at h
 |_::_,[],_,_,_,_,h,_=>by simp at h
 |p::P,w::vs,0,m,nd,h1,h2,hk=>by
  simp at h1 h2;subst h1;subst h2;show bindL kindOf ((p,w)::P.zip vs) m p=_;unfold bindL;rw[zhs λv hv=>(Db.mp nd).1 (List.of_mem_zip hv).1,if_pos hk];simp
 |p::P,w::vs,i+1,m,nd,h1,h2,hk=>by
  show bindL kindOf ((p,w)::P.zip vs) m x=_;unfold bindL;exact zht (i:=i) (Db.mp nd).2 (by simpa using h1) (by simpa using h2) hk
theorem zhv{kindOf:Str -> Option NameKind}{x:Str}{v:Value} : ∀{P:List Str}{vs:List Value}{i:Nat}{m:Str -> Option Value}, P.Nodup -> P[i]? = some x -> vs[i]? = some v -> kindOf x ≠ some .local ->
  bindC kindOf (P.zip vs) m x=some v
 |[],_,_,_,_,h,_,_=>by simp at h
 |_::_,[],_,_,_,_,h,_=>by simp at h
 |p::P,w::vs,0,m,nd,h1,h2,hk=>by
  simp at h1 h2;subst h1;subst h2;show bindC kindOf ((p,w)::P.zip vs) m p=_;unfold bindC;rw[zhu λv hv=>(Db.mp nd).1 (List.of_mem_zip hv).1,if_neg hk];simp
 |p::P,w::vs,i+1,m,nd,h1,h2,hk=>by
  show bindC kindOf ((p,w)::P.zip vs) m x=_;unfold bindC;exact zhv (i:=i) (Db.mp nd).2 (by simpa using h1) (by simpa using h2) hk
noncomputable def start(N:List Str)(vs:List V):St:=vs.map some++Ac (N.length-vs.length) none
noncomputable def cxOf(CX:CXT)(P:AF)(w:A7)(K:W.Frag)(mg:Str->Option Value)(base:Heap)(N:List Str)(qual:Str)(scope:Scope)(f:Addr)(cd:Value)(A:AS)(outer:List Env)(s:Af)(H:Hp)(E:XK):Cx where
 prog:=P
 w:=w
 K:=K
 mg:=mg
 base:=base
 A:=A.deeper (envOfC qual scope s.heap.objs.size f cd)
 N:=N
 s₀:=s
 H₀:=H
 env:=envOfC qual scope s.heap.objs.size f cd
 outer:=outer
 stack:=envOfC qual scope s.heap.objs.size f cd::outer
 ex:=[]
 calm:=true
 fn:=λ_=>true
 pn:=[]
 xe:=λe s'=>Aw (AE P w) (A.deeper (envOfC qual scope s.heap.objs.size f cd)) (leaving (envOfC qual scope s.heap.objs.size f cd) e) (λ_ s''=>CX outer H s E e s'') (λe' s''=>CX outer H s E e' s'') s'
theorem zi4{sc:Scope}{n:Nat}{x:Str}(h:sc.names.lookup x=some .cell):∃c,(cellsFrom n sc.names []).lookup x=some c:=by have q:=W.cellsFrom_some sc.names n [] (.inl h);exact Option.isSome_iff_exists.mp q
theorem zhg{CX:CXT}{P:AF}{w:A7}{K:W.Frag}{mg:Str -> Option Value}{base:Heap}{N ps:List Str}{qual:Str}{scope:Scope}{f:Addr}{cd:Value}{A:AS}{outer:List Env}{s s1:Af}{H:Hp}{E:XK}{us:List Value}{vs:List V}
  (S:FnScope N ps scope) (hd:A.handled=none) (e0:Env0 P w K mg base A outer s H) (hl:vs.length=ps.length) (r:Vals vs us)
  (x:InCallC s s.heap.objs.size (bindL (envOfC qual scope s.heap.objs.size f cd).kindOf (ps.zip us) λ_=>none) (cellsFrom (s.heap.objs.size+1) scope.names []) (bindC (envOfC qual scope s.heap.objs.size f cd).kindOf (ps.zip us) λ_=>none) s1) :
  Inv (cxOf CX P w K mg base N qual scope f cd A outer s H E) [] (start N vs) H s1:=by
 have hpl:ps.length<=N.length:=by have:=congrArg Ez S.pre;rw[AA]at this;lia
 obtain⟨h1,tk,rfl,hk⟩:=x.done;have noA:∀b:Addr,b ∉ (cxOf CX P w K mg base N qual scope f cd A outer s H E).ex:=λb z=>absurd (show b∈([]:List Addr) from z) (by simp)
 refine⟨⟨e0.mod,S.kind,rfl,rfl,Ai _,λy z c h1 h2=>?_,λy hy=>?_,λy c _ h=>?_,λ_=>hd,Around.frames_deeper e0.frames,.inr ⟨rfl,rfl⟩,λb z=>absurd z (noA b),e0.bs,e0.bsz,λb _ _=>noA b,λb z=>absurd z (noA b),e0.funs,e0.frf⟩,
  rfl,e0.bare,Un.kept hk,⟨_,x.toInCall.ns,λi y v h1 h2 h3=>?_⟩,λy c h=>⟨_,x.cell y c h⟩,e0.hok.fresh (Ai _),λy c h=>?_,λp hp=>absurd (show p∈([]:List (Addr×Obj)) from hp) (by simp),e0.hok.kept hk,?_⟩
 .exact name_of_addr x.apart (CP h1) (CP h2)
 .have hy:scope.names.lookup y=some .cell∨scope.names.lookup y=some .free:=hy;rcases hy with hy |hy
  .exact zi4 hy
  .exact absurd rfl (S.nofree _ (CP hy))
 .exact BD (x.above y c (CP h))
 .have hi:i < vs.length := by
   unfold start at h2
   by_cases hi:i<vs.length
   .exact hi
   .rw[Ar (by simpa using hi)]at h2;rw[Dp]at h2;split at h2 <;> cases h2
  have ha:vs[i]?=some v:=by
   unfold start at h2;rw[Aj (by simpa using hi),Ay]at h2
   cases e:vs[i]? with
   |none=>rw[e]at h2;cases h2
   |some a=>rw[e]at h2;cases h2;rfl
  obtain⟨u,hu,rv⟩:=r.get ha
  have hp:ps[i]?=some y:=by rw[<- S.pre,List.getElem?_take_of_lt (by lia)];exact h1
  have ndP:ps.Nodup:=by rw[<- S.pre];exact S.nd.sublist (Cf _ _)
  refine⟨u,rv,?_⟩;rcases S.par y (An hp) with k |k
  .exact .inl ⟨k,zht ndP hp hu k⟩
  .obtain⟨c,e⟩:=zi4 (n:=s.heap.objs.size+1) k;refine .inr ⟨.inl k,c,e,?_⟩;have q:=x.cell y c e;rw[zhv ndP hp hu (by show scope.names.lookup y≠_;rw[k];decide)]at q;exact q
 .exact e0.hok.fresh (BD (x.above y c (CP h)))
 .unfold start;show _=N.length;rw[Am,Ag,AR];lia
theorem fn_of{CX:CXT}{P:AF}{w:A7}{K:W.Frag}{mg:Str -> Option Value}{base:Heap}{k:Nat}{f:Addr}{name qual:Str}{params:Arguments}{body:List Stmt}{scope:Scope}{dV kV doc pm cdv ct oc:Value}{an od:Option Addr}
  {osl:Array (Option Value)} {N ps:List Str} {sp:Sp} (lk:K.lookup f=some ⟨oc,od,.func (D4 name qual params body scope dV kV doc pm an cdv ct),osl⟩) (hcd:W.codeIn K cdv qual=true) (S:FnScope N ps scope)
  (len:∀vs H Q E,sp vs H Q E->vs.length=ps.length)
  (hbody:∀(A:AS) (outer:List Env) (s:Af) (H:Hp) (vs:List V) (Q:VK) (E:XK),Room k (A.deeper (envOfC qual scope s.heap.objs.size f cdv))->sp vs H Q E ->
   ∃t,PSs (cxOf CX P w K mg base N qual scope f cdv A outer s H E) body t/\t { nx:=λ_ H'=>Q .non H',rt:=Q } (start N vs) H) :
  FnOk P w K mg base CX (k+1) f (D4 name qual params body scope dV kV doc pm an cdv ct) ps sp:=by
 refine⟨len,λA outer s H args us vs Q E hr e0 hb r hsp=>?_⟩;have hl:=len _ _ _ _ hsp;have KX:K.In s.heap:=e0.mod.kin.keeps λb o e=>(e0.bs b o e).1
 have lim:s.heap.NoLimit:=e0.mod.nolimit.keeps λb o e=>(e0.bs b o e).1
 have hkind:∀y∈ps.zip us,scope.names.lookup y.1=some .local∨(scope.names.lookup y.1=some .cell/\((cellsFrom (s.heap.objs.size+1) scope.names []).lookup y.1).isSome=true):=λ⟨n,v⟩ hy=>by
  rcases S.par n (List.of_mem_zip hy).1 with q |q
  .exact .inl q
  .exact .inr ⟨q,W.cellsFrom_some _ _ _ (.inl q)⟩
 refine codeAny_call_function hr.depth (KX _ _ lk) rfl S.co S.gen rfl (W.codeRec_of KX hcd) (hb _ _ _ _ ?_);refine wpAny_newFunctionEnv_cells S.kind hkind λenv he s1 x=>?_
 subst he;refine⟨lim.keeps x.toInCall.keep,codeAny_func ?_⟩;obtain⟨t,ht,hq⟩:=hbody A outer s H vs Q E (hr.deeper _) hsp;have I:Inv (cxOf CX P w K mg base N qual scope f cdv A outer s H E) [] (start N vs) H s1:=zhg S hr.hd e0 hl r x;refine BR (ht [] s1 (start N vs) H _ I hq) (λfl s' hs=>?_) λe s' hs=>hs
 have fin:∀{σ':St} {H':Hp} {v:V} {u:Value},Inv (cxOf CX P w K mg base N qual scope f cdv A outer s H E) [] σ' H' s'->RelV v u->Q v H'->CE outer P w H s Q u s' :=
  λ{σ' H' v u} J rv q=>⟨v,H',J.os,J.bare,J.base,J.hok,rv,q⟩
 cases fl with
 |ret u =>
  obtain⟨v,σ',H',J,rv,q⟩:=hs;exact fin J rv q
 |next =>
  obtain⟨σ',H',J,q⟩:=hs;exact fin (v:=V.non) (u:=BY) J rfl q
 |brk =>
  obtain⟨_,_,_,q⟩:=hs;exact BN q
 |cont =>
  obtain⟨_,_,_,q⟩:=hs;exact BN q
section
variable {X:Cx}{x:Str}{p pos:Pos}{e:Expr}{es:List Expr}{t:TA}{id T:String}{r:List V->Hp->VK->Prop}
noncomputable def tCB(r:List V->Hp->VK->Prop)(t:TA):TE:=λσ H Q=>t σ H λvs H1=>r vs H1 Q
theorem zan (hc:CallR X (.builtin id) r) (hg:Gl X x) (hm:X.mg x=none) (hv:bootBuiltins x=some (.builtin id)) (ha:PA X (e :: es) t) (hn:x ≠ "__name__" := by decide) (hdb:(x == ("__debug__" : Str))=false := by decide)
  (he:Bw (e::es) X.env=(false,eval e X.env)::Bw es X.env:=by rfl) (hpl:(backTo pos (Bw es X.env)).any (·.1)=false:=by rfl):PE X (.Call (.Name x p) (e::es) [] pos) (tCB r t):=by
 intro pins s σ H Q I h;refine Cs (zeN I hg hm hv ?_ hn hdb);exact PyProof.Rows.callWith_builtin1 (thn (ha pos pins s σ H _ I h) λus s1 ⟨vs,H1,I1,r1,q1⟩=>hc pins s1 σ H1 vs us Q I1 r1 q1) he hpl
theorem zav (hc:CallR X (.type T) r) (hg:Gl X x) (hm:X.mg x=none) (hv:bootBuiltins x=some (.type T)) (ha:PA X (e :: es) t) (hn:x ≠ "__name__" := by decide) (hdb:(x == ("__debug__" : Str))=false := by decide)
  (he:Bw (e::es) X.env=(false,eval e X.env)::Bw es X.env:=by rfl) (hpl:(backTo pos (Bw es X.env)).any (·.1)=false:=by rfl):PE X (.Call (.Name x p) (e::es) [] pos) (tCB r t):=by
 intro pins s σ H Q I h;refine Cs (zeN I hg hm hv ?_ hn hdb);exact DN (thn (ha pos pins s σ H _ I h) λus s1 ⟨vs,H1,I1,r1,q1⟩=>hc pins s1 σ H1 vs us Q I1 r1 q1) he hpl
end
section
variable {κ:Type} [DecidableEq κ]
noncomputable def valV(kvs:List (κ×V))(k:κ):Option V:=(kvs.find? λkv=>decide (kv.1=k)).map (·.2)
noncomputable def putK(kvs:List (κ×V))(k:κ)(v:V):List (κ×V) :=
 if (kvs.any λkv=>decide (kv.1=k))=true then kvs.map (λkv=>if kv.1=k then (kv.1,v) else kv) else kvs++[(k,v)]
theorem zbe{p:κ×V}{r:List (κ×V)}{k:κ}(e:p.1=k):valV (p::r) k=some p.2:=by simp[valV,CN,e]
theorem za9{p:κ×V}{r:List (κ×V)}{k:κ}(e:¬ p.1=k):valV (p::r) k=valV r k:=by simp[valV,CN,e]
theorem zee(k:κ):∀kvs:List (κ×V),(kvs.any λkv=>decide (kv.1=k))=(valV kvs k).isSome
 |[]=>rfl
 |p::r=>by
  rw[List.any_cons]
  by_cases e:p.1=k
  .simp only[zbe e,decide_eq_true e,Bool.true_or,Option.isSome_some]
  .rw[za9 e,decide_eq_false e,Bool.false_or];exact zee k r
theorem zig(k j:κ)(y:V):∀kvs:List (κ×V),valV (kvs.map λkv=>if kv.1=k then (kv.1,y) else kv) j=(valV kvs j).map λx=>if j=k then y else x
 |[]=>rfl
 |p::r=>by
  have ih:=zig k j y r;rw[Bj]
  by_cases h:p.1=k
  .rw[if_pos h]
   by_cases e:p.1=j
   .rw[zbe (p:=(p.1,y)) e,zbe e,Dz,if_pos (e.symm.trans h)]
   .rw[za9 (p:=(p.1,y)) e,za9 e,ih]
  .rw[if_neg h]
   by_cases e:p.1=j
   .rw[zbe (p:=p) e,zbe e,Dz,if_neg (λz=>h (e.trans z))]
   .rw[za9 (p:=p) e,za9 e,ih]
theorem zgG(k j:κ)(y:V):∀kvs:List (κ×V),valV kvs k=none->valV (kvs++[(k,y)]) j=if j=k then some y else valV kvs j
 |[],_=>by
  by_cases e:k=j
  .rw[if_pos e.symm];exact zbe (p:=(k,y)) e
  .rw[if_neg (λz=>e z.symm)];exact za9 (p:=(k,y)) e
 |p::r,hn=>by
  rw[List.cons_append];have hk:¬ p.1=k:=λz=>by rw[zbe z]at hn;cases hn
  rw[za9 hk]at hn;have ih:=zgG k j y r hn
  by_cases e:p.1=j
  .rw[zbe e,zbe e,if_neg (λz=>hk (e.trans z))]
  .rw[za9 e,za9 e,ih]
theorem zif(kvs:List (κ×V))(k j:κ)(y:V):valV (putK kvs k y) j=if j=k then some y else valV kvs j:=by
 unfold putK
 by_cases a:(kvs.any λkv=>decide (kv.1=k))=true
 .rw[if_pos a,zig];rw[zee]at a
  by_cases e:j=k
  .obtain⟨x,hx⟩:=Option.isSome_iff_exists.mp a;rw[if_pos e,e,hx,Dz,if_pos rfl]
  .rw[if_neg e]
   cases valV kvs j with
   |none=>rfl
   |some x=>rw[Dz,if_neg e]
 .rw[if_neg a];refine zgG k j y kvs ?_
  rw[zee]at a
  cases q:valV kvs k with
  |none=>rfl
  |some x=>rw[q]at a;exact (a rfl).elim
theorem zbZ(kvs:List (κ×V))(k:κ)(v:V):(putK kvs k v).length<=kvs.length+1:=by
 unfold putK;split
 .rw[Ag];lia
 .rw[Am,A9,Ej];lia
theorem RelO.isSome_eq{o:Option V}{u:Option Value}(r:RelO o u):o.isSome=u.isSome:=by
 cases o with
 |none=>cases u with
  |none=>rfl
  |some _=>exact (show False from r).elim
 |some _=>cases u with
  |none=>exact (show False from r).elim
  |some _=>rfl
theorem KV.val{kvs:List (κ×V)}{vs:List (κ×Value)}(r:KV kvs vs)(k:κ):RelO (valV kvs k) (valueAt vs k):=by
 unfold KV at r
 induction r with
 |nil=>exact Di
 |@cons p q ps qs h t ih =>
  obtain⟨h1,h2⟩:=h
  by_cases e:p.1=k
  .have e':q.1=k:=h1.symm.trans e;have b:valueAt (q::qs) k=some q.2:=by simp[valueAt,CN,e']
   rw[zbe e,b];exact h2
  .have e':¬ q.1=k:=λz=>e (h1.trans z)
   have b:valueAt (q::qs) k=valueAt qs k:=by simp[valueAt,CN,e']
   rw[za9 e,b];exact ih
theorem KV.any{kvs:List (κ×V)}{vs:List (κ×Value)}(r:KV kvs vs)(k:κ):(kvs.any λkv=>decide (kv.1=k))=vs.any λkv=>decide (kv.1=k):=by
 unfold KV at r
 induction r with
 |nil=>rfl
 |cons h t ih=>rw[List.any_cons,List.any_cons,ih,h.1]
theorem KV.repl{kvs:List (κ × V)}{vs:List (κ × Value)}(r:KV kvs vs)(k : κ){y:V}{u:Value}(ry:RelV y u) :
  KV (kvs.map λkv=>if kv.1=k then (kv.1,y) else kv) (vs.map λkv=>if kv.1=k then (kv.1,u) else kv):=by
 unfold KV at r ⊢
 induction r with
 |nil=>exact .nil
 |@cons p q ps qs h t ih =>
  rw[Bj,Bj];refine .cons ?_ ih;obtain⟨h1,h2⟩:=h
  by_cases e:p.1=k
  .rw[if_pos e,if_pos (h1.symm.trans e)];exact⟨h1,ry⟩
  .rw[if_neg e,if_neg (λz=>e (h1.trans z))];exact⟨h1,h2⟩
theorem KV.put{kvs:List (κ×V)}{vs:List (κ×Value)}(r:KV kvs vs)(k:κ){y:V}{u:Value}(ry:RelV y u):KV (putK kvs k y) (stored vs k u):=by
 unfold putK stored;rw[r.any k]
 by_cases e:(vs.any λkv=>decide (kv.1=k))=true
 .rw[if_pos e,if_pos e];exact r.repl k ry
 .rw[if_neg e,if_neg e];exact Paired.snoc r ⟨rfl,ry⟩
theorem KV.length{kvs:List (κ×V)}{vs:List (κ×Value)}(r:KV kvs vs):kvs.length=vs.length:=D8 r
end
theorem kV_is{P:AF}{w:A7}{k:Key}{u:Value}(r:RelV (kV k) u):(zaD P w).is k u=true:=by
 cases k with
 |inl i=>obtain⟨t,e⟩:=(show ∃t,u=DG i t from r);subst e;exact zhX P w i t
 |inr x=>obtain⟨t,e⟩:=(show ∃t,u=Value.str x t from r);subst e;exact zaN P w x t
theorem zhf{P:AF}{w:A7}:∀{ks:List Key}{us:List Value},Vals (ks.map kV) us->ItemsAre (zaD P w) ks us
 |[],_,r=>by rw[List.map_nil]at r;cases r;exact .nil
 |k::ks,_,r=>by
  rw[Bj]at r
  cases r with
  |cons h t=>exact .cons (kV_is h) (zhf t)
noncomputable abbrev KT(H:Hp):List (List Key×V)->List (List Key×Addr×Value)->Prop:=Paired λp q=>p.1=q.1/\H q.2.1=some (.tup (p.1.map kV))/\RelV p.2 q.2.2
theorem KT.val{H:Hp}{kvs:List (List Key×V)}{xs:List (List Key×Addr×Value)}(r:KT H kvs xs)(k:List Key):RelO (valV kvs k) ((atKey xs k).map (·.2)):=by
 induction r with
 |nil=>exact Di
 |@cons p q ps qs h t ih =>
  obtain⟨h1,_,h2⟩:=h
  by_cases e:p.1=k
  .have e':q.1=k:=h1.symm.trans e;have b:atKey (q::qs) k=some q.2:=by simp[atKey,CN,e']
   rw[zbe e,b];exact h2
  .have e':¬ q.1=k:=λz=>e (h1.trans z)
   have b:atKey (q::qs) k=atKey qs k:=by simp[atKey,CN,e']
   rw[za9 e,b];exact ih
theorem KT.repl{H:Hp}{kvs:List (List Key × V)}{xs:List (List Key × Addr × Value)}(r:KT H kvs xs)(k:List Key){y:V}{u:Value}(ry:RelV y u) :
  KT H (kvs.map λkv=>if kv.1=k then (kv.1,y) else kv) (xs.map (putAt k u)):=by
 induction r with
 |nil=>exact .nil
 |@cons p q ps qs h t ih =>
  rw[Bj,Bj];refine .cons ?_ ih;obtain⟨h1,h2,h3⟩:=h;unfold putAt
  by_cases e:p.1=k
  .rw[if_pos e,if_pos (h1.symm.trans e)];exact⟨h1,h2,ry⟩
  .rw[if_neg e,if_neg (λz=>e (h1.trans z))];exact⟨h1,h2,h3⟩
theorem KT.put{H:Hp}{kvs:List (List Key × V)}{xs:List (List Key × Addr × Value)}(r:KT H kvs xs)(k:List Key){b:Addr}{y:V}{u:Value}(hb:H b=some (.tup (k.map kV)))(ry:RelV y u) :
  KT H (putK kvs k y) (storedH xs k b u):=by
 have e:(kvs.any λkv=>decide (kv.1=k))=(atKey xs k).isSome:=by rw[zee,(r.val k).isSome_eq,Option.isSome_map]
 unfold putK storedH;rw[e]
 by_cases q:(atKey xs k).isSome=true
 .rw[if_pos q,if_pos q];exact r.repl k ry
 .rw[if_neg q,if_neg q];exact Paired.snoc r ⟨rfl,hb,ry⟩
theorem KT.keeps{H H':Hp}{kvs:List (List Key×V)}{xs:List (List Key×Addr×Value)}(r:KT H kvs xs)(ht:∀b ys,H b=some (.tup ys)->H' b=some (.tup ys)):KT H' kvs xs :=
 Paired.mapP r λ_ _ z=>⟨z.1,ht _ _ z.2.1,z.2.2⟩
section
variable {P:AF}{w:A7}{H:Hp}{h:Heap}{a:Addr}
theorem rd_of{u:HO}(ok:HOk P w H h)(e:Rd H a u):ObjOk P w H h a u:=e.ok ok
theorem dk_rd{kvs:List (Key×V)}(ok:HOk P w H h)(e:Rd H a (.dK kvs)):kvs.length<=sizeLine/\(a == Cr)=false/\∃vs,KV kvs vs/\h.DictOf (zaD P w) a vs :=
 show ObjOk P w H h a (.dK kvs) from rd_of ok e
theorem dk_of{kvs:List (Key×V)}(ok:HOk P w H h)(e:H a=some (.dK kvs)):kvs.length<=sizeLine/\(a == Cr)=false/\∃vs,KV kvs vs/\h.DictOf (zaD P w) a vs:=dk_rd ok (.inl e)
theorem zhd{ks:List Key}(ok:HOk P w H h)(e:H a=some (.tup (ks.map kV))):(tupleKind (zaD P w)).is h ks a:=by obtain⟨_,its,r,o,h1,h2,n,h3⟩:=(show ObjOk P w H h a (.tup (ks.map kV)) from ok a _ e);exact⟨o,its.toArray,n,h1,h2,h3,by simpa using zhf r⟩
theorem dt_rd{kvs:List (List Key × V)}(ok:HOk P w H h)(e:Rd H a (.dT kvs)):kvs.length <= sizeLine /\ (a == Cr)=false /\
  ∃xs,KT H kvs xs/\h.DictOfH (tupleKind (zaD P w)) a xs:=by
 obtain⟨z,y,xs,r,o,es,ep,h1,h2,h3,h4,h5⟩:=(show ObjOk P w H h a (.dT kvs) from rd_of ok e);refine⟨z,y,xs,r,o,es,ep,h1,h2,h3,h4,λx hx=>?_,h5⟩
 have all:∀{l:List (List Key×V)} {m:List (List Key×Addr×Value)},KT H l m->∀x∈m,(tupleKind (zaD P w)).is h x.1 x.2.1:=by
  intro l m q
  induction q with
  |nil=>intro x hx;exact nomatch hx
  |@cons p q ps qs hq t ih =>
   intro x hx;rcases AI.mp hx with e |hx
   .subst e;exact zhd ok (by rw[<- hq.1];exact hq.2.1)
   .exact ih x hx
 exact all r x hx
theorem dt_of{kvs:List (List Key × V)}(ok:HOk P w H h)(e:H a=some (.dT kvs)):kvs.length <= sizeLine /\ (a == Cr)=false /\
  ∃xs,KT H kvs xs/\h.DictOfH (tupleKind (zaD P w)) a xs:=dt_rd ok (.inl e)
end
noncomputable def DGet(H:Hp)(a:Addr)(y:V)(r:Option V):Prop :=
 (∃kvs k,Rd H a (.dK kvs)/\y=kV k/\r=valV kvs k)∨∃kvs k b,Rd H a (.dT kvs)/\y=.ref b/\H b=some (.tup (k.map kV))/\r=valV kvs k
noncomputable def DPut(H:Hp)(a:Addr)(y v:V)(H':Hp):Prop :=
 (∃kvs k,H a=some (.dK kvs)/\y=kV k/\kvs.length<sizeLine/\H'=upd H a (.dK (putK kvs k v))) ∨
 ∃kvs k b,H a=some (.dT kvs)/\y=.ref b/\H b=some (.tup (k.map kV))/\kvs.length<sizeLine/\H'=upd H a (.dT (putK kvs k v))
section
variable {X:Cx}{pins:List (Addr×Obj)}{σ:St}{H:Hp}{s:Af}{a:Addr}{y v:V}{u r:Value}{o:Option V}{A:AS}{E:Value->Af->Prop}
theorem Inv.big(I:Inv X pins σ H s):Cr<s.heap.objs.size:=by have h:AH<s.heap.objs.size:=(I.mod.glob.keeps I.bk).lt;exact DX (by decide) h
theorem d_in{Q:Value -> Af -> Prop}(hu:A.units + 1 < cLine)(I:Inv X pins σ H s)(g:DGet H a y o)(ry:RelV y u)(h:∀s', Inv X pins σ H s' -> Q (.bool o.isSome) s') :
  Aw (AE X.prog X.w) A (BX .In u (.ref a)) Q E s:=by
 rcases g with⟨kvs,k,e,ey,l⟩ |⟨kvs,k,b,e,ey,eb,l⟩
 .subst ey;obtain⟨z,hd,vs,rel,dd⟩:=dk_rd I.hok e;refine wpAny_in_of (kV_is ry) hd dd.mapOf ?_
  rw[<- (rel.val k).isSome_eq,<- l];exact h _ (I.tok _)
 .subst ey
  cases (show u=Au b from ry)
  obtain⟨z,hd,xs,rel,dd⟩:=dt_rd I.hok e;refine wpAny_in_heap (Ep hu) (zhd I.hok eb) hd dd ?_
  have q:=(rel.val k).isSome_eq;rw[Option.isSome_map]at q;rw[<- q,<- l];exact h _ (I.tok _)
theorem znz{Q:Value -> Af -> Prop}(hu:A.units + 1 < cLine)(I:Inv X pins σ H s)(g:DGet H a y o)(ry:RelV y u)(h:∀s', Inv X pins σ H s' -> Q (.bool (!o.isSome)) s') :
  Aw (AE X.prog X.w) A (BX .NotIn u (.ref a)) Q E s:=by
 rcases g with⟨kvs,k,e,ey,l⟩ |⟨kvs,k,b,e,ey,eb,l⟩
 .subst ey;obtain⟨z,hd,vs,rel,dd⟩:=dk_rd I.hok e;refine wpAny_notIn_of (kV_is ry) hd dd.mapOf ?_
  rw[<- (rel.val k).isSome_eq,<- l];exact h _ (I.tok _)
 .subst ey
  cases (show u=Au b from ry)
  obtain⟨z,hd,xs,rel,dd⟩:=dt_rd I.hok e;refine wpAny_notIn_heap (Ep hu) (zhd I.hok eb) hd dd ?_
  have q:=(rel.val k).isSome_eq;rw[Option.isSome_map]at q;rw[<- q,<- l];exact h _ (I.tok _)
theorem zh5{h':Heap}{t':Nat}{ob:HO}(I:Inv X pins σ H s)(mu:Mut (H a))(hs:CQ a s.heap h')(he:∃q, h'.get? a=some q)(new:ObjOk X.prog X.w (upd H a ob) h' a ob) :
  Inv X pins σ (upd H a ob) { s with heap:=h',toks:=t' } :=
 I.write (x:=a) (e:=a) mu (.inl rfl) (λb q hb z=>(hs.2 b hb).trans z) he new
theorem zow{P:AF}{w:A7}{H':Hp}{h':Heap}{kvs:List (Key × V)}{vs:List (Key × Value)}(z:kvs.length <= sizeLine)(hd:(a == Cr)=false)(rel:KV kvs vs)(dd:h'.DictOf (zaD P w) a vs) :
  ObjOk P w H' h' a (.dK kvs):=⟨z,hd,vs,rel,dd⟩
theorem zld{H':Hp}{Q:Unit -> Af -> Prop}(hu:A.units + 1 < cLine)(I:Inv X pins σ H s)(g:DPut H a y v H')(ry:RelV y u)(rv:RelV v r)(h:∀s', Inv X pins σ H' s' -> Q () s') :
  Aw (AE X.prog X.w) A (setItem (.ref a) u r) Q E s:=by
 rcases g with⟨kvs,k,e,ey,l,eH⟩ |⟨kvs,k,b,e,ey,eb,l,eH⟩
 .subst ey eH;obtain⟨z,hd,vs,rel,dd⟩:=dk_of I.hok e;have hz:vs.length<=sizeLine:=by rw[<- rel.length];exact z
  have hl:(putK kvs k v).length<=sizeLine:=by have:=zbZ kvs k v;lia
  refine wpAny_setItem_pairs (hsz:=hz) (kV_is ry) dd λh' dd' hs=>h _ ?_
  have he:∃q,h'.get? a=some q:=let ⟨q,_,_,hq,_⟩:=dd';⟨q,hq⟩
  exact zh5 I (by rw[e];exact Di) hs he (zow hl hd (rel.put k rv) dd')
 .subst ey eH
  cases (show u=Au b from ry)
  obtain⟨z,hd,xs,rel,dd⟩:=dt_of I.hok e;have hz:xs.length<=sizeLine:=by rw[<- D8 rel];exact z
  have hl:(putK kvs k v).length<=sizeLine:=by have:=zbZ kvs k v;lia
  refine wpAny_setItem_heap (hsz:=hz) (Ep hu) (zhd I.hok eb) dd λh' dd' hs=>h _ ?_
  obtain⟨q,es,ep,hq,h2,h3,h4,_,h5⟩:=dd';refine zh5 I (by rw[e];exact Di) hs ⟨q,hq⟩ ⟨hl,hd,_,(rel.put k eb rv).keeps λc ys ec=>?_,q,es,ep,hq,h2,h3,h4,h5⟩;rw[zai (ne_of ec e (λz=>nomatch z))];exact ec
end
section
variable {X:Cx}{pins:List (Addr×Obj)}{σ:St}{H:Hp}{s:Af}{a:Addr}{kvs:List (Key×V)}{k:Key}{u:Value}{A:AS}{E:Value->Af->Prop}
end
noncomputable def NoSl(i:Expr):Prop:=∀ov iv,subscripted i false ov iv=operate [ov,iv] (getItem ov iv)
theorem zhJ{prog:AF}{w:A7}{A:AS}{E:Value -> Af -> Prop}{s:Af}{env:Env}{value slice:Expr}{pos:Pos}{T id:String}{Q:Value -> Af -> Prop}
  (hl:typeLookup (.type T) "__getitem__" = pure (some (.builtin id))) (hs:NoSl slice)
  (h:Aw (AE prog w) A (eval value env) (λo s₁=>Aw (AE prog w) A (eval slice env) (λi s₂=>s₂.TypeIs o T/\Aw (AE prog w) A (getItem o i) Q E s₂) E s₁) E s) :
  Aw (AE prog w) A (eval (.Subscript value slice pos) env) Q E s:=by
 refine Subscript_ (BR h (λo s₁ h₁=>BR h₁ (λi s₂ h₂=>?_) λ_ _ x=>x) λ_ _ x=>x);obtain⟨hT,h₂⟩:=h₂;unfold subscriptTail;refine Ad ?_
 rw[getitemInPython_of_ne hT.not_modules];refine Ad (wpAny_specialOf hT hl ?_)
 have fin:Aw (AE prog w) A (subscripted slice false o i) (λr s₃=>Aw (AE prog w) A (letTemporaryGo value o r >>= λ_=>pure r) Q E s₃) E s₂:=by rw[hs o i];exact wpAny_operating (BR h₂ (λr s₃ h₃=>Ad (wpAny_letTemporaryGo (Ak h₃))) λ_ _ x=>x)
 first
  |exact Ak (Ad fin)
  |exact Ad (Ak (Ad fin))
  |exact Ad fin
noncomputable def tDIn(ty td:TE):TE:=λσ H Q=>ty σ H λy H1=>td σ H1 λx H2=>∃a o,x=.ref a/\DGet H2 a y o/\Q (.bl o.isSome) H2
noncomputable def zmX(ty td:TE):TE:=λσ H Q=>ty σ H λy H1=>td σ H1 λx H2=>∃a o,x=.ref a/\DGet H2 a y o/\Q (.bl (!o.isSome)) H2
noncomputable def sDPut(td ty tv:TE):TS:=λD σ H=>tv σ H λv H1=>td σ H1 λx H2=>ty σ H2 λy H3=>∃a H4,x=.ref a/\DPut H3 a y v H4/\D.nx σ H4
section
variable {X:Cx}{o i e value:Expr}{pos pos' tpos:Pos}{td ty tv:TE}
theorem zmC(hu:X.A.units+1<cLine)(hi:PE X i ty)(ho:PE X o td):PC X .In i o (tDIn ty td):=by
 intro pins s σ H Q I h;refine thn (hi pins s σ H _ I h) λiv s1 ⟨y,H1,I1,ry,q1⟩=>thn (ho pins s1 σ H1 _ I1 q1) λu s2 ⟨x,H2,I2,rx,a,ov,ex,g,q2⟩=>?_
 subst ex;obtain rfl:u=Au a:=rx;exact d_in hu I2 g ry λs3 I3=>⟨.bl ov.isSome,H2,I3,rfl,q2⟩
theorem zgV(hu:X.A.units+1<cLine)(hi:PE X i ty)(ho:PE X o td):PC X .NotIn i o (zmX ty td):=by
 intro pins s σ H Q I h;refine thn (hi pins s σ H _ I h) λiv s1 ⟨y,H1,I1,ry,q1⟩=>thn (ho pins s1 σ H1 _ I1 q1) λu s2 ⟨x,H2,I2,rx,a,ov,ex,g,q2⟩=>?_
 subst ex;obtain rfl:u=Au a:=rx;exact znz hu I2 g ry λs3 I3=>⟨.bl (!ov.isSome),H2,I3,rfl,q2⟩
theorem zkn(hu:X.A.units + 1 < cLine)(ho:PE X o td)(hi:PE X i ty)(hv:PE X value tv)(hs:swapsWith value (some (.Subscript o i pos')) pos.line X.env=pure false) :
  PS X (.Assign [.Subscript o i pos'] value pos) (sDPut td ty tv):=by
 intro pins s σ H D I h;refine wpAny_Assign_Subscript (thn (hv pins s σ H _ I h) λr s1 ⟨v,H1,I1,rv,q1⟩=>thn (ho pins s1 σ H1 _ I1 q1) λu s2 ⟨x,H2,I2,rx,q2⟩=>thn (hi pins s2 σ H2 _ I2 q2) λiv s3 ⟨y,H3,I3,ry,a,H4,ex,g,q3⟩=>?_) hs;subst ex;obtain rfl:u=Au a:=rx;exact zld hu I3 g ry rv λs4 I4=>⟨σ,H4,I4,q3⟩
end
theorem zmb {P:AF}{w:A7}{H:Hp}(h:Heap) (hb:Cr<h.objs.size):ObjOk P w H (h.push { cls:=.type "dict",data:=.dict #[] }) h.objs.size (.dT []) :=
 ⟨AT _,beq_eq_false_iff_ne.mpr (Cz (A3 hb)),[],.nil,_,#[],0,AC _ rfl,⟨rfl,rfl,rfl⟩,rfl,rfl,List.nodup_nil⟩
noncomputable def znP:TE:=λ_ H Q=>∀p,H p=none->Q (.ref p) (upd H p (.dT []))
section
variable {X:Cx}{pos:Pos}
theorem zfZ:PE X (.Dict [] [] pos) znP:=λpins s σ H Q I h =>
 wpAny_Dict_empty ⟨.ref s.heap.objs.size,_,I.laid (a:=s.heap.objs.size) (o:=.dT []) (t':=s.toks) (λ_ _ q=>Ah _ q) (Ai _) (zmb s.heap I.big),rfl,h _ (I.hok.fresh (Ai _))⟩
end
structure M1 (X:Cx) (o:Expr) (m:Str) (apos:Pos) (e:Expr) (cpos:Pos):Prop where
 base:attributeBase o m X.env (eval o X.env)=eval o X.env
 few:((backTo cpos (Bw [e] X.env)).all (λx=>!x.1) && (Ea cpos (CV [] X.env)).all (λx=>x.1.isSome)
  && decide (([e]:List Expr).length+([]:List Keyword).length+(if ([]:List Keyword).isEmpty then 0 else 1)<30))=true
 line:(apos.endLine == cpos.line)=true
 trees:backTo cpos (Bw [e] X.env)=[(false,eval e X.env)]
structure M2 (X:Cx) (o:Expr) (m:Str) (apos:Pos) (e f:Expr) (cpos:Pos):Prop where
 base:attributeBase o m X.env (eval o X.env)=eval o X.env
 few:((backTo cpos (Bw [e,f] X.env)).all (λx=>!x.1) && (Ea cpos (CV [] X.env)).all (λx=>x.1.isSome)
  && decide (([e,f]:List Expr).length+([]:List Keyword).length+(if ([]:List Keyword).isEmpty then 0 else 1)<30))=true
 line:(apos.endLine == cpos.line)=true
 trees:backTo cpos (Bw [e,f] X.env)=[(false,eval e X.env),(false,eval f X.env)]
noncomputable def IsD(H:Hp)(a:Addr):Prop:=(∃kvs,Rd H a (.dK kvs))∨∃kvs,Rd H a (.dT kvs)
theorem zop{X:Cx}{pins:List (Addr × Obj)}{σ : St}{H:Hp}{s:Af}{a:Addr}(I:Inv X pins σ H s)(d:IsD H a) :
  s.TypeIs (.ref a) "dict" /\ (∀b,Au a=.ref b->∃ob,s.heap.get? b=some ob/\ob.dict=none)/\(a == Cr)=false:=by
 rcases d with⟨kvs,e⟩ |⟨kvs,e⟩
 .obtain⟨_,hd,vs,_,dd⟩:=dk_rd I.hok e;refine⟨dd.typeIs,λb q=>?_,hd⟩
  cases q
  obtain⟨ob,_,_,h1,h2,_⟩:=dd;exact⟨ob,h1,h2.2.1⟩
 .obtain⟨_,hd,xs,_,dd⟩:=dt_rd I.hok e;refine⟨dd.typeIs,λb q=>?_,hd⟩
  cases q
  obtain⟨ob,_,_,h1,h2,_⟩:=dd;exact⟨ob,h1,h2.2.1⟩
section
variable {X:Cx}{pins:List (Addr×Obj)}{σ:St}{H:Hp}{s:Af}{a:Addr}{y d:V}{u r:Value}{o:Option V}{A:AS}{E:Value->Af->Prop}
end
section
variable {X:Cx}{o e f:Expr}{apos cpos:Pos}{td ty tx:TE}
end
section
variable {X:Cx}{pins:List (Addr×Obj)}{σ:St}{H:Hp}{s:Af}{a:Addr}{kvs:List (Key×V)}{A:AS}{E:Value->Af->Prop}
end
section
variable {X:Cx}{pins:List (Addr×Obj)}{σ:St}{H:Hp}{s:Af}{a:Addr}{y:V}{u:Value}{A:AS}{E:Value->Af->Prop}
end
end L2
namespace HT
open PySem PyProof.Rows
noncomputable def lexLt:List Int->List Int->Bool
 |[],[]=>false
 |[],_::_=>true
 |_::_,[]=>false
 |x::xs,y::ys=>if x=y then lexLt xs ys else decide (x<y)
theorem lexLt_cons(x y:Int)(xs ys:List Int):lexLt (x::xs) (y::ys)=if x=y then lexLt xs ys else decide (x<y):=rfl
theorem zgj:lexLt [] []=false:=rfl
theorem zfd(y:Int)(ys:List Int):lexLt [] (y::ys)=true:=rfl
theorem zfe(x:Int)(xs:List Int):lexLt (x::xs) []=false:=rfl
theorem zl9(A:AS)(s:Af)(a:Int)(t:Tok)(c:Int)(u:Tok):∃e,SeqAt.EqAt A s (.int a t) (.int c u) e/\(e=true ↔ a=c) :=
 ⟨(a == c),SeqAt.EqAt.int_int a t c u,by simp⟩
theorem zlJ(A:AS)(s:Af)(a:Int)(t:Tok)(c:Int)(u:Tok)(prog:AF)(w:A7)(E:Value -> Af -> Prop)(Q:Value -> Af -> Prop)(h:Q (.bool (decide (a < c))) s) :
  Aw (AE prog w) A (richCompare .Lt (.int a t) (.int c u)) Q E s :=
 (PyProof.Rows.lt_int h:Aw (AE prog w) A (BX .Lt (.int a t) (.int c u)) Q E s)
section
open PySem.SeqAt
open PySem.AutoSeq1 (wpAny_loadPart')
open PySem.MeetsSeq PySem.MeetsSeq2 PySem.MeetsSeq3
theorem zfE(l b:Addr)(items items2:Array Value)(n n2:Nat)(dd dd2:Option Addr)(sl sl2:Array (Option Value))(ns ms:List Int)(hi:IntsAre items.toList ns)(hj:IntsAre items2.toList ms) :
  Meets (Builtin.«tuple.__lt__» ⟨[.ref l,.ref b],[]⟩)
   (λ_ R s=>s.heap.get? l=some { cls:=.type "tuple",dict:=dd,data:=.seq items n,slots:=sl }/\s.heap.get? b=some { cls:=.type "tuple",dict:=dd2,data:=.seq items2 n2,slots:=sl2 } /\
    R (.ok (.ret (.bool (lexLt ns ms)))) s) :=
 .of_wp λprog w A R s h=>by
  obtain⟨hp,g,d,tk,os⟩:=s;obtain⟨hl,hb,h⟩:=h;have f2:=CA;have z1:items.size=ns.length:=by rw[<- hi.length];simp
  have z2:items2.size=ms.length:=by rw[<- hj.length];simp
  wp_walk using BP hl,BP hb,wpAny_forIn_list _ (λrest b s'=>b.1=none/\s'=⟨hp,g,d,tk,os⟩/\∃(vs ws:List Value) (ns' ms':List Int),rest=vs.zip ws /\
   IntsAre vs ns'/\IntsAre ws ms'/\ns'.length+items2.size=ms'.length+items.size/\R (.ok (.ret (.bool (lexLt ns' ms')))) ⟨hp,g,d,tk,os⟩) _
  case turn =>
   rintro⟨y,x⟩ rest b s' ⟨hb',rfl,vs,ws,ns',ms',hz,hvi,hwi,hlen,hR⟩
   cases hvi with
   |nil=>rw[List.zip_nil_left]at hz;cases hz
   |cons a t hvi' =>
    cases hwi with
    |nil=>rw[List.zip_nil_right]at hz;cases hz
    |cons c u hwi' =>
     rw[List.zip_cons_cons]at hz;injection hz with hyx hrest;injection hyx with hy hx;subst hy hx;rw[lexLt_cons]at hR;simp only[A9]at hlen;obtain⟨e,he,hiff⟩:=zl9 A.in1 ⟨hp,g,d,tk,os⟩ a t c u;refine Ad (he prog w _ _ ?_)
     cases e with
     |true =>
      rw[if_pos (hiff.mp rfl)]at hR
      wp_walk
      exact⟨rfl,rfl,_,_,_,_,hrest,hvi',hwi',by lia,hR⟩
     |false =>
      rw[if_neg (λq=>absurd (hiff.mpr q) AX)]at hR;have hri:=zlJ A.in1 ⟨hp,g,d,tk,os⟩ a t c u prog w
      wp_walk using hri
      exact⟨_,rfl,by simpa using hR⟩
  case fin =>
   rintro⟨b1,b2⟩ s' ⟨hb',rfl,vs,ws,ns',ms',hz,hvi,hwi,hlen,hR⟩;simp only at hb';subst hb'
   have hv:lexLt ns' ms'=decide (items.size<items2.size):=by
    cases hvi with
    |nil =>
     cases hwi with
     |nil =>
      simp only[Ej]at hlen;rw[zgj];exact (decide_eq_false (by lia)).symm
     |cons c u hw =>
      simp only[Ej,A9]at hlen;rw[zfd];exact (decide_eq_true (by lia)).symm
    |cons a t hv =>
     cases hwi with
     |nil =>
      simp only[Ej,A9]at hlen;rw[zfe];exact (decide_eq_false (by lia)).symm
     |cons c u hw =>
      rw[List.zip_cons_cons]at hz
      cases hz
   rw[hv]at hR
   wp_walk
   exact⟨_,rfl,by simpa[Builtin.Tuple.tupleCompareSizes]using hR⟩
  case h =>
   exact⟨rfl,rfl,items.toList,items2.toList,ns,ms,rfl,hi,hj,by lia,h⟩
end
section
variable {prog:AF}{w:A7}{A:AS}{E:Value->Af->Prop}{s:Af}
theorem lt_tupInts{l b:Addr}{items items2:Array Value}{ns ms:List Int}{Q:Value -> Af -> Prop}(hl:IsTup s.heap l items)(hb:IsTup s.heap b items2)(hi:IntsAre items.toList ns)(hj:IntsAre items2.toList ms)
  (hu:A.units<cLine) (h:Q (.bool (lexLt ns ms)) s):Aw (AE prog w) A (BX .Lt (.ref l) (.ref b)) Q E s:=by
 obtain⟨⟨cls,dd,data,sl⟩,ho,hc,n,hd⟩:=id hl;obtain⟨⟨cls2,dd2,data2,sl2⟩,ho2,hc2,n2,hd2⟩:=id hb;simp only at hc hd hc2 hd2;subst hc hd hc2 hd2
 exact richCompare_meets_room (op:=.Lt) ⟨_,ho,rfl⟩ ⟨_,ho2,rfl⟩ PySem.F.slot_tuple_lt PySem.F.entry_tuple_lt (PySem.F.args_tuple_lt_2 _ _) (zfE l b items items2 n n2 dd dd2 sl sl2 ns ms hi hj)
  ⟨ho,ho2,show Eo (lexLt ns ms)≠Value.notImplemented/\Q (.bool (lexLt ns ms)) s from ⟨(λx=>nomatch x),h⟩⟩ hu
theorem cat_tup{t b:Addr}{vs ws:List Value}{Q:Value -> Af -> Prop}(ht:IsTup s.heap t vs.toArray)(hb:IsTup s.heap b ws.toArray)(hv:vs ≠ [])
  (h1:ws=[]->Q (.ref t) s) (h2:ws≠[]->Q (.ref s.heap.objs.size) { s with heap:=s.heap.push { cls:=.type "tuple",data:=.seq (vs++ws).toArray } })
  (hsz:vs.length+ws.length<=sizeLine):Aw (AE prog w) A (CO .Add (.ref t) (.ref b)) Q E s:=by
 obtain⟨⟨cls,dd,data,sl⟩,ho,hc,n,hd⟩:=id ht;obtain⟨⟨cls2,dd2,data2,sl2⟩,ho2,hc2,n2,hd2⟩:=id hb;simp only at hc hd hc2 hd2;subst hc hd hc2 hd2;have e:vs.toArray++ws.toArray=(vs++ws).toArray:=by simp
 by_cases hw:ws=[]
 .exact concat_meets ⟨_, ho, rfl⟩ ⟨_, ho2, rfl⟩ noFill_tuple_add seq_tuple_add PySem.F.slot_tuple_add PySem.F.entry_tuple_add (PySem.F.args_tuple_add_2 _ _)
   (tuple_addW1 t b vs.toArray ws.toArray n n2 dd dd2 sl sl2 (by simpa using hv) (by simp[hw])) ⟨ho,ho2,h1 hw⟩
 .refine concat_meets ⟨_, ho, rfl⟩ ⟨_, ho2, rfl⟩ noFill_tuple_add seq_tuple_add PySem.F.slot_tuple_add PySem.F.entry_tuple_add (PySem.F.args_tuple_add_2 _ _)
   (tuple_addW2 t b vs.toArray ws.toArray n n2 dd dd2 sl sl2 (by simpa using hv) (by simpa using hw) (by rw[As,As];exact hsz)) ⟨ho,ho2,?_⟩
  rw[e];exact h2 hw
noncomputable def sIx(n d:Nat):Option Int->Nat
 |none=>d
 |some v=>if v<0 then (v+(n:Int)).toNat else min v.toNat n
theorem sIx_none(n d:Nat):sIx n d none=d:=rfl
theorem sIx_nat(n d k:Nat):sIx n d (some (k:Int))=min k n:=by show (if (k:Int)<0 then ((k:Int)+(n:Int)).toNat else min (k:Int).toNat n)=min k n;rw[if_neg (by lia),BV]
theorem znZ(n d:Nat)(hd:d<=n)(o:Option Int):sIx n d o<=n:=by
 cases o with
 |none=>exact hd
 |some v =>
  show (if v<0 then (v+(n:Int)).toNat else min v.toNat n)<=n
  by_cases hv:v<0
  .rw[if_pos hv];lia
  .rw[if_neg hv];exact Nat.min_le_right _ _
theorem zlh(v:Int)(n d:Nat):(if v<0 then max (v+(n:Int)) 0 else min v (n:Int))=((sIx n d (some v):Nat):Int):=by
 show (if v<0 then max (v+(n:Int)) 0 else min v (n:Int))=(((if v<0 then (v+(n:Int)).toNat else min v.toNat n):Nat):Int)
 by_cases hv:v<0
 .simp only[if_pos hv];lia
 .simp only[if_neg hv];lia
theorem zjG(lo hi:Option Int)(n:Nat):DZ lo hi 1 (n:Int)=(((sIx n 0 lo:Nat):Int),((sIx n n hi:Nat):Int)):=by
 have h1:¬ ((1:Int)<0):=by lia
 unfold DZ;simp only[h1,if_false];refine Eb ?_ ?_
 .cases lo with
  |none=>rfl
  |some v=>exact zlh v n 0
 .cases hi with
  |none=>rfl
  |some v=>exact zlh v n n
theorem zjm(i j:Nat):C8 (i:Int) (j:Int) 1=j-i:=by
 unfold C8;have h1:(1:Int) > 0:=by lia
 simp only[h1,if_true,Int.ediv_one];split <;> lia
theorem zfp{v:Value}{o:Option Int}{Q:Option Int->Af->Prop}(p:IsPart v o)(h:Q o s):Aw (AE prog w) A (Builtin.Slice.slicePartIndex v) Q E s:=by
 cases p with
 |none=>exact slicePart_none h
 |int i t=>exact slicePart_int h
theorem zcD{sl:Addr}{vl vu:Value}{lo hi:Option Int}{n:Nat}{Q:Int × Int × Nat -> Af -> Prop}(hs:s.heap.IsSliceOf sl vl vu .none)(pl:IsPart vl lo)(pu:IsPart vu hi)
  (h:Q (((sIx n 0 lo:Nat):Int),1,sIx n n hi-sIx n 0 lo) s):Aw (AE prog w) A (Builtin.Slice.sliceApplied (.ref sl) (pure (n:Int))) Q E s:=by
 obtain⟨os,hos,hcs,hds⟩:=id hs;unfold Builtin.Slice.sliceApplied Builtin.Slice.sliceFields;refine Ad (Ad (wpAny_field hos hds (x:=vl) rfl (Ad (wpAny_field hos hds (x:=vu) rfl (Ad (wpAny_field hos hds (x:=.none) rfl (Ak ?_)))))));refine Ad (slicePart_none ?_);show Aw _ _ (if ((1:Int) == 0)=true then _ else _) _ _ s;rw[if_neg (by decide)];refine Ad (zfp pl (Ad (zfp pu (Ad (Ak ?_)))));show Aw _ _ (match DZ lo hi 1 (n:Int) with | (lo,hi)=>pure (lo,(1:Int),C8 lo hi 1)) _ _ s;rw[zjG lo hi n];show Aw _ _ (pure (((sIx n 0 lo:Nat):Int),(1:Int),C8 ((sIx n 0 lo:Nat):Int) ((sIx n n hi:Nat):Int) 1)) _ _ s;rw[zjm];exact Ak h
theorem zlM(xs:Array Value)(i k:Nat):((Bq k).filterMap λ(m:Nat)=>xs[((i:Int)+(m:Int)*1).toNat]?).toArray=((xs.toList.drop i).take k).toArray:=by
 have e:(λ(m:Nat)=>xs[((i:Int)+(m:Int)*1).toNat]?)=λm=>xs[i+m]?:=by
  funext m
  have:((i:Int)+(m:Int)*1).toNat=i+m:=by lia
  rw[this]
 rw[e];have:=pick_run xs i k;rw[Ct]at this;have e2:((λx=>xs[x]?) ∘ λx=>i+x)=λm=>xs[i+m]?:=rfl
 rw[e2]at this;rw[this]
theorem getItem_tuple_cut{t sl:Addr}{items:Array Value}{vl vu:Value}{lo hi:Option Int}{Q:Value -> Af -> Prop}(ht:IsTup s.heap t items)(hs:s.heap.IsSliceOf sl vl vu .none)(pl:IsPart vl lo)(pu:IsPart vu hi)
  (hw:¬ (sIx items.size 0 lo=0/\sIx items.size items.size hi=items.size))
  (h:Q (.ref s.heap.objs.size) { s with heap:=s.heap.push { cls:=.type "tuple",data:=.seq ((items.toList.drop (sIx items.size 0 lo)).take (sIx items.size items.size hi-sIx items.size 0 lo)).toArray } })
  (hsz:items.size<=sizeLine):Aw (AE prog w) A (getItem (.ref t) (.ref sl)) Q E s:=by
 have htake:sizeOk (.seq ((items.toList.drop (sIx items.size 0 lo)).take (sIx items.size items.size hi-sIx items.size 0 lo)).toArray):=by show ((items.toList.drop (sIx items.size 0 lo)).take (sIx items.size items.size hi-sIx items.size 0 lo)).toArray.size<=sizeLine;rw[As,AA,CW,AN];lia
 have hj:sIx items.size items.size hi<=items.size:=znZ _ _ (Ai _) hi;obtain⟨os,hos,hcs,hds⟩:=id hs;have hTs:s.TypeIs (.ref sl) "slice":=⟨os,hos,hcs⟩;unfold getItem
 try with_reducible refine Br ?_
 first |refine Ad (Ak ?_) |skip
 refine Ad (wpAny_sequenceKey ht.typeIs (by decide) ?_)
 refine Ad (Dq (name:=Aa "__getitem__") ht.typeIs BJ
  (DY BJ ht.typeIs entry_tuple_getitem ?_ (args_tuple_getitem _ _)))
 show Aw _ _ (Builtin.Tuple.tupleItemsOf (.ref t) >>= _) _ _ s;refine Ad (tupleItemsOf_ ht ?_);refine Ad (wpAny_typeOf hTs ?_);rw[if_pos (by decide)];refine Ad (zcD hs pl pu ?_)
 have hno:¬ ((((sIx items.size 0 lo:Nat):Int) == 0 && (1:Int) == 1 && (sIx items.size items.size hi-sIx items.size 0 lo) == items.size)=true):=by intro q;rw[Bo,Bo]at q;have q1:((sIx items.size 0 lo:Nat):Int)=0:=eq_of_beq q.1.1;have q2:sIx items.size items.size hi-sIx items.size 0 lo=items.size:=eq_of_beq q.2;exact hw ⟨by lia,by lia⟩
 show Aw _ _ (if (((sIx items.size 0 lo:Nat):Int) == 0 && (1:Int) == 1 && (sIx items.size items.size hi-sIx items.size 0 lo) == items.size)=true then _ else _) _ _ s;rw[if_neg hno,zlM]
 first
  |exact Ad (m:=B7 _) (BG (Ak ⟨_,rfl,Ak h⟩) htake)
  |exact Ad (m:=B7 _) (BG (Ad (Ak (Ak ⟨_,rfl,Ak h⟩))) htake)
  |exact Ad (Ad (m:=B7 _) (BG (Ak (Ak ⟨_,rfl,Ak h⟩)) htake))
  |exact Ad (Ad (m:=B7 _) (BG (Ak ⟨_,rfl,Ak h⟩) htake))
end
end HT
namespace L2
open PySem PySem.Spec PyProof.Rows
noncomputable abbrev TO:=St->Hp->(Option Int->Hp->Prop)->Prop
noncomputable def PO(X:Cx)(e:Option Expr)(t:TO):Prop :=
 ∀(pins:List (Addr×Obj)) (s:Af) (σ:St) (H:Hp) (Q:Option Int->Hp->Prop),Inv X pins σ H s->t σ H Q ->
  Aw (AE X.prog X.w) X.A (evalPart e X.env) (λu s'=>∃o H',Inv X pins σ H' s'/\IsPart u o/\Q o H') X.xe s
noncomputable def zmW:TO:=λ_ H Q=>Q none H
noncomputable def tPart(t:TE):TO:=λσ H Q=>t σ H λx H1=>∃i,x=.int i/\Q (some i) H1
theorem zfz{ns:List Int}:∀{us:List Value},Vals (ns.map V.int) us->IntsAre us ns:=by
 induction ns with
 |nil=>intro us r;rw[List.map_nil]at r;cases r;exact .nil
 |cons n ns ih =>
  intro us r;rw[Bj]at r
  cases r with
  |cons r1 r2 =>
   obtain⟨t,e⟩:=r1;subst e;exact .cons n t (ih r2)
section
variable {X:Cx}{e:Expr}{te:TE}{lo hi:Option Expr}{tl th:TO}{pos p2:Pos}
theorem zcU:PO X none zmW:=by intro pins s σ H Q I h;rw[evalPart_none];exact Ak ⟨none,H,I,.none,h⟩
theorem zca(h:PE X e te):PO X (some e) (tPart te):=by
 intro pins s σ H Q I hw;rw[evalPart_some];refine thn (h pins s σ H _ I hw) λu s1 ⟨x,H1,I1,r1,q1⟩=>?_
 obtain⟨i,rfl,q⟩:=q1;obtain⟨t,rfl⟩:=r1;exact⟨some i,H1,I1,.int i t,q⟩
noncomputable def SlR(X:Cx)(r:V->Option Int->Option Int->Hp->VK->Prop):Prop :=
 ∀(pins:List (Addr×Obj)) (s:Af) (σ:St) (H:Hp) (x:V) (v vl vu:Value) (lo hi:Option Int) (sl:Addr) (Q:VK),Inv X pins σ H s->RelV x v->s.heap.IsSliceOf sl vl vu .none->IsPart vl lo->IsPart vu hi->r x lo hi H Q ->
  ∃T id,typeLookup (.type T) "__getitem__" = pure (some (.builtin id))/\s.TypeIs v T/\Aw (AE X.prog X.w) X.A (getItem v (.ref sl)) (EP X pins σ Q) X.xe s
noncomputable def tSl(r:V->Option Int->Option Int->Hp->VK->Prop)(te:TE)(tl th:TO):TE:=λσ H Q=>te σ H λx H1=>tl σ H1 λl H2=>th σ H2 λu H3=>r x l u H3 Q
theorem zbS{r:V->Option Int->Option Int->Hp->VK->Prop}(hr:SlR X r)(he:PE X e te)(hl:PO X lo tl)(hu:PO X hi th):PE X (.Subscript e (.Slice lo hi none p2) pos) (tSl r te tl th):=by
 intro pins s σ H Q I h;refine Subscript_ (thn (he pins s σ H _ I h) λv s1 ⟨x,H1,I1,r1,q1⟩=>?_);refine wpAny_Slice (thn (hl pins s1 σ H1 _ I1 q1) λvl s2 ⟨l,H2,I2,pl,q2⟩=>thn (hu pins s2 σ H2 _ I2 q2) λvu s3 ⟨u,H3,I3,pu,q3⟩=>?_);rw[evalPart_none];refine Ak ?_
 have I4:Inv X pins σ H3 { s3 with heap:=s3.heap.push { cls:=.type "slice",data:=.fields #[vl,vu,.none] } }:=I3.kept (t':=s3.toks) λb ob q=>Ah _ q
 obtain⟨T,id,hT,ht,hg⟩:=hr pins { s3 with heap:=s3.heap.push { cls:=.type "slice",data:=.fields #[vl,vu,.none] } } σ H3 x v vl vu l u s3.heap.objs.size Q I4 r1 (Heap.IsSliceOf.new ..) pl pu q3;show Aw (AE X.prog X.w) X.A (subscriptTail e (.Slice lo hi none p2) v (.ref s3.heap.objs.size)) (EP X pins σ Q) X.xe { s3 with heap:=s3.heap.push { cls:=.type "slice",data:=.fields #[vl,vu,.none] } };exact tail_any (ops:=[.ref s3.heap.objs.size,v]) ht hT hg (by with_unfolding_all rfl)
noncomputable def cutV(xs:List V)(lo hi:Option Int):List V:=(xs.drop (HT.sIx xs.length 0 lo)).take (HT.sIx xs.length xs.length hi-HT.sIx xs.length 0 lo)
theorem zeT(xs:List V)(lo hi:Option Int):(cutV xs lo hi).length<=xs.length:=by unfold cutV;rw[AA,CW];lia
noncomputable def rSlT(K:W.Frag):V->Option Int->Option Int->Hp->VK->Prop:=λx lo hi H Q=>∃a xs,x=.ref a/\SqT K H a xs /\
 ¬ (HT.sIx xs.length 0 lo=0/\HT.sIx xs.length xs.length hi=xs.length)/\∀p,H p=none->Q (.ref p) (upd H p (.tup (cutV xs lo hi)))
theorem znS:SlR X (rSlT X.K):=by
 intro pins s σ H x v vl vu lo hi sl Q I rx hs pl pu h;obtain⟨a,xs,rfl,hx,hw,q⟩:=h
 cases rx
 obtain⟨its,r,ht,hz⟩:=I.tuple hx;have hlen:its.toArray.size=xs.length:=by rw[As];exact r.length.symm
 refine⟨"tuple",_,BJ.lookup,ht.typeIs,?_⟩;refine HT.getItem_tuple_cut ht hs pl pu (by rw[hlen];exact hw) ?_ (by rw[hlen];exact hz)
 rw[hlen];refine⟨.ref s.heap.objs.size,_,I.laid (t':=s.toks) (o:=.tup (cutV xs lo hi)) (λb ob q=>Ah _ q) (Ai _) ?_,rfl,q _ (I.hok.fresh (Ai _))⟩;exact⟨AV (zeT xs lo hi) hz,_,(r.drop (HT.sIx xs.length 0 lo)).take (HT.sIx xs.length xs.length hi-HT.sIx xs.length 0 lo),IsTup.new _ _⟩
noncomputable def rCatT(K:W.Frag):R2:=λx y H Q=>∃a b xs ys,x=.ref a/\y=.ref b/\SqT K H a xs/\SqT K H b ys/\xs≠[]/\xs.length+ys.length<=sizeLine /\
 (ys=[]->Q (.ref a) H)/\(ys≠[]->∀p,H p=none->Q (.ref p) (upd H p (.tup (xs++ys))))
theorem Vals.nil_iff{xs:List V}{us:List Value}(r:Vals xs us):us=[] ↔ xs=[]:=by
 cases r with
 |nil=>simp
 |cons _ _=>simp
theorem zcW:OpR X (CO .Add) (rCatT X.K):=by
 intro pins s σ H x y v u Q I rx ry h;obtain⟨a,b,xs,ys,rfl,rfl,ha,hb,hx,hz,q1,q2⟩:=h
 cases rx
 cases ry
 obtain⟨its,r1,p1,_⟩:=I.tuple ha;obtain⟨its2,r2,p2,_⟩:=I.tuple hb;refine HT.cat_tup p1 p2 (λz=>hx (r1.nil_iff.mp z)) (λz=>⟨.ref a,H,I,rfl,q1 (r2.nil_iff.mp z)⟩) (λz=>?_) (by rw[<- r1.length,<- r2.length];exact hz);refine⟨.ref s.heap.objs.size,_,I.laid (t':=s.toks) (o:=.tup (xs++ys)) (λb ob q=>Ah _ q) (Ai _) ?_,rfl,q2 (λw=>z (r2.nil_iff.mpr w)) _ (I.hok.fresh (Ai _))⟩;exact⟨by rw[Am];exact hz,_,r1.append r2,IsTup.new _ _⟩
end
noncomputable def ixN(n:Nat)(i:Int):Option Nat:=if 0<=i then (if i<n then some i.toNat else none) else if -(n:Int)<=i then some (i+n).toNat else none
noncomputable def atI{α:Type}(xs:List α)(i:Int):Option α:=(ixN xs.length i).bind λj=>xs[j]?
theorem zkZ{n:Nat}{i:Int}{j:Nat}(h:ixN n i=some j):seqIndex? i n=some j/\j<n/\-(n:Int)<=i/\i<n:=by
 unfold ixN at h
 by_cases h0:0<=i
 .rw[if_pos h0]at h
  by_cases h1:i<n
  .rw[if_pos h1]at h;have e:i.toNat=j:=A0 h;exact⟨by rw[seqIndex_of h0 h1,e],by lia,by lia,h1⟩
  .rw[if_neg h1]at h;cases h
 .rw[if_neg h0]at h
  by_cases h1:-(n:Int)<=i
  .rw[if_pos h1]at h;have e:(i+n).toNat=j:=A0 h;exact⟨by rw[seqIndex_neg (by lia) h1,e],by lia,h1,by lia⟩
  .rw[if_neg h1]at h;cases h
theorem zh8{α:Type}{xs:List α}{i:Int}{v:α}(h:atI xs i=some v):∃j,seqIndex? i xs.length=some j/\xs[j]?=some v/\j<xs.length/\-(xs.length:Int)<=i/\i<xs.length:=by
 unfold atI at h
 cases e:ixN xs.length i with
 |none=>rw[e]at h;cases h
 |some j =>
  rw[e]at h;obtain⟨h1,h2,h3,h4⟩:=zkZ e;exact⟨j,h1,h,h2,h3,h4⟩
theorem zaE{α:Type}{xs:List α}{j:Nat}{v:α}(h:xs[j]?=some v):atI xs (j:Int)=some v:=by
 have hj:j<xs.length:=(Ae.mp h).1
 have e:ixN xs.length (j:Int)=some j:=by unfold ixN;rw[if_pos (by lia),if_pos (by lia)];simp
 unfold atI;rw[e];exact h
noncomputable def znF(b:Expr):Prop:=∀o i,subscripted b false o i=operate [o,i] (getItem o i)
noncomputable def IxR(X:Cx)(r:R2):Prop :=
 ∀(value slice:Expr) (pins:List (Addr×Obj)) (s:Af) (σ:St) (H:Hp) (x y:V) (v u:Value) (Q:VK),Inv X pins σ H s->RelV x v->RelV y u->r x y H Q ->
  subscripted slice false v u=operate [v,u] (getItem v u)->Aw (AE X.prog X.w) X.A (subscriptTail value slice v u) (EP X pins σ Q) X.xe s
noncomputable def MtR(X:Cx)(id:String)(r:V->List V->Hp->VK->Prop):Prop :=
 ∀(pins:List (Addr×Obj)) (s:Af) (σ:St) (H:Hp) (x:V) (xs:List V) (v:Value) (us:List Value) (Q:VK),Inv X pins σ H s->RelV x v->Vals xs us->r x xs H Q ->
  Aw (AE X.prog X.w) X.A (call (.builtin id) (v::us)) (EP X pins σ Q) X.xe s
section
variable {X:Cx}{a b:Expr}{ta tb:TE}{pos:Pos}
theorem pe_ix{r:R2}(hr:IxR X r)(ha:PE X a ta)(hb:PE X b tb)(hs:znF b):PE X (.Subscript a b pos) (tOp r ta tb):=by intro pins s σ H Q I h;exact Subscript_ (binT ha hb I h λv u s2 x y H2 I2 rx ry q=>hr a b pins s2 σ H2 x y v u Q I2 rx ry q (hs _ _))
noncomputable def rIxL(K:W.Frag):R2:=λx y H Q=>∃p xs i v,x=.ref p/\y=.int i/\SqL K H p xs/\atI xs i=some v/\Q v H
noncomputable def rIxT(K:W.Frag):R2:=λx y H Q=>∃p xs i v,x=.ref p/\y=.int i/\SqT K H p xs/\atI xs i=some v/\Q v H
noncomputable def rIxS:R2:=λx y H Q=>∃z i c,x=.str z/\y=.int i/\z.length<=sizeLine/\atI z.cps.toList i=some c/\Q (.str ⟨#[c]⟩) H
theorem za7:IxR X (rIxL X.K):=by
 intro value slice pins s σ H x y v u Q I rx ry h hs;obtain⟨p,xs,i,z,rfl,rfl,hq,he,q⟩:=h
 cases rx
 obtain⟨t,rfl⟩:=ry;obtain⟨its,r,pl,hz⟩:=I.list hq;obtain⟨j,h1,h2,h3,h4,h5⟩:=zh8 he;obtain⟨w,ew,rw'⟩:=r.get h2;have hl:=r.length;have hn:=zeL;have fin:EP X pins σ Q w s:=⟨z,H,I,rw',q⟩
 by_cases h0:0<=i
 .have hj:i.toNat=j := by rw[seqIndex_of h0 h5]at h1;exact A0 h1
  exact item_listR pl.isList h0 (by lia) (by rw[hj];simpa using ew) fin hs
 .have hj:(i + (its.toArray.size:Int)).toNat=j := by rw[seqIndex_neg (by lia) h4]at h1;rw[As,<- hl];exact A0 h1
  exact subscriptTail_builtinR (x:=w) pl.isList.typeIs slot_list_getitem.lookup
   (wpAny_getItem_list_neg (Q:=λr s'=>r=w/\EP X pins σ Q r s') pl.isList (by lia) (by rw[As] <;> lia) (by lia) (by rw[hj];simpa using ew) ⟨rfl,fin⟩) hs
theorem zbn:IxR X (rIxT X.K):=by
 intro value slice pins s σ H x y v u Q I rx ry h hs;obtain⟨p,xs,i,z,rfl,rfl,hq,he,q⟩:=h
 cases rx
 obtain⟨t,rfl⟩:=ry;obtain⟨its,r,pl,hz⟩:=I.tuple hq;obtain⟨j,h1,h2,h3,h4,h5⟩:=zh8 he;obtain⟨w,ew,rw'⟩:=r.get h2;have hl:=r.length;have hn:=zeL;have fin:EP X pins σ Q w s:=⟨z,H,I,rw',q⟩
 exact subscriptTail_builtinR (x:=w) pl.typeIs slot_tuple_getitem.lookup
  (getItem_tuple (j:=j) (Q:=λr s'=>r=w/\EP X pins σ Q r s') pl (by lia) (by lia) (by rw[As,<- hl];exact h1) (by simpa using ew) ⟨rfl,fin⟩) hs
theorem zmI:IxR X rIxS:=by
 intro value slice pins s σ H x y v u Q I rx ry h hs;obtain⟨z,i,c,rfl,rfl,hz,he,q⟩:=h;obtain⟨t,rfl⟩:=rx;obtain⟨t',rfl⟩:=ry;obtain⟨j,h1,h2,h3,h4,h5⟩:=zh8 he;have hl:z.cps.toList.length=z.length:=by simp[Str.length]
 rw[hl]at h1 h4 h5;have hn:=zeL
 exact tail_any (Er s z t) slot_str_getitem.lookup (getItem_str (c:=c) (by
  have e1:decide (i < -(2 ^ 63:Int))=false:=decide_eq_false (by lia);have e2:decide (i ≥ 2 ^ 63)=false:=decide_eq_false (by lia);rw[e1,e2,Bool.or_false]) (by rw[h1];simpa using h2) ⟨.str ⟨#[c]⟩,H,I.tok _,⟨_,rfl⟩,q⟩) hs
theorem zjA (its:List Value) (n j:Nat) (u:Value):A8 (·.setIfInBounds j u) { cls:=.type "list",data:=.seq its.toArray n }={ cls:=.type "list",data:=.seq (its.set j u).toArray n }:=by simp[A8]
theorem Inv.lst{pins:List (Addr × Obj)}{σ : St}{H:Hp}{s:Af}{p:Addr}{xs:List V}(I:Inv X pins σ H s)(h:H p=some (.lst xs)) :
  ∃(its:List Value) (n:Nat),Vals xs its/\s.heap.get? p=some { cls:=.type "list",data:=.seq its.toArray n }/\xs.length<=sizeLine:=by
 obtain⟨z,its,n,r,e⟩:=I.hok p _ h;exact⟨its,n,r,e,z⟩
theorem Inv.lstUpd{pins:List (Addr × Obj)}{σ : St}{H:Hp}{s:Af}{p:Addr}{xs ys:List V}{its its':List Value}{n n':Nat}{f:Obj -> Obj}(I:Inv X pins σ H s)(h:H p=some (.lst xs))
  (ho:s.heap.get? p=some { cls:=.type "list",data:=.seq its.toArray n }) (hf:f { cls:=.type "list",data:=.seq its.toArray n }={ cls:=.type "list",data:=.seq its'.toArray n' }) (r:Vals ys its') (hz:ys.length<=sizeLine) (t:Nat) :
  Inv X pins σ (upd H p (.lst ys)) { s with heap:=s.heap.update p f,toks:=t }:=by
 have e:(s.heap.update p f).get? p=some { cls:=.type "list",data:=.seq its'.toArray n' }:=by rw[Heap.get?_update_self f ho (by rw[hf] <;> rfl),hf]
 refine I.write (x:=p) (e:=p) (by rw[h];trivial) (.inl rfl) (λb u hb q=>(Dt _ _ (Cz hb)).trans q) ⟨_,e⟩ ?_
 exact⟨hz,its',n',r,e⟩
noncomputable def rSetL:V->V->V->Hp->(Hp->Prop)->Prop:=λo i v H Q=>∃p xs k j,o=.ref p/\i=.int k/\H p=some (.lst xs)/\ixN xs.length k=some j/\Q (upd H p (.lst (xs.set j v)))
theorem zlB:PSet X rSetL:=by
 intro pins s σ H o i v ov iv u Q I ro ri rv h;obtain⟨p,xs,k,j,rfl,rfl,hp,hj,q⟩:=h
 cases ro
 obtain⟨t,rfl⟩:=ri;obtain⟨its,n,r,ho,hz⟩:=I.lst hp;obtain⟨h1,h2,h3,h4⟩:=zkZ hj;have hl:=r.length;have hn:=zeL
 have I':Inv X pins σ (upd H p (.lst (xs.set j v))) { s with heap:=s.heap.update p (A8 (·.setIfInBounds j u)) } :=
  I.lstUpd hp ho (zjA its n j u) (r.set rv j) (by rw[List.length_set];exact hz) s.toks
 by_cases h0:0<=k
 .have hk:k.toNat=j := by rw[seqIndex_of h0 h4]at h1;exact A0 h1
  exact W.ki_setAt ho h0 (by lia) (by rw[As,<- hl];exact h4) (by rw[hk];exact⟨_,I',q⟩)
 .have hk:(k + (its.toArray.size:Int)).toNat=j := by rw[seqIndex_neg (by lia) h3]at h1;rw[As,<- hl];exact A0 h1
  exact W.ki_setBack ho (by lia) (by rw[As,<- hl];exact h3) (by lia) (by rw[hk];exact⟨_,I',q⟩)
theorem zgM(lo hi:Option Int)(n:Nat):(EA lo hi none n).1=((HT.sIx n 0 lo:Nat):Int)/\(EA lo hi none n).2.1=((HT.sIx n n hi:Nat):Int)/\(EA lo hi none n).2.2=1:=by
 refine⟨?_,?_,rfl⟩
 .cases lo with
  |none=>simp[EA,HT.sIx]
  |some i =>
   simp only[EA,HT.sIx,Option.getD_none,show (1:Int) > 0 by decide,if_true]
   by_cases h:i<0
   .simp only[h,if_true] <;> lia
   .simp only[h,if_false] <;> lia
 .cases hi with
  |none=>simp[EA,HT.sIx]
  |some i =>
   simp only[EA,HT.sIx,Option.getD_none,show (1:Int) > 0 by decide,if_true]
   by_cases h:i<0
   .simp only[h,if_true] <;> lia
   .simp only[h,if_false] <;> lia
theorem zfM(its:List Value)(lo hi:Option Int):slicePick its.toArray lo hi none=((its.drop (HT.sIx its.length 0 lo)).take (HT.sIx its.length its.length hi-HT.sIx its.length 0 lo)).toArray:=by obtain⟨h1,h2,h3⟩:=zgM lo hi its.toArray.size;unfold slicePick;rw[h1,h2,h3];simp only[sliceRange_one,pick_run,As] <;> rfl
noncomputable def rSlL(K:W.Frag):V->Option Int->Option Int->Hp->VK->Prop:=λx lo hi H Q=>∃a xs,x=.ref a/\SqL K H a xs/\∀p,H p=none->Q (.ref p) (upd H p (.lst (cutV xs lo hi)))
theorem zdL:SlR X (rSlL X.K):=by
 intro pins s σ H x v vl vu lo hi sl Q I rx hs pl pu h;obtain⟨a,xs,rfl,hx,q⟩:=h
 cases rx
 obtain⟨its,r,ht,hz⟩:=I.list hx;have hlen:=r.length;refine⟨"list",_,slot_list_getitem.lookup,ht.isList.typeIs,?_⟩;refine wpAny_getItem_list_slice ht.isList hs pl pu .none (by simp) ?_ (by rw[As] <;> lia)
 rw[zfM,<- hlen];refine⟨.ref s.heap.objs.size,_,I.laid (t':=s.toks) (o:=.lst (cutV xs lo hi)) (λb ob q=>Ah _ q) (Ai _) ?_,rfl,q _ (I.hok.fresh (Ai _))⟩;exact⟨AV (zeT xs lo hi) hz,_,0,(r.drop (HT.sIx xs.length 0 lo)).take (HT.sIx xs.length xs.length hi-HT.sIx xs.length 0 lo),AC _ rfl⟩
theorem zgW:OpR X (BX .NotIn) (λx y H Q=>∃i j,x=.str i/\y=.str j/\Q (.bl (!(!(Ca j i 0 j.length 1).isEmpty))) H):=by intro pins s σ H x y v u Q I rx ry h;obtain⟨i,j,rfl,rfl,q⟩:=h;obtain⟨t,rfl⟩:=rx;obtain⟨t',rfl⟩:=ry;exact notIn_str ⟨.bl _,H,I,rfl,q⟩
theorem zaw:CallR X (.builtin "len") (λxs H Q=>∃p ys,xs=[.ref p]/\(SqL X.K H p ys∨SqT X.K H p ys)/\Q (.int ys.length) H):=by
 intro pins s σ H xs us Q I r h;obtain⟨p,ys,rfl,hq,q⟩:=h;obtain⟨u,rfl,rx⟩:=vals1 r
 cases rx
 have hn:=zeL;rcases hq with hq |hq
 .obtain⟨its,r',pl,hz⟩:=I.list hq;have hlen:=r'.length;exact Calls.call_len_list pl.isList (by simp only[As] <;> lia) ⟨.int ys.length,H,I.tok _,⟨s.toks+1,by rw[As,hlen]⟩,q⟩
 .obtain⟨its,r',pl,hz⟩:=I.tuple hq;have hlen:=r'.length;exact len_tuple pl (by simp only[As] <;> lia) ⟨.int ys.length,H,I.tok _,⟨s.toks+1,by rw[As,hlen]⟩,q⟩
theorem zaW:CallR X (.builtin "len") (λxs H Q=>∃z,xs=[.str z]/\z.length<=sizeLine/\Q (.int z.length) H):=by intro pins s σ H xs us Q I r h;obtain⟨z,rfl,hz,q⟩:=h;obtain⟨u,rfl,t,rfl⟩:=vals1 r;have hn:=zeL;exact len_str (by lia) ⟨.int z.length,H,I.tok _,⟨_,rfl⟩,q⟩
theorem zbU:CallR X (.type "tuple") (λxs H Q=>∃p ys,xs=[.ref p]/\((SqL X.K H p ys/\∀l,H l=none->Q (.ref l) (upd H l (.tup ys)))∨(SqT X.K H p ys/\Q (.ref p) H))):=by
 intro pins s σ H xs us Q I r h;obtain⟨p,ys,rfl,h⟩:=h;obtain⟨u,rfl,rx⟩:=vals1 r
 cases rx
 rcases h with⟨hq,q⟩ |⟨hq,q⟩
 .obtain⟨its,r',pl,hz⟩:=I.list hq;have hlen:=r'.length;refine call_tuple_list pl.isList (λh' kp=>?_) (by simp only[As] <;> lia);have I1:Inv X pins σ H { s with heap:=h' }:=I.kept (t':=s.toks) kp
  have I2:Inv X pins σ (upd H h'.objs.size (.tup ys)) { s with heap:=h'.push { cls:=.type "tuple",data:=.seq its.toArray } } :=
   I1.laid (t':=s.toks) (λb o e=>Ah _ e) (Ai _) (show ObjOk X.prog X.w _ _ _ (.tup ys) from ⟨hz,its,r',IsTup.new _ _⟩)
  exact⟨.ref h'.objs.size,_,I2,rfl,q _ (I1.hok.fresh (Ai _))⟩
 .obtain⟨its,r',pl,hz⟩:=I.tuple hq;exact call_tuple_same pl ⟨.ref p,H,I,rfl,q⟩
noncomputable def tyV(K:W.Frag)(T:String)(x:V)(H:Hp):Prop:=match x with
  |.str _=>T = "str"
  |.int _=>T = "int"
  |.ref p => (T = "list" /\ ∃xs, SqL K H p xs) ∨ (T = "tuple" /\ ∃o, K.lookup p=some o /\ o.cls = .type "tuple" /\ o.dict=none) ∨
      (T = "dict" /\ ((∃kvs,H p=some (.dK kvs))∨∃kvs,H p=some (.dT kvs)))∨(T = "set" /\ ∃S n,H p=some (.set S n))
  |_=>False
theorem znH{pins:List (Addr × Obj)}{σ : St}{H:Hp}{s:Af}{T:String}{x:V}{v:Value}(I:Inv X pins σ H s)(r:RelV x v)(ty:tyV X.K T x H) :
  s.TypeIs v T/\∀a,v=.ref a->∃ob,s.heap.get? a=some ob/\ob.dict=none:=by
 cases x with
 |str z =>
  obtain⟨t,rfl⟩:=r
  cases (show T = "str" from ty)
  exact⟨Er s z t,λ_ e=>nomatch e⟩
 |int i =>
  obtain⟨t,rfl⟩:=r
  cases (show T = "int" from ty)
  exact⟨typeIs_int s i t,λ_ e=>nomatch e⟩
 |ref p =>
  cases r
  rcases ty with⟨rfl,xs,hq⟩ |⟨rfl,o,hk,hc,hd⟩ |⟨rfl,hk⟩ |⟨rfl,S,n,hk⟩
  .obtain⟨its,_,pl,_⟩:=I.list hq;refine⟨pl.isList.typeIs,λa e=>?_⟩
   cases e
   obtain⟨o,n,e,c,hd,_⟩:=pl;exact⟨o,e,hd⟩
  .refine⟨⟨o,I.kIn p o hk,hc⟩,λa e=>?_⟩
   cases e
   exact⟨o,I.kIn _ o hk,hd⟩
  .have z:∃o, s.heap.get? p=some o /\ o.ExactDict := by
    rcases hk with⟨kvs,hk⟩ |⟨kvs,hk⟩
    .obtain⟨_,_,_,_,o,_,_,e,ex,_⟩:=I.hok p _ hk;exact⟨o,e,ex⟩
    .obtain⟨_,_,_,_,o,_,_,e,ex,_⟩:=I.hok p _ hk;exact⟨o,e,ex⟩
   obtain⟨o,e,ex⟩:=z;refine⟨⟨o,e,ex.1⟩,λa e2=>?_⟩
   cases e2
   exact⟨o,e,ex.2.1⟩
  .obtain⟨o,_,_,_,e,ex,_⟩:=I.hok p _ hk;refine⟨⟨o,e,ex.1⟩,λa e2=>?_⟩
   cases e2
   exact⟨o,e,ex.2.1⟩
 |_=>exact BN ty
noncomputable def tBM(K:W.Frag)(T:String)(r:V->List V->Hp->VK->Prop)(to:TE)(t:TA):TE:=λσ H Q=>to σ H λx H1=>tyV K T x H1/\t σ H1 λxs H2=>r x xs H2 Q
variable {o e:Expr}{es:List Expr}{to:TE}{t:TA}{name:Str}{apos cpos:Pos}{T id:String}{r:V->List V->Hp->VK->Prop}
theorem pe_bm (pa:PlainAttrs T) (slot:Slot T name id) (hty:typeOf (.builtin id)=pure (.type "method_descriptor")) (hm:MtR X id r) (ho:PE X o to) (ha:PA X (e :: es) t)
  (hbase:attributeBase o name X.env (eval o X.env)=eval o X.env:=by rfl)
  (hfew:((backTo cpos (Bw (e::es) X.env)).all (λx=>!x.1) && (Ea cpos (CV [] X.env)).all (λx=>x.1.isSome)
   && decide ((e::es).length+([]:List Keyword).length+(if ([]:List Keyword).isEmpty then 0 else 1)<30))=true:=by rfl)
  (hline:(apos.endLine == cpos.line)=true:=by rfl) (hs:Bw (e::es) X.env=(false,eval e X.env)::Bw es X.env:=by rfl) (hplain:(backTo cpos (Bw es X.env)).any (·.1)=false:=by rfl) :
  PE X (.Call (.Attribute o name apos) (e::es) [] cpos) (tBM X.K T r to t):=by
 intro pins s σ H Q I h;refine wpAny_Call_method_late hbase hfew hline rfl (thn (ho pins s σ H _ I h) λv s1 ⟨x,H1,I1,r1,ty,q1⟩=>?_);obtain⟨h1,h2⟩:=znH I1 r1 ty;refine⟨T,id,pa,slot,hty,h1,h2,?_⟩;have hA:=ha cpos pins s1 σ H1 _ I1 q1;rw[hs]at hA ⊢;refine Calls.callWith_builtin (by show (false || (backTo cpos (Bw es X.env)).any (·.1))=false;rw[hplain] <;> rfl) (Calls.evalArgs_plain ?_);exact thn hA λus s2 ⟨vs,H2,I2,r2,q2⟩=>hm pins s2 σ H2 x vs v us Q I2 r1 r2 q2
/- xs.append(e),list.index on a module's tuple .. are MtR facts of 06m -/
end
noncomputable def MtM(X:Cx)(id:String)(r:V->List V->Hp->VK->Prop):Prop :=
 ∀(pins:List (Addr×Obj)) (s:Af) (σ:St) (H:Hp) (x:V) (xs:List V) (v:Value) (us:List Value) (Q:VK),Inv X pins σ H s->RelV x v->Vals xs us->r x xs H Q ->
  Aw (AE X.prog X.w) X.A (call (.builtin id) (v::us)) (EP X pins σ Q) X.xe s
theorem Vals.one:∀{x:V}{us:List Value},Vals [x] us->∃u,us=[u]/\RelV x u
 |_,_,.cons r .nil=>⟨_,rfl,r⟩
theorem Vals.reverse{xs:List V}{us:List Value}(h:Vals xs us):Vals xs.reverse us.reverse:=by
 induction h with
 |nil=>exact .nil
 |cons r t ih=>rw[List.reverse_cons,List.reverse_cons];exact Vals.append ih (.cons r .nil)
theorem Vals.rep{xs:List V}{us:List Value}(h:Vals xs us):∀k:Nat,Vals (Ac k xs).flatten (Ac k us).flatten
 | 0=>.nil
 |k+1=>by
  rw[Bh,Bh,Bi,Bi];exact Vals.append h (Vals.rep h k)
theorem zhj(its:List Value):∀(k:Nat) (acc:List Value),
  List.foldl (λx1 x2=>x1++x2) acc.toArray (Ac k its.toArray)=(acc++(Ac k its).flatten).toArray
 | 0,acc=>by simp
 |k+1,acc=>by
  have e:acc.toArray++its.toArray=(acc++its).toArray:=by simp
  have e2:(acc++its)++(Ac k its).flatten=acc++(Ac (k+1) its).flatten:=by rw[Bh,Bi,AB]
  rw[<- e2,<- zhj its k (acc++its),<- e,Bh,List.foldl_cons]
section
variable {X:Cx}{pins:List (Addr×Obj)}{σ:St}{H:Hp}{s:Af}{l b:Addr}{xs ys zs:List V}
theorem Inv.lset{its its':List Value}{n:Nat}{f:Array Value -> Array Value}{t':Nat}(I:Inv X pins σ H s)(hH:H l=some (.lst xs))
  (e:s.heap.get? l=some { cls:=.type "list",data:=.seq its.toArray n }) (hf:f its.toArray=its'.toArray) (hv:Vals ys its') (hz:ys.length<=sizeLine) :
  Inv X pins σ (upd H l (.lst ys)) { s with heap:=s.heap.update l (A8 f),toks:=t' }:=by
 have q:=PySem.IsL.update e f;rw[hf]at q;refine I.write (x:=l) (e:=l) (by rw[hH];exact trivial) (.inl rfl) (λb' u hb hu=>(Dt s.heap (A8 f) (Cz hb)).trans hu) ⟨_,q⟩ ?_
 exact⟨hz,its',_,hv,q⟩
theorem Inv.lnew{its:List Value}{t':Nat}(I:Inv X pins σ H s)(hv:Vals ys its)(hz:ys.length <= sizeLine) :
  Inv X pins σ (upd H s.heap.objs.size (.lst ys)) { s with heap:=s.heap.push { cls:=.type "list",data:=.seq its.toArray },toks:=t' } :=
 I.laid (λ_ _ q=>Ah _ q) (Ai _) ⟨hz,its,0,hv,AC _ rfl⟩
theorem Inv.fresh(I:Inv X pins σ H s):H s.heap.objs.size=none:=I.hok.fresh (Ai _)
theorem Inv.lstM (I:Inv X pins σ H s) (hH:H l=some (.lst xs)):xs.length<=sizeLine/\∃(its:List Value) (n:Nat),Vals xs its/\xs.length=its.length/\s.heap.get? l=some { cls:=.type "list",data:=.seq its.toArray n }:=by obtain⟨z,its,n,r,e⟩:=I.hok l _ hH;exact⟨z,its,n,r,r.length,e⟩
theorem ziL{n:Nat}(h:n<=sizeLine):Dj n=false:=by unfold Dj;exact decide_eq_false (by lia)
end
section
variable {X:Cx}
noncomputable def zne:V->List V->Hp->VK->Prop:=λx vs H Q=>∃l xs y,x=.ref l/\vs=[y]/\H l=some (.lst xs)/\xs.length<sizeLine/\Q .non (upd H l (.lst (xs++[y])))
theorem zaM:MtM X "list.append" zne:=by
 intro pins s σ H x vs v us Q I rx rv h;obtain⟨l,xs,y,rfl,rfl,hH,hz,q⟩:=h
 cases rx
 obtain⟨u,rfl,ru⟩:=rv.one;obtain⟨z,its,n,r,hl,e⟩:=I.lstM hH;refine Cg F.slot_list_append ⟨_,e,rfl⟩ F.entry_list_append (F.args_list_append_2 _ _) (PySem.list_append l its.toArray n u (by rw[As];lia)) ⟨e,?_⟩;refine⟨.non,_,I.lset (its':=its++[u]) hH e (by simp) (r.append (.cons ru .nil)) ?_,rfl,q⟩;rw[Am,C5];lia
noncomputable def znc:V->List V->Hp->VK->Prop:=λx vs H Q=>∃l b xs zs,x=.ref l/\vs=[.ref b]/\H l=some (.lst xs)/\H b=some (.lst zs)/\xs.length+zs.length<=sizeLine/\Q .non (upd H l (.lst (xs++zs)))
theorem zeI:MtM X "list.extend" znc:=by
 intro pins s σ H x vs v us Q I rx rv h;obtain⟨l,b,xs,zs,rfl,rfl,hH,hB,hz,q⟩:=h
 cases rx
 obtain⟨u,rfl,ru⟩:=rv.one
 cases ru
 obtain⟨z,its,n,r,hl,e⟩:=I.lstM hH;obtain⟨z2,its2,n2,r2,hl2,e2⟩:=I.lstM hB;have hsz:its.toArray.size+its2.toArray.size<=sizeLine:=by rw[As,As];lia
 have hlong:¬ (!its.toArray.isEmpty && Dj (its.toArray.size+its2.toArray.size))=true:=by rw[ziL hsz,Bool.and_false];exact AX
 refine Cg F.slot_list_extend ⟨_,e,rfl⟩ F.entry_list_extend (F.args_list_extend_2 _ _)
  (AutoSeq1.list_extend_list_list_0 l its.toArray n b its2.toArray n2 hlong (by rw[As];lia) (by lia)) ⟨e,e2,?_⟩
 refine⟨.non,_,I.lset (its':=its++its2) hH e (by simp) (r.append r2) ?_,rfl,q⟩;rw[Am];lia
noncomputable def rCat:R2:=λx y H Q=>∃l b xs zs,x=.ref l/\y=.ref b/\H l=some (.lst xs)/\H b=some (.lst zs)/\xs.length+zs.length<=sizeLine/\∀p,H p=none->Q (.ref p) (upd H p (.lst (xs++zs)))
theorem zfw:OpR X (CO .Add) rCat:=by
 intro pins s σ H x y v u Q I rx ry h;obtain⟨l,b,xs,zs,rfl,rfl,hH,hB,hz,q⟩:=h
 cases rx
 cases ry
 obtain⟨z,its,n,r,hl,e⟩:=I.lstM hH;obtain⟨z2,its2,n2,r2,hl2,e2⟩:=I.lstM hB;refine PySem.P.add_list e e2 ?_ (by rw[As,As];lia)
 have ea:its.toArray++its2.toArray=(its++its2).toArray:=by simp
 rw[ea];exact⟨.ref _,_,I.lnew (t':=s.toks) (r.append r2) (by rw[Am];lia),rfl,q _ I.fresh⟩
noncomputable def rRep:R2:=λx y H Q=>∃l k xs,x=.ref l/\y=.int k/\H l=some (.lst xs)/\-(2 ^ 63)<=k/\k<2 ^ 63/\xs.length*k.toNat<=sizeLine /\
 ∀p,H p=none->Q (.ref p) (upd H p (.lst (Ac k.toNat xs).flatten))
theorem zns{α:Type}(xs:List α)(k:Nat):(Ac k xs).flatten.length=k*xs.length:=by
 induction k with
 |zero=>simp
 |succ k ih=>rw[Bh,Bi,Am,ih,Nat.succ_mul,Nat.add_comm]
theorem zmD:OpR X (CO .Mult) rRep:=by
 intro pins s σ H x y v u Q I rx ry h;obtain⟨l,k,xs,rfl,rfl,hH,h1,h2,hz,q⟩:=h
 cases rx
 obtain⟨t,rfl⟩:=ry;obtain⟨z,its,n,r,hl,e⟩:=I.lstM hH;have hlen:its.toArray.size*k.toNat<=sizeLine:=by rw[As,<- hl];exact hz
 have hcap:¬ its.toArray.size*k.toNat > (2 ^ 63-1) / 8:=by
  have:(sizeLine:Nat)<=(2 ^ 63-1) / 8:=by decide
  lia
 have hfit:¬ (!Builtin.List.listFitsIndex k)=true:=by rw[fitsIndex_both h1 h2];exact AX
 have hlong:¬ Dj (its.toArray.size*k.toNat)=true:=by rw[ziL hlen];exact AX
 have hnew:List.foldl (λx1 x2=>x1++x2) #[] (Ac (if its.toArray.isEmpty=true then 0 else k.toNat) its.toArray)=(Ac k.toNat its).flatten.toArray:=by
  have f0:∀m:Nat,List.foldl (λx1 x2=>x1++x2) #[] (Ac m its.toArray)=(Ac m its).flatten.toArray:=λm=>by have:=zhj its m [];rw[Ek]at this;exact this
  rw[f0]
  cases its with
  |nil=>simp
  |cons a r'=>rw[if_neg (by simp)]
 refine D0 (T:="list") (U:="int") (by decide) ⟨_,e,rfl⟩ (λs'=>typeIs_int s' k t) noFill_list_mul F.fills_int_mul DB repeat_list EC.lookup
  (Cg DB (typeIs_int s k t) F.entry_int_rmul (F.args_int_rmul_2 _ _) (int___rmul___int_list k t l its.toArray n)
   ⟨e,rfl,⟨_,e,rfl⟩,Cg F.slot_list_mul ⟨_,e,rfl⟩ F.entry_list_mul (F.args_list_mul_2 _ _) (AutoListH.list___mul___list_int_3 l its.toArray n k t hfit hcap hlong) ⟨e,?_⟩⟩)
 rw[hnew];exact⟨.ref _,_,I.lnew (t':=s.toks) (r.rep k.toNat) (by rw[zns,Nat.mul_comm];exact hz),rfl,q _ I.fresh⟩
end
section
variable {prog:AF}{w:A7}{A:AS}{E:Value->Af->Prop}{s:Af}
end
section
variable {X:Cx}
end
end L2
namespace Att
open PySem PySem.W PySem.Calls PyProof.Rows
theorem zeO{P:Params}{h:Heap}:∀(ns:List Int) (vs:List Value),WellAll P h vs (ns.map WData.int)->IntsAre vs ns:=by
 intro ns
 induction ns with
 |nil =>
  intro vs w;rw[List.map_nil]at w
  cases w
  exact .nil
 |cons n ns ih =>
  intro vs w;rw[Bj]at w
  cases w with
  |cons a b =>
   cases a
   exact .cons _ _ (ih _ b)
theorem zkf{l:OpenLaw}{n:Nat}(hn:l.most=some n){P:Params}{h:Heap}{args:List WData}{vals:List Value}
  (hpre:l.row.toRowW.claim.pre args=true) (hwl:WellAll P h vals args) :
  ∃a vs ns,vals=[Au a]/\args=[WData.list (ns.map WData.int)]/\h.get? a=some { cls:=.type "list",data:=.seq vs.toArray }/\IntsAre vs ns/\ns.length<=n:=by
 have hsh:WShape.hasAll [] args [.list .int]=true:=(pre_splitW hpre).1;have hc:l.pre.holds [] { args:=args }=true:=(pre_splitW hpre).2;obtain⟨d,r,rfl,h1,h2⟩:=hasAllW_cons hsh;obtain rfl:=hasAllW_nil h2;obtain⟨xs,rfl,h3⟩:=hasW_list h1;obtain⟨ns,rfl⟩:=items_int h3
 have hlen:ns.length<=n:=by
  unfold OpenLaw.pre at hc
  have h4:(WTm.not (.lt (.lit (.int (n:Int))) (.len (.arg 0)))).holds [] { args:=[.list (ns.map .int)] }=true:=by have h4:=(holds_andW hc).1;rw[hn]at h4;exact h4
  have h5:=condW_of h4 (w_not (w_lt w_lit (w_len_list (w_arg rfl))));rw[Ag]at h5;refine Nat.le_of_not_lt λq=>?_
  have q':(n:Int)<((ns.length:Nat):Int):=by lia
  first
   | (rw[decide_eq_true q']at h5;exact absurd h5 (by decide))
   | (simp at h5;lia)
 cases hwl with
 |cons w1 w2 =>
  cases w2
  cases w1 with
  |list ho hall=>exact⟨_,_,ns,rfl,rfl,ho,zeO ns _ hall,hlen⟩
theorem zkp(l:OpenLaw)(args:List WData):l.row.toRowW.claim.post args (.bool true) args=true :=
 postW_of (r:=l.row.toRowW) (X:=(true == true))
  (show WShape.has [] (.bool true) .bool=true by first |rfl |decide |simp[WShape.has,WShape.arms,WShape.armsAll])
  (show (WTm.eq .res (.lit (.bool true))).value [] { args:=args,res:=some (.bool true),after:=args }=some (.bool (true == true)) from w_eq_bool (w_res rfl) w_lit) rfl
theorem attach_call{l:OpenLaw}{n:Nat}{q:AF}{loose:List Str}{XP:(Str -> Option Value) -> Heap -> Prop}{YP:A7 -> Heap -> Prop}{d:DefRec}
  (hn:l.most=some n) (hdf:d.params.defaults=[])
  (call:∀(w:A7) (s₀ s₁:Af) (mg mb:Str->Option Value) (fa:Addr) (o:Obj) (pm cd doc:Value) (a:Addr) (vs:List Value) (ns:List Int),
   Ground q loose [] XP w s₀ mg mb s₁.heap->YP w s₁.heap ->
   s₁.heap.get? fa=some o->o.data=.func (docDef d.name d.params d.body d.scope pm cd doc)->s₁.heap.CodeRec cd d.name->mg d.name=some (.ref fa) ->
   s₁.heap.get? a=some { cls:=.type "list",data:=.seq vs.toArray }->IntsAre vs ns->ns.length<=n->s₁.gens=#[] ->
   C4 (AE l.prog w) callerA (.call (.ref fa) ⟨[.ref a],[]⟩) (λr s'=>r=.ok (.ret (.bool true))/\OldK s₁.heap s'.heap/\s'.os=s₁.os/\AllBare s'.gens) s₁) :
  WalkO q loose XP YP l.row.toRowW d [] (λf vs=>PySem.call f vs):=by
 intro w s₀ s₁ mg mb G Y fa o pm cd doc dV kV ho hd hcd hD hmg hg args vals as hpre hlay hrd hwl hlo;obtain rfl:dV=.none:=Dflts.none hD hdf;obtain rfl:kV=.none:=Dflts.noKw hD;obtain⟨a,vs,ns,rfl,rfl,hobj,hints,hlen⟩:=zkf hn hpre hwl;refine enter_call (DW (call w s₀ s₁ mg mb fa o pm cd doc a vs ns G Y ho (fd_plain hd) hcd hmg hobj hints hlen hg) λr s' hq=>?_);obtain⟨rfl,h2,h3,h4⟩:=hq;exact⟨.inl ⟨.bool true,.bool true,[],rfl,λ_=>rfl,.bool true,zkp l _,λ_=>⟨List.Pairwise.nil,λ_ hm=>(nomatch hm)⟩⟩,h2,h3,h4⟩
section
variable {prog:AF}{w:A7}{A:AS}{E:Value->Af->Prop}{s:Af}{K:Frag}
noncomputable def zoI(h:Heap)(L d:Addr):List (Addr×Obj):=(Bq h.objs.size).filterMap λa=>if a=L∨a=d then none else (h.get? a).map λo=>(a,o)
end
end Att
namespace L2
open PySem PySem.Spec PyProof.Rows
theorem zgF:∀{vs:List Value}{ns:List Int},IntsAre vs ns->Vals (ns.map V.int) vs
 |_,_,.nil=>.nil
 |_,_,.cons n t h=>.cons ⟨t,rfl⟩ (zgF h)
noncomputable abbrev KOf{K:W.Frag}{h:Heap}(_:K.In h):W.Frag:=K
end L2
/- THE LAST THEOREM (shape; LID, My.* are yours):
  My.Adr: a structure of the addresses that your layer names (classes,functions);My.Txt K t: a structure (Prop) of the equations over K;
  My.txt_mk:{K} {implicit addresses ..} (e1:nsIn K AH "law" = some (some (.ref f))) (e2:K.lookup f=some ⟨oc,od,.func (fnOf "law" "law" params body scope dV kV doc pm an cdv ct),sl⟩) (e3:codeIn K cdv "law" = true) ..:∃t,My.Txt K t
set_option maxRecDepth 100000 in
set_option maxHeartbeats 0 in
theorem PySem.Challenge.cw_LID_holds : PySem.Challenge.rw_LID.Holds := by
 w_on;o_law;k_head;(case hw=>w_witness2)
 k_fill
 refine L2.walk_of (l:=PySem.Challenge.rw_LID) (n:=63) (k:=40) (x:="script") (CX:=λw=>..) (sp:=λ_=>My.sp_law) rfl (by decide) rfl ⟨rfl,by decide,by decide⟩ (λw h Y=>W.kIn_of Y) ?F ?S ?C
 case F =>
  intro w mg fa h KX G hmg
  have T:∃ t,My.Txt (L2.KOf KX) t:=by
   dsimp only[L2.KOf]                          -- K must stand as «<heap const> w.params» for k_is
   refine' My.txt_mk ?e1 ?e2 ?e3 ..
   (case e1=>W.k_is)                    -- in the order: a name -> its address -> its object -> its parts
   (case e2=>W.k_is)
   ..
  obtain⟨t,T⟩:=T
  have e0:=hmg.symm.trans (CC KX G T.law)
  cases e0                                       -- fa is the law's own address
  exact⟨_,λs u=>.of_eq rfl,λbase kb nb=>My.law_fn T kb nb⟩     -- if «.of_eq rfl» comes too early: refine' ⟨_,?b,λbase kb nb=>My.law_fn T kb nb⟩;exact λs u=>.of_eq rfl
 case S=>exact λw H a ns hl hO hS=>..
 case C=>exact ..
(the tactic k_is has no namespace: write k_is) -/
namespace L2
open PySem PySem.Spec PyProof.Rows
noncomputable def zbi(s:Stmt):Arguments:=match s with
 |.FunctionDef _ a _ _ _ _ _ _ _ _=>a
 |_=>{ posonlyargs:=[],args:=[],vararg:=none,kwonlyargs:=[],kw_defaults:=[],kwarg:=none,defaults:=[] }
noncomputable def za8(s:Stmt):List Stmt:=match s with
 |.FunctionDef _ _ b _ _ _ _ _ _ _=>b
 |_=>[]
noncomputable def zad(s:Stmt):Scope:=match s with
 |.FunctionDef _ _ _ _ _ _ sc _ _ _=>sc
 |_=>{ kind:=.function,names:=[],isGenerator:=false,isCoroutine:=false }
noncomputable abbrev CX0:CXT:=λ_ _ _ _ _ _=>False
noncomputable abbrev E0:XK:=λ_ _ _=>False
theorem pass0{X:Cx}:zlq CX0 X E0:=λ_ _ _ _ _ _ _ h=>h.elim
structure Fun (K:W.Frag) (x qual:Str) (st:Stmt) (f:Addr) (fd:BI):Prop where
 ex:∃(oc:Value) (od:Option Addr) (kV doc pm:Value) (an:Option Addr) (cdv ct:Value) (osl:Array (Option Value)),
  fd=D4 x qual (zbi st) (za8 st) (zad st) .none kV doc pm an cdv ct/\K.lookup f=some ⟨oc,od,.func fd,osl⟩/\W.codeIn K cdv qual=true
 kp:DP K (.ref f)=true
section
variable {P:AF}{w:A7}{K:W.Frag}{mg:Str->Option Value}{base:Heap}
theorem Fun.ok{x qual:Str}{st:Stmt}{f:Addr}{fd:BI}{N ps:List Str}{k:Nat}{sp:Sp}(F:Fun K x qual st f fd)(S:FnScope N ps (zad st))(len:∀vs H Q E, sp vs H Q E -> vs.length=ps.length)
  (hbody:∀(cdv:Value) (A:AS) (outer:List Env) (s:Af) (H:Hp) (vs:List V) (Q:VK) (E:XK),Room k (A.deeper (envOfC qual (zad st) s.heap.objs.size f cdv))->sp vs H Q E ->
   ∃t,PSs (cxOf CX0 P w K mg base N qual (zad st) f cdv A outer s H E).nox (za8 st) t/\t { nx:=λ_ H'=>Q .non H',rt:=Q } (start N vs) H):FnOk P w K mg base CX0 (k+1) f fd ps sp:=by
 obtain⟨oc,od,kV,doc,pm,an,cdv,ct,osl,rfl,lk,hcd⟩:=F.ex;refine fn_of lk hcd S len λA outer s H vs Q E hr hsp=>?_
 obtain⟨t,h,q⟩:=hbody cdv A outer s H vs Q E hr hsp;exact⟨t,h.nox,q⟩
theorem Fun.binds{x qual:Str}{st:Stmt}{f:Addr}{fd:BI}{ps:List Str}(F:Fun K x qual st f fd)
  (h:∀(kV doc pm:Value) (an:Option Addr) (cdv ct:Value) (us:List Value),us.length=ps.length->D9 (D4 x qual (zbi st) (za8 st) (zad st) .none kV doc pm an cdv ct) ⟨us,[]⟩=pure (ps.zip us)):Binds K fd ps []:=by
 obtain⟨oc,od,kV,doc,pm,an,cdv,ct,osl,rfl,lk,hcd⟩:=F.ex;exact .all (h kV doc pm an cdv ct)
theorem zd3{x qual:Str}{st:Stmt}{f:Addr}{oc:Value}{od an:Option Addr}{osl:Array (Option Value)}{kV doc pm cdv ct:Value}(l:K.lookup f=some ⟨oc, od, .func (D4 x qual (zbi st) (za8 st) (zad st) .none kV doc pm an cdv ct), osl⟩)
  (c:W.codeIn K cdv qual=true) (k:DP K (.ref f)=true):Fun K x qual st f (D4 x qual (zbi st) (za8 st) (zad st) .none kV doc pm an cdv ct):=⟨⟨oc,od,kV,doc,pm,an,cdv,ct,osl,rfl,l,c⟩,k⟩
end
theorem hu_of{A:AS}{k:Nat}(hr:Room k A):A.units+1<cLine:=Es (Nat.add_le_add_left (by decide:1<=64) _) hr.units
theorem small1000{n:Nat}(h:n<=1000):n<sizeLine:=Es h (by decide)
section
variable {X:Cx}
theorem pv (i:Nat){x:Str}{pos:Pos}(hN:X.N[i]? = some x := by rfl) (hv:Vis X.env.scope x := by first |exact Or.inl rfl |exact Or.inr (Or.inl rfl) |exact Or.inr (Or.inr rfl)) (hd:(x == ("__debug__" : Str))=false := by decide)
  (hcd:(x == ("__classdict__" : Str))=false:=by decide):PE X (.Name x pos) (tVar i):=zn9 hN hv hd hcd
end
theorem iteF{A B:Prop}(h:B):if false=true then A else B:=by rw[if_neg AX];exact h
theorem iteT{A B:Prop}(h:A):if true=true then A else B:=by rw[if_pos rfl];exact h
theorem ite2{c A B:Prop} [Decidable c](h1:c->A)(h2:¬ c->B):if c then A else B:=by
 by_cases h:c
 .rw[if_pos h];exact h1 h
 .rw[if_neg h];exact h2 h
noncomputable def Same(H H':Hp):Prop:=∀b o,H b=some o->H' b=some o
theorem Same.refl(H:Hp):Same H H:=λ_ _ h=>h
theorem Same.trans{H H1 H2:Hp}(a:Same H H1)(b:Same H1 H2):Same H H2:=λc o h=>b c o (a c o h)
theorem Same.free{H H':Hp}(e:Same H H'){l:Addr}(h:H' l=Option.none):H l=Option.none:=by
 cases q:H l with
 |none=>rfl
 |some o =>
  rw[e l o q]at h
  cases h
theorem Same.seq{K:W.Frag}{H H':Hp}{a:Addr}{xs:List V}(e:Same H H')(h:SqL K H a xs):SqL K H' a xs:=by
 rcases h with (h |⟨o,h⟩) |h
 .exact .inl (.inl (e _ _ h))
 .exact .inl (.inr ⟨o,e _ _ h⟩)
 .exact .inr h
section
variable {κ:Type} [DecidableEq κ]
end
end L2
set_option maxHeartbeats 4000000
namespace L2
open PySem PySem.Spec PyProof.Rows
noncomputable def zdu(J:It)(g:TG)(tb:TS):TS:=λD σ H=>∃W:Nat->Nat->St->Hp->Prop,(∃m,W 0 m σ H)/\∀i m σ H,W i m σ H ->
 (J.stop i H/\D.nx σ H)∨(J.go i H/\∃N:St->Hp->Prop,(∀ σ' H',N σ' H'->∃m',m'<m/\W (i+1) m' σ' H')/\∀x H',J.yld i H x H'->g x σ H' λσ2 H2=>tb { D with nx:=N,ct:=N,bk:=D.nx } σ2 H2)
noncomputable def PTs(X:Cx)(ifs:List Expr)(t:TT):Prop :=
 ∀(pins:List (Addr×Obj)) (s:Af) (σ:St) (H:Hp) (Q:Bool->Hp->Prop),Inv X pins σ H s->t σ H Q ->
  Aw (AE X.prog X.w) X.A (forIn ifs true λc r=>if r=true then do let ok <- isTrue c X.env (eval c X.env);pure (ForInStep.yield ok) else pure (ForInStep.yield r)) (TP X pins σ Q) X.xe s
theorem za6{X:Cx}:PTs X [] (λ_ H Q=>Q true H):=λpins s σ H Q I h=>Ak ⟨H,I,h⟩
theorem zcT{X:Cx}{c:Expr}{t:TT}(hc:PT X c t):PTs X [c] t:=λpins s σ H Q I h=>wpAny_tests_one (hc pins s σ H Q I h)
noncomputable def PB(X:Cx)(inner:Sem Unit)(t:TS):Prop :=
 ∀(pins:List (Addr×Obj)) (s:Af) (σ:St) (H:Hp) (D:Ends),Inv X pins σ H s->t D σ H->Aw (AE X.prog X.w) X.A inner (λ_ s'=>∃ σ' H',Inv X pins σ' H' s'/\D.nx σ' H') X.xe s
noncomputable def tIfs(tt:TT)(tb:TS):TS:=λD σ H=>tt σ H λb H1=>if b=true then tb D σ H1 else D.nx σ H1
theorem zeU{X:Cx}{e tg:Expr}{d:Nat}{ifs:List Expr}{p:Pos}{acc:Value}{inner:Sem Unit}{g:TG}{tt:TT}{tb:TS}{it:Addr}{fp:List Addr}{tn:Nat -> Heap -> Prop}{J:It}
  {pins:List (Addr×Obj)} {s:Af} {σ:St} {H:Hp} {D:Ends} {R:Result->Af->Prop}
  (hq:(Code.compLoop e d (.ref it) acc X.env).quiet=true)
  (hden:(AE X.prog X.w).den (.compLoop e d (.ref it) acc X.env)=(compTurn e d (.ref it) acc X.env).onRaise (λx=>do noteFrame x X.env;theTreesLotGoes x))
  (hT:compTurn e d (.ref it) acc X.env=(do
   standAt p
   match <- pyNext (.ref it) with
   |none=>pure (.done .next)
   |some v =>
    Da tg (.ref it) v
    assign tg X.env v
    let mut ok:=true
    for c in ifs do
     if ok then ok <- isTrue c X.env (eval c X.env)
    if ok then
     inner
    again (.compLoop e d (.ref it) acc X.env)))
  (hA:∀(B:AS) {α:Type} {t:Sem α} {Q:α->Af->Prop} {E:Value->Af->Prop} {s:Af},B=X.A.under (.compLoop e d (.ref it) acc X.env)->Aw (AE X.prog X.w) X.A t Q E s->Aw (AE X.prog X.w) B t Q E s)
  (hc:X.calm=true) (hx:X.xe=λ_ _=>False) (hg:PG X tg g) (ht:PTs X ifs tt) (hb:PB X inner tb)
  (I:Inv X pins σ H s) (T:Turn X.prog X.w X.K tg J fp it tn) (st:tn 0 s.heap) (f:∀b∈fp,FpOk X pins H b) (W:zdu J g (tIfs tt tb) D σ H)
  (hR:∀fl s',(∃ σ' H',Inv X pins σ' H' s'/\(∀b∈fp,H' b=none)/\D.nx σ' H')->R (.ok fl) s') :
  C4 (AE X.prog X.w) X.A (.compLoop e d (.ref it) acc X.env) R s:=by
 obtain⟨W,⟨m0,w0⟩,turn⟩:=W;have stat:∀{H':Hp},(∀b∈fp,H' b=none)->∀b∈fp,FpOk X pins H' b:=λhn b hb=>⟨hn b hb,(f b hb).2⟩
 refine codeAny_loop hq (λn s'=>∃i σ' H',Inv X pins σ' H' s'/\tn i s'.heap/\(∀b∈fp,H' b=none)/\W i n σ' H') ?_ m0 ⟨0,σ,H,I,st,λb hb=>(f b hb).1,w0⟩;rintro n s3 ⟨i,σ3,H3,I3,st3,fr3,w3⟩;refine hA _ rfl ?_
 rw[hden];refine wpAny_noted (wpAny_noRaise ?_);rw[hT];refine Ad (DH ?_)
 have nx:∀{α:Type} {t:Sem α} {Q:α->Af->Prop} {s:Af},Aw (AE X.prog X.w) X.A t Q X.xe s->Aw (AE X.prog X.w) X.A t Q (λ_ _=>False) s:=λ{α t Q s} h=>by rw[hx]at h;exact h
 rcases turn i n σ3 H3 w3 with⟨stop,qn⟩ |⟨go,N,hN,step⟩
 .refine Ad (thn (T.done X rfl rfl rfl hc i pins s3 σ3 H3 _ I3 (stat fr3) st3 stop) λr s4 ⟨hr,I4⟩=>?_);subst hr;exact Ak (hR _ _ ⟨σ3,H3,I4,fr3,qn⟩)
 .refine Ad (thn (T.item X rfl rfl rfl hc i pins s3 σ3 H3 _ I3 (stat fr3) st3 go) λr s4 ⟨u,hr,h4⟩=>?_);subst hr;refine Ad (thn h4 λ_ s5 ⟨x,H5,I5,r5,y5,st5,fr5⟩=>?_);have I5':=I5.pinned (stat fr5) (T.obj _ _ st5)
  have again:∀{σ7:St} {H7:Hp} {s7:Af},Inv X (pins++zdZ fp s5.heap) σ7 H7 s7->N σ7 H7->∃m,m<n/\∃i σ' H',Inv X pins σ' H' s7/\tn i s7.heap/\(∀b∈fp,H' b=none)/\W i m σ' H':=λ{σ7 H7 s7} I7 n7=>by obtain⟨m',hm,w7⟩:=hN σ7 H7 n7;refine⟨m',hm,i+1,σ7,H7,I7.unpinned,T.keep _ _ _ st5 λb hb o e=>(I7.pin (b,o) (At _ (At _ (za4 hb e)))).1,λb hb=>?_,w7⟩;obtain⟨o,e,d⟩:=T.obj _ _ st5 b hb;exact (I7.pin (b,o) (At _ (At _ (za4 hb e)))).2.1
  refine Ad (thn (nx (hg _ s5 σ3 H5 x u _ I5' r5 (step x H5 y5))) λ_ s6 ⟨σ6,H6,I6,q6⟩=>?_);refine Ad (thn (nx (ht _ s6 σ6 H6 _ I6 q6)) λok s7 ⟨H7,I7,q7⟩=>?_)
  cases ok with
  |false =>
   exact Ak ⟨rfl,again I7 q7⟩
  |true =>
   refine Ad (thn (nx (hb _ s7 σ6 H7 _ I7 q7)) λ_ s8 ⟨σ8,H8,I8,q8⟩=>?_);exact Ak ⟨rfl,again I8 q8⟩
noncomputable abbrev blk(X:Cx)(sc:Scope)(cl:List (Str×Addr))(C:Addr)(N':List Str)(s0:Af)(H0:Hp)(ex:List Addr):Cx :=
 { X with N:=N',s₀:=s0,H₀:=H0,env:=DC sc cl C X.env,outer:=X.stack,stack:=X.stack,ex:=ex,fn:=λ_=>false,pn:=[],xe:=λ_ _=>False }
structure BlkOk (osc:Scope) (N:List Str) (sc:Scope) (N':List Str) (sel:List (Option Nat)):Prop where
 kind:sc.kind=.function
 nocell:∀y∈sc.names,y.2≠.cell
 names:∀y∈sc.names,y.2=.local->sc.names.lookup y.1=some .local
 free:∀y∈sc.names,y.2=.free->osc.names.lookup y.1=some .cell∨osc.names.lookup y.1=some .free
 len:sel.length=N'.length
 sel:∀p∈sel.zip N',∀i∈p.1,N[i]?=some p.2/\sc.names.lookup p.2=some .free
noncomputable def selSt(sel:List (Option Nat))(σ:St):St:=sel.map λo=>o.bind λi=>(σ[i]?).join
theorem zdp{env:Env} : ∀(names:List (Str × NameKind)) (acc:List (Str × Addr)), (∀y ∈ names, y.2 = .free -> ∃c, env.cells.lookup y.1=some c) ->
  ∃cl,(forIn names acc λ(x:Str×NameKind) (r:List (Str×Addr))=>(if (x.2 == .free)=true then do let c <- cellOf env x.1;pure (ForInStep.yield ((x.1,c)::r)) else pure (ForInStep.yield r):Sem (ForInStep (List (Str×Addr)))))=pure cl /\
   (∀x c,cl.lookup x=some c->acc.lookup x=some c∨(env.cells.lookup x=some c/\(x,BF)∈names))/\(∀y∈names,y.2=.free->∃c,cl.lookup y.1=some c)/\(∀x c,acc.lookup x=some c->∃c',cl.lookup x=some c')
 |[],acc,_=>⟨acc,rfl,λ_ _ h=>.inl h,(λ_ h=>nomatch h),λx c h=>⟨c,h⟩⟩
 | (n,k)::r,acc,h=>by
  by_cases hk:k=.free
  .subst hk;obtain⟨c,hc⟩:=h (n,.free) AM rfl;obtain⟨cl,e,h1,h2,h3⟩:=zdp r ((n,c)::acc) λy hy=>h y (AK _ hy)
   refine⟨cl,?_,λx c' hx=>?_,λy hy hf=>?_,λx c' hx=>?_⟩
   .rw[List.forIn_cons];have e1:cellOf env n=pure c:=by unfold cellOf;rw[hc]
    simp only[beq_self_eq_true,if_true,e1,pure_bind];exact e
   .rcases h1 x c' hx with q |⟨q,m⟩
    .by_cases hn:x=n
     .subst hn;rw[Bz,beq_self_eq_true]at q
      cases q
      exact .inr ⟨hc,AM⟩
     .have hb:(x == n)=false:=by simpa using hn
      rw[Bz,hb]at q;exact .inl q
    .exact .inr ⟨q,AK _ m⟩
   .rcases AI.mp hy with z |z
    .subst z;exact h3 n c (by rw[Bz,beq_self_eq_true])
    .exact h2 y z hf
   .by_cases hn:x=n
    .subst hn;exact h3 x c (by rw[Bz,beq_self_eq_true])
    .have hb:(x == n)=false:=by simpa using hn
     exact h3 x c' (by rw[Bz,hb];exact hx)
  .obtain⟨cl,e,h1,h2,h3⟩:=zdp r acc λy hy=>h y (AK _ hy)
   refine⟨cl,?_,λx c' hx=>?_,λy hy hf=>?_,h3⟩
   .rw[List.forIn_cons];have hb:(k == BF)=false:=by simpa using hk
    simp only[hb,BO,if_false,pure_bind];exact e
   .rcases h1 x c' hx with q |⟨q,m⟩
    .exact .inl q
    .exact .inr ⟨q,AK _ m⟩
   .rcases AI.mp hy with z |z
    .subst z;exact absurd hf hk
    .exact h2 y z hf
structure Clo (env:Env) (sc:Scope) (cl:List (Str×Addr)):Prop where
 run:closureFor sc env=pure cl
 old:∀x c,cl.lookup x=some c->env.cells.lookup x=some c/\(x,BF)∈sc.names
 has:∀y∈sc.names,y.2=.free->∃c,cl.lookup y.1=some c
theorem zlg{X:Cx}{osc:Scope}{N:List Str}{sc:Scope}{N':List Str}{sel:List (Option Nat)}(ok:X.Ok)(B:BlkOk osc N sc N' sel)(ho:X.env.scope=osc):∃cl,Clo X.env sc cl:=by
 have hc:∀y∈sc.names,y.2=.free->∃c,X.env.cells.lookup y.1=some c:=λy hy hf=>ok.has y.1 (by
  show X.env.scope.names.lookup y.1=_∨X.env.scope.names.lookup y.1=_;rw[ho];exact B.free y hy hf)
 obtain⟨cl,e,h1,h2,_⟩:=zdp (env:=X.env) sc.names [] hc;refine⟨cl,?_,λx c h=>?_,h2⟩
 .unfold closureFor;have e':=e;show (do let r <- forIn sc.names [] _;pure r)=_;simp only[bind_pure];exact e'
 .rcases h1 x c h with q |q
  .cases q
  .exact q
theorem zcd{env:Env} : ∀{names:List (Str × NameKind)}{x:Str}{k:NameKind}, (names.map λ(n, k) => if (k == BF && env.scope.kind == .function && env.kindOf n == some .cell) then (n, DJ) else (n, k)).lookup x=some k ->
  ∃k',(x,k')∈names/\(k=k'∨(k=.cell/\k'=.free))
 |[],x,k,h=>nomatch h
 | (n,j)::r,x,k,h=>by
  have ih:=@zcd env r x k;have h:List.lookup x ((if (j == BF && env.scope.kind == .function && env.kindOf n == some .cell)=true then (n,DJ) else (n,j))::_)=some k:=h
  by_cases hx:x=n
  .subst hx
   by_cases hc:(j == BF && env.scope.kind == .function && env.kindOf x == some .cell)=true
   .rw[if_pos hc,Bz,beq_self_eq_true]at h
    cases h
    refine⟨j,AM,.inr ⟨rfl,?_⟩⟩;simp only[Bo,beq_iff_eq]at hc;exact hc.1.1
   .rw[if_neg hc,Bz,beq_self_eq_true]at h
    cases h
    exact⟨j,AM,.inl rfl⟩
  .have hb:(x == n)=false:=by simpa using hx
   have h':List.lookup x (r.map λ(n,k)=>if (k == BF && env.scope.kind == .function && env.kindOf n == some .cell) then (n,DJ) else (n,k))=some k:=by
    by_cases hc:(j == BF && env.scope.kind == .function && env.kindOf n == some .cell)=true
    .rw[if_pos hc,Bz,hb]at h;exact h
    .rw[if_neg hc,Bz,hb]at h;exact h
   obtain⟨k',m,e⟩:=ih h';exact⟨k',AK _ m,e⟩
theorem zbY{env:Env} : ∀{names:List (Str × NameKind)}{x:Str}, names.lookup x=some .free ->
  (names.map λ(n,k)=>if (k == BF && env.scope.kind == .function && env.kindOf n == some .cell) then (n,DJ) else (n,k)).lookup x=some .cell ∨
  (names.map λ(n,k)=>if (k == BF && env.scope.kind == .function && env.kindOf n == some .cell) then (n,DJ) else (n,k)).lookup x=some .free
 |[],x,h=>nomatch h
 | (n,j)::r,x,h=>by
  have ih:=@zbY env r x;rw[Bz]at h;show List.lookup x ((if (j == BF && env.scope.kind == .function && env.kindOf n == some .cell)=true then (n,DJ) else (n,j))::_)=_∨List.lookup x ((if (j == BF && env.scope.kind == .function && env.kindOf n == some .cell)=true then (n,DJ) else (n,j))::_)=_
  cases hx:x == n with
  |true =>
   rw[hx]at h
   cases h
   by_cases hc:(BF == BF && env.scope.kind == .function && env.kindOf n == some .cell)=true
   .rw[if_pos hc,Bz,hx];exact .inl rfl
   .rw[if_neg hc,Bz,hx];exact .inr rfl
  |false =>
   rw[hx]at h
   by_cases hc:(j == BF && env.scope.kind == .function && env.kindOf n == some .cell)=true
   .rw[if_pos hc,Bz,hx];exact ih h
   .rw[if_neg hc,Bz,hx];exact ih h
section
variable {X:Cx}{osc:Scope}{N:List Str}{sc:Scope}{N':List Str}{sel:List (Option Nat)}{cl:List (Str×Addr)}{pins:List (Addr×Obj)}{σ:St}{H:Hp}{s:Af}{fp:List Addr}
theorem znu{h':Heap}{ob:Obj}{tk:Nat}(B:BlkOk osc N sc N' sel)(ho:X.env.scope=osc)(hN:X.N=N)(Cl:Clo X.env sc cl)(I:Inv X pins σ H s)
    (f:∀b∈fp,FpOk X pins H b) (fo:∀b∈fp,∃o,s.heap.get? b=some o) (hns:h'.Ns s.heap.objs.size (λ_=>none)) (hsb:CQ s.heap.objs.size (s.heap.push ob) h') :
    Inv (blk X sc cl s.heap.objs.size N' s H fp) [] (selSt sel σ) H { s with heap:=h',toks:=tk }:=by
  have old:∀b o,s.heap.get? b=some o->h'.get? b=some o:=λb o e=>(hsb.2 b (A3 (AD e))).trans (Ah _ e)
  have bel:∀b∈fp,b<s.heap.objs.size:=λb hb=>by obtain⟨o,e⟩:=fo b hb;exact AD e
  have kk:∀x,(DC sc cl s.heap.objs.size X.env).kindOf x=some .cell∨(DC sc cl s.heap.objs.size X.env).kindOf x=some .free->(x,BF)∈sc.names:=λx hx=>by
    rcases hx with hx |hx
    . obtain⟨k',m,e⟩:=zcd hx;rcases e with e |⟨_,e⟩
      . subst e;exact absurd rfl (B.nocell _ m)
      . subst e;exact m
    . obtain⟨k',m,e⟩:=zcd hx;rcases e with e |⟨e,_⟩
      . subst e;exact m
      . cases e
  refine⟨⟨I.mod, B.kind, I.ok.glob, I.ok.blt, Ai _, λx y c e1 e2 => I.ok.inj x y c (Cl.old x c e1).1 (Cl.old y c e2).1, λx hx => Cl.has _ (kk x hx) rfl, λx c z => absurd z (by intro q; cases q), I.ok.hd, I.ok.frames, .inl rfl,
      λb hb=>⟨A3 (bel b hb),λx c e=>(f b hb).2.2.2.2.1 x c (Cl.old x c e).1⟩,I.bs,AV I.ok.bsz I.sz,λb o e hb=>?_,λb hb hs=>?_,I.stack,I.stkFree⟩,
    rfl,I.bare,Un.kept old,⟨_,hns,λj x v e1 e2 e3=>?_⟩,λx c e=>?_,I.hok.fresh (Ai _),λx c e=>I.freeC x c (Cl.old x c e).1,λp hp=>absurd (show p∈([]:List (Addr×Obj)) from hp) (by simp),I.hok.kept old,?_⟩
  . rcases (f b hb).2.2.2.1 with z |z
    . exact I.ok.noex b o e z
    . exact absurd (AJ (AD e) (AV I.ok.bsz z)) (CU _)
  . obtain⟨_,f1,f2,_⟩:=f b hb;rcases AI.mp (I.stkSub b hs) with z |z
    . exact f1 z
    . exact f2 z
  . have e2':((sel[j]?).map λo => o.bind λi => (σ[i]?).join)=some (some v) := by have:=e2;unfold selSt at this;rw[Ay]at this;exact this
    cases hj:sel[j]? with
    |none=>rw[hj]at e2';cases e2'
    |some o =>
      rw[hj]at e2'
      cases o with
      |none=>cases e2'
      |some i =>
        have e4:(σ[i]?).join=some v:=A0 e2'
        have e5:σ[i]?=some (some v):=by
          cases q:σ[i]? with
          |none=>rw[q]at e4;cases e4
          |some z=>rw[q]at e4;exact congrArg some e4
        have hz:(some i,x)∈sel.zip N':=by
          refine An (i:=j) ?_
          rw[List.getElem?_zip_eq_some];exact⟨hj,e1⟩
        obtain⟨g1,g2⟩:=B.sel _ hz i rfl;obtain⟨m,hn,hl⟩:=I.loc;have m2:(x,BF)∈sc.names:=CP g2
        have k2:X.env.kindOf x=some .cell∨X.env.kindOf x=some .free:=by show X.env.scope.names.lookup x=_∨X.env.scope.names.lookup x=_;rw[ho];exact B.free _ m2 rfl
        have v2:Vis X.env.scope x:=by
          rcases k2 with z |z
          . exact .inr (.inl z)
          . exact .inr (.inr z)
        obtain⟨u,r,l⟩:=hl i x v (by rw[hN];exact g1) e5 v2;refine⟨u,r,?_⟩;rcases l with⟨l,_⟩ |⟨_,c,e6,hc⟩
        . rcases k2 with z |z <;> (rw[l]at z;cases z)
        . obtain⟨c',hc'⟩:=Cl.has _ m2 rfl;have e7:=(Cl.old x c' hc').1;rw[e6]at e7
          cases e7
          exact .inr ⟨zbY g2,c,hc',hc.keeps old⟩
  . obtain⟨v,hc⟩:=I.cell x c (Cl.old x c e).1;exact⟨v,hc.keeps old⟩
  . show (selSt sel σ).length=N'.length;unfold selSt;rw[Ag,B.len]
theorem znC{C:Addr}{H':Hp}{σ':St}{s':Af}(I:Inv X pins σ H s)(f:∀b∈fp,FpOk X pins H b)(I':Inv (blk X sc cl C N' s H fp) [] σ' H' s'):Inv X pins σ H' s' :=
 I.call' (ch:=fp) I'.os I'.base I'.hok I'.bare λb hb=>by obtain⟨_,f1,_,f3,f4,f5⟩:=f b hb;exact⟨f3,f1,f4,f5⟩
end
section
variable {X:Cx}
noncomputable def zcG(p:Addr)(te:TE):TS:=λD σ H=>te σ H λv H1=>∃xs,H1 p=some (.lst xs)/\xs.length<sizeLine/\D.nx σ (upd H1 p (.lst (xs++[v])))
theorem zkw {p:Addr}{elt:Expr}{te:TE}(he:PE X elt te):PB X (do let _ <- call (.builtin "list.append") [.ref p,<- eval elt X.env]) (zcG p te):=by intro pins s σ H D I h;refine Ad (thn (he pins s σ H _ I h) λv s1 ⟨x,H1,I1,r1,xs,e1,hl,q⟩=>?_);refine Ad (thn (zaM pins s1 σ H1 (.ref p) [x] (.ref p) [v] (λz H2=>D.nx σ H2) I1 rfl (.cons r1 .nil) ⟨p,xs,x,rfl,rfl,e1,hl,q⟩) λu s2 ⟨z,H2,I2,_,q2⟩=>?_);exact Ak ⟨σ,H2,I2,q2⟩
end
section
variable {X:Cx}{osc:Scope}{N:List Str}{sc:Scope}{N':List Str}{sel:List (Option Nat)}{pos:Pos}{elt kx vx tg iter:Expr}{ifs:List Expr}{wi:TI}{g:TG}{tt:TT}{te tk tv:TE}
noncomputable def InBlk(X:Cx)(sc:Scope)(N':List Str)(P:Cx->Prop):Prop:=∀cl C s0 H0 ex,P (blk X sc cl C N' s0 H0 ex)
theorem zeV{e:Expr}{inner:Env -> Addr -> Sem Unit}{tb:Addr -> TS}{use:Option (Value -> Sem Unit)}{pins:List (Addr × Obj)}{s:Af}{σ : St}{H:Hp}{J:It}{it:Addr}{fp:List Addr}{tn:Nat -> Heap -> Prop}{o0:HO}{ob:Obj}
    {D:Addr->Ends} {Q:Value->Af->Prop}
    (B:BlkOk osc N sc N' sel) (ho:X.env.scope=osc) (hN:X.N=N) (hc:X.calm=true)
    (hstart:∀(acc:Value) (env:Env) (R:Result->Af->Prop) (s:Af),C4 (AE X.prog X.w) X.A (.compLoop e 0 (.ref it) acc env) R s->Aw (AE X.prog X.w) X.A (pyIter (.ref it)) (λit' s'=>C4 (AE X.prog X.w) X.A (.compLoop e 0 it' acc env) R s') (notedBy (AE X.prog X.w) X.A env λx s'=>R (.error x) s') s->C4 (AE X.prog X.w) X.A (.compStart e 0 (.ref it) acc env) R s)
    (hloop:∀cl C s0 H0 ex p pins s σ H Dn R,Inv (blk X sc cl C N' s0 H0 ex) pins σ H s->tn 0 s.heap->(∀b∈fp,FpOk (blk X sc cl C N' s0 H0 ex) pins H b)->zdu J g (tIfs tt (tb p)) Dn σ H ->
      (∀fl s',(∃ σ' H',Inv (blk X sc cl C N' s0 H0 ex) pins σ' H' s'/\(∀b∈fp,H' b=none)/\Dn.nx σ' H')->R (.ok fl) s')->C4 (AE X.prog X.w) X.A (.compLoop e 0 (.ref it) (.ref p) (DC sc cl C X.env)) R s)
    (I:Inv X pins σ H s) (T:Turn X.prog X.w X.K tg J fp it tn) (st:tn 0 s.heap) (f:∀b∈fp,FpOk X pins H b)
    (hnew:ObjOk X.prog X.w (upd H s.heap.objs.size o0) (s.heap.push ob) s.heap.objs.size o0) (hfree:ob.isFreed=false)
    (h:zdu J g (tIfs tt (tb s.heap.objs.size)) (D s.heap.objs.size) (selSt sel σ) (upd H s.heap.objs.size o0))
    (hend:∀C H' s',Inv X pins σ H' s'->FpOk X pins H' C->(∃m,s'.heap.Ns C m)->(∃ σ',(D s.heap.objs.size).nx σ' H')->compPost (AE X.prog X.w) X.A X.xe use Q (.ref s.heap.objs.size) C (.ok .next) s') (tk:Nat)
    (cl:List (Str×Addr)) (Cl:Clo X.env sc cl) (E:Value->Af->Prop) :
    Aw (AE X.prog X.w) X.A (newFunctionEnv sc X.env.globals cl [] X.env.qual none .none (some X.env)) (λcenv s₄ =>
        C4 (AE X.prog X.w) X.A (.compStart e 0 (.ref it) (.ref s.heap.objs.size) { cenv with scope:=relabel sc X.env }) (compPost (AE X.prog X.w) X.A X.xe use Q (.ref s.heap.objs.size) cenv.locals) s₄) E { s with heap:=s.heap.push ob,toks:=tk }:=by
  have grow:∀b o,s.heap.get? b=some o->(s.heap.push ob).get? b=some o:=λ_ _ q=>Ah _ q
  have I1:Inv X pins σ (upd H s.heap.objs.size o0) { s with heap:=s.heap.push ob,toks:=tk }:=I.laid grow (Ai _) hnew;have bel:∀b∈fp,∃o,s.heap.get? b=some o:=λb hb=>let ⟨o,e,_⟩:=T.obj _ _ st b hb;⟨o,e⟩
  have f1:∀b∈fp,FpOk X pins (upd H s.heap.objs.size o0) b:=λb hb=>by obtain⟨o,e⟩:=bel b hb;refine⟨?_,(f b hb).2⟩;rw[zai (A3 (AD e))];exact (f b hb).1
  refine wpAny_newFunctionEnv (s:={ s with heap:=s.heap.push ob,toks:=tk }) B.nocell (by intro x hx;cases hx) (λh1 hns hsb=>?_) B.kind;have I2:=znu (tk:=tk) B ho hN Cl I1 f1 (λb hb=>let ⟨o,e⟩:=bel b hb;⟨o,grow b o e⟩) hns hsb;have old:∀b o,s.heap.get? b=some o->h1.get? b=some o:=λb o e=>(hsb.2 b (A3 (AD (grow b o e)))).trans (Ah _ (grow b o e))
  have st1:tn 0 h1:=T.keep _ _ _ st λb _ o e=>old b o e
  have f2:∀b∈fp,FpOk (blk X sc cl (s.heap.push ob).objs.size N' { s with heap:=s.heap.push ob,toks:=tk } (upd H s.heap.objs.size o0) fp) [] (upd H s.heap.objs.size o0) b:=λb hb=>by
    obtain⟨g0,g1,g2,g3,g4,g5⟩:=f1 b hb;obtain⟨o,e⟩:=bel b hb;refine⟨g0,A3 (AD (grow b o e)),λz=>?_,.inl hb,λx c e=>g4 x c (Cl.old x c e).1,λp hp=>absurd (show p∈([]:List (Addr×Obj)) from hp) (by simp)⟩;rcases AI.mp (I1.stkSub b z) with q |q
    . exact g1 q
    . exact g2 q
  have loop:=hloop cl _ _ _ _ s.heap.objs.size [] _ _ _ (D s.heap.objs.size) (compPost (AE X.prog X.w) X.A X.xe use Q (.ref s.heap.objs.size) (s.heap.push ob).objs.size) I2 st1 f2 h λfl s' ⟨σ',H',I',fr',q'⟩=>by
    have I3:=znC I1 f1 I';have hC:FpOk X pins H' (s.heap.push ob).objs.size:=I1.fpOk (Ai _) I'.free;obtain⟨m,hn,_⟩:=I'.loc;have:=hend _ H' s' I3 hC ⟨m,hn⟩ ⟨σ',q'⟩
    cases use <;> exact this
  exact hstart _ _ _ _ loop (T.self _ 0 _ _ _ st1 loop)
end
section
variable {X:Cx}{osc:Scope}{N:List Str}{sc:Scope}{N':List Str}{sel:List (Option Nat)}{pos:Pos}{elt kx vx tg iter:Expr}{ifs:List Expr}{wi:TI}{g:TG}{tt:TT}{te tk tv:TE}
theorem zfA{it:Addr}{fp:List Addr}{tn:Nat -> Heap -> Prop}{J:It}(T:Turn X.prog X.w X.K tg J fp it tn)(hc:X.calm=true)(hg:InBlk X sc N' λY => PG Y tg g)(ht:InBlk X sc N' λY => PTs Y ifs tt)(he:InBlk X sc N' λY => PE Y elt te) :
  ∀cl C s0 H0 ex p pins s σ H Dn R,Inv (blk X sc cl C N' s0 H0 ex) pins σ H s->tn 0 s.heap->(∀b∈fp,FpOk (blk X sc cl C N' s0 H0 ex) pins H b)->zdu J g (tIfs tt (zcG p te)) Dn σ H ->
   (∀fl s',(∃ σ' H',Inv (blk X sc cl C N' s0 H0 ex) pins σ' H' s'/\(∀b∈fp,H' b=none)/\Dn.nx σ' H')->R (.ok fl) s')->C4 (AE X.prog X.w) X.A (.compLoop (.ListComp elt [⟨tg,iter,ifs,0⟩] sc pos) 0 (.ref it) (.ref p) (DC sc cl C X.env)) R s :=
 λcl C s0 H0 ex p pins s σ H Dn R I st f W hR =>
  zeU (X:=blk X sc cl C N' s0 H0 ex) (p:=iter.pos) (inner:=do let _ <- call (.builtin "list.append") [.ref p,<- eval elt (DC sc cl C X.env)]) rfl rfl rfl (λB {α t Q E s} h w=>by subst h;exact w) hc rfl (hg _ _ _ _ _) (ht _ _ _ _ _) (zkw (he _ _ _ _ _)) I T st f W hR
noncomputable def znQ(wi:TI)(sel:List (Option Nat))(g:TG)(tt:TT)(te:TE):TE:=λσ H Q=>wi σ H λJ H1=>∀p,H1 p=none ->
 zdu J g (tIfs tt (zcG p te)) { nx:=λ_ H'=>Q (.ref p) H',rt:=λ_ _=>False } (selSt sel σ) (upd H1 p (.lst []))
theorem Inv.let_go{pins:List (Addr×Obj)}{σ:St}{H:Hp}{s:Af}{C:Addr}{h':Heap}(I:Inv X pins σ H s)(f:FpOk X pins H C)(hs:CQ C s.heap h'):Inv X pins σ H { s with heap:=h' }:=by obtain⟨f0,f1,_,f3,f4,f5⟩:=f;exact I.turned (t':=s.toks) (λb o hb e=>(hs.2 b hb).trans e) f0 f1 f3 f4 f5
theorem zhY {P:AF}{w:A7}{H:Hp}{h:Heap}:ObjOk P w (upd H h.objs.size (.lst [])) (h.push { cls:=.type "list",dict:=none,data:=.seq ([]:List Value).toArray }) h.objs.size (.lst []) :=
 ⟨AT _,[],_,.nil,AC _ rfl⟩
theorem zaF(B:BlkOk osc N sc N' sel)(hi:PI X tg iter wi)(hg:InBlk X sc N' λY => PG Y tg g)(ht:InBlk X sc N' λY => PTs Y ifs tt)(he:InBlk X sc N' λY => PE Y elt te)
  (ho:X.env.scope=osc:=by rfl) (hN:X.N=N:=by rfl) (hc:X.calm=true:=by rfl) (hs:∀x,BU iter X.env x=pure x:=by intro _;rfl) :
  PE X (.ListComp elt [⟨tg,iter,ifs,0⟩] sc pos) (znQ wi sel g tt te):=by
 intro pins s σ H Q I h;obtain⟨cl,Cl⟩:=zlg I.ok B ho;rw[eval_ListComp];refine Ec (use:=none) rfl hs Cl.run B.kind B.names (thn (hi pins s σ H _ I h) λv s1 h1=>thn h1 λitv s2 h2=>?_);obtain⟨it,fp,tn,J,H2,e,I2,T,st2,f2,h2⟩:=h2;subst e
 refine BG (zeV (e:=.ListComp elt [⟨tg,iter,ifs,0⟩] sc pos) (inner:=λ_ _=>pure ()) (D:=λp=>{ nx:=λ_ H'=>Q (.ref p) H',rt:=λ_ _=>False }) (tb:=λp=>zcG p te) (use:=none) B ho hN hc (λacc env R s a b=>codeAny_compStart_list a b)
  (zfA (iter:=iter) (pos:=pos) T hc hg ht he) I2 T st2 f2 zhY rfl (h2 _ (I2.hok.fresh (Ai _))) (λC H' s' I3 fC hn hq=>?_) s2.toks cl Cl X.xe)
 obtain⟨m,hn⟩:=hn;obtain⟨_,hq⟩:=hq;exact⟨m,hn,λh' hs'=>⟨.ref s2.heap.objs.size,H',I3.let_go fC hs',rfl,hq⟩⟩
noncomputable def zn1(wi:TI)(sel:List (Option Nat))(g:TG)(tt:TT)(te:TE)(i:Nat):TS:=λD σ H=>wi σ H λJ H1=>∀p,H1 p=none ->
 zdu J g (tIfs tt (zcG p te)) { nx:=λ_ H'=>D.nx (σ.set i (some (.ref p))) H',rt:=λ_ _=>False } (selSt sel σ) (upd H1 p (.lst []))
theorem zfX{i:Nat}{x:Str}{px spos:Pos}(B:BlkOk osc N sc N' sel)(hnd:X.N.Nodup)(hi':X.N[i]? = some x)(hx:Loc X.env.scope x)(hi:PI X tg iter wi)(hg:InBlk X sc N' λY => PG Y tg g)(ht:InBlk X sc N' λY => PTs Y ifs tt)(he:InBlk X sc N' λY => PE Y elt te)
  (hsw:swapsWith (.ListComp elt [⟨tg,iter,ifs,0⟩] sc pos) (some (.Name x px)) spos.line X.env=pure true:=by rfl)
  (ho:X.env.scope=osc:=by rfl) (hN:X.N=N:=by rfl) (hc:X.calm=true:=by rfl) (hs:∀x,BU iter X.env x=pure x:=by intro _;rfl)
  (hf:X.fn x=true∨X.env.scope.names.lookup x=some .local:=by first |exact .inl rfl |exact .inr rfl |assumption) :
  PS X (.Assign [.Name x px] (.ListComp elt [⟨tg,iter,ifs,0⟩] sc pos) spos) (zn1 wi sel g tt te i):=by
 intro pins s σ H D I h;obtain⟨cl,Cl⟩:=zlg I.ok B ho;rw[exec_Assign_Name_used _ _ _ _ hsw];refine Ad (DH (Ad ?_));show Aw _ X.A (do let _ <- comprehension (.ListComp elt [⟨tg,iter,ifs,0⟩] sc pos) sc X.env _ (newList []) false (eval iter X.env) (some (assign (.Name x px) X.env))) _ _ s;refine Ad (thn (Ec (use:=some (assign (.Name x px) X.env)) (Q:=λ_ s'=>SP X pins D .next s') rfl hs Cl.run B.kind B.names (thn (hi pins s σ H _ I h) λv s1 h1=>thn h1 λitv s2 h2=>?_)) λ_ s' hq=>Ak (Ak hq));obtain⟨it,fp,tn,J,H2,e,I2,T,st2,f2,h2⟩:=h2;subst e
 refine BG (zeV (e:=.ListComp elt [⟨tg,iter,ifs,0⟩] sc pos) (inner:=λ_ _=>pure ()) (D:=λp=>{ nx:=λ_ H'=>D.nx (σ.set i (some (.ref p))) H',rt:=λ_ _=>False }) (tb:=λp=>zcG p te) (use:=some (assign (.Name x px) X.env)) B ho hN hc (λacc env R s a b=>codeAny_compStart_list a b)
  (zfA (iter:=iter) (pos:=pos) T hc hg ht he) I2 T st2 f2 zhY rfl (h2 _ (I2.hok.fresh (Ai _))) (λC H' s' I3 fC hn hq=>?_) s2.toks cl Cl X.xe)
 obtain⟨m,hn⟩:=hn;obtain⟨_,hq⟩:=hq;show Aw _ X.A (assign (.Name x px) X.env (.ref s2.heap.objs.size)) _ _ _;refine wpAny_assign_Name (zgI I3 hnd hi' hx (v:=.ref s2.heap.objs.size) rfl (λs4 I4 hch=>?_) hf);obtain⟨a,sb,ha⟩:=hch
 have nC:C≠a:=by
  rcases ha with z |z
  .rw[z];exact fC.2.1
  .exact λq=>fC.2.2.2.2.1 x a z q.symm
 refine⟨m,hn.sameBut sb nC,λh' hs'=>⟨_,H',I4.let_go fC hs',hq⟩⟩
end
mutual
inductive RD (K:W.Frag) (H:Hp):V->PyData->Prop where
 |non:RD K H .non .none
 |bl (b:Bool):RD K H (.bl b) (.bool b)
 |int (i:Int):RD K H (.int i) (.int i)
 |str (x:Str):RD K H (.str x) (.str x)
 |lst {a:Addr} {xs:List V} {ds:List PyData}:SqL K H a xs->RDs K H xs ds->RD K H (.ref a) (.list ds)
 |tup {a:Addr} {xs:List V} {ds:List PyData}:SqT K H a xs->RDs K H xs ds->RD K H (.ref a) (.tuple ds)
inductive RDs (K:W.Frag) (H:Hp):List V->List PyData->Prop where
 |nil:RDs K H [] []
 |cons {x:V} {xs:List V} {d:PyData} {ds:List PyData}:RD K H x d->RDs K H xs ds->RDs K H (x::xs) (d::ds)
end
section
variable {X:Cx}{pins:List (Addr×Obj)}{σ:St}{H:Hp}{s:Af}
mutual
theorem Inv.reads(I:Inv X pins σ H s):∀{v:V}{d:PyData}{u:Value},RD X.K H v d->RelV v u->∃as,Reads s.heap u d as
 |_,_,_,.non,r=>by cases (show _=BY from r);exact⟨_,.none⟩
 |_,_,_,.bl b,r=>by cases (show _=Eo b from r);exact⟨_,.bool b⟩
 |_,_,_,.int i,r=>by obtain⟨t,rfl⟩:=r;exact⟨_,.int i t⟩
 |_,_,_,.str x,r=>by obtain⟨t,rfl⟩:=r;exact⟨_,.str x t⟩
 |_,_,_,.lst (a:=a) hq hs,r=>by
  cases (show _=Au a from r)
  obtain⟨its,rv,p,hz⟩:=I.list hq;obtain⟨as,ra⟩:=I.readsAll hs rv;obtain⟨o,ho,hc,n,hd⟩:=p.isList;exact⟨_,.list ho hc hd (by simpa using ra)⟩
 |_,_,_,.tup (a:=a) hq hs,r=>by
  cases (show _=Au a from r)
  obtain⟨its,rv,p,hz⟩:=I.tuple hq;obtain⟨as,ra⟩:=I.readsAll hs rv;obtain⟨o,ho,hc,n,hd⟩:=p;exact⟨_,.tuple ho hc hd (by simpa using ra)⟩
theorem Inv.readsAll(I:Inv X pins σ H s):∀{vs:List V}{ds:List PyData}{us:List Value},RDs X.K H vs ds->Vals vs us->∃as,ReadsAll s.heap us ds as
 |_,_,_,.nil,r=>by cases r;exact⟨_,.nil⟩
 |_,_,_,.cons h t,.cons r rr=>by
  obtain⟨as,h1⟩:=I.reads h r;obtain⟨bs,h2⟩:=I.readsAll t rr;exact⟨_,.cons h1 h2⟩
end
end
theorem RDs.ints{K:W.Frag}{H:Hp}:∀(ns:List Int),RDs K H (ns.map V.int) (ns.map Du)
 |[]=>.nil
 |n::r=>.cons (.int n) (RDs.ints r)
mutual
theorem RD.mono{K:W.Frag}{H H':Hp}(hl:∀a xs,SqL K H a xs->SqL K H' a xs)(ht:∀a xs,SqT K H a xs->SqT K H' a xs):∀{v:V}{d:PyData},RD K H v d->RD K H' v d
 |_,_,.non=>.non
 |_,_,.bl b=>.bl b
 |_,_,.int i=>.int i
 |_,_,.str x=>.str x
 |_,_,.lst h t=>.lst (hl _ _ h) (RDs.mono hl ht t)
 |_,_,.tup h t=>.tup (ht _ _ h) (RDs.mono hl ht t)
theorem RDs.mono{K:W.Frag}{H H':Hp}(hl:∀a xs,SqL K H a xs->SqL K H' a xs)(ht:∀a xs,SqT K H a xs->SqT K H' a xs):∀{v:List V}{d:List PyData},RDs K H v d->RDs K H' v d
 |_,_,.nil=>.nil
 |_,_,.cons h t=>.cons (RD.mono hl ht h) (RDs.mono hl ht t)
end
noncomputable def rEqD(K:W.Frag):R2:=λx y H Q=>∃d e,RD K H x d/\RD K H y e/\Ch d=true/\Ch e=true/\Q (.bl (DQ d e)) H
noncomputable def rNeD(K:W.Frag):R2:=λx y H Q=>∃d e,RD K H x d/\RD K H y e/\Ch d=true/\Ch e=true/\Q (.bl (!PyData.eqv d e)) H
section
variable {X:Cx}
theorem zkA(hu:X.A.units+64<cLine):OpR X (BX .Eq) (rEqD X.K):=by intro pins s σ H x y v u Q I rx ry h;obtain⟨d,e,hd,he,sd,se,q⟩:=h;obtain⟨as,ra⟩:=I.reads hd rx;obtain⟨bs,rb⟩:=I.reads he ry;exact SeqAt.compareEq_shaped ra rb sd se hu ⟨.bl _,H,I,rfl,q⟩
theorem zgX(hu:X.A.units+64<cLine):OpR X (BX .NotEq) (rNeD X.K):=by intro pins s σ H x y v u Q I rx ry h;obtain⟨d,e,hd,he,sd,se,q⟩:=h;obtain⟨as,ra⟩:=I.reads hd rx;obtain⟨bs,rb⟩:=I.reads he ry;exact SeqAt.compareNe_shaped ra rb sd se hu ⟨.bl _,H,I,rfl,q⟩
noncomputable def rInD(K:W.Frag):R2:=λx y H Q=>∃p xs d ds,y=.ref p/\SqL K H p xs/\RD K H x d/\RDs K H xs ds/\Ch d=true/\(∀e∈ds,Ch e=true)/\Q (.bl (ds.any λe=>DQ e d)) H
theorem zhr{ds:List PyData}(h:∀e∈ds,Ch e=true):Dd ds=true:=by
 induction ds with
 |nil=>rfl
 |cons d r ih=>rw[Dd,SeqAt.canLay_of_shaped (h d AM),ih λe he=>h e (AK _ he)];rfl
theorem zoe(hu:X.A.units+65<cLine):OpR X (BX .In) (rInD X.K):=by intro pins s σ H x y v u Q I rx ry h;obtain⟨p,xs,d,ds,rfl,hq,hd,hds,sd,sds,q⟩:=h;obtain⟨as,ra⟩:=I.reads hd rx;obtain⟨bs,rb⟩:=I.reads (.lst hq hds) ry;exact SeqAt.in_list_reads rb ra (zhr sds) (SeqAt.canLay_of_shaped sd) (PyProof.Rows.room_in_shaped sd hu) ⟨.bl _,H,I,rfl,q⟩
theorem zeQ:∀ns ms:List Int,PyData.eqvAll (ns.map Du) (ms.map Du)=decide (ns=ms)
 |[],[]=>rfl
 |[],_::_=>rfl
 |_::_,[]=>rfl
 |n::r,m::t=>by
  show (n == m && PyData.eqvAll (r.map Du) (t.map Du))=_;rw[zeQ r t]
  by_cases e:n=m
  .subst e;by_cases e2:r=t <;> simp[e2]
  .simp[e]
theorem zcA:∀ns:List Int,PyData.depthAll (ns.map Du)=0
 |[]=>rfl
 |n::r=>by show max 0 (PyData.depthAll (r.map Du))=0;rw[zcA r];rfl
theorem zdd:∀ns:List Int,Dd (ns.map Du)=true
 |[]=>rfl
 |n::r=>by show (true && Dd (r.map Du))=true;rw[zdd r];rfl
noncomputable def tI(ns:List Int):PyData:=.tuple (ns.map .int)
theorem zhm(ns ms:List Int):DQ (tI ns) (tI ms)=decide (ns=ms):=zeQ ns ms
theorem zbp(ns:List Int):Ch (tI ns)=true:=by unfold Ch tI;rw[PyData.canLay0,zdd,De,zcA];rfl
end
section
variable {prog:AF}{w:A7}{A:AS}{E:Value->Af->Prop}{s:Af}
theorem zho{it t:Addr}{items:Array Value}(hne:t ≠ it):∀(n i:Nat) (s:Af) (Q:List Value -> Af -> Prop), s.heap.IsListIter it t i -> s.heap.IsList t items -> i + n <= items.size ->
  (∀h',h'.IsListIter it t (i+n)->CQ it s.heap h'->Q ((items.toList.drop i).take n) { s with heap:=h' })->Aw (AE prog w) A (draw (.ref it) n) Q E s
 | 0,i,s,Q,hit,_,_,hQ=>by
  show Aw _ _ (pure []) Q E s;exact Ak (by simpa using hQ s.heap hit (Heap.SameBut.refl ..))
 |n+1,i,s,Q,hit,ht,hle,hQ=>by
  have hlt:i<items.size:=by lia
  show Aw _ _ (pyNext (.ref it) >>= _) Q E s;refine Ad (wpAny_pyNext_list_item hit ht (x:=items[i]) (by simp[hlt]) λh₁ hit₁ hs₁=>?_);refine Ad (Br (zho hne n (i+1) _ _ hit₁ (ht.extBut hs₁.extBut hne) (by lia) λh₂ hit₂ hs₂=>Ak ?_));have hd:items.toList.drop i=items[i]::items.toList.drop (i+1):=by simp[D1,hlt]
  have:=hQ h₂ (by rw[show i+(n+1)=i+1+n by lia];exact hit₂) (hs₁.trans hs₂);rw[hd,List.take_succ_cons]at this;exact this
theorem zd9{t:Addr}{items:Array Value}{Q:List Value -> Af -> Prop}(hh:A.handled=none)(ht:s.heap.IsList t items)
  (hQ:∀h',Heap.ExtBut s.heap.objs.size s.heap h'->Q items.toList { s with heap:=h' }):Aw (AE prog w) A (unpackItems (.ref t) items.size none) Q E s:=by
 have hlt:t≠s.heap.objs.size:=by obtain⟨o,ho,_⟩:=ht;exact A3 (AD ho)
 unfold unpackItems;refine Ad ?_
 .unfold notIterableAtAll;refine Ad (wpAny_specialOf ht.typeIs PySem.F.slot_list_iter.lookup ?_);refine Ak ?_
  simp only[BO,if_false];refine Ad (Br (DM ht ?_));refine Ad (Br (zho hlt items.size 0 _ _ ⟨_,AC _ rfl,rfl,rfl⟩ (ht.push _) (by lia) λh₁ hit₁ hs₁=>?_))
  have hall:List.take items.size (List.drop 0 items.toList)=items.toList:=by rw[Dr];exact Bx (by simp)
  rw[hall];rw[if_neg (by simp)];have ht₁:h₁.IsList t items:=(ht.push _).extBut hs₁.extBut hlt;refine Ad (Br (wpAny_pyNext_list_end hh hit₁ ht₁ (by simp) λh₂ he₂=>?_));simp only[Option.isSome_none,BO,if_false];refine Ak (hQ h₂ λb o hb e=>he₂ b o hb (hs₁.extBut b o hb (Ah _ e)))
theorem zdW{env:Env}{elts:List Expr}{x1}{pos:Pos}{t:Addr}{items:Array Value}{Q:Unit -> Af -> Prop}(hh:A.handled=none)(ht:s.heap.IsList t items)
  (hn:(CM elts env).length=items.size) (hstar:(CM elts env).findIdx? (·.1)=none)
  (h:∀h',Heap.ExtBut s.heap.objs.size s.heap h'->Aw (AE prog w) A (assignInOrder ((CM elts env).map (·.2)) items.toList) Q E { s with heap:=h' }) :
  Aw (AE prog w) A (assign (.Tuple elts x1 pos) env (.ref t)) Q E s:=by
 rw[assign_Tuple];refine Ad (DH ?_);unfold unpack;rw[hn,hstar];exact Ad (Br (zd9 hh ht h))
end
section
variable {X:Cx}{pos:Pos}
noncomputable def gLst(K:W.Frag)(n:Nat)(t:TGs):TG:=λv σ H Q=>∃a xs,v=.ref a/\SqL K H a xs/\xs.length=n/\t xs σ H Q
theorem zmB{es:List Expr}{k:Nat}{t:TGs}{n:Nat}(hc:X.calm=true)(h:PGs X es t)
  (hn:(CM es X.env).length=n:=by rfl) (hst:(CM es X.env).findIdx? (·.1)=none:=by rfl):PG X (.Tuple es k pos) (gLst X.K n t):=by
 intro pins s σ H v u Q I r hw;obtain⟨a,xs,e1,hq,hl,hw⟩:=hw;subst e1
 cases r
 obtain⟨its,rv,ht,hz⟩:=I.list hq;refine zdW (I.ok.hd hc) ht.isList (by simp[hn,<- hl,rv.length]) hst λh' hx=>?_
 have I1:Inv X pins σ H { s with heap:=h' }:=I.kept (t':=s.toks) λb o e=>hx b o (A3 (AD e)) e
 exact h pins _ σ H xs _ Q I1 (by simpa using rv) hw
noncomputable def CDivB(i j:Int):Prop:=0<j/\j.natAbs.log2<9000
theorem zlQ:OpR X (CO .FloorDiv) (rI CDivB λi j=>.int (i / j)):=opI λi j _ _ _ _ _ hc q=>by have e:i.fdiv j=i / j:=Int.fdiv_eq_ediv_of_nonneg i (Int.le_of_lt hc.1);rw[<- e]at q;exact floordiv_int (by have:=hc.1;lia) q (.inl (PyProof.noPylong_of_log2 hc.2))
theorem zdG (hh:X.calm=true):CallR X (.builtin "all") (λxs H Q=>∃(p:Addr) (bs:List Bool),xs=[.ref p]/\SqL X.K H p (bs.map V.bl)/\Q (.bl (bs.all id)) H):=by
 intro pins s σ H xs us Q I r h;obtain⟨p,bs,rfl,hq,q⟩:=h;obtain⟨u,rfl,ru⟩:=vals1 r
 cases (show u=Au p from ru)
 obtain⟨its,rv,pl,hz⟩:=I.list hq;have hlp:p<s.heap.objs.size:=by obtain⟨o,ho,_⟩:=pl.isList;exact AD ho
 have hlen:its.length=bs.length:=by have:=rv.length;simpa using this.symm
 refine call_all_walk (DM pl.isList ?_);refine⟨_,_,_,_,_,_,λi=>bs.getD i true,rfl,Walks.list (A:=X.A.in1) (I.ok.hd hh) s.heap.objs.size p (A3 hlp) its.toArray,⟨⟨_,AC _ rfl,rfl,rfl⟩,pl.isList.push _⟩,?_,λh' tk hk=>?_⟩
 .intro i v s1 Q1 E1 hv hQ;have hv':its[i]?=some v:=by simpa using hv
  have hi:i<its.length:=(Ae.mp hv').1;obtain⟨w',hw,rw'⟩:=rv.get (i:=i) (x:=V.bl (bs[i]'(by lia))) (by simp[Ab,show i<bs.length by lia]);rw[hv']at hw
  cases hw
  cases (show v=Eo _ from rw')
  refine B4 ?_
  have e:bs.getD i true=bs[i]'(by lia):=by simp[Be,show i<bs.length by lia]
  rw[<- e];exact hQ
 .have I1:Inv X pins σ H { s with heap:=h',toks:=tk }:=I.kept λb o e=>hk b o (by simp;exact A3 (AD e)) (Ah _ e)
  refine⟨.bl _,H,I1,rfl,?_⟩
  have e:(Bq its.toArray.size).all (λi=>bs.getD i true)=bs.all id:=by
   rw[show its.toArray.size=bs.length by simpa using hlen];rw[Ei];simp only[List.all_eq_true,List.mem_range,id];constructor
   .intro h b hb;obtain⟨i,hi,e⟩:=A6 hb;have:=h i hi;simpa[Be,hi,e]using this
   .intro h i hi;have:=h bs[i] (BA hi);simpa[Be,hi]using this
  rw[e];exact q
end
section
variable {X:Cx}
theorem zc8:CallR X (.builtin "isinstance") (λxs H Q=>∃x T t b,xs=[x,.ty T]/\TyOf X.K H x t/\W.kitOne X.K t (.type T)=some b/\Q (.bl b) H):=by
 intro pins s σ H xs us Q I r h;obtain⟨x,T,t,b,rfl,ty,e,q⟩:=h;obtain⟨u,w',rfl,ru,rw'⟩:=vals2 r
 cases (show w'=Value.type T from rw')
 exact zk0 I ru ty e λtk=>⟨.bl b,H,I.tok tk,rfl,q⟩
theorem zhc (K:W.Frag):W.kitOne K (.type "int") (.type "bool")=some false:=by rfl
theorem zdE(K:W.Frag)(T:String):W.kitOne K (.type T) (.type T)=some true:=by unfold W.kitOne;rw[if_pos (by simp)]
end
end L2
namespace HT
open PySem PyProof.Rows
section
open PySem.SeqAt
open PySem.AutoSeq1 (wpAny_loadPart')
open PySem.MeetsSeq PySem.MeetsSeq2 PySem.MeetsSeq3
end
section
variable {prog:AF}{w:A7}{A:AS}{E:Value->Af->Prop}{s:Af}
end
end HT
namespace L2
open PySem PySem.Spec PyProof.Rows
section
variable {X:Cx}
end
section
variable {X:Cx}
end
section
variable {X:Cx}{k:Nat}{f:Addr}{fd:BI}{ps:List Str}{sp:Sp}{pins:List (Addr×Obj)}{σ:St}
theorem zki{H:Hp}{s:Af}{Q:VK}{us:List Value}{vs:List V}{E:Value -> Af -> Prop}(F:FnOk X.prog X.w X.K X.mg X.base CX0 k f fd ps sp)(hr:Room (k + 1) X.A)(hb:Binds X.K fd ps [])
  (I:Inv X pins σ H s) (r:Vals vs us) (h:sp vs H Q E0):Aw (AE X.prog X.w) X.A.in1 (call (.ref f) us) (EP X pins σ Q) E s:=by
 have hl:(us++[]).length=ps.length:=by rw[Bk,<- r.length];exact F.len _ _ _ _ h
 have hb':=hb s us I.kIn hl;rw[Bk]at hb';refine wpAny_call (DW (F.run X.A.in1 X.stack s H ⟨us,[]⟩ us vs Q E0 hr.in1 I.env0.in1 hb' r h) λr s' hq=>?_)
 cases r with
 |error e=>exact BN hq
 |ok fl =>
  cases fl with
  |ret u=>exact I.after hq
  |next=>exact BN hq
  |brk=>exact BN hq
  |cont=>exact BN hq
theorem Inv.moved{H:Hp}{s:Af}{b:Addr}{h':Heap}{t':Nat}(I:Inv X pins σ H s)(fb:FpOk X pins H b)(hk:∀c o,c ∉ [b]->s.heap.get? c=some o->h'.get? c=some o):Inv X pins σ H { s with heap:=h',toks:=t' } :=
 I.turned (λc o hc e=>hk c o (λz=>hc (Ao.mp z)) e) fb.1 fb.2.1 fb.2.2.2.1 fb.2.2.2.2.1 fb.2.2.2.2.2
theorem FpOk.again{H H':Hp}{b:Addr}(fb:FpOk X pins H b)(hn:H' b=none):FpOk X pins H' b:=⟨hn,fb.2⟩
structure MK (X:Cx) (pins:List (Addr×Obj)) (σ:St) (H:Hp) (s:Af) (it st l:Addr) (j:Nat) (vb kb:Value):Prop where
 inv:Inv X pins σ H s
 fi:FpOk X pins H it
 fs:FpOk X pins H st
 ne:st≠it
 iter:s.heap.IsListIter it l j
 hold:∃c,s.heap.get? st=some (BH "list" #[vb,kb] c)
noncomputable def Least(κ:Nat->List Int)(n i:Nat):Prop:=∀j,j<n->HT.lexLt (κ j) (κ i)=false/\(j<i->HT.lexLt (κ i) (κ j)=true)
end
end L2
namespace HT
theorem lexLt_irrefl:∀a:List Int,lexLt a a=false
 |[]=>rfl
 |x::r=>by rw[lexLt_cons,if_pos rfl];exact lexLt_irrefl r
theorem lexLt_trans:∀{a b c:List Int},lexLt a b=true->lexLt b c=true->lexLt a c=true
 |[],[],_,h,_=>by cases h
 |[],_::_,[],_,h=>by cases h
 |[],_::_,_::_,_,_=>rfl
 |_::_,[],_,h,_=>by cases h
 |_::_,_::_,[],_,h=>by cases h
 |x::a,y::b,z::c,h,g=>by
  rw[lexLt_cons]at h g ⊢
  by_cases e1:x=y
  .subst e1;rw[if_pos rfl]at h
   by_cases e2:x=z
   .subst e2;rw[if_pos rfl]at g ⊢;exact lexLt_trans h g
   .rw[if_neg e2]at g ⊢;exact g
  .rw[if_neg e1]at h;have h':x<y:=by simpa using h
   by_cases e2:y=z
   .subst e2;rw[if_neg e1];exact h
   .rw[if_neg e2]at g;have g':y<z:=by simpa using g
    rw[if_neg (by lia)];exact decide_eq_true (by lia)
theorem lexLt_total:∀{a b:List Int},lexLt a b=false->lexLt b a=false->a=b
 |[],[],_,_=>rfl
 |[],_::_,h,_=>by cases h
 |_::_,[],_,h=>by cases h
 |x::a,y::b,h,g=>by
  rw[lexLt_cons]at h g
  by_cases e:x=y
  .subst e;rw[if_pos rfl]at h g;rw[lexLt_total h g]
  .rw[if_neg e]at h;rw[if_neg (Cz e)]at g;have h':¬ x<y:=by simpa using h
   have g':¬ y<x:=by simpa using g
   lia
theorem lexLt_of_not_lt_lt{a b c:List Int}(h:lexLt b a=false)(g:lexLt b c=true):lexLt a c=true:=by
 cases e:lexLt a b with
 |true=>exact lexLt_trans e g
 |false=>rw[lexLt_total e h];exact g
theorem lexLt_asym{a b:List Int}(h:lexLt a b=true):lexLt b a=false:=by
 cases e:lexLt b a with
 |false=>rfl
 |true=>have:=lexLt_trans h e;rw[lexLt_irrefl]at this;cases this
end HT
namespace L2
open PySem PySem.Spec PyProof.Rows
section
variable {X:Cx}{k:Nat}{f:Addr}{fd:BI}{ps:List Str}{sp:Sp}{pins:List (Addr×Obj)}{σ:St}{H0:Hp}{Q:VK}{l it st:Addr}{xs:List V}{κ:Nat->List Int}
noncomputable def MKR(X:Cx)(pins:List (Addr×Obj))(σ:St)(Q:VK):Result->Af->Prop:=λr s'=>match r with
 |.ok (.ret v)=>EP X pins σ Q v s'
 |.ok _=>False
 |.error e=>X.xe e s'
theorem zc5 {xs:Array Value}{c:Nat}:∀v,(BH "list" xs c).data≠.cell v:=λv h=>by cases h
theorem zeH{h:Heap}{it l:Addr}{j:Nat}(hi:h.IsListIter it l j):∃o,h.get? it=some o/\∀v,o.data≠.cell v:=by obtain⟨o,ho,_,hd⟩:=hi;exact⟨o,ho,λv z=>by rw[hd]at z;cases z⟩
theorem zlC{H:Hp}{s:Af}{Q1:VK}{u:Value}{x:V}{E:Value -> Af -> Prop}{j:Nat}{vb kb:Value}(F:FnOk X.prog X.w X.K X.mg X.base CX0 k f fd ps sp)(hr:Room (k + 1) X.A)(hb:Binds X.K fd ps [])
    (M:MK X pins σ H s it st l j vb kb) (r:RelV x u) (h:sp [x] H Q1 E0):Aw (AE X.prog X.w) X.A.in1 (call (.ref f) [u]) (λv s'=>∃y H',RelV y v/\Q1 y H'/\MK X pins σ H' s' it st l j vb kb) E s:=by
  obtain⟨c,hc⟩:=M.hold;obtain⟨oi,hoi,ci,di⟩:=id M.iter
  have I1:Inv X (pins ++ zdZ [it, st] s.heap) σ H s := M.inv.pinned (λb hb => by
      rcases AI.mp hb with rfl |hb
      . exact M.fi
      . rw[Ao.mp hb];exact M.fs) (λb hb=>by
      rcases AI.mp hb with rfl |hb
      . exact zeH M.iter
      . rw[Ao.mp hb];exact⟨_,hc,zc5⟩)
  refine BR (zki F hr hb I1 (.cons r .nil) h) (λv s' hv=>?_) λ_ _ e=>e
  obtain⟨y,H',I2,ry,q⟩:=hv;have p1:=I2.pin (it,oi) (At _ (At _ (za4 (by simp) hoi)));have p2:=I2.pin (st,BH "list" #[vb,kb] c) (At _ (At _ (za4 (by simp) hc)));exact⟨y,H',ry,q,I2.unpinned,M.fi.again p1.2.1,M.fs.again p2.2.1,M.ne,⟨oi,p1.1,ci,di⟩,c,p2.1⟩
theorem zkM{H:Hp}{s:Af}{a b:Addr}{ns ms:List Int}{E:Value -> Af -> Prop}{Q1:Value -> Af -> Prop}(hu:X.A.units + 1 < cLine)(I:Inv X pins σ H s)(ha:SqT X.K H a (ns.map V.int))(hb:SqT X.K H b (ms.map V.int))(q:Q1 (.bool (HT.lexLt ns ms)) s) :
  Aw (AE X.prog X.w) X.A.in1 (richCompare .Lt (.ref a) (.ref b)) Q1 E s:=by
 obtain⟨its,r1,p1,_⟩:=I.tuple ha;obtain⟨its2,r2,p2,_⟩:=I.tuple hb;exact (HT.lt_tupInts p1 p2 (zfz r1) (zfz r2) hu q:Aw (AE X.prog X.w) X.A.in1 (BX .Lt (.ref a) (.ref b)) Q1 E s)
theorem MK.set{H:Hp}{s:Af}{j:Nat}{vb kb v kv:Value}(M:MK X pins σ H s it st l j vb kb):MK X pins σ H { s with heap:=s.heap.update st (A8 λ_=>#[v,kv]) } it st l j v kv:=by obtain⟨c,hc⟩:=M.hold;have sb:=BL s.heap st (A8 λ_=>#[v,kv]);obtain⟨oi,hoi,ci,di⟩:=id M.iter;exact⟨M.inv.moved (t':=s.toks) M.fs (λb o hb e=>(sb.2 b λz=>hb (by simp[z])).trans e),M.fi,M.fs,M.ne,⟨oi,(sb.2 it M.ne.symm).trans hoi,ci,di⟩,_,El hc λ_=>#[v,kv]⟩
theorem Least.next{n i:Nat}(h:Least κ n i)(e:HT.lexLt (κ n) (κ i)=false)(hi:i<n):Least κ (n+1) i:=λj hj=>by
 by_cases z:j=n
 .subst z;exact⟨e,λq=>absurd q (by lia)⟩
 .exact h j (by lia)
theorem Least.take{n i:Nat}(h:Least κ n i)(e:HT.lexLt (κ n) (κ i)=true)(hi:i<n):Least κ (n+1) n:=λj hj=>by
 by_cases z:j=n
 .subst z;exact⟨HT.lexLt_irrefl _,λq=>absurd q (by lia)⟩
 .have g:=(h j (by lia)).1
  have t:HT.lexLt (κ n) (κ j)=true:=by
   cases q:HT.lexLt (κ i) (κ j) with
   |true=>exact HT.lexLt_trans e q
   |false=>rw[<- HT.lexLt_total q g];exact e
  exact⟨HT.lexLt_asym t,λ_=>t⟩
theorem Room.un1{n:Nat}{A:AS}(r:Room n A):A.units+1<cLine:=by have:=r.units;lia
theorem Same.seqT{K:W.Frag}{H H':Hp}{a:Addr}{xs:List V}(e:Same H H')(h:SqT K H a xs):SqT K H' a xs:=by
 rcases h with (h |⟨o,h⟩) |h
 .exact .inl (.inl (e _ _ h))
 .exact .inl (.inr ⟨o,e _ _ h⟩)
 .exact .inr h
theorem zkJ(hh:X.A.handled=none)(F:FnOk X.prog X.w X.K X.mg X.base CX0 k f fd ps sp)(hr:Room (k + 1) X.A)(hb:Binds X.K fd ps [])
  (turn:∀i x H,xs[i]?=some x->Same H0 H->sp [x] H (λv H'=>Same H H'/\∃a,v=.ref a/\SqT X.K H' a ((κ i).map V.int)) E0)
  (hl:SqL X.K H0 l xs) (hli:l≠it) (hQ:∀i x H',xs[i]?=some x->Least κ xs.length i->Same H0 H'->Q x H') :
  ∀(r j i:Nat) (H:Hp) (s:Af) (vb:Value) (xb:V) (b:Addr),xs.length-(j+1)=r->j+1<=xs.length->Same H0 H->MK X pins σ H s it st l (j+1) vb (.ref b)->xs[i]?=some xb->RelV xb vb->SqT X.K H b ((κ i).map V.int)->i<=j->Least κ (j+1) i ->
   C4 (AE X.prog X.w) X.A (.builtin "min.loop" ⟨[.ref it,.ref f,.ref st],[]⟩) (MKR X pins σ Q) s:=by
 have nm:(Bg "min" ++ Bg ".loop" : String) = "min.loop":=by decide
 intro r
 induction r with
 |zero =>
  intro j i H s vb xb b hr0 hj hS M hxb rb kb' hij best;have hend:j+1=xs.length:=by lia
  obtain⟨its,rv,pl,hz⟩:=M.inv.list (hS.seq hl);have hlen:its.length=xs.length:=rv.length.symm;have W:=Walks.list (prog:=X.prog) (w:=X.w) (A:=X.A.in1) hh it l hli its.toArray;obtain⟨c,hc⟩:=M.hold;refine DD Ci ?_
  rw[CF Ba _];show Aw _ X.A.in1 (seqItems? (.ref st) >>= _) _ _ _;refine Ad (DR hc rfl ?_);show Aw _ X.A.in1 (tryCatch (pyNext (.ref it)) _ >>= _) _ _ _;refine Ad (Cj (W.done _ _ _ ⟨by rw[As,hlen,<- hend];exact M.iter,pl.isList⟩ λh1 tk1 hk1=>?_));have I1:=M.inv.moved (t':=tk1) M.fi hk1;have hc1:=hk1 st _ (by simpa using M.ne) hc;have sb:=BL h1 st (A8 λ_=>(#[]:Array Value));show Aw _ X.A.in1 (updateSeq st (λ_=>#[]) >>= _) _ _ _;refine Ad ?_
  refine DE hc1 rfl (Ad (Ds (Ak ?_)));have I2:Inv X pins σ H { s with heap:=h1.update st (A8 λ_=>(#[]:Array Value)),toks:=tk1 }:=I1.moved (s:={ s with heap:=h1,toks:=tk1 }) (t':=tk1) M.fs (λb o hb e=>(sb.2 b λz=>hb (by simp[z])).trans e);exact⟨xb,H,I2,rb,hQ i xb H hxb (by rw[<- hend];exact best) hS⟩
 |succ r ih =>
  intro j i H s vb xb b hr0 hj hS M hxb rb kb' hij best;have hlt:j+1<xs.length:=by lia
  obtain⟨its,rv,pl,hz⟩:=M.inv.list (hS.seq hl);have hlen:its.length=xs.length:=rv.length.symm;have W:=Walks.list (prog:=X.prog) (w:=X.w) (A:=X.A.in1) hh it l hli its.toArray;obtain⟨c,hc⟩:=M.hold;refine DD Ci ?_
  rw[CF Ba _];show Aw _ X.A.in1 (seqItems? (.ref st) >>= _) _ _ _;refine Ad (DR hc rfl ?_);show Aw _ X.A.in1 (tryCatch (pyNext (.ref it)) _ >>= _) _ _ _;refine Ad (Cj (W.item (j+1) _ _ _ (by rw[As,hlen];exact hlt) ⟨M.iter,pl.isList⟩ λv h1 tk1 hP hst1 hk1=>?_));have hv:its[j+1]?=some v:=by simpa using hP
  obtain⟨x,hx⟩:∃x,xs[j+1]?=some x:=⟨_,Ab hlt⟩;obtain⟨v',hv',rx⟩:=rv.get hx;rw[hv]at hv'
  cases hv'
  have M1:MK X pins σ H { s with heap:=h1,toks:=tk1 } it st l (j+1+1) vb (.ref b):=⟨M.inv.moved (t':=tk1) M.fi hk1,M.fi,M.fs,M.ne,hst1.1,c,hk1 st _ (by simpa using M.ne) hc⟩;show Aw _ X.A.in1 (tryCatch (holding [v] (call (.ref f) [v])) _ >>= _) _ _ _;refine Ad (Cj (Br (BR (zlC F hr hb M1 rx (turn (j+1) x H hx hS) (E:=λ_ _=>False)) (λkv s2 he=>?_) λ_ _ hF=>hF.elim)));obtain⟨y,H2,ry,⟨hS2,a2,ey,ka2⟩,M2⟩:=he;subst ey
  cases (show kv=Au a2 from ry)
  have hS3:=hS.trans hS2;have kb2:SqT X.K H2 b ((κ i).map V.int):=hS2.seqT kb';show Aw _ X.A.in1 (tryCatch (holding [v,.ref a2] (richCompare .Lt (.ref a2) (.ref b) >>= _)) _ >>= _) _ _ _;refine Ad (Cj (Br (Ad (zkM hr.un1 M2.inv ka2 kb2 ?_))));refine Ad (Br (B4 ?_));refine Ad (Ds (Ak ?_));obtain⟨c2,hc2⟩:=M2.hold
  by_cases hbt:HT.lexLt (κ (j+1)) (κ i)=true
  .simp only[hbt,if_true];refine Ad ?_
   refine DE hc2 rfl (Ad (Ds ?_));rw[nm];exact Ak ⟨Dk Ba _,ih (j+1) (j+1) H2 _ v _ a2 (by lia) hlt hS3 M2.set hx rx ka2 (Ai _) (best.take hbt (by lia))⟩
  .have hbf:HT.lexLt (κ (j+1)) (κ i)=false:=by simpa using hbt
   simp only[hbf,BO,if_false];refine Ad (Ds ?_);rw[nm];exact Ak ⟨Dk Ba _,ih (j+1) i H2 _ vb _ b (by lia) hlt hS3 M2 hxb rb kb2 (by lia) (best.next hbf (by lia))⟩
theorem zkI(hh:X.A.handled=none)(hu:X.A.units + 1 < cLine)
  (turn:∀i x,xs[i]?=some x->∃a,x=.ref a/\SqT X.K H0 a ((κ i).map V.int))
  (hl:SqL X.K H0 l xs) (hli:l≠it) (hQ:∀i x H',xs[i]?=some x->Least κ xs.length i->Same H0 H'->Q x H') :
  ∀(r j i:Nat) (H:Hp) (s:Af) (vb:Value) (xb:V) (b:Addr),xs.length-(j+1)=r->j+1<=xs.length->Same H0 H->MK X pins σ H s it st l (j+1) vb (.ref b)->xs[i]?=some xb->RelV xb vb->SqT X.K H b ((κ i).map V.int)->i<=j->Least κ (j+1) i ->
   C4 (AE X.prog X.w) X.A (.builtin "min.loop" ⟨[.ref it,.none,.ref st],[]⟩) (MKR X pins σ Q) s:=by
 have nm:(Bg "min" ++ Bg ".loop" : String) = "min.loop":=by decide
 intro r
 induction r with
 |zero =>
  intro j i H s vb xb b hr0 hj hS M hxb rb kb' hij best;have hend:j+1=xs.length:=by lia
  obtain⟨its,rv,pl,hz⟩:=M.inv.list (hS.seq hl);have hlen:its.length=xs.length:=rv.length.symm;have W:=Walks.list (prog:=X.prog) (w:=X.w) (A:=X.A.in1) hh it l hli its.toArray;obtain⟨c,hc⟩:=M.hold;refine DD Ci ?_
  rw[CF Ba _];show Aw _ X.A.in1 (seqItems? (.ref st) >>= _) _ _ _;refine Ad (DR hc rfl ?_);show Aw _ X.A.in1 (tryCatch (pyNext (.ref it)) _ >>= _) _ _ _;refine Ad (Cj (W.done _ _ _ ⟨by rw[As,hlen,<- hend];exact M.iter,pl.isList⟩ λh1 tk1 hk1=>?_));have I1:=M.inv.moved (t':=tk1) M.fi hk1;have hc1:=hk1 st _ (by simpa using M.ne) hc;have sb:=BL h1 st (A8 λ_=>(#[]:Array Value));show Aw _ X.A.in1 (updateSeq st (λ_=>#[]) >>= _) _ _ _;refine Ad ?_
  refine DE hc1 rfl (Ad (Ds (Ak ?_)));have I2:Inv X pins σ H { s with heap:=h1.update st (A8 λ_=>(#[]:Array Value)),toks:=tk1 }:=I1.moved (s:={ s with heap:=h1,toks:=tk1 }) (t':=tk1) M.fs (λb o hb e=>(sb.2 b λz=>hb (by simp[z])).trans e);exact⟨xb,H,I2,rb,hQ i xb H hxb (by rw[<- hend];exact best) hS⟩
 |succ r ih =>
  intro j i H s vb xb b hr0 hj hS M hxb rb kb' hij best;have hlt:j+1<xs.length:=by lia
  obtain⟨its,rv,pl,hz⟩:=M.inv.list (hS.seq hl);have hlen:its.length=xs.length:=rv.length.symm;have W:=Walks.list (prog:=X.prog) (w:=X.w) (A:=X.A.in1) hh it l hli its.toArray;obtain⟨c,hc⟩:=M.hold;refine DD Ci ?_
  rw[CF Ba _];show Aw _ X.A.in1 (seqItems? (.ref st) >>= _) _ _ _;refine Ad (DR hc rfl ?_);show Aw _ X.A.in1 (tryCatch (pyNext (.ref it)) _ >>= _) _ _ _;refine Ad (Cj (W.item (j+1) _ _ _ (by rw[As,hlen];exact hlt) ⟨M.iter,pl.isList⟩ λv h1 tk1 hP hst1 hk1=>?_));have hv:its[j+1]?=some v:=by simpa using hP
  obtain⟨x,hx⟩:∃x,xs[j+1]?=some x:=⟨_,Ab hlt⟩;obtain⟨v',hv',rx⟩:=rv.get hx;rw[hv]at hv'
  cases hv'
  have M1:MK X pins σ H { s with heap:=h1,toks:=tk1 } it st l (j+1+1) vb (.ref b):=⟨M.inv.moved (t':=tk1) M.fi hk1,M.fi,M.fs,M.ne,hst1.1,c,hk1 st _ (by simpa using M.ne) hc⟩;obtain⟨a2,ex,ka2'⟩:=turn (j+1) x hx;subst ex
  cases (show v=Au a2 from rx)
  have hS3:=hS;have M2:=M1;have ka2:SqT X.K H a2 ((κ (j+1)).map V.int):=hS.seqT ka2';have kb2:=kb';show Aw _ X.A.in1 (pure (Au a2) >>= _) _ _ _;refine Ad (Ak ?_);show Aw _ X.A.in1 (tryCatch (holding [.ref a2,.ref a2] (richCompare .Lt (.ref a2) (.ref b) >>= _)) _ >>= _) _ _ _;refine Ad (Cj (Br (Ad (zkM hu M2.inv ka2 kb2 ?_))));refine Ad (Br (B4 ?_));refine Ad (Ds (Ak ?_));obtain⟨c2,hc2⟩:=M2.hold
  by_cases hbt:HT.lexLt (κ (j+1)) (κ i)=true
  .simp only[hbt,if_true];refine Ad ?_
   refine DE hc2 rfl (Ad (Ds ?_));rw[nm];exact Ak ⟨Dk Ba _,ih (j+1) (j+1) H _ (.ref a2) _ a2 (by lia) hlt hS3 M2.set hx rx ka2 (Ai _) (best.take hbt (by lia))⟩
  .have hbf:HT.lexLt (κ (j+1)) (κ i)=false:=by simpa using hbt
   simp only[hbf,BO,if_false];refine Ad (Ds ?_);rw[nm];exact Ak ⟨Dk Ba _,ih (j+1) i H _ vb _ b (by lia) hlt hS3 M2 hxb rb kb2 (by lia) (best.next hbf (by lia))⟩
end
theorem zkK (a:Value):argsOk "min" ⟨[a],[]⟩:=by unfold argsOk;kernel_rfl
section
variable {X:Cx}{k:Nat}{f:Addr}{fd:BI}{ps:List Str}{sp:Sp}{pins:List (Addr×Obj)}{σ:St}{H0:Hp}{Q:VK}{l it st:Addr}{xs:List V}{κ:Nat->List Int}
structure MK0 (X:Cx) (pins:List (Addr×Obj)) (σ:St) (H:Hp) (s:Af) (it st l:Addr) (j:Nat):Prop where
 inv:Inv X pins σ H s
 fi:FpOk X pins H it
 fs:FpOk X pins H st
 ne:st≠it
 iter:s.heap.IsListIter it l j
 hold:∃c,s.heap.get? st=some (BH "list" #[] c)
theorem zkj{H:Hp}{s:Af}{Q1:VK}{u:Value}{x:V}{E:Value -> Af -> Prop}{j:Nat}(F:FnOk X.prog X.w X.K X.mg X.base CX0 k f fd ps sp)(hr:Room (k + 1) X.A)(hb:Binds X.K fd ps [])
    (M:MK0 X pins σ H s it st l j) (r:RelV x u) (h:sp [x] H Q1 E0):Aw (AE X.prog X.w) X.A.in1 (call (.ref f) [u]) (λv s'=>∃y H',RelV y v/\Q1 y H'/\MK0 X pins σ H' s' it st l j) E s:=by
  obtain⟨c,hc⟩:=M.hold;obtain⟨oi,hoi,ci,di⟩:=id M.iter
  have I1:Inv X (pins ++ zdZ [it, st] s.heap) σ H s := M.inv.pinned (λb hb => by
      rcases AI.mp hb with rfl |hb
      . exact M.fi
      . rw[Ao.mp hb];exact M.fs) (λb hb=>by
      rcases AI.mp hb with rfl |hb
      . exact zeH M.iter
      . rw[Ao.mp hb];exact⟨_,hc,zc5⟩)
  refine BR (zki F hr hb I1 (.cons r .nil) h) (λv s' hv=>?_) λ_ _ e=>e
  obtain⟨y,H',I2,ry,q⟩:=hv;have p1:=I2.pin (it,oi) (At _ (At _ (za4 (by simp) hoi)));have p2:=I2.pin (st,BH "list" #[] c) (At _ (At _ (za4 (by simp) hc)));exact⟨y,H',ry,q,I2.unpinned,M.fi.again p1.2.1,M.fs.again p2.2.1,M.ne,⟨oi,p1.1,ci,di⟩,c,p2.1⟩
theorem MK0.set{H:Hp}{s:Af}{j:Nat}{v kv:Value}(M:MK0 X pins σ H s it st l j):MK X pins σ H { s with heap:=s.heap.update st (A8 λ_=>#[v,kv]) } it st l j v kv:=by obtain⟨c,hc⟩:=M.hold;have sb:=BL s.heap st (A8 λ_=>#[v,kv]);obtain⟨oi,hoi,ci,di⟩:=id M.iter;exact⟨M.inv.moved (t':=s.toks) M.fs (λb o hb e=>(sb.2 b λz=>hb (by simp[z])).trans e),M.fi,M.fs,M.ne,⟨oi,(sb.2 it M.ne.symm).trans hoi,ci,di⟩,_,El hc λ_=>#[v,kv]⟩
theorem zln{s:Af}(hh:X.A.handled=none)(F:FnOk X.prog X.w X.K X.mg X.base CX0 k f fd ps sp)(hr:Room (k + 1) X.A)(hb:Binds X.K fd ps [])
  (turn:∀i x H,xs[i]?=some x->Same H0 H->sp [x] H (λv H'=>Same H H'/\∃a,v=.ref a/\SqT X.K H' a ((κ i).map V.int)) E0)
  (hl:SqL X.K H0 l xs) (hne:0<xs.length) (hQ:∀i x H',xs[i]?=some x->Least κ xs.length i->Same H0 H'->Q x H') (I:Inv X pins σ H0 s) :
  Aw (AE X.prog X.w) X.A (call (.builtin "min") [.ref l] [(Aa "key",.ref f)]) (EP X pins σ Q) X.xe s:=by
 have nm:(Bg "min" ++ Bg ".loop" : String) = "min.loop":=by decide
 obtain⟨its,rv,pl,hz⟩:=I.list hl;have hlen:its.length=xs.length:=rv.length.symm;have hll:l<s.heap.objs.size:=by obtain⟨o,ho,_⟩:=pl.isList;exact AD ho
 refine kmk_tree PySem.F.kind_min PySem.F.plain_min PySem.F.entry_min (kmk_min_key _ _) ?_
 show Aw _ X.A.in1 (CS "min" ["key","default"] 0 ⟨[],[(Aa "key",.ref f)]⟩ >>= _) _ _ s;refine Ad (wpAny_of_eq (show CS "min" ["key","default"] 0 ⟨[],[(Aa "key",.ref f)]⟩=pure [some (.ref f),none] from rfl) ?_);refine Ad (Ak ?_);refine Ad (DM pl.isList ?_);refine Ad (wpAny_newList ?_ (AT _));rw[nm];refine Ak ⟨Dk Ba _,?_⟩;have keep:∀b o,s.heap.get? b=some o->((s.heap.push { cls:=.type "list_iterator",data:=.fields #[.ref l,.int 0 0] }).push (BH "list" #[] 0)).get? b=some o:=λb o e=>Ah _ (Ah _ e)
 have gi:((s.heap.push { cls:=.type "list_iterator",data:=.fields #[.ref l,.int 0 0] }).push (BH "list" #[] 0)).get? s.heap.objs.size=some { cls:=.type "list_iterator",data:=.fields #[.ref l,.int 0 0] }:=Ah _ (AC _ rfl);have hsS:(s.heap.push { cls:=.type "list_iterator",data:=.fields #[.ref l,.int 0 0] }).objs.size=s.heap.objs.size+1:=size_push' ..;have gs:((s.heap.push { cls:=.type "list_iterator",data:=.fields #[.ref l,.int 0 0] }).push (BH "list" #[] 0)).get? (s.heap.objs.size+1)=some (BH "list" #[] 0):=by rw[<- hsS];exact AC _ rfl
 rw[hsS];have I1:Inv X pins σ H0 { s with heap:=(s.heap.push { cls:=.type "list_iterator",data:=.fields #[.ref l,.int 0 0] }).push (BH "list" #[] 0) }:=I.kept (t':=s.toks) keep;have fi:FpOk X pins H0 s.heap.objs.size:=I.fpOk (Ai _) (I.hok.fresh (Ai _));have fs:FpOk X pins H0 (s.heap.objs.size+1):=I.fpOk (CG _) (I.hok.fresh (CG _));have M0:MK0 X pins σ H0 _ s.heap.objs.size (s.heap.objs.size+1) l 0:=⟨I1,fi,fs,Dc (Nat.lt_succ_self _),⟨_,gi,rfl,rfl⟩,⟨0,gs⟩⟩;have hli:l≠s.heap.objs.size:=A3 hll;have W:=Walks.list (prog:=X.prog) (w:=X.w) (A:=X.A.in1) hh s.heap.objs.size l hli its.toArray;refine DD Ci ?_
 rw[CF Ba _];show Aw _ X.A.in1 (seqItems? (.ref _) >>= _) _ _ _;refine Ad (DR gs rfl ?_);show Aw _ X.A.in1 (tryCatch (pyNext (.ref s.heap.objs.size)) _ >>= _) _ _ _;obtain⟨its2,rv2,pl2,_⟩:=I1.list hl;refine Ad (Cj (W.item 0 _ _ _ (by rw[As,hlen];exact hne) ⟨M0.iter,pl.isList.at λo e=>keep _ _ e⟩ λv h1 tk1 hP hst1 hk1=>?_));have hv:its[0]?=some v:=by simpa using hP
 obtain⟨x,hx⟩:∃x,xs[0]?=some x:=⟨_,Ab hne⟩;obtain⟨v',hv',rx⟩:=rv.get hx;rw[hv]at hv'
 cases hv'
 have M1:MK0 X pins σ H0 { s with heap:=h1,toks:=tk1 } s.heap.objs.size (s.heap.objs.size+1) l 1:=⟨I1.moved (t':=tk1) fi hk1,fi,fs,M0.ne,hst1.1,0,hk1 _ _ (by simp) gs⟩;show Aw _ X.A.in1 (tryCatch (holding [v] (call (.ref f) [v])) _ >>= _) _ _ _;refine Ad (Cj (Br (BR (zkj F hr hb M1 rx (turn 0 x H0 hx (Same.refl _)) (E:=λ_ _=>False)) (λkv s2 he=>?_) λ_ _ hF=>hF.elim)));obtain⟨y,H2,ry,⟨hS2,a2,ey,ka2⟩,M2⟩:=he;subst ey
 cases (show kv=Au a2 from ry)
 obtain⟨c2,hc2⟩:=M2.hold;show Aw _ X.A.in1 (updateSeq (s.heap.objs.size+1) (λ_=>#[v,.ref a2]) >>= _) _ _ _;refine Ad ?_
 refine DE hc2 rfl ?_
 rw[nm];refine Ak ⟨Dk Ba _,?_⟩
 exact DW (zkJ hh F hr hb turn hl hli hQ _ 0 0 H2 _ v _ a2 rfl hne hS2 M2.set hx rx ka2 (Ai _) (λj hj=>by
  have e:j=0:=by lia
  subst e;exact⟨HT.lexLt_irrefl _,λz=>absurd z (CU _)⟩)) λr s' hr'=>hr'
theorem zll{s:Af}(hh:X.A.handled=none)(hu:X.A.units + 1 < cLine)
  (turn:∀i x,xs[i]?=some x->∃a,x=.ref a/\SqT X.K H0 a ((κ i).map V.int))
  (hl:SqL X.K H0 l xs) (hne:0<xs.length) (hQ:∀i x H',xs[i]?=some x->Least κ xs.length i->Same H0 H'->Q x H') (I:Inv X pins σ H0 s) :
  Aw (AE X.prog X.w) X.A (call (.builtin "min") [.ref l] []) (EP X pins σ Q) X.xe s:=by
 have nm:(Bg "min" ++ Bg ".loop" : String) = "min.loop":=by decide
 obtain⟨its,rv,pl,hz⟩:=I.list hl;have hlen:its.length=xs.length:=rv.length.symm;have hll:l<s.heap.objs.size:=by obtain⟨o,ho,_⟩:=pl.isList;exact AD ho
 refine kmk_tree PySem.F.kind_min PySem.F.plain_min PySem.F.entry_min (zkK _) ?_
 show Aw _ X.A.in1 (CS "min" ["key","default"] 0 ⟨[],[]⟩ >>= _) _ _ s;refine Ad (wpAny_of_eq (show CS "min" ["key","default"] 0 ⟨[],[]⟩=pure [none,none] from rfl) ?_);refine Ad (Ak ?_);refine Ad (DM pl.isList ?_);refine Ad (wpAny_newList ?_ (AT _));rw[nm];refine Ak ⟨Dk Ba _,?_⟩;have keep:∀b o,s.heap.get? b=some o->((s.heap.push { cls:=.type "list_iterator",data:=.fields #[.ref l,.int 0 0] }).push (BH "list" #[] 0)).get? b=some o:=λb o e=>Ah _ (Ah _ e)
 have gi:((s.heap.push { cls:=.type "list_iterator",data:=.fields #[.ref l,.int 0 0] }).push (BH "list" #[] 0)).get? s.heap.objs.size=some { cls:=.type "list_iterator",data:=.fields #[.ref l,.int 0 0] }:=Ah _ (AC _ rfl);have hsS:(s.heap.push { cls:=.type "list_iterator",data:=.fields #[.ref l,.int 0 0] }).objs.size=s.heap.objs.size+1:=size_push' ..;have gs:((s.heap.push { cls:=.type "list_iterator",data:=.fields #[.ref l,.int 0 0] }).push (BH "list" #[] 0)).get? (s.heap.objs.size+1)=some (BH "list" #[] 0):=by rw[<- hsS];exact AC _ rfl
 rw[hsS];have I1:Inv X pins σ H0 { s with heap:=(s.heap.push { cls:=.type "list_iterator",data:=.fields #[.ref l,.int 0 0] }).push (BH "list" #[] 0) }:=I.kept (t':=s.toks) keep;have fi:FpOk X pins H0 s.heap.objs.size:=I.fpOk (Ai _) (I.hok.fresh (Ai _));have fs:FpOk X pins H0 (s.heap.objs.size+1):=I.fpOk (CG _) (I.hok.fresh (CG _));have M0:MK0 X pins σ H0 _ s.heap.objs.size (s.heap.objs.size+1) l 0:=⟨I1,fi,fs,Dc (Nat.lt_succ_self _),⟨_,gi,rfl,rfl⟩,⟨0,gs⟩⟩;have hli:l≠s.heap.objs.size:=A3 hll;have W:=Walks.list (prog:=X.prog) (w:=X.w) (A:=X.A.in1) hh s.heap.objs.size l hli its.toArray;refine DD Ci ?_
 rw[CF Ba _];show Aw _ X.A.in1 (seqItems? (.ref _) >>= _) _ _ _;refine Ad (DR gs rfl ?_);show Aw _ X.A.in1 (tryCatch (pyNext (.ref s.heap.objs.size)) _ >>= _) _ _ _;obtain⟨its2,rv2,pl2,_⟩:=I1.list hl;refine Ad (Cj (W.item 0 _ _ _ (by rw[As,hlen];exact hne) ⟨M0.iter,pl.isList.at λo e=>keep _ _ e⟩ λv h1 tk1 hP hst1 hk1=>?_));have hv:its[0]?=some v:=by simpa using hP
 obtain⟨x,hx⟩:∃x,xs[0]?=some x:=⟨_,Ab hne⟩;obtain⟨v',hv',rx⟩:=rv.get hx;rw[hv]at hv'
 cases hv'
 have M1:MK0 X pins σ H0 { s with heap:=h1,toks:=tk1 } s.heap.objs.size (s.heap.objs.size+1) l 1:=⟨I1.moved (t':=tk1) fi hk1,fi,fs,M0.ne,hst1.1,0,hk1 _ _ (by simp) gs⟩;obtain⟨a2,ex,ka2⟩:=turn 0 x hx;subst ex
 cases (show v=Au a2 from rx)
 have M2:=M1;show Aw _ X.A.in1 (pure (Au a2) >>= _) _ _ _;refine Ad (Ak ?_);obtain⟨c2,hc2⟩:=M2.hold;show Aw _ X.A.in1 (updateSeq (s.heap.objs.size+1) (λ_=>#[(.ref a2),.ref a2]) >>= _) _ _ _;refine Ad ?_
 refine DE hc2 rfl ?_
 rw[nm];refine Ak ⟨Dk Ba _,?_⟩
 exact DW (zkI hh hu turn hl hli hQ _ 0 0 H0 _ (.ref a2) _ a2 rfl hne (Same.refl _) M2.set hx rx ka2 (Ai _) (λj hj=>by
  have e:j=0:=by lia
  subst e;exact⟨HT.lexLt_irrefl _,λz=>absurd z (CU _)⟩)) λr s' hr'=>hr'
end
end L2
namespace RK
open PySem PySem.W PyProof.Rows
variable {n:Nat}{ans:Nat->Nat->Bool}
noncomputable def Pm(n:Nat)(p:Array Nat):Prop:=p.Perm (List.toArray (Bq n))
inductive Col:Value->Value->Int->Int->Prop where
 |int (a:Int) (t:Tok) (b:Int) (u:Tok):Col (.int a t) (.int b u) a b
 |bl (p q:Bool):Col (.bool p) (.bool q) (b2i p) (b2i q)
inductive Cols:List Value->List Value->List Int->List Int->Prop where
 |nil:Cols [] [] [] []
 |cons {u v:Value} {us vs:List Value} {a b:Int} {as bs:List Int}:Col u v a b->Cols us vs as bs->Cols (u::us) (v::vs) (a::as) (b::bs)
section
variable {prog:AF}{w:A7}{A:AS}{s:Af}{Q:Bool->Af->Prop}
theorem zmN{u v:Value}{a b:Int}(c:Col u v a b){E:Value->Af->Prop}(h:Q (decide (a=b)) s):Aw (AE prog w) A (eqBool u v) Q E s:=by
 cases c with
 |int _ t _ u =>
  refine wpAny_eqBool_int ?_
  rw[show (a == b)=decide (a=b) from by rw[Bool.beq_eq_decide_eq]];exact h
 |bl p q =>
  refine SeqAt.EqAt.bool_bool p q prog w E Q ?_
  have e:(p == q)=decide (b2i p=b2i q):=by cases p <;> cases q <;> decide
  rw[e];exact h
theorem zox{u v:Value}{a b:Int}(c:Col u v a b){E:Value->Af->Prop}(h:Q (decide (a<b)) s):Aw (AE prog w) A (oneLt' false u v) Q E s:=by
 cases c with
 |int _ t _ u=>exact kat_one _ _ (lt_int (show W.BoolBack Q (.bool (decide (a<b))) s from h))
 |bl p q=>exact kat_one _ _ (lt_bool (show W.BoolBack Q (.bool (decide (b2i p<b2i q))) s from h))
theorem ziU{bb:Bool}:∀{us vs:List Value}{as bs:List Int}(i:Nat),Cols us vs as bs->Q (HT.lexLt as bs) s->KatLex prog w A bb false Q (us.zip vs) (i+1) s
 |_,_,_,_,_,.nil,h=>kat_nil h
 |_,_,_,_,i,.cons (a:=a) (b:=b) (as:=as) (bs:=bs) c r,h=>by
  rw[HT.lexLt_cons]at h;refine kat_cons (zmN c ?_)
  by_cases e:a=b
  .rw[decide_eq_true e];rw[if_pos e]at h;exact kat_yes (ziU (i+1) r h)
  .rw[decide_eq_false e];rw[if_neg e]at h;refine kat_no ?_
   rw[show (bb && (i+1 == 0))=false by simp];exact zox c h
theorem kat_cols0{us vs:List Value}{as bs:List Int}{a b:Int}{t u:Tok}(r:Cols us vs as bs)(h:Q (HT.lexLt (a::as) (b::bs)) s):KatLex prog w A true false Q ((DG a t::us).zip (DG b u::vs)) 0 s:=by
 rw[HT.lexLt_cons]at h;refine kat_cons (zmN (.int a t b u) ?_)
 by_cases e:a=b
 .rw[decide_eq_true e];rw[if_pos e]at h;exact kat_yes (ziU 0 r h)
 .rw[decide_eq_false e];rw[if_neg e]at h;exact kat_no (oneLt_int h)
end
end RK
namespace L2
open PySem PySem.Spec PyProof.Rows
section
variable {X:Cx}{k:Nat}{f:Addr}{fd:BI}{ps:List Str}{sp:Sp}{pins:List (Addr×Obj)}{σ:St}{H0:Hp}{Q:VK}
theorem Inv.adopt{H:Hp}{s:Af}{D:Addr}{o:HO}{h':Heap}{t':Nat}(I:Inv X pins σ H s)(fb:FpOk X pins H D)(hk:∀b u, b ≠ D -> s.heap.get? b=some u -> h'.get? b=some u)(heo:∃u, h'.get? D=some u)
  (new:ObjOk X.prog X.w (upd H D o) h' D o):Inv X pins σ (upd H D o) { s with heap:=h',toks:=t' }:=by
 have hn:=fb.1;have nit:∀b u,H b=some u->b≠D:=λb u e z=>by rw[z,hn]at e;cases e
 refine I.step (g':=s.gens) (d':=s.drawn) (ch:=[D]) (λb hb=>?_) (λb u _ _ hc e _=>hk b u (λz=>hc (by simp[z])) e) (λb u _ _ hc e _=>⟨u.slots,hk b u (λz=>hc (by simp[z])) e⟩)
  (λb u hc _ n=>by rw[zai (λz=>hc (by simp[z]))];exact n)
  (λb u hc e=>⟨u,hk b u (λz=>hc (by simp[z])) e⟩) (λb xs e=>by rw[zai (nit _ _ e)];exact e) (λb u xs e=>by rw[zai (nit _ _ e)];exact e) (λb ps e=>⟨#[],by rw[zai (nit _ _ e),e];simp⟩) (λm hm=>?_) (λb u e=>?_) I.bare
 .have e:b=D:=by simpa using hb
  subst e;exact⟨fb.2.2.2.1,fb.2.1,fb.2.2.2.2.1,fb.2.2.2.2.2⟩
 .obtain⟨u,es,ep,ho,r⟩:=hm;exact⟨u,es,ep,hk _ u (Cz fb.2.1) ho,r⟩
 .by_cases hb:b=D
  .subst hb;rw[zaa]at e;cases e;exact new
  .rw[zai hb]at e;refine (I.hok b u e).stay (λc v hc q=>hk c v ?_ q) (λc q=>by rw[zai (nit _ _ q)];exact q) λc xs q=>by rw[zai (nit _ _ q)];exact q
   rcases hc with z |z
   .rw[z];exact nit b u e
   .exact nit c _ z
noncomputable def zi9(X:Cx)(σ:St)(H0:Hp)(f:Addr)(xs:List V)(κV:Nat->List V):Prop:=∀(pins:List (Addr×Obj)) (i:Nat) (x:V) (u:Value) (H:Hp) (s:Af),xs[i]?=some x->Same H0 H->Inv X pins σ H s->RelV x u ->
 Aw (AE X.prog X.w) X.A.in1.in1 (call (.ref f) [u]) (EP X pins σ λv H'=>Same H H'/\∃a,v=.ref a/\SqT X.K H' a (κV i)) (λ_ _=>False) s
inductive VCol:V->V->Int->Int->Prop where
 |int (a b:Int):VCol (.int a) (.int b) a b
 |bl (p q:Bool):VCol (.bl p) (.bl q) (b2i p) (b2i q)
inductive VCols:List V->List V->List Int->List Int->Prop where
 |nil:VCols [] [] [] []
 |cons {x y:V} {xs ys:List V} {a b:Int} {as bs:List Int}:VCol x y a b->VCols xs ys as bs->VCols (x::xs) (y::ys) (a::as) (b::bs)
theorem VCols.vals:∀{xs ys:List V}{as bs:List Int}{us vs:List Value},VCols xs ys as bs->Vals xs us->Vals ys vs->RK.Cols us vs as bs
  |_,_,_,_,_,_,.nil,.nil,.nil=>.nil
  |_, _, _, _, _, _, .cons c r, .cons h t, .cons g q => .cons (by
      cases c with
      |int a b=>obtain⟨t,rfl⟩:=h;obtain⟨u,rfl⟩:=g;exact .int _ _ _ _
      |bl p q=>cases h;cases g;exact .bl _ _) (r.vals t q)
structure SK (X:Cx) (pins:List (Addr×Obj)) (σ:St) (H:Hp) (s:Af) (D st:Addr) (e:Nat) (κV:Nat->List V) (ks:List Addr):Prop where
 inv:Inv X pins σ H s
 fd:FpOk X pins H D
 fs:FpOk X pins H st
 ne:st≠D
 hd:s.heap.get? D=some (BH "list" #[] e)
 hs:∃c,s.heap.get? st=some (BH "list" (ks.map Au).toArray c)
 hk:∀i a,ks[i]?=some a->SqT X.K H a (κV i)
theorem ziX{M:Ey}{A:AS}{E:Value -> Af -> Prop}{body:Value -> PUnit -> Sem (ForInStep PUnit)}{vs:List Value}(P:Nat -> Af -> Prop)
  (hb:∀i x s,vs[i]?=some x->P i s->Aw M A (body x ⟨⟩) (λr s'=>r=.yield ⟨⟩/\P (i+1) s') E s):∀(r:List Value) (i:Nat) (s:Af),vs.drop i=r->i<=vs.length->P i s ->
   Aw M A (forIn r PUnit.unit body) (λ_ s'=>P vs.length s') E s
 |[],i,s,hr,hi,h=>by
  rw[List.forIn_nil];have:vs.length<=i:=List.drop_eq_nil_iff.mp hr;exact Ak (by rw[show vs.length=i by lia];exact h)
 |x::r,i,s,hr,hi,h=>by
  have hx:vs[i]?=some x:=by have:=congrArg (·[0]?) hr;simpa using this
  have hlt:i<vs.length:=(Ae.mp hx).1;have hr':vs.drop (i+1)=r:=by rw[<- List.tail_drop,hr];rfl
  rw[List.forIn_cons];refine Ad (BR (hb i x s hx h) (λq s' hq=>?_) λ_ _ e=>e);obtain⟨rfl,h'⟩:=hq;exact ziX P hb r (i+1) s' hr' hlt h'
end
section
variable {X:Cx}{pins:List (Addr×Obj)}{σ:St}{H:Hp}{s:Af}{D st:Addr}{e:Nat}{κV:Nat->List V}{ks:List Addr}{E:Value->Af->Prop}
noncomputable def zja(X:Cx)(G:Array Nat->Prop)(ks vs:List Value)(E:Value->Af->Prop)(s:Af):Prop :=
 Aw (AE X.prog X.w) X.A.in1.in1 (keyKind' ks.toArray) (λκ s0=>s0=s /\
  Aw (AE X.prog X.w) X.A.in1.in1 ((sortRuns').run (SortSt.mk' κ (ks.toArray.zip vs.toArray) #[] 7 none)) (λr s'=>s'=s/\CH r.2=none/\∃p:Array Nat,G p/\p.size=vs.length/\Ax r.2=p.map (DS (ks.toArray.zip vs.toArray))) E s) E s
theorem zkX{as:List Addr}(I:Inv X pins σ H s):∀{ks:List Addr}{vs:List (List V)}{ns:List Int}, (∀(i:Nat) (a:Addr), ks[i]? = some a -> ∃n r, ns[i]? = some n /\ SqT X.K H a (.int n :: r)) -> ns.length=ks.length ->
  ∃fs:List Value,W.KatTups s.heap (ks.map Au) fs/\fs.length=ks.length/\∀v∈fs,∃n t,v=DG n t
 |[],_,_,_,_=>⟨[],.nil,rfl,λ_ h=>nomatch h⟩
 |a::r,vs,[],_,h=>by cases h
 |a::r,vs,n::ns,hk,h=>by
  obtain⟨m,q,e1,hq⟩:=hk 0 a rfl;obtain⟨fs,t,hl,hi⟩:=zkX (as:=as) (vs:=vs) I (ks:=r) (ns:=ns) (λi b hb=>by simpa using hk (i+1) b (by simpa using hb)) (by simpa using h);obtain⟨its,rv,⟨o,ho,hc,c,hd⟩,_⟩:=I.tuple hq
  cases rv with
  |cons rx rr =>
   obtain⟨t1,rfl⟩:=rx;refine⟨DG m t1::fs,.cons ho hc hd (by simp) t,by simp[hl],λv hv=>?_⟩;rcases AI.mp hv with rfl |hv
   .exact⟨_,_,rfl⟩
   .exact hi v hv
end
section
variable {X:Cx}{k:Nat}{f:Addr}{fd:BI}{ps:List Str}{sp:Sp}{pins:List (Addr×Obj)}{σ:St}{H0 H:Hp}{s:Af}{D st l:Addr}{e:Nat}{κV:Nat->List V}{ks:List Addr}{E:Value->Af->Prop}{G:Array Nat->Prop}{xs:List V}{vs:List Value}{Q:VK}
noncomputable def outV(xs:List V)(p:Array Nat):List V:=p.toList.map λi=>xs.getD i .non
theorem zjO{xs:List V}{vs:List Value}(r:Vals xs vs)(i:Nat)(hi:i<xs.length):RelV (xs.getD i .non) (vs.getD i BY):=by
 have hx:xs[i]?=some xs[i]:=by simp[hi]
 obtain⟨u,hu,ru⟩:=r.get hx;rw[Be,hx,Be,hu];exact ru
theorem zie{xs:List V}{vs:List Value}(r:Vals xs vs):∀(l:List Nat),(∀i∈l,i<xs.length)->Vals (l.map λi=>xs.getD i .non) (l.map λi=>vs.getD i BY)
 |[],_=>.nil
 |i::t,h=>.cons (zjO r i (h i AM)) (zie r t λj hj=>h j (AK _ hj))
theorem zhP{p:Array Nat}:(outV xs p).length=p.size:=by unfold outV;simp
theorem zm4{P:PySem.Fin -> Af -> Prop}{so:AQ}{out:List Value}{ys:List V}(K:SK X pins σ H s D st e κV ks)(hks:ks.length <= sizeLine)(ho:(Ax so).map (·.2)=out.toArray)(ry:Vals ys out)(hz:ys.length <= sizeLine)(hf:CH so=none)
  (h:∀s',Inv X pins σ (upd H D (.lst ys)) s'->P (.done (.ret .none)) s'):Aw (AE X.prog X.w) X.A.in1.in1 (ksk_tail D false e (.ref st) so) P E s:=by
 obtain⟨c,hc⟩:=K.hs;have hzo:out.length<=sizeLine:=by rw[<- ry.length];exact hz
 have s1:=BL s.heap st (A8 λ_=>(#[]:Array Value));have hd1:(s.heap.update st (A8 λ_=>(#[]:Array Value))).get? D=some (BH "list" #[] e):=(s1.2 D K.ne.symm).trans K.hd;have s2:=BL (s.heap.update st (A8 λ_=>(#[]:Array Value))) D (A8 λ_=>out.toArray);obtain⟨c2,hc2⟩:∃c2,((s.heap.update st (A8 λ_=>(#[]:Array Value))).update D (A8 λ_=>out.toArray)).get? D=some (BH "list" out.toArray c2):=⟨_,El hd1 λ_=>out.toArray⟩;unfold ksk_tail
 try dsimp only
 rw[ho];refine Ad (listUpdate_at hc rfl ?_ (by simpa using hks) (AT _));refine Ad (Ds ?_);refine Ad (seqEpoch_at hd1 rfl ?_);simp only[BO,if_false];refine Ad (listUpdate_at hd1 rfl ?_ (AT _) (by simp;lia));rw[hf];simp only[bne_self_eq_false,BO,if_false];refine Ak (h _ ?_);have I1:Inv X pins σ H { s with heap:=s.heap.update st (A8 λ_=>(#[]:Array Value)) }:=K.inv.moved (t':=s.toks) K.fs (λb o hb e=>(s1.2 b λz=>hb (by simp[z])).trans e);exact I1.adopt (t':=s.toks) K.fd (λb u hb q=>(s2.2 b hb).trans q) ⟨_,hc2⟩ ⟨hz,out,c2,ry,hc2⟩
theorem znT{P:PySem.Fin -> Af -> Prop}(K:SK X pins σ H s D st e κV ks)(hl:ks.length=vs.length)(r:Vals xs vs)(hz:xs.length <= sizeLine)(hG:∀p, G p -> ∀i ∈ p.toList, i < xs.length)
  (h0:vs.length<2->G (List.toArray (Bq vs.length))) (core:2<=vs.length->zja X G (ks.map Au) vs E s)
  (h:∀p s',G p->p.size=xs.length->Inv X pins σ (upd H D (.lst (outV xs p))) s'->P (.done (.ret .none)) s'):Aw (AE X.prog X.w) X.A.in1.in1 (ksk_end D false vs.toArray e (.ref st) (ks.map Au).toArray) P E s:=by
 have hlx:xs.length=vs.length:=r.length;have hl':(ks.map Au).length=vs.length:=by simp[hl]
 have fin:∀(p:Array Nat) (so:AQ),G p->p.size=vs.length->Ax so=p.map (DS ((ks.map Au).toArray.zip vs.toArray))->CH so=none->Aw (AE X.prog X.w) X.A.in1.in1 (ksk_tail D false e (.ref st) so) P E s:=λp so g hp ha hf =>
  zm4 K (by lia) (W.kat_snds hl' ha) (ys:=outV xs p) (zie r _ (hG p g)) (by rw[zhP];lia) hf λs' I'=>h p s' g (by lia) I'
 unfold ksk_end
 try dsimp only
 simp only[BO,if_false]
 by_cases h2:vs.length<2
 .have h2':vs.toArray.size<2:=by simpa using h2
  rw[if_pos h2',if_pos h2'];refine Ad (Ak ?_);show Aw (AE X.prog X.w) X.A.in1.in1 (pure ((),SortSt.mk' general' ((ks.map Au).toArray.zip vs.toArray) #[] 7 none) >>= _) P E s;refine Ad (Ak ?_)
  try dsimp only
  refine fin (List.toArray (Bq vs.length)) _ (h0 h2) (by simp) ?_ rfl;have:=W.kas_range ((ks.map Au).toArray.zip vs.toArray);rw[show ((ks.map Au).toArray.zip vs.toArray).size=vs.length by simp[hl]]at this;exact this.symm
 .have h2':¬ vs.toArray.size<2:=by simpa using h2
  rw[if_neg h2',if_neg h2'];refine Ad (BR (core (by lia)) (λκ s0 hk=>?_) λ_ _ z=>z);obtain⟨rfl,hk⟩:=hk;refine Ad (BR hk (λr' s' hr=>?_) λ_ _ z=>z);obtain⟨rfl,hf,p,g,hp,ha⟩:=hr;obtain⟨⟨⟩,so⟩:=r'
  try dsimp only
  exact fin p so g hp ha hf
theorem zm5{P:PySem.Fin -> Af -> Prop}(F:zi9 X σ H0 f xs κV)
    (K:SK X pins σ H0 s D st e κV []) (r:Vals xs vs) (hz:xs.length<=sizeLine)
    (h:∀H' s' ks,ks.length=vs.length->Same H0 H'->SK X pins σ H' s' D st e κV ks->Aw (AE X.prog X.w) X.A.in1.in1 (ksk_end D false vs.toArray e (.ref st) (ks.map Au).toArray) P E s') :
    Aw (AE X.prog X.w) X.A.in1.in1 (ksk_rest D (.ref f) false vs.toArray e (.ref st)) P E s:=by
  have hlx:xs.length=vs.length:=r.length;unfold ksk_rest;refine Ad (Dl ?_);rw[List.forIn_toArray];refine Ad (BR (ziX (vs:=vs) (λi s'=>∃H' ks,ks.length=i/\Same H0 H'/\SK X pins σ H' s' D st e κV ks) (λi x s1 hx hP=>?_) vs 0 s rfl (AT _) ⟨H0,[],rfl,Same.refl _,K⟩) (λ_ s' hd=>?_) λ_ _ z=>z)
  . obtain⟨H1,ks,hkl,hS,K1⟩:=hP;have hi:i<xs.length:=by rw[hlx];exact (Ae.mp hx).1
    have hxx:xs[i]?=some xs[i]:=by simp[hi]
    obtain⟨u,hu,ru⟩:=r.get hxx;rw[hx]at hu
    cases hu
    obtain⟨c,hc⟩:=K1.hs
    have I1:Inv X (pins ++ zdZ [D, st] s1.heap) σ H1 s1 := K1.inv.pinned (λb hb => by
        rcases AI.mp hb with rfl |hb
        . exact K1.fd
        . rw[Ao.mp hb];exact K1.fs) (λb hb=>by
        rcases AI.mp hb with rfl |hb
        . exact⟨_,K1.hd,zc5⟩
        . rw[Ao.mp hb];exact⟨_,hc,zc5⟩)
    refine Ad (wpAny_attempt (BR (F _ i _ _ H1 _ hxx hS I1 ru) (λv s2 hv=>?_) λ_ _ hF=>hF.elim));obtain⟨y,H2,I2,ry,hS2,a,ey,ka⟩:=hv;subst ey
    cases (show v=Au a from ry)
    have p1:=I2.pin (D,BH "list" #[] e) (At _ (At _ (za4 (by simp) K1.hd)));have p2:=I2.pin (st,BH "list" (ks.map Au).toArray c) (At _ (At _ (za4 (by simp) hc)));have sb:=BL s2.heap st (A8 (·.push (Au a)));have ea:(ks.map Au).toArray.push (Au a)=((ks++[a]).map Au).toArray:=by simp
    obtain⟨c2,hc2⟩:∃c2,(s2.heap.update st (A8 (·.push (Au a)))).get? st=some (BH "list" ((ks++[a]).map Au).toArray c2):=⟨_,by rw[<- ea];exact El p2.1 (·.push (Au a))⟩
    try dsimp only
    refine Ad (listUpdate_at p2.1 rfl ?_ (by simp;lia) (by simp;lia));refine Ak ⟨rfl,H2,ks++[a],by simp[hkl],hS.trans hS2,I2.unpinned.moved (t':=s2.toks) (K1.fs.again p2.2.1) (λb o hb e=>(sb.2 b λz=>hb (by simp[z])).trans e),K1.fd.again p1.2.1,K1.fs.again p2.2.1,K1.ne,(sb.2 D K1.ne.symm).trans p1.1,⟨c2,hc2⟩,λj b hj=>?_⟩;rcases Bl j ks.length with hjl |hjl
    . rw[Aj hjl]at hj;exact hS2.seqT (K1.hk j b hj)
    . rw[Ar hjl]at hj
      have hj0:j-ks.length=0:=by have:=(Ae.mp hj).1;simp at this;lia
      rw[hj0]at hj
      cases A0 hj
      rw[show j=i by lia];exact ka
  . obtain⟨H',ks,hkl,hS,K'⟩:=hd;obtain⟨c,hc⟩:=K'.hs
    try dsimp only
    refine Ad (listItems_at hc rfl ?_);exact h H' s' ks hkl hS K'
theorem zm3{P:PySem.Fin -> Af -> Prop}{c0:Nat}(F:zi9 X σ H0 f xs κV)
  (I:Inv X pins σ H0 s) (fb:FpOk X pins H0 D) (hd:s.heap.get? D=some (BH "list" vs.toArray c0)) (r:Vals xs vs) (hz:xs.length<=sizeLine)
  (h:∀e H' s' ks st,ks.length=vs.length->Same H0 H'->SK X pins σ H' s' D st e κV ks->Aw (AE X.prog X.w) X.A.in1.in1 (ksk_end D false vs.toArray e (.ref st) (ks.map Au).toArray) P E s') :
  Aw (AE X.prog X.w) X.A.in1.in1 (ksk_tree D (.ref f) false) P E s:=by
 have hlx:xs.length=vs.length:=r.length;have s1:=BL s.heap D (A8 λ_=>(#[]:Array Value));obtain⟨e1,ho1⟩:∃e1,(s.heap.update D (A8 λ_=>(#[]:Array Value))).get? D=some (BH "list" #[] e1):=⟨_,El hd λ_=>#[]⟩;have hDl:D<s.heap.objs.size:=AD hd;unfold ksk_tree;refine Ad (listItems_at hd rfl ?_);refine Ad (listUpdate_at hd rfl ?_ (by simp;lia) (AT _));refine Ad (seqEpoch_at ho1 rfl ?_);refine Ad (wpAny_newTuple ?_ (by simp;lia));refine Ad (wpAny_newList ?_ (AT _));refine Br ?_
 have I1:Inv X pins σ H0 { s with heap:=s.heap.update D (A8 λ_=>(#[]:Array Value)) }:=I.moved (t':=s.toks) fb (λb o hb e=>(s1.2 b λz=>hb (by simp[z])).trans e);have keep:∀b o,(s.heap.update D (A8 λ_=>(#[]:Array Value))).get? b=some o->(((s.heap.update D (A8 λ_=>(#[]:Array Value))).push (BH "tuple" vs.toArray.toList.toArray 0)).push (BH "list" #[] 0)).get? b=some o:=λb o q=>Ah _ (Ah _ q)
 have hsz:((s.heap.update D (A8 λ_=>(#[]:Array Value))).push (BH "tuple" vs.toArray.toList.toArray 0)).objs.size=s.heap.objs.size+1:=by rw[size_push',Heap.size_update]
 have I2:Inv X pins σ H0 { s with heap:=((s.heap.update D (A8 λ_=>(#[]:Array Value))).push (BH "tuple" vs.toArray.toList.toArray 0)).push (BH "list" #[] 0) }:=I1.kept (t':=s.toks) keep;show Aw (AE X.prog X.w) X.A.in1.in1 (ksk_rest D (.ref f) false vs.toArray _ (.ref ((s.heap.update D (A8 λ_=>(#[]:Array Value))).push (BH "tuple" vs.toArray.toList.toArray 0)).objs.size)) P E { s with heap:=((s.heap.update D (A8 λ_=>(#[]:Array Value))).push (BH "tuple" vs.toArray.toList.toArray 0)).push (BH "list" #[] 0) };rw[hsz];have hss:(((s.heap.update D (A8 λ_=>(#[]:Array Value))).push (BH "tuple" vs.toArray.toList.toArray 0)).push (BH "list" #[] 0)).get? (s.heap.objs.size+1)=some (BH "list" #[] 0):=by rw[<- hsz];exact AC _ rfl
 exact zm5 F ⟨I2,fb,I.fpOk (CG _) (I.hok.fresh (CG _)),Dc (Nat.lt_succ_of_lt hDl),keep _ _ ho1,⟨0,by simpa using hss⟩,λi a ha=>by simp at ha⟩ r hz λH' s' ks a b c=>h _ H' s' ks _ a b c
end
section
variable {X:Cx}{k:Nat}{f:Addr}{fd:BI}{ps:List Str}{sp:Sp}{pins:List (Addr×Obj)}{σ:St}{H0:Hp}{s:Af}{l:Addr}{κV:Nat->List V}{G:Array Nat->Prop}{xs:List V}{Q:VK}
theorem zjF(F:zi9 X σ H0 f xs κV)
  (hl:SqL X.K H0 l xs) (hG:∀p,G p->∀i∈p.toList,i<xs.length) (h0:xs.length<2->G (List.toArray (Bq xs.length)))
  (core:∀{vs:List Value} {ks:List Addr} {H':Hp} {s':Af} {D st:Addr} {e:Nat},Vals xs vs->SK X pins σ H' s' D st e κV ks->ks.length=vs.length->2<=vs.length->zja X G (ks.map Au) vs X.xe s')
  (hQ:∀p D H',G p->p.size=xs.length->H0 D=none->Same H0 H'->H' D=some (.lst (outV xs p))->Q (.ref D) H') (I:Inv X pins σ H0 s) :
  Aw (AE X.prog X.w) X.A (call (.builtin "sorted") [.ref l] [(Aa "key",.ref f)]) (EP X pins σ Q) X.xe s:=by
 obtain⟨vs,r,pl,hz⟩:=I.list hl;have hlx:xs.length=vs.length:=r.length;refine call_function_entry_kw kind_sorted plain_sorted entry_sorted (ksk_s1 _ _) ?_
 unfold Builtin.«sorted»;refine Ad (m:=checkCount "sorted" 1 1 _) (Ak ?_);refine Ad (collect_list pl.isList ?_ (by first |lia | (rw[As];lia) | (simp;lia)));refine Ad (wpAny_newList ?_ (by first |lia | (rw[As];lia) | (simp;lia)));have hsz:((s.heap.push (BH "list" #[] 0)).update s.heap.objs.size (A8 (·++vs.toArray))).objs.size=s.heap.objs.size+1:=by rw[Heap.size_update,size_push']
 have hoL:(((s.heap.push (BH "list" #[] 0)).update s.heap.objs.size (A8 (·++vs.toArray))).push (BH "list" vs.toArray 0)).get? (s.heap.objs.size+1)=some (BH "list" vs.toArray 0):=by rw[<- hsz];exact AC _ rfl
 have keep:∀b o,s.heap.get? b=some o->(((s.heap.push (BH "list" #[] 0)).update s.heap.objs.size (A8 (·++vs.toArray))).push (BH "list" vs.toArray 0)).get? b=some o:=λb o q=>by have hlt:b<s.heap.objs.size:=AD q;rw[Heap.get?_push_ne _ _ _ (by rw[hsz];exact A3 (Nat.lt_succ_of_lt hlt)),Heap.get?_update_ne _ _ _ _ (A3 hlt),Heap.get?_push_ne _ _ _ (A3 hlt)];exact q
 show Aw _ _ _ _ _ { s with heap:=((s.heap.push (BH "list" #[] 0)).update s.heap.objs.size (A8 (·++vs.toArray))).push (BH "list" vs.toArray 0) };rw[hsz];refine Ad (Br (wpAny_call_entry_kw slot_list_sort ⟨_,hoL,rfl⟩ entry_list_sort ?body (ksk_l1 _ _)))
 case body =>
  show Aw (AE X.prog X.w) X.A.in1.in1 (Builtin.«list.sort» ⟨[.ref (s.heap.objs.size+1)],[(Aa "key",.ref f)]⟩) _ _ _;rw[ksk_t1];have I1:Inv X pins σ H0 { s with heap:=((s.heap.push (BH "list" #[] 0)).update s.heap.objs.size (A8 (·++vs.toArray))).push (BH "list" vs.toArray 0) }:=I.kept (t':=s.toks) keep;have hDn:H0 (s.heap.objs.size+1)=none:=I.hok.fresh (CG _);refine zm3 F I1 (I.fpOk (CG _) hDn) hoL r hz λe H' s' ks st hks hS K=>?_
  refine znT K hks r hz hG (λh2=>by rw[<- hlx];exact h0 (by lia)) (core r K hks) λp s2 g hp I2=>⟨_,rfl,?_⟩
  refine Ak ⟨_,rfl,.ref (s.heap.objs.size+1),_,I2,rfl,hQ p _ _ g hp hDn (λb o q=>?_) zaa⟩;rw[zai (zal q hDn)];exact hS b o q
end
section
variable {X:Cx}{x:Str}{p pos kp kpos:Pos}{e:Expr}{te:TE}{k:Nat}{f:Addr}{fd:BI}{ps:List Str}{sp:Sp}{fn:Str}
noncomputable def tMinK(K:W.Frag)(te:TE)(sp:Sp):TE:=λσ H Q=>te σ H λv H1=>∃l xs,∃ κ:Nat->List Int,[v]=[V.ref l]/\SqL K H1 l xs/\0<xs.length /\
 (∀i x H2,xs[i]?=some x->Same H1 H2->sp [x] H2 (λv H'=>Same H2 H'/\∃a,v=.ref a/\SqT K H' a ((κ i).map V.int)) E0)/\∀i x H',xs[i]?=some x->Least κ xs.length i->Same H1 H'->Q x H'
theorem zni (F:FnOk X.prog X.w X.K X.mg X.base CX0 k f fd ps sp) (hr:Room (k + 1) X.A) (hb:Binds X.K fd ps []) (hg:Gl X "min") (hm:X.mg "min" = none) (hgf:Gl X fn) (hmf:X.mg fn=some (.ref f)) (he:PE X e te)
  (hdb:(fn == ("__debug__" : Str))=false:=by decide) (hse:Bw [e] X.env=[(false,eval e X.env)]:=by rfl) (hh:X.calm=true:=by rfl)
  (hall:(Ea pos (CV [⟨some "key",.Name fn kp,kpos⟩] X.env)).all (·.1.isSome)=true:=by rfl) (hkw:(Ea pos (CV [⟨some "key",.Name fn kp,kpos⟩] X.env)).any (·.1.isNone)=false:=by rfl)
  (hks:(Ea pos (CV [⟨some "key",.Name fn kp,kpos⟩] X.env)).filterMap (·.1)=[Aa "key"]:=by rfl) :
  PE X (.Call (.Name "min" p) [e] [⟨some "key",.Name fn kp,kpos⟩] pos) (tMinK X.K te sp):=by
 intro pins s σ H Q I h;refine Cs (zeN I hg hm boot_min ?_ (by decide) (by decide))
 refine callWith_kw (thn (zah he zab (hs:=hse) pos pins s σ H (λvs H1=>∃l xs,∃ κ:Nat->List Int,vs=[V.ref l]/\SqL X.K H1 l xs/\0<xs.length /\
  (∀i x H2,xs[i]?=some x->Same H1 H2->sp [x] H2 (λv H'=>Same H2 H'/\∃a,v=.ref a/\SqT X.K H' a ((κ i).map V.int)) E0)/\∀i x H',xs[i]?=some x->Least κ xs.length i->Same H1 H'->Q x H') I ?_) λus s1 ⟨vs,H1,I1,r,q⟩=>?_) (by rw[hse];rfl) (by rw[hse];rfl) hall hkw
 .show te σ H _;exact h
 .obtain⟨l,xs,κ,rfl,hq,hne,turn,hQ⟩:=q;obtain⟨u,rfl,ru⟩:=Vals.one r
  cases (show u=Au l from ru)
  refine thn (zkq (nm:=some "key") (kpos:=kpos) (zbA (v:=.ref f) hgf hmf rfl hdb) zmz pos pins s1 σ H1 (λzs H2=>zs=[.ref f]/\H2=H1) I1 ⟨rfl,rfl⟩) λws s2 ⟨zs,H2,I2,rz,q2⟩=>?_
  obtain⟨rfl,rfl⟩:=q2;obtain⟨u2,rfl,ru2⟩:=Vals.one rz
  cases (show u2=Au f from ru2)
  rw[hks];exact zln (I1.ok.hd hh) F hr hb turn hq hne hQ I2
theorem zlm (hu:X.A.units + 1 < cLine) (hh:X.calm=true):CallR X (.builtin "min") (λvs H Q => ∃l xs, ∃ κ : Nat -> List Int, vs = [.ref l] /\ SqL X.K H l xs /\ 0 < xs.length /\
  (∀i x,xs[i]?=some x->∃a,x=.ref a/\SqT X.K H a ((κ i).map V.int))/\∀i x H',xs[i]?=some x->Least κ xs.length i->Same H H'->Q x H'):=by
 intro pins s σ H vs us Q I r h;obtain⟨l,xs,κ,rfl,hq,hne,turn,hQ⟩:=h;obtain⟨u,rfl,ru⟩:=Vals.one r
 cases (show u=Au l from ru)
 exact zll (I.ok.hd hh) hu turn hq hne hQ I
end
end L2
namespace TS
open PySem PyProof.Rows
noncomputable def zcy:Bool->Keyed->Array Keyed->Nat->Nat->Nat->StateT AQ Sem (Option Nat):=sortPriv% PySem.Builtin.gallop
noncomputable def zgf:Array Keyed->Array Keyed->StateT AQ Sem (Array Keyed):=sortPriv% PySem.Builtin.mergeLo
noncomputable def zgg:Array Keyed->Array Keyed->StateT AQ Sem (Array Keyed):=sortPriv% PySem.Builtin.mergeHi
structure LtOk (M:Ey) (A:AS) (E:Value->Af->Prop) (s:Af) (kd:CZ) (S:Keyed->Prop) (L:Keyed->Keyed->Bool):Prop where
 lt:∀x y,S x->S y->∀(st:AQ) (Q:Option Bool->AQ->Prop),kindOf st=kd->Q (some (L x y)) st->wpS M A E s (lt' x y) Q st
 tr:∀x y z,S x->S y->S z->L y x=false->L z y=false->L z x=false
 as:∀x y,S x->S y->L x y=true->L y x=false
section
variable {M:Ey}{A:AS}{E:Value->Af->Prop}{s:Af}{kd:CZ}{S:Keyed->Prop}{L:Keyed->Keyed->Bool}
theorem zax{arr:Array Keyed}{i:Nat}{x:Keyed}{st:AQ}{Q:Keyed->AQ->Prop}(h:arr[i]?=some x)(q:Q x st):wpS M A E s (elem' arr i) Q st:=by rw[elem'_eq,h];exact Av q
theorem zbB (O : LtOk M A E s kd S L){left : Bool}{key : Keyed}{arr : Array Keyed}{base n hint : Nat}{b : Nat → Bool}{Q : Option Nat → AQ → Prop}{st : AQ}(hk : kindOf st = kd) (hS : S key)
    (hb:∀ i,i<n→∃ x,arr[base+i]?=some x∧S x∧(if left=true then L x key else !L key x)=b i) (mono:∀ i j,i≤j→j<n→b j=true→b i=true) (hh:hint<n)
    (hQ:∀ k,k≤n→(∀ i,i<k→b i=true)→(∀ i,k≤i→i<n→b i=false)→Q (some k) st):wpS M A E s (zcy left key arr base n hint) Q st:=by
  have bey : ∀ i, i < n → ∀ (Q' : Option Bool → AQ → Prop), Q' (some (b i)) st → wpS M A E s ((λi => do
        let x ← elem' arr (base+i)
        if left=true then lt' x key
          else do
            let r ← lt' key x
            pure (Option.map (λx=>!x) r)) i) Q' st:=λi hi Q' q=>by
    obtain⟨x,e,sx,eb⟩:=hb i hi
    refine Ap (zax e ?_)
    cases left with
    | true =>
      rw[if_pos rfl] at eb ⊢
      exact O.lt x key sx hS st Q' hk (by rw[eb];exact q)
    | false =>
      rw[if_neg (by simp)] at eb ⊢
      refine Ap (O.lt key x hS sx st _ hk (Av ?_))
      show Q' (some (!L key x)) st
      rw[eb];exact q
  refine Ap (bey hint hh _ ?_)
  dsimp only
  cases hbh:b hint with
  | true =>
    rw[if_pos rfl]
    refine Ap (Cp (BE (I:=λx c st'=>st'=st∧∃ la of,c=(none,la,of)∧la<n - hint∧la<of∧x+1≤of∧b (hint+la)=true)
      (Q:=λc st'=>st'=st∧∃ la of,c=(none,la,of)∧la<n - hint∧la<of∧b (hint+la)=true∧(of<n - hint→b (hint+of)=false)) ?_ ?_ ⟨rfl,0,1,rfl,by lia,by lia,by lia,hbh⟩) ?_)
    . rintro x c st' _ hx ⟨rfl,la,of,rfl,g1,g2,g3,g4⟩
      dsimp only
      by_cases hge:of ≥ n - hint
      . rw[if_pos hge]
        exact Av ⟨rfl,la,of,rfl,g1,g2,g4,λz=>absurd z (by lia)⟩
      . rw[if_neg hge]
        refine Ap (bey (hint+of) (by lia) _ ?_)
        dsimp only
        cases hbo:b (hint+of) with
        | true =>
          rw[if_neg (by simp)]
          exact Av ⟨rfl,of,2*of+1,rfl,by lia,by lia,by lia,hbo⟩
        | false =>
          rw[if_pos (by simp)]
          exact Av ⟨rfl,la,of,rfl,g1,g2,g4,λ_=>hbo⟩
    . rintro c st' ⟨rfl,la,of,rfl,g1,g2,g3,g4⟩
      exact⟨rfl,la,of,rfl,g1,g2,g4,λz=>absurd z (by simp at g3;lia)⟩
    . rintro c st' ⟨rfl,la,of,rfl,g1,g2,g3,g4⟩
      dsimp only
      have hlo:∀ i,i<hint+la+1→b i=true:=λi hi=>mono i (hint+la) (by lia) (by lia) g3
      have hhi:∀ i,hint+min of (n - hint)≤i→i<n→b i=false:=λi h1 h2=>by
        by_cases ho:of<n - hint
        . cases q:b i with
          | false=>rfl
          | true =>
            have:=mono (hint+of) i (by lia) h2 q
            rw[g4 ho] at this;cases this
        . exact absurd h2 (by lia)
      refine Ap (Cp (BE (I:=λx c z=>z=st'∧∃ lo hi,c=(none,lo,hi)∧lo≤hi∧hi≤n∧(hi - lo)+x≤n∧(∀ i,i<lo→b i=true)∧∀ i,hi≤i→i<n→b i=false)
        (Q:=λc z=>z=st'∧∃ k,c=(none,k,k)∧k≤n∧(∀ i,i<k→b i=true)∧∀ i,k≤i→i<n→b i=false) ?_ ?_ ⟨rfl,hint+la+1,hint+min of (n - hint),rfl,by lia,by lia,by lia,hlo,hhi⟩) ?_)
      . rintro x c st'' _ hx ⟨rfl,lo,hi,rfl,g1,g2,g3,g4,g5⟩
        dsimp only
        by_cases hge:lo ≥ hi
        . rw[if_pos hge]
          have e:lo=hi:=by lia
          subst e
          exact Av ⟨rfl,lo,rfl,g2,g4,g5⟩
        . rw[if_neg hge]
          have hm:lo+(hi - lo) / 2<n:=by lia
          refine Ap (bey _ hm _ ?_)
          dsimp only
          cases hbm:b (lo+(hi - lo) / 2) with
          | true =>
            rw[if_pos rfl]
            refine Av ⟨rfl,_,_,rfl,by lia,g2,by lia,λi hi'=>?_,g5⟩
            exact mono i _ (by lia) hm hbm
          | false =>
            rw[if_neg (by simp)]
            refine Av ⟨rfl,_,_,rfl,by lia,by lia,by lia,g4,λi hi1 hi2=>?_⟩
            cases q:b i with
            | false=>rfl
            | true=>rw[mono _ i hi1 hi2 q] at hbm;cases hbm
      . rintro c st'' ⟨rfl,lo,hi,rfl,g1,g2,g3,g4,g5⟩
        have e:lo=hi:=by simp at g3;lia
        subst e
        exact⟨rfl,lo,rfl,g2,g4,g5⟩
      . rintro c st'' ⟨rfl,k,rfl,g1,g2,g3⟩
        exact Av (hQ k g1 g2 g3)
  | false =>
    rw[if_neg (by simp)]
    refine Ap (Cp (BE (I:=λx c st'=>st'=st∧∃ la of,c=(none,la,of)∧la<hint+1∧la<of∧x+1≤of∧b (hint - la)=false)
      (Q:=λc st'=>st'=st∧∃ la of,c=(none,la,of)∧la<hint+1∧la<of∧b (hint - la)=false∧(of<hint+1→b (hint - of)=true)) ?_ ?_ ⟨rfl,0,1,rfl,by lia,by lia,by lia,hbh⟩) ?_)
    . rintro x c st' _ hx ⟨rfl,la,of,rfl,g1,g2,g3,g4⟩
      dsimp only
      by_cases hge:of ≥ hint+1
      . rw[if_pos hge]
        exact Av ⟨rfl,la,of,rfl,g1,g2,g4,λz=>absurd z (by lia)⟩
      . rw[if_neg hge]
        refine Ap (bey (hint - of) (by lia) _ ?_)
        dsimp only
        cases hbo:b (hint - of) with
        | true =>
          rw[if_pos rfl]
          exact Av ⟨rfl,la,of,rfl,g1,g2,g4,λ_=>hbo⟩
        | false =>
          rw[if_neg (by simp)]
          exact Av ⟨rfl,of,2*of+1,rfl,by lia,by lia,by lia,hbo⟩
    . rintro c st' ⟨rfl,la,of,rfl,g1,g2,g3,g4⟩
      exact⟨rfl,la,of,rfl,g1,g2,g4,λz=>absurd z (by simp at g3;lia)⟩
    . rintro c st' ⟨rfl,la,of,rfl,g1,g2,g3,g4⟩
      dsimp only
      have hlo:∀ i,i<hint+1 - min of (hint+1)→b i=true:=λi hi=>by
        by_cases ho:of<hint+1
        . exact mono i (hint - of) (by lia) (by lia) (g4 ho)
        . exact absurd hi (by lia)
      have hhi:∀ i,hint - la≤i→i<n→b i=false:=λi h1 h2=>by
        cases q:b i with
        | false=>rfl
        | true =>
          have:=mono (hint - la) i (by lia) h2 q
          rw[g3] at this;cases this
      refine Ap (Cp (BE (I:=λx c z=>z=st'∧∃ lo hi,c=(none,lo,hi)∧lo≤hi∧hi≤n∧(hi - lo)+x≤n∧(∀ i,i<lo→b i=true)∧∀ i,hi≤i→i<n→b i=false)
        (Q:=λc z=>z=st'∧∃ k,c=(none,k,k)∧k≤n∧(∀ i,i<k→b i=true)∧∀ i,k≤i→i<n→b i=false) ?_ ?_ ⟨rfl,hint+1 - min of (hint+1),hint - la,rfl,by lia,by lia,by lia,hlo,hhi⟩) ?_)
      . rintro x c st'' _ hx ⟨rfl,lo,hi,rfl,g1,g2,g3,g4,g5⟩
        dsimp only
        by_cases hge:lo ≥ hi
        . rw[if_pos hge]
          have e:lo=hi:=by lia
          subst e
          exact Av ⟨rfl,lo,rfl,g2,g4,g5⟩
        . rw[if_neg hge]
          have hm:lo+(hi - lo) / 2<n:=by lia
          refine Ap (bey _ hm _ ?_)
          dsimp only
          cases hbm:b (lo+(hi - lo) / 2) with
          | true =>
            rw[if_pos rfl]
            refine Av ⟨rfl,_,_,rfl,by lia,g2,by lia,λi hi'=>?_,g5⟩
            exact mono i _ (by lia) hm hbm
          | false =>
            rw[if_neg (by simp)]
            refine Av ⟨rfl,_,_,rfl,by lia,by lia,by lia,g4,λi hi1 hi2=>?_⟩
            cases q:b i with
            | false=>rfl
            | true=>rw[mono _ i hi1 hi2 q] at hbm;cases hbm
      . rintro c st'' ⟨rfl,lo,hi,rfl,g1,g2,g3,g4,g5⟩
        have e:lo=hi:=by simp at g3;lia
        subst e
        exact⟨rfl,lo,rfl,g2,g4,g5⟩
      . rintro c st'' ⟨rfl,k,rfl,g1,g2,g3⟩
        exact Av (hQ k g1 g2 g3)
end
end TS
namespace TS
section
variable {α:Type}{le:α->α->Prop}
structure MI (le:α->α->Prop) (a b out:List α) (ia ib:Nat):Prop where
 ha:ia<=a.length
 hb:ib<=b.length
 perm:(out++a.drop ia++b.drop ib).Perm (a++b)
 sorted:out.Pairwise le
 lea:∀x∈out,∀y∈a.drop ia,le x y
 leb:∀x∈out,∀y∈b.drop ib,le x y
theorem zc7(a:List α)(i k:Nat):a.drop i=(a.drop i).take k++a.drop (i+k):=by rw[<- List.drop_drop,Cq]
theorem MI.takeA{a b out:List α}{ia ib:Nat}(m:MI le a b out ia ib)(sa:a.Pairwise le)(k:Nat)(hk:ia + k <= a.length)(h:∀x ∈ (a.drop ia).take k, ∀y ∈ b.drop ib, le x y) :
  MI le a b (out++(a.drop ia).take k) (ia+k) ib:=by
 have e:=zc7 a ia k;have sd:((a.drop ia).take k++a.drop (ia+k)).Pairwise le:=by rw[<- e];exact sa.sublist (CL _ _)
 obtain⟨s1,s2,s3⟩:=AW.mp sd;refine⟨hk,m.hb,?_,AW.mpr ⟨m.sorted,s1,λx hx y hy=>m.lea x hx y ?_⟩,λx hx y hy=>?_,λx hx y hy=>?_⟩
 .have:=m.perm;rw[e]at this;simpa[AB]using this
 .rw[e];exact Bt _ hy
 .rcases Az.mp hx with q |q
  .exact m.lea x q y (by rw[e];exact At _ hy)
  .exact s3 x q y hy
 .rcases Az.mp hx with q |q
  .exact m.leb x q y hy
  .exact h x q y hy
theorem MI.takeB{a b out:List α}{ia ib:Nat}(m:MI le a b out ia ib)(sb:b.Pairwise le)(k:Nat)(hk:ib + k <= b.length)(h:∀x ∈ (b.drop ib).take k, ∀y ∈ a.drop ia, le x y) :
  MI le a b (out++(b.drop ib).take k) ia (ib+k):=by
 have e:=zc7 b ib k;have sd:((b.drop ib).take k++b.drop (ib+k)).Pairwise le:=by rw[<- e];exact sb.sublist (CL _ _)
 obtain⟨s1,s2,s3⟩:=AW.mp sd;refine⟨m.ha,hk,?_,AW.mpr ⟨m.sorted,s1,λx hx y hy=>m.leb x hx y ?_⟩,λx hx y hy=>?_,λx hx y hy=>?_⟩
 .have:=m.perm;rw[e]at this;refine List.Perm.trans ?_ this;rw[AB,AB,AB,<- AB ((b.drop ib).take k),<- AB (a.drop ia)];exact List.Perm.append_left _ (List.Perm.append_right _ C6)
 .rw[e];exact Bt _ hy
 .rcases Az.mp hx with q |q
  .exact m.lea x q y hy
  .exact h x q y hy
 .rcases Az.mp hx with q |q
  .exact m.leb x q y (by rw[e];exact At _ hy)
  .exact s3 x q y hy
noncomputable def Res(le:α->α->Prop)(a b r:List α):Prop:=r.Perm (a++b)/\r.Pairwise le
theorem MI.done{a b out:List α}{ia ib:Nat}(m:MI le a b out ia ib)(sa:a.Pairwise le)(h:b.length<=ib):Res le a b (out++a.drop ia++b.drop ib):=by refine⟨m.perm,?_⟩;rw[List.drop_of_length_le h,Bk];exact AW.mpr ⟨m.sorted,sa.sublist (CL _ _),m.lea⟩
theorem MI.lastA{a b out:List α}{ia ib:Nat}(m:MI le a b out ia ib)(sa:a.Pairwise le)(sb:b.Pairwise le)(h:∀x∈b.drop ib,∀y∈a.drop ia,le x y):Res le a b (out++b.drop ib++a.drop ia):=by
 refine⟨?_,?_⟩
 .refine List.Perm.trans ?_ m.perm;rw[AB,AB];exact List.Perm.append_left _ C6
 .refine AW.mpr ⟨AW.mpr ⟨m.sorted,sb.sublist (CL _ _),m.leb⟩,sa.sublist (CL _ _),λx hx y hy=>?_⟩;rcases Az.mp hx with q |q
  .exact m.lea x q y hy
  .exact h x q y hy
theorem MI.start{a b:List α}{y:α}(sb:b.Pairwise le)(h0:b[0]?=some y)(h:∀x∈a,le y x):MI le a b [y] 0 1:=by
 cases b with
 |nil=>cases h0
 |cons z r =>
  cases h0
  obtain⟨s1,s2⟩:=List.pairwise_cons.mp sb;refine⟨AT _,by simp,?_,by simp,λx hx w hw=>?_,λx hx w hw=>?_⟩
  .show ([y]++a++r).Perm (a++y::r);exact List.perm_middle.symm
  .rw[Ao.mp hx];exact h w hw
  .rw[Ao.mp hx];exact s1 w hw
end
end TS
namespace TS
open PySem PyProof.Rows
noncomputable def Like(st st':AQ):Prop:=kindOf st'=kindOf st/\Ax st'=Ax st/\AU st'=AU st/\CH st'=CH st
theorem Like.refl(st:AQ):Like st st:=⟨rfl,rfl,rfl,rfl⟩
noncomputable abbrev leOf(L:Keyed->Keyed->Bool):Keyed->Keyed->Prop:=λx y=>L y x=false
section
variable {M:Ey}{A:AS}{E:Value->Af->Prop}{s:Af}{kd:CZ}{S:Keyed->Prop}{L:Keyed->Keyed->Bool}
theorem LtOk.rf(O:LtOk M A E s kd S L){x:Keyed}(h:S x):L x x=false:=by
 cases q:L x x with
 |false=>rfl
 |true=>rw[O.as x x h h q]at q;cases q
structure Two (S:Keyed->Prop) (L:Keyed->Keyed->Bool) (a b:Array Keyed):Prop where
 sa:a.toList.Pairwise (leOf L)
 sb:b.toList.Pairwise (leOf L)
 Sa:∀x∈a.toList,S x
 Sb:∀x∈b.toList,S x
theorem zas{a:Array Keyed}{i:Nat}{x:Keyed}(h:a[i]?=some x):x∈a.toList:=by
 have:a.toList[i]?=some x:=by simpa using h
 exact An this
theorem zce{a:Array Keyed}{i:Nat}{x:Keyed}(h:a[i]?=some x):a.toList.drop i=x::a.toList.drop (i+1):=by
 have hl:i<a.toList.length:=by have:=(BC.mp h).1;simpa using this
 rw[D1 hl]
 congr 1
 have:=(BC.mp h).2;simpa using this
theorem zcY{a:Array Keyed}(O:LtOk M A E s kd S L)(sa:a.toList.Pairwise (leOf L))(Sa:∀x∈a.toList,S x){i:Nat}{x y:Keyed}(h:a[i]?=some x)(hy:y∈a.toList.drop i):leOf L x y:=by
 rw[zce h]at hy;rcases AI.mp hy with e |q
 .rw[e];exact O.rf (Sa x (zas h))
 .have:=sa.sublist (CL i _);rw[zce h]at this;exact (List.pairwise_cons.mp this).1 y q
variable {a b:Array Keyed}{out:Array Keyed}{ia ib:Nat}
theorem one_B(O:LtOk M A E s kd S L)(T:Two S L a b)(m:MI (leOf L) a.toList b.toList out.toList ia ib){x y:Keyed}(hb:b[ib]? = some x)(ha:a[ia]? = some y)(h:L x y=true) :
  MI (leOf L) a.toList b.toList (out.push x).toList ia (ib+1):=by
 have e:(b.toList.drop ib).take 1=[x]:=by rw[zce hb];rfl
 have hl:ib+1<=b.toList.length:=by have:=(BC.mp hb).1;rw[AN];exact this
 have:=m.takeB T.sb 1 hl λz hz w hw=>by rw[e]at hz;rw[Ao.mp hz];have h1:leOf L x y:=O.as x y (T.Sb x (zas hb)) (T.Sa y (zas ha)) h;exact O.tr x y w (T.Sb x (zas hb)) (T.Sa y (zas ha)) (T.Sa w (By hw)) h1 (zcY O T.sa T.Sa ha hw)
 rw[e]at this;rw[Dg];exact this
theorem one_A(O:LtOk M A E s kd S L)(T:Two S L a b)(m:MI (leOf L) a.toList b.toList out.toList ia ib){x y:Keyed}(hb:b[ib]? = some x)(ha:a[ia]? = some y)(h:L x y=false) :
  MI (leOf L) a.toList b.toList (out.push y).toList (ia+1) ib:=by
 have e:(a.toList.drop ia).take 1=[y]:=by rw[zce ha];rfl
 have hl:ia+1<=a.toList.length:=by have:=(BC.mp ha).1;rw[AN];exact this
 have:=m.takeA T.sa 1 hl λz hz w hw=>by rw[e]at hz;rw[Ao.mp hz];exact O.tr y x w (T.Sa y (zas ha)) (T.Sb x (zas hb)) (T.Sb w (By hw)) h (zcY O T.sb T.Sb hb hw)
 rw[e]at this;rw[Dg];exact this
theorem zc2(a:Array Keyed)(i k:Nat):(a.extract i (i+k)).toList=(a.toList.drop i).take k:=by rw[CI,BZ,Nat.add_sub_cancel_left]
theorem zgi{a:Array Keyed}{i k:Nat}{x:Keyed}(h:x∈(a.toList.drop i).take k):∃j,j<k/\a[i+j]?=some x:=by
 obtain⟨j,hj,e⟩:=A6 h
 have hk:j<k:=by have:=hj;rw[AA]at this;lia
 refine⟨j,hk,?_⟩;have h1:((a.toList.drop i).take k)[j]?=some x:=by rw[Ab hj,e]
 rw[List.getElem?_take_of_lt hk,Et]at h1;simpa using h1
theorem blk_A(O:LtOk M A E s kd S L)(T:Two S L a b)(m:MI (leOf L) a.toList b.toList out.toList ia ib){x:Keyed}(hb:b[ib]? = some x)(k:Nat)(hk:ia + k <= a.size)(h:∀j y, j < k -> a[ia + j]? = some y -> L x y=false) :
  MI (leOf L) a.toList b.toList (out++a.extract ia (ia+k)).toList (ia+k) ib:=by
 rw[Bp,zc2];refine m.takeA T.sa k (by rw[AN];exact hk) λz hz w hw=>?_
 obtain⟨j,hj,e⟩:=zgi hz;exact O.tr z x w (T.Sa z (zas e)) (T.Sb x (zas hb)) (T.Sb w (By hw)) (h j z hj e) (zcY O T.sb T.Sb hb hw)
theorem blk_B(O:LtOk M A E s kd S L)(T:Two S L a b)(m:MI (leOf L) a.toList b.toList out.toList ia ib){y:Keyed}(ha:a[ia]? = some y)(k:Nat)(hk:ib + k <= b.size)(h:∀j x, j < k -> b[ib + j]? = some x -> L x y=true) :
  MI (leOf L) a.toList b.toList (out++b.extract ib (ib+k)).toList ia (ib+k):=by
 rw[Bp,zc2];refine m.takeB T.sb k (by rw[AN];exact hk) λz hz w hw=>?_
 obtain⟨j,hj,e⟩:=zgi hz;exact O.tr z y w (T.Sb z (zas e)) (T.Sa y (zas ha)) (T.Sa w (By hw)) (O.as z y (T.Sb z (zas e)) (T.Sa y (zas ha)) (h j z hj e)) (zcY O T.sa T.Sa ha hw)
theorem znW(O:LtOk M A E s kd S L)(T:Two S L a b){st:AQ}(hk:kindOf st=kd){x:Keyed}(Sx:S x)(hi:ia < a.size){Q:Option Nat -> AQ -> Prop}
  (hQ:∀k,ia+k<=a.size->(∀j y,j<k->a[ia+j]?=some y->L x y=false)->(∀j y,k<=j->a[ia+j]?=some y->L x y=true)->Q (some k) st) {hint:Nat} (hh:hint<a.size-ia) :
  wpS M A E s (zcy false x a ia (a.size-ia) hint) Q st:=by
 have at_:∀i,i<a.size-ia->∃y,a[ia+i]?=some y:=λi h=>⟨a[ia+i],by simp[show ia+i<a.size by lia]⟩
 refine zbB (b:=λi=>!(a[ia+i]?.elim false λy=>L x y)) O hk Sx (λi h=>?_) (λi j hij hj q=>?_) hh λk h1 h2 h3=>?_
 .obtain⟨y,e⟩:=at_ i h;exact⟨y,e,T.Sa y (zas e),by rw[if_neg (by simp),e];rfl⟩
 .obtain⟨y,e⟩:=at_ j hj;obtain⟨z,e2⟩:=at_ i (by lia);rw[e]at q;rw[e2];have q1:L x y=false:=by simpa using q
  have le1:leOf L z y:=zcY O T.sa T.Sa e2 (by
   have:y∈(a.toList.drop (ia+i)).drop (j-i):=by rw[List.drop_drop,show ia+i+(j-i)=ia+j by lia,zce e];exact AM
   exact By this)
  have:L x z=false:=O.tr z y x (T.Sa z (zas e2)) (T.Sa y (zas e)) Sx le1 q1;simpa using this
 .refine hQ k (by lia) (λj y hj e=>?_) (λj y hj e=>?_)
  .have:=h2 j hj;rw[e]at this;simpa using this
  .have hlt:j < a.size-ia := by have:=(BC.mp e).1;lia
   have:=h3 j hj hlt;rw[e]at this;simpa using this
theorem znV(O:LtOk M A E s kd S L)(T:Two S L a b){st:AQ}(hk:kindOf st=kd){y:Keyed}(Sy:S y)(hi:ib < b.size){Q:Option Nat -> AQ -> Prop}
  (hQ:∀k,ib+k<=b.size->(∀j x,j<k->b[ib+j]?=some x->L x y=true)->(∀j x,k<=j->b[ib+j]?=some x->L x y=false)->Q (some k) st) {hint:Nat} (hh:hint<b.size-ib) :
  wpS M A E s (zcy true y b ib (b.size-ib) hint) Q st:=by
 have at_:∀i,i<b.size-ib->∃x,b[ib+i]?=some x:=λi h=>⟨b[ib+i],by simp[show ib+i<b.size by lia]⟩
 refine zbB (b:=λi=>b[ib+i]?.elim false λx=>L x y) O hk Sy (λi h=>?_) (λi j hij hj q=>?_) hh λk h1 h2 h3=>?_
 .obtain⟨x,e⟩:=at_ i h;exact⟨x,e,T.Sb x (zas e),by rw[if_pos rfl,e];rfl⟩
 .obtain⟨x,e⟩:=at_ j hj;obtain⟨z,e2⟩:=at_ i (by lia);rw[e]at q;rw[e2];have q1:L x y=true:=q;show L z y=true
  have le1:leOf L z x:=zcY O T.sb T.Sb e2 (by
   have:x∈(b.toList.drop (ib+i)).drop (j-i):=by rw[List.drop_drop,show ib+i+(j-i)=ib+j by lia,zce e];exact AM
   exact By this)
  cases w:L z y with
  |true=>rfl
  |false =>
   have:L x y=false:=O.tr y z x Sy (T.Sb z (zas e2)) (T.Sb x (zas e)) w le1;rw[this]at q1;cases q1
 .refine hQ k (by lia) (λj x hj e=>?_) (λj x hj e=>?_)
  .have:=h2 j hj;rw[e]at this;exact this
  .have hlt:j < b.size-ib := by have:=(BC.mp e).1;lia
   have:=h3 j hj hlt;rw[e]at this;exact this
end
end TS
set_option maxHeartbeats 8000000
namespace TS
open PySem PyProof.Rows
section
variable {M:Ey}{A:AS}{E:Value->Af->Prop}{s:Af}{kd:CZ}{S:Keyed->Prop}{L:Keyed->Keyed->Bool}{a b out:Array Keyed}{ia ib:Nat}
theorem zby(a:Array Keyed)(i:Nat):(a.extract i a.size).toList=a.toList.drop i:=by rw[CI,BZ,Bx (by simp)]
theorem zep(T:Two S L a b)(m:MI (leOf L) a.toList b.toList out.toList ia ib)(h:b.size<=ib):Res (leOf L) a.toList b.toList (out++a.extract ia a.size++b.extract ib b.size).toList:=by rw[Bp,Bp,zby,zby];exact m.done T.sa (by rw[AN];exact h)
theorem zk5(T:Two S L a b)(m:MI (leOf L) a.toList b.toList out.toList ia ib)(h:a.size<=ia):Res (leOf L) a.toList b.toList (out++a.extract ia a.size++b.extract ib b.size).toList:=by rw[Bp,Bp,zby,zby];have e:a.toList.drop ia=[]:=List.drop_of_length_le (by rw[AN];exact h);refine⟨m.perm,?_⟩;rw[e,Bk];exact AW.mpr ⟨m.sorted,T.sb.sublist (CL _ _),m.leb⟩
theorem zeo(T:Two S L a b)(hl:∀z,a[a.size-1]?=some z->∀x∈b.toList,leOf L x z)(m:MI (leOf L) a.toList b.toList out.toList ia ib)(h:ia+1=a.size):Res (leOf L) a.toList b.toList (out++b.extract ib b.size++a.extract ia a.size).toList:=by
 rw[Bp,Bp,zby,zby];have hlt:ia<a.size:=by lia
 have e:a[ia]?=some a[ia]:=by simp[hlt]
 refine m.lastA T.sa T.sb λx hx y hy=>?_
 rw[zce e,List.drop_of_length_le (by rw[AN];lia)]at hy;rw[Ao.mp hy];exact hl _ (by rw[show a.size-1=ia by lia];exact e) x (By hx)
theorem Like.tr{x y z:AQ}(h:Like x y)(k:Like y z):Like x z:=⟨k.1.trans h.1,k.2.1.trans h.2.1,k.2.2.1.trans h.2.2.1,k.2.2.2.trans h.2.2.2⟩
noncomputable def zfq:Nat->StateT AQ Sem Unit:=sortPriv% PySem.Builtin.setMinGallop
noncomputable abbrev LH:=Option (Array Keyed)×Array Keyed×Nat×Nat×Nat×Nat×Nat
noncomputable def loC(a b out:Array Keyed)(ia ib mg ac bc:Nat):StateT AQ Sem (ForInStep LH) :=
 elem' a ia >>= λx =>
  if (ia+1+1 == a.size)=true then pure (.done (some (out.push x++b.extract ib b.size++a.extract (ia+1) a.size),out.push x,ia+1,ib,mg,ac,bc))
  else if (decide (ac<7) && decide (bc<7))=true then pure (.done (none,out.push x,ia+1,ib,mg,ac,bc))
  else pure (.yield (none,out.push x,ia+1,ib,mg,ac,bc))
noncomputable def loB(a b out:Array Keyed)(ia ib mg ac bc:Nat):StateT AQ Sem (ForInStep LH) :=
 elem' b ib >>= λx =>
  if (ib+1 == b.size)=true then pure (.done (some (out.push x++a.extract ia a.size++b.extract (ib+1) b.size),out.push x,ia,ib+1,mg,ac,bc))
  else elem' a ia >>= λy=>zcy true y b (ib+1) (b.size-(ib+1)) 0 >>= λw =>
   match w with
   |some k =>
    if k > 0 then
     if (ib+1+k == b.size)=true then pure (.done (some (out.push x++b.extract (ib+1) (ib+1+k)++a.extract ia a.size++b.extract (ib+1+k) b.size),out.push x++b.extract (ib+1) (ib+1+k),ia,ib+1+k,mg,ac,k))
     else loC a b (out.push x++b.extract (ib+1) (ib+1+k)) ia (ib+1+k) mg ac k
    else loC a b (out.push x) ia (ib+1) mg ac k
   |_=>pure (.done (some (out.push x++a.extract ia a.size++b.extract (ib+1) b.size),out.push x,ia,ib+1,mg,ac,bc))
noncomputable def loA(a b out:Array Keyed)(ia ib mg ac bc:Nat):StateT AQ Sem (ForInStep LH) :=
 elem' b ib >>= λx=>zcy false x a ia (a.size-ia) 0 >>= λw =>
  match w with
  |some k =>
   if k > 0 then
    if (ia+k+1 == a.size)=true then pure (.done (some (out++a.extract ia (ia+k)++b.extract ib b.size++a.extract (ia+k) a.size),out++a.extract ia (ia+k),ia+k,ib,mg,k,bc))
    else if (ia+k == a.size)=true then pure (.done (some (out++a.extract ia (ia+k)++a.extract (ia+k) a.size++b.extract ib b.size),out++a.extract ia (ia+k),ia+k,ib,mg,k,bc))
    else loB a b (out++a.extract ia (ia+k)) (ia+k) ib mg k bc
   else loB a b out ia ib mg k bc
  |_=>pure (.done (some (out++a.extract ia a.size++b.extract ib b.size),out,ia,ib,mg,ac,bc))
noncomputable def loG(a b:Array Keyed)(c:LH):StateT AQ Sem (ForInStep LH) :=
 if c.2.2.2.2.1 > 1 then zfq (c.2.2.2.2.1-1) >>= λ_=>loA a b c.2.1 c.2.2.1 c.2.2.2.1 (c.2.2.2.2.1-1) c.2.2.2.2.2.1 c.2.2.2.2.2.2
 else zfq c.2.2.2.2.1 >>= λ_=>loA a b c.2.1 c.2.2.1 c.2.2.2.1 c.2.2.2.2.1 c.2.2.2.2.2.1 c.2.2.2.2.2.2
noncomputable abbrev LI:=Option (Array Keyed)×Array Keyed×Nat×Nat×Nat×Nat
noncomputable def loI(a b:Array Keyed)(mg:Nat)(c:LI):StateT AQ Sem (ForInStep LI) :=
 elem' b c.2.2.2.1 >>= λx=>elem' a c.2.2.1 >>= λy=>lt' x y >>= λw =>
  match w with
  |some v =>
   if v=true then elem' b c.2.2.2.1 >>= λx =>
    if (c.2.2.2.1+1 == b.size)=true then pure (.done (some (c.2.1.push x++a.extract c.2.2.1 a.size++b.extract (c.2.2.2.1+1) b.size),c.2.1.push x,c.2.2.1,c.2.2.2.1+1,0,c.2.2.2.2.2+1))
    else if c.2.2.2.2.2+1 ≥ mg then pure (.done (none,c.2.1.push x,c.2.2.1,c.2.2.2.1+1,0,c.2.2.2.2.2+1))
    else pure (.yield (none,c.2.1.push x,c.2.2.1,c.2.2.2.1+1,0,c.2.2.2.2.2+1))
   else elem' a c.2.2.1 >>= λy =>
    if (c.2.2.1+1+1 == a.size)=true then pure (.done (some (c.2.1.push y++b.extract c.2.2.2.1 b.size++a.extract (c.2.2.1+1) a.size),c.2.1.push y,c.2.2.1+1,c.2.2.2.1,c.2.2.2.2.1+1,0))
    else if c.2.2.2.2.1+1 ≥ mg then pure (.done (none,c.2.1.push y,c.2.2.1+1,c.2.2.2.1,c.2.2.2.2.1+1,0))
    else pure (.yield (none,c.2.1.push y,c.2.2.1+1,c.2.2.2.1,c.2.2.2.2.1+1,0))
  |_=>pure (.done (some (c.2.1++a.extract c.2.2.1 a.size++b.extract c.2.2.2.1 b.size),c.2.1,c.2.2.1,c.2.2.2.1,c.2.2.2.2.1,c.2.2.2.2.2))
noncomputable abbrev LO:=Option (Array Keyed)×Array Keyed×Nat×Nat×Nat
noncomputable def loP(a b:Array Keyed)(mg:Nat)(c:LI):StateT AQ Sem (ForInStep LO) :=
 C0 (λ_=>StateT AQ Sem (ForInStep LO)) c.1 (λr=>pure (.done (some r,c.2.1,c.2.2.1,c.2.2.2.1,mg))) λ_=>(liftM (rule "list.sort.gallop"):StateT AQ Sem Unit) >>= λ_=>forIn [:a.size+b.size] ((none,c.2.1,c.2.2.1,c.2.2.2.1,mg+1,c.2.2.2.2.1,c.2.2.2.2.2):LH) (λ_ c=>loG a b c) >>= λc =>
  C0 (λ_=>StateT AQ Sem (ForInStep LO)) c.1 (λr=>pure (.done (some r,c.2.1,c.2.2.1,c.2.2.2.1,c.2.2.2.2.1))) λ_=>zfq (c.2.2.2.2.1+1) >>= λ_=>pure (.yield (none,c.2.1,c.2.2.1,c.2.2.2.1,c.2.2.2.2.1+1))
noncomputable def loO(a b:Array Keyed)(c:LO):StateT AQ Sem (ForInStep LO) :=
 forIn [:a.size+b.size] ((none,c.2.1,c.2.2.1,c.2.2.2.1,0,0):LI) (λ_ d=>loI a b c.2.2.2.2 d) >>= λd=>loP a b c.2.2.2.2 d
noncomputable def zlR(a b:Array Keyed):StateT AQ Sem (Array Keyed) :=
 (liftM (rule "list.sort.merge-lo"):StateT AQ Sem Unit) >>= λ_=>elem' b 0 >>= λx =>
  if (1 == b.size)=true then pure (#[x]++a.extract 0 a.size++b.extract 1 b.size)
  else if (0+1 == a.size)=true then pure (#[x]++b.extract 1 b.size++a.extract 0 a.size)
  else get >>= λs=>forIn [:a.size+b.size] ((none,#[x],0,1,gallopOf s):LO) (λ_ c=>loO a b c) >>= λc =>
   C0 (λ_=>StateT AQ Sem (Array Keyed)) c.1 (λr=>pure r) λ_=>unsupported "internal:list.sort.merge-bound"
theorem zjy(a b:Array Keyed):zgf a b=zlR a b:=rfl
variable {Q:ForInStep LH->AQ->Prop}{z:AQ}{N mg ac bc:Nat}{x y:Keyed}
theorem ziP(O:LtOk M A E s kd S L)(T:Two S L a b)(hl:∀z, a[a.size-1]? = some z -> ∀x ∈ b.toList, leOf L x z)(hD:∀r out ia ib mg ac bc, Res (leOf L) a.toList b.toList r.toList -> Q (.done (some r, out, ia, ib, mg, ac, bc)) z)
  (hN:∀out ia ib mg ac bc,MI (leOf L) a.toList b.toList out.toList ia ib->ia+1<a.size->ib<b.size->N<=ia+ib->Q (.done (none,out,ia,ib,mg,ac,bc)) z/\Q (.yield (none,out,ia,ib,mg,ac,bc)) z)
  (m:MI (leOf L) a.toList b.toList out.toList ia ib) (ea:a[ia]?=some y) (eb:b[ib]?=some x) (hw:L x y=false) (g1:ia+1<a.size) (g2:ib<b.size) (g3:N<=ia+ib) :
  wpS M A E s (loC a b out ia ib mg ac bc) Q z:=by
 have n4:=one_A O T m eb ea hw;refine Ap (zax ea ?_)
 by_cases e:ia+1+1=a.size
 .rw[if_pos (by simp[e])];exact Av (hD _ _ _ _ _ _ _ (zeo T hl n4 (by lia)))
 rw[if_neg (by simp[e])];have h:=hN _ _ _ mg ac bc n4 (by lia) g2 (by lia);split
 .exact Av h.1
 .exact Av h.2
theorem ziQ(O:LtOk M A E s kd S L)(T:Two S L a b)(hk:kindOf z=kd)(hl:∀z, a[a.size-1]? = some z -> ∀x ∈ b.toList, leOf L x z)(hD:∀r out ia ib mg ac bc, Res (leOf L) a.toList b.toList r.toList -> Q (.done (some r, out, ia, ib, mg, ac, bc)) z)
  (hN:∀out ia ib mg ac bc,MI (leOf L) a.toList b.toList out.toList ia ib->ia+1<a.size->ib<b.size->N<=ia+ib->Q (.done (none,out,ia,ib,mg,ac,bc)) z/\Q (.yield (none,out,ia,ib,mg,ac,bc)) z)
  (m:MI (leOf L) a.toList b.toList out.toList ia ib) (ea:a[ia]?=some y) (eb:b[ib]?=some x) (hw:L x y=true) (g1:ia+1<a.size) (g2:ib<b.size) (g3:N<=ia+ib) :
  wpS M A E s (loB a b out ia ib mg ac bc) Q z:=by
 have n2:=one_B O T m eb ea hw;refine Ap (zax eb ?_)
 by_cases e3:ib+1=b.size
 .rw[if_pos (by simp[e3])];exact Av (hD _ _ _ _ _ _ _ (zep T n2 (by lia)))
 rw[if_neg (by simp[e3])];refine Ap (zax ea ?_);refine Ap (znV O T hk (T.Sa _ (zas ea)) (by lia) (λk r1 r2 r3=>?_) (by lia));dsimp only
 by_cases hk1:k > 0
 .rw[if_pos hk1];have n3:=blk_B O T n2 ea k r1 r2
  by_cases e4:ib+1+k=b.size
  .rw[if_pos (by simp[e4])];exact Av (hD _ _ _ _ _ _ _ (zep T n3 (by lia)))
  rw[if_neg (by simp[e4])];have hb:ib+1+k<b.size:=by lia
  exact ziP O T hl hD hN n3 ea (by simp[hb]) (r3 k b[ib+1+k] (Ai _) (by simp[hb])) g1 hb (by lia)
 rw[if_neg hk1];have hb:ib+1<b.size:=by lia
 have kz:k=0:=by lia
 subst kz;exact ziP O T hl hD hN n2 ea (by simp[hb]) (r3 0 b[ib+1] (Ai _) (by simp[hb])) g1 hb (by lia)
theorem zlX(O:LtOk M A E s kd S L)(T:Two S L a b)(hk:kindOf z=kd)(hl:∀z, a[a.size-1]? = some z -> ∀x ∈ b.toList, leOf L x z)(hD:∀r out ia ib mg ac bc, Res (leOf L) a.toList b.toList r.toList -> Q (.done (some r, out, ia, ib, mg, ac, bc)) z)
  (hN:∀out ia ib mg ac bc,MI (leOf L) a.toList b.toList out.toList ia ib->ia+1<a.size->ib<b.size->N<=ia+ib->Q (.done (none,out,ia,ib,mg,ac,bc)) z/\Q (.yield (none,out,ia,ib,mg,ac,bc)) z)
  (m:MI (leOf L) a.toList b.toList out.toList ia ib) (g1:ia+1<a.size) (g2:ib<b.size) (g3:N<=ia+ib) :
  wpS M A E s (loA a b out ia ib mg ac bc) Q z:=by
 have eb:b[ib]?=some b[ib]:=by simp[g2]
 refine Ap (zax eb ?_);refine Ap (znW O T hk (T.Sb _ (zas eb)) (by lia) (λk q1 q2 q3=>?_) (by lia));dsimp only
 by_cases hk0:k > 0
 .rw[if_pos hk0];have n1:=blk_A O T m eb k q1 q2
  by_cases e1:ia+k+1=a.size
  .rw[if_pos (by simp[e1])];exact Av (hD _ _ _ _ _ _ _ (zeo T hl n1 e1))
  rw[if_neg (by simp[e1])]
  by_cases e2:ia+k=a.size
  .rw[if_pos (by simp[e2])];exact Av (hD _ _ _ _ _ _ _ (zk5 T n1 (by lia)))
  rw[if_neg (by simp[e2])];have ha:ia+k<a.size:=by lia
  exact ziQ O T hk hl hD hN n1 (by simp[ha]) eb (q3 k a[ia+k] (Ai _) (by simp[ha])) (by lia) g2 (by lia)
 rw[if_neg hk0];have ha:ia<a.size:=by lia
 have kz:k=0:=by lia
 subst kz;exact ziQ O T hk hl hD hN m (by simp[ha]) eb (q3 0 a[ia] (Ai _) (by simp[ha])) g1 g2 g3
theorem zlV{Q:ForInStep LI -> AQ -> Prop}(O:LtOk M A E s kd S L)(T:Two S L a b)(hk:kindOf z=kd)(hl:∀z, a[a.size-1]? = some z -> ∀x ∈ b.toList, leOf L x z)(m:MI (leOf L) a.toList b.toList out.toList ia ib)(g1:ia + 1 < a.size)(g2:ib < b.size)
  (hD:∀r out ia ib ac bc,Res (leOf L) a.toList b.toList r.toList->Q (.done (some r,out,ia,ib,ac,bc)) z)
  (hN:∀out ia' ib' ac bc,MI (leOf L) a.toList b.toList out.toList ia' ib'->ia'+1<a.size->ib'<b.size->ia+ib+1<=ia'+ib'->Q (.done (none,out,ia',ib',ac,bc)) z/\Q (.yield (none,out,ia',ib',ac,bc)) z) :
  wpS M A E s (loI a b mg (none,out,ia,ib,ac,bc)) Q z:=by
 obtain⟨xb,eb⟩:∃x,b[ib]?=some x:=⟨b[ib]'(by lia),by simp[g2]⟩;obtain⟨xa,ea⟩:∃x,a[ia]?=some x:=⟨a[ia]'(by lia),by simp[show ia<a.size by lia]⟩;refine Ap (zax eb (Ap (zax ea (Ap (O.lt xb xa (T.Sb _ (zas eb)) (T.Sa _ (zas ea)) _ _ hk ?_)))));dsimp only
 cases hw:L xb xa with
 |true =>
  rw[if_pos rfl];have m2:=one_B O T m eb ea hw;refine Ap (zax eb ?_)
  by_cases e:ib+1=b.size
  .rw[if_pos (by simp[e])];exact Av (hD _ _ _ _ _ _ (zep T m2 (by lia)))
  rw[if_neg (by simp[e])];have h:=hN _ _ _ 0 (bc+1) m2 g1 (by lia) (by lia);split
  .exact Av h.1
  .exact Av h.2
 |false =>
  rw[if_neg (by simp)];have m2:=one_A O T m eb ea hw;refine Ap (zax ea ?_)
  by_cases e:ia+1+1=a.size
  .rw[if_pos (by simp[e])];exact Av (hD _ _ _ _ _ _ (zeo T hl m2 (by lia)))
  rw[if_neg (by simp[e])];have h:=hN _ _ _ (ac+1) 0 m2 (by lia) g2 (by lia);split
  .exact Av h.1
  .exact Av h.2
theorem zlW(O:LtOk M A E s kd S L)(T:Two S L a b)(hk:kindOf z=kd)(hl:∀z, a[a.size-1]? = some z -> ∀x ∈ b.toList, leOf L x z)(hD:∀z', Like z z' -> ∀r out ia ib mg ac bc, Res (leOf L) a.toList b.toList r.toList -> Q (.done (some r, out, ia, ib, mg, ac, bc)) z')
  (hN:∀z',Like z z'->∀out ia ib mg ac bc,MI (leOf L) a.toList b.toList out.toList ia ib->ia+1<a.size->ib<b.size->N<=ia+ib->Q (.done (none,out,ia,ib,mg,ac,bc)) z'/\Q (.yield (none,out,ia,ib,mg,ac,bc)) z')
  (m:MI (leOf L) a.toList b.toList out.toList ia ib) (g1:ia+1<a.size) (g2:ib<b.size) (g3:N<=ia+ib) :
  wpS M A E s (loG a b (none,out,ia,ib,mg,ac,bc)) Q z:=by
 have key:∀z',Like z z'->∀mg,wpS M A E s (loA a b out ia ib mg ac bc) Q z':=λz' h mg=>zlX O T (h.1.trans hk) hl (hD z' h) (hN z' h) m g1 g2 g3
 unfold loG;split
 .exact Ap (BS (key _ (by exact Like.refl z) _))
 .exact Ap (BS (key _ (by exact Like.refl z) _))
theorem zlT{Q:ForInStep LO -> AQ -> Prop}(O:LtOk M A E s kd S L)(T:Two S L a b)(hk:kindOf z=kd)(hl:∀z, a[a.size-1]? = some z -> ∀x ∈ b.toList, leOf L x z)(m:MI (leOf L) a.toList b.toList out.toList ia ib)(g1:ia + 1 < a.size)(g2:ib < b.size)(g3:N <= ia + ib)
  (hD:∀z',Like z z'->∀r out ia ib mg,Res (leOf L) a.toList b.toList r.toList->Q (.done (some r,out,ia,ib,mg)) z')
  (hN:∀z',Like z z'->∀out ia ib mg,MI (leOf L) a.toList b.toList out.toList ia ib->ia+1<a.size->ib<b.size->N<=ia+ib->Q (.yield (none,out,ia,ib,mg)) z') :
  wpS M A E s (loP a b mg (none,out,ia,ib,ac,bc)) Q z:=by
 refine Ap (wpS_lift (Dl ⟨rfl,?_⟩))
 refine Ap (Cp (BE (I:=λy c w=>Like z w/\∃out ia ib mg ac bc,c=(none,out,ia,ib,mg,ac,bc)/\MI (leOf L) a.toList b.toList out.toList ia ib/\ia+1<a.size/\ib<b.size/\N<=ia+ib)
  (Q:=λc w=>Like z w/\((∃r,c.1=some r/\Res (leOf L) a.toList b.toList r.toList)∨∃out ia ib mg ac bc,c=(none,out,ia,ib,mg,ac,bc)/\MI (leOf L) a.toList b.toList out.toList ia ib/\ia+1<a.size/\ib<b.size/\N<=ia+ib)) ?_ ?_ ⟨Like.refl _,_,_,_,_,_,_,rfl,m,g1,g2,g3⟩) ?_)
 .rintro y c w _ hy ⟨lk,out,ia,ib,mg,ac,bc,rfl,m,k1,k2,k3⟩;exact zlW O T (lk.1.trans hk) hl (λw' h r _ _ _ _ _ _ e=>⟨Like.tr lk h,.inl ⟨r,rfl,e⟩⟩) (λw' h _ _ _ _ _ _ e u1 u2 u3=>⟨⟨Like.tr lk h,.inr ⟨_,_,_,_,_,_,rfl,e,u1,u2,u3⟩⟩,Like.tr lk h,_,_,_,_,_,_,rfl,e,u1,u2,u3⟩) m k1 k2 k3
 .rintro c w ⟨lk,r⟩;exact⟨lk,.inr r⟩
 .rintro c w ⟨lk,hc⟩;rcases hc with⟨r,e,res⟩ |⟨out,ia,ib,mg,ac,bc,rfl,m,k1,k2,k3⟩
  .rw[e];exact Av (hD w lk _ _ _ _ _ res)
  .exact Ap (BS (Av (hN _ (by exact lk) _ _ _ _ m k1 k2 k3)))
theorem zlU{Q:ForInStep LO -> AQ -> Prop}(O:LtOk M A E s kd S L)(T:Two S L a b)(hk:kindOf z=kd)(hl:∀z, a[a.size-1]? = some z -> ∀x ∈ b.toList, leOf L x z)(m:MI (leOf L) a.toList b.toList out.toList ia ib)(g1:ia + 1 < a.size)(g2:ib < b.size)
  (hD:∀z',Like z z'->∀r out ia ib mg,Res (leOf L) a.toList b.toList r.toList->Q (.done (some r,out,ia,ib,mg)) z')
  (hN:∀z',Like z z'->∀out ia' ib' mg,MI (leOf L) a.toList b.toList out.toList ia' ib'->ia'+1<a.size->ib'<b.size->ia+ib+1<=ia'+ib'->Q (.yield (none,out,ia',ib',mg)) z') :
  wpS M A E s (loO a b (none,out,ia,ib,mg)) Q z:=by
 refine Ap (Cp (BE (I:=λy c w=>w=z/\∃out ia' ib' ac bc,c=(none,out,ia',ib',ac,bc)/\MI (leOf L) a.toList b.toList out.toList ia' ib'/\ia'+1<a.size/\ib'<b.size/\ia+ib+y<=ia'+ib')
  (Q:=λc w=>w=z/\((∃r,c.1=some r/\Res (leOf L) a.toList b.toList r.toList)∨∃out ia' ib' ac bc,c=(none,out,ia',ib',ac,bc)/\MI (leOf L) a.toList b.toList out.toList ia' ib'/\ia'+1<a.size/\ib'<b.size/\ia+ib+1<=ia'+ib')) ?_ ?_ ⟨rfl,_,_,_,_,_,rfl,m,g1,g2,by lia⟩) ?_)
 .rintro y c w _ hy ⟨rfl,out',ia',ib',ac,bc,rfl,m',j1,j2,j3⟩;exact zlV O T hk hl m' j1 j2 (λr _ _ _ _ _ e=>⟨rfl,.inl ⟨r,rfl,e⟩⟩) λ_ _ _ _ _ e u1 u2 u3=>⟨⟨rfl,.inr ⟨_,_,_,_,_,rfl,e,u1,u2,by lia⟩⟩,rfl,_,_,_,_,_,rfl,e,u1,u2,by lia⟩
 .rintro c w ⟨rfl,out',ia',ib',ac,bc,rfl,m',j1,j2,j3⟩;exact⟨rfl,.inr ⟨out',ia',ib',ac,bc,rfl,m',j1,j2,by lia⟩⟩
 .rintro c w ⟨rfl,hc⟩;rcases hc with⟨r,e,res⟩ |⟨out',ia',ib',ac,bc,rfl,m',j1,j2,j3⟩
  .unfold loP;rw[e];exact Av (hD _ (Like.refl _) _ _ _ _ _ res)
  .exact zlT (N:=ia'+ib') O T hk hl m' j1 j2 (Ai _) hD λz' h _ _ _ _ e u1 u2 u3=>hN z' h _ _ _ _ e u1 u2 (by lia)
end
section
variable {M:Ey}{A:AS}{E:Value->Af->Prop}{s:Af}{kd:CZ}{S:Keyed->Prop}{L:Keyed->Keyed->Bool}{a b:Array Keyed}
theorem zg7(O:LtOk M A E s kd S L)(T:Two S L a b){st:AQ}{Q:Array Keyed -> AQ -> Prop}(hk:kindOf st=kd)(ha : 0 < a.size)(hb : 0 < b.size)(h0:∀y, b[0]? = some y -> ∀x ∈ a.toList, leOf L y x)
  (hl:∀z,a[a.size-1]?=some z->∀x∈b.toList,leOf L x z) (hQ:∀r st',Res (leOf L) a.toList b.toList r.toList->Like st st'->Q r st'):wpS M A E s (zgf a b) Q st:=by
 rw[zjy];have atA:∀i,i<a.size->∃x,a[i]?=some x:=λi h=>⟨a[i],by simp[h]⟩
 have atB:∀i,i<b.size->∃x,b[i]?=some x:=λi h=>⟨b[i],by simp[h]⟩
 obtain⟨b0,e0⟩:=atB 0 hb;have m0:MI (leOf L) a.toList b.toList (#[b0]:Array Keyed).toList 0 1:=MI.start T.sb (by simpa using e0) (h0 b0 e0);refine Ap (wpS_lift (Dl ⟨rfl,?_⟩));refine Ap (zax e0 ?_)
 by_cases hb1:b.size=1
 .rw[if_pos (by simp[hb1])];exact Av (hQ _ _ (zep T m0 (by lia)) (Like.refl _))
 rw[if_neg (by simp;lia)]
 by_cases ha1:a.size=1
 .rw[if_pos (by simp[ha1])];exact Av (hQ _ _ (zeo T hl m0 (by lia)) (Like.refl _))
 rw[if_neg (by simp;lia)];refine Ap (Em ?_)
 refine Ap (Cp (BE (I:=λx c st'=>Like st st'/\∃out ia ib mg,c=(none,out,ia,ib,mg)/\MI (leOf L) a.toList b.toList out.toList ia ib/\ia+1<a.size/\ib<b.size/\x+1<=ia+ib)
  (Q:=λc st'=>Like st st'/\∃r,c.1=some r/\Res (leOf L) a.toList b.toList r.toList) ?step ?fin ⟨Like.refl _,_,_,_,_,rfl,m0,by lia,by lia,by lia⟩) ?post)
 case fin =>
  rintro c st' ⟨_,out,ia,ib,mg,rfl,m,g1,g2,g3⟩;exact absurd g3 (by lia)
 case post =>
  rintro c st' ⟨lk,r,e,res⟩;rw[e];exact Av (hQ r st' res lk)
 case step =>
  rintro x c st' _ hx ⟨lk,out,ia,ib,mg,rfl,m,g1,g2,g3⟩;exact zlU O T (lk.1.trans hk) hl m g1 g2 (λz' h r _ _ _ _ e=>⟨Like.tr lk h,r,rfl,e⟩) λz' h _ _ _ _ e u1 u2 u3=>⟨Like.tr lk h,_,_,_,_,rfl,e,u1,u2,by lia⟩
end
end TS
set_option maxHeartbeats 8000000
namespace TS
open PySem PyProof.Rows
section
variable {α:Type}{le:α->α->Prop}
structure MJ (le:α->α->Prop) (a b r:List α) (na nb:Nat):Prop where
 ha:na<=a.length
 hb:nb<=b.length
 perm:(a.take na++b.take nb++r).Perm (a++b)
 sorted:r.Pairwise le
 lea:∀x∈a.take na,∀y∈r,le x y
 leb:∀x∈b.take nb,∀y∈r,le x y
theorem zfk(a:List α)(i n:Nat)(h:i<=n):a.take n=a.take i++(a.drop i).take (n-i):=by rw[<- List.take_add,show i+(n-i)=n by lia]
theorem MJ.takeA{a b r:List α}{na nb:Nat}(m:MJ le a b r na nb)(sa:a.Pairwise le)(i:Nat)(hi:i <= na)(h:∀x ∈ b.take nb, ∀y ∈ (a.drop i).take (na-i), le x y) :
  MJ le a b ((a.drop i).take (na-i)++r) i nb:=by
 have e:=zfk a i na hi;have sd:(a.take i++(a.drop i).take (na-i)).Pairwise le:=by rw[<- e];exact sa.sublist (Cf _ _)
 obtain⟨s1,s2,s3⟩:=AW.mp sd;refine⟨AV hi m.ha,m.hb,?_,AW.mpr ⟨s2,m.sorted,λx hx y hy=>m.lea x (by rw[e];exact At _ hx) y hy⟩,λx hx y hy=>?_,λx hx y hy=>?_⟩
 .have:=m.perm;rw[e]at this;refine List.Perm.trans ?_ this;rw[AB,AB,AB,<- AB (b.take nb),<- AB ((a.drop i).take (na-i))];exact List.Perm.append_left _ (List.Perm.append_right _ C6)
 .rcases Az.mp hy with q |q
  .exact s3 x hx y q
  .exact m.lea x (by rw[e];exact Bt _ hx) y q
 .rcases Az.mp hy with q |q
  .exact h x hx y q
  .exact m.leb x hx y q
theorem MJ.takeB{a b r:List α}{na nb:Nat}(m:MJ le a b r na nb)(sb:b.Pairwise le)(i:Nat)(hi:i <= nb)(h:∀x ∈ a.take na, ∀y ∈ (b.drop i).take (nb-i), le x y) :
  MJ le a b ((b.drop i).take (nb-i)++r) na i:=by
 have e:=zfk b i nb hi;have sd:(b.take i++(b.drop i).take (nb-i)).Pairwise le:=by rw[<- e];exact sb.sublist (Cf _ _)
 obtain⟨s1,s2,s3⟩:=AW.mp sd;refine⟨m.ha,AV hi m.hb,?_,AW.mpr ⟨s2,m.sorted,λx hx y hy=>m.leb x (by rw[e];exact At _ hx) y hy⟩,λx hx y hy=>?_,λx hx y hy=>?_⟩
 .have:=m.perm;rw[e]at this;simpa[AB]using this
 .rcases Az.mp hy with q |q
  .exact h x hx y q
  .exact m.lea x hx y q
 .rcases Az.mp hy with q |q
  .exact s3 x hx y q
  .exact m.leb x (by rw[e];exact Bt _ hx) y q
theorem MJ.doneB{a b r:List α}{nb:Nat}(m:MJ le a b r 0 nb)(sb:b.Pairwise le):Res le a b (a.take 0++b.take nb++r) :=
 ⟨m.perm,by rw[List.take_zero,Ek];exact AW.mpr ⟨sb.sublist (Cf _ _),m.sorted,m.leb⟩⟩
theorem MJ.doneA{a b r:List α}{na:Nat}(m:MJ le a b r na 0)(sa:a.Pairwise le):Res le a b (a.take na++b.take 0++r) :=
 ⟨m.perm,by rw[List.take_zero,Bk];exact AW.mpr ⟨sa.sublist (Cf _ _),m.sorted,m.lea⟩⟩
theorem MJ.firstB{a b r:List α}{na nb:Nat}(m:MJ le a b r na nb)(sa:a.Pairwise le)(sb:b.Pairwise le)(h:∀x∈b.take nb,∀y∈a.take na,le x y):Res le a b (b.take nb++a.take na++r):=by
 refine⟨List.Perm.trans (List.Perm.append_right _ C6) m.perm,?_⟩;refine AW.mpr ⟨AW.mpr ⟨sb.sublist (Cf _ _),sa.sublist (Cf _ _),h⟩,m.sorted,λx hx y hy=>?_⟩;rcases Az.mp hx with q |q
 .exact m.leb x q y hy
 .exact m.lea x q y hy
end
end TS
set_option maxHeartbeats 8000000
namespace TS
open PySem PyProof.Rows
section
variable {M:Ey}{A:AS}{E:Value->Af->Prop}{s:Af}{kd:CZ}{S:Keyed->Prop}{L:Keyed->Keyed->Bool}{a b out:Array Keyed}{na nb:Nat}
theorem zgk{a:Array Keyed}(O:LtOk M A E s kd S L)(sa:a.toList.Pairwise (leOf L))(Sa:∀x∈a.toList,S x){i:Nat}{x y:Keyed}(h:a[i]?=some x)(hy:y∈a.toList.take (i+1)):leOf L y x:=by
 have hi:i<a.toList.length:=by have:=(BC.mp h).1;rw[AN];exact this
 have e:a.toList.take (i+1)=a.toList.take i++[x]:=by
  rw[DT];have:a.toList[i]?=some x:=by simpa using h
  rw[this];rfl
 rw[e]at hy;rcases Az.mp hy with q |q
 .have:=sa.sublist (Cf (i+1) _);rw[e]at this;exact (AW.mp this).2.2 y q x AM
 .rw[Ao.mp q];exact O.rf (Sa x (zas h))
theorem zeS{a:Array Keyed}{i:Nat}{x:Keyed}(h:a[i]?=some x):(a.toList.drop i).take (i+1-i)=[x]:=by rw[zce h,show i+1-i=1 by lia];rfl
theorem zoj(O:LtOk M A E s kd S L)(T:Two S L a b)(m:MJ (leOf L) a.toList b.toList out.reverse.toList (na + 1) (nb + 1)){x y:Keyed}(hb:b[nb]? = some x)(ha:a[na]? = some y)(h:L x y=true) :
  MJ (leOf L) a.toList b.toList (out.push y).reverse.toList na (nb+1):=by
 have:=m.takeA T.sa na (CG _) λz hz w hw=>by rw[zeS ha]at hw;rw[Ao.mp hw];exact O.tr z x y (T.Sb z (BM hz)) (T.Sb x (zas hb)) (T.Sa y (zas ha)) (zgk O T.sb T.Sb hb hz) (O.as x y (T.Sb x (zas hb)) (T.Sa y (zas ha)) h)
 rw[zeS ha]at this;simpa using this
theorem zoi(O:LtOk M A E s kd S L)(T:Two S L a b)(m:MJ (leOf L) a.toList b.toList out.reverse.toList (na + 1) (nb + 1)){x y:Keyed}(hb:b[nb]? = some x)(ha:a[na]? = some y)(h:L x y=false) :
  MJ (leOf L) a.toList b.toList (out.push x).reverse.toList (na+1) nb:=by
 have:=m.takeB T.sb nb (CG _) λz hz w hw=>by rw[zeS hb]at hw;rw[Ao.mp hw];exact O.tr z y x (T.Sa z (BM hz)) (T.Sa y (zas ha)) (T.Sb x (zas hb)) (zgk O T.sa T.Sa ha hz) h
 rw[zeS hb]at this;simpa using this
theorem zoD(O:LtOk M A E s kd S L)(T:Two S L a b)(m:MJ (leOf L) a.toList b.toList out.reverse.toList na (nb + 1)){x:Keyed}(hb:b[nb]? = some x)(i:Nat)(hi:i <= na)(h:∀j y, i <= j -> j < na -> a[j]? = some y -> L x y=true) :
  MJ (leOf L) a.toList b.toList (out++(a.extract i na).reverse).reverse.toList i (nb+1):=by
 have:=m.takeA T.sa i hi λz hz w hw=>by obtain⟨j,hj,e⟩:=zgi hw;exact O.tr z x w (T.Sb z (BM hz)) (T.Sb x (zas hb)) (T.Sa w (zas e)) (zgk O T.sb T.Sb hb hz) (O.as x w (T.Sb x (zas hb)) (T.Sa w (zas e)) (h (i+j) w (by lia) (by lia) e))
 have e2:(out++(a.extract i na).reverse).reverse.toList=(a.toList.drop i).take (na-i)++out.reverse.toList:=by simp[CI,BZ]
 rw[e2];exact this
theorem zoC(O:LtOk M A E s kd S L)(T:Two S L a b)(m:MJ (leOf L) a.toList b.toList out.reverse.toList (na + 1) nb){y:Keyed}(ha:a[na]? = some y)(i:Nat)(hi:i <= nb)(h:∀j x, i <= j -> j < nb -> b[j]? = some x -> L x y=false) :
  MJ (leOf L) a.toList b.toList (out++(b.extract i nb).reverse).reverse.toList (na+1) i:=by
 have:=m.takeB T.sb i hi λz hz w hw=>by obtain⟨j,hj,e⟩:=zgi hw;exact O.tr z y w (T.Sa z (BM hz)) (T.Sa y (zas ha)) (T.Sb w (zas e)) (zgk O T.sa T.Sa ha hz) (h (i+j) w (by lia) (by lia) e)
 have e2:(out++(b.extract i nb).reverse).reverse.toList=(b.toList.drop i).take (nb-i)++out.reverse.toList:=by simp[CI,BZ]
 rw[e2];exact this
end
end TS
set_option maxHeartbeats 8000000
namespace TS
open PySem PyProof.Rows
section
variable {M:Ey}{A:AS}{E:Value->Af->Prop}{s:Af}{kd:CZ}{S:Keyed->Prop}{L:Keyed->Keyed->Bool}{a b out:Array Keyed}{na nb:Nat}
theorem znY(O:LtOk M A E s kd S L)(T:Two S L a b){st:AQ}(hk:kindOf st=kd){x:Keyed}(Sx:S x){n:Nat}(hn:n <= a.size){Q:Option Nat -> AQ -> Prop}
  (hQ:∀k,k<=n->(∀j y,j<k->a[j]?=some y->L x y=false)->(∀j y,k<=j->j<n->a[j]?=some y->L x y=true)->Q (some k) st) {hint:Nat} (hh:hint<n) :
  wpS M A E s (zcy false x a 0 n hint) Q st:=by
 have at_:∀i,i<n->∃y,a[0+i]?=some y:=λi h=>⟨a[0+i]'(by lia),by simp[show i<a.size by lia]⟩
 refine zbB (b:=λi=>!(a[0+i]?.elim false λy=>L x y)) O hk Sx (λi h=>?_) (λi j hij hj q=>?_) hh λk h1 h2 h3=>?_
 .obtain⟨y,e⟩:=at_ i h;exact⟨y,e,T.Sa y (zas e),by rw[if_neg (by simp),e];rfl⟩
 .obtain⟨y,e⟩:=at_ j hj;obtain⟨z,e2⟩:=at_ i (by lia);rw[e]at q;rw[e2];have q1:L x y=false:=by simpa using q
  have le1:leOf L z y:=zcY O T.sa T.Sa e2 (by
   have:y∈(a.toList.drop (0+i)).drop (j-i):=by rw[List.drop_drop,show 0+i+(j-i)=0+j by lia,zce e];exact AM
   exact By this)
  have:L x z=false:=O.tr z y x (T.Sa z (zas e2)) (T.Sa y (zas e)) Sx le1 q1;simpa using this
 .refine hQ k h1 (λj y hj e=>?_) (λj y hj hjn e=>?_)
  .have:=h2 j hj;rw[CT,e]at this;simpa using this
  .have:=h3 j hj hjn;rw[CT,e]at this;simpa using this
theorem znX(O:LtOk M A E s kd S L)(T:Two S L a b){st:AQ}(hk:kindOf st=kd){y:Keyed}(Sy:S y){n:Nat}(hn:n <= b.size){Q:Option Nat -> AQ -> Prop}
  (hQ:∀k,k<=n->(∀j x,j<k->b[j]?=some x->L x y=true)->(∀j x,k<=j->j<n->b[j]?=some x->L x y=false)->Q (some k) st) {hint:Nat} (hh:hint<n) :
  wpS M A E s (zcy true y b 0 n hint) Q st:=by
 have at_:∀i,i<n->∃x,b[0+i]?=some x:=λi h=>⟨b[0+i]'(by lia),by simp[show i<b.size by lia]⟩
 refine zbB (b:=λi=>b[0+i]?.elim false λx=>L x y) O hk Sy (λi h=>?_) (λi j hij hj q=>?_) hh λk h1 h2 h3=>?_
 .obtain⟨x,e⟩:=at_ i h;exact⟨x,e,T.Sb x (zas e),by rw[if_pos rfl,e];rfl⟩
 .obtain⟨x,e⟩:=at_ j hj;obtain⟨z,e2⟩:=at_ i (by lia);rw[e]at q;rw[e2];have q1:L x y=true:=q;show L z y=true
  have le1:leOf L z x:=zcY O T.sb T.Sb e2 (by
   have:x∈(b.toList.drop (0+i)).drop (j-i):=by rw[List.drop_drop,show 0+i+(j-i)=0+j by lia,zce e];exact AM
   exact By this)
  cases w:L z y with
  |true=>rfl
  |false =>
   have:L x y=false:=O.tr y z x Sy (T.Sb z (zas e2)) (T.Sb x (zas e)) w le1;rw[this]at q1;cases q1
 .refine hQ k h1 (λj x hj e=>?_) (λj x hj hjn e=>?_)
  .have:=h2 j hj;rw[CT,e]at this;exact this
  .have:=h3 j hj hjn;rw[CT,e]at this;exact this
theorem zbx(a:Array Keyed)(i:Nat):(a.extract 0 i).toList=a.toList.take i:=by rw[CI,BZ,Dr,Nat.sub_zero]
theorem end_A(T:Two S L a b)(m:MJ (leOf L) a.toList b.toList out.reverse.toList 0 nb):Res (leOf L) a.toList b.toList (a.extract 0 0++b.extract 0 nb++out.reverse).toList:=by rw[Bp,Bp,zbx,zbx];exact m.doneB T.sb
theorem zov(T:Two S L a b)(m:MJ (leOf L) a.toList b.toList out.reverse.toList na 0):Res (leOf L) a.toList b.toList (a.extract 0 na++b.extract 0 0++out.reverse).toList:=by rw[Bp,Bp,zbx,zbx];exact m.doneA T.sa
theorem end_B (T:Two S L a b) (h0:∀ y,b[0]?=some y→∀ x∈a.toList,leOf L y x) (m:MJ (leOf L) a.toList b.toList out.reverse.toList na 1):Res (leOf L) a.toList b.toList (b.extract 0 1++a.extract 0 na++out.reverse).toList:=by
  rw[Bp,Bp,zbx,zbx]
  refine m.firstB T.sa T.sb λx hx y hy=>?_
  cases hb:b.toList with
  | nil=>rw[hb] at hx;cases hx
  | cons z r =>
    rw[hb] at hx
    have e:x=z:=Ao.mp hx
    subst e
    exact h0 x (by have : b.toList[0]? = some x := by rw[hb]; rfl
                   simpa using this) y (BM hy)
end
end TS
set_option maxHeartbeats 8000000
namespace TS
open PySem PyProof.Rows
section
variable {M:Ey}{A:AS}{E:Value->Af->Prop}{s:Af}{kd:CZ}{S:Keyed->Prop}{L:Keyed->Keyed->Bool}{a b out:Array Keyed}{na nb:Nat}
theorem lastA(O:LtOk M A E s kd S L)(T:Two S L a b)(h1:0<na)(h2:0<nb)(m:MJ (leOf L) a.toList b.toList out.reverse.toList na nb){x y:Keyed}(hb:b[nb-1]?=some x)(ha:a[na-1]?=some y)(h:L x y=true):MJ (leOf L) a.toList b.toList (out.push y).reverse.toList (na-1) nb:=by obtain⟨p,rfl⟩:∃p,na=p+1:=⟨na-1,by lia⟩;obtain⟨q,rfl⟩:∃q,nb=q+1:=⟨nb-1,by lia⟩;exact zoj O T m hb ha h
theorem lastB(O:LtOk M A E s kd S L)(T:Two S L a b)(h1:0<na)(h2:0<nb)(m:MJ (leOf L) a.toList b.toList out.reverse.toList na nb){x y:Keyed}(hb:b[nb-1]?=some x)(ha:a[na-1]?=some y)(h:L x y=false):MJ (leOf L) a.toList b.toList (out.push x).reverse.toList na (nb-1):=by obtain⟨p,rfl⟩:∃p,na=p+1:=⟨na-1,by lia⟩;obtain⟨q,rfl⟩:∃q,nb=q+1:=⟨nb-1,by lia⟩;exact zoi O T m hb ha h
theorem backA(O:LtOk M A E s kd S L)(T:Two S L a b)(h2:0<nb)(m:MJ (leOf L) a.toList b.toList out.reverse.toList na nb){x:Keyed}(hb:b[nb-1]?=some x)(i:Nat)(hi:i<=na)(h:∀j y,i<=j->j<na->a[j]?=some y->L x y=true):MJ (leOf L) a.toList b.toList (out++(a.extract i na).reverse).reverse.toList i nb:=by obtain⟨q,rfl⟩:∃q,nb=q+1:=⟨nb-1,by lia⟩;exact zoD O T m hb i hi h
theorem backB(O:LtOk M A E s kd S L)(T:Two S L a b)(h1:0<na)(m:MJ (leOf L) a.toList b.toList out.reverse.toList na nb){y:Keyed}(ha:a[na-1]?=some y)(i:Nat)(hi:i<=nb)(h:∀j x,i<=j->j<nb->b[j]?=some x->L x y=false):MJ (leOf L) a.toList b.toList (out++(b.extract i nb).reverse).reverse.toList na i:=by obtain⟨p,rfl⟩:∃p,na=p+1:=⟨na-1,by lia⟩;exact zoC O T m ha i hi h
noncomputable abbrev RH:=Option (Array Keyed)×Nat×Nat×Array Keyed×Nat×Nat×Nat
noncomputable def hiC(a b:Array Keyed)(na nb:Nat)(out:Array Keyed)(mg ac bc:Nat):StateT AQ Sem (ForInStep RH) :=
 elem' a (na-1) >>= λx =>
  if (na-1 == 0)=true then pure (.done (some (a.extract 0 (na-1)++b.extract 0 nb++(out.push x).reverse),na-1,nb,out.push x,mg,ac,bc))
  else if (decide (ac<7) && decide (bc<7))=true then pure (.done (none,na-1,nb,out.push x,mg,ac,bc))
  else pure (.yield (none,na-1,nb,out.push x,mg,ac,bc))
noncomputable def hiB(a b:Array Keyed)(na nb:Nat)(out:Array Keyed)(mg ac bc:Nat):StateT AQ Sem (ForInStep RH) :=
 elem' b (nb-1) >>= λx =>
  if (nb-1 == 1)=true then pure (.done (some (b.extract 0 (nb-1)++a.extract 0 na++(out.push x).reverse),na,nb-1,out.push x,mg,ac,bc))
  else elem' a (na-1) >>= λy=>zcy true y b 0 (nb-1) (nb-1-1) >>= λw =>
   match w with
   |some t =>
    if nb-1-t > 0 then
     if (t == 1)=true then pure (.done (some (b.extract 0 t++a.extract 0 na++(out.push x++(b.extract t (nb-1)).reverse).reverse),na,t,out.push x++(b.extract t (nb-1)).reverse,mg,ac,nb-1-t))
     else if (t == 0)=true then pure (.done (some (a.extract 0 na++b.extract 0 t++(out.push x++(b.extract t (nb-1)).reverse).reverse),na,t,out.push x++(b.extract t (nb-1)).reverse,mg,ac,nb-1-t))
     else hiC a b na t (out.push x++(b.extract t (nb-1)).reverse) mg ac (nb-1-t)
    else hiC a b na (nb-1) (out.push x) mg ac (nb-1-t)
   |_=>pure (.done (some (a.extract 0 na++b.extract 0 (nb-1)++(out.push x).reverse),na,nb-1,out.push x,mg,ac,bc))
noncomputable def hiA(a b:Array Keyed)(na nb:Nat)(out:Array Keyed)(mg ac bc:Nat):StateT AQ Sem (ForInStep RH) :=
 elem' b (nb-1) >>= λx=>zcy false x a 0 na (na-1) >>= λw =>
  match w with
  |some t =>
   if na-t > 0 then
    if (t == 0)=true then pure (.done (some (a.extract 0 t++b.extract 0 nb++(out++(a.extract t na).reverse).reverse),t,nb,out++(a.extract t na).reverse,mg,na-t,bc))
    else hiB a b t nb (out++(a.extract t na).reverse) mg (na-t) bc
   else hiB a b na nb out mg (na-t) bc
  |_=>pure (.done (some (a.extract 0 na++b.extract 0 nb++out.reverse),na,nb,out,mg,ac,bc))
noncomputable def hiG(a b:Array Keyed)(c:RH):StateT AQ Sem (ForInStep RH) :=
 if c.2.2.2.2.1 > 1 then zfq (c.2.2.2.2.1-1) >>= λ_=>hiA a b c.2.1 c.2.2.1 c.2.2.2.1 (c.2.2.2.2.1-1) c.2.2.2.2.2.1 c.2.2.2.2.2.2
 else zfq c.2.2.2.2.1 >>= λ_=>hiA a b c.2.1 c.2.2.1 c.2.2.2.1 c.2.2.2.2.1 c.2.2.2.2.2.1 c.2.2.2.2.2.2
noncomputable abbrev RI:=Option (Array Keyed)×Nat×Nat×Array Keyed×Nat×Nat
noncomputable def hiI(a b:Array Keyed)(mg:Nat)(c:RI):StateT AQ Sem (ForInStep RI) :=
 elem' b (c.2.2.1-1) >>= λx=>elem' a (c.2.1-1) >>= λy=>lt' x y >>= λw =>
  match w with
  |some v =>
   if v=true then elem' a (c.2.1-1) >>= λy =>
    if (c.2.1-1 == 0)=true then pure (.done (some (a.extract 0 (c.2.1-1)++b.extract 0 c.2.2.1++(c.2.2.2.1.push y).reverse),c.2.1-1,c.2.2.1,c.2.2.2.1.push y,c.2.2.2.2.1+1,0))
    else if c.2.2.2.2.1+1 ≥ mg then pure (.done (none,c.2.1-1,c.2.2.1,c.2.2.2.1.push y,c.2.2.2.2.1+1,0))
    else pure (.yield (none,c.2.1-1,c.2.2.1,c.2.2.2.1.push y,c.2.2.2.2.1+1,0))
   else elem' b (c.2.2.1-1) >>= λx =>
    if (c.2.2.1-1 == 1)=true then pure (.done (some (b.extract 0 (c.2.2.1-1)++a.extract 0 c.2.1++(c.2.2.2.1.push x).reverse),c.2.1,c.2.2.1-1,c.2.2.2.1.push x,0,c.2.2.2.2.2+1))
    else if c.2.2.2.2.2+1 ≥ mg then pure (.done (none,c.2.1,c.2.2.1-1,c.2.2.2.1.push x,0,c.2.2.2.2.2+1))
    else pure (.yield (none,c.2.1,c.2.2.1-1,c.2.2.2.1.push x,0,c.2.2.2.2.2+1))
  |_=>pure (.done (some (a.extract 0 c.2.1++b.extract 0 c.2.2.1++c.2.2.2.1.reverse),c.2.1,c.2.2.1,c.2.2.2.1,c.2.2.2.2.1,c.2.2.2.2.2))
noncomputable abbrev RO:=Option (Array Keyed)×Nat×Nat×Array Keyed×Nat
noncomputable def hiP(a b:Array Keyed)(mg:Nat)(c:RI):StateT AQ Sem (ForInStep RO) :=
 C0 (λ_=>StateT AQ Sem (ForInStep RO)) c.1 (λr=>pure (.done (some r,c.2.1,c.2.2.1,c.2.2.2.1,mg))) λ_=>(liftM (rule "list.sort.gallop"):StateT AQ Sem Unit) >>= λ_=>forIn [:a.size+b.size] ((none,c.2.1,c.2.2.1,c.2.2.2.1,mg+1,c.2.2.2.2.1,c.2.2.2.2.2):RH) (λ_ c=>hiG a b c) >>= λc =>
  C0 (λ_=>StateT AQ Sem (ForInStep RO)) c.1 (λr=>pure (.done (some r,c.2.1,c.2.2.1,c.2.2.2.1,c.2.2.2.2.1))) λ_=>zfq (c.2.2.2.2.1+1) >>= λ_=>pure (.yield (none,c.2.1,c.2.2.1,c.2.2.2.1,c.2.2.2.2.1+1))
noncomputable def hiO(a b:Array Keyed)(c:RO):StateT AQ Sem (ForInStep RO) :=
 forIn [:a.size+b.size] ((none,c.2.1,c.2.2.1,c.2.2.2.1,0,0):RI) (λ_ d=>hiI a b c.2.2.2.2 d) >>= λd=>hiP a b c.2.2.2.2 d
noncomputable def zlS(a b:Array Keyed):StateT AQ Sem (Array Keyed) :=
 (liftM (rule "list.sort.merge-hi"):StateT AQ Sem Unit) >>= λ_=>elem' a (a.size-1) >>= λx =>
  if (a.size-1 == 0)=true then pure (a.extract 0 (a.size-1)++b.extract 0 b.size++#[x].reverse)
  else if (b.size == 1)=true then pure (b.extract 0 b.size++a.extract 0 (a.size-1)++#[x].reverse)
  else get >>= λs=>forIn [:a.size+b.size] ((none,a.size-1,b.size,#[x],gallopOf s):RO) (λ_ c=>hiO a b c) >>= λc =>
   C0 (λ_=>StateT AQ Sem (Array Keyed)) c.1 (λr=>pure r) λ_=>unsupported "internal:list.sort.merge-bound"
theorem zjz(a b:Array Keyed):zgg a b=zlS a b:=rfl
variable {Q:ForInStep RH->AQ->Prop}{z:AQ}{N mg ac bc:Nat}{x y:Keyed}
theorem ziV(O:LtOk M A E s kd S L)(T:Two S L a b)(hD:∀r na nb out mg ac bc, Res (leOf L) a.toList b.toList r.toList -> Q (.done (some r, na, nb, out, mg, ac, bc)) z)
  (hN:∀na nb out mg ac bc,MJ (leOf L) a.toList b.toList out.reverse.toList na nb->0<na->1<nb->na+nb<=N->na<=a.size->nb<=b.size->Q (.done (none,na,nb,out,mg,ac,bc)) z/\Q (.yield (none,na,nb,out,mg,ac,bc)) z)
  (m:MJ (leOf L) a.toList b.toList out.reverse.toList na nb) (ea:a[na-1]?=some y) (eb:b[nb-1]?=some x) (hw:L x y=true) (g1:0<na) (g2:1<nb) (g3:na+nb<=N) (g4:na<=a.size) (g5:nb<=b.size) :
  wpS M A E s (hiC a b na nb out mg ac bc) Q z:=by
 have n4:=lastA O T g1 (by lia) m eb ea hw;refine Ap (zax ea ?_)
 by_cases e:na-1=0
 .rw[if_pos (by simp[e])];rw[e]at n4;rw[e];exact Av (hD _ _ _ _ _ _ _ (end_A T n4))
 rw[if_neg (by simp[e])];have h:=hN _ _ _ mg ac bc n4 (by lia) g2 (by lia) (by lia) g5;split
 .exact Av h.1
 .exact Av h.2
theorem ziW(O:LtOk M A E s kd S L)(T:Two S L a b)(hk:kindOf z=kd)(h0:∀y, b[0]? = some y -> ∀x ∈ a.toList, leOf L y x)(hD:∀r na nb out mg ac bc, Res (leOf L) a.toList b.toList r.toList -> Q (.done (some r, na, nb, out, mg, ac, bc)) z)
  (hN:∀na nb out mg ac bc,MJ (leOf L) a.toList b.toList out.reverse.toList na nb->0<na->1<nb->na+nb<=N->na<=a.size->nb<=b.size->Q (.done (none,na,nb,out,mg,ac,bc)) z/\Q (.yield (none,na,nb,out,mg,ac,bc)) z)
  (m:MJ (leOf L) a.toList b.toList out.reverse.toList na nb) (ea:a[na-1]?=some y) (eb:b[nb-1]?=some x) (hw:L x y=false) (g1:0<na) (g2:1<nb) (g3:na+nb<=N) (g4:na<=a.size) (g5:nb<=b.size) :
  wpS M A E s (hiB a b na nb out mg ac bc) Q z:=by
 have n2:=lastB O T g1 (by lia) m eb ea hw;refine Ap (zax eb ?_)
 by_cases e3:nb-1=1
 .rw[if_pos (by simp[e3])];rw[e3]at n2;rw[e3];exact Av (hD _ _ _ _ _ _ _ (end_B T h0 n2))
 rw[if_neg (by simp[e3])];refine Ap (zax ea ?_);refine Ap (znX O T hk (T.Sa _ (zas ea)) (by lia) (λt r1 r2 r3=>?_) (by lia));dsimp only
 by_cases hk1:nb-1-t > 0
 .rw[if_pos hk1];have n3:=backB O T g1 n2 ea t r1 r3
  by_cases e4:t=1
  .rw[if_pos (by simp[e4])];rw[e4]at n3;rw[e4];exact Av (hD _ _ _ _ _ _ _ (end_B T h0 n3))
  rw[if_neg (by simp[e4])]
  by_cases e6:t=0
  .rw[if_pos (by simp[e6])];rw[e6]at n3;rw[e6];exact Av (hD _ _ _ _ _ _ _ (zov T n3))
  rw[if_neg (by simp[e6])];have hl:t-1<b.size:=by lia
  exact ziV O T hD hN n3 ea (by simp[hl]) (r2 (t-1) b[t-1] (by lia) (by simp[hl])) g1 (by lia) (by lia) g4 (by lia)
 rw[if_neg hk1];have hl:nb-1-1<b.size:=by lia
 exact ziV O T hD hN n2 ea (by simp[hl]) (r2 (nb-1-1) b[nb-1-1] (by lia) (by simp[hl])) g1 (by lia) (by lia) g4 (by lia)
theorem zl6(O:LtOk M A E s kd S L)(T:Two S L a b)(hk:kindOf z=kd)(h0:∀y, b[0]? = some y -> ∀x ∈ a.toList, leOf L y x)(hD:∀r na nb out mg ac bc, Res (leOf L) a.toList b.toList r.toList -> Q (.done (some r, na, nb, out, mg, ac, bc)) z)
  (hN:∀na nb out mg ac bc,MJ (leOf L) a.toList b.toList out.reverse.toList na nb->0<na->1<nb->na+nb<=N->na<=a.size->nb<=b.size->Q (.done (none,na,nb,out,mg,ac,bc)) z/\Q (.yield (none,na,nb,out,mg,ac,bc)) z)
  (m:MJ (leOf L) a.toList b.toList out.reverse.toList na nb) (g1:0<na) (g2:1<nb) (g3:na+nb<=N) (g4:na<=a.size) (g5:nb<=b.size) :
  wpS M A E s (hiA a b na nb out mg ac bc) Q z:=by
 have hb:nb-1<b.size:=by lia
 have eb:b[nb-1]?=some b[nb-1]:=by simp[hb]
 refine Ap (zax eb ?_);refine Ap (znY O T hk (T.Sb _ (zas eb)) g4 (λt q1 q2 q3=>?_) (by lia));dsimp only
 by_cases hk0:na-t > 0
 .rw[if_pos hk0];have n1:=backA O T (by lia) m eb t q1 q3
  by_cases e1:t=0
  .rw[if_pos (by simp[e1])];rw[e1]at n1;rw[e1];exact Av (hD _ _ _ _ _ _ _ (end_A T n1))
  rw[if_neg (by simp[e1])];have hl:t-1<a.size:=by lia
  exact ziW O T hk h0 hD hN n1 (by simp[hl]) eb (q2 (t-1) a[t-1] (by lia) (by simp[hl])) (by lia) g2 (by lia) (by lia) g5
 rw[if_neg hk0];have hl:na-1<a.size:=by lia
 exact ziW O T hk h0 hD hN m (by simp[hl]) eb (q2 (na-1) a[na-1] (by lia) (by simp[hl])) g1 g2 g3 g4 g5
theorem zl4{Q:ForInStep RI -> AQ -> Prop}(O:LtOk M A E s kd S L)(T:Two S L a b)(hk:kindOf z=kd)(h0:∀y, b[0]? = some y -> ∀x ∈ a.toList, leOf L y x)(m:MJ (leOf L) a.toList b.toList out.reverse.toList na nb)(g1 : 0 < na)(g2 : 1 < nb)(g4:na <= a.size)(g5:nb <= b.size)
  (hD:∀r na nb out ac bc,Res (leOf L) a.toList b.toList r.toList->Q (.done (some r,na,nb,out,ac,bc)) z)
  (hN:∀na' nb' out ac bc,MJ (leOf L) a.toList b.toList out.reverse.toList na' nb'->0<na'->1<nb'->na'+nb'+1<=na+nb->na'<=a.size->nb'<=b.size->Q (.done (none,na',nb',out,ac,bc)) z/\Q (.yield (none,na',nb',out,ac,bc)) z) :
  wpS M A E s (hiI a b mg (none,na,nb,out,ac,bc)) Q z:=by
 obtain⟨xb,eb⟩:∃x,b[nb-1]?=some x:=⟨b[nb-1]'(by lia),by simp[show nb-1<b.size by lia]⟩;obtain⟨xa,ea⟩:∃x,a[na-1]?=some x:=⟨a[na-1]'(by lia),by simp[show na-1<a.size by lia]⟩;refine Ap (zax eb (Ap (zax ea (Ap (O.lt xb xa (T.Sb _ (zas eb)) (T.Sa _ (zas ea)) _ _ hk ?_)))));dsimp only
 cases hw:L xb xa with
 |true =>
  rw[if_pos rfl];have m2:=lastA O T g1 (by lia) m eb ea hw;refine Ap (zax ea ?_)
  by_cases e:na-1=0
  .rw[if_pos (by simp[e])];rw[e]at m2;rw[e];exact Av (hD _ _ _ _ _ _ (end_A T m2))
  rw[if_neg (by simp[e])];have h:=hN _ _ _ (ac+1) 0 m2 (by lia) g2 (by lia) (by lia) g5;split
  .exact Av h.1
  .exact Av h.2
 |false =>
  rw[if_neg (by simp)];have m2:=lastB O T g1 (by lia) m eb ea hw;refine Ap (zax eb ?_)
  by_cases e:nb-1=1
  .rw[if_pos (by simp[e])];rw[e]at m2;rw[e];exact Av (hD _ _ _ _ _ _ (end_B T h0 m2))
  rw[if_neg (by simp[e])];have h:=hN _ _ _ 0 (bc+1) m2 g1 (by lia) (by lia) g4 (by lia);split
  .exact Av h.1
  .exact Av h.2
theorem zl5(O:LtOk M A E s kd S L)(T:Two S L a b)(hk:kindOf z=kd)(h0:∀y, b[0]? = some y -> ∀x ∈ a.toList, leOf L y x)(hD:∀z', Like z z' -> ∀r na nb out mg ac bc, Res (leOf L) a.toList b.toList r.toList -> Q (.done (some r, na, nb, out, mg, ac, bc)) z')
  (hN:∀z',Like z z'->∀na nb out mg ac bc,MJ (leOf L) a.toList b.toList out.reverse.toList na nb->0<na->1<nb->na+nb<=N->na<=a.size->nb<=b.size->Q (.done (none,na,nb,out,mg,ac,bc)) z'/\Q (.yield (none,na,nb,out,mg,ac,bc)) z')
  (m:MJ (leOf L) a.toList b.toList out.reverse.toList na nb) (g1:0<na) (g2:1<nb) (g3:na+nb<=N) (g4:na<=a.size) (g5:nb<=b.size) :
  wpS M A E s (hiG a b (none,na,nb,out,mg,ac,bc)) Q z:=by
 have key:∀z',Like z z'->∀mg,wpS M A E s (hiA a b na nb out mg ac bc) Q z':=λz' h mg=>zl6 O T (h.1.trans hk) h0 (hD z' h) (hN z' h) m g1 g2 g3 g4 g5
 unfold hiG;split
 .exact Ap (BS (key _ (by exact Like.refl z) _))
 .exact Ap (BS (key _ (by exact Like.refl z) _))
theorem zl2{Q:ForInStep RO -> AQ -> Prop}(O:LtOk M A E s kd S L)(T:Two S L a b)(hk:kindOf z=kd)(h0:∀y, b[0]? = some y -> ∀x ∈ a.toList, leOf L y x)(m:MJ (leOf L) a.toList b.toList out.reverse.toList na nb)(g1 : 0 < na)(g2 : 1 < nb)(g3:na + nb <= N)(g4:na <= a.size)(g5:nb <= b.size)
  (hD:∀z',Like z z'->∀r na nb out mg,Res (leOf L) a.toList b.toList r.toList->Q (.done (some r,na,nb,out,mg)) z')
  (hN:∀z',Like z z'->∀na nb out mg,MJ (leOf L) a.toList b.toList out.reverse.toList na nb->0<na->1<nb->na+nb<=N->na<=a.size->nb<=b.size->Q (.yield (none,na,nb,out,mg)) z') :
  wpS M A E s (hiP a b mg (none,na,nb,out,ac,bc)) Q z:=by
 refine Ap (wpS_lift (Dl ⟨rfl,?_⟩))
 refine Ap (Cp (BE (I:=λy c w=>Like z w/\∃na nb out mg ac bc,c=(none,na,nb,out,mg,ac,bc)/\MJ (leOf L) a.toList b.toList out.reverse.toList na nb/\0<na/\1<nb/\na+nb<=N/\na<=a.size/\nb<=b.size)
  (Q:=λc w=>Like z w/\((∃r,c.1=some r/\Res (leOf L) a.toList b.toList r.toList)∨∃na nb out mg ac bc,c=(none,na,nb,out,mg,ac,bc)/\MJ (leOf L) a.toList b.toList out.reverse.toList na nb/\0<na/\1<nb/\na+nb<=N/\na<=a.size/\nb<=b.size)) ?_ ?_ ⟨Like.refl _,_,_,_,_,_,_,rfl,m,g1,g2,g3,g4,g5⟩) ?_)
 .rintro y c w _ hy ⟨lk,na,nb,out,mg,ac,bc,rfl,m,k1,k2,k3,k4,k5⟩;exact zl5 O T (lk.1.trans hk) h0 (λw' h r _ _ _ _ _ _ e=>⟨Like.tr lk h,.inl ⟨r,rfl,e⟩⟩) (λw' h _ _ _ _ _ _ e u1 u2 u3 u4 u5=>⟨⟨Like.tr lk h,.inr ⟨_,_,_,_,_,_,rfl,e,u1,u2,u3,u4,u5⟩⟩,Like.tr lk h,_,_,_,_,_,_,rfl,e,u1,u2,u3,u4,u5⟩) m k1 k2 k3 k4 k5
 .rintro c w ⟨lk,r⟩;exact⟨lk,.inr r⟩
 .rintro c w ⟨lk,hc⟩;rcases hc with⟨r,e,res⟩ |⟨na,nb,out,mg,ac,bc,rfl,m,k1,k2,k3,k4,k5⟩
  .rw[e];exact Av (hD w lk _ _ _ _ _ res)
  .exact Ap (BS (Av (hN _ (by exact lk) _ _ _ _ m k1 k2 k3 k4 k5)))
theorem zl3{Q:ForInStep RO -> AQ -> Prop}(O:LtOk M A E s kd S L)(T:Two S L a b)(hk:kindOf z=kd)(h0:∀y, b[0]? = some y -> ∀x ∈ a.toList, leOf L y x)(m:MJ (leOf L) a.toList b.toList out.reverse.toList na nb)(g1 : 0 < na)(g2 : 1 < nb)(g3:na + nb <= a.size + b.size)(g4:na <= a.size)(g5:nb <= b.size)
  (hD:∀z',Like z z'->∀r na nb out mg,Res (leOf L) a.toList b.toList r.toList->Q (.done (some r,na,nb,out,mg)) z')
  (hN:∀z',Like z z'->∀na' nb' out mg,MJ (leOf L) a.toList b.toList out.reverse.toList na' nb'->0<na'->1<nb'->na'+nb'+1<=na+nb->na'<=a.size->nb'<=b.size->Q (.yield (none,na',nb',out,mg)) z') :
  wpS M A E s (hiO a b (none,na,nb,out,mg)) Q z:=by
 refine Ap (Cp (BE (I:=λy c w=>w=z/\∃na' nb' out ac bc,c=(none,na',nb',out,ac,bc)/\MJ (leOf L) a.toList b.toList out.reverse.toList na' nb'/\0<na'/\1<nb'/\na'+nb'+y<=na+nb/\na'<=a.size/\nb'<=b.size)
  (Q:=λc w=>w=z/\((∃r,c.1=some r/\Res (leOf L) a.toList b.toList r.toList)∨∃na' nb' out ac bc,c=(none,na',nb',out,ac,bc)/\MJ (leOf L) a.toList b.toList out.reverse.toList na' nb'/\0<na'/\1<nb'/\na'+nb'+1<=na+nb/\na'<=a.size/\nb'<=b.size)) ?_ ?_ ⟨rfl,_,_,_,_,_,rfl,m,g1,g2,by lia,g4,g5⟩) ?_)
 .rintro y c w _ hy ⟨rfl,na',nb',out',ac,bc,rfl,m',j1,j2,j3,j4,j5⟩;exact zl4 O T hk h0 m' j1 j2 j4 j5 (λr _ _ _ _ _ e=>⟨rfl,.inl ⟨r,rfl,e⟩⟩) λ_ _ _ _ _ e u1 u2 u3 u4 u5=>⟨⟨rfl,.inr ⟨_,_,_,_,_,rfl,e,u1,u2,by lia,u4,u5⟩⟩,rfl,_,_,_,_,_,rfl,e,u1,u2,by lia,u4,u5⟩
 .rintro c w ⟨rfl,na',nb',out',ac,bc,rfl,m',j1,j2,j3,j4,j5⟩;exact⟨rfl,.inr ⟨na',nb',out',ac,bc,rfl,m',j1,j2,by lia,j4,j5⟩⟩
 .rintro c w ⟨rfl,hc⟩;rcases hc with⟨r,e,res⟩ |⟨na',nb',out',ac,bc,rfl,m',j1,j2,j3,j4,j5⟩
  .unfold hiP;rw[e];exact Av (hD _ (Like.refl _) _ _ _ _ _ res)
  .exact zl2 (N:=na'+nb') O T hk h0 m' j1 j2 (Ai _) j4 j5 hD λz' h _ _ _ _ e u1 u2 u3 u4 u5=>hN z' h _ _ _ _ e u1 u2 (by lia) u4 u5
end
section
variable {M:Ey}{A:AS}{E:Value->Af->Prop}{s:Af}{kd:CZ}{S:Keyed->Prop}{L:Keyed->Keyed->Bool}{a b:Array Keyed}
theorem zg8(O:LtOk M A E s kd S L)(T:Two S L a b){st:AQ}{Q:Array Keyed -> AQ -> Prop}(hk:kindOf st=kd)(ha : 0 < a.size)(hb : 0 < b.size)(h0:∀y, b[0]? = some y -> ∀x ∈ a.toList, leOf L y x)
  (hl:∀z,a[a.size-1]?=some z->∀x∈b.toList,leOf L x z) (hQ:∀r st',Res (leOf L) a.toList b.toList r.toList->Like st st'->Q r st'):wpS M A E s (zgg a b) Q st:=by
 rw[zjz];have atA:∀i,i<a.size->∃x,a[i]?=some x:=λi h=>⟨a[i],by simp[h]⟩
 have atB:∀i,i<b.size->∃x,b[i]?=some x:=λi h=>⟨b[i],by simp[h]⟩
 obtain⟨a1,e1⟩:=atA (a.size-1) (by lia);have mS:MJ (leOf L) a.toList b.toList (#[]:Array Keyed).reverse.toList a.size b.size:=⟨by simp,by simp,by rw[Bx (by simp),Bx (by simp)];simp,by simp,(λ_ _ _ h=>by simp at h),(λ_ _ _ h=>by simp at h)⟩
 have m0:MJ (leOf L) a.toList b.toList (#[a1]:Array Keyed).reverse.toList (a.size-1) b.size:=by
  have hc:=zeS e1;rw[show a.size-1+1=a.size by lia]at hc
  have:=mS.takeA T.sa (a.size-1) (by lia) λx hx y hy=>by rw[hc]at hy;rw[Ao.mp hy];exact hl a1 e1 x (BM hx)
  rw[hc]at this;simpa using this
 refine Ap (wpS_lift (Dl ⟨rfl,?_⟩));refine Ap (zax e1 ?_)
 by_cases ha1:a.size-1=0
 .rw[if_pos (by simp[ha1])];rw[ha1]at m0;rw[ha1];exact Av (hQ _ _ (end_A T m0) (Like.refl _))
 rw[if_neg (by simp[ha1])]
 by_cases hb1:b.size=1
 .rw[if_pos (by simp[hb1])];rw[hb1]at m0;rw[hb1];exact Av (hQ _ _ (end_B T h0 m0) (Like.refl _))
 rw[if_neg (by simp[hb1])];refine Ap (Em ?_)
 refine Ap (Cp (BE (I:=λx c st'=>Like st st'/\∃na nb out mg,c=(none,na,nb,out,mg)/\MJ (leOf L) a.toList b.toList out.reverse.toList na nb/\0<na/\1<nb/\na+nb+x+1<=a.size+b.size/\na<=a.size/\nb<=b.size)
  (Q:=λc st'=>Like st st'/\∃r,c.1=some r/\Res (leOf L) a.toList b.toList r.toList) ?step ?fin ⟨Like.refl _,_,_,_,_,rfl,m0,by lia,by lia,by lia,by lia,by lia⟩) ?post)
 case fin =>
  rintro c st' ⟨_,na,nb,out,mg,rfl,m,g1,g2,g3,g4,g5⟩;exact absurd g3 (by lia)
 case post =>
  rintro c st' ⟨lk,r,e,res⟩;rw[e];exact Av (hQ r st' res lk)
 case step =>
  rintro x c st' _ hx ⟨lk,na,nb,out,mg,rfl,m,g1,g2,g3,g4,g5⟩;exact zl3 O T (lk.1.trans hk) h0 m g1 g2 (by lia) g4 g5 (λz' h r _ _ _ _ e=>⟨Like.tr lk h,r,rfl,e⟩) λz' h _ _ _ _ e u1 u2 u3 u4 u5=>⟨Like.tr lk h,_,_,_,_,rfl,e,u1,u2,by lia,u4,u5⟩
end
end TS
namespace TS
open PySem PyProof.Rows
section
variable {M:Ey}{A:AS}{E:Value->Af->Prop}{s:Af}{kd:CZ}{S:Keyed->Prop}{L:Keyed->Keyed->Bool}
noncomputable def Seg(L:Keyed->Keyed->Bool)(a:Array Keyed)(lo n:Nat):Prop:=∀(i j:Nat) x y,i<=j->j<n->a[lo+i]?=some x->a[lo+j]?=some y->L y x=false
noncomputable def Rev(L:Keyed->Keyed->Bool)(a:Array Keyed)(lo n:Nat):Prop:=∀(i j:Nat) x y,i<=j->j<n->a[lo+i]?=some x->a[lo+j]?=some y->L x y=false
structure SB (kd:CZ) (S:Keyed->Prop) (st0 st:AQ) (lo hi:Nat):Prop where
 kind:kindOf st=kd
 pend:AU st=AU st0
 fail:CH st=CH st0
 perm:(Ax st).Perm (Ax st0)
 out:∀k:Nat,k<lo∨hi<=k->(Ax st)[k]?=(Ax st0)[k]?
 all:∀(k:Nat) x,(Ax st)[k]?=some x->S x
theorem SB.size{st0 st:AQ}{lo hi:Nat}(h:SB kd S st0 st lo hi):(Ax st).size=(Ax st0).size:=h.perm.size_eq
theorem zfh(O:LtOk M A E s kd S L){st:AQ}{i j:Nat}{x y:Keyed}{Q:Option Bool->AQ->Prop}(hk:kindOf st=kd)(hi:(Ax st)[i]?=some x)(hj:(Ax st)[j]?=some y)(sx:S x)(sy:S y)(q:Q (some (L x y)) st):wpS M A E s (ltAt' i j) Q st:=by rw[ltAt'_eq];refine Ap (Em ?_);refine Ap (zax hi ?_);refine Ap (zax hj ?_);exact O.lt x y sx sy st Q hk q
theorem zbv{st:AQ}{i:Nat}(h:i<(Ax st).size):∃x,(Ax st)[i]?=some x:=⟨(Ax st)[i],by simp[h]⟩
theorem Seg.more(O:LtOk M A E s kd S L){a:Array Keyed}{lo n:Nat}{x y:Keyed}(hS:∀(k:Nat) x,a[k]?=some x->S x)(h:Seg L a lo (n+1))(hx:a[lo+n]?=some x)(hy:a[lo+(n+1)]?=some y)(hl:L y x=false):Seg L a lo (n+2):=by
 intro i j u v hij hj hu hv;rcases Bl j (n+1) with q |q
 .exact h i j u v hij q hu hv
 .have ej:j=n+1:=by lia
  subst ej;rw[hy]at hv
  cases hv
  rcases Bl i (n+1) with q2 |q2
  .have h1:=h i n u x (by lia) (by lia) hu hx;exact O.tr u x y (hS _ _ hu) (hS _ _ hx) (hS _ _ hy) h1 hl
  .have ei:i=n+1:=by lia
   subst ei;rw[hy]at hu
   cases hu
   exact O.rf (hS _ _ hy)
noncomputable def Blk(L:Keyed->Keyed->Bool)(a:Array Keyed)(lo n q:Nat):Prop:=∀(i j:Nat) x y,n-(q+1)<=i->i<n->n-(q+1)<=j->j<n->a[lo+i]?=some x->a[lo+j]?=some y->L x y=false
theorem SB.refl{st:AQ}{lo hi:Nat}(hk:kindOf st=kd)(hS:∀(k:Nat) x,(Ax st)[k]?=some x->S x):SB kd S st st lo hi:=⟨hk,rfl,rfl,Array.Perm.refl _,λ_ _=>rfl,hS⟩
theorem SB.mir{st0 st:AQ}{lo hi i j:Nat}(h:SB kd S st0 st lo hi)(h1:lo<=i)(h2:j<=hi)(hz:j<=(Ax st).size):SB kd S st0 (setArr st (mirror (Ax st) i j ((j-i) / 2))) lo hi:=by
 refine⟨h.kind,h.pend,h.fail,(mirror_perm _ _ _ _).trans h.perm,λk hk=>?_,λk x hx=>?_⟩
 .show (mirror (Ax st) i j ((j-i) / 2))[k]?=_;rw[BQ hz,if_neg (by lia)];exact h.out k hk
 .have hx':(mirror (Ax st) i j ((j-i) / 2))[k]?=some x:=hx;rw[BQ hz]at hx';split at hx'
  .exact h.all _ x hx'
  .exact h.all _ x hx'
theorem Rev.blk{a:Array Keyed}{lo n q:Nat}(h:Rev L a lo n)(hb:Blk L a lo n q)(hq:q<n)(hz:lo+n<=a.size):Rev L (mirror a (lo+n-(q+1)) (lo+n) ((lo+n-(lo+n-(q+1))) / 2)) lo n:=by
 intro i j x y hij hj hx hy;rw[BQ hz]at hx hy
 by_cases hi:lo+n-(q+1)<=lo+i/\lo+i<lo+n
 .rw[if_pos hi]at hx;rw[if_pos (by lia)]at hy;rw[show lo+n-(q+1)+(lo+n)-1-(lo+i)=lo+(n-(q+1)+n-1-i) by lia]at hx;rw[show lo+n-(q+1)+(lo+n)-1-(lo+j)=lo+(n-(q+1)+n-1-j) by lia]at hy;exact hb _ _ x y (by lia) (by lia) (by lia) (by lia) hx hy
 .rw[if_neg hi]at hx
  by_cases hj':lo+n-(q+1)<=lo+j/\lo+j<lo+n
  .rw[if_pos hj']at hy;rw[show lo+n-(q+1)+(lo+n)-1-(lo+j)=lo+(n-(q+1)+n-1-j) by lia]at hy;exact h i _ x y (by lia) (by lia) hx hy
  .rw[if_neg hj']at hy;exact h i j x y hij hj hx hy
theorem Rev.flip{a:Array Keyed}{lo n:Nat}(h:Rev L a lo n)(hz:lo+n<=a.size):Seg L (mirror a lo (lo+n) ((lo+n-lo) / 2)) lo n:=by intro i j x y hij hj hx hy;rw[BQ hz,if_pos (by lia)]at hx hy;rw[show lo+(lo+n)-1-(lo+i)=lo+(n-1-i) by lia]at hx;rw[show lo+(lo+n)-1-(lo+j)=lo+(n-1-j) by lia]at hy;exact h _ _ y x (by lia) (by lia) hy hx
theorem Rev.more(O:LtOk M A E s kd S L){a:Array Keyed}{lo n:Nat}{x y:Keyed}(hS:∀(k:Nat) x,a[k]?=some x->S x)(h:Rev L a lo (n+1))(hx:a[lo+n]?=some x)(hy:a[lo+(n+1)]?=some y)(hl:L x y=false):Rev L a lo (n+2):=by
 intro i j u v hij hj hu hv;rcases Bl j (n+1) with q |q
 .exact h i j u v hij q hu hv
 .have ej:j=n+1:=by lia
  subst ej;rw[hy]at hv
  cases hv
  rcases Bl i (n+1) with q2 |q2
  .have h1:=h i n u x (by lia) (by lia) hu hx;exact O.tr y x u (hS _ _ hy) (hS _ _ hx) (hS _ _ hu) hl h1
  .have ei:i=n+1:=by lia
   subst ei;rw[hy]at hu
   cases hu
   exact O.rf (hS _ _ hy)
theorem Blk.more(O:LtOk M A E s kd S L){a:Array Keyed}{lo n q:Nat}{x y:Keyed}(hS:∀(k:Nat) x,a[k]?=some x->S x)(h:Blk L a lo (n+1) q)(hq:q<n+1)(hx:a[lo+n]?=some x)(hy:a[lo+(n+1)]?=some y)(h1:L x y=false)(h2:L y x=false):Blk L a lo (n+2) (q+1):=by
 have old:∀(i:Nat) u,n+1-(q+1)<=i->i<n+1->a[lo+i]?=some u->L u y=false/\L y u=false:=λi u a1 a2 hu=>by have e1:=h i n u x a1 a2 (by lia) (by lia) hu hx;have e2:=h n i x u (by lia) (by lia) a1 a2 hx hu;exact⟨O.tr y x u (hS _ _ hy) (hS _ _ hx) (hS _ _ hu) h1 e1,O.tr u x y (hS _ _ hu) (hS _ _ hx) (hS _ _ hy) e2 h2⟩
 intro i j u v a1 a2 b1 b2 hu hv;rcases Bl i (n+1) with ci |ci
 .rcases Bl j (n+1) with cj |cj
  .exact h i j u v (by lia) ci (by lia) cj hu hv
  .have ej:j=n+1:=by lia
   subst ej;rw[hy]at hv;cases hv;exact (old i u (by lia) ci hu).1
 .have ei:i=n+1:=by lia
  subst ei;rw[hy]at hu;cases hu;rcases Bl j (n+1) with cj |cj
  .exact (old j v (by lia) cj hv).2
  .have ej:j=n+1:=by lia
   subst ej;rw[hy]at hv;cases hv;exact O.rf (hS _ _ hy)
theorem Blk.one(O:LtOk M A E s kd S L){a:Array Keyed}{lo n:Nat}(hS:∀(k:Nat) x,a[k]?=some x->S x):Blk L a lo (n+1) 0:=λi j x y a1 a2 b1 b2 hx hy=>by
 have ei:i=n:=by lia
 have ej:j=n:=by lia
 subst ei;subst ej;rw[hx]at hy;cases hy;exact O.rf (hS _ _ hx)
theorem zgH{B:Prop}{D:AQ->Prop}(C:AQ->Prop)(g:(∀st,D st->C st)->B)(h:∀st,D st->C st):B:=g h
theorem zgr (O : LtOk M A E s kd S L){st : AQ}{lo nrem : Nat}{Q : Option Nat → AQ → Prop}(h1 : 1 ≤ nrem) (hz : lo + nrem ≤ (Ax st).size) (hk : kindOf st = kd) (hS : ∀ (k : Nat) x, (Ax st)[k]? = some x → S x)
    (hQ:∀ m st',SB kd S st st' lo (lo+nrem)→1≤m→m≤nrem→Seg L (Ax st') lo m→Q (some m) st'):wpS M A E s (countRun' lo nrem) Q st:=by
  rw[countRun'_eq]
  refine Ap (Cp (BE (I:=λx c st'=>c=(none,x)∧st'=st∧x≤nrem∧Seg L (Ax st) lo x)
    (Q:=λc st'=>∃ m,c=(none,m)∧st'=st∧1≤m∧m≤nrem∧Seg L (Ax st) lo m∧(m<nrem→∃ x y,(Ax st)[lo+m]?=some x∧(Ax st)[lo+m - 1]?=some y∧L x y=true)) ?step ?fin ?init) ?post)
  case init =>
    refine⟨rfl,rfl,h1,λi j x y hij hj hx hy=>?_⟩
    have ei:i=0:=by lia
    have ej:j=0:=by lia
    subst ei;subst ej
    rw[hx] at hy
    cases hy
    exact O.rf (hS _ _ hx)
  case fin =>
    rintro c st' ⟨rfl,rfl,hle,hsg⟩
    exact⟨_,rfl,rfl,by lia,hle,hsg,λh=>absurd h (by lia)⟩
  case step =>
    rintro n c st' hn1 hn2 ⟨rfl,rfl,hle,hsg⟩
    obtain⟨x,hx⟩:=zbv (st:=st') (i:=lo+n) (by lia)
    obtain⟨y,hy⟩:=zbv (st:=st') (i:=lo+n - 1) (by lia)
    refine Ap (zfh O hk hx hy (hS _ _ hx) (hS _ _ hy) ?_)
    dsimp only
    by_cases hl:L x y=true
    . rw[if_pos hl]
      exact Av ⟨n,rfl,rfl,hn1,hle,hsg,λ_=>⟨x,y,hx,hy,hl⟩⟩
    . rw[if_neg hl]
      refine Av ⟨rfl,rfl,hn2,?_⟩
      obtain⟨p,rfl⟩:∃ p,n=p+1:=⟨n - 1,by lia⟩
      exact hsg.more O hS (by rw[show lo+(p+1) - 1=lo+p by lia] at hy;exact hy) hx (by simpa using hl)
  case post =>
    rintro c st' ⟨m,rfl,rfl,hm1,hm2,hsg,hnx⟩
    dsimp only
    by_cases hmn:(m == nrem)=true
    . rw[if_pos hmn]
      exact Av (hQ m st' (SB.refl hk hS) hm1 hm2 hsg)
    . rw[if_neg hmn]
      have hlt : m < nrem := by have : m ≠ nrem := by simpa using hmn
                                lia
      obtain⟨x0,y0,hx0,hy0,hl0⟩:=hnx hlt
      refine zgH (D:=λst1=>SB kd S st' st1 lo (lo+nrem)∧Rev L (Ax st1) lo m∧(∃ x y,(Ax st1)[lo+m]?=some x∧(Ax st1)[lo+m - 1]?=some y∧L y x=false)) ?C (λshare=>?g) ?h
      case g =>
        by_cases hm:m > 1
        . rw[if_pos hm]
          obtain⟨a,ha⟩:=zbv (st:=st') (i:=lo) (by lia)
          obtain⟨b,hb⟩:=zbv (st:=st') (i:=lo+m - 1) (by lia)
          refine Ap (zfh O hk ha hb (hS _ _ ha) (hS _ _ hb) ?_)
          dsimp only
          by_cases hr:L a b=true
          . rw[if_pos hr]
            exact Av (hQ m st' (SB.refl hk hS) hm1 hm2 hsg)
          . rw[if_neg hr]
            have hr':L a b=false:=by simpa using hr
            rw[reverseSlice'_eq]
            refine Ap (BS ?_)
            have hz2:lo+m≤(Ax st').size:=by lia
            have hb':(Ax st')[lo+(m - 1)]?=some b:=by rw[show lo+(m - 1)=lo+m - 1 by lia];exact hb
            have eqv:Rev L (Ax st') lo m:=λi j x y hij hj hx hy=>by
              have e1:=hsg 0 j a y (by lia) hj (by simpa using ha) hy
              have e2:=hsg i (m - 1) x b (by lia) (by lia) hx hb'
              have e3:=O.tr x b a (hS _ _ hx) (hS _ _ hb) (hS _ _ ha) e2 hr'
              have e4:=hsg j (m - 1) y b (by lia) (by lia) hy hb'
              have e5:=hsg 0 i a x (by lia) (by lia) (by simpa using ha) hx
              exact O.tr y b x (hS _ _ hy) (hS _ _ hb) (hS _ _ hx) e4 (O.tr b a x (hS _ _ hb) (hS _ _ ha) (hS _ _ hx) hr' e5)
            have rv2:Rev L (mirror (Ax st') lo (lo+m) ((lo+m - lo) / 2)) lo m:=λi j x y hij hj hx hy=>by
              rw[BQ hz2,if_pos (by lia)] at hx hy
              rw[show lo+(lo+m) - 1 - (lo+i)=lo+(m - 1 - i) by lia] at hx
              rw[show lo+(lo+m) - 1 - (lo+j)=lo+(m - 1 - j) by lia] at hy
              exact hsg _ _ y x (by lia) (by lia) hy hx
            refine share _ ⟨(SB.refl hk hS).mir (Ai _) (by lia) hz2,rv2,x0,a,?_,?_,?_⟩
            . show (mirror (Ax st') lo (lo+m) ((lo+m - lo) / 2))[lo+m]?=_
              rw[BQ hz2,if_neg (by lia)];exact hx0
            . show (mirror (Ax st') lo (lo+m) ((lo+m - lo) / 2))[lo+m - 1]?=_
              rw[BQ hz2,if_pos (by lia),show lo+(lo+m) - 1 - (lo+m - 1)=lo by lia];exact ha
            . have eb:b=y0:=by rw[hb] at hy0;exact A0 hy0
              subst eb
              exact O.tr x0 b a (hS _ _ hx0) (hS _ _ hb) (hS _ _ ha) (O.as x0 b (hS _ _ hx0) (hS _ _ hb) hl0) hr'
        . rw[if_neg hm]
          have em:m=1:=by lia
          subst em
          refine share _ ⟨SB.refl hk hS,λi j x y hij hj hx hy=>?_,x0,y0,hx0,hy0,O.as x0 y0 (hS _ _ hx0) (hS _ _ hy0) hl0⟩
          have ei:i=0:=by lia
          have ej:j=0:=by lia
          subst ei;subst ej
          rw[hx] at hy;cases hy
          exact O.rf (hS _ _ hx)
      case h =>
        rintro st1 ⟨sb1,rv1,x1,y1,hx1,hy1,hl1⟩
        have hz1:lo+nrem≤(Ax st1).size:=by rw[sb1.size];exact hz
        refine Ap (wpS_lift (Dl ⟨rfl,?_⟩))
        obtain⟨p,rfl⟩:∃ p,m=p+1:=⟨m - 1,by lia⟩
        rw[show lo+(p+1) - 1=lo+p by lia] at hy1
        have rv2:Rev L (Ax st1) lo (p+1+1):=rv1.more O sb1.all hy1 hx1 hl1
        refine Ap (Cp (BE (I:=λx c st2=>∃ q,c=(none,x,q)∧SB kd S st' st2 lo (lo+nrem)∧1≤x∧x≤nrem∧q<x∧Rev L (Ax st2) lo x∧Blk L (Ax st2) lo x q)
          (Q:=λc st2=>∃ x q,c=(none,x,q)∧SB kd S st' st2 lo (lo+nrem)∧1≤x∧x≤nrem∧q<x∧Rev L (Ax st2) lo x∧Blk L (Ax st2) lo x q) ?step ?fin ⟨0,rfl,sb1,by lia,by lia,by lia,rv2,Blk.one O sb1.all⟩) ?post)
        case fin =>
          rintro c st2 ⟨q,rfl,hh⟩
          exact⟨_,q,rfl,hh⟩
        case step =>
          rintro x c st2 hx1' hx2 ⟨q,rfl,sb2,hn1,hn2,hq,rv,bk⟩
          have hz2:lo+nrem≤(Ax st2).size:=by rw[sb2.size];exact hz
          obtain⟨u,hu⟩:=zbv (st:=st2) (i:=lo+x) (by lia)
          obtain⟨v,hv⟩:=zbv (st:=st2) (i:=lo+x - 1) (by lia)
          obtain⟨r,rfl⟩:∃ r,x=r+1:=⟨x - 1,by lia⟩
          rw[show lo+(r+1) - 1=lo+r by lia] at hv
          refine Ap (zfh O sb2.kind hu (by rw[show lo+(r+1) - 1=lo+r by lia];exact hv) (sb2.all _ _ hu) (sb2.all _ _ hv) ?_)
          dsimp only
          by_cases hl:L u v=true
          . rw[if_pos hl]
            have hvu:=O.as u v (sb2.all _ _ hu) (sb2.all _ _ hv) hl
            by_cases hq0:q > 0
            . rw[if_pos hq0,reverseSlice'_eq]
              refine Ap (BS ?_)
              have hzr:lo+(r+1)≤(Ax st2).size:=by lia
              have sb3:=sb2.mir (i:=lo+(r+1) - (q+1)) (j:=lo+(r+1)) (by lia) (by lia) hzr
              have rv3:=rv.blk bk hq hzr
              refine Av ⟨0,rfl,sb3,by lia,by lia,by lia,?_,Blk.one O sb3.all⟩
              have hz3:r<r+1:=by lia
              obtain⟨v2,hv2⟩:=zbv (st:=setArr st2 (mirror (Ax st2) (lo+(r+1) - (q+1)) (lo+(r+1)) ((lo+(r+1) - (lo+(r+1) - (q+1))) / 2))) (i:=lo+r) (by show lo+r<(mirror (Ax st2) _ _ _).size;rw[mirror_size];lia)
              have hv2':(Ax st2)[lo+(r+1 - (q+1)+r - r)]?=some v2:=by
                have h0:(mirror (Ax st2) (lo+(r+1) - (q+1)) (lo+(r+1)) ((lo+(r+1) - (lo+(r+1) - (q+1))) / 2))[lo+r]?=some v2:=hv2
                rw[BQ hzr,if_pos (by lia),show lo+(r+1) - (q+1)+(lo+(r+1)) - 1 - (lo+r)=lo+(r+1 - (q+1)+r - r) by lia] at h0
                exact h0
              refine rv3.more O sb3.all hv2 (y:=u) ?_ ?_
              . show (mirror (Ax st2) (lo+(r+1) - (q+1)) (lo+(r+1)) ((lo+(r+1) - (lo+(r+1) - (q+1))) / 2))[lo+(r+1)]?=some u
                rw[BQ hzr,if_neg (by lia)];exact hu
              . exact O.tr u v v2 (sb2.all _ _ hu) (sb2.all _ _ hv) (sb2.all _ _ hv2') hvu (rv _ r v2 v (by lia) (by lia) hv2' hv)
            . rw[if_neg hq0]
              exact Av ⟨0,rfl,sb2,by lia,by lia,by lia,rv.more O sb2.all hv hu hvu,Blk.one O sb2.all⟩
          . rw[if_neg hl]
            have hl':L u v=false:=by simpa using hl
            refine Ap (zfh O sb2.kind (by rw[show lo+(r+1) - 1=lo+r by lia];exact hv) hu (sb2.all _ _ hv) (sb2.all _ _ hu) ?_)
            dsimp only
            by_cases hg:L v u=true
            . rw[if_pos hg]
              exact Av ⟨r+1,q,rfl,sb2,hn1,hn2,hq,rv,bk⟩
            . rw[if_neg hg]
              have hg':L v u=false:=by simpa using hg
              exact Av ⟨q+1,rfl,sb2,by lia,by lia,by lia,rv.more O sb2.all hv hu hg',bk.more O sb2.all hq hv hu hg' hl'⟩
        case post =>
          rintro c st2 ⟨x,q,rfl,sb2,hx1',hx2,hq,rv,bk⟩
          dsimp only
          have hz2:lo+nrem≤(Ax st2).size:=by rw[sb2.size];exact hz
          refine zgH (D:=λst3=>SB kd S st' st3 lo (lo+nrem)∧Rev L (Ax st3) lo x) ?C2 (λshare=>?g2) ?h2
          case g2 =>
            by_cases hq0:q > 0
            . rw[if_pos hq0,reverseSlice'_eq]
              refine Ap (BS ?_)
              exact share _ ⟨sb2.mir (by lia) (by lia) (by lia),rv.blk bk hq (by lia)⟩
            . rw[if_neg hq0]
              exact share _ ⟨sb2,rv⟩
          case h2 =>
            rintro st3 ⟨sb3,rv3⟩
            have hz3:lo+nrem≤(Ax st3).size:=by rw[sb3.size];exact hz
            rw[reverseSlice'_eq]
            refine Ap (BS ?_)
            have sb4:=sb3.mir (i:=lo) (j:=lo+x) (Ai _) (by lia) (by lia)
            have sg4:=rv3.flip (show lo+x≤(Ax st3).size by lia)
            have sg5:Seg L (Ax (setArr st3 (mirror (Ax st3) lo (lo+x) ((lo+x - lo) / 2)))) lo x:=sg4
            generalize setArr st3 (mirror (Ax st3) lo (lo+x) ((lo+x - lo) / 2))=st4 at sb4 sg5
            have hz4:lo+nrem≤(Ax st4).size:=by rw[sb4.size];exact hz
            refine Ap (Cp (BE (I:=λn c st5=>c=(none,n)∧st5=st4∧n≤nrem∧Seg L (Ax st4) lo n) (Q:=λc st5=>∃ m,c=(none,m)∧st5=st4∧1≤m∧m≤nrem∧Seg L (Ax st4) lo m) ?step ?fin ⟨rfl,rfl,hx2,sg5⟩) ?post)
            case fin =>
              rintro c st5 ⟨rfl,rfl,hle,hsg⟩
              exact⟨_,rfl,rfl,by lia,hle,hsg⟩
            case step =>
              rintro n c st5 hn1 hn2 ⟨rfl,rfl,hle,hsg⟩
              obtain⟨u,hu⟩:=zbv (st:=st5) (i:=lo+n) (by lia)
              obtain⟨v,hv⟩:=zbv (st:=st5) (i:=lo+n - 1) (by lia)
              refine Ap (zfh O sb4.kind hu hv (sb4.all _ _ hu) (sb4.all _ _ hv) ?_)
              dsimp only
              by_cases hl:L u v=true
              . rw[if_pos hl]
                exact Av ⟨n,rfl,rfl,by lia,hle,hsg⟩
              . rw[if_neg hl]
                refine Av ⟨rfl,rfl,hn2,?_⟩
                obtain⟨p,rfl⟩:∃ p,n=p+1:=⟨n - 1,by lia⟩
                exact hsg.more O sb4.all (by rw[show lo+(p+1) - 1=lo+p by lia] at hv;exact hv) hu (by simpa using hl)
            case post =>
              rintro c st5 ⟨n,rfl,rfl,h1n,hn2,hsg⟩
              exact Av (hQ n st5 sb4 h1n hn2 hsg)
end
end TS
namespace TS
open PySem PyProof.Rows
section
variable {M:Ey}{A:AS}{E:Value->Af->Prop}{s:Af}{kd:CZ}{S:Keyed->Prop}{L:Keyed->Keyed->Bool}
theorem SB.bub{st0 st:AQ}{lo hi i d:Nat}(h:SB kd S st0 st lo hi)(h1:lo<=i-d)(hd:d<=i)(h2:i<hi)(hz:i<(Ax st).size):SB kd S st0 (setArr st (bubble (Ax st) i d)) lo hi:=by
 refine⟨h.kind,h.pend,h.fail,(bubble_perm _ _ _).trans h.perm,λk hk=>?_,λk x hx=>?_⟩
 .show (bubble (Ax st) i d)[k]?=_;rw[getElem?_bubble hz _ hd,if_neg (by lia),if_neg (by lia)];exact h.out k hk
 .have hx':(bubble (Ax st) i d)[k]?=some x:=hx;rw[getElem?_bubble hz _ hd]at hx';split at hx'
  .exact h.all _ x hx'
  .split at hx'
   .exact h.all _ x hx'
   .exact h.all _ x hx'
theorem Seg.ins(O:LtOk M A E s kd S L){a:Array Keyed}{lo k l:Nat}{p:Keyed}(hS:∀(k:Nat) x, a[k]? = some x -> S x)(h:Seg L a lo k)(hlk:l <= k)(hz:lo + k < a.size)(hp:a[lo + k]? = some p)
  (h1:∀(i:Nat) x,i<l->a[lo+i]?=some x->L p x=false) (h2:∀(i:Nat) x,l<=i->i<k->a[lo+i]?=some x->L p x=true):Seg L (bubble a (lo+k) (lo+k-(lo+l))) lo (k+1):=by
 have at':∀(i:Nat) x,i<k+1->(bubble a (lo+k) (lo+k-(lo+l)))[lo+i]?=some x->(i<l/\a[lo+i]?=some x)∨(i=l/\x=p)∨(l<i/\a[lo+(i-1)]?=some x):=λi x hi hx=>by
  rw[getElem?_bubble hz _ (by lia)]at hx
  by_cases e:lo+i=lo+k-(lo+k-(lo+l))
  .rw[if_pos e,hp]at hx;exact .inr (.inl ⟨by lia,(A0 hx).symm⟩)
  .rw[if_neg e]at hx
   by_cases e2:lo+k-(lo+k-(lo+l))<lo+i/\lo+i<=lo+k
   .rw[if_pos e2,show lo+i-1=lo+(i-1) by lia]at hx;exact .inr (.inr ⟨by lia,hx⟩)
   .rw[if_neg e2]at hx;exact .inl ⟨by lia,hx⟩
 intro i j x y hij hj hx hy;have sp:=hS _ _ hp;rcases at' i x (by lia) hx with⟨a1,a2⟩ |⟨a1,a2⟩ |⟨a1,a2⟩
 .rcases at' j y hj hy with⟨b1,b2⟩ |⟨b1,b2⟩ |⟨b1,b2⟩
  .exact h i j x y hij (by lia) a2 b2
  .rw[b2];exact h1 i x a1 a2
  .exact h i (j-1) x y (by lia) (by lia) a2 b2
 .subst a2;rcases at' j y hj hy with⟨b1,b2⟩ |⟨b1,b2⟩ |⟨b1,b2⟩
  .lia
  .rw[b2];exact O.rf sp
  .exact O.as x y sp (hS _ _ b2) (h2 (j-1) y (by lia) (by lia) b2)
 .rcases at' j y hj hy with⟨b1,b2⟩ |⟨b1,b2⟩ |⟨b1,b2⟩
  .lia
  .lia
  .exact h (i-1) (j-1) x y (by lia) (by lia) a2 b2
theorem zeW(O:LtOk M A E s kd S L){st:AQ}{lo n ok:Nat}{Q:Bool -> AQ -> Prop}(hok : 1 <= ok)(hn:ok <= n)(hz:lo + n <= (Ax st).size)(hk:kindOf st=kd)(hS:∀(k:Nat) x, (Ax st)[k]? = some x -> S x)(hs:Seg L (Ax st) lo ok)
  (hQ:∀st',SB kd S st st' lo (lo+n)->Seg L (Ax st') lo n->Q true st'):wpS M A E s (binarySort' lo n ok) Q st:=by
 rw[binarySort'_eq];have em:max ok 1=ok:=by lia
 rw[em]
 refine Ap (Cp (BE (I:=λk c st'=>c=(none,())/\SB kd S st st' lo (lo+n)/\k<=n/\Seg L (Ax st') lo k)
  (Q:=λc st'=>c=(none,())/\SB kd S st st' lo (lo+n)/\Seg L (Ax st') lo n) ?step ?fin ⟨rfl,SB.refl hk hS,hn,hs⟩) ?post)
 case post =>
  rintro c st' ⟨rfl,sb,sg⟩;exact Av (hQ st' sb sg)
 case fin =>
  rintro c st' ⟨rfl,sb,hle,sg⟩;rw[show max ok n=n by lia]at sg;exact⟨rfl,sb,sg⟩
 case step =>
  rintro k c st' hk1 hk2 ⟨rfl,sb,hle,sg⟩;have hz':lo+n<=(Ax st').size:=by rw[sb.size];exact hz
  obtain⟨p,hp⟩:=zbv (st:=st') (i:=lo+k) (by lia);dsimp only
  refine Ap (Cp (BE (I:=λx c st2=>∃l r,c=(none,l,r)/\st2=st'/\l<=r/\r<=k/\r-l<=k-x/\(∀(i:Nat) z,i<l->(Ax st')[lo+i]?=some z->L p z=false)/\(∀(i:Nat) z,r<=i->i<k->(Ax st')[lo+i]?=some z->L p z=true))
   (Q:=λc st2=>∃l,c=(none,l,l)/\st2=st'/\l<=k/\(∀(i:Nat) z,i<l->(Ax st')[lo+i]?=some z->L p z=false)/\(∀(i:Nat) z,l<=i->i<k->(Ax st')[lo+i]?=some z->L p z=true)) ?step2 ?fin2 ⟨0,k,rfl,rfl,AT _,Ai _,Ai _,(λi z h=>absurd h (Nat.not_lt_zero _)),(λi z h1 h2=>absurd h2 (by lia))⟩) ?post2)
  case fin2 =>
   rintro c st2 ⟨l,r,rfl,rfl,h1,h2,h3,h4,h5⟩;have:l=r:=by lia
   subst this;exact⟨l,rfl,rfl,h2,h4,h5⟩
  case step2 =>
   rintro x c st2 _ hx ⟨l,r,rfl,rfl,h1,h2,h3,h4,h5⟩;dsimp only
   by_cases hlr:l ≥ r
   .rw[if_pos hlr];have:l=r:=by lia
    subst this;exact Av ⟨l,rfl,rfl,h2,h4,h5⟩
   .rw[if_neg hlr];obtain⟨u,hu⟩:=zbv (st:=st2) (i:=lo+(l+r) / 2) (by lia);refine Ap (zfh O sb.kind hp hu (sb.all _ _ hp) (sb.all _ _ hu) ?_);dsimp only
    by_cases hl:L p u=true
    .rw[if_pos hl];refine Av ⟨l,(l+r) / 2,rfl,rfl,by lia,by lia,by lia,h4,λi z a1 a2 hz2=>?_⟩
     cases q:L p z with
     |true=>rfl
     |false =>
      have e1:=sg ((l+r) / 2) i u z a1 a2 hu hz2;have e2:=O.tr u z p (sb.all _ _ hu) (sb.all _ _ hz2) (sb.all _ _ hp) e1 q;rw[hl]at e2;cases e2
    .rw[if_neg hl];have hl':L p u=false:=by simpa using hl
     refine Av ⟨(l+r) / 2+1,r,rfl,rfl,by lia,by lia,by lia,λi z a1 hz2=>?_,h5⟩;have e1:=sg i ((l+r) / 2) z u (by lia) (by lia) hz2 hu;exact O.tr z u p (sb.all _ _ hz2) (sb.all _ _ hu) (sb.all _ _ hp) e1 hl'
  case post2 =>
   rintro c st2 ⟨l,rfl,rfl,h2,h4,h5⟩;dsimp only;rw[moveDown'_eq];refine Ap (BS (Av ⟨rfl,sb.bub (by lia) (by lia) (by lia) (by lia),by lia,?_⟩));exact sg.ins O sb.all h2 (by lia) hp h4 h5
end
end TS
set_option maxHeartbeats 8000000
namespace TS
open PySem PyProof.Rows
noncomputable def wr(a:Array Keyed)(o:Nat)(l:List Keyed)(k:Nat):Array Keyed:=(l.zipIdx k).foldl (λa (p:Keyed×Nat)=>a.setIfInBounds (o+p.2) p.1) a
theorem zjM:∀(l:List Keyed) (k:Nat) (a:Array Keyed) (o i:Nat),o+k+l.length<=a.size->(wr a o l k)[i]?=if o+k<=i/\i<o+k+l.length then l[i-(o+k)]? else a[i]?
 |[],k,a,o,i,_=>by
  show a[i]?=_;rw[if_neg (by simp)]
 |x::l,k,a,o,i,hz=>by
  have ih:=zjM l (k+1) (a.setIfInBounds (o+k) x) o i (by rw[Array.size_setIfInBounds];simp at hz;lia);unfold wr at ih ⊢;rw[List.zipIdx_cons,List.foldl_cons,ih];simp only[A9]at hz ⊢
  by_cases h1:o+(k+1)<=i/\i<o+(k+1)+l.length
  .rw[if_pos h1,if_pos (by lia),show i-(o+k)=(i-(o+(k+1)))+1 by lia];rfl
  .rw[if_neg h1]
   by_cases h2:i=o+k
   .subst h2;rw[if_pos (by lia),Nat.sub_self];rw[Array.getElem?_setIfInBounds_self_of_lt (by lia)];rfl
   .rw[if_neg (by lia),Array.getElem?_setIfInBounds_ne (Cz h2)]
theorem zmR{a:Array Keyed}{o:Nat}{l:List Keyed}(hz:o+l.length<=a.size):(wr a o l 0).toList=a.toList.take o++l++a.toList.drop (o+l.length):=by
 apply List.ext_getElem?
 intro i;rw[Bv,zjM l 0 a o i (by simpa using hz)];have h1:(a.toList.take o).length=o:=by rw[AA,AN];lia
 by_cases c1:i<o
 .rw[if_neg (by lia),AB,Aj (by lia),List.getElem?_take,if_pos c1,Bv]
 .by_cases c2:i<o+l.length
  .rw[if_pos (by lia),AB,Ar (by lia),Aj (by lia),h1];rfl
  .rw[if_neg (by lia),Ar (by simp;lia),Et,<- Bv]
   congr 1
   simp;lia
section
variable {M:Ey}{A:AS}{E:Value->Af->Prop}{s:Af}{kd:CZ}{S:Keyed->Prop}{L:Keyed->Keyed->Bool}
structure SM (kd:CZ) (S:Keyed->Prop) (L:Keyed->Keyed->Bool) (st0 st:AQ) (pd:Array (Nat×Nat×Nat)) (lo n:Nat):Prop where
 kind:kindOf st=kd
 pend:AU st=pd
 fail:CH st=none
 perm:(Ax st).Perm (Ax st0)
 out:∀k:Nat,k<lo∨lo+n<=k->(Ax st)[k]?=(Ax st0)[k]?
 all:∀(k:Nat) x,(Ax st)[k]?=some x->S x
 seg:Seg L (Ax st) lo n
theorem Seg.glue{a:Array Keyed}(O:LtOk M A E s kd S L){lo n m:Nat}(hS:∀(k:Nat) x,a[k]?=some x->S x)(h1:Seg L a lo n)(h2:Seg L a (lo+n) m)(h:∀x y,a[lo+(n-1)]?=some x->a[lo+n]?=some y->L y x=false)(hn:0<n)(hz:lo+n+m<=a.size):Seg L a lo (n+m):=by
 intro i j x y hij hj hx hy;rcases Bl j n with cj |cj
 .exact h1 i j x y hij cj hx hy
 .rw[show lo+j=lo+n+(j-n) by lia]at hy;rcases Bl i n with ci |ci
  .have e1:a[lo+(n-1)]?=some a[lo+(n-1)]:=by rw[B3 (by lia)]
   have e2:a[lo+n]?=some a[lo+n]:=by rw[B3 (by lia)]
   have q1:=h1 i (n-1) x _ (by lia) (by lia) hx e1;have q2:=h _ _ e1 e2;have q3:=h2 0 (j-n) _ y (AT _) (by lia) e2 hy;exact O.tr x _ y (hS _ _ hx) (hS _ _ e1) (hS _ _ hy) q1 (O.tr _ _ y (hS _ _ e1) (hS _ _ e2) (hS _ _ hy) q2 q3)
  .rw[show lo+i=lo+n+(i-n) by lia]at hx;exact h2 (i-n) (j-n) x y (by lia) (by lia) hx hy
theorem zmS{x:AQ}{Q:PUnit->AQ->Prop}{st:AQ}(h:Q ⟨⟩ x):wpS M A E s (set x:StateT AQ Sem PUnit) Q st:=by unfold wpS;rw[StateT.run_set];exact Ak ⟨rfl,h⟩
theorem zgo{a:Array Keyed}{o n i:Nat}(hz:o+n<=a.size):(a.extract o (o+n))[i]?=if i<n then a[o+i]? else none:=by
 rw[Array.getElem?_extract]
 by_cases h:i<n
 .rw[if_pos h,if_pos (by lia)]
 .rw[if_neg h,if_neg (by lia)]
theorem ziz{a:Array Keyed}{o n:Nat}(hz:o+n<=a.size)(h:Seg L a o n):(a.extract o (o+n)).toList.Pairwise (leOf L):=by
 rw[D2];intro i j hi hj hij;rw[AN,Cu]at hi hj;have e1:(a.extract o (o+n))[i]?=some (a.extract o (o+n)).toList[i]:=by rw[<- Bv,Ab]
 have e2:(a.extract o (o+n))[j]?=some (a.extract o (o+n)).toList[j]:=by rw[<- Bv,Ab]
 rw[zgo hz,if_pos (by lia)]at e1 e2;exact h i j _ _ (by lia) (by lia) e1 e2
theorem zdV{a:Array Keyed}{o n:Nat}{x:Keyed}(hz:o+n<=a.size)(h:x∈(a.extract o (o+n)).toList):∃i,i<n/\a[o+i]?=some x:=by
 obtain⟨i,hi,e⟩:=A6 h;have e1:(a.extract o (o+n))[i]?=some x:=by rw[<- Bv,Ab hi,e]
 rw[AN,Cu]at hi;refine⟨i,by lia,?_⟩;rw[zgo hz,if_pos (by lia)]at e1;exact e1
theorem SM.write(O:LtOk M A E s kd S L){st0 st:AQ}{pd:Array (Nat × Nat × Nat)}{sa na nb k m:Nat}{r:Array Keyed}(hna : 1 <= na)(hk:k < na)(hm0 : 0 < m)(hm:m <= nb)(hz:sa + na + nb <= (Ax st0).size)(hS:∀(k:Nat) x, (Ax st0)[k]? = some x -> S x)
  (sA:Seg L (Ax st0) sa na) (sB:Seg L (Ax st0) (sa+na) nb) (y0 z0:Keyed) (hy0:(Ax st0)[sa+na]?=some y0) (hz0:(Ax st0)[sa+(na-1)]?=some z0)
  (A1:∀(i:Nat) x,i<k->(Ax st0)[sa+i]?=some x->L y0 x=false) (B2:∀(i:Nat) y,m<=i->i<nb->(Ax st0)[sa+na+i]?=some y->L y z0=false)
  (hr:Res (leOf L) ((Ax st0).extract (sa+k) (sa+k+(na-k))).toList ((Ax st0).extract (sa+na) (sa+na+m)).toList r.toList) (hkd:kindOf st=kd) (hp:AU st=pd) (hf:CH st=none) (ha:Ax st=wr (Ax st0) (sa+k) r.toList 0) :
  SM kd S L st0 st pd sa (na+nb):=by
 obtain⟨hperm,hpair⟩:=hr
 have hrl:r.toList.length=(na-k)+m:=by rw[hperm.length_eq,Am,AN,AN,Cu,Cu];lia
 have hz2:sa+k+r.toList.length<=(Ax st0).size:=by lia
 have get':∀i:Nat,(Ax st)[i]?=if sa+k<=i/\i<sa+k+r.toList.length then r.toList[i-(sa+k)]? else (Ax st0)[i]?:=λi=>by rw[ha,zjM _ _ _ _ _ (by lia)];simp only[Nat.add_zero]
 have rmem:∀x∈r.toList,(∃i,k<=i/\i<na/\(Ax st0)[sa+i]?=some x)∨(∃i,i<m/\(Ax st0)[sa+na+i]?=some x):=λx hx=>by
  rcases Az.mp (hperm.mem_iff.mp hx) with q |q
  .obtain⟨i,hi,e⟩:=zdV (by lia) q;exact .inl ⟨k+i,by lia,by lia,by rw[show sa+(k+i)=sa+k+i by lia];exact e⟩
  .obtain⟨i,hi,e⟩:=zdV (by lia) q;exact .inr ⟨i,hi,e⟩
 have y0le:∀(i:Nat) y,i<nb->(Ax st0)[sa+na+i]?=some y->L y y0=false:=λi y hi hy=>sB 0 i y0 y (AT _) hi (by simpa using hy0) hy
 have lez0:∀(i:Nat) x,i<na->(Ax st0)[sa+i]?=some x->L z0 x=false:=λi x hi hx=>sA i (na-1) x z0 (by lia) (by lia) hx hz0
 refine⟨hkd,hp,hf,?_,λi hi=>?_,λi x hx=>?_,λi j x y hij hj hx hy=>?_⟩
 .rw[ha];refine Array.perm_iff_toList_perm.mpr ?_
  rw[zmR hz2]
  have e:(Ax st0).toList=(Ax st0).toList.take (sa+k)++(((Ax st0).extract (sa+k) (sa+k+(na-k))).toList++((Ax st0).extract (sa+na) (sa+na+m)).toList)++(Ax st0).toList.drop (sa+k+r.toList.length):=by rw[zc2,zc2];have d1:=Cq (sa+k) (Ax st0).toList;have d2:=zc7 (Ax st0).toList (sa+k) (na-k);have d3:=zc7 (Ax st0).toList (sa+na) m;rw[show sa+k+(na-k)=sa+na by lia]at d2;rw[show sa+k+r.toList.length=sa+na+m by lia,AB,AB,<- d3,<- d2,d1]
  conv=>rhs;rw[e]
  exact (hperm.append_left _).append_right _
 .rw[get',if_neg (by lia)]
 .rw[get']at hx;split at hx
  .rcases rmem x (An hx) with⟨_,_,_,e⟩ |⟨_,_,e⟩
   .exact hS _ _ e
   .exact hS _ _ e
  .exact hS _ _ hx
 .rw[get']at hx hy
  by_cases ci:sa+k<=sa+i/\sa+i<sa+k+r.toList.length
  .rw[if_pos ci]at hx
   by_cases cj:sa+k<=sa+j/\sa+j<sa+k+r.toList.length
   .rw[if_pos cj]at hy;rcases Bl i j with q |q
    .have h1:sa+i-(sa+k)<r.toList.length:=by lia
     have h2:sa+j-(sa+k)<r.toList.length:=by lia
     rw[Ab h1]at hx;rw[Ab h2]at hy;have:=List.pairwise_iff_getElem.mp hpair _ _ h1 h2 (by lia);rw[A0 hx,A0 hy]at this;exact this
    .have e:i=j:=by lia
     subst e;rw[hx]at hy;cases hy;rcases rmem x (An hx) with⟨_,_,_,e⟩ |⟨_,_,e⟩
     .exact O.rf (hS _ _ e)
     .exact O.rf (hS _ _ e)
   .rw[if_neg cj,show sa+j=sa+na+(j-na) by lia]at hy;have q1:=B2 (j-na) y (by lia) (by lia) hy;rcases rmem x (An hx) with⟨t,_,h2,e⟩ |⟨t,h2,e⟩
    .exact O.tr x z0 y (hS _ _ e) (hS _ _ hz0) (hS _ _ hy) (lez0 t x h2 e) q1
    .exact sB t (j-na) x y (by lia) (by lia) e hy
  .rw[if_neg ci]at hx
   by_cases cj:sa+k<=sa+j/\sa+j<sa+k+r.toList.length
   .rw[if_pos cj]at hy;rcases rmem y (An hy) with⟨t,h1,h2,e⟩ |⟨t,h2,e⟩
    .exact sA i t x y (by lia) h2 hx e
    .exact O.tr x y0 y (hS _ _ hx) (hS _ _ hy0) (hS _ _ e) (A1 i x (by lia) hx) (y0le t y (by lia) e)
   .rw[if_neg cj]at hy;rcases Bl i k with ck |ck
    .rcases Bl j k with cl |cl
     .exact sA i j x y hij (by lia) hx hy
     .rw[show sa+j=sa+na+(j-na) by lia]at hy;exact O.tr x y0 y (hS _ _ hx) (hS _ _ hy0) (hS _ _ hy) (A1 i x ck hx) (y0le (j-na) y (by lia) hy)
    .rw[show sa+i=sa+na+(i-na) by lia]at hx;rw[show sa+j=sa+na+(j-na) by lia]at hy;exact sB (i-na) (j-na) x y (by lia) (by lia) hx hy
theorem zg9 (O : LtOk M A E s kd S L){st : AQ}{i sa na pw nb pw2 : Nat}{Q : Bool → AQ → Prop}(h1 : (AU st)[i]? = some (sa, na, pw)) (h2 : (AU st)[i + 1]? = some (sa + na, nb, pw2)) (hna : 1 ≤ na) (hnb : 1 ≤ nb) (hz : sa + na + nb ≤ (Ax st).size)
    (hk:kindOf st=kd) (hf:CH st=none) (hS:∀ (k:Nat) x,(Ax st)[k]?=some x→S x) (sA:Seg L (Ax st) sa na) (sB:Seg L (Ax st) (sa+na) nb)
    (hQ:∀ st',SM kd S L st st' (((AU st).setIfInBounds i (sa,na+nb,pw)).eraseIdxIfInBounds (i+1)) sa (na+nb)→Q true st'):wpS M A E s (mergeAt' i) Q st:=by
  refine Ap (Em ?_)
  rw[h1,h2]
  dsimp only
  refine Ap (zmS ?_)
  obtain⟨y0,hy0⟩:=zbv (st:=st) (i:=sa+na) (by lia)
  obtain⟨z0,hz0⟩:=zbv (st:=st) (i:=sa+(na - 1)) (by lia)
  refine Ap (zax hy0 ?_)
  have Sy:=hS _ _ hy0
  refine Ap (zbB O (left:=false) (b:=λi=>match (Ax st)[sa+i]? with | some x=>!L y0 x | none=>false) hk Sy (λi hi=>?_) (λi j hij hj hb=>?_) (by lia) (λk hkn kt kf=>?_))
  . obtain⟨x,hx⟩:=zbv (st:=st) (i:=sa+i) (by lia)
    refine⟨x,hx,hS _ _ hx,?_⟩
    simp only[hx]
    rfl
  . obtain⟨x,hx⟩:=zbv (st:=st) (i:=sa+i) (by lia)
    obtain⟨y,hy⟩:=zbv (st:=st) (i:=sa+j) (by lia)
    simp only[hx,hy] at hb ⊢
    have e1:=sA i j x y hij hj hx hy
    have e2:L y0 y=false:=by simpa using hb
    rw[O.tr x y y0 (hS _ _ hx) (hS _ _ hy) Sy e1 e2];rfl
  have A1:∀ (i:Nat) x,i<k→(Ax st)[sa+i]?=some x→L y0 x=false:=λi x hi hx=>by
    have:=kt i hi
    simp only[hx] at this
    simpa using this
  have A2:∀ (i:Nat) x,k≤i→i<na→(Ax st)[sa+i]?=some x→L y0 x=true:=λi x h3 h4 hx=>by
    have:=kf i h3 h4
    simp only[hx] at this
    simpa using this
  dsimp only
  by_cases hk0:(na - k == 0)=true
  . rw[if_pos hk0]
    have ek : k = na := by have : na - k = 0 := by simpa using hk0
                           lia
    refine Av (hQ _ ⟨hk,rfl,hf,Array.Perm.refl _,λ_ _=>rfl,hS,sA.glue O hS sB (λx y hx hy=>?_) (by lia) hz⟩)
    rw[hy0] at hy;cases hy
    exact A1 (na - 1) x (by lia) hx
  . rw[if_neg hk0]
    have hkl : k < na := by have : na - k ≠ 0 := by simpa using hk0
                            lia
    have hz0':(Ax st)[sa+k+(na - k) - 1]?=some z0:=by rw[show sa+k+(na - k) - 1=sa+(na - 1) by lia];exact hz0
    refine Ap (zax hz0' ?_)
    have Sz:=hS _ _ hz0
    refine Ap (zbB O (left:=true) (b:=λi=>match (Ax st)[sa+na+i]? with | some x=>L x z0 | none=>false) hk Sz (λi hi=>?_) (λi j hij hj hb=>?_) (by lia) (λm hmn mt mf=>?_))
    . obtain⟨x,hx⟩:=zbv (st:=st) (i:=sa+na+i) (by lia)
      refine⟨x,hx,hS _ _ hx,?_⟩
      simp only[hx]
      rfl
    . obtain⟨x,hx⟩:=zbv (st:=st) (i:=sa+na+i) (by lia)
      obtain⟨y,hy⟩:=zbv (st:=st) (i:=sa+na+j) (by lia)
      simp only[hx,hy] at hb ⊢
      have e1:=sB i j x y hij hj hx hy
      cases q:L x z0 with
      | true=>rfl
      | false =>
        have:=O.tr z0 x y Sz (hS _ _ hx) (hS _ _ hy) q e1
        rw[hb] at this;cases this
    have B1:∀ (i:Nat) y,i<m→(Ax st)[sa+na+i]?=some y→L y z0=true:=λi y hi hy=>by
      have:=mt i hi
      simp only[hy] at this
      exact this
    have B2:∀ (i:Nat) y,m≤i→i<nb→(Ax st)[sa+na+i]?=some y→L y z0=false:=λi y h3 h4 hy=>by
      have:=mf i h3 h4
      simp only[hy] at this
      exact this
    dsimp only
    have y0z:L y0 z0=true:=A2 (na - 1) z0 (by lia) (by lia) hz0
    have hm0:0<m:=by
      rcases Dv m with q | q
      . have:=B2 0 y0 (by lia) (by lia) (by simpa using hy0)
        rw[y0z] at this;cases this
      . exact q
    rw[if_neg (by simp;lia)]
    have exA:sa+na=sa+k+(na - k):=by lia
    have hX:((Ax st).extract (sa+k) (sa+na))=(Ax st).extract (sa+k) (sa+k+(na - k)):=by rw[← exA]
    have sA':Seg L (Ax st) (sa+k) (na - k):=λi j x y hij hj hx hy=>sA (k+i) (k+j) x y (by lia) (by lia) (by rw[show sa+(k+i)=sa+k+i by lia];exact hx) (by rw[show sa+(k+j)=sa+k+j by lia];exact hy)
    have sB':Seg L (Ax st) (sa+na) m:=λi j x y hij hj hx hy=>sB i j x y hij (by lia) hx hy
    have T:Two S L ((Ax st).extract (sa+k) (sa+k+(na - k))) ((Ax st).extract (sa+na) (sa+na+m)):=⟨ziz (by lia) sA',ziz (by lia) sB',(λx hx=>by obtain⟨i,_,e⟩:=zdV (by lia) hx;exact hS _ _ e),(λx hx=>by obtain⟨i,_,e⟩:=zdV (by lia) hx;exact hS _ _ e)⟩
    have zA:0<((Ax st).extract (sa+k) (sa+k+(na - k))).size:=by rw[Cu];lia
    have zB:0<((Ax st).extract (sa+na) (sa+na+m)).size:=by rw[Cu];lia
    have c0:∀ y,((Ax st).extract (sa+na) (sa+na+m))[0]?=some y→∀ x∈((Ax st).extract (sa+k) (sa+k+(na - k))).toList,leOf L y x:=λy hy x hx=>by
      rw[zgo (by lia),if_pos hm0] at hy
      rw[Nat.add_zero,hy0] at hy;cases hy
      obtain⟨i,hi,e⟩:=zdV (by lia) hx
      exact O.as y0 x Sy (hS _ _ e) (A2 (k+i) x (by lia) (by lia) (by rw[show sa+(k+i)=sa+k+i by lia];exact e))
    have c1:∀ z,((Ax st).extract (sa+k) (sa+k+(na - k)))[((Ax st).extract (sa+k) (sa+k+(na - k))).size - 1]?=some z→∀ x∈((Ax st).extract (sa+na) (sa+na+m)).toList,leOf L x z:=λz hz' x hx=>by
      have es:((Ax st).extract (sa+k) (sa+k+(na - k))).size=na - k:=by rw[Cu];lia
      rw[es,zgo (by lia),if_pos (by lia),show sa+k+(na - k - 1)=sa+(na - 1) by lia,hz0] at hz'
      cases hz'
      obtain⟨i,hi,e⟩:=zdV (by lia) hx
      exact O.as x z0 (hS _ _ e) Sz (B1 i x hi e)
    by_cases hle:na - k≤m
    . rw[if_pos hle]
      refine Ap ?_
      show wpS M A E s (zgf ((Ax st).extract (sa+k) (sa+na)) ((Ax st).extract (sa+na) (sa+na+m))) _ _
      rw[hX]
      refine zg7 O T hk zA zB c0 c1 λr st2 hr hlk=>?_
      refine Ap (BS (Ap (Em (Av ?_))))
      have hf2:CH st2=none:=by rw[hlk.2.2.2];exact hf
      have:=hQ (setArr st2 (wr (Ax st) (sa+k) r.toList 0)) (SM.write O hna hkl hm0 hmn hz hS sA sB y0 z0 hy0 hz0 A1 B2 hr (by show kindOf st2=kd;rw[hlk.1];exact hk) (by show AU st2=_;rw[hlk.2.2.1]) hf2 rfl)
      have ea:Ax st2=Ax st:=hlk.2.1
      rw[← ea] at this
      show Q (CH st2).isNone _
      rw[hf2]
      exact this
    . rw[if_neg hle]
      refine Ap ?_
      show wpS M A E s (zgg ((Ax st).extract (sa+k) (sa+na)) ((Ax st).extract (sa+na) (sa+na+m))) _ _
      rw[hX]
      refine zg8 O T hk zA zB c0 c1 λr st2 hr hlk=>?_
      refine Ap (BS (Ap (Em (Av ?_))))
      have hf2:CH st2=none:=by rw[hlk.2.2.2];exact hf
      have:=hQ (setArr st2 (wr (Ax st) (sa+k) r.toList 0)) (SM.write O hna hkl hm0 hmn hz hS sA sB y0 z0 hy0 hz0 A1 B2 hr (by show kindOf st2=kd;rw[hlk.1];exact hk) (by show AU st2=_;rw[hlk.2.2.1]) hf2 rfl)
      have ea:Ax st2=Ax st:=hlk.2.1
      rw[← ea] at this
      show Q (CH st2).isNone _
      rw[hf2]
      exact this
end
end TS
set_option maxHeartbeats 8000000
namespace TS
open PySem PyProof.Rows
noncomputable abbrev Run:=Nat×Nat×Nat
section
variable {M:Ey}{A:AS}{E:Value->Af->Prop}{s:Af}{kd:CZ}{S:Keyed->Prop}{L:Keyed->Keyed->Bool}
noncomputable def Runs(L:Keyed->Keyed->Bool)(a:Array Keyed):List Run->Nat->Nat->Prop
 |[],x,y=>x=y
 |r::l,x,y=>r.1=x/\1<=r.2.1/\Seg L a r.1 r.2.1/\Runs L a l (x+r.2.1) y
theorem Runs.le{a:Array Keyed}:∀{l:List Run}{x y:Nat},Runs L a l x y->x+l.length<=y
 |[],x,y,h=>by have:x=y:=h;simp;lia
 |r::l,x,y,h=>by
  have:=Runs.le h.2.2.2;have:=h.2.1;simp only[A9];lia
theorem Seg.cong{a b:Array Keyed}{lo n:Nat}(h:Seg L a lo n)(e:∀k:Nat,lo<=k->k<lo+n->b[k]?=a[k]?):Seg L b lo n:=λi j x y hij hj hx hy =>
 h i j x y hij hj (by rw[<- e _ (by lia) (by lia)];exact hx) (by rw[<- e _ (by lia) (by lia)];exact hy)
theorem Runs.cong{a b:Array Keyed}:∀{l:List Run}{x y:Nat},Runs L a l x y->(∀k:Nat,x<=k->k<y->b[k]?=a[k]?)->Runs L b l x y
 |[],_,_,h,_=>h
 |r::l,x,y,h,e=>by
  have hl:=h.2.2.2.le;have h1:=h.1;exact⟨h.1,h.2.1,h.2.2.1.cong λk h2 h3=>e k (by lia) (by lia),Runs.cong h.2.2.2 λk h2 h3=>e k (by lia) h3⟩
theorem Runs.snoc{a:Array Keyed}:∀{l:List Run}{x y n pw:Nat},Runs L a l x y->1<=n->Seg L a y n->Runs L a (l++[(y,n,pw)]) x (y+n)
 |[],x,y,n,pw,h,hn,hs=>by
  have:x=y:=h;subst this;exact⟨rfl,hn,hs,rfl⟩
 |r::l,x,y,n,pw,h,hn,hs=>⟨h.1,h.2.1,h.2.2.1,Runs.snoc h.2.2.2 hn hs⟩
theorem Runs.pair{a:Array Keyed} : ∀{l:List Run}{x y i sa na pw sb nb pw2:Nat}, Runs L a l x y -> l[i]? = some (sa, na, pw) -> l[i + 1]? = some (sb, nb, pw2) ->
  sb=sa+na/\1<=na/\1<=nb/\x<=sa/\sa+na+nb<=y/\Seg L a sa na/\Seg L a (sa+na) nb /\
  ∀b:Array Keyed,(∀k:Nat,k<sa∨sa+na+nb<=k->b[k]?=a[k]?)->Seg L b sa (na+nb)->Runs L b ((l.set i (sa,na+nb,pw)).eraseIdx (i+1)) x y
 |[],_,_,_,_,_,_,_,_,_,_,h1,_=>by simp at h1
 |[_],_,_,i,_,_,_,_,_,_,_,_,h2=>by simp at h2
 |r::q::l,x,y,0,sa,na,pw,sb,nb,pw2,h,h1,h2=>by
  have e1:r=(sa,na,pw):=A0 h1;have e2:q=(sb,nb,pw2):=A0 h2;subst e1;subst e2;obtain⟨a1,a2,a3,b1,b2,b3,hr⟩:=h;simp only at a1 a2 a3 b1 b2 b3 hr;subst a1;have hl:=hr.le;refine⟨b1,a2,b2,Ai _,by lia,a3,by rw[<- b1];exact b3,λb hb hs=>⟨rfl,by show 1<=na+nb;lia,hs,?_⟩⟩;show Runs L b l (sa+(na+nb)) y;rw[show sa+(na+nb)=sa+na+nb by lia];exact hr.cong λk h3 h4=>hb k (.inr h3)
 |r::q::l,x,y,i+1,sa,na,pw,sb,nb,pw2,h,h1,h2=>by
  obtain⟨a1,a2,a3,hr⟩:=h;obtain⟨c1,c2,c3,c4,c5,c6,c7,c8⟩:=Runs.pair hr (i:=i) (by simpa using h1) (by simpa using h2);refine⟨c1,c2,c3,by lia,c5,c6,c7,λb hb hs=>⟨a1,a2,a3.cong λk h3 h4=>hb k (.inl (by lia)),?_⟩⟩;exact c8 b hb hs
theorem Runs.power{a:Array Keyed}:∀{l:List Run}{x y:Nat}(f:Run->Run) (i:Nat),(∀r,(f r).1=r.1/\(f r).2.1=r.2.1)->Runs L a l x y->Runs L a (l.modify i f) x y
 |[],_,_,f,i,_,h=>by cases i <;> exact h
 |r::l,x,y,f,0,hf,h=>by
  refine⟨by rw[(hf r).1];exact h.1,by rw[(hf r).2];exact h.2.1,by rw[(hf r).1,(hf r).2];exact h.2.2.1,?_⟩;show Runs L a l (x+(f r).2.1) y;rw[(hf r).2];exact h.2.2.2
 |r::l,x,y,f,i+1,hf,h=>⟨h.1,h.2.1,h.2.2.1,Runs.power f i hf h.2.2.2⟩
structure PD (kd:CZ) (S:Keyed->Prop) (L:Keyed->Keyed->Bool) (a0:Array Keyed) (st:AQ) (lo:Nat):Prop where
 kind:kindOf st=kd
 fail:CH st=none
 perm:(Ax st).Perm a0
 all:∀(k:Nat) x,(Ax st)[k]?=some x->S x
 runs:Runs L (Ax st) (AU st).toList 0 lo
theorem PD.size{a0:Array Keyed}{st:AQ}{lo:Nat}(h:PD kd S L a0 st lo):(Ax st).size=a0.size:=h.perm.size_eq
theorem PD.merge(O:LtOk M A E s kd S L){a0:Array Keyed}{st:AQ}{lo i:Nat}{Q:Bool -> AQ -> Prop}(h:PD kd S L a0 st lo)(hlo:lo <= a0.size)(hi:i + 1 < (AU st).size)
  (hQ:∀st',PD kd S L a0 st' lo->(AU st').size+1=(AU st).size->(∀k:Nat,lo<=k->(Ax st')[k]?=(Ax st)[k]?)->Q true st'):wpS M A E s (mergeAt' i) Q st:=by
 obtain⟨⟨sa,na,pw⟩,h1⟩:∃r,(AU st)[i]?=some r:=⟨_,B3 (by lia)⟩;obtain⟨⟨sb,nb,pw2⟩,h2⟩:∃r,(AU st)[i+1]?=some r:=⟨_,B3 hi⟩;obtain⟨c1,c2,c3,c4,c5,c6,c7,c8⟩:=h.runs.pair (i:=i) (by rw[Bv];exact h1) (by rw[Bv];exact h2);subst c1;refine zg9 O h1 h2 c2 c3 (by rw[h.size];lia) h.kind h.fail h.all c6 c7 λst' sm=>hQ st' ⟨sm.kind,sm.fail,sm.perm.trans h.perm,sm.all,?_⟩ ?_ λk hk=>sm.out k (by lia)
 .rw[sm.pend];have e:(((AU st).setIfInBounds i (sa,na+nb,pw)).eraseIdxIfInBounds (i+1)).toList=((AU st).toList.set i (sa,na+nb,pw)).eraseIdx (i+1):=by simp
  rw[e];exact c8 _ (λk hk=>sm.out k (by lia)) sm.seg
 .rw[sm.pend];have e:(((AU st).setIfInBounds i (sa,na+nb,pw)).eraseIdxIfInBounds (i+1)).toList=((AU st).toList.set i (sa,na+nb,pw)).eraseIdx (i+1):=by simp
  have e2:=congrArg Ez e;rw[List.length_eraseIdx_of_lt (by rw[List.length_set,AN];exact hi),List.length_set,AN,AN]at e2;lia
theorem sortRuns_spec(O:LtOk M A E s kd S L){st:AQ}{Q:Unit -> AQ -> Prop}(h2 : 2 <= (Ax st).size)(hk:kindOf st=kd)(hp:AU st = #[])(hf:CH st=none)(hS:∀(k:Nat) x, (Ax st)[k]? = some x -> S x)
  (hQ:∀st',(Ax st').Perm (Ax st)->CH st'=none->Seg L (Ax st') 0 (Ax st).size->Q () st'):wpS M A E s sortRuns' Q st:=by
 rw[sortRuns'_eq];refine Ap (Em ?_);dsimp only;have pd0:PD kd S L (Ax st) st 0:=⟨hk,hf,Array.Perm.refl _,hS,by rw[hp];rfl⟩;generalize ha0:Ax st=a0 at h2 pd0 hQ
 refine Ap (Cp (BE (I:=λx c st'=>∃lo,c=(none,lo)/\(x<=lo∨a0.size<=lo)/\lo<=a0.size/\PD kd S L a0 st' lo)
  (Q:=λc st'=>c=(none,a0.size)/\PD kd S L a0 st' a0.size) ?step ?fin ⟨0,rfl,.inl (Ai _),AT _,pd0⟩) ?post)
 case fin =>
  rintro c st' ⟨lo,rfl,h3,h4,pd⟩;have:lo=a0.size:=by lia
  subst this;exact⟨rfl,pd⟩
 case step =>
  rintro x c st' _ hx ⟨lo,rfl,h3,h4,pd⟩;dsimp only
  by_cases hge:lo ≥ a0.size
  .rw[if_pos hge];have:lo=a0.size:=by lia
   subst this;exact Av ⟨rfl,pd⟩
  .rw[if_neg hge];refine Ap (zgr O (by lia) (by rw[pd.size];lia) pd.kind pd.all λm st1 sb1 hm1 hm2 sg1=>?_);dsimp only;have pd1:PD kd S L a0 st1 lo:=⟨sb1.kind,by rw[sb1.fail];exact pd.fail,sb1.perm.trans pd.perm,sb1.all,by rw[sb1.pend];exact pd.runs.cong λk _ h5=>sb1.out k (.inl h5)⟩
   by_cases hlt:m<minRun' a0.size a0.size 0
   .rw[if_pos hlt];refine Ap (wpS_lift (Dl ⟨rfl,?_⟩));refine Ap (zeW O hm1 (by lia) (by rw[pd1.size];lia) pd1.kind pd1.all sg1 λst2 sb2 sg2=>?_)
    try dsimp only
    rw[if_neg (by decide)];have pdX:PD kd S L a0 st2 lo:=⟨sb2.kind,by rw[sb2.fail];exact pd1.fail,sb2.perm.trans pd1.perm,sb2.all,by rw[sb2.pend];exact pd1.runs.cong λk _ h5=>sb2.out k (.inl h5)⟩;have sgX:=sg2;refine Ap (Em ?_)
    cases hb:(AU st2).back? with
    |none =>
     try dsimp only
     refine Ap (BS (Av ⟨lo+min (a0.size-lo) (minRun' a0.size a0.size 0),rfl,.inl (by lia),by lia,?_⟩));refine⟨pdX.kind,pdX.fail,pdX.perm,pdX.all,?_⟩;show Runs L (Ax st2) ((AU st2).push (lo,min (a0.size-lo) (minRun' a0.size a0.size 0),0)).toList 0 (lo+min (a0.size-lo) (minRun' a0.size a0.size 0));rw[Dg];exact pdX.runs.snoc (by lia) sgX
    |some r =>
     obtain⟨s1,n1,p1⟩:=r
     try dsimp only
     refine Ap (Cp (BE (I:=λy c st3=>c=(none,())/\PD kd S L a0 st3 lo/\Seg L (Ax st3) lo (min (a0.size-lo) (minRun' a0.size a0.size 0))) (Q:=λc st3=>c=(none,())/\PD kd S L a0 st3 lo/\Seg L (Ax st3) lo (min (a0.size-lo) (minRun' a0.size a0.size 0))) ?stepI ?finI ⟨rfl,pdX,sgX⟩) ?postI)
     case finI =>
      rintro c st3 hh;exact hh
     case stepI =>
      rintro y c st3 _ _ ⟨rfl,pd3,sg3⟩;refine Ap (Em ?_)
      by_cases hsz:(AU st3).size > 1
      .rw[if_pos hsz];obtain⟨⟨u1,u2,older⟩,hu⟩:∃r,(AU st3)[(AU st3).size-2]?=some r:=⟨_,B3 (by lia)⟩;rw[hu]
       try dsimp only
       by_cases hol:older<=power' a0.size (2*s1+n1) (2*s1+n1+n1+min (a0.size-lo) (minRun' a0.size a0.size 0)) a0.size
       .rw[if_pos hol];exact Av ⟨rfl,pd3,sg3⟩
       .rw[if_neg hol];refine Ap (pd3.merge O (by lia) (by lia) λst4 pd4 _ ho=>?_)
        try dsimp only
        rw[if_neg (by decide)];exact Av ⟨rfl,pd4,sg3.cong λk h5 _=>ho k h5⟩
      .rw[if_neg hsz];exact Av ⟨rfl,pd3,sg3⟩
     case postI =>
      rintro c st3 ⟨rfl,pd3,sg3⟩
      try dsimp only
      refine Ap (BS (Ap (BS (Av ⟨lo+min (a0.size-lo) (minRun' a0.size a0.size 0),rfl,.inl (by lia),by lia,?_⟩))));refine⟨pd3.kind,pd3.fail,pd3.perm,pd3.all,?_⟩;show Runs L (Ax st3) (((AU st3).modify ((AU st3).size-1) _).push (lo,min (a0.size-lo) (minRun' a0.size a0.size 0),0)).toList 0 (lo+min (a0.size-lo) (minRun' a0.size a0.size 0));rw[Dg,Array.toList_modify];refine Runs.snoc (Runs.power _ _ ?_ pd3.runs) (by lia) sg3;exact λr=>⟨rfl,rfl⟩
   .rw[if_neg hlt];have pdX:=pd1;have sgX:=sg1;refine Ap (Em ?_)
    cases hb:(AU st1).back? with
    |none =>
     try dsimp only
     refine Ap (BS (Av ⟨lo+m,rfl,.inl (by lia),by lia,?_⟩));refine⟨pdX.kind,pdX.fail,pdX.perm,pdX.all,?_⟩;show Runs L (Ax st1) ((AU st1).push (lo,m,0)).toList 0 (lo+m);rw[Dg];exact pdX.runs.snoc (by lia) sgX
    |some r =>
     obtain⟨s1,n1,p1⟩:=r
     try dsimp only
     refine Ap (Cp (BE (I:=λy c st3=>c=(none,())/\PD kd S L a0 st3 lo/\Seg L (Ax st3) lo (m)) (Q:=λc st3=>c=(none,())/\PD kd S L a0 st3 lo/\Seg L (Ax st3) lo (m)) ?stepI ?finI ⟨rfl,pdX,sgX⟩) ?postI)
     case finI =>
      rintro c st3 hh;exact hh
     case stepI =>
      rintro y c st3 _ _ ⟨rfl,pd3,sg3⟩;refine Ap (Em ?_)
      by_cases hsz:(AU st3).size > 1
      .rw[if_pos hsz];obtain⟨⟨u1,u2,older⟩,hu⟩:∃r,(AU st3)[(AU st3).size-2]?=some r:=⟨_,B3 (by lia)⟩;rw[hu]
       try dsimp only
       by_cases hol:older<=power' a0.size (2*s1+n1) (2*s1+n1+n1+m) a0.size
       .rw[if_pos hol];exact Av ⟨rfl,pd3,sg3⟩
       .rw[if_neg hol];refine Ap (pd3.merge O (by lia) (by lia) λst4 pd4 _ ho=>?_)
        try dsimp only
        rw[if_neg (by decide)];exact Av ⟨rfl,pd4,sg3.cong λk h5 _=>ho k h5⟩
      .rw[if_neg hsz];exact Av ⟨rfl,pd3,sg3⟩
     case postI =>
      rintro c st3 ⟨rfl,pd3,sg3⟩
      try dsimp only
      refine Ap (BS (Ap (BS (Av ⟨lo+m,rfl,.inl (by lia),by lia,?_⟩))));refine⟨pd3.kind,pd3.fail,pd3.perm,pd3.all,?_⟩;show Runs L (Ax st3) (((AU st3).modify ((AU st3).size-1) _).push (lo,m,0)).toList 0 (lo+m);rw[Dg,Array.toList_modify];refine Runs.snoc (Runs.power _ _ ?_ pd3.runs) (by lia) sg3;exact λr=>⟨rfl,rfl⟩
 case post =>
  rintro c st1 ⟨rfl,pd1⟩
  try dsimp only
  have hlen:(AU st1).size<=a0.size:=by have:=pd1.runs.le;rw[AN]at this;lia
  refine Ap (Cp (BE (I:=λx c st2=>c=(none,())/\PD kd S L a0 st2 a0.size/\((AU st2).size+x<=a0.size+1))
   (Q:=λc st2=>c=(none,())/\PD kd S L a0 st2 a0.size/\(AU st2).size<=1) ?step ?fin ⟨rfl,pd1,by lia⟩) ?post)
  case fin =>
   rintro c st2 ⟨rfl,pd2,h5⟩;exact⟨rfl,pd2,by lia⟩
  case step =>
   rintro x c st2 _ hx ⟨rfl,pd2,h5⟩;refine Ap (Em ?_)
   try dsimp only
   by_cases hle:(AU st2).size<=1
   .rw[if_pos hle];exact Av ⟨rfl,pd2,hle⟩
   .rw[if_neg hle];refine Ap (pd2.merge O (Ai _) ?_ λst3 pd3 hs3 _=>?_)
    .have le':∀(c:Prop) [Decidable c] (p q:Nat),(if c then p else q)<=max p q:=λc _ p q=>by split <;> lia
     have:=le' (Option.any (λx=>decide (x<(AU st2)[(AU st2).size-2+1]?.elim 0 λx=>x.snd.fst)) (if (AU st2).size-2 > 0 then Option.map (λx=>x.snd.fst) (AU st2)[(AU st2).size-2-1]? else none)=true) ((AU st2).size-2-1) ((AU st2).size-2);lia
    .try dsimp only
     rw[if_neg (by decide)];exact Av ⟨rfl,pd3,by lia⟩
  case post =>
   rintro c st2 ⟨rfl,pd2,h5⟩;refine Av (hQ st2 pd2.perm pd2.fail ?_);have hr:=pd2.runs
   cases hl:(AU st2).toList with
   |nil =>
    rw[hl]at hr;have:0=a0.size:=hr;lia
   |cons r l =>
    have hll:(AU st2).toList.length<=1:=by rw[AN];exact h5
    rw[hl]at hll hr;have:l=[]:=Cb.mp (by simp at hll;simpa using hll);subst this;obtain⟨c1,c2,c3,c4⟩:=hr;have c4':0+r.2.1=a0.size:=c4;rw[c1,show r.2.1=a0.size by lia]at c3;exact c3
end
end TS
namespace L2
open PySem PySem.Spec PyProof.Rows
theorem zgU{α β:Type}{f:α->β}{xs ys:List β}(p:ys.Perm xs):∀{l:List α},xs=l.map f->∃l':List α,l'.Perm l/\ys=l'.map f:=by
 induction p with
 |nil=>intro l h;exact⟨l,List.Perm.refl _,h⟩
 |cons v _ ih =>
  intro l h
  match l,h with
  |x::l,h =>
   injection h with h1 h2;obtain⟨l',p',e⟩:=ih h2;exact⟨x::l',p'.cons x,by rw[e,h1];rfl⟩
 |swap a b r =>
  intro l h
  match l,h with
  |x::y::l,h =>
   injection h with h1 h2;injection h2 with h2 h3;exact⟨y::x::l,List.Perm.swap _ _ _,by rw[h1,h2,h3];rfl⟩
 |trans _ _ ih1 ih2 =>
  intro l h;obtain⟨l1,p1,h1⟩:=ih2 h;obtain⟨l2,p2,h2⟩:=ih1 h1;exact⟨l2,p2.trans p1,h2⟩
section
variable {X:Cx}{pins:List (Addr×Obj)}{σ:St}{H:Hp}{s:Af}{D st:Addr}{e:Nat}{κV:Nat->List V}{ks:List Addr}{E:Value->Af->Prop}
noncomputable def Ordd(κ:Nat->List Int)(n:Nat)(p:Array Nat):Prop:=RK.Pm n p/\p.toList.Pairwise λi j=>HT.lexLt (κ j) (κ i)=false
noncomputable def zhe(κ:Nat->List Int)(ks:List Addr):Value->List Int
 |.ref a=>κ (ks.idxOf a)
 |_=>[]
theorem znA{vs:List Value}{κ : Nat -> List Int}(K:SK X pins σ H s D st e κV ks)(hl:ks.length=vs.length)(h2 : 2 <= vs.length)
  (hcol:∀i j,i<ks.length->j<ks.length->∃n m r q rn rm,κV i=.int n::r/\κV j=.int m::q/\VCols r q rn rm/\κ i=n::rn/\κ j=m::rm) :
  zja X (Ordd κ vs.length) (ks.map Au) vs E s:=by
 unfold zja
 obtain⟨fs,kt,hfl,hfi⟩:=zkX (as:=[]) (vs:=[]) K.inv (ks:=ks) (ns:=(Bq ks.length).map λi=>((κ i).headD 0)) (λi a ha=>by
  have hi:i<ks.length:=(Ae.mp ha).1;obtain⟨n,m,r,q,rn,rm,e1,_,_,e2,_⟩:=hcol i i hi hi;refine⟨n,r,?_,?_⟩
  .rw[Ay,List.getElem?_range hi,Dz,e2];rfl
  .rw[<- e1];exact K.hk i a ha) (by simp)
 refine W.kat_kind (T:=.type "int") kt (by lia) (λv hv=>?_) rfl ⟨rfl,?_⟩
 .obtain⟨n,t,rfl⟩:=hfi v hv;exact .now
 have hl':(ks.map Au).length=vs.length:=by simp[hl]
 have hsz0:((ks.map Au).toArray.zip vs.toArray).size=vs.length:=by simp[hl]
 generalize hZ:(ks.map Au).toArray.zip vs.toArray=Z at hsz0;have hsz:Z.size=vs.length:=hsz0
 have kap:∀i (hi:i<ks.length),zhe κ ks (Au ks[i])=κ i:=λi hi=>by
  have hj:ks.idxOf ks[i]<ks.length:=List.idxOf_lt_length_iff.mpr (BA hi);have ej:ks[ks.idxOf ks[i]]=ks[i]:=List.getElem_idxOf hj;obtain⟨n,m,r,q,rn,rm,e1,e2,vc,e3,e4⟩:=hcol (ks.idxOf ks[i]) i hj hi;have k1:=K.hk (ks.idxOf ks[i]) ks[i] (by rw[Ab hj,ej]);have k2:=K.hk i ks[i] (Ab hi);have eq:=K.inv.tuple_inj k1 k2;show κ (ks.idxOf ks[i])=κ i;rw[e1,e2]at eq;injection eq with q1 q2;injection q1 with q1;subst q1;subst q2;rw[e3,e4]
  congr 1
  have same:∀{xs:List V} {as bs:List Int},VCols xs xs as bs->as=bs:=λ{xs}=>by
   induction xs with
   |nil=>intro as bs h;cases h;rfl
   |cons x xs ih =>
    intro as bs h
    cases h with
    |cons c h=>cases c <;> rw[ih h]
  exact same vc
 have itm:∀i,i<vs.length->DS Z i=(Au (ks.getD i 0),vs.getD i BY):=λi hi=>by
  rw[<- hZ,W.kat_item hl'];have:(ks.map Au).getD i BY=Au (ks.getD i 0):=by simp[show i<ks.length by lia]
  rw[this]
 have O:TS.LtOk (AE X.prog X.w) X.A.in1.in1 E s (tuples' true) (λx=>∃i,i<ks.length/\x.1=Au (ks.getD i 0)) (λx y=>HT.lexLt (zhe κ ks x.1) (zhe κ ks y.1)):=by
  refine⟨λx y hx hy st' Q hk q=>?_,λx y z _ _ _ h1 h2=>?_,λx y _ _ h=>HT.lexLt_asym h⟩
  .obtain⟨i,hi,ex⟩:=hx;obtain⟨j,hj,ey⟩:=hy;have gi:ks.getD i 0=ks[i]:=by simp[hi]
   have gj:ks.getD j 0=ks[j]:=by simp[hj]
   rw[gi]at ex;rw[gj]at ey;rw[ex,ey,kap i hi,kap j hj]at q;rw[lt'_eq];refine Ap (Em ?_);rw[hk,ex,ey];obtain⟨n,m,r,q',rn,rm,e1,e2,vc,e3,e4⟩:=hcol i j hi hj;have k1:=K.hk i ks[i] (Ab hi);have k2:=K.hk j ks[j] (Ab hj);rw[e1]at k1;rw[e2]at k2;obtain⟨its,rv,⟨o,ho,hcl,c,hd⟩,_⟩:=K.inv.tuple k1;obtain⟨its2,rv2,⟨o2,ho2,hcl2,c2,hd2⟩,_⟩:=K.inv.tuple k2;refine Ap (wpS_lift (wpAny_attempt (W.kat_lt ho hd ho2 hd2 ?_)))
   cases rv with
   |cons rx rr =>
    cases rv2 with
    |cons rx2 rr2 =>
     obtain⟨t1,rfl⟩:=rx;obtain⟨t2,rfl⟩:=rx2;have cs:=vc.vals rr rr2
     have hlen:∀{us vs:List Value} {as bs:List Int},RK.Cols us vs as bs->us.length=vs.length:=λc=>by induction c with
      |nil=>rfl
      |cons _ _ ih=>simp[ih]
     simp only[As,A9,hlen cs,CU,decide_false];refine RK.kat_cols0 cs ?_
     rw[e3,e4]at q;exact⟨rfl,Av q⟩
  .cases q:HT.lexLt (zhe κ ks z.1) (zhe κ ks x.1) with
   |false=>rfl
   |true =>
    have:=HT.lexLt_of_not_lt_lt h2 q;rw[h1]at this;cases this
 have run:=TS.sortRuns_spec O (st:=SortSt.mk' (tuples' true) Z #[] 7 none) (Q:=λ_ st'=>CH st'=none/\∃p:Array Nat,Ordd κ vs.length p/\p.size=vs.length/\Ax st'=p.map (DS Z))
  (by show 2<=Z.size;lia) rfl rfl rfl (λk x hx=>?_) (λst' hp hf hs=>?_)
 .exact BR run (λr s' h=>⟨h.1,h.2⟩) λ_ _ z=>z
 .have hk':k<vs.length:=by rw[<- hsz];exact (BC.mp hx).1
  have hx':Z[k]?=some x:=hx
  have e1:DS Z k=x:=by unfold DS;rw[Array.getD_eq_getD_getElem?,hx'];rfl
  rw[itm k hk']at e1;exact⟨k,by lia,by rw[<- e1]⟩
 .refine⟨hf,?_⟩;have hp':(Ax st').Perm Z:=hp;have hrng:=W.kas_range Z;rw[hsz]at hrng;obtain⟨l,pl,el⟩:=zgU (Array.perm_iff_toList_perm.mp hp') (l:=Bq vs.length) (f:=DS Z) (by have:=congrArg Array.toList hrng;simpa using this.symm);have hll:l.length=vs.length:=by rw[pl.length_eq,Ck]
  refine⟨l.toArray,⟨?_,?_⟩,by simpa using hll,?_⟩
  .exact Array.perm_iff_toList_perm.mpr (by simpa using pl)
  .rw[D2];intro i j hi hj hij;have hi':i<l.length:=by simpa using hi
   have hj':j<l.length:=by simpa using hj
   have ai:(Ax st')[i]?=some (DS Z l[i]):=by rw[<- Bv,el,Ay,Ab hi'];rfl
   have aj:(Ax st')[j]?=some (DS Z l[j]):=by rw[<- Bv,el,Ay,Ab hj'];rfl
   have li:l[i]<vs.length:=Ce.mp (pl.mem_iff.mp (BA hi'));have lj:l[j]<vs.length:=Ce.mp (pl.mem_iff.mp (BA hj'));have:=hs i j _ _ (by lia) (by show j<Z.size;lia) (by rw[CT];exact ai) (by rw[CT];exact aj);rw[itm _ li,itm _ lj]at this;have g1:ks.getD l[i] 0=ks[l[i]]'(by lia):=by simp[show l[i]<ks.length by lia]
   have g2:ks.getD l[j] 0=ks[l[j]]'(by lia):=by simp[show l[j]<ks.length by lia]
   simp only[g1,g2]at this;rw[kap _ (by lia),kap _ (by lia)]at this;simpa using this
  .apply Array.toList_inj.mp
   rw[el];simp
end
section
variable {X:Cx}{x:Str}{p pos kp kpos:Pos}{e:Expr}{te:TE}{k:Nat}{f:Addr}{fd:BI}{ps:List Str}{sp:Sp}{fn:Str}
end
section
variable {prog:AF}{w:A7}{A:AS}{R:Result->Af->Prop}{s:Af}
theorem zed{elt:Expr}{c0:Comprehension}{target iter:Expr}{ifs:List Expr}{rest:List Comprehension}{scope:Scope}{pos:Pos}{it acc:Value}{env:Env}
  (h0:C4 (AE prog w) A (.compLoop (.ListComp elt (c0::⟨target,iter,ifs,0⟩::rest) scope pos) 1 it acc env) R s)
  (h:Aw (AE prog w) A (pyIter it) (λit' s'=>C4 (AE prog w) A (.compLoop (.ListComp elt (c0::⟨target,iter,ifs,0⟩::rest) scope pos) 1 it' acc env) R s') (notedBy (AE prog w) A env λx s'=>R (.error x) s') s) :
  C4 (AE prog w) A (.compStart (.ListComp elt (c0::⟨target,iter,ifs,0⟩::rest) scope pos) 1 it acc env) R s:=by
 refine codeAny_of_tree ?_
 show Aw _ _ ((compStart (.ListComp elt (c0::⟨target,iter,ifs,0⟩::rest) scope pos) 1 it acc env).onRaise (λx=>do noteFrame x env;standAt theWindowsPlace)) _ _ s;refine wpAny_notedAt ?_
 unfold compStart;show Aw _ _ (ask >>= _) _ _ s;refine Ad (wpAny_askSetting (wpAny_ite ?_));split
 .first
   |exact Ak (And.intro rfl h0)
   |exact Ad (Ak (Ak (And.intro rfl h0)))
 .refine Ad (Dl ?_);show Aw _ _ (standAt iter.pos >>= _) _ _ s;exact Ad (DH (Ad (BR h (λit' s' h'=>Ak (And.intro rfl h')) λ_ _ z=>z)))
end
section
variable {X:Cx}{osc:Scope}{N:List Str}{sc:Scope}{N':List Str}{sel:List (Option Nat)}{pos:Pos}{elt kx vx tg iter tg2 iter2:Expr}{ifs ifs2:List Expr}{wi wi2:TI}{g g2:TG}{tt tt2:TT}{te tk tv:TE}
noncomputable def tNest(wi2:TI)(g2:TG)(tb:TS):TS:=λD σ H=>wi2 σ H λJ H1=>zdu J g2 tb { nx:=D.nx,rt:=λ_ _=>False } σ H1
theorem znk{Y:Cx}{p:Addr}(hc:Y.calm=true)(hx:Y.xe=λ_ _ => False)(hi2:PI Y tg2 iter2 wi2)(hg2:PG Y tg2 g2)(ht2:PTs Y ifs2 tt2)(he:PE Y elt te)(hs2:∀x, BU iter2 Y.env x=pure x) :
  PB Y (do
   let x <- eval iter2 Y.env
   standAt iter2.pos
   let x <- BU iter2 Y.env x
   let _ <- runOwn (.compStart (.ListComp elt [⟨tg,iter,ifs,0⟩,⟨tg2,iter2,ifs2,0⟩] sc pos) 1 (<- holding [x] (pyIter x)) (.ref p) Y.env) Y.env) (tNest wi2 g2 (tIfs tt2 (zcG p te))):=by
 intro pins s σ H D I h;refine Ad (thn (hi2 pins s σ H _ I h) λv s1 h1=>?_);refine Ad (DH ?_);rw[hs2];refine Ad (Ak ?_);refine Ad (Br (thn h1 λitv s2 h2=>?_));obtain⟨it,fp,tn,J,H2,e,I2,T,st2,f2,h2⟩:=h2;subst e
 have loop:C4 (AE Y.prog Y.w) Y.A (.compLoop (.ListComp elt [⟨tg,iter,ifs,0⟩,⟨tg2,iter2,ifs2,0⟩] sc pos) 1 (.ref it) (.ref p) Y.env) (λr s'=>match r with |.ok f=>Aw (AE Y.prog Y.w) Y.A (pure ()) (λ_ s'=>∃ σ' H',Inv Y pins σ' H' s'/\D.nx σ' H') Y.xe s' |.error e=>cameBackBy (AE Y.prog Y.w) Y.A Y.env Y.xe e s') s2 :=
  zeU (X:=Y) (p:=iter2.pos) (inner:=do let _ <- call (.builtin "list.append") [.ref p,<- eval elt Y.env]) rfl rfl rfl (λB {α t Q E s} h w=>by subst h;exact w) hc hx hg2 ht2 (zkw he) I2 T st2 f2 h2 λfl s' ⟨σ',H',I',_,q⟩=>Ak ⟨σ',H',I',q⟩
 refine Ad (wpAny_runOwn (zed loop (T.self _ 0 _ _ _ st2 loop)))
theorem zhp{env:Env}{it p:Addr} : compTurn (.ListComp elt [⟨tg, iter, ifs, 0⟩, ⟨tg2, iter2, ifs2, 0⟩] sc pos) 0 (.ref it) (.ref p) env=(do
   standAt iter.pos
   match <- pyNext (.ref it) with
   |none=>pure (.done .next)
   |some v =>
    Da tg (.ref it) v
    assign tg env v
    let mut ok:=true
    for c in ifs do
     if ok then ok <- isTrue c env (eval c env)
    if ok then
     (do
      let x <- eval iter2 env
      standAt iter2.pos
      let x <- BU iter2 env x
      let _ <- runOwn (.compStart (.ListComp elt [⟨tg,iter,ifs,0⟩,⟨tg2,iter2,ifs2,0⟩] sc pos) 1 (<- holding [x] (pyIter x)) (.ref p) env) env)
    again (.compLoop (.ListComp elt [⟨tg,iter,ifs,0⟩,⟨tg2,iter2,ifs2,0⟩] sc pos) 0 (.ref it) (.ref p) env)):=by
 unfold compTurn;simp only[bind_assoc,pure_bind];rfl
theorem zjC{it:Addr}{fp:List Addr}{tn:Nat -> Heap -> Prop}{J:It}(T:Turn X.prog X.w X.K tg J fp it tn)(hc:X.calm=true)(hg:InBlk X sc N' λY => PG Y tg g)(ht:InBlk X sc N' λY => PTs Y ifs tt)
  (hi2:InBlk X sc N' λY=>PI Y tg2 iter2 wi2) (hg2:InBlk X sc N' λY=>PG Y tg2 g2) (ht2:InBlk X sc N' λY=>PTs Y ifs2 tt2) (he:InBlk X sc N' λY=>PE Y elt te) (hs2:∀cl C x,BU iter2 (DC sc cl C X.env) x=pure x) :
  ∀cl C s0 H0 ex p pins s σ H Dn R,Inv (blk X sc cl C N' s0 H0 ex) pins σ H s->tn 0 s.heap->(∀b∈fp,FpOk (blk X sc cl C N' s0 H0 ex) pins H b)->zdu J g (tIfs tt (tNest wi2 g2 (tIfs tt2 (zcG p te)))) Dn σ H ->
   (∀fl s',(∃ σ' H',Inv (blk X sc cl C N' s0 H0 ex) pins σ' H' s'/\(∀b∈fp,H' b=none)/\Dn.nx σ' H')->R (.ok fl) s')->C4 (AE X.prog X.w) X.A (.compLoop (.ListComp elt [⟨tg,iter,ifs,0⟩,⟨tg2,iter2,ifs2,0⟩] sc pos) 0 (.ref it) (.ref p) (DC sc cl C X.env)) R s :=
 λcl C s0 H0 ex p pins s σ H Dn R I st f W hR =>
  zeU (X:=blk X sc cl C N' s0 H0 ex) (p:=iter.pos) (inner:=do
   let x <- eval iter2 (DC sc cl C X.env)
   standAt iter2.pos
   let x <- BU iter2 (DC sc cl C X.env) x
   let _ <- runOwn (.compStart (.ListComp elt [⟨tg,iter,ifs,0⟩,⟨tg2,iter2,ifs2,0⟩] sc pos) 1 (<- holding [x] (pyIter x)) (.ref p) (DC sc cl C X.env)) (DC sc cl C X.env))
   rfl rfl zhp (λB {α t Q E s} h w=>by subst h;exact w) hc rfl (hg _ _ _ _ _) (ht _ _ _ _ _) (znk (Y:=blk X sc cl C N' s0 H0 ex) hc rfl (hi2 _ _ _ _ _) (hg2 _ _ _ _ _) (ht2 _ _ _ _ _) (he _ _ _ _ _) (hs2 cl C)) I T st f W hR
noncomputable def zmY(wi:TI)(sel:List (Option Nat))(g:TG)(tt:TT)(wi2:TI)(g2:TG)(tt2:TT)(te:TE):TE:=λσ H Q=>wi σ H λJ H1=>∀p,H1 p=none ->
 zdu J g (tIfs tt (tNest wi2 g2 (tIfs tt2 (zcG p te)))) { nx:=λ_ H'=>Q (.ref p) H',rt:=λ_ _=>False } (selSt sel σ) (upd H1 p (.lst []))
theorem zku(B:BlkOk osc N sc N' sel)(hi:PI X tg iter wi)(hg:InBlk X sc N' λY => PG Y tg g)(ht:InBlk X sc N' λY => PTs Y ifs tt)(hi2:InBlk X sc N' λY => PI Y tg2 iter2 wi2)(hg2:InBlk X sc N' λY => PG Y tg2 g2)(ht2:InBlk X sc N' λY => PTs Y ifs2 tt2)(he:InBlk X sc N' λY => PE Y elt te)(hs2:∀cl C x, BU iter2 (DC sc cl C X.env) x=pure x)
  (ho:X.env.scope=osc:=by rfl) (hN:X.N=N:=by rfl) (hc:X.calm=true:=by rfl) (hs:∀x,BU iter X.env x=pure x:=by intro _;rfl) :
  PE X (.ListComp elt [⟨tg,iter,ifs,0⟩,⟨tg2,iter2,ifs2,0⟩] sc pos) (zmY wi sel g tt wi2 g2 tt2 te):=by
 intro pins s σ H Q I h;obtain⟨cl,Cl⟩:=zlg I.ok B ho;rw[eval_ListComp];refine Ec (use:=none) rfl hs Cl.run B.kind B.names (thn (hi pins s σ H _ I h) λv s1 h1=>thn h1 λitv s2 h2=>?_);obtain⟨it,fp,tn,J,H2,e,I2,T,st2,f2,h2⟩:=h2;subst e
 refine BG (zeV (e:=.ListComp elt [⟨tg,iter,ifs,0⟩,⟨tg2,iter2,ifs2,0⟩] sc pos) (inner:=λ_ _=>pure ()) (D:=λp=>{ nx:=λ_ H'=>Q (.ref p) H',rt:=λ_ _=>False }) (tb:=λp=>tNest wi2 g2 (tIfs tt2 (zcG p te))) (use:=none) B ho hN hc (λacc env R s a b=>codeAny_compStart_list a b)
  (zjC (iter:=iter) (pos:=pos) T hc hg ht hi2 hg2 ht2 he hs2) I2 T st2 f2 zhY rfl (h2 _ (I2.hok.fresh (Ai _))) (λC H' s' I3 fC hn hq=>?_) s2.toks cl Cl X.xe)
 obtain⟨m,hn⟩:=hn;obtain⟨_,hq⟩:=hq;exact⟨m,hn,λh' hs'=>⟨.ref s2.heap.objs.size,H',I3.let_go fC hs',rfl,hq⟩⟩
end
end L2
namespace RP
noncomputable def mv(i:Nat):Int×Int:=([(1,0),(1,1),(0,1),(-1,1),(-1,0),(-1,-1),(0,-1),(1,-1)]:List (Int×Int)).getD i (0,0)
noncomputable abbrev Cell:=Int×Int
noncomputable def go(c:Cell)(i:Nat):Cell:=(c.1+(mv i).1,c.2+(mv i).2)
structure Edge where
 c:Cell
 w:Nat
 deriving DecidableEq
noncomputable def gap(e:Edge):Cell:=go e.c ((2*e.w+6) % 8)
noncomputable def stepB(C:Cell->Bool)(e:Edge):Option Nat :=
 if C (go e.c ((2*e.w+7) % 8))=true then some ((2*e.w+7) % 8) else if C (go e.c (2*e.w))=true then some (2*e.w) else none
noncomputable def slant:Option Nat->Bool
 |none=>false
 |some s=>s % 2 == 1
noncomputable def edgeB(e:Edge):Option Nat->Edge
 |none=>⟨e.c,(e.w+1) % 4⟩
 |some s=>if s % 2=1 then ⟨go e.c s,(e.w+3) % 4⟩ else ⟨go e.c s,e.w⟩
noncomputable def nxt(C:Cell->Bool)(e:Edge):Edge:=edgeB e (stepB C e)
noncomputable def IsE(C:Cell->Bool)(e:Edge):Prop:=e.w<4/\C e.c=true/\C (gap e)=false
noncomputable def prv(C:Cell->Bool)(f:Edge):Edge :=
 if C (go f.c ((2*f.w+5) % 8))=true then ⟨go f.c ((2*f.w+5) % 8),(f.w+1) % 4⟩
 else if C (go f.c ((2*f.w+4) % 8))=true then ⟨go f.c ((2*f.w+4) % 8),f.w⟩ else ⟨f.c,(f.w+3) % 4⟩
theorem way4{w:Nat}(h:w<4):w=0∨w=1∨w=2∨w=3:=by lia
noncomputable def mvAdd(a b d:Nat):Bool:=(mv a).1+(mv b).1 == (mv d).1 && (mv a).2+(mv b).2 == (mv d).2
noncomputable def mvNil(a b:Nat):Bool:=(mv a).1+(mv b).1 == 0 && (mv a).2+(mv b).2 == 0
theorem go_go{c:Cell}{a b d:Nat}(h:mvAdd a b d=true):go (go c a) b=go c d:=by unfold mvAdd at h;simp only[Bo,beq_iff_eq]at h;unfold go;exact Eb (by show c.1+(mv a).1+(mv b).1=c.1+(mv d).1;lia) (by show c.2+(mv a).2+(mv b).2=c.2+(mv d).2;lia)
theorem zk3{c:Cell}{a b:Nat}(h:mvNil a b=true):go (go c a) b=c:=by unfold mvNil at h;simp only[Bo,beq_iff_eq]at h;unfold go;exact Eb (by show c.1+(mv a).1+(mv b).1=c.1;lia) (by show c.2+(mv a).2+(mv b).2=c.2;lia)
theorem f1:∀w<4,mvAdd ((2*w+7) % 8) ((2*((w+3) % 4)+6) % 8) ((2*w+6) % 8)=true:=by decide
theorem f2:∀w<4,mvAdd (2*w) ((2*w+6) % 8) ((2*w+7) % 8)=true:=by decide
theorem f3:∀w<4,(2*((w+1) % 4)+6) % 8=2*w:=by decide
theorem f4:∀w<4,mvNil ((2*w+7) % 8) ((2*((w+3) % 4)+5) % 8)=true:=by decide
theorem f5:∀w<4,mvAdd (2*w) ((2*w+5) % 8) ((2*w+6) % 8)=true:=by decide
theorem f6:∀w<4,mvNil (2*w) ((2*w+4) % 8)=true:=by decide
theorem f7:∀w<4,(2*((w+1) % 4)+5) % 8=(2*w+7) % 8:=by decide
theorem f8:∀w<4,(2*((w+1) % 4)+4) % 8=(2*w+6) % 8:=by decide
theorem odd7(w:Nat):(2*w+7) % 8 % 2=1:=by lia
theorem zbu{C:Cell -> Bool}{e:Edge}(h:IsE C e) :
  (C (go e.c ((2*e.w+7) % 8))=true/\stepB C e=some ((2*e.w+7) % 8)/\nxt C e=⟨go e.c ((2*e.w+7) % 8),(e.w+3) % 4⟩) ∨
  (C (go e.c ((2*e.w+7) % 8))=false/\C (go e.c (2*e.w))=true/\stepB C e=some (2*e.w)/\nxt C e=⟨go e.c (2*e.w),e.w⟩) ∨
  (C (go e.c ((2*e.w+7) % 8))=false/\C (go e.c (2*e.w))=false/\stepB C e=none/\nxt C e=⟨e.c,(e.w+1) % 4⟩):=by
 unfold nxt stepB
 by_cases h1:C (go e.c ((2*e.w+7) % 8))=true
 .left;rw[if_pos h1];exact⟨h1,rfl,by simp only[edgeB];rw[if_pos (odd7 _)]⟩
 .right;have h1':C (go e.c ((2*e.w+7) % 8))=false:=by simpa using h1
  rw[if_neg h1]
  by_cases h2:C (go e.c (2*e.w))=true
  .left;rw[if_pos h2];exact⟨h1',h2,rfl,by simp only[edgeB];rw[if_neg (by lia)]⟩
  .right;rw[if_neg h2];exact⟨h1',by simpa using h2,rfl,rfl⟩
theorem zfx{C:Cell->Bool}{e:Edge}(h:IsE C e):IsE C (nxt C e):=by
 obtain⟨hw,hc,hg⟩:=id h;rcases zbu h with⟨h1,_,q⟩ |⟨h1,h2,_,q⟩ |⟨h1,h2,_,q⟩ <;> rw[q]
 .refine⟨Cv _ (by decide),h1,?_⟩;unfold gap;rw[go_go (f1 _ hw)];exact hg
 .refine⟨hw,h2,?_⟩;unfold gap;rw[go_go (f2 _ hw)];exact h1
 .refine⟨Cv _ (by decide),hc,?_⟩;unfold gap;simp only;rw[f3 _ hw];exact h2
theorem zko{C:Cell->Bool}{e:Edge}(h:IsE C e):prv C (nxt C e)=e:=by
 obtain⟨hw,hc,hg⟩:=id h;unfold gap at hg;rcases zbu h with⟨h1,_,q⟩ |⟨h1,h2,_,q⟩ |⟨h1,h2,_,q⟩ <;> rw[q] <;> unfold prv <;> simp only
 .rw[zk3 (f4 _ hw),if_pos hc];rw[show ((e.w+3) % 4+1) % 4=e.w by lia]
 .rw[go_go (f5 _ hw),hg,if_neg (by decide),zk3 (f6 _ hw),if_pos hc]
 .rw[f7 _ hw,h1,if_neg (by decide),f8 _ hw,hg,if_neg (by decide)];rw[show ((e.w+1) % 4+3) % 4=e.w by lia]
theorem zhW{C:Cell->Bool}{e f:Edge}(he:IsE C e)(hf:IsE C f)(h:nxt C e=nxt C f):e=f:=by rw[<- zko he,<- zko hf,h]
noncomputable def Chain(C:Cell->Bool)(b:Edge)(es:List Edge):Prop:=es[0]?=some b/\(∀i e f,es[i]?=some e->es[i+1]?=some f->f=nxt C e)/\(∀e∈es,IsE C e)/\es.Nodup
theorem Chain.start{C:Cell->Bool}{b:Edge}(h:IsE C b):Chain C b [b] :=
 ⟨rfl,λi e f _ h2=>by simp at h2,λe he=>by rw[Ao.mp he];exact h,by simp⟩
theorem Chain.more{C:Cell->Bool}{b l:Edge}{es:List Edge}(h:Chain C b (es++[l]))(hn:nxt C l≠b):Chain C b ((es++[l])++[nxt C l]):=by
 obtain⟨h0,hs,hE,hnd⟩:=h;have hl:(es++[l])[es.length]?=some l:=by simp
 have lE:=hE l (by simp);refine⟨?_,λi e f h1 h2=>?_,λe he=>?_,?_⟩
 .rw[Aj (by simp)];exact h0
 .rcases Bl (i+1) (es++[l]).length with hi |hi
  .rw[Aj (by lia)]at h1;rw[Aj hi]at h2;exact hs i e f h1 h2
  .have hi2:=(Ae.mp h2).1;simp at hi2 hi;have hi3:i=es.length:=by lia
   subst hi3;rw[Aj (by simp)]at h1;rw[hl]at h1
   cases h1
   rw[Ar (by simp)]at h2;simp at h2;exact h2.symm
 .rcases Az.mp he with he |he
  .exact hE e he
  .rw[Ao.mp he];exact zfx lE
 .rw[List.nodup_append];refine⟨hnd,by simp,λx hx y hy=>?_⟩;rw[Ao.mp hy];intro e;subst e;obtain⟨i,hi,ei⟩:=A6 hx;rcases Dv i with rfl |hp
  .rw[Ab hi,ei]at h0;exact hn (A0 h0)
  .have hi':i-1<(es++[l]).length:=by lia
   have e1:=hs (i-1) ((es++[l])[i-1]) (nxt C l) (Ab hi') (by rw[show i-1+1=i by lia,Ab hi,ei]);have e2:=zhW lE (hE _ (BA hi')) e1;have e3:es.length=i-1:=(Dh (by simp) hnd).mp (by rw[hl,Ab hi',<- e2]);simp at hi;lia
theorem zaP{α:Type} [DecidableEq α]:∀{a b:List α},a.Nodup->(∀x∈a,x∈b)->a.length<=b.length
 |[],_,_,_=>AT _
 |x::a,b,hn,hs=>by
  have hx:x∈b:=hs x AM
  have h1:=zaP (a:=a) (b:=b.erase x) (Db.mp hn).2 (λy hy=>by refine (List.mem_erase_of_ne ?_).mpr (hs y (AK _ hy));intro e;subst e;exact (Db.mp hn).1 hy)
  rw[List.length_erase_of_mem hx]at h1;have:0<b.length:=Dw hx;simp only[A9];lia
noncomputable def sides(cs:List Cell):List Edge:=cs.flatMap λc=>(Bq 4).map λw=>⟨c,w⟩
theorem zcH(cs:List Cell):(sides cs).length=4*cs.length:=by
 unfold sides
 induction cs with
 |nil=>rfl
 |cons c r ih=>rw[List.flatMap_cons,Am,ih];simp;lia
theorem zeJ{cs:List Cell}{e:Edge}:e∈sides cs ↔ e.c∈cs/\e.w<4:=by
 unfold sides;rw[List.mem_flatMap];constructor
 .rintro⟨c,hc,h⟩;obtain⟨w,hw,rfl⟩:=AG.mp h;exact⟨hc,Ce.mp hw⟩
 .rintro⟨hc,hw⟩;exact⟨e.c,hc,AG.mpr ⟨e.w,Ce.mpr hw,rfl⟩⟩
noncomputable def isIn(cs:List Cell)(c:Cell):Bool:=decide (c∈cs)
theorem Chain.short{cs:List Cell}{b:Edge}{es:List Edge}(h:Chain (isIn cs) b es):es.length<=4*cs.length:=by rw[<- zcH];exact zaP h.2.2.2 λe he=>zeJ.mpr ⟨of_decide_eq_true (h.2.2.1 e he).2.1,(h.2.2.1 e he).1⟩
noncomputable def allE(cs:List Cell):List Edge:=(sides cs).filter λe=>!isIn cs (gap e)
theorem ziO{cs:List Cell}{e:Edge}:e∈allE cs ↔ IsE (isIn cs) e:=by
 unfold allE;rw[List.mem_filter,zeJ];unfold IsE isIn;constructor
 .rintro⟨⟨h1,h2⟩,h3⟩;exact⟨h2,decide_eq_true h1,by simpa using h3⟩
 .rintro⟨h1,h2,h3⟩;exact⟨⟨of_decide_eq_true h2,h1⟩,by simpa using h3⟩
noncomputable def dx(w:Nat):Int:=if w=0 then 1 else if w=2 then -1 else 0
noncomputable def dy(w:Nat):Int:=if w=1 then 1 else if w=3 then -1 else 0
noncomputable def px(e:Edge):Int:=e.c.1+(if e.w=1∨e.w=2 then 1 else 0)
noncomputable def py(e:Edge):Int:=e.c.2+(if e.w=2∨e.w=3 then 1 else 0)
theorem zky{C:Cell->Bool}{e:Edge}(h:IsE C e):px (nxt C e)=px e+dx e.w/\py (nxt C e)=py e+dy e.w:=by
 have hw:=h.1
 rcases zbu h with⟨_,_,q⟩ |⟨_,_,_,q⟩ |⟨_,_,_,q⟩ <;> rw[q] <;> obtain⟨c,w⟩:=e <;> simp only at hw <;>
  rcases way4 hw with rfl |rfl |rfl |rfl <;> simp[px,py,dx,dy,go,mv] <;> lia
theorem znG{C:Cell->Bool}{e:Edge}(h:IsE C e):(nxt C e).w=(e.w+3) % 4∨(nxt C e).w=e.w∨(nxt C e).w=(e.w+1) % 4:=by
 rcases zbu h with⟨_,_,q⟩ |⟨_,_,_,q⟩ |⟨_,_,_,q⟩ <;> rw[q]
 .exact .inl rfl
 .exact .inr (.inl rfl)
 .exact .inr (.inr rfl)
noncomputable def Closed(C:Cell->Bool)(b:Edge)(es:List Edge):Prop:=Chain C b es/\∃l,es[es.length-1]?=some l/\nxt C l=b
theorem psum{C:Cell->Bool}{b:Edge}{es:List Edge}(h:Chain C b es):∀i e,es[i]?=some e->px e=px b+((es.take i).map λe=>dx e.w).sum/\py e=py b+((es.take i).map λe=>dy e.w).sum
 | 0,e,he=>by
  have h0:=h.1;rw[he]at h0
  cases h0
  simp
 |i+1,e,he=>by
  have hi:i+1<es.length:=(Ae.mp he).1;have h1:es[i]?=some es[i]:=Ab (by lia)
  obtain⟨a,c⟩:=psum h i _ h1;have hn:=h.2.1 i _ e h1 he;obtain⟨p,q⟩:=zky (h.2.2.1 _ (BA (show i<es.length by lia)));rw[<- hn]at p q;rw[DT,h1];simp only[Option.toList_some,Aq,Bj,List.map_nil,En,CD,List.sum_nil];lia
theorem Closed.sums{C:Cell->Bool}{b:Edge}{es:List Edge}(h:Closed C b es):(es.map λe=>dx e.w).sum=0/\(es.map λe=>dy e.w).sum=0:=by
 obtain⟨hc,l,hl,hb⟩:=h;have hlt:=(Ae.mp hl).1;obtain⟨a,c⟩:=psum hc _ l hl;have hlm:=(Ae.mp hl).2;obtain⟨p,q⟩:=zky (hc.2.2.1 l (by rw[<- hlm];exact BA _));rw[hb]at p q
 have e:es=es.take (es.length-1)++[l]:=by have:=DT (l:=es) (i:=es.length-1);rw[hl,show es.length-1+1=es.length by lia,AL]at this;simpa using this
 have s1:(es.map λe=>dx e.w).sum=((es.take (es.length-1)).map λe=>dx e.w).sum+dx l.w:=by
  conv=>lhs;rw[e]
  simp
 have s2:(es.map λe=>dy e.w).sum=((es.take (es.length-1)).map λe=>dy e.w).sum+dy l.w:=by
  conv=>lhs;rw[e]
  simp
 lia
theorem zjf{l:List Int}(h:∀x∈l,0<=x):0<=l.sum:=by
 induction l with
 |nil=>simp
 |cons a r ih =>
  have:=h a AM;have:=ih λx hx=>h x (AK _ hx)
  simp only[CD];lia
theorem zij{l:List Int}(h:∀x∈l,0<=x)(hs:l.sum=0):∀x∈l,x=0:=by
 induction l with
 |nil=>intro x hx;cases hx
 |cons a r ih =>
  have h1:=h a AM;have h2:=zjf λx hx=>h x (AK _ hx)
  simp only[CD]at hs;intro x hx;rcases AI.mp hx with rfl |hx
  .lia
  .exact ih (λx hx=>h x (AK _ hx)) (by lia) x hx
theorem znp(l:List Int):(l.map λx=>-x).sum=-l.sum:=by
 induction l with
 |nil=>rfl
 |cons a r ih=>simp only[Bj,CD,ih];lia
theorem zlf(l:List Int)(d:Int)(h:∀x∈l,x=d):l.sum=d*l.length:=by
 induction l with
 |nil=>simp
 |cons a r ih =>
  have h1:=h a AM;have h2:=ih λx hx=>h x (AK _ hx)
  simp only[CD,A9,h1,h2];rw[Int.natCast_add,Int.mul_add];lia
theorem Closed.has{C:Cell->Bool}{b:Edge}{es:List Edge}(h:Closed C b es){k:Nat}(hk:k=0∨k=2):∃e∈es,e.w=k:=by
 apply Classical.byContradiction
 intro hno;have hno':∀e∈es,e.w≠k:=λe he z=>hno ⟨e,he,z⟩
 obtain⟨s1,s2⟩:=h.sums;obtain⟨hc,_⟩:=h
 have hpos:0<es.length:=by have:=hc.1;exact (Ae.mp this).1
 have z:∀e∈es,dx e.w=0:=by
  rcases hk with rfl |rfl
  .have := zij (l := (es.map λe => dx e.w).map λx => -x) (λx hx => by obtain⟨y,hy,rfl⟩:=AG.mp hx;obtain⟨e,he,rfl⟩:=AG.mp hy;have:=hno' e he;unfold dx;rw[if_neg this];split <;> decide) (by rw[znp,s1];rfl)
   intro e he;have:=this (-(dx e.w)) (AG.mpr ⟨_,AG.mpr ⟨e,he,rfl⟩,rfl⟩);lia
  .have := zij (l := es.map λe => dx e.w) (λx hx => by obtain⟨e,he,rfl⟩:=AG.mp hx;have:=hno' e he;unfold dx;rw[if_neg this];split <;> decide) s1
   intro e he;exact this _ (AG.mpr ⟨e,he,rfl⟩)
 have odd:∀e∈es,e.w=1∨e.w=3:=λe he=>by
  have h4:=(hc.2.2.1 e he).1;have hz:=z e he;rcases way4 h4 with q |q |q |q
  .rw[q]at hz;exact absurd hz (by decide)
  .exact .inl q
  .rw[q]at hz;exact absurd hz (by decide)
  .exact .inr q
 have same:∀(i:Nat) (e:Edge),es[i]?=some e->e.w=b.w:=by
  intro i
  induction i with
  |zero=>intro e he;have:=hc.1;rw[he]at this;cases this;rfl
  |succ i ih =>
   intro e he;have hi:i+1<es.length:=(Ae.mp he).1;have h1:es[i]?=some es[i]:=Ab (by lia)
   have hn:=hc.2.1 i _ e h1 he;have m1:es[i]∈es:=BA _;have m2:e∈es:=An he;have w1:=ih _ h1;have o1:=odd _ m1;have o2:=odd _ m2;have:=znG (hc.2.2.1 _ m1);rw[<- hn]at this;lia
 have all:∀x∈es.map (λe=>dy e.w),x=dy b.w:=λx hx=>by obtain⟨e,he,rfl⟩:=AG.mp hx;obtain⟨i,hi,ei⟩:=A6 he;rw[same i e (by rw[Ab hi,ei])]
 have t:=zlf _ _ all;rw[s2,Ag]at t
 have ob:b.w=1∨b.w=3:=by have:=hc.1;exact odd b (An this)
 have d1:dy b.w=1∨dy b.w=-1:=by rcases ob with q |q <;> rw[q] <;> decide
 rcases d1 with q |q <;> rw[q]at t <;> lia
end RP
namespace L2
open PySem PySem.Spec PyProof.Rows
structure Fn (P:AF) (w:A7) (K:W.Frag) (mg:Str->Option Value) (base:Heap) (k:Nat) (x:Str) (ps:List Str) (sp:Sp) where
 f:Addr
 fd:BI
 ok:FnOk P w K mg base CX0 k f fd ps sp
 m:mg x=some (.ref f)
 kp:DP K (.ref f)=true
 b:Binds K fd ps []
structure Df (K:W.Frag) (mg:Str->Option Value) (x:Str) (st:Stmt) (ps:List Str) where
 f:Addr
 fd:BI
 F:Fun K x x st f fd
 m:mg x=some (.ref f)
 b:Binds K fd ps []
noncomputable def Df.fn{P:AF}{w:A7}{K:W.Frag}{mg:Str->Option Value}{base:Heap}{k:Nat}{x:Str}{st:Stmt}{ps:List Str}{sp:Sp}(d:Df K mg x st ps)(h:FnOk P w K mg base CX0 k d.f d.fd ps sp):Fn P w K mg base k x ps sp :=
 ⟨d.f,d.fd,h,d.m,d.F.kp,d.b⟩
structure Ways (P:AF) (w:A7) (K:W.Frag) (mg:Str->Option Value):Prop where
 ex:∃(B:Addr) (t1 t2 t3 t4:Tok) (n:Nat),mg "BEGIN_WAYS" = some (.ref B)/\K.lookup B=some ⟨.type "dict",none,.dict #[⟨Bc w.params "rim",.str "rim" t1,.int 0 t2⟩,⟨Bc w.params "hole",.str "hole" t3,.int 2 t4⟩] n,#[]⟩
noncomputable def tWays (ti:TE):TE:=λσ H Q=>ti σ H λy H1=>(y=.str "rim" /\ Q (.int 0) H1)∨(y=.str "hole" /\ Q (.int 2) H1)
theorem zks {X:Cx}{i:Expr}{ti:TE}{p pos:Pos}(hg:Gl X "BEGIN_WAYS") (hw:Ways X.prog X.w X.K X.mg) (hi:PE X i ti) (hs:NoSl i:=by exact λ_ _=>rfl):PE X (.Subscript (.Name "BEGIN_WAYS" p) i pos) (tWays ti):=by
 intro pins s σ H Q I h;obtain⟨B,t1,t2,t3,t4,n,hm,hl⟩:=hw.ex;refine zhJ D3.lookup hs (thn ((zbA (v:=.ref B) hg hm rfl:PE X (.Name "BEGIN_WAYS" p) _) pins s σ H (λv H1=>v=V.ref B/\H1=H) I ⟨rfl,rfl⟩) λu s1 ⟨x,H1,I1,rx,q1⟩=>?_);obtain⟨rfl,rfl⟩:=q1;obtain rfl:u=Au B:=rx;refine thn (hi pins s1 σ H1 _ I1 h) λiv s2 ⟨y,H2,I2,ry,q2⟩=>?_
 have ho:s2.heap.get? B=some _:=I2.kIn B _ hl
 have mo:s2.heap.MapOf (zaD X.prog X.w) B (PySem.findBy (zaD X.prog X.w).is #[⟨Bc X.w.params "rim",.str "rim" t1,.int 0 t2⟩,⟨Bc X.w.params "hole",.str "hole" t3,.int 2 t4⟩]) :=
  ⟨_,_,_,ho,⟨rfl,rfl,rfl⟩,rfl,λe he=>by
   simp only[List.mem_toArray,AI,Cw,or_false]at he;rcases he with rfl |rfl
   .exact⟨.inr "rim",zaN _ _ _ _,rfl⟩
   .exact⟨.inr "hole",zaN _ _ _ _,rfl⟩,λ_=>rfl⟩
 refine⟨⟨_,ho,rfl⟩,?_⟩;rcases q2 with⟨rfl,q⟩ |⟨rfl,q⟩
 .exact CY (kV_is (k:=.inr "rim") ry) mo (v:=.int 0 t2) rfl ⟨.int 0,H2,I2.tok _,⟨_,rfl⟩,q⟩
 .exact CY (kV_is (k:=.inr "hole") ry) mo (v:=.int 2 t4) rfl ⟨.int 2,H2,I2.tok _,⟨_,rfl⟩,q⟩
section
variable {X:Cx}{K:W.Frag}
theorem zgl(hK:X.K=K:=by rfl):IxR X (rIxT K):=by subst hK;exact zbn
theorem zl0(hK:X.K=K:=by rfl):IxR X (rIxL K):=by subst hK;exact za7
theorem zcx{es:List Expr}{k:Nat}{t:TGs}{n:Nat}{pos:Pos}(hc:X.calm=true)(h:PGs X es t)
  (hn:(CM es X.env).length=n:=by rfl) (hst:(CM es X.env).findIdx? (·.1)=none:=by rfl) (hK:X.K=K:=by rfl):PG X (.Tuple es k pos) (gTup K n t):=by
 subst hK;exact zba hc h hn hst
end
section
variable {X:Cx}
noncomputable def rSlTW(K:W.Frag):V->Option Int->Option Int->Hp->VK->Prop:=λx lo hi H Q=>∃a xs,x=.ref a/\SqT K H a xs /\
 ((HT.sIx xs.length 0 lo=0/\HT.sIx xs.length xs.length hi=xs.length)->Q (.ref a) H) /\
 (¬ (HT.sIx xs.length 0 lo=0/\HT.sIx xs.length xs.length hi=xs.length)->∀p,H p=none->Q (.ref p) (upd H p (.tup (cutV xs lo hi))))
end
end L2
namespace HT
open PySem PyProof.Rows
variable {prog:AF}{w:A7}{A:AS}{E:Value->Af->Prop}{s:Af}
theorem getItem_tuple_all{t sl:Addr}{items:Array Value}{vl vu:Value}{lo hi:Option Int}{Q:Value -> Af -> Prop}(ht:IsTup s.heap t items)(hs:s.heap.IsSliceOf sl vl vu .none)(pl:IsPart vl lo)(pu:IsPart vu hi)
  (hw:sIx items.size 0 lo=0/\sIx items.size items.size hi=items.size) (h:Q (.ref t) s):Aw (AE prog w) A (getItem (.ref t) (.ref sl)) Q E s:=by
 obtain⟨os,hos,hcs,hds⟩:=id hs;have hTs:s.TypeIs (.ref sl) "slice":=⟨os,hos,hcs⟩;unfold getItem
 try with_reducible refine Br ?_
 first |refine Ad (Ak ?_) |skip
 refine Ad (wpAny_sequenceKey ht.typeIs (by decide) ?_)
 refine Ad (Dq (name:=Aa "__getitem__") ht.typeIs BJ
  (DY BJ ht.typeIs entry_tuple_getitem ?_ (args_tuple_getitem _ _)))
 show Aw _ _ (Builtin.Tuple.tupleItemsOf (.ref t) >>= _) _ _ s;refine Ad (tupleItemsOf_ ht ?_);refine Ad (wpAny_typeOf hTs ?_);rw[if_pos (by decide)];refine Ad (zcD hs pl pu ?_)
 have hyes:(((sIx items.size 0 lo:Nat):Int) == 0 && (1:Int) == 1 && (sIx items.size items.size hi-sIx items.size 0 lo) == items.size)=true:=by rw[hw.1,hw.2];simp
 show Aw _ _ (if (((sIx items.size 0 lo:Nat):Int) == 0 && (1:Int) == 1 && (sIx items.size items.size hi-sIx items.size 0 lo) == items.size)=true then _ else _) _ _ s;rw[if_pos hyes];refine Ad ?_
 unfold Builtin.Tuple.tupleIsExact;refine Ad (wpAny_typeOf ht.typeIs (Ak ?_));rw[if_pos (by decide)];exact Ad (Dl (Ak ⟨_,rfl,Ak h⟩))
end HT
namespace L2
open PySem PySem.Spec PyProof.Rows
section
variable {X:Cx}{K:W.Frag}
theorem zm2:SlR X (rSlTW X.K):=by
 intro pins s σ H x v vl vu lo hi sl Q I rx hs pl pu h;obtain⟨a,xs,rfl,hx,q1,q2⟩:=h
 by_cases hw:HT.sIx xs.length 0 lo=0/\HT.sIx xs.length xs.length hi=xs.length
 .cases rx
  obtain⟨its,r,ht,hz⟩:=I.tuple hx;have hlen:its.toArray.size=xs.length:=by rw[As];exact r.length.symm
  refine⟨"tuple",_,BJ.lookup,ht.typeIs,?_⟩;exact HT.getItem_tuple_all ht hs pl pu (by rw[hlen];exact hw) ⟨.ref a,H,I,rfl,q1 hw⟩
 .exact znS pins s σ H _ v vl vu lo hi sl Q I rx hs pl pu ⟨a,xs,rfl,hx,hw,q2 hw⟩
end
section
variable {prog:AF}{w:A7}{K:Type} [DecidableEq K] {knd:HeapKind prog w K}{A:AS}{E:Value->Af->Prop}{s:Af}{d a:Addr}{xs:List (K×Addr×Value)}{k:K}{dflt:Value}
theorem zfC{p:Addr×Value}(h:atKey xs k=some p):∃j:Nat,xs[j]?=some (k,p):=by
 unfold atKey at h;obtain⟨x,hx,e⟩:=Bb.mp h;have hm:=List.mem_of_find?_eq_some hx;have hk:=List.find?_some hx;obtain⟨j,hj,ej⟩:=A6 hm;have:x.1=k:=by simpa using hk
 exact⟨j,by rw[Ab hj,ej,<- e,<- this]⟩
theorem zme{p:Addr×Value}{j:Nat}(hn:(xs.map λx=>x.1).Nodup)(h:xs[j]?=some (k,p)):atKey xs k=some p:=by
 cases e:atKey xs k with
 |none =>
  exfalso;unfold atKey at e;have:=List.find?_eq_none.mp (Option.map_eq_none_iff.mp e) _ (An h);simp at this
 |some q =>
  obtain⟨i,hi⟩:=zfC e;have hl:=(Ae.mp hi).1;have:=(Dh (i:=i) (j:=j) (by rw[Ag];exact hl) hn).mp (by rw[Ay,Ay,hi,h];rfl);subst this;rw[hi]at h
  cases h
  rfl
theorem zev{Q:Value -> Af -> Prop}(hr:knd.room A)(hk:knd.is s.heap k a)(hD:Heap.DictOfH knd s.heap d xs)(hsz:xs.length <= sizeLine)
  (h1:∀p,atKey xs k=some p->Q p.2 { s with toks:=s.toks+knd.draws k })
  (h2:atKey xs k=none->∀h',Heap.DictOfH knd h' d (storedH xs k a dflt)->CQ d s.heap h'->Q dflt { s with heap:=h',toks:=s.toks+knd.draws k }) :
  Aw (AE prog w) A (dictSetDefault d (.ref a) dflt) Q E s:=by
 obtain⟨o,es,ep,ho,hx,hd,he,hi,hn⟩:=id hD;unfold dictSetDefault;refine Br (Ad (knd.pyHash hr hk ?_));refine Ad (wpAny_dictFind_heap (s:={ s with toks:=s.toks+knd.draws k }) hr hk ho hd he hi hn (λhno=>?_) λj p hj=>?_)
 .have hnone:atKey xs k=none := by
   cases e:atKey xs k with
   |none=>rfl
   |some p=>obtain⟨j,hj⟩:=zfC e;exact absurd hj (hno j p)
  refine Ad (Dl ?_);have hes:es.size=xs.length:=by rw[<- AN,he,Ag]
  refine Ad (wpAny_updateDictKeys ho hd (Ak (h2 hnone _ ?_ ⟨?_,λb hb=>Dt _ _ (Cz hb)⟩)) (by lia) (by simp))
  .have hs:CQ d s.heap (s.heap.update d (Obj.mapDictKeys λx=>x.push ⟨knd.hash k,.ref a,dflt⟩)):=⟨?_,λb hb=>Dt _ _ (Cz hb)⟩
   .obtain⟨c,dd,dt,sl⟩:=o;simp only at hd;subst hd;refine⟨_,es.push ⟨knd.hash k,.ref a,dflt⟩,ep+1,Heap.get?_update_self _ ho rfl,hx,rfl,?_,λx hx'=>?_,?_⟩
    .rw[storedH_new hnone,Aq,<- he];simp[entryOfKey]
    .rw[storedH_new hnone]at hx';rcases Az.mp hx' with m |m
     .exact knd.keeps (hi x m) ho rfl hs
     .rw[Ao.mp m];exact knd.keeps hk ho rfl hs
    .rw[storedH_new hnone,Aq,List.nodup_append];refine⟨hn,by simp,λx hx' y hy e=>?_⟩;simp at hy;subst hy e;obtain⟨⟨k',p⟩,hm,ek⟩:=AG.mp hx';obtain⟨j,hj,ej⟩:=A6 hm;simp only at ek;subst ek;exact hno j p (by rw[Ab hj,ej])
   .show (s.heap.update d _).objs.size=_;unfold Heap.update;simp
  .show (s.heap.update d _).objs.size=_;unfold Heap.update;simp
 .have hlt:=(Ae.mp hj).1;have hes:es.size=xs.length:=by rw[<- AN,he,Ag]
  have ee:es[j]?=some ⟨knd.hash k,.ref p.1,p.2⟩:=by rw[<- Bv,he,Ay,hj];rfl
  refine Ad (wpAny_dictEntries ho hd ?_);simp only[ee];refine Ad (Dl (Ak ?_));exact h1 p (zme hn hj)
theorem zdU(knd:HeapKind prog w K)(d a:Addr)(hd:(d == Cr)=false)(dflt:Value) :
  MeetsIn prog w (Builtin.«dict.setdefault» ⟨[.ref d,.ref a,dflt],[]⟩) λA R s=>knd.room A.in1/\∃k xs,knd.is s.heap k a/\Heap.DictOfH knd s.heap d xs/\xs.length<=sizeLine /\
   (∀p,atKey xs k=some p->R (.ok (.ret p.2)) { s with toks:=s.toks+knd.draws k }) /\
   (atKey xs k=none->∀h',Heap.DictOfH knd h' d (storedH xs k a dflt)->CQ d s.heap h'->R (.ok (.ret dflt)) { s with heap:=h',toks:=s.toks+knd.draws k }):=by
 intro A R s h;obtain⟨hr,k,xs,hk,hD,hsz,h1,h2⟩:=h;unfold Builtin.«dict.setdefault» Builtin.Dict.keyAndDefault;have ht:s.TypeIs (.ref d) "dict":=hD.typeIs;refine Ad (Ad (wpAny_notOrdered_dict ht ?_));refine Ad ?_
 show Aw (AE prog w) A.in1 (pure ()) _ _ s;refine Ak ?_
 refine Ad ?_
 show Aw (AE prog w) A.in1 (pure (Au d,[Au a,dflt])) _ _ s;refine Ak ?_
 show Aw (AE prog w) A.in1 (pure d >>= λx=>pure (x,Au a,some dflt)) _ _ s;refine Ad (Ak (Ak ?_));simp only;rw[hd];show Aw (AE prog w) A.in1 (dictSetDefault d (.ref a) dflt >>= λx=>ret x) _ _ s;refine Ad (zev hr hk hD hsz (λp e=>Ak (h1 p e)) λe h' hD' hs=>Ak (h2 e h' hD' hs))
noncomputable def znO(td ty tx:TE):TE:=λσ H Q=>td σ H λx H1=>∃a,x=.ref a/\IsD H1 a/\ty σ H1 λy H2=>tx σ H2 λz H3=>∃kvs k b,H3 a=some (.dT kvs)/\y=.ref b/\H3 b=some (.tup (k.map kV))/\kvs.length<sizeLine /\
 (∀v,valV kvs k=some v->Q v H3)/\(valV kvs k=none->Q z (upd H3 a (.dT (putK kvs k z))))
end
section
variable {X:Cx}{o e f:Expr}{apos cpos:Pos}{td ty tx:TE}
theorem zlP (hu:X.A.units+1<cLine) (ho:PE X o td) (he:PE X e ty) (hf:PE X f tx) (m:M2 X o "setdefault" apos e f cpos):PE X (.Call (.Attribute o "setdefault" apos) [e,f] [] cpos) (znO td ty tx):=by
 intro pins s σ H Q I h;refine wpAny_Call_method m.base m.few m.line PySem.F.plainAttrs_dict PySem.F.slot_dict_setdefault PySem.F.type_dict_setdefault (thn (ho pins s σ H _ I h) λu s1 ⟨x,H1,I1,rx,a,ex,d,q1⟩=>?_);subst ex;obtain rfl:u=Au a:=rx;obtain⟨t1,t2,_⟩:=zop I1 d;refine⟨t1,t2,?_⟩;rw[m.trees]
 refine Calls.callWith_builtin rfl (Calls.evalArgs_plain (Calls.spliced_cons (thn (he pins s1 σ H1 _ I1 q1) λiv s2 ⟨y,H2,I2,ry,q2⟩ =>
  Calls.spliced_cons (thn (hf pins s2 σ H2 _ I2 q2) λfv s3 ⟨z,H3,I3,rz,kvs,k,b,eD,ey,eb,hl,k1,k2⟩=>Calls.spliced_nil ?_))))
 subst ey
 cases (show iv=Au b from ry)
 obtain⟨zz,hd,xs,rel,dd⟩:=dt_of I3.hok eD
 refine call_meetsIn PySem.F.slot_dict_setdefault dd.typeIs PySem.F.entry_dict_setdefault (PySem.F.args_dict_setdefault_3 _ _ _) (zdU (tupleKind (zaD X.prog X.w)) a b hd fv)
  ⟨Ep hu,k,xs,zhd I3.hok eb,dd,by rw[<- D8 rel];exact zz,λp ep=>?_,λen h' dd' hs=>?_⟩
 .have rv:=rel.val k;rw[ep]at rv
  cases hv:valV kvs k with
  |none=>rw[hv]at rv;exact BN rv
  |some v=>rw[hv]at rv;exact⟨v,H3,I3.tok _,rv,k1 v hv⟩
 .have hn:valV kvs k=none := by
   have rv:=(rel.val k).isSome_eq;rw[en]at rv
   cases hv:valV kvs k with
   |none=>rfl
   |some v=>rw[hv]at rv;exact absurd rv (by simp)
  have hz:(putK kvs k z).length<=sizeLine:=by have:=zbZ kvs k z;lia
  obtain⟨q,es,ep,hq,h2,h3,h4,_,h5⟩:=dd';refine⟨z,_,?_,rz,k2 hn⟩;refine zh5 I3 (by rw[eD];exact Di) hs ⟨q,hq⟩ ⟨hz,hd,_,(rel.put k eb rz).keeps λc ys ec=>?_,q,es,ep,hq,h2,h3,h4,h5⟩;rw[zai (ne_of ec eD (λz=>nomatch z))];exact ec
end
structure Two (P:AF) (w:A7) (K:W.Frag) (mg:Str->Option Value) (nm:Str) (a b:Int):Prop where
 ex:∃(B:Addr) (t1 t2 t3 t4:Tok) (n:Nat),mg nm=some (.ref B)/\K.lookup B=some ⟨.type "dict",none,.dict #[⟨Bc w.params "rim",.str "rim" t1,.int a t2⟩,⟨Bc w.params "hole",.str "hole" t3,.int b t4⟩] n,#[]⟩
noncomputable def tTwo (a b:Int) (ti:TE):TE:=λσ H Q=>ti σ H λy H1=>(y=.str "rim" /\ Q (.int a) H1)∨(y=.str "hole" /\ Q (.int b) H1)
theorem zoa {X:Cx}{nm:Str}{a b:Int}{i:Expr}{ti:TE}{p pos:Pos}(hg:Gl X nm) (hw:Two X.prog X.w X.K X.mg nm a b) (hi:PE X i ti) (hs:NoSl i:=by exact λ_ _=>rfl) (hdb:(nm == ("__debug__" : Str))=false:=by rfl):PE X (.Subscript (.Name nm p) i pos) (tTwo a b ti):=by
 intro pins s σ H Q I h;obtain⟨B,t1,t2,t3,t4,n,hm,hl⟩:=hw.ex;refine zhJ D3.lookup hs (thn ((zbA (v:=.ref B) hg hm rfl (hd:=hdb):PE X (.Name nm p) _) pins s σ H (λv H1=>v=V.ref B/\H1=H) I ⟨rfl,rfl⟩) λu s1 ⟨x,H1,I1,rx,q1⟩=>?_);obtain⟨rfl,rfl⟩:=q1;obtain rfl:u=Au B:=rx;refine thn (hi pins s1 σ H1 _ I1 h) λiv s2 ⟨y,H2,I2,ry,q2⟩=>?_
 have ho:s2.heap.get? B=some _:=I2.kIn B _ hl
 have mo:s2.heap.MapOf (zaD X.prog X.w) B (PySem.findBy (zaD X.prog X.w).is #[⟨Bc X.w.params "rim",.str "rim" t1,.int a t2⟩,⟨Bc X.w.params "hole",.str "hole" t3,.int b t4⟩]) :=
  ⟨_,_,_,ho,⟨rfl,rfl,rfl⟩,rfl,λe he=>by
   simp only[List.mem_toArray,AI,Cw,or_false]at he;rcases he with rfl |rfl
   .exact⟨.inr "rim",zaN _ _ _ _,rfl⟩
   .exact⟨.inr "hole",zaN _ _ _ _,rfl⟩,λ_=>rfl⟩
 refine⟨⟨_,ho,rfl⟩,?_⟩;rcases q2 with⟨rfl,q⟩ |⟨rfl,q⟩
 .exact CY (kV_is (k:=.inr "rim") ry) mo (v:=.int a t2) rfl ⟨.int a,H2,I2.tok _,⟨_,rfl⟩,q⟩
 .exact CY (kV_is (k:=.inr "hole") ry) mo (v:=.int b t4) rfl ⟨.int b,H2,I2.tok _,⟨_,rfl⟩,q⟩
section
variable {X:Cx}
theorem Inv.turned2{pins:List (Addr × Obj)}{σ : St}{H:Hp}{s:Af}{h':Heap}{t':Nat}{e it:Addr}(I:Inv X pins σ H s)(k:∀b o, b ≠ e -> b ≠ it -> s.heap.get? b=some o -> h'.get? b=some o)(fe:FpOk X pins H e)(fi:FpOk X pins H it) :
  Inv X pins σ H { s with heap:=h',toks:=t' }:=by
 obtain⟨f0,f1,f2,f3,f4,f5⟩:=fe;obtain⟨g0,g1,g2,g3,g4,g5⟩:=fi;have nb:∀b u,H b=some u->b≠e/\b≠it:=λb u q=>⟨(λz=>by rw[z,f0]at q;cases q),(λz=>by rw[z,g0]at q;cases q)⟩
 have out:∀b,b ∉ [e,it]->b≠e/\b≠it:=λb hc=>⟨λz=>hc (by simp[z]),λz=>hc (by simp[z])⟩
 refine I.step (g':=s.gens) (d':=s.drawn) (ch:=[e,it]) (λb hb=>?_) (λb o _ _ hc q _=>k b o (out b hc).1 (out b hc).2 q) (λb o _ _ hc q _=>⟨o.slots,k b o (out b hc).1 (out b hc).2 q⟩) (λ_ _ _ _ n=>n)
  (λb o hc q=>⟨o,k b o (out b hc).1 (out b hc).2 q⟩) (λ_ _ q=>q) (λ_ _ _ q=>q) (λb ps q=>⟨#[],by rw[q];simp⟩) (λm hm=>?_) (λb u q=>?_) I.bare
 .rcases AI.mp hb with z |z
  .subst z;exact⟨f3,f1,f4,f5⟩
  .have z':b=it:=by simpa using z
   subst z';exact⟨g3,g1,g4,g5⟩
 .obtain⟨o,es,ep,ho,r⟩:=hm;exact⟨o,es,ep,k _ o (Cz f1) (Cz g1) ho,r⟩
 .refine (I.hok b u q).stay (λc v hc q'=>?_) (λ_ q=>q) λ_ _ q=>q
  rcases hc with z |z
  .rw[z]at q' ⊢;exact k _ _ (nb b u q).1 (nb b u q).2 q'
  .exact k _ _ (nb c _ z).1 (nb c _ z).2 q'
noncomputable def Ite(K:W.Frag)(a:Addr):It :=
 ⟨λi H=>∃xs x,SqL K H a xs/\xs[i]?=some x,λi H y H'=>∃p x,y=.ref p/\H p=none/\H'=upd H p (.tup [.int i,x])/\∀xs,SqL K H a xs->xs[i]?=some x,λi H=>∃xs,SqL K H a xs/\xs.length<=i⟩
theorem zjS{P:AF}{w:A7}{K:W.Frag}{es:List Expr}{x1:Nat}{pos:Pos}(a e it:Addr)(hne:e≠it):Turn P w K (.Tuple es x1 pos) (Ite K a) [e,it] e (λi h=>∃old,IsEnum h e it ((i:Nat):Int) old/\h.IsListIter it a i) where
 mem:=by simp
 obj:=λi h st b hb=>by
  obtain⟨old,h1,o,h2,c,d⟩:=st;rcases AI.mp hb with z |z
  .subst z;exact⟨_,h1,λv q=>nomatch q⟩
  .have z':b=it:=by simpa using z
   subst z';exact⟨o,h2,λv q=>by rw[d]at q;cases q⟩
 keep:=λi h h' ⟨old,h1,h2⟩ k=>⟨old,k e (by simp) _ h1,h2.at λo q=>k it (by simp) o q⟩
 item:=by
  intro X hP hw hK hc i pins s σ H E I hf st hg;subst hP hw hK;obtain⟨old,he,hit⟩:=st;obtain⟨xs,x,hq,hx⟩:=hg;obtain⟨its,rv,p,hz⟩:=I.list hq;obtain⟨u,hu,ru⟩:=rv.get hx;have fe:=hf e (by simp);have fi:=hf it (by simp);refine wpAny_pyNext_enum_item he hit p.isList (x:=u) (by simpa using hu) hne λh1 eo it1 tup sz kk=>⟨_,rfl,?_⟩
  refine wpAny_letOwnedTupleGo_enum (s:={ s with heap:=h1,toks:=s.toks+1 }) eo λh2 he2 sb=>?_
  have heS:e<s.heap.objs.size:=AD he;have hiS:it<s.heap.objs.size:=by obtain⟨o,q,_⟩:=hit;exact AD q
  have fr:H s.heap.objs.size=none:=I.hok.fresh (Ai _)
  have I1:Inv X pins σ (upd H s.heap.objs.size (.tup [.int i,x])) { s with heap:=s.heap.push { cls:=.type "tuple",data:=.seq #[.int i s.toks,u] },toks:=s.toks } :=
   I.laid (t':=s.toks) (o:=.tup [.int i,x]) (λb ob q=>Ah _ q) (Ai _) ⟨by show 2<=sizeLine;decide,_,.cons ⟨_,rfl⟩ (.cons ru .nil),IsTup.new _ _⟩
  have up:∀{b:Addr},b<s.heap.objs.size->∀o,upd H s.heap.objs.size o b=H b:=λhb o=>zai (A3 hb)
  have fe1:FpOk X pins (upd H s.heap.objs.size (.tup [.int i,x])) e:=⟨by rw[up heS];exact fe.1,fe.2⟩;have fi1:FpOk X pins (upd H s.heap.objs.size (.tup [.int i,x])) it:=⟨by rw[up hiS];exact fi.1,fi.2⟩
  have I2:Inv X pins σ (upd H s.heap.objs.size (.tup [.int i,x])) { s with heap:=h2,toks:=s.toks+1 }:=I1.turned2 (λb o hbe hbi q=>by
   refine (sb.2 b hbe).trans ?_
   show h1.get? b=some o;rcases Heap.get?_push_cases q with⟨z,rfl⟩ |q
   .rw[z];exact tup
   .exact kk b o hbe hbi q) fe1 fi1
  refine⟨.ref s.heap.objs.size,_,I2,rfl,⟨_,x,rfl,fr,rfl,λys hy=>by rw[I.list_inj hy hq];exact hx⟩,⟨u,?_,?_⟩,λb hb=>?_⟩
  .exact he2
  .obtain⟨o,q,c,d⟩:=it1;exact⟨o,(sb.2 it (Cz hne)).trans q,c,d⟩
  .rcases AI.mp hb with z |z
   .subst z;exact fe1.1
   .have z':b=it:=by simpa using z
    subst z';exact fi1.1
 done:=by intro X hP hw hK hc i pins s σ H E I hf st hg;subst hP hw hK;obtain⟨old,he,hit⟩:=st;obtain⟨xs,hq,hx⟩:=hg;obtain⟨its,rv,p,hz⟩:=I.list hq;obtain⟨f0,f1,f2,f3,f4,f5⟩:=hf it (by simp);have hl:=rv.length;exact wpAny_pyNext_enum_end (I.ok.hd hc) he hit p.isList (by simp;lia) λh' eb=>⟨rfl,I.turned (t':=s.toks) (λb o hb e=>eb b o hb e) f0 f1 f3 f4 f5⟩
 self:=λ_ _ _ _ _ ⟨_,he,_⟩ h=>wpAny_pyIter_enum he h
noncomputable def iEnum(K:W.Frag)(t:TA):TI:=λσ H R=>t σ H λvs H1=>∃a,vs=[.ref a]/\(∃xs,SqL K H1 a xs)/\R (Ite K a) H1
theorem zhO {l:Expr}{t:TA}{es:List Expr}{x1:Nat}{pos pos' p:Pos}(hg:Gl X "enumerate") (hm:X.mg "enumerate" = none) (ha:PA X [l] t)
  (he:Bw [l] X.env=(false,eval l X.env)::Bw [] X.env:=by rfl) (hpl:(backTo pos' (Bw [] X.env)).any (·.1)=false:=by rfl) :
  PI X (.Tuple es x1 pos) (.Call (.Name "enumerate" p) [l] [] pos') (iEnum X.K t):=by
 intro pins s σ H R I h;refine Cs (zeN I hg hm (by rfl) ?_ (by decide) (by decide));refine DN (thn (ha pos' pins s σ H _ I h) λus s1 ⟨vs,H1,I1,r1,q1⟩=>?_) he hpl;obtain⟨a,ex,⟨xs,hq⟩,q⟩:=q1;subst ex;obtain⟨u,rfl,rx⟩:=vals1 r1
 cases rx
 obtain⟨its,rv,pl,hz⟩:=I1.list hq;refine call_enumerate_list pl.isList λh' he hit hsz kp=>?_
 have I2:Inv X pins σ H1 { s1 with heap:=h' }:=I1.kept (t':=s1.toks) kp;refine wpAny_pyIter_enum he ?_
 refine⟨s1.heap.objs.size+1,[s1.heap.objs.size+1,s1.heap.objs.size],_,_,H1,rfl,I2,zjS a _ _ (Nat.succ_ne_self _),⟨_,he,hit⟩,λb hb=>?_,q⟩;rcases AI.mp hb with z |z
 .subst z;exact I1.fpOk (CG _) (I1.hok.fresh (CG _))
 .have z':b=s1.heap.objs.size:=by simpa using z
  subst z';exact I1.fpOk (Ai _) (I1.hok.fresh (Ai _))
theorem zgn{K:W.Frag}{a:Addr}{xs:List V}{g:TG}{tb:TS}{D:Ends}{σ : St}{H:Hp}(Pv:Nat -> St -> Hp -> Prop)(h0:Pv 0 σ H)(hl:∀i σ H, i <= xs.length -> Pv i σ H -> SqL K H a xs)
  (hs:∀i x σ H p,xs[i]?=some x->Pv i σ H->H p=none->g (.ref p) σ (upd H p (.tup [.int i,x])) λσ2 H2=>tb { D with nx:=Pv (i+1),ct:=Pv (i+1),bk:=D.nx } σ2 H2) (hd:∀ σ H,Pv xs.length σ H->D.nx σ H) :
  ∃W:Nat->Nat->St->Hp->Prop,(∃m,W 0 m σ H)/\∀i m σ H,W i m σ H ->
   ((Ite K a).stop i H/\D.nx σ H)∨((Ite K a).go i H/\∃N:St->Hp->Prop,(∀ σ' H',N σ' H'->∃m',m'<m/\W (i+1) m' σ' H')/\∀x H',(Ite K a).yld i H x H'->g x σ H' λσ2 H2=>tb { D with nx:=N,ct:=N,bk:=D.nx } σ2 H2):=by
 refine⟨λi m σ H=>m=xs.length-i/\i<=xs.length/\Pv i σ H,⟨xs.length,by simp,AT _,h0⟩,?_⟩;rintro i m σ H ⟨rfl,hi,p⟩;have q:=hl i σ H hi p
 by_cases hlt:i<xs.length
 .refine .inr ⟨⟨xs,xs[i],q,by simp[hlt]⟩,Pv (i+1),λσ' H' p'=>⟨xs.length-(i+1),by lia,rfl,hlt,p'⟩,λx H' y=>?_⟩;obtain⟨b,z,rfl,hb,rfl,y⟩:=y;exact hs i z σ H b (y xs q) p hb
 .have e:i=xs.length:=by lia
  subst e;exact .inl ⟨⟨xs,q,Ai _⟩,hd σ H p⟩
end
end L2
namespace HT
open PySem PyProof.Rows PySem.Spec
variable {prog:AF}{w:A7}{A:AS}{E:Value->Af->Prop}{s:Af}
end HT
namespace L2
open PySem PySem.Spec PyProof.Rows
section
variable {X:Cx}{K:W.Frag}
end
end L2
namespace HT
open PySem PyProof.Rows PySem.Spec
theorem zcE:fillsNumberSlot (.type "tuple") "mul" = pure false :=
 PySem.fillsNumberSlot_seq (id:="tuple.__mul__") (r:=some (.builtin "tuple.__rmul__")) F.slot_tuple_mul.lookup (by decide +kernel) F.slot_tuple_rmul.lookup (by decide +kernel)
theorem zdY:seqRepeat? (.type "tuple")=pure (some (.builtin "tuple.__mul__")):=by unfold seqRepeat?;rw[PySem.seqSlot_of (T:="tuple") (name:="__mul__") (id:="tuple.__mul__") F.slot_tuple_mul.lookup (by decide +kernel),PySem.seqSlot_of (T:="tuple") (name:="__rmul__") (id:="tuple.__rmul__") F.slot_tuple_rmul.lookup (by decide +kernel)];rfl
theorem zdb(a:Int)(t:Tok)(l:Addr)(items:Array Value)(n:Nat)(dd:Option Addr)(sl:Array (Option Value)) :
  Meets (Builtin.«int.__rmul__» ⟨[.int a t,.ref l],[]⟩) (λ_ R s=>s.heap.get? l=some { cls:=.type "tuple",dict:=dd,data:=.seq items n,slots:=sl }/\R (.ok (.ret Value.notImplemented)) s) :=
 .of_wp λprog w A R s h=>by obtain⟨hp,g,d,tk,os⟩:=s;obtain⟨hl,h⟩:=h;wp_walk;exact⟨_,rfl,h⟩
theorem zje(t:Tok)(l:Addr)(x:Value)(n:Nat)(dd:Option Addr)(sl:Array (Option Value)) :
  Meets (Builtin.«tuple.__mul__» ⟨[.ref l,.int 1 t],[]⟩) (λ_ R s=>s.heap.get? l=some { cls:=.type "tuple",dict:=dd,data:=.seq #[x] n,slots:=sl }/\R (.ok (.ret (.ref l))) s) :=
 .of_wp λprog w A R s h=>by obtain⟨hp,g,d,tk,os⟩:=s;obtain⟨hl,h⟩:=h;have f1:=AutoSeq1.idx_int;have f2:=CA;wp_walk using BP hl;exact⟨_,rfl,h⟩
theorem zjd(k:Nat)(t:Tok)(l:Addr)(x:Value)(n:Nat)(dd:Option Addr)(sl:Array (Option Value))(h2 : 2 <= k)(hk:k <= 1000)(hsz:((Ac (Int.toNat (k:Int)) #[x]).foldl (· ++ ·) #[]).size <= sizeLine) :
  Meets (Builtin.«tuple.__mul__» ⟨[.ref l,.int (k:Int) t],[]⟩) (λ_ R s=>s.heap.get? l=some { cls:=.type "tuple",dict:=dd,data:=.seq #[x] n,slots:=sl }/\R (.ok (.ret (.ref s.heap.objs.size))) { s with heap:=s.heap.push { cls:=.type "tuple",data:=.seq ((Ac (Int.toNat (k:Int)) #[x]).foldl (·++·) #[]) } }) :=
 .of_wp λprog w A R s h=>by
  obtain⟨hp,g,d,tk,os⟩:=s;obtain⟨hl,h⟩:=h;have f1:=AutoSeq1.idx_int;have f2:=CA;have hc0:¬ (decide ((k:Int) < -2 ^ 63) ||decide ((k:Int) ≥ 2 ^ 63))=true:=by simp;lia
  have hc1:¬ ((#[x]:Array Value).isEmpty || (k:Int) == 1)=true:=by simp;lia
  have hc2:¬ (decide ((k:Int)<=0) || (#[x]:Array Value).isEmpty)=true:=by simp;lia
  have hc3:¬ (((#[x]:Array Value).size:Int)*(k:Int) > (2 ^ 63-1) / 8):=by simp;lia
  have hc4:¬ C1 (((#[x]:Array Value).size:Int)*(k:Int))=true:=by
   unfold C1;have:(1000:Int)<=(sizeLine:Int):=by decide
   simp;lia
  wp_walk using BP hl
  rw[if_neg hc0]
  wp_walk using BP hl
  rw[if_neg hc1]
  (try dsimp only)
  rw[if_neg hc2]
  (try dsimp only)
  rw[if_neg hc3]
  (try dsimp only)
  rw[if_neg hc4];refine Ad (m:=B7 _) (BG (Ak ?_) hsz);exact⟨_,rfl,h⟩
theorem zhk(x:Value):∀(k:Nat) (acc:List Value),((Ac k #[x]).foldl (·++·) acc.toArray)=(acc++Ac k x).toArray
 | 0,acc=>by simp
 |k+1,acc=>by
  rw[Bh,List.foldl_cons];have:acc.toArray++#[x]=(acc++[x]).toArray:=by simp
  rw[this,zhk x k (acc++[x]),Bh,AB];rfl
theorem rep_tup{prog:AF}{w:A7}{A:AS}{E:Value -> Af -> Prop}{s:Af}{l:Addr}{x:Value}{k:Nat}{t:Tok}{Q:Value -> Af -> Prop}(hl:IsTup s.heap l #[x])(h1 : 1 <= k)(hk:k <= 1000)
  (q1:k=1->Q (.ref l) s) (q2:2<=k->Q (.ref s.heap.objs.size) { s with heap:=s.heap.push { cls:=.type "tuple",data:=.seq (Ac k x).toArray } }):Aw (AE prog w) A (CO .Mult (.ref l) (.int (k:Int) t)) Q E s:=by
 obtain⟨⟨cls,dd,data,sl⟩,ho,hc,n,hd⟩:=id hl;simp only at hc hd;subst hc hd
 refine D0 (T:="tuple") (U:="int") (by decide) ⟨_,ho,rfl⟩ (λs'=>typeIs_int s' k t) zcE F.fills_int_mul DB zdY EC.lookup
  (Cg DB (typeIs_int s k t) F.entry_int_rmul (F.args_int_rmul_2 _ _) (zdb k t l #[x] n dd sl) ⟨ho,rfl,⟨_,ho,rfl⟩,?_⟩)
 by_cases hk1:k=1
 .subst hk1;exact Cg F.slot_tuple_mul ⟨_,ho,rfl⟩ F.entry_tuple_mul (Eu _ _) (zje t l x n dd sl) ⟨ho,q1 rfl⟩
 .have e:(Ac (Int.toNat (k:Int)) #[x]).foldl (· ++ ·) #[]=(Ac k x).toArray := by rw[BV];have:=zhk x k [];rw[Ek]at this;exact this
  refine Cg F.slot_tuple_mul ⟨_,ho,rfl⟩ F.entry_tuple_mul (Eu _ _) (zjd k t l x n dd sl (by lia) hk ?_) ⟨ho,?_⟩
  .rw[e,As,AR];exact BD (L2.small1000 hk)
  .rw[e];exact q2 (by lia)
end HT
namespace L2
open PySem PySem.Spec PyProof.Rows
section
variable {X:Cx}{K:W.Frag}
noncomputable def rRepT(K:W.Frag):R2:=λx y H Q=>∃a k v,x=.ref a/\y=.int ((k:Nat):Int)/\SqT K H a [v]/\1<=k/\k<=1000/\(k=1->Q (.ref a) H)/\(2<=k->∀p,H p=none->Q (.ref p) (upd H p (.tup (Ac k v))))
theorem Vals.repl{v:V}{u:Value}(r:RelV v u):∀k:Nat,Vals (Ac k v) (Ac k u)
 | 0=>.nil
 |k+1=>.cons r (Vals.repl r k)
theorem zcV:OpR X (CO .Mult) (rRepT X.K):=by
 intro pins s σ H x y v u Q I rx ry h;obtain⟨a,k,w,rfl,rfl,ha,h1,hk,q1,q2⟩:=h
 cases rx
 obtain⟨t,rfl⟩:=ry;obtain⟨its,r,p1,_⟩:=I.tuple ha
 cases r with
 |cons rw r =>
 cases r with
 |nil =>
 refine HT.rep_tup p1 h1 hk (λz=>⟨.ref a,H,I,rfl,q1 z⟩) λz=>?_
 refine⟨.ref s.heap.objs.size,_,I.laid (t':=s.toks) (o:=.tup (Ac k w)) (λb ob q=>Ah _ q) (Ai _) ?_,rfl,q2 z _ (I.hok.fresh (Ai _))⟩;exact⟨by rw[AR];exact BD (small1000 hk),_,Vals.repl rw k,IsTup.new _ _⟩
end
section
variable {X:Cx}
end
section
variable {X:Cx}{e es:Expr}{te ts:TE}{pos p2:Pos}
noncomputable def tRevL(K:W.Frag)(te ts:TE):TE:=λσ H Q=>te σ H λx H1=>ts σ H1 λy H2=>y=.int (-1)/\∃a xs,x=.ref a/\SqL K H2 a xs/\∀p,H2 p=none->Q (.ref p) (upd H2 p (.lst xs.reverse))
theorem zng(he:PE X e te)(hs:PE X es ts):PE X (.Subscript e (.Slice none none (some es) p2) pos) (tRevL X.K te ts):=by
 intro pins s σ H Q I h;refine Subscript_ (thn (he pins s σ H _ I h) λv s1 ⟨x,H1,I1,r1,q1⟩=>?_);refine wpAny_Slice ?_
 rw[evalPart_none,evalPart_some];refine Ak (Ak ?_);refine thn (hs pins s1 σ H1 _ I1 q1) λvs s3 ⟨y,H3,I3,r3,q3⟩=>?_
 obtain⟨rfl,a,xs,rfl,hx,q⟩:=q3;obtain⟨tk,rfl⟩:=r3
 cases r1
 have I4:Inv X pins σ H3 { s3 with heap:=s3.heap.push { cls:=.type "slice",data:=.fields #[.none,.none,.int (-1) tk] } }:=I3.kept (t':=s3.toks) λb ob q=>Ah _ q
 obtain⟨its,r,ht,hz⟩:=I4.list hx;have hlen:=r.length;show Aw (AE X.prog X.w) X.A (subscriptTail e (.Slice none none (some es) p2) (.ref a) (.ref s3.heap.objs.size)) (EP X pins σ Q) X.xe { s3 with heap:=s3.heap.push { cls:=.type "slice",data:=.fields #[.none,.none,.int (-1) tk] } };refine tail_any (ops:=[.ref a,.ref s3.heap.objs.size]) ht.isList.typeIs slot_list_getitem.lookup (wpAny_getItem_list_slice ht.isList (Heap.IsSliceOf.new ..) .none .none (.int (-1) tk) (by simp) ?_ (by rw[As] <;> lia)) (by with_unfolding_all rfl);rw[W.krv_pick];generalize s3.heap.push { cls:=.type "slice",data:=.fields #[.none,.none,.int (-1) tk] }=h4 at *;refine⟨.ref _,_,I4.laid (t':=s3.toks) (o:=.lst xs.reverse) (λb ob q=>Ah _ q) (Ai _) ?_,rfl,q _ (I4.hok.fresh (Ai _))⟩;exact⟨by rw[Do];exact hz,its.reverse,0,r.reverse,AC _ rfl⟩
end
section
variable {X:Cx}
end
section
variable {prog:AF}{w:A7}{A:AS}{R:Result->Af->Prop}{I:Addr}{fp wr:List Addr}{n:Nat}{P:Nat->Value->Prop}{St:Nat->Heap->Prop}{dv:Value}
end
section
variable {X:Cx}{pins:List (Addr×Obj)}{σ:St}{H0:Hp}{s:Af}{l:Addr}{Q:VK}
end
section
variable {X:Cx}{p pos kpos kp:Pos}{e:Expr}{te:TE}{d:Int}{kj:Nat}
end
end L2
namespace HT
open PySem PyProof.Rows
variable {prog:AF}{w:A7}{A:AS}{E:Value->Af->Prop}{s:Af}
end HT
namespace L2
open PySem PySem.Spec PyProof.Rows
section
variable {X:Cx}{e es:Expr}{te ts:TE}{pos p2:Pos}
end
end L2
namespace HT
open PySem PyProof.Rows
section
open PySem.SeqAt
open PySem.AutoSeq1 (wpAny_loadPart')
open PySem.MeetsSeq PySem.MeetsSeq2 PySem.MeetsSeq3
end
section
variable {prog:AF}{w:A7}{A:AS}{E:Value->Af->Prop}{s:Af}
end
end HT
namespace L2
open PySem PySem.Spec PyProof.Rows
section
variable {X:Cx}{pos:Pos}
noncomputable def znd:V->List V->Hp->VK->Prop:=λx vs H Q=>∃l,∃os:List (Option Int),x=.ref l/\vs=[.non]/\H l=some (.lst (os.map λo=>o.elim V.non V.int))/\Q (.int (os.countP (·.isNone):Nat)) H
theorem zkH:MtM X "list.count" znd:=by
 intro pins s σ H x vs v us Q I rx rv h;obtain⟨l,os,rfl,rfl,hH,q⟩:=h
 cases rx
 obtain⟨u,rfl,ru⟩:=rv.one
 cases (show u=BY from ru)
 obtain⟨z,its,n,r,hl,e⟩:=I.lstM hH
 have hall:∀(os:List (Option Int)) (its:List Value),Vals (os.map λo=>o.elim V.non V.int) its->its.countP (λy=>y == BY)=os.countP (·.isNone)/\∀y∈its,y=.none∨∃a t,y=.int a t:=by
  intro os
  induction os with
  |nil=>intro its r;cases r;exact⟨rfl,by simp⟩
  |cons o os ih =>
   intro its r
   cases r with
   |cons h t =>
    obtain⟨i1,i2⟩:=ih _ t
    cases o with
    |none =>
     cases (show _=BY from h)
     refine⟨by rw[List.countP_cons,List.countP_cons,i1];rfl,λy hy=>?_⟩;rcases AI.mp hy with rfl |hy
     .exact .inl rfl
     .exact i2 y hy
    |some a =>
     obtain⟨tk,rfl⟩:=(show ∃t,_=DG a t from h);refine⟨by rw[List.countP_cons,List.countP_cons,i1];rfl,λy hy=>?_⟩;rcases AI.mp hy with rfl |hy
     .exact .inr ⟨a,tk,rfl⟩
     .exact i2 y hy
 obtain⟨c1,c2⟩:=hall os its r;refine Cg F.slot_list_count ⟨_,e,rfl⟩ F.entry_list_count (F.args_list_count_2 _ _) (SeqAt.list_countAt l its.toArray n _ _ .none (λy=>y == BY)) ⟨e,λy hy=>?_,?_⟩
 .have hy':y∈its:=by simpa using hy
  rcases c2 y hy' with rfl |⟨a,t,rfl⟩
  .exact SeqAt.EqAt.same _
  .exact SeqAt.EqAt.int_none a t
 .refine⟨.int _,H,I.tok _,⟨_,rfl⟩,?_⟩;show Q (.int (its.toArray.toList.countP (λy=>y == BY):Nat)) H;rw[List.toList_toArray,c1];exact q
theorem zlk (hh:X.calm=true):CallR X (.builtin "sum") (λxs H Q=>∃(p:Addr) (ns:List Int),xs=[.ref p]/\SqL X.K H p (ns.map V.int)/\(∀n∈ns,0<=n/\n<=1000)/\ns.length<=1000/\Q (.int ns.sum) H):=by
 intro pins s σ H xs us Q I r h;obtain⟨p,ns,rfl,hq,hb,hl,q⟩:=h;obtain⟨u,rfl,ru⟩:=vals1 r
 cases (show u=Au p from ru)
 obtain⟨its,rv,pl,hz⟩:=I.list hq
 have hsum:∀j,0<=(ns.take j).sum/\(ns.take j).sum<=1000*(j:Int):=by
  intro j
  induction j with
  |zero=>simp
  |succ j ih =>
   by_cases hj:j<ns.length
   .rw[List.take_succ_eq_append_getElem hj,En];have:=hb _ (BA hj);simp only[CD,List.sum_nil];lia
   .rw[Bx (by lia)]at ih ⊢;lia
 obtain⟨ts,hts⟩:∃ts:Array (Int×Tok),its.toArray=intItems ts/\ts.toList.map (·.1)=ns:=by
  have:∀(ns:List Int) (its:List Value),Vals (ns.map V.int) its->∃ts:List (Int×Tok),its=ts.map (λp=>DG p.1 p.2)/\ts.map (·.1)=ns:=by
   intro ns
   induction ns with
   |nil=>intro its r;cases r;exact⟨[],rfl,rfl⟩
   |cons n ns ih =>
    intro its r
    cases r with
    |cons h t =>
     obtain⟨ts,h1,h2⟩:=ih _ t;obtain⟨tk,rfl⟩:=(show ∃t,_=DG n t from h);exact⟨(n,tk)::ts,by rw[h1];rfl,by rw[Bj,h2]⟩
  obtain⟨ts,h1,h2⟩:=this ns its rv;exact⟨ts.toArray,by rw[h1];simp[intItems],by simpa using h2⟩
 obtain⟨h1,h2⟩:=hts;have hl1:=pl.isList;rw[h1]at hl1;have hgl:ns.length=ts.size:=by rw[<- h2];simp
 have gd:∀j,numAt ts j=ns.getD j 0:=λj=>by rw[numAt_eq,h2]
 refine sum_intList (I.ok.hd hh) hl1 (λj hj=>?_) λh' tk t' hk=>?_
 .have hj':j<ns.length:=by lia
  have a:=hb _ (BA hj');have b:=hsum (j+1);rw[preSum_eq,gd,h2,Be,Ab hj'];refine⟨⟨?_,?_⟩,⟨?_,?_⟩⟩
  .show _<=ns[j];lia
  .show ns[j]<_;lia
  .lia
  .lia
 .refine⟨.int _,H,I.kept hk,⟨_,rfl⟩,?_⟩;rw[preSum_eq,h2,<- hgl,AL];exact q
end
section
variable {prog:AF}{w:A7}{A:AS}{E:Value->Af->Prop}{s:Af}{it d:Addr}{i ep:Nat}{es:Array DictEntry}{od:Obj}
theorem zkU{Q:Value -> Af -> Prop}(lo:(d == Cr)=false)(g:s.heap.get? d=some od)(x:od.ExactDict)(dat:od.data = .dict es ep)
  (k:Q (.ref s.heap.objs.size) { s with heap:=s.heap.push { cls:=.type "dict_keyiterator",data:=.fields #[.ref d,.int 0 0,.int es.size 0,.int ep 0] } }):Aw (AE prog w) A (pyIter (.ref d)) Q E s:=by
 have ty:s.TypeIs (.ref d) "dict":=⟨od,g,x.1⟩;refine wpAny_pyIter_slot ty PySem.F.slot_dict_iter (DY PySem.F.slot_dict_iter ty PySem.F.entry_dict_iter ?_ (PySem.F.args_dict_iter_1 _));unfold Builtin.«dict.__iter__» Builtin.Dict.dictSlotNone;refine Ad (Ad (wpAny_notOrdered_dict ty ?_));show Aw (AE prog w) A.in1 (pure (Au d)) _ _ s;refine Ak ?_
 show Aw (AE prog w) A.in1 (Builtin.Dict.showsAll d >>= _) _ _ s;unfold Builtin.Dict.showsAll;rw[if_neg (show ¬ (d == Cr)=true by rw[lo];decide)];refine Ad (Ak (Ad (wpAny_dictEntries g dat (Ad (wpAny_dictEpoch g dat (Ad (BG (Ak ⟨_,rfl,"dict_keyiterator",_,⟨_,AC _ rfl,rfl⟩,PySem.F.slot_dict_keyiterator_next.lookup,?_⟩))))))));simpa[DO]using k
theorem zkT{e:DictEntry}{Q:Option Value -> Af -> Prop}(st:s.heap.IsKeyIter it d i es.size ep)(g:s.heap.get? d=some od)(dat:od.data = .dict es ep)(he:es[i]? = some e)
  (k:∀h',h'.IsKeyIter it d (i+1) es.size ep->CQ it s.heap h'->Q (some e.key) { s with heap:=h' }):Aw (AE prog w) A (pyNext (.ref it)) Q E s:=by
 obtain⟨o,go,oc,odt⟩:=id st;unfold pyNext;refine Ad (wpAny_attempt (Dq (name:=Aa "__next__") st.typeIs B9 (DY B9 st.typeIs Ed ?_ (D5 _))));refine Ad (Ak (Ad (Ad ?_)));refine Ad (CJ st.typeIs (Ak (Ad (wpAny_fieldsOf go odt ?_))));simp only[show Builtin.Dict_items.ownsTuple "dict_keyiterator" = false by decide,BO,if_false];show Aw (AE prog w) _ (if (Au d == BY)=true then _ else _) _ _ s;rw[if_neg (show ¬ (Au d == BY)=true by simp)];refine Ad (Ak (Ad (wpAny_dictEntries g dat ?_)));rw[if_neg (show ¬ ((es.size:Int) != (es.size:Int))=true by simp)];refine Ad (Ak (Ad (wpAny_dictEpoch g dat ?_)));rw[if_neg (show ¬ ((ep:Int) != (ep:Int))=true by simp)];refine Ak ?_
 simp only[show ¬ ((i:Int)<0) by lia,if_false,BV,he];refine Ad (Ad (CJ st.typeIs (Ak ?_)));refine Ad (wpAny_isOneOf_keyiter st.typeIs ?_);show Aw (AE prog w) _ (setField (.ref it) 1 (DO ((i:Int)+1)) >>= _) _ _ s;refine Ad (wpAny_setField go odt (by simp) ?_)
 have st':(s.heap.update it (Obj.mapFields (·.setIfInBounds 1 (DO ((i:Int)+1))))).IsKeyIter it d (i+1) es.size ep:=by refine⟨_,Heap.get?_update_self _ go (Obj.isFreed_of_fields (Obj.data_mapFields odt _)),(Obj.cls_mapFields ..).trans oc,?_⟩;rw[Obj.data_mapFields odt];simp[DO]
 refine Ad (Br (Ad (wpAny_isOneOf_keyiter (s:={ s with heap:=s.heap.update it (Obj.mapFields (·.setIfInBounds 1 (DO ((i:Int)+1)))) }) st'.typeIs ?_)));show Aw (AE prog w) _ (pure e.key) _ _ _;exact Ak (Ak ⟨_,rfl,Ak (k _ st' (BL ..))⟩)
theorem zlY{Q:Option Value -> Af -> Prop}(hh:A.handled=none)(st:s.heap.IsKeyIter it d i es.size ep)(g:s.heap.get? d=some od)(dat:od.data = .dict es ep)(he:es.size <= i)
  (k:∀h',Heap.ExtBut it s.heap h'->Q none { s with heap:=h' }):Aw (AE prog w) A (pyNext (.ref it)) Q E s:=by
 obtain⟨o,go,oc,odt⟩:=id st;unfold pyNext;refine Ad (wpAny_attempt (Dq (name:=Aa "__next__") st.typeIs B9 (DY B9 st.typeIs Ed ?_ (D5 _))));refine Ad (Ak (Ad (Ad ?_)));refine Ad (CJ st.typeIs (Ak (Ad (wpAny_fieldsOf go odt ?_))));simp only[show Builtin.Dict_items.ownsTuple "dict_keyiterator" = false by decide,BO,if_false];show Aw (AE prog w) _ (if (Au d == BY)=true then _ else _) _ _ s;rw[if_neg (show ¬ (Au d == BY)=true by simp)];refine Ad (Ak (Ad (wpAny_dictEntries g dat ?_)));rw[if_neg (show ¬ ((es.size:Int) != (es.size:Int))=true by simp)];refine Ad (Ak (Ad (wpAny_dictEpoch g dat ?_)));rw[if_neg (show ¬ ((ep:Int) != (ep:Int))=true by simp)];refine Ak ?_
 simp only[show ¬ ((i:Int)<0) by lia,if_false,BV,Array.getElem?_eq_none he];refine Ad (Ad (CJ st.typeIs (Ak ?_)));show Aw (AE prog w) _ (setField (.ref it) 0 .none >>= _) _ _ s;refine Ad (wpAny_setField go odt (by simp) ?_);show Aw (AE prog w) _ (newExc (.type "StopIteration") [] >>= _) _ _ _;refine Ad ?_
 simp only[newExc,newTuple];refine Ad (BG ?_ (by size_fits));refine Ad (m:=firstArgMember _ _) (wpAny_of_eq (a:=BY) (by first |rfl | (simp only[firstArgMember];rfl)) (BG ?_ (by size_fits)));simp only[raiseNew];refine Ad (wpAny_handled ?_);rw[show A.in1.handled=none from hh];refine Ad (Ak (wpAny_throw (?_:Aw _ _ _ _ _ _)));exact Ad (wpAny_isInstance (b:=true) (T:="StopIteration") ⟨_,AC _ rfl,rfl⟩ isSubtype_stop (Ak (k _ (((BL ..).extBut.push _).push _))))
end
noncomputable def Itd(a:Addr)(od:Obj):It :=
 ⟨λi H=>∃kvs,H a=some (.frz od (.dT kvs))/\i<kvs.length,λi H x H'=>H'=H/\∀kvs,H a=some (.frz od (.dT kvs))->∃b k v,x=.ref b/\kvs[i]?=some (k,v)/\H b=some (.tup (k.map kV)),λi H=>∃kvs,H a=some (.frz od (.dT kvs))/\kvs.length<=i⟩
theorem Paired.at'{α β:Type}{F:α->β->Prop}:∀{l:List α}{m:List β},Paired F l m->∀{i:Nat}{x:α},l[i]?=some x->∃y,m[i]?=some y/\F x y
 |_,_,.cons r t,0,x,h=>by cases h;exact⟨_,rfl,r⟩
 |_,_,.cons r t,i+1,x,h=>Paired.at' t h
theorem zjT{P:AF}{w:A7}{K:W.Frag}{tg:Expr}(a it:Addr)(od:Obj){es:Array DictEntry}{ep:Nat}(dat:od.data=.dict es ep):Turn P w K tg (Itd a od) [it] it (λi h=>h.IsKeyIter it a i es.size ep) where
 mem:=by simp
 obj:=λi h st b hb=>by
  have e:b=it:=by simpa using hb
  subst e;obtain⟨o,e,c,d⟩:=st;exact⟨o,e,λv z=>by rw[d]at z;cases z⟩
 keep:=λi h h' st k=>st.at λo e=>k it (by simp) o e
 item:=by
  intro X hP hw hK hc i pins s σ H E I hf st hg;subst hP hw hK;obtain⟨kvs,e,hi⟩:=hg;obtain⟨g,z,y,xs,r,o,es',ep',h1,h2,h3,h4,h5⟩:=(show ObjOk X.prog X.w H s.heap a (.frz od (.dT kvs)) from I.hok a _ e);rw[g]at h1
  cases h1
  rw[dat]at h3
  cases h3
  obtain⟨q,hq,q1,q2,q3⟩:=Paired.at' r (Ab hi);have he:es[i]?=some (entryOfKey (tupleKind (zaD X.prog X.w)) q):=by rw[entry_at h4,hq];rfl
  obtain⟨f0,f1,f2,f3,f4,f5⟩:=hf it (by simp);refine zkT st g dat he λh' st' sb=>?_
  have I1:Inv X pins σ H { s with heap:=h' }:=I.turned (t':=s.toks) (λb o hb e=>(sb.2 b hb).trans e) f0 f1 f3 f4 f5;obtain⟨o,e',c,dd⟩:=id st';refine⟨_,rfl,go_of (s:={ s with heap:=h' }) e' c dd (by decide) ⟨.ref q.2.1,H,I1,rfl,⟨rfl,λks hk=>?_⟩,st',λb hb=>(hf b hb).1⟩⟩;rw[e]at hk
  cases hk
  exact⟨q.2.1,kvs[i].1,kvs[i].2,rfl,Ab hi,q2⟩
 done:=by
  intro X hP hw hK hc i pins s σ H E I hf st hg;subst hP hw hK;obtain⟨kvs,e,hi⟩:=hg;obtain⟨g,z,y,xs,r,o,es',ep',h1,h2,h3,h4,h5⟩:=(show ObjOk X.prog X.w H s.heap a (.frz od (.dT kvs)) from I.hok a _ e);rw[g]at h1
  cases h1
  rw[dat]at h3
  cases h3
  obtain⟨f0,f1,f2,f3,f4,f5⟩:=hf it (by simp);exact zlY (I.ok.hd hc) st g dat (by rw[size_of_entries h4,<- D8 r];exact hi) λh' eb=>⟨rfl,I.turned (t':=s.toks) (λb o hb e=>eb b o hb e) f0 f1 f3 f4 f5⟩
 self:=λ_ _ _ _ _ st h=>wpAny_pyIter_keyiter st h
section
variable {X:Cx}{tg:Expr}
noncomputable def zor(tl:TE):TI:=λσ H R=>tl σ H λx H1=>∃a kvs,x=.ref a/\H1 a=some (.dT kvs)/\∀od,R (Itd a od) (upd H1 a (.frz od (.dT kvs)))
theorem zlN{l:Expr}{tl:TE}(hl:PE X l tl):PI X tg l (zor tl):=by
 intro pins s σ H R I h;refine thn (hl pins s σ H _ I h) λv s1 ⟨x,H1,I1,r1,q1⟩=>?_
 obtain⟨a,kvs,e,hd,q⟩:=q1;subst e
 cases r1
 obtain⟨z,y,xs,r,od,es,ep,h1,h2,h3,h4,h5⟩:=(show ObjOk X.prog X.w H1 s1.heap a (.dT kvs) from I1.hok a _ hd)
 have I2:Inv X pins σ (upd H1 a (.frz od (.dT kvs))) s1:=I1.write (h':=s1.heap) (t':=s1.toks) (x:=a) (e:=a) (by rw[hd];exact Di) (.inl rfl) (λb u _ g=>g) ⟨od,h1⟩
  ⟨h1,z,y,xs,KT.keeps r (λc ys ec=>by rw[zai (ne_of ec hd (λz=>nomatch z))];exact ec),od,es,ep,h1,h2,h3,h4,h5⟩
 refine zkU y h1 h2 h3 ?_
 refine⟨s1.heap.objs.size,[s1.heap.objs.size],_,_,_,rfl,I2.kept (t':=s1.toks) λb o e=>Ah _ e,zjT a _ od h3,⟨_,AC _ rfl,rfl,rfl⟩,λb hb=>?_,q od⟩;have e:b=s1.heap.objs.size:=by simpa using hb
 subst e;exact I2.fpOk (Ai _) (I2.hok.fresh (Ai _))
end
theorem zl7{a:Addr}{od:Obj}{kvs:List (List Key × V)}{g:TG}{tb:TS}{D:Ends}{σ : St}{H:Hp}(Pv:Nat -> St -> Hp -> Prop)(h0:Pv 0 σ H)(hl:∀i σ H, i <= kvs.length -> Pv i σ H -> H a=some (.frz od (.dT kvs)))
  (hs:∀i b k v σ H,kvs[i]?=some (k,v)->H b=some (.tup (k.map kV))->Pv i σ H->g (.ref b) σ H λσ2 H2=>tb { D with nx:=Pv (i+1),ct:=Pv (i+1),bk:=D.nx } σ2 H2) (hd:∀ σ H,Pv kvs.length σ H->D.nx σ H) :
  ∃W:Nat->Nat->St->Hp->Prop,(∃m,W 0 m σ H)/\∀i m σ H,W i m σ H ->
   ((Itd a od).stop i H/\D.nx σ H)∨((Itd a od).go i H/\∃N:St->Hp->Prop,(∀ σ' H',N σ' H'->∃m',m'<m/\W (i+1) m' σ' H')/\∀x H',(Itd a od).yld i H x H'->g x σ H' λσ2 H2=>tb { D with nx:=N,ct:=N,bk:=D.nx } σ2 H2):=by
 refine⟨λi m σ H=>m=kvs.length-i/\i<=kvs.length/\Pv i σ H,⟨kvs.length,by simp,AT _,h0⟩,?_⟩;rintro i m σ H ⟨rfl,hi,p⟩;have q:=hl i σ H hi p
 by_cases hlt:i<kvs.length
 .refine .inr ⟨⟨kvs,q,hlt⟩,Pv (i+1),λσ' H' p'=>⟨kvs.length-(i+1),by lia,rfl,hlt,p'⟩,λx H' y=>?_⟩;obtain⟨e,y⟩:=y;subst e;obtain⟨b,k,v,rfl,h1,h2⟩:=y kvs q;exact hs i b k v σ _ h1 h2 p
 .have e:i=kvs.length:=by lia
  subst e;exact .inl ⟨⟨kvs,q,Ai _⟩,hd σ H p⟩
section
variable {prog:AF}{w:A7}{K:Type} [DecidableEq K] {knd:HeapKind prog w K}{A:AS}{E:Value->Af->Prop}{s:Af}{d a:Addr}{xs:List (K×Addr×Value)}{k:K}
end
section
variable {X:Cx}{o e f:Expr}{apos cpos:Pos}{td ty tx:TE}
end
end L2
namespace RP
theorem zkL{α β:Type}{f:α->β}:∀{l:List α},l.Nodup->(∀a∈l,∀b∈l,f a=f b->a=b)->(l.map f).Nodup:=λ{l} hn hf=>by unfold List.Nodup at *;rw[List.pairwise_map];exact hn.imp_of_mem λha hb hne e=>hne (hf _ ha _ hb e)
end RP
namespace L2
open PySem PySem.Spec PyProof.Rows
section
variable {X:Cx}
end
end L2
namespace HT
open PySem PyProof.Rows
variable {prog:AF}{w:A7}{A:AS}{E:Value->Af->Prop}{s:Af}
end HT
namespace L2
open PySem PySem.Spec PyProof.Rows
section
variable {X:Cx}{e es:Expr}{te ts:TE}{pos p2:Pos}
end
section
variable {prog:AF}{w:A7}{A:AS}{E:Value->Af->Prop}{s:Af}
end
section
variable {X:Cx}
end
section
variable {X:Cx}
end
section
variable {prog:AF}{w:A7}{A:AS}{E:Value->Af->Prop}{s:Af}
end
section
variable {X:Cx}{pins:List (Addr×Obj)}{σ:St}
end
section
variable {X:Cx}{l m:Expr}{t:TA}{p p2 pos pos2:Pos}
end
section
variable {X:Cx}{a:Expr}{t:TA}{p p2 pos pos2:Pos}
end
section
variable {X:Cx}
end
section
variable {X:Cx}{tg:Expr}
end
section
variable {X:Cx}{pos:Pos}{kx vx:Expr}{tk tv:TE}
end
open AutoSeq1 (wpAny_loadPart')
section
variable {prog:AF}{w:A7}{A:AS}{E:Value->Af->Prop}{s:Af}{d:Addr}{ep:Nat}{es:Array DictEntry}{od:Obj}
end
section
variable {X:Cx}
end
section
variable {X:Cx}{es:List Expr}{te:TE}{t:TA}{pos:Pos}
theorem pa_T{l:List Expr}{k:Nat}(ha:PE X (.Tuple l k pos) te)(hr:PA X es t):PA X (.Tuple l k pos::es) (tCons te t):=zah ha hr (by rfl)
theorem pa_C{c:Const}{k:Nat}(ha:PE X (.Constant c k pos) te)(hr:PA X es t):PA X (.Constant c k pos::es) (tCons te t):=zah ha hr (by rfl)
theorem pa_B{a b:Expr}{o:Operator}(ha:PE X (.BinOp a o b pos) te)(hr:PA X es t):PA X (.BinOp a o b pos::es) (tCons te t):=zah ha hr (by rfl)
theorem pa_N{x:Str}(ha:PE X (.Name x pos) te)(hr:PA X es t):PA X (.Name x pos::es) (tCons te t):=zah ha hr (by rfl)
end
theorem zaG{i:Nat}{v:V}{σ:St}{H:Hp}{Q:St->Hp->Prop}:gName i v σ H Q=Q (σ.set i (some v)) H:=rfl
theorem zoH{i:Nat}{v:V}{u:TS}{D:Ends}{σ:St}{H:Hp}:tSeq (tAsg (tC v) (gName i)) u D σ H=u D (σ.set i (some v)) H:=rfl
section
variable {X:Cx}{tg:Expr}
end
inductive IsC:Expr->V->Prop where
 |int {n:Int} {k:Nat} {p:Pos}:IsC (.Constant (.int n) k p) (.int n)
 |bl {b:Bool} {k:Nat} {p:Pos}:IsC (.Constant (.bool b) k p) (.bl b)
 |neg {n:Int} {k:Nat} {p q:Pos}:IsC (.UnaryOp .USub (.Constant (.int n) k p) q) (.int (-n))
inductive IsPs:List Expr->List (V×V)->Prop where
 |nil:IsPs [] []
 |cons {a b:Expr} {x y:V} {k:Nat} {p:Pos} {es:List Expr} {l:List (V×V)}:IsC a x->IsC b y->IsPs es l->IsPs (.Tuple [a,b] k p::es) ((x,y)::l)
inductive RetPs:List Stmt->List (V×V)->Prop where
 |mk {es:List Expr} {l:List (V×V)} {p q:Pos}:IsPs es l->RetPs [.Return (some (.List es p)) q] l
section
variable {X:Cx}
end
section
variable {X:Cx}
end
section
variable {prog:AF}{w:A7}{A:AS}{E:Value->Af->Prop}{s:Af}{T:String}{r d:Addr}{n:Nat}{P:Nat->Value->Prop}{OK:Heap->Prop}
end
section
variable {X:Cx}
end
section
variable {X:Cx}{o e f:Expr}{apos cpos:Pos}{td ty tx:TE}
end
section
variable {X:Cx}{tg:Expr}
end
section
variable {prog:AF}{w:A7}{A:AS}{E:Value->Af->Prop}{s:Af}{d it v:Addr}{i ep:Nat}{es:Array DictEntry}{od:Obj}{ok ov:Value}
end
section
variable {X:Cx}
end
end L2
namespace RP
noncomputable def av(w:Nat):Int:=if w=0∨w=1 then 1 else 0
noncomputable def bv(w:Nat):Int:=if w=1∨w=2 then 1 else 0
noncomputable def eU(e:Edge):Int:=px e+py e+av e.w
noncomputable def eV(e:Edge):Int:=py e-px e+bv e.w
noncomputable def tt(C:Cell->Bool)(e:Edge):Int:=match stepB C e with
 |none=>1
 |some s=>if s % 2=1 then -1 else 0
noncomputable def eK(w:Nat):Int:=(if w=1∨w=2 then 1 else 0)+(if w=2∨w=3 then 1 else 0)+av w
noncomputable def eL(w:Nat):Int:=(if w=2∨w=3 then 1 else 0)-(if w=1∨w=2 then 1 else 0)+bv w
theorem e_tab:∀w<4,∀v<4,(eK w-eK v+(eL w-eL v)) % 2≠0∨w=v∨(eK w-eK v-(eL w-eL v)=2*(mv ((2*w+6) % 8)).1/\eK w-eK v+(eL w-eL v)=2*(mv ((2*w+6) % 8)).2):=by decide
theorem eU_of(e:Edge):eU e=e.c.1+e.c.2+eK e.w:=by unfold eU px py eK;lia
theorem eV_of(e:Edge):eV e=e.c.2-e.c.1+eL e.w:=by unfold eV px py eL;lia
theorem e_inj{C:Cell->Bool}{e f:Edge}(he:IsE C e)(hf:IsE C f)(h1:eU e=eU f)(h2:eV e=eV f):e=f:=by
 rw[eU_of,eU_of]at h1;rw[eV_of,eV_of]at h2;have t:=e_tab e.w he.1 f.w hf.1;obtain⟨⟨x,y⟩,w⟩:=e;obtain⟨⟨x',y'⟩,w'⟩:=f;simp only at h1 h2 t;rcases t with z |z |⟨z1,z2⟩
 .exfalso;lia
 .subst z;have a:x=x':=by lia
  have b:y=y':=by lia
  rw[a,b]
 .have g:=he.2.2;have a:x'=x+(mv ((2*w+6) % 8)).1:=by lia
  have b:y'=y+(mv ((2*w+6) % 8)).2:=by lia
  have c:=hf.2.1;rw[a,b]at c;exact absurd (c.symm.trans g) (by decide)
theorem zdF{C:Cell->Bool}{e:Edge}(h:IsE C e):eU (nxt C e)=eU e+(av e.w+av (nxt C e).w-1)/\eV (nxt C e)=eV e+(bv e.w+bv (nxt C e).w-1):=by obtain⟨p,q⟩:=zky h;unfold eU eV;rw[p,q];have hw:=h.1;generalize (nxt C e).w=w';rcases way4 hw with r |r |r |r <;> rw[r] <;> simp[av,bv,dx,dy] <;> lia
theorem zfF{C:Cell -> Bool}{e:Edge}(h:IsE C e) :
  (tt C e=-1/\(nxt C e).w=(e.w+3) % 4)∨(tt C e=0/\(nxt C e).w=e.w)∨(tt C e=1/\(nxt C e).w=(e.w+1) % 4):=by
 unfold tt;rcases zbu h with⟨_,s,q⟩ |⟨_,_,s,q⟩ |⟨_,_,s,q⟩ <;> rw[q,s] <;> simp only
 .left;rw[if_pos (odd7 _)];exact⟨by decide,trivial⟩
 .right;left;rw[if_neg (by lia)];exact⟨by decide,trivial⟩
 .right;right;exact⟨by decide,trivial⟩
theorem c_at{C:Cell->Bool}{a b c d:Int}{v:Bool}(h:C (a,b)=v)(h1:c=a)(h2:d=b):C (c,d)=v:=by subst h1 h2;exact h
theorem zfl{C:Cell -> Bool}{e:Edge}(h:IsE C e)(ht:tt C e=0) :
  C (px e+dx e.w-1,py e+dy e.w-1)=decide (e.w=1∨e.w=2)/\C (px e+dx e.w,py e+dy e.w-1)=decide (e.w=2∨e.w=3):=by
 obtain⟨⟨x,y⟩,w⟩:=e;obtain⟨hw,hc,hg⟩:=id h;rcases zbu h with⟨_,s,q⟩ |⟨k1,k2,s,q⟩ |⟨_,_,s,q⟩
 .exfalso;unfold tt at ht;rw[s]at ht;simp only at ht;rw[if_pos (odd7 _)]at ht;exact absurd ht (by decide)
 .simp only at hw hc k1 k2
  rcases way4 hw with rfl |rfl |rfl |rfl <;> simp only[gap,go,mv,px,py,dx,dy]at hg k1 k2 ⊢ <;> simp at hg k1 k2 hc ⊢ <;>
   refine⟨?_,?_⟩ <;> first |exact c_at hg (by lia) (by lia) |exact c_at hc (by lia) (by lia) |exact c_at k1 (by lia) (by lia) |exact c_at k2 (by lia) (by lia)
 .exfalso;unfold tt at ht;rw[s]at ht;exact absurd ht (by decide)
theorem zer(w:Nat):av w=0∨av w=1:=by unfold av;split <;> simp
theorem zi5(w:Nat):bv w=0∨bv w=1:=by unfold bv;split <;> simp
theorem zgt:∀w<4,∀n,n=(w+3) % 4∨n=(w+1) % 4->(av w=av n/\bv w+bv n=1)∨(av w+av n=1/\bv w=bv n):=by intro w hw n hn;rcases hn with rfl |rfl <;> revert w <;> decide
theorem dx_av:∀w<4,dx w=av w-bv w/\dy w=av w+bv w-1:=by decide
theorem znq{C:Cell->Bool}{e f:Edge}(he:IsE C e)(hf:IsE C f)(h1:eU e+eU (nxt C e)=eU f+eU (nxt C f))(h2:eV e+eV (nxt C e)=eV f+eV (nxt C f)):e=f:=by
 obtain⟨a1,a2⟩:=zdF he;obtain⟨b1,b2⟩:=zdF hf
 have key:e=f∨(tt C e=0/\tt C f=0/\px e+dx e.w=px f+dx f.w/\py e+dy e.w=py f+dy f.w)∨(eU e=eU (nxt C f)/\eV e=eV (nxt C f)/\e.w≠(nxt C f).w):=by
  rw[a1,b1]at h1;rw[a2,b2]at h2
  have ta:(tt C e=0/\(nxt C e).w=e.w)∨(av e.w=av (nxt C e).w/\bv e.w+bv (nxt C e).w=1)∨(av e.w+av (nxt C e).w=1/\bv e.w=bv (nxt C e).w):=by
   rcases zfF he with⟨_,n⟩ |q |⟨_,n⟩
   .exact .inr (zgt _ he.1 _ (.inl n))
   .exact .inl q
   .exact .inr (zgt _ he.1 _ (.inr n))
  have tb:(tt C f=0/\(nxt C f).w=f.w)∨(av f.w=av (nxt C f).w/\bv f.w+bv (nxt C f).w=1)∨(av f.w+av (nxt C f).w=1/\bv f.w=bv (nxt C f).w):=by
   rcases zfF hf with⟨_,n⟩ |q |⟨_,n⟩
   .exact .inr (zgt _ hf.1 _ (.inl n))
   .exact .inl q
   .exact .inr (zgt _ hf.1 _ (.inr n))
  have fin:eU e=eU f->eV e=eV f->e=f:=λq1 q2=>e_inj he hf q1 q2
  have dif:∀{g:Nat->Int},g e.w≠g (nxt C f).w->e.w≠(nxt C f).w:=λ{g} q z=>q (by rw[z])
  rw[b1,b2];rcases ta with⟨t1,n1⟩ |⟨p1,p2⟩ |⟨p1,p2⟩ <;> rcases tb with⟨t2,n2⟩ |⟨q1,q2⟩ |⟨q1,q2⟩
  .rw[n1,n2]at h1 h2;have u1:eU e=px e+py e+av e.w:=rfl;have u2:eV e=py e-px e+bv e.w:=rfl;have v1:eU f=px f+py f+av f.w:=rfl;have v2:eV f=py f-px f+bv f.w:=rfl;obtain⟨d1,d2⟩:=dx_av _ he.1;obtain⟨d3,d4⟩:=dx_av _ hf.1;exact .inr (.inl ⟨t1,t2,by lia,by lia⟩)
  .rw[n1]at h1 h2;exfalso;lia
  .rw[n1]at h1 h2;exfalso;lia
  .rw[n2]at h1 h2;exfalso;lia
  .rcases Classical.em (av e.w=av f.w) with z |z
   .exact .inl (fin (by lia) (by lia))
   .have c1:=zer e.w;have c2:=zer f.w;exact .inr (.inr ⟨by lia,by lia,dif (g:=av) (by lia)⟩)
  .exfalso;lia
  .rw[n2]at h1 h2;exfalso;lia
  .exfalso;lia
  .rcases Classical.em (bv e.w=bv f.w) with z |z
   .exact .inl (fin (by lia) (by lia))
   .have c1:=zi5 e.w;have c2:=zi5 f.w;exact .inr (.inr ⟨by lia,by lia,dif (g:=bv) (by lia)⟩)
 rcases key with h |⟨t1,t2,q1,q2⟩ |⟨q1,q2,q3⟩
 .exact h
 .obtain⟨c1,c2⟩:=zfl he t1;obtain⟨d1,d2⟩:=zfl hf t2;rw[q1,q2]at c1 c2;rw[c1]at d1;rw[c2]at d2;have d1':=decide_eq_decide.mp d1;have d2':=decide_eq_decide.mp d2;have hw:=he.1;have hw':=hf.1;have ww:e.w=f.w:=by lia
  rw[ww]at q1 q2;refine e_inj he hf ?_ ?_ <;> simp only[eU,eV] <;> rw[ww] <;> lia
 .exact absurd (congrArg Edge.w (e_inj he (zfx hf) q1 q2)) q3
noncomputable def cr(x1 y1 x2 y2:Int):Int:=if y1=-1/\y2=0/\0<x2 then 1 else if y1=0/\y2=-1/\0<x1 then -1 else 0
noncomputable def crT(t y1 y2:Int):Int:=if y1=-1/\y2=0 then t else if y1=0/\y2=-1 then -t else 0
theorem zeq(t y:Int):crT t y y=0:=by unfold crT;rw[if_neg (by lia),if_neg (by lia)]
theorem zi3(t y z:Int):crT t y z+crT t z y=0:=by
 unfold crT
 by_cases h:y=-1/\z=0
 .rw[if_pos h,if_neg (by lia),if_pos ⟨h.2,h.1⟩];lia
 .by_cases k:y=0/\z=-1
  .rw[if_neg h,if_pos k,if_pos ⟨k.2,k.1⟩];lia
  .rw[if_neg h,if_neg k,if_neg (by lia),if_neg (by lia)];rfl
theorem cr_T{t x1 y1 x2 y2:Int}(h1:y1=0->(0<x1/\t=1)∨(¬ 0<x1/\t=0))(h2:y2=0->(0<x2/\t=1)∨(¬ 0<x2/\t=0)):cr x1 y1 x2 y2=crT t y1 y2:=by
 unfold cr crT
 by_cases h:y1=-1/\y2=0
 .rcases h2 h.2 with⟨q,r⟩ |⟨q,r⟩
  .rw[if_pos ⟨h.1,h.2,q⟩,if_pos h,r]
  .rw[if_neg (by lia),if_neg (by lia),if_pos h,r]
 .rw[if_neg (λz=>h ⟨z.1,z.2.1⟩),if_neg h]
  by_cases k:y1=0/\y2=-1
  .rcases h1 k.1 with⟨q,r⟩ |⟨q,r⟩
   .rw[if_pos ⟨k.1,k.2,q⟩,if_pos k,r]
   .rw[if_neg (by lia),if_pos k,r];rfl
  .rw[if_neg (λz=>k ⟨z.1,z.2.1⟩),if_neg k]
theorem cr_sq(u v a1 a2 b1 b2:Int)(ha1 : -1 <= a1 /\ a1 <= 1)(ha2 : -1 <= a2 /\ a2 <= 1)(hb1 : -1 <= b1 /\ b1 <= 1)(hb2 : -1 <= b2 /\ b2 <= 1)
  (h00:¬(u=0/\v=0)) (h10:¬(u+a1=0/\v+a2=0)) (h01:¬(u+b1=0/\v+b2=0)) (h11:¬(u+a1+b1=0/\v+a2+b2=0))
  (hc:¬(2*u+a1+b1=0/\2*v+a2+b2=0)) :
  cr u v (u+a1) (v+a2)+cr (u+a1) (v+a2) (u+a1+b1) (v+a2+b2)=cr u v (u+b1) (v+b2)+cr (u+b1) (v+b2) (u+a1+b1) (v+a2+b2):=by
 obtain⟨t,k00,k10,k01,k11⟩:∃t:Int,(v=0->(0<u/\t=1)∨(¬ 0<u/\t=0))/\(v+a2=0->(0<u+a1/\t=1)∨(¬ 0<u+a1/\t=0))/\(v+b2=0->(0<u+b1/\t=1)∨(¬ 0<u+b1/\t=0))/\(v+a2+b2=0->(0<u+a1+b1/\t=1)∨(¬ 0<u+a1+b1/\t=0)):=by
  rcases Classical.em ((v=0/\0<u)∨(v+a2=0/\0<u+a1)∨(v+b2=0/\0<u+b1)∨(v+a2+b2=0/\0<u+a1+b1)) with z |z
  .exact⟨1,λh=>.inl ⟨by lia,rfl⟩,λh=>.inl ⟨by lia,rfl⟩,λh=>.inl ⟨by lia,rfl⟩,λh=>.inl ⟨by lia,rfl⟩⟩
  .exact⟨0,λh=>.inr ⟨by lia,rfl⟩,λh=>.inr ⟨by lia,rfl⟩,λh=>.inr ⟨by lia,rfl⟩,λh=>.inr ⟨by lia,rfl⟩⟩
 rw[cr_T k00 k10,cr_T k10 k11,cr_T k00 k01,cr_T k01 k11];have c:a2=b2∨a2=0∨b2=0∨a2=-b2:=by lia
 rcases c with rfl |rfl |rfl |rfl
 .rfl
 .rw[Int.add_zero,zeq,zeq];lia
 .rw[Int.add_zero,Int.add_zero,zeq,zeq];lia
 .rw[show v+-b2+b2=v by lia,zi3,zi3]
section
variable (U V:Nat->Int)
noncomputable def hH(i j:Nat):Int:=cr (U j-U i) (V j-V i) (U (j+1)-U i) (V (j+1)-V i)
noncomputable def gG(i j:Nat):Int:=cr (U j-U i) (V j-V i) (U j-U (i+1)) (V j-V (i+1))
noncomputable def sE:Nat->Int
 | 0=>0
 |i+1=>sE i+hH U V i (i+1)+gG U V i (i+2)
noncomputable def sF(i:Nat):Nat->Int
 | 0=>sE U V i
 |d+1=>sF i d+hH U V i (i+1+d)
variable {U V}
variable {n:Nat}
theorem zhN(su:∀k, -1 <= U (k + 1)-U k /\ U (k + 1)-U k <= 1)(sv:∀k, -1 <= V (k + 1)-V k /\ V (k + 1)-V k <= 1)
  (hd:∀i j,i<j->j<=n->¬(i=0/\j=n)->¬(U j-U i=0/\V j-V i=0))
  (hm:∀i j,i<j->j<n->¬(U i+U (i+1)=U j+U (j+1)/\V i+V (i+1)=V j+V (j+1))) :
  ∀d i,i+2+d<=n->¬(i=0/\i+2+d=n)->sF U V (i+1) d-sF U V i (d+1)=gG U V i (i+2+d)
 | 0,i,h,hx=>by
  show sE U V (i+1)-(sE U V i+hH U V i (i+1+0))=_;show sE U V i+hH U V i (i+1)+gG U V i (i+2)-(sE U V i+hH U V i (i+1))=gG U V i (i+2);lia
 |d+1,i,h,hx=>by
  have ih:=zhN su sv hd hm d i (by lia) (by lia);show sF U V (i+1) d+hH U V (i+1) (i+1+1+d)-(sF U V i (d+1)+hH U V i (i+1+(d+1)))=gG U V i (i+2+(d+1));have j1:i+1+1+d=i+2+d:=by lia
  have j2:i+1+(d+1)=i+2+d:=by lia
  have j3:i+2+(d+1)=(i+2+d)+1:=by lia
  rw[j1,j2,j3];generalize hj:i+2+d=j at *
  have q:=cr_sq (U j-U i) (V j-V i) (-(U (i+1)-U i)) (-(V (i+1)-V i)) (U (j+1)-U j) (V (j+1)-V j)
   (by have:=su i;lia) (by have:=sv i;lia) (su j) (sv j)
   (hd i j (by lia) (by lia) (by lia))
   (by have:=hd (i+1) j (by lia) (by lia) (by lia);lia)
   (by have:=hd i (j+1) (by lia) (by lia) (by lia);lia)
   (by have:=hd (i+1) (j+1) (by lia) (by lia) (by lia);lia)
   (by have:=hm i j (by lia) (by lia);lia)
  have e1:U j-U i+-(U (i+1)-U i)=U j-U (i+1):=by lia
  have e2:V j-V i+-(V (i+1)-V i)=V j-V (i+1):=by lia
  have e3:U j-U i+(U (j+1)-U j)=U (j+1)-U i:=by lia
  have e4:V j-V i+(V (j+1)-V j)=V (j+1)-V i:=by lia
  have e5:U j-U (i+1)+(U (j+1)-U j)=U (j+1)-U (i+1):=by lia
  have e6:V j-V (i+1)+(V (j+1)-V j)=V (j+1)-V (i+1):=by lia
  rw[e1,e2,e3,e4,e5,e6]at q;have q':gG U V i j+hH U V (i+1) j=hH U V i j+gG U V i (j+1):=q;lia
theorem cr_up{a b c d:Int}(h1:0<=b)(h2:0<=d):cr a b c d=0:=by unfold cr;rw[if_neg (by lia),if_neg (by lia)]
theorem cr_dn{a b c d:Int}(h1:b=0->a<=0)(h2:d=0->c<=0):cr a b c d=0:=by unfold cr;rw[if_neg (by lia),if_neg (by lia)]
theorem zn0(hn : 3 <= n)(su:∀k, -1 <= U (k + 1)-U k /\ U (k + 1)-U k <= 1)(sv:∀k, -1 <= V (k + 1)-V k /\ V (k + 1)-V k <= 1)
  (hd:∀i j,i<j->j<=n->¬(i=0/\j=n)->¬(U j-U i=0/\V j-V i=0))
  (hm:∀i j,i<j->j<n->¬(U i+U (i+1)=U j+U (j+1)/\V i+V (i+1)=V j+V (j+1)))
  (hU:U n=U 0) (hV:V n=V 0) (mV:∀k,k<n->V 0<=V k) (mU:∀k,k<n->V k=V 0->U 0<=U k) :
  sE U V (n-1)=gG U V 0 (n-1)+hH U V 1 (n-1):=by
 have r0:∀d,d+2<=n->sF U V 0 d=0:=by
  intro d
  induction d with
  |zero=>intro _;rfl
  |succ d ih =>
   intro h;show sF U V 0 d+hH U V 0 (0+1+d)=0;rw[ih (by lia)];have:=mV (0+1+d) (by lia);have:=mV (0+1+d+1) (by lia);unfold hH;rw[cr_up (by lia) (by lia)];rfl
 have s1:=zhN su sv hd hm (n-3) 0 (by lia) (by lia);rw[show n-3+1=n-2 by lia,r0 (n-2) (by lia),show 0+2+(n-3)=n-1 by lia]at s1
 have s2:sF U V 1 (n-2)=sF U V 1 (n-3)+hH U V 1 (n-1):=by have:sF U V 1 (n-3+1)=sF U V 1 (n-3)+hH U V 1 (1+1+(n-3)):=rfl;rw[show n-3+1=n-2 by lia,show 1+1+(n-3)=n-1 by lia]at this;exact this
 have r1:∀k,1+k<=n-1->sF U V (1+k) (n-2-k)=sF U V 1 (n-2):=by
  intro k
  induction k with
  |zero=>intro _;rfl
  |succ k ih =>
   intro h;have s:=zhN su sv hd hm (n-3-k) (1+k) (by lia) (by lia);rw[show n-3-k+1=n-2-k by lia,show 1+k+2+(n-3-k)=n by lia,ih (by lia)]at s
   have z:gG U V (1+k) n=0:=by unfold gG;have a1:=mV (1+k) (by lia);have a2:=mU (1+k) (by lia);have b1:=mV (1+k+1) (by lia);have b2:=mU (1+k+1) (by lia);exact cr_dn (by lia) (by lia)
   rw[z]at s;rw[show 1+(k+1)=1+k+1 by lia,show n-2-(k+1)=n-3-k by lia];lia
 have e:=r1 (n-2) (by lia);rw[show 1+(n-2)=n-1 by lia,show n-2-(n-2)=0 by lia]at e;show sF U V (n-1) 0=_;rw[e];have:(0:Nat)+1=1:=rfl;rw[this]at s1;lia
end
noncomputable def crs(x1 y1 x2 y2:Int):Int:=cr x1 y1 (x1+x2) (y1+y2)+cr (x1+x2) (y1+y2) x2 y2
noncomputable def ok8(w i j:Nat):Bool :=
 let w1:=(w+i+3) % 4
 let w2:=(w1+j+3) % 4
 let t:Int:=(i:Int)-1
 let t':Int:=(j:Int)-1
 crs (av w+av w1-1) (bv w+bv w1-1) (av w1+av w2-1) (bv w1+bv w2-1) == (2*((w:Int)+t)-1+t') / 8-(2*(w:Int)-1+t) / 8 &&
 crs (-(av w+av w1-1)) (-(bv w+bv w1-1)) (-(av w1+av w2-1)) (-(bv w1+bv w2-1)) == (2*((w:Int)+t)-1+t'+4) / 8-(2*(w:Int)-1+t+4) / 8
theorem all8:∀w<4,∀i<3,∀j<3,ok8 w i j=true:=by decide
noncomputable def it(C:Cell->Bool)(b:Edge):Nat->Edge
 | 0=>b
 |k+1=>nxt C (it C b k)
theorem Chain.get{C:Cell->Bool}{b:Edge}{es:List Edge}(h:Chain C b es):∀i,i<es.length->es[i]?=some (it C b i)
 | 0,_=>h.1
 |i+1,hi=>by
  have h1:=Chain.get h i (by lia);have:=h.2.1 i _ _ h1 (Ab hi);rw[Ab hi,this];rfl
theorem Closed.pos{C:Cell->Bool}{b:Edge}{es:List Edge}(h:Closed C b es):0<es.length:=(Ae.mp h.1.1).1
theorem Closed.it_len{C:Cell->Bool}{b:Edge}{es:List Edge}(h:Closed C b es):it C b es.length=b:=by
 obtain⟨hc,l,hl,hb⟩:=id h;have hp:=h.pos;have:=hc.get (es.length-1) (by lia);rw[hl]at this
 cases this
 have e:it C b (es.length-1+1)=nxt C (it C b (es.length-1)):=rfl;rw[show es.length-1+1=es.length by lia]at e;rw[e,hb]
theorem it_ok{C:Cell->Bool}{b:Edge}(h:IsE C b):∀k,IsE C (it C b k)
 | 0=>h
 |k+1=>zfx (it_ok h k)
noncomputable def wW(C:Cell->Bool)(b:Edge):Nat->Int
 | 0=>b.w
 |k+1=>wW C b k+tt C (it C b k)
theorem tt_ix{C:Cell->Bool}{e:Edge}(h:IsE C e):∃i:Nat,i<3/\tt C e=(i:Int)-1/\(nxt C e).w=(e.w+i+3) % 4:=by
 have hw:=h.1;rcases zfF h with⟨a,b⟩ |⟨a,b⟩ |⟨a,b⟩
 .exact⟨0,by decide,by rw[a];rfl,by rw[b]⟩
 .exact⟨1,by decide,by rw[a];rfl,by rw[b];lia⟩
 .exact⟨2,by decide,by rw[a];rfl,by rw[b];lia⟩
theorem zgD{C:Cell->Bool}{b:Edge}(h:IsE C b):∀k,wW C b k % 4=((it C b k).w:Int)
 | 0=>by have:=h.1;show (b.w:Int) % 4=b.w;lia
 |k+1=>by
  have ih:=zgD h k;obtain⟨i,hi,e1,e2⟩:=tt_ix (it_ok h k);show (wW C b k+tt C (it C b k)) % 4=((nxt C (it C b k)).w:Int);rw[e1,e2];lia
noncomputable def th(C:Cell->Bool)(b:Edge)(k:Nat):Int:=2*wW C b k-1+tt C (it C b k)
noncomputable def up8(w i:Nat):Bool :=
 let w1:=(w+i+3) % 4
 decide (0<bv w+bv w1-1∨(bv w+bv w1-1=0/\0<=av w+av w1-1)) == decide ((2*(w:Int)-1+((i:Int)-1)) % 8<4) &&
 decide (bv w+bv w1-1<0∨(bv w+bv w1-1=0/\av w+av w1-1<=0)) == decide (4<=(2*(w:Int)-1+((i:Int)-1)) % 8) &&
 !(decide (av w+av w1-1=0/\bv w+bv w1-1=0))
theorem zoE:∀w<4,∀i<3,up8 w i=true:=by decide
theorem half{C:Cell -> Bool}{b:Edge}(h:IsE C b)(k:Nat) :
  ((0<eV (it C b (k+1))-eV (it C b k)∨(eV (it C b (k+1))-eV (it C b k)=0/\0<=eU (it C b (k+1))-eU (it C b k))) ↔ th C b k % 8<4) /\
  ((eV (it C b (k+1))-eV (it C b k)<0∨(eV (it C b (k+1))-eV (it C b k)=0/\eU (it C b (k+1))-eU (it C b k)<=0)) ↔ 4<=th C b k % 8) /\
  ¬ (eU (it C b (k+1))-eU (it C b k)=0/\eV (it C b (k+1))-eV (it C b k)=0):=by
 obtain⟨i,hi,e1,e2⟩:=tt_ix (it_ok h k);obtain⟨s1,s2⟩:=zdF (it_ok h k);have q:=zoE _ (it_ok h k).1 i hi;have m:=zgD h k;simp only[up8,Bo,beq_iff_eq,decide_eq_decide,Bool.not_eq_true',decide_eq_false_iff_not]at q;rw[<- e2]at q;obtain⟨⟨q1,q2⟩,q3⟩:=q;have t:th C b k % 8=(2*((it C b k).w:Int)-1+((i:Int)-1)) % 8:=by unfold th;rw[e1];lia
 rw[t];have d1:eU (it C b (k+1))-eU (it C b k)=av (it C b k).w+av (nxt C (it C b k)).w-1:=by show eU (nxt C (it C b k))-_=_;lia
 have d2:eV (it C b (k+1))-eV (it C b k)=bv (it C b k).w+bv (nxt C (it C b k)).w-1:=by show eV (nxt C (it C b k))-_=_;lia
 rw[d1,d2];exact⟨q1,q2,q3⟩
theorem sub0{a b:Int}(h:b-a=0):a=b:=by lia
theorem zil{a b c:Int}(h:a=b+c):a-b=c:=by lia
theorem turn8{C:Cell -> Bool}{b:Edge}(h:IsE C b)(k:Nat) :
  crs (eU (it C b (k+1))-eU (it C b k)) (eV (it C b (k+1))-eV (it C b k)) (eU (it C b (k+2))-eU (it C b (k+1))) (eV (it C b (k+2))-eV (it C b (k+1)))=th C b (k+1) / 8-th C b k / 8 /\
  crs (-(eU (it C b (k+1))-eU (it C b k))) (-(eV (it C b (k+1))-eV (it C b k))) (-(eU (it C b (k+2))-eU (it C b (k+1)))) (-(eV (it C b (k+2))-eV (it C b (k+1))))=(th C b (k+1)+4) / 8-(th C b k+4) / 8:=by
 obtain⟨i,hi,e1,e2⟩:=tt_ix (it_ok h k);obtain⟨j,hj,f1,f2⟩:=tt_ix (it_ok h (k+1));obtain⟨s1,s2⟩:=zdF (it_ok h k);obtain⟨s3,s4⟩:=zdF (it_ok h (k+1));have m:=zgD h k;have q:=all8 _ (it_ok h k).1 i hi j hj;simp only[ok8,Bo,beq_iff_eq]at q;have w1:(it C b (k+1)).w=((it C b k).w+i+3) % 4:=e2;rw[<- w1,<- f2]at q;have wn:wW C b (k+1)=wW C b k+((i:Int)-1):=by show wW C b k+tt C (it C b k)=_;rw[e1]
 have t0:th C b k=2*wW C b k-1+((i:Int)-1):=by unfold th;rw[e1]
 have t1:th C b (k+1)=2*(wW C b k+((i:Int)-1))-1+((j:Int)-1):=by unfold th;rw[f1,wn]
 have d1:eU (it C b (k+1))-eU (it C b k)=av (it C b k).w+av (it C b (k+1)).w-1:=zil s1;have d2:eV (it C b (k+1))-eV (it C b k)=bv (it C b k).w+bv (it C b (k+1)).w-1:=zil s2;have d3:eU (it C b (k+2))-eU (it C b (k+1))=av (it C b (k+1)).w+av (nxt C (it C b (k+1))).w-1:=zil s3;have d4:eV (it C b (k+2))-eV (it C b (k+1))=bv (it C b (k+1)).w+bv (nxt C (it C b (k+1))).w-1:=zil s4;rw[d1,d2,d3,d4,t0,t1,q.1,q.2];clear q d1 d2 d3 d4 s1 s2 s3 s4 t0 t1 wn w1 f1 f2 e1 e2;generalize wW C b k=W at *;generalize (it C b k).w=w at *;constructor <;> lia
theorem zoh:∀w<4,∀i<3,¬ (av w+av ((w+i+3) % 4)=1/\bv w+bv ((w+i+3) % 4)=1):=by decide
theorem zlA{T0 Tm Tn D s:Int}(key:Tm / 8-T0 / 8=(Tn+4) / 8-(Tm+4) / 8)(u0:T0 % 8<4)(um:4<=Tm % 8)(hD:D % 4=0)(hn:Tn=T0+2*D)(hm:Tm=Tn-s)(s1:-2<=s)(s2:s<=2):(D=4/\0<s)∨(D=-4/\s<0):=by
 obtain⟨d,rfl⟩:∃d,D=4*d:=⟨D / 4,by lia⟩;have h1:(Tn+4) / 8=T0 / 8+d:=by lia
 have h2:(Tm+4) / 8=Tm / 8+1:=by lia
 rw[h1,h2]at key;have a1:T0=8*(T0 / 8)+T0 % 8:=by lia
 have a2:Tm=8*(Tm / 8)+Tm % 8:=by lia
 have a3:0<=T0 % 8:=by lia
 have a4:Tm % 8<8:=by lia
 generalize T0 / 8=a at *;generalize Tm / 8=c at *;generalize T0 % 8=r at *;generalize Tm % 8=p at *;clear h1 h2 hD;have:c-a-d=-1∨c-a-d=0:=by lia
 rcases this with z |z
 .exact .inl ⟨by lia,by lia⟩
 .exact .inr ⟨by lia,by lia⟩
theorem Closed.least_sign{C:Cell -> Bool}{b:Edge}{es:List Edge}(h:Closed C b es)
  (hmin:∀f∈es,eV b<=eV f/\(eV f=eV b->eU b<=eU f)):(wW C b es.length-wW C b 0=4/\0<tt C (it C b (es.length-1))+tt C b)∨(wW C b es.length-wW C b 0=-4/\tt C (it C b (es.length-1))+tt C b<0):=by
 have hp:=h.pos;have hE:IsE C b:=h.1.2.2.1 b (An h.1.1);have hl:=h.it_len;have get:=h.1.get;have nd:=h.1.2.2.2;generalize hn:es.length=n at *;have mem:∀k,k<n->it C b k∈es:=λk hk=>An (get k hk)
 have inj:∀i j,i<j->j<n->it C b i≠it C b j:=λi j hij hj e=>by have:=(Dh (i:=i) (j:=j) (by lia) nd).mp (by rw[get i (by lia),get j hj,e]);lia
 have n3:3<=n:=by
  have h0:=half hE 0;have h1:=half hE 1;have l1:=zgD hE 1;rcases Bl n 3 with hlt |hge
  .exfalso;have:n=1∨n=2:=by lia
   rcases this with e |e
   .rw[e]at hl;have z:=h0.2.2;rw[show 0+1=1 from rfl,hl]at z;exact z ⟨by show eU b-eU b=0;lia,by show eV b-eV b=0;lia⟩
   .rw[e]at hl;have a:=(tt_ix (it_ok hE 0));have c:=(tt_ix (it_ok hE 1));obtain⟨s1,s2⟩:=zdF (it_ok hE 0);obtain⟨s3,s4⟩:=zdF (it_ok hE 1);change it C b (1+1)=b at hl;have hl':nxt C (it C b 1)=b:=hl;rw[hl']at s3 s4;have i0:it C b 0=b:=rfl;have i1:nxt C (it C b 0)=it C b 1:=rfl;obtain⟨i,hi,_,e2⟩:=a;rw[i1,i0]at s1 s2 e2;have hw:=hE.1;have hw1:=(it_ok hE 1).1;have x1:av b.w+av (it C b 1).w=1:=by lia
    have x2:bv b.w+bv (it C b 1).w=1:=by lia
    rw[e2]at x1 x2;exact zoh _ hw _ hi ⟨x1,x2⟩
  .exact hge
 have key:=zn0 (U:=λk=>eU (it C b k)) (V:=λk=>eV (it C b k)) n3
  (λk=>by obtain⟨s1,_⟩:=zdF (it_ok hE k);show -1<=eU (nxt C (it C b k))-eU (it C b k)/\eU (nxt C (it C b k))-eU (it C b k)<=1;have a:=zer (it C b k).w;have c:=zer (nxt C (it C b k)).w;lia)
  (λk=>by
   obtain⟨_,s1⟩:=zdF (it_ok hE k);show -1<=eV (nxt C (it C b k))-eV (it C b k)/\eV (nxt C (it C b k))-eV (it C b k)<=1;have a:bv (it C b k).w=0∨bv (it C b k).w=1:=by unfold bv;split <;> simp
   have c:bv (nxt C (it C b k)).w=0∨bv (nxt C (it C b k)).w=1:=by unfold bv;split <;> simp
   lia)
  (λi j hij hj hx z=>by
   have e:=e_inj (it_ok hE i) (it_ok hE j) (sub0 z.1) (sub0 z.2);rcases Bl j n with hlt |hge
   .exact inj i j hij hlt e
   .have:j=n:=by lia
    rw[this,hl]at e;exact inj 0 i (by lia) (by lia) e.symm)
  (λi j hij hj z=>inj i j hij hj (znq (it_ok hE i) (it_ok hE j) z.1 z.2))
  (by show eU (it C b n)=eU b;rw[hl]) (by show eV (it C b n)=eV b;rw[hl])
  (λk hk=>(hmin _ (mem k hk)).1) (λk hk=>(hmin _ (mem k hk)).2)
 have sE_th:∀k,sE (λk=>eU (it C b k)) (λk=>eV (it C b k)) k=th C b k / 8-th C b 0 / 8:=by
  intro k
  induction k with
  |zero=>show (0:Int)=_;lia
  |succ k ih =>
   have q:=(turn8 hE k).1;unfold crs at q;have e1:eU (it C b (k+1))-eU (it C b k)+(eU (it C b (k+2))-eU (it C b (k+1)))=eU (it C b (k+2))-eU (it C b k):=by lia
   have e2:eV (it C b (k+1))-eV (it C b k)+(eV (it C b (k+2))-eV (it C b (k+1)))=eV (it C b (k+2))-eV (it C b k):=by lia
   rw[e1,e2]at q;show sE (λk=>eU (it C b k)) (λk=>eV (it C b k)) k+hH (λk=>eU (it C b k)) (λk=>eV (it C b k)) k (k+1)+gG (λk=>eU (it C b k)) (λk=>eV (it C b k)) k (k+2)=_;rw[ih];unfold hH gG;show th C b k / 8-th C b 0 / 8+cr (eU (it C b (k+1))-eU (it C b k)) (eV (it C b (k+1))-eV (it C b k)) (eU (it C b (k+2))-eU (it C b k)) (eV (it C b (k+2))-eV (it C b k))+cr (eU (it C b (k+2))-eU (it C b k)) (eV (it C b (k+2))-eV (it C b k)) (eU (it C b (k+2))-eU (it C b (k+1))) (eV (it C b (k+2))-eV (it C b (k+1)))=_;lia
 obtain⟨m,rfl⟩:∃m,n=m+1:=⟨n-1,by lia⟩;rw[show m+1-1=m by lia,sE_th]at key;have i2:it C b (m+2)=it C b 1:=by show nxt C (it C b (m+1))=nxt C b;rw[hl]
 have q:=(turn8 hE m).2;rw[i2,hl]at q;unfold crs at q;unfold gG hH at key;simp only at key;rw[hl]at key;have z0:it C b 0=b:=rfl;rw[show 0+1=1 from rfl,z0]at key;have e1:-(eU b-eU (it C b m))+-(eU (it C b 1)-eU b)=eU (it C b m)-eU (it C b 1):=by lia
 have e2:-(eV b-eV (it C b m))+-(eV (it C b 1)-eV b)=eV (it C b m)-eV (it C b 1):=by lia
 have e3:-(eU b-eU (it C b m))=eU (it C b m)-eU b:=by lia
 have e4:-(eV b-eV (it C b m))=eV (it C b m)-eV b:=by lia
 have e5:-(eU (it C b 1)-eU b)=eU b-eU (it C b 1):=by lia
 have e6:-(eV (it C b 1)-eV b)=eV b-eV (it C b 1):=by lia
 rw[e1,e2,e3,e4,e5,e6]at q;rw[q]at key
 have u0:th C b 0 % 8<4:=by
  refine (half hE 0).1.mp ?_
  obtain⟨a,c⟩:=hmin _ (mem 1 (by lia));rw[z0];show 0<eV (it C b 1)-eV b∨(eV (it C b 1)-eV b=0/\0<=eU (it C b 1)-eU b);lia
 have um:4<=th C b m % 8:=by
  refine (half hE m).2.1.mp ?_
  obtain⟨a,c⟩:=hmin _ (mem m (by lia));rw[hl];lia
 have md:=zgD hE (m+1);rw[hl]at md;have w0:wW C b 0=(b.w:Int):=rfl;have wn:wW C b (m+1)=wW C b m+tt C (it C b m):=rfl;have t0:th C b 0=2*wW C b 0-1+tt C b:=rfl;have tm:th C b m=2*wW C b m-1+tt C (it C b m):=rfl;have tn:th C b (m+1)=2*wW C b (m+1)-1+tt C b:=by unfold th;rw[hl]
 obtain⟨i,hi,r1,_⟩:=tt_ix hE;obtain⟨j,hj,r2,_⟩:=tt_ix (it_ok hE m);rw[show m+1-1=m from rfl];exact zlA key u0 um (by lia) (by lia) (by lia) (by lia) (by lia)
theorem Closed.least_turn{C:Cell -> Bool}{b:Edge}{es:List Edge}(h:Closed C b es)
  (hmin:∀f∈es,eV b<=eV f/\(eV f=eV b->eU b<=eU f)):wW C b es.length-wW C b 0=4∨wW C b es.length-wW C b 0=-4 :=
 (h.least_sign hmin).imp And.left And.left
theorem Closed.head{C:Cell->Bool}{b a:Edge}{r:List Edge}(h:Closed C b (a::r)):a=b:=by have:=h.1.1;simpa using this
theorem Closed.rot1{C:Cell->Bool}{b c:Edge}{r:List Edge}(h:Closed C b (b::r))(hc:(r++[b])[0]?=some c):Closed C c (r++[b]):=by
 obtain⟨⟨h0,hs,hE,hn⟩,l,hl,hb⟩:=id h;refine⟨⟨hc,λi e f h1 h2=>?_,λe he=>hE e (by rcases Az.mp he with m |m;exact AK _ m;rw[Ao.mp m];exact AM),?_⟩,?_⟩
 .have hi:=(Ae.mp h2).1;simp only[Am,A9,Ej]at hi;rw[Aj (by lia)]at h1;rcases Bl (i+1) r.length with q |q
  .rw[Aj q]at h2;exact hs (i+1) e f (by simpa using h1) (by simpa using h2)
  .have e1:i+1=r.length:=by lia
   rw[Ar (by lia),e1]at h2;simp at h2;have e2:(b::r).length-1=i+1:=by simp;lia
   rw[e2]at hl;simp only[List.getElem?_cons_succ]at hl;rw[hl]at h1
   cases h1
   rw[hb,h2]
 .rw[List.nodup_append];have:=Db.mp hn;exact⟨this.2,by simp,λx hx y hy e=>by rw[Ao.mp hy]at e;rw[e]at hx;exact this.1 hx⟩
 .refine⟨b,by simp,?_⟩
  cases r with
  |nil =>
   simp at hl hc;subst hc;subst hl;exact hb
  |cons a r =>
   simp at hc;have:=hs 0 b a rfl rfl;rw[<- this,hc]
theorem Closed.rot{C:Cell->Bool}:∀(j:Nat){b e:Edge}{es:List Edge},Closed C b es->es[j]?=some e->Closed C e (es.drop j++es.take j)
 | 0,b,e,es,h,he=>by
  have:=h.1.1;rw[he]at this
  cases this
  simpa using h
 |j+1,b,e,[],h,he=>by simp at he
 |j+1,b,e,a::r,h,he=>by
  have:=h.head;subst this;simp only[List.getElem?_cons_succ]at he;have hj:=(Ae.mp he).1;obtain⟨c,hc⟩:∃c,(r++[a])[0]?=some c:=⟨_,Ab (by simp)⟩;have h1:=h.rot1 hc;have h2:=Closed.rot j h1 (by rw[Aj hj];exact he);rw[List.drop_append_of_le_length (by lia),List.take_append_of_le_length (by lia)]at h2;simpa using h2
theorem zmj{C:Cell->Bool}{b:Edge}{es:List Edge}(h:Chain C b es):∀i,i<=es.length->((es.take i).map (tt C)).sum=wW C b i-wW C b 0
 | 0,_=>by simp
 |i+1,hi=>by
  have ih:=zmj h i (by lia);rw[DT,h.get i (by lia)];simp only[Option.toList_some,Aq,Bj,List.map_nil,En,CD,List.sum_nil];rw[ih];show _=wW C b i+tt C (it C b i)-wW C b 0;lia
theorem zeM:∀(es:List Edge),es≠[]->∃b∈es,∀f∈es,eV b<=eV f/\(eV f=eV b->eU b<=eU f)
 |[],h=>absurd rfl h
 |[a],_=>⟨a,by simp,λf hf=>by rw[Ao.mp hf];exact⟨Int.le_refl _,λ_=>Int.le_refl _⟩⟩
 |a::c::r,_=>by
  obtain⟨b,hb,q⟩:=zeM (c::r) (by simp)
  by_cases hl:eV b<eV a∨(eV b=eV a/\eU b<=eU a)
  .refine⟨b,AK _ hb,λf hf=>?_⟩;rcases AI.mp hf with rfl |hf
   .lia
   .exact q f hf
  .refine⟨a,AM,λf hf=>?_⟩;rcases AI.mp hf with rfl |hf
   .lia
   .have:=q f hf;lia
theorem zmZ(l:List Int)(j:Nat):(l.drop j++l.take j).sum=l.sum:=by
 have:=Cq j l;rw[En]
 conv=>rhs;rw[<- this,En]
 lia
theorem Closed.turning{C:Cell->Bool}{b:Edge}{es:List Edge}(h:Closed C b es):(es.map (tt C)).sum=4∨(es.map (tt C)).sum=-4:=by
 have hp:=h.pos;obtain⟨e,he,q⟩:=zeM es (by intro z;rw[z]at hp;simp at hp);obtain⟨j,hj,ej⟩:=A6 he;have h1:=h.rot j (by rw[Ab hj,ej])
 have h2:=h1.least_turn (λf hf=>q f (by
  rcases Az.mp hf with m |m
  .exact By m
  .exact BM m))
 rw[<- zmj h1.1 _ (Ai _),AL,Aq,Ee,Ef,zmZ]at h2;exact h2
theorem zih(C:Cell->Bool):∀es:List Edge,(es.map (tt C)).sum=((es.filter λe=>(stepB C e).isNone).length:Int)-((es.filter λe=>slant (stepB C e)).length:Int)
 |[]=>rfl
 |e::r=>by
  have ih:=zih C r
  have q:tt C e=(if (stepB C e).isNone=true then 1 else 0)-(if slant (stepB C e)=true then 1 else 0):=by
   unfold tt
   cases hs:stepB C e with
   |none=>rfl
   |some s =>
    by_cases h:s % 2=1
    .simp[slant,h]
    .have h0:s % 2=0:=by lia
     simp[slant,h0]
  simp only[Bj,CD,List.filter_cons];rw[q,ih];split <;> split <;> (try simp only[A9]) <;> lia
noncomputable def at1(a e:Edge):Int:=if e=a then 1 else 0
noncomputable def wc(c:Cell)(e:Edge):Int:=if e.c.2=c.2/\c.1<px e then dy e.w else 0
noncomputable def wd(es:List Edge)(c:Cell):Int:=(es.map (wc c)).sum
inductive Rch (D:Cell->Bool) (S:List Nat) (a:Cell):Cell->Prop where
 |refl:Rch D S a a
 |step {c:Cell} {s:Nat}:Rch D S a c->s∈S->D (go c s)=true->Rch D S a (go c s)
noncomputable abbrev no(C:Cell->Bool):Cell->Bool:=λc=>!C c
structure BoxOf (P:List Cell) (l lo r hi:Int):Prop where
 all:∀c∈P,l<c.1/\c.1<r/\lo<c.2/\c.2<hi
 bot:∃c∈P,c.2=lo+1
noncomputable def inBox(l lo r hi:Int)(c:Cell):Prop:=l<=c.1/\c.1<=r/\lo<=c.2/\c.2<=hi
structure FreeOf (D:Cell->Bool) (P:List Cell) (l lo r hi:Int):Prop where
 iff:∀c,D c=true ↔ (inBox l lo r hi c/\c ∉ P)
section
variable {C D:Cell->Bool}{b:Edge}{es:List Edge}{P:List Cell}{l lo r hi:Int}
end
noncomputable def isUp(y:Int)(e:Edge):Bool:=(e.w == 1 ||e.w == 3) && e.c.2 == y
noncomputable def upr(es:List Edge)(y:Int):List Int:=(es.filter (isUp y)).map px
noncomputable def zbj(s:Nat):Nat:=(s+1) / 2 % 4
noncomputable def wayB(s:Nat):Nat:=(zbj s+4-s % 2) % 4
noncomputable def dgo:Nat->List Nat->List (Option Nat)×Nat
 |w,[]=>([],w)
 |w,s::r=>(Ac ((zbj s+4-w) % 4) none++some s::(dgo (wayB s) r).1,(dgo (wayB s) r).2)
noncomputable def zaQ(w:Nat)(row:List Nat):Nat:=if row.isEmpty then 4 else (w+4-(dgo w row).2) % 4
noncomputable def deeds(w:Nat)(row:List Nat):List (Option Nat):=(dgo w row).1++Ac (zaQ w row) none
theorem zlz{C:Cell->Bool}{e:Edge}(h:IsE C e){s:Nat}(hs:stepB C e=some s):zbj s=e.w/\wayB s=(nxt C e).w/\s<8:=by have hw:=h.1;rcases zbu h with⟨_,q,n⟩ |⟨_,_,q,n⟩ |⟨_,_,q,n⟩ <;> rw[n] <;> rw[q]at hs <;> cases hs <;> unfold wayB zbj <;> simp only <;> rcases way4 hw with r |r |r |r <;> rw[r] <;> decide
theorem ziM{C:Cell->Bool}{e:Edge}(h:IsE C e)(hs:stepB C e=none):nxt C e=⟨e.c,(e.w+1) % 4⟩:=by
 rcases zbu h with⟨_,q,n⟩ |⟨_,_,q,n⟩ |⟨_,_,q,n⟩
 .rw[q]at hs;cases hs
 .rw[q]at hs;cases hs
 .exact n
noncomputable def zmQ(C:Cell->Bool)(es:List Edge):Prop:=∀i,¬ ∀m,m<4->∃e,es[i+m]?=some e/\stepB C e=none
theorem zgp{C:Cell -> Bool}{b:Edge}{es:List Edge}(h:Chain C b es)(hE:IsE C b)(nf:zmQ C es):∀(n p j w:Nat), es.length-p=n -> p <= es.length -> j <= 3 -> j <= p -> w < 4 -> (∀m, m < j -> ∃e, es[p-1-m]? = some e /\ stepB C e=none) ->
    (it C b p).w=(w+j) % 4->∃t,t<=3/\Ac j none++(es.drop p).map (stepB C)=(dgo w (((es.drop p).map (stepB C)).filterMap id)).1++Ac t none /\
      ((dgo w (((es.drop p).map (stepB C)).filterMap id)).2+t) % 4=(it C b es.length).w/\(dgo w (((es.drop p).map (stepB C)).filterMap id)).2<4
  | 0,p,j,w,hn,hp,hj,hjp,hw,hl,hway=>by
    have e:es.drop p=[]:=List.drop_eq_nil_iff.mpr (by lia);have hpe:p=es.length:=by lia
    rw[e,<- hpe];exact⟨j,hj,by simp[dgo],hway.symm,hw⟩
  |n+1,p,j,w,hn,hp,hj,hjp,hw,hl,hway=>by
    have hlt:p<es.length:=by lia
    have hd:es.drop p=es[p]::es.drop (p+1):=D1 hlt;have hg:=h.get p hlt;rw[Ab hlt]at hg;have hg':es[p]=it C b p:=A0 hg;have hEp:IsE C (it C b p):=it_ok hE p;rw[hd,hg']
    cases hs:stepB C (it C b p) with
    |none =>
      have hj3:j+1<=3:=by
        rcases Bl j 3 with q |q
        . lia
        . exfalso;have j3:j=3:=by lia
          subst j3;refine nf (p-3) λm hm=>?_
          rcases Bl m 3 with a |a
          . obtain⟨e,h1,h2⟩:=hl (2-m) (by lia);exact⟨e,by rw[<- h1];congr 1;lia,h2⟩
          . have:m=3:=by lia
            subst this;exact⟨_,by rw[show p-3+3=p by lia,Ab hlt,hg'],hs⟩
      have hnx:=ziM hEp hs
      obtain⟨t, t3, q1, q2, q3⟩ := zgp h hE nf n (p + 1) (j + 1) w (by lia) (by lia) hj3 (by lia) hw (λm hm => by
          cases m with
          |zero=>exact⟨_,by rw[show p+1-1-0=p by lia,Ab hlt,hg'],hs⟩
          |succ m =>
            obtain⟨e,h1,h2⟩:=hl m (by lia);exact⟨e,by rw[<- h1];congr 1;lia,h2⟩) (by
          show (nxt C (it C b p)).w=_;rw[hnx];simp only;rw[hway];lia)
      refine⟨t,t3,?_,?_,?_⟩
      . simp only[Bj,hs];rw[show (none::(es.drop (p+1)).map (stepB C)).filterMap id=((es.drop (p+1)).map (stepB C)).filterMap id from rfl,<- q1,CK];simp
      . simp only[Bj,hs];exact q2
      . simp only[Bj,hs];exact q3
    |some s =>
      obtain⟨w1,w2,_⟩:=zlz hEp hs;have hwB:wayB s<4:=Cv _ (by decide)
      obtain⟨t, t3, q1, q2, q3⟩ := zgp h hE nf n (p + 1) 0 (wayB s) (by lia) (by lia) (by lia) (by lia) hwB (λm hm => by lia) (by
          show (nxt C (it C b p)).w=_;rw[w2,Nat.add_zero];have:=(zfx hEp).1;lia)
      refine⟨t,t3,?_,?_,?_⟩
      . simp only[Bj,hs];rw[show (some s::(es.drop (p+1)).map (stepB C)).filterMap id=s::((es.drop (p+1)).map (stepB C)).filterMap id from rfl];show _=(Ac ((zbj s+4-w) % 4) none++some s::(dgo (wayB s) _).1)++Ac t none;have hk:(zbj s+4-w) % 4=j:=by rw[w1,hway];lia
        rw[hk];have q1':(es.drop (p+1)).map (stepB C)=(dgo (wayB s) (((es.drop (p+1)).map (stepB C)).filterMap id)).1++Ac t none:=by simpa using q1
        rw[AB,List.cons_append,<- q1']
      . simp only[Bj,hs];exact q2
      . simp only[Bj,hs];exact q3
theorem zgm{C:Cell->Bool}{b:Edge}(hE:IsE C b){i:Nat}:∀m,(∀q,q<m->stepB C (it C b (i+q))=none)->it C b (i+m)=⟨(it C b i).c,((it C b i).w+m) % 4⟩
 | 0,_=>by
  have:=(it_ok hE i).1;show it C b i=_;rw[Nat.add_zero,Nat.mod_eq_of_lt this]
 |m+1,h=>by
  have ih:=zgm hE m λq hq=>h q (by lia)
  show nxt C (it C b (i+m))=_;rw[ziM (it_ok hE (i+m)) (h m (by lia)),ih];simp only[Edge.mk.injEq,true_and];lia
theorem Closed.deeds{C:Cell->Bool}{b:Edge}{es:List Edge}(h:Closed C b es):es.map (stepB C)=RP.deeds b.w ((es.map (stepB C)).filterMap id):=by
 have hE:IsE C b:=h.1.2.2.1 b (An h.1.1);have hp:=h.pos;have hl:=h.it_len
 have four:∀i,(∀m,m<4->∃e,es[i+m]?=some e/\stepB C e=none)->i=0/\es.length=4:=λi hi=>by
  have hi3:i+3<es.length:=by obtain⟨e,h1,_⟩:=hi 3 (by decide);exact (Ae.mp h1).1
  have st:∀q,q<4->stepB C (it C b (i+q))=none:=λq hq=>by
   obtain⟨e,h1,h2⟩:=hi q hq;rw[h.1.get (i+q) (by lia)]at h1
   cases h1;exact h2
  have e4:=zgm hE 4 st
  have e4':it C b (i+4)=it C b i:=by rw[e4];have:=(it_ok hE i).1;rw[show ((it C b i).w+4) % 4=(it C b i).w by lia]
  rcases Bl (i+4) es.length with q |q
  .exfalso;have:=(Dh (i:=i) (j:=i+4) (by lia) h.1.2.2.2).mp (by rw[h.1.get i (by lia),h.1.get (i+4) q,e4']);lia
  .have hn:es.length=i+4:=by lia
   rw[<- hn,hl]at e4';have:=(Dh (i:=0) (j:=i) (by lia) h.1.2.2.2).mp (by rw[h.1.get 0 hp,h.1.get i (by lia),<- e4'];rfl);lia
 by_cases hr:(es.map (stepB C)).filterMap id=[]
 .have all:∀i, i < es.length -> stepB C (it C b i)=none := λi hi => by
   have hg:=h.1.get i hi
   cases hs:stepB C (it C b i) with
   |none=>rfl
   |some s =>
    exfalso;have:s∈(es.map (stepB C)).filterMap id:=List.mem_filterMap.mpr ⟨some s,AG.mpr ⟨_,An hg,hs⟩,rfl⟩;rw[hr]at this;cases this
  have hn4:es.length=4:=by
   have el:=zgm hE (i:=0) es.length (λq hq=>by rw[CT];exact all q hq);rw[CT,hl]at el;have ew:=congrArg Edge.w el;have hw:=hE.1;change b.w=(b.w+es.length) % 4 at ew;have h4:4<=es.length:=by lia
   refine (four 0 λm hm=>⟨it C b m,?_,all m (by lia)⟩).2;rw[CT];exact h.1.get m (by lia)
  rw[hr];show _=(dgo b.w []).1++Ac 4 none
  apply List.ext_getElem?
  intro i;rcases Bl i 4 with q |q
  .rw[Ay,h.1.get i (by lia),Dz,all i (by lia)];show _=(Ac 4 (none:Option Nat))[i]?;rw[Dp,if_pos q]
  .rw[List.getElem?_eq_none (by rw[Ag];lia),List.getElem?_eq_none (by simp[dgo];lia)]
 .have nf:zmQ C es := λi hi => by
   obtain⟨_,h4⟩:=four i hi;have hi0:=(four i hi).1;subst hi0
   apply hr
   apply List.filterMap_eq_nil_iff.mpr
   intro o ho;obtain⟨e,he,rfl⟩:=AG.mp ho;obtain⟨j,hj,ej⟩:=A6 he;obtain⟨f,h1,h2⟩:=hi j (by lia);rw[CT,Ab hj,ej]at h1
   cases h1
   exact h2
  obtain⟨t,t3,q1,q2,q3⟩:=zgp h.1 hE nf es.length 0 0 b.w (by lia) (by lia) (by lia) (by lia) hE.1 (λm hm=>by lia) (by
   show b.w=_;have:=hE.1;lia)
  rw[Dr]at q1 q2 q3;rw[hl]at q2
  have ht:zaQ b.w ((es.map (stepB C)).filterMap id)=t:=by unfold zaQ;rw[if_neg (by simpa using hr)];have:=hE.1;lia
  unfold RP.deeds;rw[ht];simpa using q1
end RP
namespace L2
open PySem PySem.Spec PyProof.Rows
noncomputable def But1(P:Addr)(H H':Hp):Prop:=∀b o,b≠P->H b=some o->H' b=some o
theorem But1.trans{P:Addr}{H H1 H2:Hp}(a:But1 P H H1)(b:But1 P H1 H2):But1 P H H2:=λc o n h=>b c o n (a c o n h)
theorem Same.but1{P:Addr}{H H':Hp}(h:Same H H'):But1 P H H':=λb o _ e=>h b o e
noncomputable abbrev anyO:HO:=.ext λ_=>True
noncomputable def LamAt(pos:Pos)(qual:Str)(P:Addr)(H:Hp):Prop :=
 ∃ps,H P=some (.tbl ps)/\(ps=#[]∨∃c' oc vs t,ps=#[DO pos.line,DO pos.col,.ref c']/\H c'=some (.frz oc anyO)/\oc.data=.fields vs/\vs[1]?=some (.str qual t))
theorem LamAt.same{pos:Pos}{qual:Str}{P:Addr}{H H':Hp}(h:LamAt pos qual P H)(s:Same H H'):LamAt pos qual P H':=by
 obtain⟨ps,e,h⟩:=h;refine⟨ps,s _ _ e,?_⟩;rcases h with h |⟨c',oc,vs,t,e1,e2,e3⟩
 .exact .inl h
 .exact .inr ⟨c',oc,vs,t,e1,s _ _ e2,e3⟩
theorem LamAt.ne{pos:Pos}{qual:Str}{P a:Addr}{H:Hp}{o:HO}(h:LamAt pos qual P H)(e:H a=some o)(n:∀ps,o≠.tbl ps):a≠P:=by rintro rfl;obtain⟨ps,e',_⟩:=h;rw[e]at e';exact n ps (A0 e')
theorem But1.seq{K:W.Frag}{pos:Pos}{qual:Str}{P a:Addr}{H H':Hp}{xs:List V}(e:But1 P H H')(l:LamAt pos qual P H)(h:SqL K H a xs):SqL K H' a xs:=by
 rcases h with (h |⟨o,h⟩) |h
 .exact .inl (.inl (e _ _ (l.ne h nofun) h))
 .exact .inl (.inr ⟨o,e _ _ (l.ne h nofun) h⟩)
 .exact .inr h
noncomputable def Bm(mg:Str->Option Value)(base:Heap):Prop :=
 ∃bm o,mg "__builtins__" = some (.ref bm)/\bm≠builtinsNs/\bm≠AH/\base.get? bm=some o/\o.cls=.type "module" /\ o.dict=some builtinsNs/\o.data=.plain
section
variable {X:Cx}{pins:List (Addr×Obj)}{σ:St}{H:Hp}{s:Af}
theorem Inv.lamNew{P c':Addr}{ps more:Array Value}{h1:Heap}{oc fo:Obj}{tk:Nat}(I:Inv X pins σ H s)(hP:H P=some (.tbl ps))(hx:Heap.ExtBut P s.heap h1)(hge:s.heap.objs.size <= c')(hlt:c' < h1.objs.size)
  (hc:h1.get? c'=some oc) (htb:h1.get? P=some (W.tabObj (ps++more))) (hfo:fo.isFreed=false) :
  Inv X pins σ (upd (upd (upd H P (.tbl (ps++more))) c' (.frz oc anyO)) h1.objs.size (.frz fo anyO)) { s with heap:=h1.push fo,toks:=tk }:=by
 have hPs:s.heap.get? P=some (W.tabObj ps):=I.hok P _ hP;have lP:P<s.heap.objs.size:=AD hPs;have cP:c'≠P:=Dc (AJ lP hge);have fP:h1.objs.size≠P:=Dc (DX (AJ lP hge) hlt);have fc:h1.objs.size≠c':=Dc hlt;have k1:∀b o,b≠P->s.heap.get? b=some o->(h1.push fo).get? b=some o:=λb o n e=>Ah _ (hx b o n e)
 have old:∀b o,s.heap.get? b=some o->b≠c'/\b≠h1.objs.size:=λb o e =>
  ⟨A3 (AJ (AD e) hge),A3 (AJ (AD e) (AV hge (BD hlt)))⟩
 have val:∀b u,b≠P->H b=some u->upd (upd (upd H P (.tbl (ps++more))) c' (.frz oc anyO)) h1.objs.size (.frz fo anyO) b=some u:=λb u n e=>by have lb:=I.hok.lt e;rw[zai (A3 (AJ lb (AV hge (BD hlt)))),zai (A3 (AJ lb hge)),zai n];exact e
 have vP:upd (upd (upd H P (.tbl (ps++more))) c' (.frz oc anyO)) h1.objs.size (.frz fo anyO) P=some (.tbl (ps++more)):=by rw[zai fP.symm,zai cP.symm,zaa]
 have nP:∀b u,H b=some u->(∀qs,u≠.tbl qs)->b≠P:=λb u e n z=>by rw[z,hP]at e;exact n ps (A0 e).symm
 refine I.un ⟨λb o e n _ _=>?_,λb o e n _ _=>?_,λb o e n _=>?_,λb o e _=>?_,λb xs e=>?_,λb o u e=>?_,λb qs e=>?_⟩ λb u e=>?_
 .exact k1 b o (λz=>by rw[z,hP]at n;cases n) e
 .exact⟨o.slots,k1 b o (λz=>by rw[z,hP]at n;cases n) e⟩
 .obtain⟨n1,n2⟩:=old b o e;rw[zai n2,zai n1,zai (λz=>by rw[z,hP]at n;cases n)];exact n
 .by_cases z:b=P
  .rw[z];exact⟨_,Ah _ htb⟩
  .exact⟨o,k1 b o z e⟩
 .exact val b _ (nP b _ e nofun) e
 .exact val b _ (nP b _ e nofun) e
 .by_cases z:b=P
  .rw[z,hP]at e
   cases e
   exact⟨more,by rw[z];exact vP⟩
  .exact⟨#[],by rw[val b _ z e];simp⟩
 .by_cases hf:b=h1.objs.size
  .rw[hf,zaa]at e
   cases e
   rw[hf];exact⟨AC _ hfo,trivial,⟨fo,AC _ hfo⟩,λ_ _ _ _=>trivial⟩
  .rw[zai hf]at e
   by_cases hb:b=c'
   .rw[hb,zaa]at e
    cases e
    rw[hb];exact⟨Ah _ hc,trivial,⟨oc,Ah _ hc⟩,λ_ _ _ _=>trivial⟩
   .rw[zai hb]at e
    by_cases hz:b=P
    .rw[hz,zaa]at e
     cases e
     rw[hz];exact Ah _ htb
    .rw[zai hz]at e;refine (I.hok b u e).stay (λd v hd q=>k1 d v ?_ q) (λd q=>val d _ (nP d _ q nofun) q) λd xs q=>val d _ (nP d _ q nofun) q
     rcases hd with rfl |hd
     .exact hz
     .exact nP d _ hd nofun
noncomputable def IsLam(qual:Str)(params:Arguments)(body:Expr)(scope:Scope)(f:Addr)(H:Hp):Prop :=
 ∃c' ctv pm oc vs t,H f=some (.frz (W.kla_obj "<lambda>" qual params body scope [] pm c' ctv) anyO)/\H c'=some (.frz oc anyO)/\oc.data=.fields vs/\vs[1]?=some (.str qual t)
theorem IsLam.same{qual:Str}{params:Arguments}{body:Expr}{scope:Scope}{f:Addr}{H H':Hp}(h:IsLam qual params body scope f H)(s:Same H H'):IsLam qual params body scope f H' :=
 let ⟨c',ctv,pm,oc,vs,t,e1,e2,r⟩:=h
 ⟨c',ctv,pm,oc,vs,t,s _ _ e1,s _ _ e2,r⟩
noncomputable def tLam(P:Addr)(pos:Pos)(qual:Str)(params:Arguments)(body:Expr)(scope:Scope):TE:=λ_ H Q =>
 LamAt pos qual P H/\∀f H',But1 P H H'->LamAt pos qual P H'->H f=none->IsLam qual params body scope f H'->Q (.ref f) H'
theorem znJ{pos:Pos}{c:Value}:TriplesOk (#[DO pos.line,DO pos.col,c]:Array Value).toList:=by simp[TriplesOk,DO]
theorem zjV{pos:Pos}{c:Value}:codeAmong pos (#[DO pos.line,DO pos.col,c]:Array Value).toList=some c:=by simp[codeAmong,DO]
theorem zoc {c P:Addr}{params:Arguments}{body:Expr}{scope:Scope}{pos:Pos}{qual:Str}(hcd:X.env.code = .ref c) (hh:Dx X.K c P=true) (hB:Bm X.mg X.base) (hq:X.env.qual ++ "<lambda>" = qual)
  (hfree:∀x∈scope.names,x.2≠.free:=by decide) (hdef:defaultsOf params X.env=([],[]):=by rfl):PE X (.Lambda params body scope pos) (tLam P pos qual params body scope):=by
 intro pins s σ H Q I h;obtain⟨⟨ps,hP,hps⟩,h⟩:=h;have hPs:s.heap.get? P=some (W.tabObj ps):=I.hok P _ hP
 have nb:∀b o,X.base.get? b=some o->b≠P:=λb o e z=>by
  have:=(I.bs b o e).2;rw[z,hP]at this
  cases this
 have hg:s.heap.Ns AH X.mg:=I.mod.glob.keeps I.bk
 have hgP:AH≠P:=by obtain⟨o,es,ep,e,_⟩:=I.mod.glob;exact nb _ o e
 have C:W.CodeHd s.heap c P:=W.codeHd_of_K I.kIn hh
 have hb:s.heap.BuiltinsAt X.mg P:=by obtain⟨bm,o,b1,b2,b3,b4,b5⟩:=hB;exact⟨bm,o,b1,b2,b3,nb _ o b4,I.bk _ _ b4,b5⟩
 have fr:∀b,s.heap.objs.size<=b->H b=none:=λb e=>I.hok.fresh e
 refine W.kla_eval hdef ?_
 rw[hq];rcases hps with rfl |⟨c',oc,vs,t,rfl,hc',hd,hv⟩
 .refine W.kla_makeFunction (mg:=X.mg) (clos:=[]) (closureFor_none hfree) I.ok.glob hg hcd C hPs trivial rfl hgP hb λc' ctv h' tk hx hge hlt hrec htb=>?_
  obtain⟨c2,oc,vs,t,e2,hoc,hd,hv⟩:=hrec
  cases e2
  have lP:P<s.heap.objs.size:=AD hPs;have cP:c'≠P:=Dc (AJ lP hge);have fP:h'.objs.size≠P:=Dc (DX (AJ lP hge) hlt);refine⟨.ref h'.objs.size,_,I.lamNew (more:=#[DO pos.line,DO pos.col,.ref c']) hP hx hge hlt hoc htb rfl,rfl,h _ _ ?_ ?_ (fr _ (AV hge (BD hlt))) ⟨c',ctv,_,oc,vs,t,zaa,?_,hd,hv⟩⟩
  .intro b o n e;rw[zai (λz=>by rw[z,fr _ (AV hge (BD hlt))]at e;cases e),zai (λz=>by rw[z,fr _ hge]at e;cases e),zai n];exact e
  .refine⟨#[]++#[DO pos.line,DO pos.col,.ref c'],?_,.inr ⟨c',oc,vs,t,by simp,?_,hd,hv⟩⟩
   .rw[zai fP.symm,zai cP.symm,zaa]
   .rw[zai (A3 hlt),zaa]
  .rw[zai (A3 hlt),zaa]
 .refine W.kla_makeFunctionHit (mg:=X.mg) (clos:=[]) (cv:=.ref c') (closureFor_none hfree) I.ok.glob hg hcd C hPs znJ zjV hb λctv h' tk hk hsz=>?_
  have hf:H h'.objs.size=none:=fr _ hsz;refine⟨.ref h'.objs.size,upd H h'.objs.size (.frz (W.kla_obj "<lambda>" qual params body scope [] ((X.mg "__name__").getD .none) c' ctv) anyO),?_,rfl,h _ _ ?_ ?_ hf ⟨c',ctv,(X.mg "__name__").getD .none,oc,vs,t,zaa,?_,hd,hv⟩⟩
  .have I1:Inv X pins σ H { s with heap:=h',toks:=tk }:=I.kept (t':=tk) hk;have I2:=I1.un (h':=h'.push (W.kla_obj "<lambda>" qual params body scope [] ((X.mg "__name__").getD .none) c' ctv)) (t':=tk) (Un.laid (a:=h'.objs.size) (o:=.frz (W.kla_obj "<lambda>" qual params body scope [] ((X.mg "__name__").getD .none) c' ctv) anyO) (λb u e=>Ah _ e) (Ai _) hf) (I1.hok.laid (λb u e=>Ah _ e) (Ai _) ⟨AC _ rfl,trivial,⟨_,AC _ rfl⟩,λ_ _ _ _=>trivial⟩);exact I2
  .intro b o n e;rw[zai (λz=>by rw[z,hf]at e;cases e)];exact e
  .refine⟨_,by rw[zai (zal hP hf)];exact hP,.inr ⟨c',oc,vs,t,rfl,?_,hd,hv⟩⟩;rw[zai (zal hc' hf)];exact hc'
  .rw[zai (zal hc' hf)];exact hc'
end
theorem zn3{P:AF}{w:A7}{K:W.Frag}{mg:Str -> Option Value}{base:Heap}{k:Nat}{f c':Addr}{qual:Str}{params:Arguments}{body:Expr}{scope:Scope}{pm ctv:Value}{oc:Obj}{ws:Array Value}{t:Tok}
  {N ps:List Str} {A:AS} {outer:List Env} {s:Af} {H:Hp} {us:List Value} {vs:List V} {Q:VK} {te:TE} (hr:Room (k+1) A) (e0:Env0 P w K mg base A outer s H)
  (hf:H f=some (.frz (W.kla_obj "<lambda>" qual params body scope [] pm c' ctv) anyO)) (hc:H c'=some (.frz oc anyO)) (hd:oc.data=.fields ws) (hv:ws[1]?=some (.str qual t)) (S:FnScope N ps scope)
  (hb:D9 (W.kla_fn "<lambda>" qual params body scope [] pm (.ref c') ctv) ⟨us,[]⟩=pure (ps.zip us)) (hl:vs.length=ps.length) (r:Vals vs us)
  (hbody:PE (cxOf CX0 P w K mg base N qual scope f (.ref c') A outer s H E0).nox body te) (hq:te (start N vs) H Q) :
  C4 (AE P w) A (.call (.ref f) ⟨us,[]⟩) (CR CX0 outer P w H s Q E0) s:=by
 have lim:s.heap.NoLimit:=e0.mod.nolimit.keeps λb o e=>(e0.bs b o e).1
 have hfo:=(e0.hok f _ hf).1;have hco:=(e0.hok c' _ hc).1
 have hkind:∀y∈ps.zip us,scope.names.lookup y.1=some .local∨(scope.names.lookup y.1=some .cell/\((cellsFrom (s.heap.objs.size+1) scope.names []).lookup y.1).isSome=true):=λ⟨n,v⟩ hy=>by
  rcases S.par n (List.of_mem_zip hy).1 with q |q
  .exact .inl q
  .exact .inr ⟨q,W.cellsFrom_some _ _ _ (.inl q)⟩
 refine W.kla_callFunE hr.depth hfo rfl S.co S.gen rfl ⟨c',oc,ws,t,rfl,hco,hd,hv⟩ ?_
 rw[hb];refine Ak ?_
 refine wpAny_newFunctionEnv_cells S.kind hkind λenv he s1 x=>?_
 subst he;refine⟨lim.keeps x.toInCall.keep,W.kla_codeExpr ?_⟩;have I:Inv (cxOf CX0 P w K mg base N qual scope f (.ref c') A outer s H E0) [] (start N vs) H s1:=zhg S hr.hd e0 hl r x;refine BR (hbody.nox [] s1 (start N vs) H _ I hq) (λu s' hs=>?_) λe s' hs=>hs
 obtain⟨v,H',J,rv,q⟩:=hs;exact⟨v,H',J.os,J.bare,J.base,J.hok,rv,q⟩
section
variable {X:Cx}{f:Addr}{qual:Str}{params:Arguments}{body:Expr}{scope:Scope}{N ps:List Str}{σ:St}{H0:Hp}{k:Nat}{te:TE}{xs:List V}{κV:Nat->List V}
theorem zoo {x:Str}(L:IsLam qual params body scope f H0) (hr:Room (k + 1 + 1 + 1) X.A) (S:FnScope N [x] scope) (hb:∀(pm ctv:Value) (c':Addr) (u:Value), D9 (W.kla_fn "<lambda>" qual params body scope [] pm (.ref c') ctv) ⟨[u], []⟩ = pure [(x, u)])
  (hbody:∀(c':Addr) (A:AS) (outer:List Env) (s:Af) (H:Hp),PE (cxOf CX0 X.prog X.w X.K X.mg X.base N qual scope f (.ref c') A outer s H E0).nox body te)
  (turn:∀i x H,xs[i]?=some x->Same H0 H->te (start N [x]) H (λv H'=>Same H H'/\∃a,v=.ref a/\SqT X.K H' a (κV i))):zi9 X σ H0 f xs κV:=by
 intro pins i x u H s hx hS I ru;obtain⟨c',ctv,pm,oc,ws,t,e1,e2,e3,e4⟩:=L.same hS;refine wpAny_call (DW (zn3 (k:=k) (vs:=[x]) (us:=[u]) hr.in1.in1 I.env0.in1.in1 e1 e2 e3 e4 S (hb pm ctv c' u) rfl (.cons ru .nil) (hbody c' _ _ _ _) (turn i x H hx hS)) λr s' hq=>?_)
 cases r with
 |error e=>exact BN hq
 |ok fl =>
  cases fl with
  |ret u=>exact I.after hq
  |next=>exact BN hq
  |brk=>exact BN hq
  |cont=>exact BN hq
end
section
variable {X:Cx}{p pos lpos kpos:Pos}{e body:Expr}{te tb:TE}{k:Nat}{c P:Addr}{params:Arguments}{scope:Scope}{qual x:Str}{N:List Str}
noncomputable def znK(K:W.Frag)(lpos:Pos)(qual:Str)(P:Addr)(N:List Str)(te tb:TE):TE:=λσ H Q=>te σ H λv H1=>∃l xs,∃ κV:Nat->List V,∃ κ:Nat->List Int,[v]=[V.ref l]/\LamAt lpos qual P H1/\SqL K H1 l xs/\xs.length<=1000 /\
 (∀i x H2,xs[i]?=some x->But1 P H1 H2->tb (start N [x]) H2 (λv H'=>Same H2 H'/\∃a,v=.ref a/\SqT K H' a (κV i))) /\
 (∀i j,i<xs.length->j<xs.length->∃n m r q rn rm,κV i=.int n::r/\κV j=.int m::q/\VCols r q rn rm/\κ i=n::rn/\κ j=m::rm)/\∀(p:List Nat) D H',p.Perm (Bq xs.length)->p.Pairwise (λi j=>HT.lexLt (κ j) (κ i)=false)->H1 D=none->But1 P H1 H'->LamAt lpos qual P H'->H' D=some (.lst (p.map λi=>xs.getD i .non))->Q (.ref D) H'
theorem zlO (hr:Room (k + 1 + 1 + 1) X.A) (hg:Gl X "sorted") (hm:X.mg "sorted" = none) (hcd:X.env.code = .ref c) (hh:Dx X.K c P=true) (hB:Bm X.mg X.base) (hq:X.env.qual ++ "<lambda>" = qual)
  (S:FnScope N [x] scope) (hb:∀(pm ctv:Value) (c':Addr) (u:Value),D9 (W.kla_fn "<lambda>" qual params body scope [] pm (.ref c') ctv) ⟨[u],[]⟩=pure [(x,u)]) (he:PE X e te)
  (hbody:∀(f c':Addr) (A:AS) (outer:List Env) (s:Af) (H:Hp),PE (cxOf CX0 X.prog X.w X.K X.mg X.base N qual scope f (.ref c') A outer s H E0).nox body tb)
  (hfree:∀x∈scope.names,x.2≠.free:=by decide) (hdef:defaultsOf params X.env=([],[]):=by rfl)
  (hse:Bw [e] X.env=[(false,eval e X.env)]:=by rfl) (hh':X.calm=true:=by rfl)
  (hall:(Ea pos (CV [⟨some "key",.Lambda params body scope lpos,kpos⟩] X.env)).all (·.1.isSome)=true:=by rfl) (hkw:(Ea pos (CV [⟨some "key",.Lambda params body scope lpos,kpos⟩] X.env)).any (·.1.isNone)=false:=by rfl)
  (hks:(Ea pos (CV [⟨some "key",.Lambda params body scope lpos,kpos⟩] X.env)).filterMap (·.1)=[Aa "key"]:=by rfl) :
  PE X (.Call (.Name "sorted" p) [e] [⟨some "key",.Lambda params body scope lpos,kpos⟩] pos) (znK X.K lpos qual P N te tb):=by
 intro pins s σ H Q I h;refine Cs (zeN I hg hm boot_sorted ?_ (by decide) (by decide));refine callWith_kw (thn (zah he zab (hs:=hse) pos pins s σ H (λvs H1=>∃l xs,∃ κV:Nat->List V,∃ κ:Nat->List Int,vs=[V.ref l]/\LamAt lpos qual P H1/\SqL X.K H1 l xs/\xs.length<=1000 /\
 (∀i x H2,xs[i]?=some x->But1 P H1 H2->tb (start N [x]) H2 (λv H'=>Same H2 H'/\∃a,v=.ref a/\SqT X.K H' a (κV i))) /\
 (∀i j,i<xs.length->j<xs.length->∃n m r q rn rm,κV i=.int n::r/\κV j=.int m::q/\VCols r q rn rm/\κ i=n::rn/\κ j=m::rm)/\∀(p:List Nat) D H',p.Perm (Bq xs.length)->p.Pairwise (λi j=>HT.lexLt (κ j) (κ i)=false)->H1 D=none->But1 P H1 H'->LamAt lpos qual P H'->H' D=some (.lst (p.map λi=>xs.getD i .non))->Q (.ref D) H') I ?_) λus s1 ⟨vs,H1,I1,r,q⟩=>?_) (by rw[hse];rfl) (by rw[hse];rfl) hall hkw
 .show te σ H _;exact h
 .obtain⟨l,xs,κV,κ,rfl,hL,hsq,h64,turn,hcol,hQ⟩:=q;obtain⟨u,rfl,ru⟩:=Vals.one r
  cases (show u=Au l from ru)
  refine thn (zkq (nm:=some "key") (kpos:=kpos) (zoc (pos:=lpos) (body:=body) hcd hh hB hq hfree hdef) zmz pos pins s1 σ H1 (λzs H2=>∃f,zs=[.ref f]/\But1 P H1 H2/\LamAt lpos qual P H2/\IsLam qual params body scope f H2) I1 ⟨hL,λf H' h1 h2 h3 h4=>⟨f,rfl,h1,h2,h4⟩⟩) λws s2 ⟨zs,H2,I2,rz,q2⟩=>?_
  obtain⟨f,rfl,hbut,hL2,hIL⟩:=q2;obtain⟨u2,rfl,ru2⟩:=Vals.one rz
  cases (show u2=Au f from ru2)
  rw[hks];refine zjF (G:=Ordd κ xs.length) (zoo hIL hr S hb (λc' A outer s H=>hbody f c' A outer s H) λi x H hx hS=>turn i x H hx (hbut.trans hS.but1)) (hbut.seq hL hsq) (λp hp i hi=>?_) (λh2=>⟨Array.Perm.refl _,?_⟩) (λ{vs ks H' s' D st e} r' K' hks h2=>?_) (λp D H' g hp hD hS hH=>hQ p.toList D H' ?_ g.2 ?_ (hbut.trans hS.but1) (hL2.same hS) hH) I2
  .have:=hp.1.mem_iff.mp (show i∈p by simpa using hi);simpa using this
  .rw[D2];intro i j hi hj hij;simp at hi hj;lia
  .have hlx:xs.length=vs.length:=r'.length;rw[hlx];exact znA K' hks h2 λi j hi hj=>hcol i j (by lia) (by lia)
  .have:=Array.perm_iff_toList_perm.mp g.1;simpa using this
  .cases q:H1 D with
   |none=>rfl
   |some o =>
    by_cases hz:D=P
    .obtain⟨ps,e,_⟩:=hL2;rw[hz,e]at hD
     cases hD
    .rw[hbut D o hz q]at hD
     cases hD
end
theorem zkS{P:AF}{w:A7}{K:W.Frag}{mg mb:Str -> Option Value}{CX:CXT}{k:Nat}{fa a:Addr}{fd:BI}{x:Str}{sp:Sp}{s₁ : Af}{vs:List Value}{ns:List Int}{ts:List Addr}
    (KX:K.In s₁.heap) (hns:s₁.heap.Ns AH mg) (hb:s₁.heap.Ns builtinsNs mb) (hbb:∀x:Str,x ≠ "__name__" -> mb x=bootBuiltins x) (hlim:s₁.heap.NoLimit) (hg:s₁.gens=#[])
    (ha:s₁.heap.get? a=some { cls:=.type "list",data:=.seq vs.toArray }) (hi:IntsAre vs ns) (hl:ns.length<=sizeLine) (hr:Room k callerA)
    (hts:∀P∈ts,s₁.heap.get? P=some (W.tabObj #[])) (hno:∀P∈ts,K.lookup P=none) (hcd:∀P∈ts,∃c,Dx K c P=true) (hBm:Bm mg s₁.heap)
    (F:∀base:Heap,K.In base->base.Ns AH mg->Bm mg base->FnOk P w K mg base CX k fa fd [x] sp) (hbind:∀(s:Af) (u:Value),BindsTo s fd ⟨[u],[]⟩ [(x,u)])
    (hsp:∀H:Hp,(∀P∈ts,H P=some (.tbl #[]))->SqL K H a (ns.map V.int)->sp [.ref a] H (λv _=>v=.bl true) λ_ _ _=>False)
    (hCX:∀H e s',CX [] H s₁ (λ_ _ _=>False) e s'->False) :
    C4 (AE P w) callerA (.call (.ref fa) ⟨[.ref a],[]⟩) (λr s'=>r=.ok (.ret (.bool true))/\OldK s₁.heap s'.heap/\s'.os=s₁.os/\AllBare s'.gens) s₁:=by
  have rv:=zgF hi;have lenV:=hi.length
  have aT:a ∉ ts:=λz=>by
    have:=hts a z;rw[ha]at this
    cases this
  have core:∀H:Hp, (∀b, H b=none ∨ (b ∈ ts /\ H b=some (.tbl #[])) ∨ (b=a /\ K.lookup a=none /\ ∃o xs, H b=some (.frz o (.lst xs)))) -> (∀P ∈ ts, H P=some (.tbl #[])) -> SqL K H a (ns.map V.int) -> HOk P w H s₁.heap ->
      C4 (AE P w) callerA (.call (.ref fa) ⟨[.ref a],[]⟩) (λr s'=>r=.ok (.ret (.bool true))/\OldK s₁.heap s'.heap/\s'.os=s₁.os/\AllBare s'.gens) s₁:=by
    intro H hO hT hS hok;have base_of:∀{b:Addr} {o:Obj},s₁.heap.get? b=some o->H b=none->(hidT s₁.heap H).get? b=some o:=λe n=>zl1 e n
    have noA:∀{b:Addr} {o:Obj},s₁.heap.get? b=some o->(∀x n,o.data≠.seq x n)->(∀x,o.data≠.fields x)->H b=none:=λ{b o} e d1 d2=>by
      rcases hO b with z |⟨z,_⟩ |⟨rfl,_⟩
      . exact z
      . rw[hts b z]at e
        cases e
        exact absurd rfl (d2 _)
      . rw[ha]at e
        cases e
        exact absurd rfl (d1 _ _)
    have nsK:∀{b:Addr} {m:Str->Option Value},s₁.heap.Ns b m->(hidT s₁.heap H).Ns b m:=λ{b m} ⟨o,es,ep,e,d,r⟩=>⟨o,es,ep,base_of e (noA e (λx n z=>by rw[d]at z;cases z) λx z=>by rw[d]at z;cases z),d,r⟩
    have hKb:K.In (hidT s₁.heap H):=λb o e=>base_of (KX b o e) (by
      rcases hO b with z |⟨z,_⟩ |⟨rfl,z,_⟩
      . exact z
      . rw[hno b z]at e;cases e
      . rw[z]at e;cases e)
    have hM:Mod K mg (hidT s₁.heap H):=⟨hKb,nsK hns,⟨mb,nsK hb,hbb⟩,let ⟨mc,h1,h2⟩:=hlim;⟨mc,nsK h1,h2⟩⟩
    have hBb:Bm mg (hidT s₁.heap H):=by obtain⟨bm,o,b1,b2,b3,b4,b5,b6,b7⟩:=hBm;exact⟨bm,o,b1,b2,b3,base_of b4 (noA b4 (λx n z=>by rw[b7]at z;cases z) λx z=>by rw[b7]at z;cases z),b5,b6,b7⟩
    have e0:Env0 P w K mg (hidT s₁.heap H) callerA [] s₁ H:=⟨rfl,hM,λb o e=>znn e,Nat.le_of_eq (zk2 _ _),trivial,λb hb=>absurd (show b∈([]:List Addr) from hb) (by simp),hok,.of_eq hg⟩;refine DW ((F _ hKb (nsK hns) hBb).run callerA [] s₁ H ⟨[.ref a],[]⟩ [.ref a] [.ref a] _ _ hr e0 (hbind s₁ (.ref a)) (.cons rfl .nil) (hsp H hT hS)) λr s' h=>?_
    cases r with
    |error e=>exact (hCX H e s' h).elim
    |ok fl =>
      cases fl with
      |next=>exact BN h
      |brk=>exact BN h
      |cont=>exact BN h
      |ret u =>
        obtain⟨v,H',os,bare,un,hok',r',q⟩:=h;have q':v=.bl true:=q;subst q';obtain rfl:u=Eo true:=r';refine⟨rfl,⟨λb o e=>?_,λb o e=>un.there b o e (by simp)⟩,os,bare⟩;rcases hO b with z |⟨z,z1⟩ |⟨rfl,_,ob,xs,z⟩
        . exact .inl (un.keep b o e z (by intro z;exact absurd (show b∈([]:List Addr) from z) (by simp)) (by simp))
        . have e':=hts b z;rw[e]at e'
          cases e'
          obtain⟨more,z2⟩:=un.tbls b _ z1;obtain⟨c,hc⟩:=hcd b z;obtain⟨oc,ws,_,_,_,_,_,_,_,c1,c2,c3,c4,_⟩:=W.codeHd_of_K KX hc;exact .inr (.inl ⟨⟨c,oc,ws,c1,c2,c3,c4⟩,rfl,#[],more,rfl,hok' b _ z2⟩)
        . have z2:=un.frzs b ob _ z;obtain⟨e1,_⟩:=hok b _ z;obtain⟨e2,_⟩:=hok' b _ z2;rw[e]at e1;cases e1;exact .inl e2
  cases hk:K.lookup a with
  |some o =>
    have e:=KX a o hk;rw[ha]at e
    cases e
    refine core (λb=>if b∈ts then some (.tbl #[]) else none) (λb=>?_) (λP hP=>if_pos hP) (.inr ⟨_,vs.toArray,_,hk,rfl,rfl,rfl,by rw[As,lenV];exact hl,by simpa using rv⟩) λb u z=>?_
    . by_cases hb:b∈ts
      . exact .inr (.inl ⟨hb,if_pos hb⟩)
      . exact .inl (if_neg hb)
    . by_cases hb:b∈ts
      . have z':=(if_pos hb).symm.trans z
        cases z'
        exact hts b hb
      . have z':=(if_neg hb).symm.trans z
        cases z'
  |none =>
    refine core (λb=>if b∈ts then some (.tbl #[]) else if b=a then some (.frz { cls:=.type "list",data:=.seq vs.toArray } (.lst (ns.map V.int))) else none) (λb=>?_) (λP hP=>if_pos hP) (.inl (.inr ⟨{ cls:=.type "list",data:=.seq vs.toArray },(if_neg aT).trans (if_pos rfl)⟩)) λb u z=>?_
    . by_cases hb:b∈ts
      . exact .inr (.inl ⟨hb,if_pos hb⟩)
      . by_cases hb2:b=a
        . exact .inr (.inr ⟨hb2,hk,_,_,(if_neg hb).trans (if_pos hb2)⟩)
        . exact .inl ((if_neg hb).trans (if_neg hb2))
    . by_cases hb:b∈ts
      . have z':=(if_pos hb).symm.trans z
        cases z'
        exact hts b hb
      . have z0:=(if_neg hb).symm.trans z
        by_cases hb2:b=a
        . have z':=(if_pos hb2).symm.trans z0
          cases z'
          subst hb2;exact⟨ha,by rw[Ag];exact hl,vs,_,rv,ha⟩
        . have z':=(if_neg hb2).symm.trans z0
          cases z'
theorem zog{K:W.Frag}{as:List Addr}(e:as=K.map (·.1)){b:Addr}(h:b ∉ as):K.lookup b=none:=by
 cases q:K.lookup b with
 |none=>rfl
 |some o =>
  subst e;exact absurd (AG.mpr ⟨(b,o),W.mem_of_lookupK q,rfl⟩:b∈List.map (λx=>x.fst) K) h
theorem km_all{K:Params -> W.Frag}{as:List Addr}{e:∀P, as=(K P).map (·.1)}{ts:List Addr}(d:(ts.all λt => !as.contains t)=true)(w:A7)(h:Heap)(Y:(W.kmHook K as e ts).says w h) :
  (K w.params).In h/\(∀P∈ts,h.get? P=some (W.tabObj #[]))/\∀P∈ts,(K w.params).lookup P=none :=
 ⟨W.km_in_of Y,W.km_tabs_of Y,λP hP=>zog (e w.params) λz=>by have:=List.all_eq_true.mp d P hP;simp[z]at this⟩
theorem walk_ofL{l:W.OpenLaw}{n k:Nat}{q:AF}{loose:List Str}{XP:(Str -> Option Value) -> Heap -> Prop}{YP:A7 -> Heap -> Prop}{d:DefRec}{K:Params -> W.Frag}{CX:A7 -> CXT}{sp:A7 -> Sp}{x:Str}{ts:List Addr}
  (hn:l.most=some n) (hn2:n<=sizeLine) (hdf:d.params.defaults=[]) (hr:Room k callerA)
  (hY:∀(w:A7) (h:Heap),YP w h->(K w.params).In h/\(∀P∈ts,h.get? P=some (W.tabObj #[]))/\∀P∈ts,(K w.params).lookup P=none)
  (F:∀(w:A7) (mg:Str->Option Value) (fa:Addr) (h:Heap),(K w.params).In h->h.Ns AH mg->mg d.name=some (.ref fa) ->
   ∃fd:BI,(∀(s:Af) (u:Value),BindsTo s fd ⟨[u],[]⟩ [(x,u)])/\(∀P∈ts,∃c,Dx (K w.params) c P=true) /\
    ∀base:Heap,(K w.params).In base->base.Ns AH mg->Bm mg base->FnOk l.prog w (K w.params) mg base (CX w) k fa fd [x] (sp w))
  (hsp:∀(w:A7) (H:Hp) (a:Addr) (ns:List Int),ns.length<=n->(∀P∈ts,H P=some (.tbl #[]))->SqL (K w.params) H a (ns.map V.int)->sp w [.ref a] H (λv _=>v=.bl true) λ_ _ _=>False)
  (hCX:∀(w:A7) (H:Hp) (s:Af) (e:Value) (s':Af),CX w [] H s (λ_ _ _=>False) e s'->False) :
  W.WalkO q loose XP YP l.row.toRowW d [] (λf vs=>PySem.call f vs):=by
 refine Att.attach_call hn hdf λw s₀ s₁ mg mb fa o pm cd doc a vs ns G Y ho hd hcd hmg hobj hints hlen hg=>?_
 obtain⟨KX,hts,hno⟩:=hY w _ Y;obtain⟨fd,hb,hc,hF⟩:=F w mg fa _ KX G.T.g hmg
 have hB:Bm mg s₁.heap:=by obtain⟨bm,ob,b1,b2,b3,b4,b5,b6⟩:=G.T.bmain;refine⟨bm,ob,b1,b2,λq=>?_,b3,b4,b5,b6⟩;obtain⟨o,es,ep,e,hd,_⟩:=G.T.g;rw[q,e]at b3;cases b3;rw[hd]at b6;cases b6
 exact zkS KX G.T.g G.T.b G.T.builtins G.T.nolimit hg hobj hints (AV hlen hn2) hr hts hno hc hB hF hb (λH hT hS=>hsp w H a ns hlen hT hS) λH e s'=>hCX w H s₁ e s'
theorem Fun.okL{P:AF}{w:A7}{K:W.Frag}{mg:Str -> Option Value}{base:Heap}{x qual:Str}{st:Stmt}{f c:Addr}{fd:BI}{N ps:List Str}{k:Nat}{sp:Sp}(F:Fun K x qual st f fd)(hc:fd.code = .ref c)(S:FnScope N ps (zad st))(len:∀vs H Q E, sp vs H Q E -> vs.length=ps.length)
  (hbody:∀(A:AS) (outer:List Env) (s:Af) (H:Hp) (vs:List V) (Q:VK) (E:XK),Room k (A.deeper (envOfC qual (zad st) s.heap.objs.size f (.ref c)))->sp vs H Q E ->
   ∃t,PSs (cxOf CX0 P w K mg base N qual (zad st) f (.ref c) A outer s H E).nox (za8 st) t/\t { nx:=λ_ H'=>Q .non H',rt:=Q } (start N vs) H):FnOk P w K mg base CX0 (k+1) f fd ps sp:=by
 obtain⟨oc,od,kV,doc,pm,an,cdv,ct,osl,rfl,lk,hcd⟩:=F.ex
 cases (show cdv=.ref c from hc)
 refine fn_of lk hcd S len λA outer s H vs Q E hr hsp=>?_
 obtain⟨t,h,q⟩:=hbody A outer s H vs Q E hr hsp;exact⟨t,h.nox,q⟩
noncomputable def hdOk(vs:Array Value)(c P:Addr):Bool := (match (vs[11]? : Option Value) with |some (.ref P') => P' == P |_ => false) &&
   (match vs.getD 18 .none with |.str _ _=>true |_=>false) && (match vs.getD 7 .none with |.int _ _=>true |_=>false) &&
   (match vs.getD 9 .none with |.bool _=>true |_=>false) && (match vs.getD 10 .none with |.int _ _=>true |_=>false) && c != P
theorem hd_of {K:W.Frag}{c P:Addr}{od:Option Addr}{vs:Array Value}{sl:Array (Option Value)}(l:K.lookup c=some ⟨.type "code",od,.fields vs,sl⟩) (h:hdOk vs c P=true):Dx K c P=true:=by unfold Dx;rw[l];exact h
open PySem PyProof.Rows
section
variable {X:Cx}{a b e v1 v2:Expr}{es rest:List Expr}{te ta tb:TE}{pos:Pos}
theorem zjX{x:Str}(h:(x.length == 0)=true):x=Str.empty:=by have h:=eq_of_beq h;obtain⟨c⟩:=x;have:c.size=0:=h;have:c=#[]:=Array.eq_empty_of_size_eq_zero this;rw[this];rfl
theorem zcc:OpR X (CO .Add) (λx y H Q=>∃a b,x=.str a/\y=.str b/\a.length+b.length<=sizeLine/\Q (.str (a++b)) H):=by
 intro pins s σ H x y v u Q I rx ry h;obtain⟨a,b,rfl,rfl,hz,q⟩:=h;obtain⟨t,rfl⟩:=rx;obtain⟨t',rfl⟩:=ry;refine PySem.P.add_str ?_
 split
 .rename_i h
  rw[zjX h]at q
  have e:Str.empty++b=b:=by obtain⟨c⟩:=b;show (⟨#[]++c⟩:Str)=⟨c⟩;rw[Array.empty_append]
  rw[e]at q;exact⟨.str _,H,I,⟨_,rfl⟩,q⟩
 .split
  .rename_i h
   rw[zjX h]at q
   have e:a++Str.empty=a:=by obtain⟨c⟩:=a;show (⟨c++#[]⟩:Str)=⟨c⟩;rw[Array.append_empty]
   rw[e]at q;exact⟨.str _,H,I,⟨_,rfl⟩,q⟩
  .refine⟨?_,.str _,H,I.tok _,⟨_,rfl⟩,q⟩
   have:(a++b).length=a.length+b.length:=by obtain⟨c⟩:=a;obtain⟨d⟩:=b;exact Array.size_append
   lia
theorem zim:∀{ys:List Str}{its:List Value},Vals (ys.map V.str) its->StrsAre its ys
 |[],_,.nil=>.nil
 |y::ys,_,.cons r rs=>by
  obtain⟨t,rfl⟩:=r;exact .cons y t (zim rs)
noncomputable def rJoin:V->List V->Hp->VK->Prop:=λx vs H Q=>∃(sep:Str) (l:Addr) (ys:List Str),x=.str sep/\vs=[.ref l]/\H l=some (.lst (ys.map V.str))/\(ys.map Str.length).sum+ys.length*sep.length<=16777216/\Q (.str (Bu sep ys)) H
theorem zdn:MtR X "str.join" rJoin:=by
 intro pins s σ H x vs v us Q I rx rv h;obtain⟨sep,l,ys,rfl,rfl,hq,hz,q⟩:=h;obtain⟨t,rfl⟩:=rx;obtain⟨u,rfl,ru⟩:=vals1 rv
 cases ru
 obtain⟨z,its,n,r,hl,e⟩:=I.lstM hq;exact join_list ⟨_,e,rfl,n,rfl⟩ (by simpa using zim r) hz λt' k=>⟨.str _,H,I.tok _,⟨_,rfl⟩,q⟩
noncomputable abbrev TJ:=St->Hp->Str->VK->Prop
noncomputable def PJ(X:Cx)(es:List Expr)(t:TJ):Prop:=∀(pins:List (Addr×Obj)) (s:Af) (σ:St) (H:Hp) (out:Str) (Q:VK),Inv X pins σ H s->t σ H out Q ->
 Aw (AE X.prog X.w) X.A (joinParts out (evalEach es X.env)) (EP X pins σ Q) X.xe s
noncomputable def tJNil:TJ:=λ_ H out Q=>out.length<=sizeLine/\Q (.str out) H
noncomputable def znN(te:TE)(tr:TJ):TJ:=λσ H out Q=>te σ H λx H1=>∃y,x=.str y/\(out++y).length<=sizeLine/\tr σ H1 (out++y) Q
theorem zmA:PJ X [] tJNil:=by intro pins s σ H out Q I ⟨hz,q⟩;exact joinParts_nilE (joinParts_nil ⟨.str _,H,I.tok _,⟨_,rfl⟩,q⟩ hz)
theorem zcb{tr:TJ}(he:PE X e te)(hr:PJ X es tr):PJ X (e::es) (znN te tr):=by intro pins s σ H out Q I h;refine joinParts_consE (joinParts_cons (thn (he pins s σ H _ I h) λv s1 ⟨x,H1,I1,r1,y,hx,hz,q⟩=>?_));subst hx;obtain⟨t,rfl⟩:=r1;exact⟨hz,hr pins s1 σ H1 _ Q I1 q⟩
theorem zkt{t:TJ}(h:PJ X (v1::v2::rest) t):PE X (.JoinedStr (v1::v2::rest) pos) (λσ H Q=>t σ H Str.empty Q):=by intro pins s σ H Q I q;exact JoinedStr_many (h pins s σ H _ Q I q)
noncomputable def tFmt(te:TE):TE:=λσ H Q=>te σ H λx H1=>(∃i,x=.int i/\i.natAbs.log2<1920/\Q (.str (Bg i)) H1)∨∃y,x=.str y/\y.length<=sizeLine/\Q (.str y) H1
theorem zfv(he:PE X e te):PE X (.FormattedValue e (-1) none pos) (tFmt te):=by
 intro pins s σ H Q I h;refine FormattedValue_plain (thn (he pins s σ H _ I h) λv s1 ⟨x,H1,I1,r1,q⟩=>?_);rcases q with⟨i,rfl,hz,q⟩ |⟨y,rfl,hz,q⟩
 .obtain⟨t,rfl⟩:=r1;exact formatField_int_small hz ⟨.str _,H1,I1.tok _,⟨_,rfl⟩,q⟩
 .obtain⟨t,rfl⟩:=r1;exact formatField_str (λt' k=>⟨.str _,H1,I1.tok _,⟨_,rfl⟩,q⟩) hz
end
section
variable {X:Cx}{a b e v1 v2:Expr}{es rest:List Expr}{te ta tb:TE}{pos:Pos}
noncomputable def znb:V->List V->Hp->VK->Prop:=λx vs H Q=>∃a b,x=.str a/\vs=[.str b]/\Q (.bl (DU a b)) H
theorem zdA:MtR X "str.startswith" znb:=by intro pins s σ H x vs v us Q I rx rv h;obtain⟨a,b,rfl,rfl,q⟩:=h;obtain⟨t,rfl⟩:=rx;obtain⟨u,rfl,t',rfl⟩:=vals1 rv;exact call_gives F.slot_str_startswith (Er s a t) F.entry_str_startswith (F.args_str_startswith_2 _ _) (gives_str_startswith a b t t') ⟨.bl _,H,I,rfl,q⟩
theorem zbJ:CallR X (.type "int") (λxs H Q=>∃x n,xs=[.str x]/\intText? x=some n/\x.length<=640/\Q (.int n) H):=by intro pins s σ H xs us Q I r h;obtain⟨x,n,rfl,hn,hz,q⟩:=h;obtain⟨u,rfl,t,rfl⟩:=vals1 r;exact W.KIN.call_text hn hz ⟨.int _,H,I.tok _,⟨_,rfl⟩,q⟩
theorem zmu:SlR X (λx lo hi H Q=>∃a,x=.str a/\a.length<=sizeLine/\Q (.str (Txt.slice a lo hi)) H):=by
 intro pins s σ H x v vl vu lo hi sl Q I rx hs pl pu h;obtain⟨a,rfl,hz,q⟩:=h;obtain⟨t,rfl⟩:=rx;refine⟨"str",_,F.slot_str_getitem.lookup,Er s a t,?_⟩
 obtain⟨l,u,el,eu,hl,hu⟩:∃l u:Option (Int×Tok),vl=partValue l/\vu=partValue u/\l.map (·.1)=lo/\u.map (·.1)=hi:=by
  cases pl with
  |none=>cases pu with
   |none=>exact⟨none,none,rfl,rfl,rfl,rfl⟩
   |int j t'=>exact⟨none,some (j,t'),rfl,rfl,rfl,rfl⟩
  |int i t=>cases pu with
   |none=>exact⟨some (i,t),none,rfl,rfl,rfl,rfl⟩
   |int j t'=>exact⟨some (i,t),some (j,t'),rfl,rfl,rfl,rfl⟩
 subst el eu;obtain⟨o,h1,h2,h3⟩:=hs;refine wpAny_getItem_str_slice (l:=l) (u:=u) (st:=none) ⟨o,h1,h2,h3⟩ rfl ?_
 have q':=q;unfold Txt.slice at q';unfold sliceMade slicePicked;rw[hl,hu];show (if ((1:Int) == 1 && (Builtin.Str.strSliceIndices lo hi 1 a.length).length == a.length)=true then _ else _:Made).post _ _;split
 .rename_i h
  rw[if_pos h]at q';exact⟨.str a,H,I,⟨_,rfl⟩,q'⟩
 .rename_i h
  rw[if_neg h]at q';refine⟨?_,.str _,H,I.tok _,⟨_,rfl⟩,q'⟩;have hle:=PyProof.Txt.length_slice_le a lo hi;unfold Txt.slice at hle;rw[if_neg h]at hle;exact AV hle hz
noncomputable def zn6:V->List V->Hp->VK->Prop:=λx vs H Q=>∃a b,x=.str a/\vs=[.str b]/\(b.length == 0)=false/\a.length+2<=sizeLine/\∀p,H p=none->Q (.ref p) (upd H p (.lst ((Cy a b).map V.str)))
theorem zgE:∀{ys:List Str}(k:Nat),Vals (ys.map V.str) (strsFrom k ys)
 |[],_=>.nil
 |y::ys,k=>.cons ⟨_,rfl⟩ (zgE (k+1))
theorem zge:MtR X "str.split" zn6:=by
 intro pins s σ H x vs v us Q I rx rv h;obtain⟨a,b,rfl,rfl,hb,hz,q⟩:=h;obtain⟨t,rfl⟩:=rx;obtain⟨u,rfl,t',rfl⟩:=vals1 rv;have hle:=split_le a b;have q:=q s.heap.objs.size (I.hok.fresh (Ai _))
 have put:∀(its:List Value) (tk:Nat),Vals ((Cy a b).map V.str) its->EP X pins σ Q (.ref s.heap.objs.size) { s with heap:=s.heap.push { cls:=.type "list",data:=.seq its.toArray },toks:=tk }:=λits tk r=>by refine⟨.ref _,_,I.laid (t':=tk) (o:=.lst ((Cy a b).map V.str)) (λb ob q=>Ah _ q) (Ai _) ?_,rfl,q⟩;exact⟨by rw[Ag];lia,its,0,r,AC _ rfl⟩
 by_cases h1:(decide (a.length<b.length) ||decide (Builtin.Str.strKind a<Builtin.Str.strKind b))=true
 .refine Cg F.slot_str_split (Er s a t) F.entry_str_split (F.args_str_split_2 _ _) (meets_str_split_cannot_occur a b t t' h1) ?_
  have e:Cy a b=[a]:=by unfold Cy;rw[if_pos h1]
  exact put [.str a t] s.toks (by rw[e];exact .cons ⟨_,rfl⟩ .nil)
 have h1:=Cm.mpr h1
 by_cases h2:(Ca a b 0 a.length (a.length+1)).isEmpty=true
 .refine Cg F.slot_str_split (Er s a t) F.entry_str_split (F.args_str_split_2 _ _) (meets_str_split_not_found a b t t' h1 hb h2) ?_
  have e:Cy a b=[a]:=by unfold Cy;rw[if_neg (by rw[h1];decide),if_pos h2]
  exact put [.str a t] s.toks (by rw[e];exact .cons ⟨_,rfl⟩ .nil)
 have h2:=Cm.mpr h2;have e:Cy a b=Builtin.Str.partsBetween a (Ca a b 0 a.length (a.length+1)) b.length:=by unfold Cy;rw[if_neg (by rw[h1];decide),if_neg (by rw[h2];decide)]
 rw[e]at hle;refine Cg F.slot_str_split (Er s a t) F.entry_str_split (F.args_str_split_2 _ _) (meets_str_split_sep a b t t' h1 hb h2 (by lia) (by lia)) ?_
 have r:=zgE (ys:=Cy a b) s.toks;rw[e]at r;exact put _ _ (by rw[e];exact r)
end
open PySem RP
structure UD (H0 H:Hp) (a:Addr) (es:List Edge) (kvs:List (Key×V)) (B:Int->Addr):Prop where
 dict:H a=some (.dK kvs)
 new:H0 a=none
 same:Same H0 H
 len:kvs.length<=es.length
 nd:(kvs.map (·.1)).Nodup
 keys:∀k∈kvs.map (·.1),∃y,k=DL y/\upr es y≠[]
 at_:∀y,upr es y≠[]->valV kvs (.inl y)=some (.ref (B y))/\H (B y)=some (.lst ((upr es y).map V.int))/\H0 (B y)=none/\B y≠a
 inj:∀y z,upr es y≠[]->upr es z≠[]->B y=B z->y=z
 no:∀y,upr es y=[]->valV kvs (.inl y)=none
variable {H0 H:Hp}{a z:Addr}{es:List Edge}{e:Edge}{kvs:List (Key×V)}{B:Int->Addr}
end L2
namespace RP
end RP
namespace L2
open PySem RP
end L2
namespace RP
end RP
namespace L2
open PySem PySem.Spec PyProof.Rows
section
variable {prog:AF}{w:A7}{A:AS}{E:Value->Af->Prop}{s:Af}
end
section
variable {X:Cx}
noncomputable def Its(x:Str):It:=⟨λi _=>i<x.cps.size,λi H v H'=>H'=H/\∃c,x.cps[i]?=some c/\v=.str ⟨#[c]⟩,λi _=>x.cps.size<=i⟩
theorem zmi{prog:AF}{w:A7}{A:AS}(hh:A.handled=none)(I:Addr)(x:Str)(t:Tok):Walks prog w A I [I] [I] x.cps.size (SignAt x) λi h=>h.IsStrIter I (strIterType x) x t i:=by
 unfold strIterType;split
 .exact Walks.strAscii hh I x t
 .exact Walks.strWide hh I x t
theorem zos{M:Ey}{A:AS}{E:Value->Af->Prop}{s:Af}{tg:Expr}{it:Addr}{y:Str}{u:Tok}{Q:Unit->Af->Prop}(hQ:Q () s):Aw M A (Da tg (.ref it) (.str y u)) Q E s:=by
 unfold Da
 cases tg <;> exact Ak hQ
theorem zlx{P:AF}{w:A7}{K:W.Frag}{tg:Expr}(x:Str)(t:Tok)(it:Addr):Turn P w K tg (Its x) [it] it (λi h=>i<=x.cps.size/\h.IsStrIter it (strIterType x) x t i) where
 mem:=by simp
 obj:=λi h st b hb=>by
  have e:b=it:=by simpa using hb
  subst e;obtain⟨_,o,e,c,d⟩:=st;exact⟨o,e,λv z=>by rw[d]at z;cases z⟩
 keep:=λi h h' ⟨hi,o,e,r⟩ k=>⟨hi,o,k it (by simp) o e,r⟩
 item:=by
  intro X hP hw hK hc i pins s σ H E I hf st hg;subst hP hw hK;obtain⟨f0,f1,f2,f3,f4,f5⟩:=hf it (by simp);have hg:i<x.cps.size:=hg;refine (zmi (prog:=X.prog) (w:=X.w) (I.ok.hd hc) it x t).item i s _ _ hg st.2 λv h' tk hv st' kk=>?_
  obtain⟨c,u,hcc,rfl⟩:=hv;have I1:Inv X pins σ H { s with heap:=h',toks:=tk }:=I.turned (λb o hb e=>kk b o (by simpa using hb) e) f0 f1 f3 f4 f5;exact⟨_,rfl,zos ⟨.str ⟨#[c]⟩,H,I1,⟨_,rfl⟩,⟨rfl,c,hcc,rfl⟩,⟨hg,st'⟩,λb hb=>(hf b hb).1⟩⟩
 done:=by intro X hP hw hK hc i pins s σ H E I hf st hg;subst hP hw hK;obtain⟨f0,f1,f2,f3,f4,f5⟩:=hf it (by simp);have hg:x.cps.size<=i:=hg;have e:i=x.cps.size:=Nat.le_antisymm st.1 hg;subst e;exact (zmi (prog:=X.prog) (w:=X.w) (I.ok.hd hc) it x t).done s _ _ st.2 λh' tk kk=>⟨rfl,I.turned (t':=tk) (λb o hb e=>kk b o (by simpa using hb) e) f0 f1 f3 f4 f5⟩
 self:=λ_ i s _ _ st h=>by
  obtain⟨_,st⟩:=st;unfold strIterType at st;split at st
  .exact wpAny_pyIter_striter_ascii st h
  .exact wpAny_pyIter_striter_wide st h
noncomputable def iStr(tl:TE):TI:=λσ H R=>tl σ H λx H1=>∃y,x=.str y/\R (Its y) H1
theorem zkr{tg l:Expr}{tl:TE}(hl:PE X l tl):PI X tg l (iStr tl):=by
 intro pins s σ H R I h;refine thn (hl pins s σ H _ I h) λv s1 ⟨x,H1,I1,r1,q1⟩=>?_
 obtain⟨y,rfl,q⟩:=q1;obtain⟨t,rfl⟩:=r1;refine wpAny_pyIter_strU ?_
 refine⟨s1.heap.objs.size,[s1.heap.objs.size],_,_,H1,rfl,I1.kept (t':=s1.toks) λb o e=>Ah _ e,zlx y t _,⟨AT _,_,AC _ rfl,rfl,rfl⟩,λb hb=>?_,q⟩;have e:b=s1.heap.objs.size:=by simpa using hb
 subst e;exact I1.fpOk (Ai _) (I1.hok.fresh (Ai _))
theorem zh1{y:Str}{g:TG}{tb:TS}{D:Ends}{σ : St}{H:Hp}(Pv:Nat -> St -> Hp -> Prop)(h0:Pv 0 σ H)
  (hs:∀i c σ H,y.cps[i]?=some c->Pv i σ H->g (.str ⟨#[c]⟩) σ H λσ2 H2=>tb { D with nx:=Pv (i+1),ct:=Pv (i+1),bk:=D.nx } σ2 H2) (hd:∀ σ H,Pv y.cps.size σ H->D.nx σ H) :
  ∃W:Nat->Nat->St->Hp->Prop,(∃m,W 0 m σ H)/\∀i m σ H,W i m σ H ->
   ((Its y).stop i H/\D.nx σ H)∨((Its y).go i H/\∃N:St->Hp->Prop,(∀ σ' H',N σ' H'->∃m',m'<m/\W (i+1) m' σ' H')/\∀x H',(Its y).yld i H x H'->g x σ H' λσ2 H2=>tb { D with nx:=N,ct:=N,bk:=D.nx } σ2 H2):=by
 refine⟨λi m σ H=>m=y.cps.size-i/\i<=y.cps.size/\Pv i σ H,⟨y.cps.size,by simp,AT _,h0⟩,?_⟩;rintro i m σ H ⟨rfl,hi,p⟩
 by_cases hlt:i<y.cps.size
 .refine .inr ⟨hlt,Pv (i+1),λσ' H' p'=>⟨y.cps.size-(i+1),by lia,rfl,hlt,p'⟩,λx H' z=>?_⟩;obtain⟨e,c,hc,rfl⟩:=z;subst e;exact hs i c σ _ hc p
 .have e:i=y.cps.size:=by lia
  subst e;exact .inl ⟨Ai _,hd σ H p⟩
end
section
variable {prog:AF}{w:A7}{A:AS}{E:Value->Af->Prop}{s:Af}
end
section
variable {X:Cx}
end
section
variable {X:Cx}{e eh es:Expr}{te th ts:TE}{pos p2:Pos}
end
section
variable {X:Cx}{a:Expr}{es:List Expr}{e:Expr}{t:TA}{tv:TE}{pos p:Pos}{x:Str}{k:Nat}{f:Addr}{fd:BI}{ps:List Str}{sp:Sp}{E:XK}
end
open PySem
theorem sC{N P:List Str}{sc:Scope}(a:sc.kind = .function := by rfl)(b:sc.isCoroutine=false := by rfl)(c:sc.isGenerator=false := by rfl)(d:N.Nodup := by decide +kernel)(e:N.take P.length=P := by rfl)
  (f:∀x∈P,sc.names.lookup x=some .local∨sc.names.lookup x=some .cell:=by decide +kernel) (g:∀y∈sc.names,y.2≠.free:=by decide +kernel):FnScope N P sc:=⟨a,b,c,d,e,f,g⟩
section
variable {X:Cx}{k j:Nat}{x:Str}{ps:List Str}{sp:Sp}{e:Expr}{es:List Expr}{t:TA}{te:TE}{p pos pos':Pos}
theorem pC (g:Fn X.prog X.w X.K X.mg X.base k x ps sp) (hr:Room j X.A) (ha:PA X (e :: es) t) (hj:k <= j := by decide) (hg:Gl X x := by rfl) (hdb:(x == ("__debug__" : Str))=false := by decide)
  (he:Bw (e::es) X.env=(false,eval e X.env)::Bw es X.env:=by rfl) (hpl:(backTo pos (Bw es X.env)).any (·.1)=false:=by rfl):PE X (.Call (.Name x p) (e::es) [] pos) (tCall sp [] E0 t) :=
 znj g.ok (hr.mono hj) hg g.m g.kp g.b .nil pass0 ha hdb he hpl
theorem nG(i:Nat)(hN:X.N.Nodup)(hi:X.N[i]?=some x:=by rfl)(hx:Loc X.env.scope x:=by exact Or.inl rfl)(hf:X.fn x=true∨X.env.scope.names.lookup x=some .local:=by first |exact .inl rfl |exact .inr rfl |assumption):PG X (.Name x pos) (gName i) :=
 zdl hN hi hx hf
theorem sE(i:Nat)(hN:X.N.Nodup)(he:PE X e te)(hi:X.N[i]? = some x := by rfl)(hx:Loc X.env.scope x := by exact Or.inl rfl)(hs:swapsWith e (some (.Name x pos')) pos.line X.env=pure false := by rfl)
  (hf:X.fn x=true∨X.env.scope.names.lookup x=some .local:=by first |exact .inl rfl |exact .inr rfl |assumption):PS X (.Assign [.Name x pos'] e pos) (tAsg te (gName i)) :=
 zgS hN hi hx he hs hf
end
theorem bO{osc:Scope}{N:List Str}{sc:Scope}{N':List Str}{sel:List (Option Nat)}(a:sc.kind = .function := by rfl)(b:∀y ∈ sc.names, y.2 ≠ .cell := by decide +kernel)(c:∀y ∈ sc.names, y.2 = .local -> sc.names.lookup y.1=some .local := by decide +kernel)
  (d:∀y∈sc.names,y.2=.free->osc.names.lookup y.1=some .cell∨osc.names.lookup y.1=some .free:=by decide +kernel) (e:sel.length=N'.length:=by rfl) (f:∀p∈sel.zip N',∀i∈p.1,N[i]?=some p.2/\sc.names.lookup p.2=some .free:=by decide +kernel):BlkOk osc N sc N' sel:=⟨a,b,c,d,e,f⟩
section
variable {K:W.Frag}{x qual:Str}{st:Stmt}{f:Addr}{fd:BI}
theorem Fun.b1{p0:Str}(F:Fun K x qual st f fd)(h:∀(kV doc pm:Value) (an:Option Addr) (cdv ct a0:Value),D9 (D4 x qual (zbi st) (za8 st) (zad st) .none kV doc pm an cdv ct) ⟨[a0],[]⟩=pure [(p0,a0)]:=by intros;rfl):Binds K fd [p0] [] :=
 F.binds λkV doc pm an cdv ct us hl=>match us,hl with |[a0],_=>h kV doc pm an cdv ct a0
theorem Fun.b2{p0 p1:Str}(F:Fun K x qual st f fd)(h:∀(kV doc pm:Value) (an:Option Addr) (cdv ct a0 a1:Value),D9 (D4 x qual (zbi st) (za8 st) (zad st) .none kV doc pm an cdv ct) ⟨[a0,a1],[]⟩=pure [(p0,a0),(p1,a1)]:=by intros;rfl):Binds K fd [p0,p1] [] :=
 F.binds λkV doc pm an cdv ct us hl=>match us,hl with |[a0,a1],_=>h kV doc pm an cdv ct a0 a1
theorem Fun.b3{p0 p1 p2:Str}(F:Fun K x qual st f fd)(h:∀(kV doc pm:Value) (an:Option Addr) (cdv ct a0 a1 a2:Value),D9 (D4 x qual (zbi st) (za8 st) (zad st) .none kV doc pm an cdv ct) ⟨[a0,a1,a2],[]⟩=pure [(p0,a0),(p1,a1),(p2,a2)]:=by intros;rfl):Binds K fd [p0,p1,p2] [] :=
 F.binds λkV doc pm an cdv ct us hl=>match us,hl with |[a0,a1,a2],_=>h kV doc pm an cdv ct a0 a1 a2
end
noncomputable def DA(K:W.Frag)(x:Str)(st:Stmt):Prop:=∃(f:Addr) (od an:Option Addr) (sl:Array (Option Value)) (oc kV dc pm cd ct:Value),Cn K AH x=some (some (.ref f)) /\
 K.lookup f=some ⟨oc,od,.func (D4 x x (zbi st) (za8 st) (zad st) .none kV dc pm an cd ct),sl⟩/\W.codeIn K cd x=true/\DP K (.ref f)=true
section
variable {K:W.Frag}{mg:Str->Option Value}{h:Heap}{x:Str}{st:Stmt}
theorem DA.mk{f:Addr}{od an:Option Addr}{sl:Array (Option Value)}{oc kV dc pm cd ct:Value}(a:Cn K AH x=some (some (.ref f)))
  (l:K.lookup f=some ⟨oc,od,.func (D4 x x (zbi st) (za8 st) (zad st) .none kV dc pm an cd ct),sl⟩) (c:W.codeIn K cd x=true) (k:DP K (.ref f)=true):DA K x st :=
 ⟨f,od,an,sl,oc,kV,dc,pm,cd,ct,a,l,c,k⟩
theorem DA.d1{p0:Str}(D:DA K x st)(X:K.In h)(G:h.Ns AH mg)(hb:∀(kV doc pm:Value) (an:Option Addr) (cdv ct a0:Value),D9 (D4 x x (zbi st) (za8 st) (zad st) .none kV doc pm an cdv ct) ⟨[a0],[]⟩=pure [(p0,a0)]:=by intros;rfl):Nonempty (Df K mg x st [p0]):=by obtain⟨f,od,an,sl,oc,kV,dc,pm,cd,ct,a,l,c,k⟩:=D;exact⟨⟨f,_,zd3 l c k,CC X G a,(zd3 l c k).b1 hb⟩⟩
theorem DA.d2{p0 p1:Str}(D:DA K x st)(X:K.In h)(G:h.Ns AH mg)(hb:∀(kV doc pm:Value) (an:Option Addr) (cdv ct a0 a1:Value),D9 (D4 x x (zbi st) (za8 st) (zad st) .none kV doc pm an cdv ct) ⟨[a0,a1],[]⟩=pure [(p0,a0),(p1,a1)]:=by intros;rfl):Nonempty (Df K mg x st [p0,p1]):=by obtain⟨f,od,an,sl,oc,kV,dc,pm,cd,ct,a,l,c,k⟩:=D;exact⟨⟨f,_,zd3 l c k,CC X G a,(zd3 l c k).b2 hb⟩⟩
theorem DA.d3{p0 p1 p2:Str}(D:DA K x st)(X:K.In h)(G:h.Ns AH mg)(hb:∀(kV doc pm:Value) (an:Option Addr) (cdv ct a0 a1 a2:Value),D9 (D4 x x (zbi st) (za8 st) (zad st) .none kV doc pm an cdv ct) ⟨[a0,a1,a2],[]⟩=pure [(p0,a0),(p1,a1),(p2,a2)]:=by intros;rfl):Nonempty (Df K mg x st [p0,p1,p2]):=by obtain⟨f,od,an,sl,oc,kV,dc,pm,cd,ct,a,l,c,k⟩:=D;exact⟨⟨f,_,zd3 l c k,CC X G a,(zd3 l c k).b3 hb⟩⟩
end
open PySem PyProof.Rows
section
variable {X:Cx}{pos:Pos}
end
structure Fly (B:Heap) (l:List Env) (e:Addr) (o:Obj) (vs:Array Value) (fl:Value) (h:Heap):Prop where
 stay:B.StaysIn h
 new:B.get? e=none
 fr:h.FunFrames B l
 tb:∃T oT ts,h.get? e=some { o with data:=.fields (vs.setIfInBounds 1 (.ref T)) }/\1<vs.size/\B.get? T=none/\T≠e/\h.get? T=some oT/\oT.data=.fields ts/\ts[3]?=some fl
section
variable {M:Ey}{A:AS}{E:Value->Af->Prop}{s:Af}{B:Heap}{env:Env}{outer l:List Env}{L e:Addr}{o:Obj}{vs us:Array Value}{fl:Value}{Q:Unit->Af->Prop}
end
noncomputable def CX1(P:AF)(w:A7):CXT:=λouter H s E e s'=>∃(a:Addr) (H':Hp) (B:Heap) (o:Obj) (vs:Array Value),e=.ref a/\s'.os=s.os/\AllBare s'.gens/\Fly B outer a o vs .none s'.heap/\s.heap.get? a=none/\H' a=none /\
 (∀h2,B.StaysIn h2->s'.heap.UpToSlots h2->Un (frs outer) [] H H' s.heap h2/\HOk P w H' h2)/\E o.cls o.dict H'
section
variable {P:AF}{w:A7}{K:W.Frag}{mg:Str->Option Value}{base:Heap}{N:List Str}{qual:Str}{scope:Scope}{f:Addr}{cd:Value}{A:AS}{outer:List Env}{s0:Af}{H0:Hp}{E:XK}
 {pins:List (Addr×Obj)} {σ:St} {H:Hp} {s:Af} {e:Addr} {o:Obj} {vs:Array Value}
end
section
variable {P:AF}{w:A7}{K:W.Frag}{mg:Str->Option Value}{base:Heap}{N:List Str}{qual:Str}{scope:Scope}{f:Addr}{cd:Value}{A:AS}{outer:List Env}{s0:Af}{H0:Hp}{E:XK}
end
noncomputable abbrev Cx.pinned(X:Cx)(pins:List (Addr×Obj)):Cx:={ X with pn:=X.pn++pins }
noncomputable abbrev Cx.held(X:Cx)(a:Addr):Cx:={ X with A:=X.A.mark (some (.ref a)),calm:=false,xe:=λ_ _=>False }
noncomputable def Ends.drop(D:Ends)(i:Nat):Ends:={ nx:=λσ H=>D.nx (σ.set i none) H,rt:=D.rt,bk:=λσ H=>D.bk (σ.set i none) H,ct:=λσ H=>D.ct (σ.set i none) H }
section
variable {X:Cx}{pins:List (Addr×Obj)}{σ:St}{H:Hp}{s:Af}{E:XK}
end
section
variable {X:Cx}
end
section
variable {prog:AF}{w:A7}{A:AS}{E:Value->Af->Prop}{s:Af}{K:W.Frag}{a D:Addr}{u:Obj}{od:Option Obj}
end
structure ExcC (K:W.Frag) (D:Addr):Prop where
 hga:W.findIn K (.ref D) "__getattribute__" = some (some (.builtin "BaseException.__getattribute__"))
 hgb:W.findIn K (.ref D) "__getattr__" = some none
 hb:W.subIn K (.ref D) (.type "BaseException")=some true
 hd:W.hasDictIn K D=true
 ha:W.findIn K (.ref D) "__class__" = some (some (.builtin "object.__class__"))
 hn:W.specialIn K (.builtin "object.__class__") "__get__" = some (some (.builtin "getset_descriptor.__get__"))
 ht:W.takesIn K (.builtin "object.__class__")=some true
 hm:W.mroIn K D (.type "object")=some true
section
variable {P:AF}{w:A7}{K:W.Frag}{mg:Str->Option Value}{base:Heap}
structure FnX (P:AF) (w:A7) (K:W.Frag) (mg:Str->Option Value) (base:Heap) (k:Nat) (x:Str) (ps:List Str) (sp:Sp) where
 f:Addr
 fd:BI
 ok:FnOk P w K mg base (CX1 P w) k f fd ps sp
 m:mg x=some (.ref f)
 kp:DP K (.ref f)=true
 b:Binds K fd ps []
end
section
variable {X:Cx}{k j:Nat}{x:Str}{ps:List Str}{sp:Sp}{E:XK}{p pos:Pos}{e:Expr}{es:List Expr}{t:TA}
end
section
variable {prog:AF}{w:A7}{A:AS}{E:Value->Af->Prop}{h:Heap}{g:Array GenState}{d:Drawn}{t:Nat}{os:OsState}
variable {nm q:Str}{C N f:Addr}{bs bm bmB:List Value}{hdct:Bool}{sn:List Str}{sub:List Value}{ab:Bool}{col:Option Bool}{dd:Option Addr}{k0 k1 k2 k3 k5:Option Value}{B newId initId:String}
end
noncomputable def overX(bm:List Value):List Value->Bool
 |.ref _::r=>overX bm r
 |l=>l == bm
noncomputable abbrev bmV:List Value:=[.type "ValueError",.type "Exception",.type "BaseException",.type "object"]
section
variable {prog:AF}{w:A7}{A:AS}{R:Result->Af->Prop}{E:Value->Af->Prop}{s:Af}{K:W.Frag}{x C:Addr}{ox:Obj}{od:Option Obj}
end
section
variable {prog:AF}{w:A7}{A:AS}{E:Value->Af->Prop}{s:Af}{K:W.Frag}{x C dx:Addr}
end
noncomputable def xdO(d:Addr)(fs:List (Str×V)):HO:=.ext λh=>∃mA,h.Ns1 d mA/\(∀f,RelO (fs.lookup f) (mA f))/\PySem.Within mA (fs.map (·.1))
noncomputable def exN(e C t:Addr)(d:Option Addr):HO:=.ext λh=>h.get? e=some { cls:=.ref C,dict:=d,data:=.fields #[.ref t,.none,.none,.none,.bool false,.none] }
structure ExS (K:W.Frag) (C:Addr):Prop where
 cl:(W.clsIn K C).any (λcd=>cd.hasDict && overX bmV cd.mro)=true
 m:W.mroIn K C (.type "object")=some true
 s:W.findIn K (.ref C) "__setattr__" = some (some (.builtin "object.__setattr__"))
section
variable {X:Cx}{pins:List (Addr×Obj)}{σ:St}{H:Hp}{s:Af}{a C t:Addr}{f:Str}{A:AS}{E:Value->Af->Prop}
end
section
variable {X:Cx}{o value:Expr}{f:Str}{pos pos':Pos}{ta tv:TE}
end
noncomputable def zot(K:W.Frag)(C:Addr)(bB:List Value)(nw:String)(f:Addr):Bool:=match K.lookup C with
 |some ⟨.type "type",_,.cls c,⟨[_,_,_,_,k4,_]⟩⟩=>k4 == some (.builtin nw) && !c.hasDel && c.mro.head? == some (.ref C) && W.tailIn K bB c.mro.tail && W.nsOkIn K c.ns && Cn K c.ns "__init__" == some (some (.ref f))
 |_=>false
structure MkX (K:W.Frag) (C f:Addr) (bB:List Value) (nw:String):Prop where
 ex:zot K C bB nw f=true
 fn:W.isFn K (.ref f)=true
 kp:DP K (.ref C)=true
section
variable {X:Cx}{C f:Addr}{k:Nat}{fd:BI}{ps:List Str}{sp:Sp}{E:XK}{Bn nw it:String}{bB:List Value}{CX:CXT}{x:Str}{p pos:Pos}{e:Expr}{es:List Expr}{t:TA}
end
noncomputable def drop(H:Hp)(a:Addr):Hp:=λb=>if b=a then none else H b
section
variable {M:Ey}{A:AS}{E:Value->Af->Prop}{s:Af}{env:Env}
variable {nm q:Str}{C N:Addr}{bs bm:List Value}{hdct:Bool}{sn:List Str}{sub:List Value}{ab:Bool}{col:Option Bool}{dd:Option Addr}{k0 k1 k2 k3 k5:Option Value}{newId:String}
end
section
variable {X:Cx}{pins:List (Addr×Obj)}{σ:St}{H:Hp}{s:Af}
end
section
variable {P:AF}{w:A7}{K:W.Frag}{mg:Str->Option Value}{base:Heap}{N:List Str}{qual:Str}{scope:Scope}{f:Addr}{cd:Value}{A:AS}{outer:List Env}{s0:Af}{H0:Hp}{E:XK}
end
noncomputable def spI(C:Addr)(fs:List Str):Sp:=λvs H Q _=>∃x t ws,vs=.ref x::ws/\ws.length=fs.length/\H x=some (exN x C t none)/\∀d,H d=none->d≠x->Q .non (upd (upd H x (exN x C t (some d))) d (xdO d (fs.zip ws)))
structure ExA (P:AF) (w:A7) (K:W.Frag) (mg:Str->Option Value) (base:Heap) (x:Str) (C:Addr) (fs:List Str) where
 f:Addr
 fd:BI
 ps:List Str
 B:String
 nw:String
 it:String
 bB:List Value
 FB:ExcBaseFacts B nw it bB
 M:MkX K C f bB nw
 ok:FnOk P w K mg base (CX1 P w) 1 f fd ps (spI C fs)
 b:Binds K fd ps []
 m:mg x=some (.ref C)
 z:fs.length<=1000
section
variable {P:AF}{w:A7}{K:W.Frag}{mg:Str->Option Value}{base:Heap}{N:List Str}{qual:Str}{scope:Scope}{f:Addr}{cd:Value}{A:AS}{outer:List Env}{s0:Af}{H0:Hp}{E:XK}
end
section
variable {prog:AF}{w:A7}{A:AS}{E:Value->Af->Prop}{s:Af}{K:W.Frag}{a D d:Addr}{u:Obj}{od:Option Obj}
end
section
variable {X:Cx}{pins:List (Addr×Obj)}{σ:St}{H:Hp}{s:Af}{a D d:Addr}{fs:List (Str×V)}
end
section
variable {X:Cx}{pins:List (Addr×Obj)}{B:Heap}{a:Addr}{o:Obj}{vs:Array Value}{s5 s2:Af}{σ' σ2:St}{H' H2:Hp}{body suite:List Stmt}{b0:Stmt}{n tn:Str}{i:Nat}{T:Addr}{E:XK}{tb ts:TS}{np hpos pos:Pos}{D:Ends}{rest:List ExceptHandler}{b:Bool}
end
section
variable {X:Cx}{body suite suite2:List Stmt}{b0 b1:Stmt}{n tn tn2:Str}{i:Nat}{T T2:Addr}{E:XK}{tb ts t2:TS}{np np2 hpos hpos2 pos:Pos}
end
section
variable {X:Cx}
end
structure Rds3 (P:AF) (w:A7) (K:W.Frag) (mg:Str->Option Value) (fs fn fr:Addr):Prop where
 ex:∃(B:Addr) (t1 t3 t5:Tok) (n:Nat),mg "READERS" = some (.ref B)/\K.lookup B=some ⟨.type "dict",none,.dict #[⟨Bc w.params "sort",.str "sort" t1,.ref fs⟩,⟨Bc w.params "number",.str "number" t3,.ref fn⟩,⟨Bc w.params "row",.str "row" t5,.ref fr⟩] n,#[]⟩
noncomputable def tRds3 (fs fn fr:Addr) (ti:TE):TE:=λσ H Q=>ti σ H λy H1=>(y=.str "number" /\ Q (.ref fn) H1)∨(y=.str "sort" /\ Q (.ref fs) H1)∨(y=.str "row" /\ Q (.ref fr) H1)
theorem znh {X:Cx}{fs fn fr:Addr}{i:Expr}{ti:TE}{p pos:Pos}(hg:Gl X "READERS") (hw:Rds3 X.prog X.w X.K X.mg fs fn fr) (hi:PE X i ti) (hs:NoSl i:=by exact λ_ _=>rfl):PE X (.Subscript (.Name "READERS" p) i pos) (tRds3 fs fn fr ti):=by
 intro pins s σ H Q I h;obtain⟨B,t1,t3,t5,n,hm,hl⟩:=hw.ex;refine zhJ D3.lookup hs (thn ((zbA (v:=.ref B) hg hm rfl:PE X (.Name "READERS" p) _) pins s σ H (λv H1=>v=V.ref B/\H1=H) I ⟨rfl,rfl⟩) λu s1 ⟨x,H1,I1,rx,q1⟩=>?_);obtain⟨rfl,rfl⟩:=q1;obtain rfl:u=Au B:=rx;refine thn (hi pins s1 σ H1 _ I1 h) λiv s2 ⟨y,H2,I2,ry,q2⟩=>?_
 have ho:s2.heap.get? B=some _:=I2.kIn B _ hl
 have mo:s2.heap.MapOf (zaD X.prog X.w) B (PySem.findBy (zaD X.prog X.w).is #[⟨Bc X.w.params "sort",.str "sort" t1,.ref fs⟩,⟨Bc X.w.params "number",.str "number" t3,.ref fn⟩,⟨Bc X.w.params "row",.str "row" t5,.ref fr⟩]) :=
  ⟨_,_,_,ho,⟨rfl,rfl,rfl⟩,rfl,λe he=>by
   simp only[List.mem_toArray,AI,Cw,or_false]at he;rcases he with rfl |rfl |rfl
   .exact⟨.inr "sort",zaN _ _ _ _,rfl⟩
   .exact⟨.inr "number",zaN _ _ _ _,rfl⟩
   .exact⟨.inr "row",zaN _ _ _ _,rfl⟩,λ_=>rfl⟩
 refine⟨⟨_,ho,rfl⟩,?_⟩;rcases q2 with⟨rfl,q⟩ |⟨rfl,q⟩ |⟨rfl,q⟩
 .exact CY (kV_is (k:=.inr "number") ry) mo (v:=.ref fn) rfl ⟨.ref fn,H2,I2.tok _,rfl,q⟩
 .exact CY (kV_is (k:=.inr "sort") ry) mo (v:=.ref fs) rfl ⟨.ref fs,H2,I2.tok _,rfl,q⟩
 .exact CY (kV_is (k:=.inr "row") ry) mo (v:=.ref fr) rfl ⟨.ref fr,H2,I2.tok _,rfl,q⟩
end L2
namespace RP
open PySem PyProof.Rows L2
noncomputable abbrev cl(x:Str):List Nat:=x.cps.toList
theorem zcl{x y:Str}(h:cl x=cl y):x=y:=by obtain⟨a⟩:=x;obtain⟨b⟩:=y;have:a=b:=Array.toList_inj.mp h;rw[this]
theorem zb1(x:Str):(cl x).length=x.length:=by simp[Str.length]
theorem zcm(a b:Str):cl (a++b)=cl a++cl b:=by obtain⟨c⟩:=a;obtain⟨d⟩:=b;show (c++d).toList=_;simp
theorem zjh{x:Str}{k:Nat}(h:k<=x.length):cl (Txt.slice x (some (k:Int)) none)=(cl x).drop k:=by
 show cl (StrLaws.sliceText x (some (k:Int)) none)=_;have hl:=zb1 x;rw[StrLaws.sliceText_from ⟨by lia,by show (k:Int)<=((cl x).length:Int);lia⟩];show ((List.take _ (List.drop (k:Int).toNat (cl x))).toArray).toList=_;rw[List.toList_toArray,BV];refine Bx ?_
 rw[CW];show _<=(((cl x).length:Int)-k).toNat
 lia
theorem zkd(x:Str)(k:Nat)(h:x.length=0)(lo hi:Option Int):Txt.slice x lo hi=x:=by
 have:=Txt.slice_le x lo hi;refine zcl ?_
 have e1:cl x=[]:=Cb.mp (by rw[zb1];exact h);have e2:cl (Txt.slice x lo hi)=[]:=Cb.mp (by rw[zb1];lia);rw[e1,e2]
theorem zke(x:Str):cl (Txt.slice x (some 1) none)=(cl x).drop 1:=by
 rcases Dv x.length with h |h
 .rw[zkd x 0 h];have e1:cl x=[]:=Cb.mp (by rw[zb1];exact h);rw[e1];rfl
 .exact zjh (k:=1) h
theorem zc3(x:Str)(c:Nat):DU x ⟨#[c]⟩=true ↔ (cl x).head?=some c:=by
 unfold DU
 rw[Bo,decide_eq_true_eq];have:=StrLaws.subAt_one x c 0;rw[this];exact⟨λh=>by rw[List.head?_eq_getElem?];exact h,λh=>by rw[List.head?_eq_getElem?]at h;exact h⟩
noncomputable def digB(c:Nat):Bool:=decide (48<=c) && decide (c<=57)
theorem zny (c:Nat):decide (c∈cl (Aa "0123456789"))=digB c:=by
 have e:cl (Aa "0123456789")=[48,49,50,51,52,53,54,55,56,57]:=by decide +kernel
 rw[e];unfold digB;rw[<- Bool.decide_and];refine decide_eq_decide.mpr ?_
 simp only[AI,Cw,or_false];have far:∀c<58,48<=c->(c=48∨c=49∨c=50∨c=51∨c=52∨c=53∨c=54∨c=55∨c=56∨c=57):=by decide
 exact⟨λh=>by rcases h with rfl |rfl |rfl |rfl |rfl |rfl |rfl |rfl |rfl |rfl <;> exact⟨by decide,by decide⟩,λh=>far c (Nat.lt_succ_of_le h.2) h.1⟩
theorem zgu{l:List Nat}:l.all digB=true ↔ BW l:=by rw[List.all_eq_true];unfold BW digB;exact⟨λh c hc=>by have:=h c hc;simpa using this,λh c hc=>by have:=h c hc;simpa using this⟩
noncomputable def figOf(l:List Nat):List Nat:=if l.head?=some 45 then l.drop 1 else l
noncomputable def zd0(l:List Nat):Bool:=!(figOf l).isEmpty && ((figOf l).all digB && (decide ((figOf l).length<=30) && (decide (l=[48]) ||decide ((figOf l).head?≠some 48))))
noncomputable def zbL(l:List Nat):Int:=if l.head?=some 45 then -((Bd (l.drop 1):Nat):Int) else ((Bd l:Nat):Int)
theorem zhh{x:Str}(h0:figOf (cl x)≠[])(hd:BW (figOf (cl x)))(hl:(figOf (cl x)).length<=30):intText? x=some (zbL (cl x))/\x.length<=640:=by
 unfold figOf at h0 hd hl;unfold zbL;have hxl:=zb1 x
 by_cases hh:(cl x).head?=some 45
 .rw[if_pos hh]at h0 hd hl ⊢
  obtain⟨cs,hcs⟩:∃cs,cl x=45::cs:=by
   cases q:cl x with
   |nil=>rw[q]at hh;cases hh
   |cons c cs=>rw[q]at hh;cases hh;exact⟨cs,rfl⟩
  rw[hcs]at h0 hd hl hxl ⊢;simp only[List.drop_succ_cons,Dr,A9]at h0 hd hl hxl ⊢;exact⟨intText_neg hcs hd h0 (by lia),by lia⟩
 .rw[if_neg hh]at h0 hd hl ⊢;exact⟨intText_digits hd h0 (by lia),by lia⟩
theorem zm0(n:Nat):cl (Aa (Bg (n:Int)))=(Nat.toDigits 10 n).map Char.toNat:=by
 show (Aa (Bg (n:Int))).cps.toList=_;rw[signs_ofString]
 congr 1
 show (Nat.repr n).toList=_;unfold Nat.repr;simp
theorem zjE{l:List Nat}(h:BW l):(l.map Char.ofNat).map Char.toNat=l:=by
 rw[List.map_map];refine (List.map_congr_left λc hc=>?_).trans (List.map_id l);obtain⟨h1,h2⟩:=h c hc;have:c=48∨c=49∨c=50∨c=51∨c=52∨c=53∨c=54∨c=55∨c=56∨c=57:=by lia
 rcases this with rfl |rfl |rfl |rfl |rfl |rfl |rfl |rfl |rfl |rfl <;> rfl
theorem zjP:∀(n:Nat) (l:List Nat),l.length=n->BW l->Bd l<10 ^ n:=by
 intro n
 induction n with
 |zero=>intro l hl _;rw[Cb.mp hl];decide
 |succ n ih =>
  intro l hl hd;obtain⟨r,c,rfl⟩:∃r c,l=r++[c]:=⟨l.dropLast,l.getLast (by intro z;rw[z]at hl;cases hl),(List.dropLast_concat_getLast _).symm⟩;rw[NumText.digitsVal_snoc];rw[Am,C5]at hl;have:=ih r (by lia) (λd hm=>hd d (Bt _ hm));have:=hd c (At _ (List.mem_singleton_self c));rw[Nat.pow_succ];lia
theorem zb2{l:List Nat}(h0:l≠[])(hd:BW l):cl (Aa (Bg ((Bd l:Nat):Int)))=l ↔ l=[48]∨l.head?≠some 48:=by
 obtain⟨c,r,rfl⟩:∃c r,l=c::r:=by cases l with |nil=>exact absurd rfl h0 |cons c r=>exact⟨c,r,rfl⟩
 have hc:=hd c (.head _);constructor
 .intro h
  by_cases hz:c=48
  .subst hz
   cases r with
   |nil=>exact .inl rfl
   |cons d t =>
    exfalso;have hv:=zjP _ (d::t) rfl (λx hx=>hd x (.tail _ hx));rw[NumText.digitsVal_zero]at h;have hle:=toString_length_le (v:=((Bd (d::t):Nat):Int)) (by lia) (k:=(d::t).length) (Nat.succ_pos _) (by exact_mod_cast hv);have:=congrArg Ez h;rw[zb1]at this;rw[this]at hle;simp only[A9]at hle;lia
  .right;intro z
   cases z
   exact hz rfl
 .intro h
  have hh:r.length=0∨∃c' r',c::r=c'::r'/\49<=c':=by
   rcases h with h |h
   .cases h;exact .inl rfl
   .refine .inr ⟨c,r,rfl,?_⟩;have:c≠48:=λz=>h (by rw[z];rfl)
    lia
  rw[zm0,NumText.toDigits_digitsVal r.length (c::r) rfl hd hh,zjE hd]
theorem zjL{x:Str}(h0:figOf (cl x)≠[])(hd:BW (figOf (cl x))):Aa (Bg (zbL (cl x)))=x ↔ cl x=[48]∨(figOf (cl x)).head?≠some 48:=by
 rw[show (Aa (Bg (zbL (cl x)))=x ↔ cl (Aa (Bg (zbL (cl x))))=cl x) from ⟨λz=>by rw[z],zcl⟩];unfold figOf at h0 hd ⊢;unfold zbL
 by_cases hh:(cl x).head?=some 45
 .rw[if_pos hh]at h0 hd ⊢;rw[if_pos hh]
  obtain⟨cs,hcs⟩:∃cs,cl x=45::cs:=by
   cases q:cl x with
   |nil=>rw[q]at hh;cases hh
   |cons c cs=>rw[q]at hh;cases hh;exact⟨cs,rfl⟩
  rw[hcs]at h0 hd ⊢;simp only[List.drop_succ_cons,Dr]at h0 hd ⊢;have hw:=zb2 h0 hd;rcases Dv (Bd cs) with z |z
  .-- all noughts
   rw[z];constructor
   .intro h;have e:cl (Aa (Bg (-((0:Nat):Int))))=[48]:=by decide +kernel
    rw[e]at h
    cases h
   .rintro (h |h)
    .cases h
    .exfalso;obtain⟨c,r,rfl⟩:∃c r,cs=c::r:=by cases cs with |nil=>exact absurd rfl h0 |cons c r=>exact⟨c,r,rfl⟩
     have hc:=hd c (.head _);have:c≠48:=λq=>h (by rw[q];rfl)
     have:=NumText.digitsVal_pos (c:=c) (cs:=r) (by lia);lia
  .have e:cl (Aa (Bg (-((Bd cs:Nat):Int))))=45 :: cl (Aa (Bg ((Bd cs:Nat):Int))) := by
    have hn:-((Bd cs:Nat):Int)<0:=by lia
    rw[toString_neg hn,show (0:Int) - -((Bd cs:Nat):Int)=((Bd cs:Nat):Int) by lia];show (Aa ("-" ++ _)).cps.toList=45::(Aa _).cps.toList;rw[signs_ofString,signs_ofString,String.toList_append,Aq];rfl
   rw[e,List.cons_inj_right,hw];constructor
   .rintro (h |h)
    .subst h;exact absurd z (by decide)
    .exact .inr h
   .rintro (h |h)
    .cases h
    .exact .inr h
 .rw[if_neg hh]at h0 hd ⊢;rw[if_neg hh];exact zb2 h0 hd
end RP
namespace L2
open PySem PyProof.Rows
section
variable {X:Cx}
noncomputable def rPart:V->List V->Hp->VK->Prop:=λx vs H Q=>∃a b,x=.str a/\vs=[.str b]/\(b.length == 0)=false/\a.length<=sizeLine/\∀p,H p=none->Q (.ref p) (upd H p (.tup [.str (Cd a b).1,.str (Cd a b).2.1,.str (Cd a b).2.2]))
theorem zg6:MtR X "str.partition" rPart:=by
 intro pins s σ H x vs v us Q I rx rv h;obtain⟨a,b,rfl,rfl,hb,hz,q⟩:=h;obtain⟨t,rfl⟩:=rx;obtain⟨u,rfl,t',rfl⟩:=vals1 rv;have q:=q s.heap.objs.size (I.hok.fresh (Ai _))
 have put:∀(v1 v2 v3:Value) (tk:Nat) (y1 y2 y3:Str),RelV (.str y1) v1->RelV (.str y2) v2->RelV (.str y3) v3->EP X pins σ (λv H'=>v=V.ref s.heap.objs.size/\H'=upd H s.heap.objs.size (.tup [.str y1,.str y2,.str y3])) (.ref s.heap.objs.size) { s with heap:=s.heap.push { cls:=.type "tuple",data:=.seq #[v1,v2,v3] },toks:=tk }:=λv1 v2 v3 tk y1 y2 y3 r1 r2 r3=>by refine⟨.ref _,_,I.laid (t':=tk) (o:=.tup [.str y1,.str y2,.str y3]) (λb ob q=>Ah _ q) (Ai _) ?_,rfl,rfl,rfl⟩;exact⟨by show 3<=sizeLine;decide,_,.cons r1 (.cons r2 (.cons r3 .nil)),IsTup.new _ _⟩
 refine Cg F.slot_str_partition (Er s a t) F.entry_str_partition (F.args_str_partition_2 _ _) (meets_str_partition a b t t' hb hz) ?_
 unfold Cd at q;revert q
 cases Ca a b 0 a.length 1 with
 |nil =>
  intro q;obtain⟨y,H',I',r,rfl,rfl⟩:=put (.str a t) (.str Str.empty s.toks) (.str Str.empty s.toks) (s.toks+1) a Str.empty Str.empty ⟨_,rfl⟩ ⟨_,rfl⟩ ⟨_,rfl⟩;exact⟨_,_,I',r,q⟩
 |cons i r =>
  intro q;obtain⟨y,H',I',r,rfl,rfl⟩:=put (.str (Builtin.Str.strSub a 0 i) s.toks) (.str b t') (.str (Builtin.Str.strSub a (i+b.length) a.length) (s.toks+1)) (s.toks+1+1) _ _ _ ⟨_,rfl⟩ ⟨_,rfl⟩ ⟨_,rfl⟩;exact⟨_,_,I',r,q⟩
end
end L2
namespace RP
open PySem PyProof.Rows L2
theorem zkx{x:Str}{c:Nat}(h:c ∉ cl x):Cd x ⟨#[c]⟩=(x,Str.empty,Str.empty):=by
 rcases partition_whole x ⟨#[c]⟩ with⟨e,_⟩ |⟨i,_,hi,_⟩
 .exact e
 .exact absurd ((mem_iff_at x c).mpr ⟨i,hi⟩) h
theorem zmP(x:Str)(i j:Nat):cl (Builtin.Str.strSub x i j)=((cl x).take j).drop i:=by show (x.cps.extract i j).toList=_;rw[CI,BZ,List.drop_take]
theorem znl{x:Str}{c:Nat}{l r:List Nat}(e:cl x=l++c::r)(h:c ∉ l):cl (Cd x ⟨#[c]⟩).1=l/\(Cd x ⟨#[c]⟩).2.1=⟨#[c]⟩/\cl (Cd x ⟨#[c]⟩).2.2=r:=by
 have hl:(cl x)[l.length]?=some c:=by rw[e,Ar (Ai _),Nat.sub_self];rfl
 rcases partition_whole x ⟨#[c]⟩ with⟨_,hn⟩ |⟨i,hp,hi,hk⟩
 .exact absurd ((StrLaws.subAt_one x c _).mpr hl) (hn _)
 .have hic:=(StrLaws.subAt_one x c i).mp hi
  have hil:i=l.length:=by
   rcases Nat.lt_trichotomy i l.length with q |q |q
   .have hic:(cl x)[i]?=some c:=hic;rw[e,Aj q]at hic;exact absurd (An hic) h
   .exact q
   .exact absurd ((StrLaws.subAt_one x c _).mpr hl) (hk _ q)
  have hlen:(⟨#[c]⟩:Str).length=1:=rfl;rw[hp,zmP,zmP,hil,hlen,<- zb1,e];refine⟨by simp,rfl,?_⟩;rw[AL];simp
end RP
namespace L2
open PySem PySem.Spec PyProof.Rows
section
variable {X:Cx}{pins:List (Addr×Obj)}{σ:St}{H:Hp}{s:Af}
end
section
variable {X:Cx}{pins:List (Addr×Obj)}{σ:St}{H:Hp}{s:Af}
noncomputable def zly (ti:TE):TE:=λσ H Q=>ti σ H λy H1=>∃x:Str,y=.str x/\Q (.bl (decide (x = "rim") ||decide (x = "hole"))) H1
theorem zjn {i:Expr}{ti:TE}{p:Pos}(hg:Gl X "BEGIN_WAYS") (hw:Ways X.prog X.w X.K X.mg) (hsy:∀B,X.mg "BEGIN_WAYS" = some (.ref B)->(B == PySem.sysModules)=false) (hi:PE X i ti):PC X .In i (.Name "BEGIN_WAYS" p) (zly ti):=by
 intro pins s σ H Q I h;obtain⟨B,t1,t2,t3,t4,n,hm,hl⟩:=hw.ex;refine thn (hi pins s σ H _ I h) λiv s1 ⟨y,H1,I1,ry,hy⟩=>thn ((zbA (v:=.ref B) hg hm rfl:PE X (.Name "BEGIN_WAYS" p) _) pins s1 σ H1 (λv H2=>v=V.ref B/\H2=H1) I1 ⟨rfl,rfl⟩) λu s2 ⟨x,H2,I2,rx,q2⟩=>?_
 obtain⟨rfl,rfl⟩:=q2;obtain rfl:u=Au B:=rx;obtain⟨z,rfl,q⟩:=hy;have ho:s2.heap.get? B=some _:=I2.kIn B _ hl
 have mo:s2.heap.MapOf (zaD X.prog X.w) B (PySem.findBy (zaD X.prog X.w).is #[⟨Bc X.w.params "rim",.str "rim" t1,.int 0 t2⟩,⟨Bc X.w.params "hole",.str "hole" t3,.int 2 t4⟩]) :=
  ⟨_,_,_,ho,⟨rfl,rfl,rfl⟩,rfl,λe he=>by
   simp only[List.mem_toArray,AI,Cw,or_false]at he;rcases he with rfl |rfl
   .exact⟨.inr "rim",zaN _ _ _ _,rfl⟩
   .exact⟨.inr "hole",zaN _ _ _ _,rfl⟩,λ_=>rfl⟩
 refine wpAny_in_of (kV_is (k:=.inr z) ry) (hsy B hm) mo ⟨.bl (decide (z = "rim") ||decide (z = "hole")),_,I2.tok _,?_,q⟩;show Eo _=Eo _
 congr 1
 have e1:∀(y:Str) (t:Tok),(zaD X.prog X.w).is (.inr z) (.str y t)=decide (z=y):=λy t=>by
  by_cases hzy:z=y
  .subst hzy;rw[zaN,decide_eq_true rfl]
  .rw[decide_eq_false hzy,zjx];exact Cm.mpr λh=>hzy (by obtain⟨t',e⟩:=Value.isStrOf_shape (x:=z) (v:=.str y t) h;injection e with e1 e2;exact e1.symm)
 unfold PySem.findBy;rw[Option.isSome_map,List.find?_toArray,CN,e1]
 cases h1:decide (z=(Aa "rim")) with
 |true=>rfl
 |false =>
  simp only[CN,e1,List.find?_nil,Bool.false_or]
  cases h2:decide (z=(Aa "hole")) <;> rfl
end
end L2
namespace RP
open PySem PyProof.Rows L2
theorem digs(n:Nat):∃ds:List Nat,BW ds/\ds≠[]/\Bd ds=n/\(ds=[48]∨ds.head?≠some 48)/\cl (Aa (Bg (n:Int)))=ds:=by
 have key:∃ds:List Nat,BW ds/\ds≠[]/\Bd ds=n/\(ds=[48]∨ds.head?≠some 48):=by
  induction n using Nat.strongRecOn with
  |_ n ih =>
   by_cases h:n<10
   .refine⟨[48+n],λd hd=>?_,(λz=>nomatch z),?_,?_⟩
    .rw[Ao.mp hd];lia
    .rw[show [48+n]=[]++[48+n] from rfl,NumText.digitsVal_snoc];show 0*10+(48+n-48)=n;lia
    .by_cases z:n=0
     .subst z;exact .inl rfl
     .exact .inr λq=>by injection q with q;lia
   .obtain⟨ds,h1,h2,h3,h4⟩:=ih (n / 10) (by lia);refine⟨ds++[48+n % 10],λd hd=>?_,by simp,?_,.inr ?_⟩
    .rcases Az.mp hd with hd |hd
     .exact h1 d hd
     .rw[Ao.mp hd];lia
    .rw[NumText.digitsVal_snoc,h3];lia
    .obtain⟨d,r,rfl⟩:∃d r,ds=d::r:=by cases ds with |nil=>exact absurd rfl h2 |cons d r=>exact⟨d,r,rfl⟩
     show (d::r).head?≠some 48;rcases h4 with h4 |h4
     .rw[h4]at h3;have:Bd [48]=0:=by decide
      lia
     .exact h4
 obtain⟨ds,h1,h2,h3,h4⟩:=key;exact⟨ds,h1,h2,h3,h4,by rw[<- h3];exact (zb2 h2 h1).mpr h4⟩
theorem zk6{x:Int}:∃ds:List Nat,BW ds/\ds≠[]/\(ds=[48]∨ds.head?≠some 48)/\Bd ds=x.natAbs/\cl (Aa (Bg x))=(if x<0 then [45] else [])++ds:=by
 obtain⟨ds,h1,h2,h3,h4,h5⟩:=digs x.natAbs;refine⟨ds,h1,h2,h4,h3,?_⟩
 by_cases h:x<0
 .rw[if_pos h]
  have e:Aa (Bg x)=Aa ("-" ++ Bg ((x.natAbs:Nat):Int)):=by rw[toString_neg (show x<0 by lia),show 0-x=((x.natAbs:Nat):Int) by lia]
  rw[e,<- h5];show (Aa _).cps.toList=_;rw[signs_ofString,String.toList_append,Aq];show _=[45]++(Aa _).cps.toList;rw[signs_ofString];rfl
 .rw[if_neg h,<- h5,show ((x.natAbs:Nat):Int)=x by lia];rfl
theorem zeh{x:Int}(h:x.natAbs<10 ^ 30):zd0 (cl (Aa (Bg x)))=true/\zbL (cl (Aa (Bg x)))=x:=by
 obtain⟨ds,h1,h2,h4,h3,h5⟩:=zk6 (x:=x)
 have hlen:ds.length<=30:=by
  have:=toString_length_le (v:=((x.natAbs:Nat):Int)) (by lia) (k:=30) (by decide) (by exact_mod_cast h);rw[<- zb1]at this;obtain⟨ds',k1,k2,k3,k4,k5⟩:=digs x.natAbs
  have e:cl (Aa (Bg ((x.natAbs:Nat):Int)))=ds:=by rw[<- h3];exact (zb2 h2 h1).mpr h4
  rw[e]at this;exact this
 obtain⟨c,r,rfl⟩:∃c r,ds=c::r:=by cases ds with |nil=>exact absurd rfl h2 |cons c r=>exact⟨c,r,rfl⟩
 have hc:=h1 c (.head _);have hall:=zgu.mpr h1;rw[h5]
 by_cases hx:x<0
 .rw[if_pos hx];have hf:figOf ([45]++c::r)=c::r:=rfl
  have hne:c≠48:=by
   rcases h4 with h4 |h4
   .cases h4
    have:Bd [48]=0:=by decide
    lia
   .exact λz=>h4 (by rw[z];rfl)
  refine⟨?_,?_⟩
  .unfold zd0;rw[hf,hall,decide_eq_true hlen];have:decide ((c::r).head?≠some 48)=true:=decide_eq_true λz=>hne (by injection z)
   rw[this];simp
  .unfold zbL;show (if (some 45:Option Nat)=some 45 then -((Bd (c::r):Nat):Int) else _)=x;rw[if_pos rfl];show -((Bd (c::r):Nat):Int)=x;lia
 .rw[if_neg hx,Ek];have h45:¬ (c::r).head?=some 45:=λz=>by injection z with z;lia
  have hf:figOf (c::r)=c::r:=by unfold figOf;rw[if_neg h45]
  refine⟨?_,?_⟩
  .unfold zd0;rw[hf,hall,decide_eq_true hlen]
   have:(decide (c::r=[48]) ||decide ((c::r).head?≠some 48))=true:=by
    rcases h4 with h4 |h4
    .rw[decide_eq_true h4];rfl
    .rw[decide_eq_true h4,Bool.or_true]
   rw[this];simp
  .unfold zbL;rw[if_neg h45];lia
theorem zg5{x:Int}{c:Nat}(h:c∈cl (Aa (Bg x))):c=45∨(48<=c/\c<=57):=by
 obtain⟨ds,h1,h2,h4,h3,h5⟩:=zk6 (x:=x);rw[h5]at h;rcases Az.mp h with h |h
 .split at h
  .exact .inl (Ao.mp h)
  .cases h
 .exact .inr (h1 c h)
noncomputable def ic(c:Nat):List (List Nat)->List Nat
 |[]=>[]
 |[a]=>a
 |a::b::r=>a++c::ic c (b::r)
theorem zlp{c:Nat}:∀{a b x y:List Nat},c ∉ a->c ∉ b->a++c::x=b++c::y->a=b/\x=y
 |[],[],x,y,_,_,h=>⟨rfl,by injection h⟩
 |[],d::b,x,y,_,hb,h=>by injection h with h;exact absurd (by rw[h];exact .head _) hb
 |d::a,[],x,y,ha,_,h=>by injection h with h;exact absurd (by rw[h];exact .head _) ha
 |d::a,e::b,x,y,ha,hb,h=>by
  injection h with h1 h2;obtain⟨k1,k2⟩:=zlp (λm=>ha (.tail _ m)) (λm=>hb (.tail _ m)) h2;exact⟨by rw[h1,k1],k2⟩
theorem zmJ{c:Nat}:∀{as bs:List (List Nat)},as≠[]->bs≠[]->(∀a∈as,c ∉ a)->(∀b∈bs,c ∉ b)->ic c as=ic c bs->as=bs
 |[],_,h,_,_,_,_=>absurd rfl h
 |_,[],_,h,_,_,_=>absurd rfl h
 |[a],[b],_,_,_,_,h=>by rw[show a=b from h]
 |[a],b::d::r,_,_,ha,_,h=>by
  refine absurd ?_ (ha a (.head _))
  rw[show a=b++c::ic c (d::r) from h];simp
 |a::d::r,[b],_,_,_,hb,h=>by
  refine absurd ?_ (hb b (.head _))
  rw[<- show a++c::ic c (d::r)=b from h];simp
 |a::d::r,b::e::s,_,_,ha,hb,h=>by
  obtain⟨h1,h2⟩:=zlp (ha a (.head _)) (hb b (.head _)) (show a++c::ic c (d::r)=b++c::ic c (e::s) from h);rw[h1,zmJ (as:=d::r) (bs:=e::s) (λz=>by cases z) (λz=>by cases z) (λx hx=>ha x (.tail _ hx)) (λx hx=>hb x (.tail _ hx)) h2]
theorem zh6(c:Nat):∀ys:List Str,cl (Cc ⟨#[c]⟩ ys)=ic c (ys.map cl)
 |[]=>rfl
 |[y]=>rfl
 |y::z::r=>by
  rw[show Cc ⟨#[c]⟩ (y::z::r)=y++⟨#[c]⟩++Cc ⟨#[c]⟩ (z::r) from rfl,zcm,zcm,zh6 c (z::r)];show cl y++[c]++_=cl y++c::_;rw[AB];rfl
theorem zmG:∀{a b:List Str},a.map cl=b.map cl->a=b
 |[],[],_=>rfl
 |[],_::_,h=>by cases h
 |_::_,[],h=>by cases h
 |x::a,y::b,h=>by
  injection h with h1 h2;rw[zcl h1,zmG h2]
theorem zcg{c:Nat}{ys:List Str}(h0:ys≠[])(h:∀y∈ys,c ∉ cl y):Cy (Cc ⟨#[c]⟩ ys) ⟨#[c]⟩=ys:=by
 have e:=congrArg cl (StrLaws.join_split (Cc ⟨#[c]⟩ ys) ⟨#[c]⟩);rw[zh6,zh6]at e;have hs:=StrLaws.split_free (Cc ⟨#[c]⟩ ys) c
 have hn:Cy (Cc ⟨#[c]⟩ ys) ⟨#[c]⟩≠[]:=λz=>by have:=split_pos (Cc ⟨#[c]⟩ ys) ⟨#[c]⟩;rw[z]at this;cases this
 have:=zmJ (λz=>hn (D6.mp z)) (λz=>h0 (D6.mp z)) (λa ha=>by obtain⟨p,hp,rfl⟩:=AG.mp ha;exact hs p hp) (λa ha=>by obtain⟨p,hp,rfl⟩:=AG.mp ha;exact h p hp) e;exact zmG this
theorem zlZ{c:Nat}{ys zs:List Str}(hy:ys≠[])(hz:zs≠[])(h:∀y∈ys,c ∉ cl y)(k:∀y∈zs,c ∉ cl y)(e:Cc ⟨#[c]⟩ ys=Cc ⟨#[c]⟩ zs):ys=zs:=by rw[<- zcg hy h,e,zcg hz k]
end RP
namespace HT
open PySem PyProof.Rows PySem.Spec
theorem len_rep2{α:Type}(x y:α):∀k:Nat,(Ac k [x,y]).flatten.length=2*k
 | 0=>rfl
 |k+1=>by rw[Bh,Bi,Am,len_rep2 x y k];show 2+2*k=_;lia
theorem zhI(t:Tok)(l:Addr)(x y:Value)(n:Nat)(dd:Option Addr)(sl:Array (Option Value)) :
  Meets (Builtin.«tuple.__mul__» ⟨[.ref l,.int 1 t],[]⟩) (λ_ R s=>s.heap.get? l=some { cls:=.type "tuple",dict:=dd,data:=.seq #[x,y] n,slots:=sl }/\R (.ok (.ret (.ref l))) s) :=
 .of_wp λprog w A R s h=>by obtain⟨hp,g,d,tk,os⟩:=s;obtain⟨hl,h⟩:=h;have f1:=AutoSeq1.idx_int;have f2:=CA;wp_walk using BP hl;exact⟨_,rfl,h⟩
theorem zhH(k:Nat)(t:Tok)(l:Addr)(x y:Value)(n:Nat)(dd:Option Addr)(sl:Array (Option Value))(h2 : 2 <= k)(hk:k <= 1000)(hsz:((Ac (Int.toNat (k:Int)) #[x, y]).foldl (· ++ ·) #[]).size <= sizeLine) :
  Meets (Builtin.«tuple.__mul__» ⟨[.ref l,.int (k:Int) t],[]⟩) (λ_ R s=>s.heap.get? l=some { cls:=.type "tuple",dict:=dd,data:=.seq #[x,y] n,slots:=sl }/\R (.ok (.ret (.ref s.heap.objs.size))) { s with heap:=s.heap.push { cls:=.type "tuple",data:=.seq ((Ac (Int.toNat (k:Int)) #[x,y]).foldl (·++·) #[]) } }) :=
 .of_wp λprog w A R s h=>by
  obtain⟨hp,g,d,tk,os⟩:=s;obtain⟨hl,h⟩:=h;have f1:=AutoSeq1.idx_int;have f2:=CA;have hc0:¬ (decide ((k:Int) < -2 ^ 63) ||decide ((k:Int) ≥ 2 ^ 63))=true:=by simp;lia
  have hc1:¬ ((#[x,y]:Array Value).isEmpty || (k:Int) == 1)=true:=by simp;lia
  have hc2:¬ (decide ((k:Int)<=0) || (#[x,y]:Array Value).isEmpty)=true:=by simp;lia
  have hc3:¬ (((#[x,y]:Array Value).size:Int)*(k:Int) > (2 ^ 63-1) / 8):=by simp;lia
  have hc4:¬ C1 (((#[x,y]:Array Value).size:Int)*(k:Int))=true:=by
   unfold C1;have:(2000:Int)<=(sizeLine:Int):=by decide
   simp;lia
  wp_walk using BP hl
  rw[if_neg hc0]
  wp_walk using BP hl
  rw[if_neg hc1]
  (try dsimp only)
  rw[if_neg hc2]
  (try dsimp only)
  rw[if_neg hc3]
  (try dsimp only)
  rw[if_neg hc4];refine Ad (m:=B7 _) (BG (Ak ?_) hsz);exact⟨_,rfl,h⟩
theorem zhi(x y:Value):∀(k:Nat) (acc:List Value),((Ac k #[x,y]).foldl (·++·) acc.toArray)=(acc++(Ac k [x,y]).flatten).toArray
 | 0,acc=>by simp
 |k+1,acc=>by
  rw[Bh,List.foldl_cons];have:acc.toArray++#[x,y]=(acc++[x,y]).toArray:=by simp
  rw[this,zhi x y k (acc++[x,y]),Bh,Bi,AB]
theorem rep_tupb{prog:AF}{w:A7}{A:AS}{E:Value -> Af -> Prop}{s:Af}{l:Addr}{x y:Value}{k:Nat}{t:Tok}{Q:Value -> Af -> Prop}(hl:IsTup s.heap l #[x, y])(h1 : 1 <= k)(hk:k <= 1000)
  (q1:k=1->Q (.ref l) s) (q2:2<=k->Q (.ref s.heap.objs.size) { s with heap:=s.heap.push { cls:=.type "tuple",data:=.seq (Ac k [x,y]).flatten.toArray } }):Aw (AE prog w) A (CO .Mult (.ref l) (.int (k:Int) t)) Q E s:=by
 obtain⟨⟨cls,dd,data,sl⟩,ho,hc,n,hd⟩:=id hl;simp only at hc hd;subst hc hd
 refine D0 (T:="tuple") (U:="int") (by decide) ⟨_,ho,rfl⟩ (λs'=>typeIs_int s' k t) zcE F.fills_int_mul DB zdY EC.lookup
  (Cg DB (typeIs_int s k t) F.entry_int_rmul (F.args_int_rmul_2 _ _) (zdb k t l #[x,y] n dd sl) ⟨ho,rfl,⟨_,ho,rfl⟩,?_⟩)
 by_cases hk1:k=1
 .subst hk1;exact Cg F.slot_tuple_mul ⟨_,ho,rfl⟩ F.entry_tuple_mul (Eu _ _) (zhI t l x y n dd sl) ⟨ho,q1 rfl⟩
 .have e:(Ac (Int.toNat (k:Int)) #[x, y]).foldl (· ++ ·) #[]=(Ac k [x, y]).flatten.toArray := by rw[BV];have:=zhi x y k [];rw[Ek]at this;exact this
  refine Cg F.slot_tuple_mul ⟨_,ho,rfl⟩ F.entry_tuple_mul (Eu _ _) (zhH k t l x y n dd sl (by lia) hk ?_) ⟨ho,?_⟩
  .rw[e,As,len_rep2];exact AV (Nat.mul_le_mul_left 2 hk) (by decide)
  .rw[e];exact q2 (by lia)
end HT
namespace L2
open PySem PySem.Spec PyProof.Rows
section
variable {X:Cx}{K:W.Frag}
noncomputable def zmx(K:W.Frag):R2:=λx y H Q=>∃a k v u,x=.ref a/\y=.int ((k:Nat):Int)/\SqT K H a [v,u]/\1<=k/\k<=1000/\(k=1->Q (.ref a) H)/\(2<=k->∀p,H p=none->Q (.ref p) (upd H p (.tup (Ac k [v,u]).flatten)))
theorem Vals.repl2{v u:V}{x y:Value}(r:RelV v x)(q:RelV u y):∀k:Nat,Vals (Ac k [v,u]).flatten (Ac k [x,y]).flatten
 | 0=>.nil
 |k+1=>by rw[Bh,Bh,Bi,Bi];exact .cons r (.cons q (Vals.repl2 r q k))
theorem ziJ:OpR X (CO .Mult) (zmx X.K):=by
 intro pins s σ H x y v u Q I rx ry h;obtain⟨a,k,w,w2,rfl,rfl,ha,h1,hk,q1,q2⟩:=h
 cases rx
 obtain⟨t,rfl⟩:=ry;obtain⟨its,r,p1,_⟩:=I.tuple ha
 cases r with
 |cons rw r =>
 cases r with
 |cons rw2 r =>
 cases r with
 |nil =>
 refine HT.rep_tupb p1 h1 hk (λz=>⟨.ref a,H,I,rfl,q1 z⟩) λz=>?_
 refine⟨.ref s.heap.objs.size,_,I.laid (t':=s.toks) (o:=.tup (Ac k [w,w2]).flatten) (λb ob q=>Ah _ q) (Ai _) ?_,rfl,q2 z _ (I.hok.fresh (Ai _))⟩;exact⟨by rw[HT.len_rep2];exact AV (Nat.mul_le_mul_left 2 hk) (by decide),_,Vals.repl2 rw rw2 k,IsTup.new _ _⟩
end
section
variable {X:Cx}{e:Expr}{es:List Expr}{t:TA}{tv:TE}{pos p:Pos}{x x1 x2 x3:Str}{k1 k2 k3 j:Nat}{q1 q2 q3:List Str}{s1 s2 s3:Sp}
theorem zkv(g1:Fn X.prog X.w X.K X.mg X.base k1 x1 q1 s1)(g2:Fn X.prog X.w X.K X.mg X.base k2 x2 q2 s2)(g3:Fn X.prog X.w X.K X.mg X.base k3 x3 q3 s3)(hr:Room j X.A)(hv:PE X (.Name x p) tv)(ha:PA X (e :: es) t)(h1:k1 <= j := by decide)(h2:k2 <= j := by decide)(h3:k3 <= j := by decide)
  (he:Bw (e::es) X.env=(false,eval e X.env)::Bw es X.env:=by rfl) (hpl:(backTo pos (Bw es X.env)).any (·.1)=false:=by rfl) :
  PE X (.Call (.Name x p) (e::es) [] pos) (λσ H Q=>tv σ H λv H1=>(v=.ref g1.f/\tCall s1 [] E0 t σ H1 Q)∨(v=.ref g2.f/\tCall s2 [] E0 t σ H1 Q)∨(v=.ref g3.f/\tCall s3 [] E0 t σ H1 Q)):=by
 intro pins s σ H Q I h;refine Cs (thn (hv pins s σ H _ I h) λu sa ⟨v,H1,I1,r1,ev⟩=>?_);rcases ev with⟨ev,qa⟩ |⟨ev,qa⟩ |⟨ev,qa⟩
 .subst ev
  cases (show u=Au g1.f from r1)
  refine W.callWith_K (h₀:=X.base) I1.ok.mod.kin g1.kp (thn (ha pos pins sa σ H1 _ I1 qa) λus sb ⟨vs,H2,I2,r,q⟩=>⟨I2.kIn,?_⟩) he hpl;exact ziA g1.ok (hr.mono h1) g1.b .nil pass0 I2 r q
 .subst ev
  cases (show u=Au g2.f from r1)
  refine W.callWith_K (h₀:=X.base) I1.ok.mod.kin g2.kp (thn (ha pos pins sa σ H1 _ I1 qa) λus sb ⟨vs,H2,I2,r,q⟩=>⟨I2.kIn,?_⟩) he hpl;exact ziA g2.ok (hr.mono h2) g2.b .nil pass0 I2 r q
 .subst ev
  cases (show u=Au g3.f from r1)
  refine W.callWith_K (h₀:=X.base) I1.ok.mod.kin g3.kp (thn (ha pos pins sa σ H1 _ I1 qa) λus sb ⟨vs,H2,I2,r,q⟩=>⟨I2.kIn,?_⟩) he hpl;exact ziA g3.ok (hr.mono h3) g3.b .nil pass0 I2 r q
end
end L2
namespace RP
theorem zh3{cs:List Cell}{e:Edge}(h:IsE (isIn cs) e):e.w<4/\e.c∈cs/\(e.w=0->(e.c.1,e.c.2-1) ∉ cs)/\(e.w=1->(e.c.1+1,e.c.2) ∉ cs)/\(e.w=2->(e.c.1,e.c.2+1) ∉ cs)/\(e.w=3->(e.c.1-1,e.c.2) ∉ cs):=by
 obtain⟨h1,h2,h3⟩:=h
 have no:∀c:Cell,gap e=c->c ∉ cs:=λc q z=>by rw[q]at h3;exact absurd (decide_eq_true z) (by rw[show decide (c∈cs)=false from h3];simp)
 refine⟨h1,of_decide_eq_true h2,λw=>no _ ?_,λw=>no _ ?_,λw=>no _ ?_,λw=>no _ ?_⟩
 .unfold gap;rw[w];exact Eb (show e.c.1+0=e.c.1 by lia) (show e.c.2+-1=e.c.2-1 by lia)
 .unfold gap;rw[w];exact Eb (show e.c.1+1=e.c.1+1 by lia) (show e.c.2+0=e.c.2 by lia)
 .unfold gap;rw[w];exact Eb (show e.c.1+0=e.c.1 by lia) (show e.c.2+1=e.c.2+1 by lia)
 .unfold gap;rw[w];exact Eb (show e.c.1+-1=e.c.1-1 by lia) (show e.c.2+0=e.c.2 by lia)
noncomputable def tri(w m n:Nat):List (Nat×Nat×Nat):=(Bq m).flatMap λa=>(Bq n).map λb=>(w,a,b)
noncomputable def tris:List (Nat×Nat×Nat):=tri 0 12 5++tri 2 12 5++(tri 1 10 6++tri 3 10 6)
theorem zgh{w m n a b:Nat}(h1:a<m)(h2:b<n):(w,a,b)∈tri w m n:=List.mem_flatMap.mpr ⟨a,Ce.mpr h1,AG.mpr ⟨b,Ce.mpr h2,rfl⟩⟩
noncomputable def code(x0 y0:Int)(e:Edge):Nat×Nat×Nat:=if e.w=0∨e.w=2 then (e.w,(e.c.1-x0).toNat,(e.c.2-y0).toNat / 2) else (e.w,(e.c.2-y0).toNat,(e.c.1-x0).toNat / 2)
theorem zmO(x0 y0:Int)(e:Edge):(code x0 y0 e).1=e.w:=by unfold code;split <;> rfl
theorem zkg{a b x:Int}(h1:x<=a)(h2:x<=b)(h:(a-x).toNat=(b-x).toNat):a=b:=by lia
theorem zkF{a b x:Int}(h1:x<=a)(h2:x<=b)(h:(a-x).toNat / 2=(b-x).toNat / 2):a=b∨a=b-1∨b=a-1:=by lia
theorem zoA{cs:List Cell}{x0 y0:Int}(hb:∀c∈cs,x0<=c.1/\c.1<x0+12/\y0<=c.2/\c.2<y0+10){es:List Edge}(hn:es.Nodup)(he:∀e∈es,IsE (isIn cs) e):es.length<=240:=by
 have key:∀a∈es,∀c∈es,code x0 y0 a=code x0 y0 c->a=c:=λa ha c hc q=>by
  obtain⟨wa,ma,a0,a1,a2,a3⟩:=zh3 (he a ha);obtain⟨wc,mc,c0,c1,c2,c3⟩:=zh3 (he c hc);obtain⟨ba,_,ba',_⟩:=hb _ ma;obtain⟨bc,_,bc',_⟩:=hb _ mc;have hw:a.w=c.w:=by rw[<- zmO x0 y0 a,q,zmO]
  obtain⟨⟨ax,ay⟩,aw⟩:=a;obtain⟨⟨cx,cy⟩,cw⟩:=c;simp only at hw wa ba bc ba' bc' ma mc a0 a1 a2 a3 c0 c1 c2 c3;subst hw;have fin:ax=cx->ay=cy->(⟨(ax,ay),aw⟩:Edge)=⟨(cx,cy),aw⟩:=λh1 h2=>by rw[h1,h2]
  unfold code at q
  by_cases h0:aw=0∨aw=2
  .rw[if_pos h0,if_pos h0]at q;injection q with _ q;injection q with q1 q2;obtain rfl:=zkg ba bc q1;rcases zkF ba' bc' q2 with z |z |z
   .exact fin rfl z
   .rcases h0 with h0 |h0
    .rw[z]at ma;exact absurd ma (c0 h0)
    .rw[show cy=ay+1 from (Ev cy 1).symm.trans (by rw[z])]at mc;exact absurd mc (a2 h0)
   .rcases h0 with h0 |h0
    .rw[z]at mc;exact absurd mc (a0 h0)
    .rw[show ay=cy+1 from (Ev ay 1).symm.trans (by rw[z])]at ma;exact absurd ma (c2 h0)
  .rw[if_neg h0,if_neg h0]at q;injection q with _ q;injection q with q1 q2;obtain rfl:=zkg ba' bc' q1;have h13:aw=1∨aw=3:=by lia
   rcases zkF ba bc q2 with z |z |z
   .exact fin z rfl
   .rcases h13 with h0 |h0
    .rw[show cx=ax+1 from (Ev cx 1).symm.trans (by rw[z])]at mc;exact absurd mc (a1 h0)
    .rw[z]at ma;exact absurd ma (c3 h0)
   .rcases h13 with h0 |h0
    .rw[show ax=cx+1 from (Ev ax 1).symm.trans (by rw[z])]at ma;exact absurd ma (c1 h0)
    .rw[z]at mc;exact absurd mc (a3 h0)
 have hlen:tris.length=240:=by decide +kernel
 rw[<- hlen,<- Ag (f:=code x0 y0)];refine zaP (zkL hn key) λn hn=>?_
 obtain⟨e,h,rfl⟩:=AG.mp hn;obtain⟨w4,me,_⟩:=zh3 (he e h);have b:=hb _ me;have t12:(e.c.1-x0).toNat<12:=by lia
 have t10:(e.c.2-y0).toNat<10:=by lia
 unfold code tris;split
 .rename_i h0
  refine Bt _ ?_
  rcases h0 with h0 |h0
  .rw[h0];exact Bt _ (zgh t12 (by lia))
  .rw[h0];exact At _ (zgh t12 (by lia))
 .refine At _ ?_
  have h13:e.w=1∨e.w=3:=by lia
  rcases h13 with h0 |h0
  .rw[h0];exact Bt _ (zgh t10 (by lia))
  .rw[h0];exact At _ (zgh t10 (by lia))
end RP
namespace RR
open PySem L2
noncomputable def top(i:Nat):Stmt:=PySem.Challenge.pw_rimsteps_k81_whole_texts_read_back.main.body.getD i (.Pass ⟨0,0,0,0⟩)
noncomputable abbrev zcP:Stmt:=top 6
noncomputable abbrev zhC:List Str:=["cell"]
theorem zfQ:FnScope zhC ["cell"] (zad zcP):=sC
noncomputable abbrev zkh:Stmt:=top 7
noncomputable abbrev zoG:List Str:=["x","y","step","right","up"]
theorem zhL:FnScope zoG ["x","y","step"] (zad zkh):=sC
noncomputable abbrev zcN:Stmt:=top 9
noncomputable abbrev zhA:List Str:=["edge","x","y","way"]
theorem zbM:FnScope zhA ["edge"] (zad zcN):=sC
noncomputable abbrev zbW:Stmt:=top 10
noncomputable abbrev zeX:List Str:=["way"]
theorem zea:FnScope zeX ["way"] (zad zbW):=sC
noncomputable abbrev zcL:Stmt:=top 11
noncomputable abbrev zhy:List Str:=["way"]
theorem zfO:FnScope zhy ["way"] (zad zcL):=sC
noncomputable abbrev zdO:Stmt:=top 12
noncomputable abbrev zjI:List Str:=["step"]
theorem zhK:FnScope zjI ["step"] (zad zdO):=sC
noncomputable abbrev zcr:Stmt:=top 13
noncomputable abbrev zgx:List Str:=["edge","step","x","y","way","new_x","new_y"]
theorem za1:FnScope zgx ["edge","step"] (zad zcr):=sC
noncomputable abbrev zaO:Stmt:=top 16
noncomputable abbrev zbw:List Str:=["walk","lefts","slants"]
theorem zbf:FnScope zbw ["walk"] (zad zaO):=sC
noncomputable abbrev zbh:Stmt:=top 17
noncomputable abbrev zdq:List Str:=["walk","lefts","slants"]
theorem zbb:FnScope zdq ["walk"] (zad zbh):=sC
noncomputable abbrev zc4:Stmt:=top 18
noncomputable abbrev zfD:List Str:=["walk","sort"]
theorem zhM:FnScope zfD ["walk","sort"] (zad zc4):=sC
noncomputable abbrev zcQ:Stmt:=top 21
noncomputable abbrev zhE:List Str:=["one","sort","x","y","row"]
theorem zbr:FnScope zhE ["one"] (zad zcQ):=sC
noncomputable abbrev zex:Stmt:=top 22
noncomputable abbrev zlr:List Str:=["step"]
theorem zjj:FnScope zlr ["step"] (zad zex):=sC
noncomputable abbrev zcs:Stmt:=top 23
noncomputable abbrev zgy:List Str:=["begin_way","row","way","deeds","step","lefts"]
theorem za2:FnScope zgy ["begin_way","row"] (zad zcs):=sC
noncomputable abbrev zez:Stmt:=top 24
noncomputable abbrev zlt:List Str:=["begin","deeds","walk","edge","deed"]
theorem zch:FnScope zlt ["begin","deeds"] (zad zez):=sC
noncomputable abbrev zcK:Stmt:=top 25
noncomputable abbrev zhx:List Str:=["begin","row"]
theorem zfN:FnScope zhx ["begin","row"] (zad zcK):=sC
noncomputable abbrev zb8:Stmt:=top 26
noncomputable abbrev zff:List Str:=["edge","step","x","y","way","behind","seen"]
theorem zaT:FnScope zff ["edge","step"] (zad zb8):=sC
noncomputable abbrev zcq:Stmt:=top 27
noncomputable abbrev zgw:List Str:=["walk","known","steps_gone","edge","step","cell","inside"]
theorem zaJ:FnScope zgw ["walk"] (zad zcq):=sC
noncomputable abbrev zcO:Stmt:=top 28
noncomputable abbrev zhB:List Str:=["walk","edge","step"]
theorem zco:FnScope zhB ["walk"] (zad zcO):=sC
noncomputable abbrev zdi:Stmt:=top 29
noncomputable abbrev zia:List Str:=["walk","sort"]
theorem zgO:FnScope zia ["walk","sort"] (zad zdi):=sC
noncomputable abbrev zey:Stmt:=top 30
noncomputable abbrev zls:List Str:=["one","sort","x","y","row","begin","walk","at"]
theorem zbl:FnScope zls ["one"] (zad zey):=sC
noncomputable abbrev zdj:Stmt:=top 31
noncomputable abbrev zib:List Str:=["one"]
theorem zgP:FnScope zib ["one"] (zad zdj):=sC
noncomputable abbrev zeB:Stmt:=top 33
noncomputable abbrev zlv:List Str:=["row","runs","step"]
theorem zdM:FnScope zlv ["row"] (zad zeB):=sC
noncomputable abbrev zbP:Stmt:=top 34
noncomputable abbrev zdI:List Str:=["runs"]
theorem ze0:FnScope zdI ["runs"] (zad zbP):=sC
noncomputable abbrev zb3:Stmt:=top 40
noncomputable abbrev zd6:List Str:=["row"]
theorem zfR:FnScope zd6 ["row"] (zad zb3):=sC
noncomputable abbrev zdy:Stmt:=top 41
noncomputable abbrev zhD:List Str:=["row"]
theorem zjl:FnScope zhD ["row"] (zad zdy):=sC
noncomputable abbrev zdN:Stmt:=top 42
noncomputable abbrev zjH:List Str:=["row","runs","figures"]
theorem zdf:FnScope zjH ["row"] (zad zdN):=sC
noncomputable abbrev zcM:Stmt:=top 43
noncomputable abbrev zhz:List Str:=["one","sort","x","y","row"]
theorem zbq:FnScope zhz ["one"] (zad zcM):=sC
noncomputable abbrev zbO:Stmt:=top 44
noncomputable abbrev zdH:List Str:=["some"]
theorem zeZ:FnScope zdH ["some"] (zad zbO):=sC
noncomputable abbrev zbR:Stmt:=top 45
noncomputable abbrev zdK:List Str:=["word"]
theorem ze1:FnScope zdK ["word"] (zad zbR):=sC
noncomputable abbrev zeA:Stmt:=top 46
noncomputable abbrev zlu:List Str:=["word"]
theorem zjk:FnScope zlu ["word"] (zad zeA):=sC
noncomputable abbrev zdh:Stmt:=top 47
noncomputable abbrev zh9:List Str:=["word","figures","number"]
theorem zcI:FnScope zh9 ["word"] (zad zdh):=sC
noncomputable abbrev zfT:Stmt:=top 48
noncomputable abbrev zmg:List Str:=["word","step","cross","times"]
theorem zdx:FnScope zmg ["word"] (zad zfT):=sC
noncomputable abbrev zci:Stmt:=top 49
noncomputable abbrev zeY:List Str:=["word","runs"]
theorem zfr:FnScope zeY ["word"] (zad zci):=sC
noncomputable abbrev zbH:Stmt:=top 50
noncomputable abbrev zc0:List Str:=["word"]
theorem zfP:FnScope zc0 ["word"] (zad zbH):=sC
noncomputable abbrev zfU:Stmt:=top 51
noncomputable abbrev zmh:List Str:=["word","row"]
theorem zgN:FnScope zmh ["word"] (zad zfU):=sC
noncomputable abbrev zcp:Stmt:=top 54
noncomputable abbrev zgv:List Str:=["text","at","forms","words","things","place","reader","thing"]
theorem za0:FnScope zgv ["text","at","forms"] (zad zcp):=sC
noncomputable abbrev zbQ:Stmt:=top 55
noncomputable abbrev zdJ:List Str:=["text","told","one"]
theorem zb7:FnScope zdJ ["text"] (zad zbQ):=sC
noncomputable abbrev zb9:Stmt:=top 57
noncomputable abbrev zfg:List Str:=["_law_script","_law_k"]
theorem zew:FnScope zfg ["_law_script","_law_k"] (zad zb9):=sC
noncomputable abbrev zdP:Stmt:=top 58
noncomputable abbrev zjJ:List Str:=["_law_cell","_law_many","_law_base","_law_found","_law_left","_law_number","_law_k"]
theorem zbg:FnScope zjJ ["_law_cell","_law_many","_law_base"] (zad zdP):=sC
noncomputable abbrev zbD:Stmt:=top 59
noncomputable abbrev zde:List Str:=["_law_script","_law_start","_law_wide","_law_high","_law_share","_law_left","_law_low","_law_way","_law_far","_law_found","_law_y","_law_row_here"]
theorem zar:FnScope zde ["_law_script","_law_start"] (zad zbD):=sC
noncomputable abbrev zdk:Stmt:=top 60
noncomputable abbrev zic:List Str:=["_law_x","_law_y","_law_step","_law_dx","_law_dy"]
theorem zcJ:FnScope zic ["_law_x","_law_y","_law_step"] (zad zdk):=sC
noncomputable abbrev zdQ:Stmt:=top 61
noncomputable abbrev zjK:List Str:=["_law_cells","_law_there","_law_cell"]
theorem zdg:FnScope zjK ["_law_cells"] (zad zdQ):=sC
noncomputable abbrev zcu:Stmt:=top 62
noncomputable abbrev zgB:List Str:=["_law_there","_law_edge","_law_x","_law_y","_law_way","_law_right","_law_ahead"]
theorem za3:FnScope zgB ["_law_there","_law_edge"] (zad zcu):=sC
noncomputable abbrev zb4:Stmt:=top 63
noncomputable abbrev zd8:List Str:=["_law_there","_law_found","_law_x","_law_y"]
theorem zbN:FnScope zd8 ["_law_there"] (zad zb4):=sC
noncomputable abbrev zct:Stmt:=top 64
noncomputable abbrev zgz:List Str:=["_law_there","_law_first","_law_edges_here","_law_steps","_law_step","_law_edge"]
theorem zaR:FnScope zgz ["_law_there","_law_first"] (zad zct):=sC
noncomputable abbrev zbz:Stmt:=top 65
noncomputable abbrev zcB:List Str:=["_law_edges_here","_law_steps","_law_swung","_law_way","_law_at","_law_row_here"]
theorem zbG:FnScope zcB ["_law_edges_here","_law_steps"] (zad zbz):=sC
noncomputable abbrev zaX:Stmt:=top 66
noncomputable abbrev zgA:List Str:=["_law_cells","_law_there","_law_seen","_law_found","_law_edge","_law_edges_here","_law_steps","_law_one"]
theorem zaK:FnScope zgA ["_law_cells"] (zad zaX):=sC
noncomputable abbrev zbC:Stmt:=top 67
noncomputable abbrev zcf:List Str:=["_law_one","_law_sort","_law_x","_law_y","_law_row_here","_law_figures","_law_parts","_law_at","_law_times","_law_runs","_law_word"]
theorem zao:FnScope zcf ["_law_one"] (zad zbC):=sC
noncomputable abbrev zcS:Stmt:=top 68
noncomputable abbrev zd7:List Str:=["_law_script","_law_start","_law_found","_law_k","_law_cell","_law_kind","_law_size","_law_x","_law_y","_law_rows"]
theorem zaz:FnScope zd7 ["_law_script","_law_start"] (zad zcS):=sC
noncomputable abbrev zcR:Stmt:=top 69
noncomputable abbrev zhF:List Str:=["_law_found"]
theorem zfS:FnScope zhF ["_law_found"] (zad zcR):=sC
noncomputable abbrev zbs:Stmt:=top 70
noncomputable abbrev zc1:List Str:=["_law_found"]
theorem zeb:FnScope zc1 ["_law_found"] (zad zbs):=sC
noncomputable abbrev s_law:Stmt:=top 71
noncomputable abbrev N_law:List Str:=["_law_script","_law_some","_law_turn","_law_text","_law_found","_law_many","_law_other"]
theorem zdX:FnScope N_law ["_law_script"] (zad s_law):=sC
open PySem L2 RP
noncomputable def cellT(c:Cell):List V:=[.int c.1,.int c.2]
noncomputable def edgeT(e:Edge):List V:=[.int e.c.1,.int e.c.2,.int e.w]
noncomputable def sv:Option Nat->V
 |none=>.non
 |some s=>.int s
theorem Same.up{H:Hp}{p:Addr}{o:HO}(h:H p=none):Same H (upd H p o):=λb u e=>by rw[zai (zal e h)];exact e
structure Txt (P:AF) (w:A7) (K:W.Frag) (mg:Str->Option Value):Prop where
 moves:∃M,mg "MOVES" = some (.ref M)/\∀H,∃ms:List Addr,SqT K H M (ms.map V.ref)/\ms.length=8/\∀(i:Nat) a,ms[i]?=some a->SqT K H a [.int (mv i).1,.int (mv i).2]
 ways:Ways P w K mg
 more:Two P w K mg "MORE_LEFTS" 4 (-4)
 nsys:∀B,mg "BEGIN_WAYS" = some (.ref B)->(B == PySem.sysModules)=false
 nrange:mg "range" = none
 nlen:mg "len" = none
 nmin:mg "min" = none
 nsorted:mg "sorted" = none
 ntuple:mg "tuple" = none
 nint:mg "int" = none
 nbool:mg "bool" = none
 nstr:mg "str" = none
 nisinstance:mg "isinstance" = none
 nlist:mg "list" = none
 nenumerate:mg "enumerate" = none
 nall:mg "all" = none
 nsum:mg "sum" = none
theorem two:2<=sizeLine:=by decide
theorem three:3<=sizeLine:=by decide
section
variable {P:AF}{w:A7}{K:W.Frag}{mg:Str->Option Value}{base:Heap}
noncomputable def zj4(K:W.Frag):Sp:=λvs H Q _=>∃(a:Addr) (x y:Int) (r:List V),vs=[.ref a]/\SqT K H a (.int x::.int y::r)/\∀(p:Addr) (H':Hp),H p=none->Same H H'->H' p=some (.tup [.int y,.int x])->Q (.ref p) H'
theorem zf9 (d:Df K mg "cell_order" zcP ["cell"]):FnOk P w K mg base CX0 1 d.f d.fd ["cell"] (zj4 K):=by
 refine d.F.ok zfQ (λvs H Q E h=>?_) (λcdv A outer s H vs Q E hr h=>?_)
 .obtain⟨a,x,y,r,rfl,_⟩:=h;rfl
 .obtain⟨a,x,y,r,rfl,hq,k⟩:=h;refine⟨_,(zag (zak (zam (zah (pe_ix zbn (pv 0) zae (λ_ _=>rfl)) (zah (pe_ix zbn (pv 0) zae (λ_ _=>rfl)) zab))))),?_⟩;refine⟨_,rfl,a,_,_,_,rfl,rfl,hq,zaE (j:=1) rfl,_,rfl,a,_,_,_,rfl,rfl,hq,zaE (j:=0) rfl,two,λp hp=>?_⟩;exact k p _ hp (Same.up hp) zaa
noncomputable def zeu:Sp:=λvs H Q _=>∃(c:Cell) (i:Nat),vs=[.int c.1,.int c.2,.int i]/\i<8/\∀(p:Addr) (H':Hp),H p=none->Same H H'->H' p=some (.tup (cellT (go c i)))->Q (.ref p) H'
theorem znm (T:Txt P w K mg) (d:Df K mg "gone" zkh ["x","y","step"]):FnOk P w K mg base CX0 1 d.f d.fd ["x","y","step"] zeu:=by
 refine d.F.ok zhL (λvs H Q E h=>?_) (λcdv A outer s H vs Q E hr h=>?_)
 .obtain⟨c,i,rfl,_⟩:=h;rfl
 .obtain⟨c,i,rfl,hi,k⟩:=h;obtain⟨M,hM,hms⟩:=T.moves;obtain⟨ms,hq,hl,hm⟩:=hms H
  refine⟨_,(zac (zbm (pe_ix zbn (zbA (v:=.ref M) rfl hM rfl) (pv 2) (λ_ _=>rfl)) (zba (by rfl) (zaf (nG 3 zhL.nd) (zaf (nG 4 zhL.nd) zat))))
   (zag (zak (zam (pa_B (pe_op zaL (pv 0) (pv 3)) (pa_B (pe_op zaL (pv 1) (pv 4)) zab)))))),?_⟩
  have hi':i<ms.length:=by lia
  have e1:ms[i]?=some ms[i]:=by simp[hi']
  refine⟨_,rfl,M,_,(i:Int),.ref ms[i],rfl,rfl,hq,zaE (by simp[hi']),ms[i],_,rfl,hm i _ e1,rfl,_,_,rfl,_,_,rfl,rfl,?_⟩;refine⟨_,rfl,_,rfl,_,_,rfl,rfl,_,rfl,_,rfl,_,_,rfl,rfl,two,λp hp=>?_⟩;exact k p _ hp (Same.up hp) zaa
noncomputable def zfm:Sp:=λvs H Q _=>∃w:Nat,vs=[.int w]/\w<4/\Q (.int (2*w:Nat)) H
theorem zec (d:Df K mg "straight_step" zbW ["way"]):FnOk P w K mg base CX0 1 d.f d.fd ["way"] zfm:=by
 refine d.F.ok zea (λvs H Q E h=>?_) (λcdv A outer s H vs Q E hr h=>?_)
 .obtain⟨w,rfl,_⟩:=h;rfl
 .obtain⟨w,rfl,hw,k⟩:=h;refine⟨_,(zag (zak (pe_op zbt zae (pv 0)))),?_⟩;refine⟨_,rfl,_,_,rfl,rfl,.inl ⟨by decide,by decide⟩,?_⟩;have e:(2*(w:Int))=((2*w:Nat):Int):=by lia
  show Q (.int (2*(w:Int))) H;rw[e];exact k
noncomputable def zj0:Sp:=λvs H Q _=>∃w:Nat,vs=[.int w]/\w<4/\Q (.int ((2*w+7) % 8:Nat)) H
theorem zf1 (d:Df K mg "slant_step" zcL ["way"]):FnOk P w K mg base CX0 1 d.f d.fd ["way"] zj0:=by
 refine d.F.ok zfO (λvs H Q E h=>?_) (λcdv A outer s H vs Q E hr h=>?_)
 .obtain⟨w,rfl,_⟩:=h;rfl
 .obtain⟨w,rfl,hw,k⟩:=h;refine⟨_,(zag (zak (pe_op zaS (pe_op zaL (pe_op zbt zae (pv 0)) zae) zae))),?_⟩;refine⟨_,rfl,_,_,rfl,rfl,.inl ⟨by decide,by decide⟩,_,_,rfl,rfl,_,_,rfl,rfl,(by show (0:Int)<8;decide),?_⟩;have e:(2*(w:Int)+7) % 8=(((2*w+7) % 8:Nat):Int):=by lia
  show Q (.int ((2*(w:Int)+7) % 8)) H;rw[e];exact k
noncomputable def zdv:Sp:=λvs H Q _=>∃o:Option Nat,vs=[sv o]/\Q (.bl (slant o)) H
theorem zhU (d:Df K mg "is_slant" zdO ["step"]):FnOk P w K mg base CX0 1 d.f d.fd ["step"] zdv:=by
 refine d.F.ok zhK (λvs H Q E h=>?_) (λcdv A outer s H vs Q E hr h=>?_)
 .obtain⟨o,rfl,_⟩:=h;rfl
 .obtain⟨o,rfl,k⟩:=h;refine⟨_,(zag (zak (ziI (zbc zdT (pv 0) za5 (zaq _)) (ziH (zbc op_eq (pe_op zaS (pv 0) zae) zae (zaq _)))))),?_⟩
  cases o with
  |none=>exact⟨_,rfl,rfl,false,rfl,iteF k⟩
  |some n =>
   refine⟨_,rfl,rfl,true,rfl,iteT ⟨_,rfl,_,_,rfl,rfl,(by show (0:Int)<2;decide),rfl,?_⟩⟩
   have e:decide (V.int ((n:Int) % 2)=V.int 1)=slant (some n):=by
    show _=(n % 2 == 1)
    by_cases q:n % 2=1
    .rw[decide_eq_true (by rw[show (n:Int) % 2=1 by lia]),q];rfl
    .rw[decide_eq_false (λz=>by injection z with z;lia)];simp[q]
   rw[<- e]at k;exact k
noncomputable def spGap(K:W.Frag):Sp:=λvs H Q _=>∃(a:Addr) (e:Edge),vs=[.ref a]/\SqT K H a (edgeT e)/\e.w<4/\∀(p:Addr) (H':Hp),H p=none->Same H H'->H' p=some (.tup (cellT (gap e)))->Q (.ref p) H'
theorem zf6 (g_gone:Fn P w K mg base 1 "gone" ["x","y","step"] zeu) (d:Df K mg "gap_beside" zcN ["edge"]):FnOk P w K mg base CX0 2 d.f d.fd ["edge"] (spGap K):=by
 refine d.F.ok zbM (λvs H Q E h=>?_) (λcdv A outer s H vs Q E hr h=>?_)
 .obtain⟨a,e,rfl,_⟩:=h;rfl
 .obtain⟨a,e,rfl,hq,hw,k⟩:=h
  refine⟨_,(zac (zbm (pv 0) (zba (by rfl) (zaf (nG 1 zbM.nd) (zaf (nG 2 zbM.nd) (zaf (nG 3 zbM.nd) zat)))))
   (zag (zak (pC g_gone hr (pa_N (pv 1) (pa_N (pv 2) (pa_B (pe_op zaS (pe_op zaL (pe_op zbt zae (pv 3)) zae) zae) zab))))))),?_⟩
  refine⟨_,rfl,a,_,rfl,hq,rfl,_,_,rfl,_,_,rfl,_,_,rfl,rfl,?_⟩;have e6:(2*(e.w:Int)+6) % 8=(((2*e.w+6) % 8:Nat):Int):=by lia
  refine⟨_,rfl,_,rfl,_,rfl,_,_,rfl,rfl,.inl ⟨by decide,by decide⟩,_,_,rfl,rfl,_,_,rfl,rfl,(by show (0:Int)<8;decide),e.c,(2*e.w+6) % 8,(by rw[<- e6];rfl),by lia,λp H' hp hS hH=>k p H' hp hS hH⟩
theorem iteN{b:Bool}{A B:Prop}(h:b=false)(q:B):if b=true then A else B:=by subst h;exact iteF q
theorem iteY{b:Bool}{A B:Prop}(h:b=true)(q:A):if b=true then A else B:=by subst h;exact iteT q
theorem zdt{tb:TS}{D:Ends}{σ:St}{H:Hp}(h:tb D σ H):tIfs (λ_ H Q=>Q true H) tb D σ H:=by
 show if true=true then tb D σ H else D.nx σ H
 exact iteT h
theorem gN{j:Nat}{v:V}{σ:St}{H:Hp}{tb:TS}{D:Ends}(h:tb D (σ.set j (some v)) H):gName j v σ H λσ2 H2=>tIfs (λ_ H Q=>Q true H) tb D σ2 H2:=zdt h
noncomputable def LR{α:Type}(K:W.Frag)(H:Hp)(a:Addr)(l:List α)(R:α->V->Hp->Prop):Prop:=∃vs:List V,SqL K H a vs/\vs.length=l.length/\∀(i:Nat) x v,l[i]?=some x->vs[i]?=some v->R x v H
noncomputable def cR(c:Cell)(v:V)(H:Hp):Prop:=∃b,v=.ref b/\H b=some (.tup (cellT c))
noncomputable def eR(e:Edge)(v:V)(H:Hp):Prop:=∃b,v=.ref b/\H b=some (.tup (edgeT e))
noncomputable def wR(q:Edge×Option Nat)(v:V)(H:Hp):Prop:=∃A b,v=.ref A/\H A=some (.tup [.ref b,sv q.2])/\H b=some (.tup (edgeT q.1))
theorem wR.same{c:Edge×Option Nat}{v:V}{H H':Hp}(h:wR c v H)(s:Same H H'):wR c v H':=let ⟨A,b,e,q,r⟩:=h;⟨A,b,e,s _ _ q,s _ _ r⟩
theorem LR.same{α:Type}{K:W.Frag}{H H':Hp}{a:Addr}{l:List α}{R:α->V->Hp->Prop}(h:LR K H a l R)(s:Same H H')(m:∀x v,R x v H->R x v H'):LR K H' a l R :=
 let ⟨vs,q,n,r⟩:=h;⟨vs,s.seq q,n,λi x v h1 h2=>m x v (r i x v h1 h2)⟩
theorem zcX{α:Type}{l:List α}{i:Nat}{x c:α}(h:l[i]?=some x):c∈l.take (i+1) ↔ c∈l.take i∨c=x:=by rw[DT,h,List.mem_append];exact⟨λz=>z.elim .inl λz=>.inr (Ao.mp z),λz=>z.elim .inl λz=>.inr (List.mem_singleton.mpr z)⟩
noncomputable def InOrd(cs:List Cell):Prop:=∀(i:Nat) c d,cs[i]?=some c->cs[i+1]?=some d->HT.lexLt [c.2,c.1] [d.2,d.1]=true
noncomputable def kC(c:Cell):List Key:=[DL c.1,DL c.2]
theorem zkY{c d:Cell}:kC c=kC d ↔ c=d:=by
 constructor
 .intro h;unfold kC at h;injection h with h1 h2;injection h2 with h2 _;exact Eb (Sum.inl.inj h1) (Sum.inl.inj h2)
 .rintro rfl;rfl
noncomputable def zfJ(K:W.Frag):Sp:=λvs H Q _=>∃(a:Addr) (e:Edge) (o:Option Nat),vs=[.ref a,sv o]/\SqT K H a (edgeT e)/\e.w<4/\(∀s,o=some s->s<8)/\∀(p:Addr) (H':Hp),H p=none->Same H H'->H' p=some (.tup (edgeT (edgeB e o)))->Q (.ref p) H'
theorem zfa (g_gone:Fn P w K mg base 1 "gone" ["x", "y", "step"] zeu) (g_is_slant:Fn P w K mg base 1 "is_slant" ["step"] zdv)
  (d:Df K mg "edge_behind" zcr ["edge","step"]):FnOk P w K mg base CX0 2 d.f d.fd ["edge","step"] (zfJ K):=by
 refine d.F.ok za1 (λvs H Q E h=>?_) (λcdv A outer s H vs Q E hr h=>?_)
 .obtain⟨a,e,o,rfl,_⟩:=h;rfl
 .obtain⟨a,e,o,rfl,hq,hw,ho,k⟩:=h
  refine⟨_,(zac (zbm (pv 0) (zba (by rfl) (zaf (nG 2 za1.nd) (zaf (nG 3 za1.nd) (zaf (nG 4 za1.nd) zat)))))
   (zac (ps_if (zap ziK (pv 1) za5 (zaq _))
   (zag (zak (zam (pa_N (pv 2) (pa_N (pv 3) (pa_B (pe_op zaS (pe_op zaL (pv 4) zae) zae) zab))))))
   zaB)
   (zac (zbm (pC g_gone hr (pa_N (pv 2) (pa_N (pv 3) (pa_N (pv 1) zab)))) (zba (by rfl) (zaf (nG 5 za1.nd) (zaf (nG 6 za1.nd) zat))))
   (zac (ps_if (zbK (pC g_is_slant hr (pa_N (pv 1) zab)))
   (zag (zak (zam (pa_N (pv 5) (pa_N (pv 6) (pa_B (pe_op zaS (pe_op zaL (pv 4) zae) zae) zab))))))
   zaB)
   (zag (zak (zam (pa_N (pv 5) (pa_N (pv 6) (pa_N (pv 4) zab)))))))))),?_⟩
  refine⟨_,rfl,a,_,rfl,hq,rfl,_,_,rfl,_,_,rfl,_,_,rfl,rfl,?_⟩
  cases o with
  |none =>
   refine⟨_,rfl,rfl,true,rfl,iteT ?_⟩;refine⟨_,rfl,_,rfl,_,rfl,_,_,rfl,rfl,_,_,rfl,rfl,(by show (0:Int)<4;decide),three,λp hp=>k p _ hp (Same.up hp) ?_⟩;rw[zaa];have e1:((e.w:Int)+1) % 4=(((e.w+1) % 4:Nat):Int):=by lia
   show some (HO.tup [.int e.c.1,.int e.c.2,.int (((e.w:Int)+1) % 4)])=_;rw[e1];rfl
  |some n =>
   refine⟨_,rfl,rfl,false,rfl,iteF ?_⟩;refine⟨_,rfl,_,rfl,_,rfl,e.c,n,rfl,ho n rfl,λp1 H1 hp1 s1 f1=>?_⟩;refine⟨p1,_,rfl,SqT.of f1,rfl,_,_,rfl,_,_,rfl,rfl,?_⟩;refine⟨_,rfl,some n,rfl,_,rfl,?_⟩;refine ite2 (λhs=>?_) (λhs=>?_)
   .refine⟨_,rfl,_,rfl,_,rfl,_,_,rfl,rfl,_,_,rfl,rfl,(by show (0:Int)<4;decide),three,λp hp=>k p _ (s1.free hp) (s1.trans (Same.up hp)) ?_⟩;rw[zaa];have e1:((e.w:Int)+3) % 4=(((e.w+3) % 4:Nat):Int):=by lia
    have hn:n % 2=1:=by simpa[slant]using hs
    show some (HO.tup [.int (go e.c n).1,.int (go e.c n).2,.int (((e.w:Int)+3) % 4)])=_;rw[e1];unfold edgeB;simp only[if_pos hn];rfl
   .refine⟨_,rfl,_,rfl,_,rfl,three,λp hp=>k p _ (s1.free hp) (s1.trans (Same.up hp)) ?_⟩;rw[zaa];have hn:¬ n % 2=1:=by simpa[slant]using hs
    unfold edgeB;simp only[if_neg hn];rfl
noncomputable def KT(H H':Hp):Prop:=∀b xs,H b=some (.tup xs)->H' b=some (.tup xs)
theorem KT.refl(H:Hp):KT H H:=λ_ _ h=>h
theorem KT.trans{H H1 H2:Hp}(a:KT H H1)(b:KT H1 H2):KT H H2:=λc o h=>b c o (a c o h)
theorem KT.of{H H':Hp}(s:Same H H'):KT H H':=λb xs e=>s b _ e
theorem KT.up{H:Hp}{p:Addr}{o:HO}(h:H p=none):KT H (upd H p o):=KT.of (Same.up h)
theorem KT.lst{H:Hp}{p:Addr}{xs:List V}{o:HO}(h:H p=some (.lst xs)):KT H (upd H p o):=λb ys e=>by rw[zai (ne_of e h (λz=>nomatch z))];exact e
theorem KT.dct{H:Hp}{p:Addr}{xs:List (List Key×V)}{o:HO}(h:H p=some (.dT xs)):KT H (upd H p o):=λb ys e=>by rw[zai (ne_of e h (λz=>nomatch z))];exact e
theorem cR.kt{c:Cell}{v:V}{H H':Hp}(h:cR c v H)(s:KT H H'):cR c v H':=let ⟨b,e,q⟩:=h;⟨b,e,s _ _ q⟩
theorem eR.kt{c:Edge}{v:V}{H H':Hp}(h:eR c v H)(s:KT H H'):eR c v H':=let ⟨b,e,q⟩:=h;⟨b,e,s _ _ q⟩
theorem wR.kt{c:Edge×Option Nat}{v:V}{H H':Hp}(h:wR c v H)(s:KT H H'):wR c v H':=let ⟨A,b,e,q,r⟩:=h;⟨A,b,e,s _ _ q,s _ _ r⟩
noncomputable def VR{α:Type}(vs:List V)(l:List α)(R:α->V->Hp->Prop)(H:Hp):Prop:=vs.length=l.length/\∀(i:Nat) x v,l[i]?=some x->vs[i]?=some v->R x v H
theorem VR.nil{α:Type}{R:α->V->Hp->Prop}{H:Hp}:VR [] ([]:List α) R H:=⟨rfl,λi x v h=>by simp at h⟩
theorem VR.snoc{α:Type}{vs:List V}{l:List α}{R:α->V->Hp->Prop}{H H':Hp}{x:α}{v:V}(h:VR vs l R H)(m:∀x v,R x v H->R x v H')(hx:R x v H'):VR (vs++[v]) (l++[x]) R H':=by
 refine⟨by simp[h.1],λi y u h1 h2=>?_⟩;rcases Bl i l.length with hi |hi
 .rw[Aj hi]at h1;rw[Aj (by rw[h.1];exact hi)]at h2;exact m _ _ (h.2 i y u h1 h2)
 .rw[Ar hi]at h1;rw[Ar (by rw[h.1];exact hi)]at h2
  have hz:i-l.length=0:=by have:=(Ae.mp h1).1;simp at this;lia
  rw[hz]at h1;rw[h.1,hz]at h2
  cases h1;cases h2
  exact hx
theorem VR.mono{α:Type}{vs:List V}{l:List α}{R:α->V->Hp->Prop}{H H':Hp}(h:VR vs l R H)(m:∀x v,R x v H->R x v H'):VR vs l R H':=⟨h.1,λi x v h1 h2=>m _ _ (h.2 i x v h1 h2)⟩
theorem VR.at{α:Type}{vs:List V}{l:List α}{R:α->V->Hp->Prop}{H:Hp}(h:VR vs l R H){i:Nat}{v:V}(hv:vs[i]?=some v):∃x,l[i]?=some x/\R x v H:=by
 have hi:i<l.length:=by rw[<- h.1];exact (Ae.mp hv).1
 exact⟨l[i],Ab hi,h.2 i _ v (Ab hi) hv⟩
theorem zaj{H H2:Hp}{p:Addr}{o:HO}(hp:H p=none)(s:Same H H2):Same H (upd H2 p o):=λz u e=>by rw[zai (zal e hp)];exact s z u e
theorem zji(cs:List Cell)(c:Cell):sides (cs++[c])=sides cs++(Bq 4).map λw=>⟨c,w⟩:=by unfold sides;simp[List.flatMap_append]
theorem zay{α:Type}{l:List α}{i:Nat}{x:α}(h:l[i]?=some x):l.take (i+1)=l.take i++[x]:=by rw[DT,h];rfl
theorem zdo{α:Type}(p:α->Bool)(l:List α)(x:α):(l++[x]).filter p=l.filter p++(if p x=true then [x] else []):=by rw[Ew];congr 1;simp[List.filter_cons]
noncomputable def eI(e:Edge):List Int:=[e.c.1,e.c.2,(e.w:Int)]
theorem zk9{e f:Edge}:eI e=eI f ↔ e=f:=by
 constructor
 .intro h;obtain⟨⟨x,y⟩,w⟩:=e;obtain⟨⟨x',y'⟩,w'⟩:=f;unfold eI at h;injection h with h1 h2;injection h2 with h2 h3;injection h3 with h3 _;simp only at h1 h2 h3;have:w=w':=by lia
  subst h1 h2 this;rfl
 .rintro rfl;rfl
theorem zdR{K:W.Frag}{H:Hp}{b:Addr}{e:Edge}(h:H b=some (.tup (edgeT e))):RD K H (.ref b) (tI (eI e)):=.tup (SqT.of h) (RDs.ints (eI e))
theorem zfH{C:Cell->Bool}{e:Edge}(hw:e.w<4):∀s,stepB C e=some s->s<8:=by
 intro s h;unfold stepB at h;split at h
 .cases h;lia
 .split at h
  .cases h;lia
  .cases h
noncomputable def wk(C:Cell->Bool)(es:List Edge):List (Edge×Option Nat):=es.map λe=>(e,stepB C e)
theorem zds(C:Cell->Bool)(es:List Edge):(wk C es).length=es.length:=by unfold wk;simp
noncomputable def zkN:Option HO->Nat
 |some (.lst ws)=>ws.length
 |_=>0
noncomputable abbrev Wk:=List (Edge×Option Nat)
noncomputable def nL(W:Wk):Nat:=(W.filter λq=>q.2.isNone).length
noncomputable def nS(W:Wk):Nat:=(W.filter λq=>slant q.2).length
theorem zmm(o:Option Nat):decide (sv o=V.non)=o.isNone:=by cases o <;> simp[sv]
theorem zcz{α:Type}{p:α->Bool}{l:List α}{i:Nat}{x:α}(h:l[i]?=some x):((l.take (i+1)).filter p)=(l.take i).filter p++(if p x=true then [x] else []):=by rw[zay h,zdo]
theorem LR.vr{α:Type}{K:W.Frag}{H:Hp}{a:Addr}{l:List α}{R:α->V->Hp->Prop}(h:LR K H a l R):∃vs,SqL K H a vs/\VR vs l R H:=let ⟨vs,q,n,r⟩:=h;⟨vs,q,n,r⟩
theorem LR.of{α:Type}{K:W.Frag}{H:Hp}{a:Addr}{vs:List V}{l:List α}{R:α->V->Hp->Prop}(e:H a=some (.lst vs))(h:VR vs l R H):LR K H a l R:=⟨vs,SqL.of e,h.1,h.2⟩
noncomputable def zj6(K:W.Frag):Sp:=λvs H Q _=>∃(a:Addr) (W:Wk),vs=[.ref a]/\LR K H a W wR/\W.length<=500/\∀p H',H p=none->Same H H'->H' p=some (.tup [.int (nL W),.int (nS W)])->Q (.ref p) H'
theorem zdm (T:Txt P w K mg) (g_is_slant:Fn P w K mg base 1 "is_slant" ["step"] zdv) (d:Df K mg "lefts_and_slants" zaO ["walk"]):FnOk P w K mg base CX0 2 d.f d.fd ["walk"] (zj6 K):=by
 refine d.F.ok zbf (λvs H Q E h=>?_) (λcdv A outer s H vs Q E hr h=>?_)
 .obtain⟨a,W,rfl,_⟩:=h;rfl
 .obtain⟨a,W,rfl,hLR,hlen,k⟩:=h;obtain⟨ws,hq,hv⟩:=hLR.vr;have nb0:(["edge","step"]:List Str).Nodup:=by decide +kernel
  have nb1:(["edge","step"]:List Str).Nodup:=by decide +kernel
  refine⟨_,(zac (sE 1 zbf.nd (zan zaw (by rfl) T.nlen (by rfl) (zah (zaF (osc:=zad zaO) (N:=zbw) (N':=["edge","step"]) (sel:=[none,none]) bO (zaU (pv 0)) (λ_ _ _ _ _=>(zcx (K:=K) (n:=2) (by rfl) (zaf (nG 0 nb0) (zaf (nG 1 nb0) zat)))) (λ_ _ _ _ _=>zcT (zap ziK (pv 1) za5 (zaq _))) (λ_ _ _ _ _=>(pv 1))) zab)))
   (zac (sE 2 zbf.nd (zan zaw (by rfl) T.nlen (by rfl) (zah (zaF (osc:=zad zaO) (N:=zbw) (N':=["edge","step"]) (sel:=[none,none]) bO (zaU (pv 0)) (λ_ _ _ _ _=>(zcx (K:=K) (n:=2) (by rfl) (zaf (nG 0 nb1) (zaf (nG 1 nb1) zat)))) (λ_ _ _ _ _=>zcT (zbK (pC g_is_slant hr (pa_N (pv 1) zab)))) (λ_ _ _ _ _=>(pv 1))) zab)))
   (zag (zak (zam (pa_N (pv 1) (pa_N (pv 2) zab))))))),?_⟩
  refine⟨_,rfl,a,rfl,⟨_,hq⟩,λp hp=>?_⟩
  refine zaH (K:=K) (a:=a) (xs:=ws) (λi σ H2=>∃o1 o2,σ=[o1,o2]/\Same H H2/\∃ss:List V,H2 p=some (.lst ss)/\ss.length=((W.take i).filter λq=>q.2.isNone).length)
   ⟨_,_,rfl,Same.up hp,[],zaa,rfl⟩ (λi σ H2 _ ⟨_,_,_,s2,_⟩=>s2.seq hq) ?_ ?_
  .rintro i v σ H2 hi ⟨o1,o2,rfl,s2,ss,e2,hl⟩;obtain⟨⟨e,st⟩,he,B,b,rfl,q1,q2⟩:=hv.at hi
   have hl2:ss.length<=1000:=by have:=BK (λq:Edge×Option Nat=>q.2.isNone) (W.take i);rw[AA]at this;lia
   refine⟨B,_,rfl,SqT.of (s2 _ _ q1),rfl,_,_,rfl,_,_,rfl,rfl,?_⟩;refine⟨_,rfl,rfl,_,rfl,?_⟩;rw[zmm];rw[zcz he]at *;refine ite2 (λhy=>?_) (λhn=>?_)
   .refine⟨_,rfl,ss,e2,small1000 hl2,_,_,rfl,zaj hp s2,_,zaa,?_⟩;rw[if_pos hy,Am,Am,hl];rfl
   .exact⟨_,_,rfl,s2,ss,e2,by rw[if_neg hn,Bk];exact hl⟩
  .rintro σ H2 ⟨o1,o2,rfl,s2,ss,e2,hl⟩;refine⟨p,_,rfl,.inl (SqL.of e2),?_⟩;refine⟨_,rfl,a,rfl,⟨_,s2.seq hq⟩,λp2 hp2=>?_⟩
   refine zaH (K:=K) (a:=a) (xs:=ws) (λi σ H3=>∃o1 o2,σ=[o1,o2]/\Same H2 H3/\∃s3:List V,H3 p2=some (.lst s3)/\s3.length=((W.take i).filter λq=>slant q.2).length)
    ⟨_,_,rfl,Same.up hp2,[],zaa,rfl⟩ (λi σ H3 _ ⟨_,_,_,s3,_⟩=>(s2.trans s3).seq hq) ?_ ?_
   .rintro i v σ H3 hi ⟨o1,o2,rfl,s3,ss3,e3,hl3⟩;obtain⟨⟨e,st⟩,he,B,b,rfl,q1,q2⟩:=hv.at hi
    have hl2:ss3.length<=1000:=by have:=BK (λq:Edge×Option Nat=>slant q.2) (W.take i);rw[AA]at this;lia
    refine⟨B,_,rfl,SqT.of ((s2.trans s3) _ _ q1),rfl,_,_,rfl,_,_,rfl,rfl,?_⟩;refine⟨_,rfl,st,rfl,_,rfl,?_⟩;rw[zcz he]at *;refine ite2 (λhy=>?_) (λhn=>?_)
    .refine⟨_,rfl,ss3,e3,small1000 hl2,_,_,rfl,zaj hp2 s3,_,zaa,?_⟩;rw[if_pos hy,Am,Am,hl3];rfl
    .exact⟨_,_,rfl,s3,ss3,e3,by rw[if_neg hn,Bk];exact hl3⟩
   .rintro σ H3 ⟨o1,o2,rfl,s3,ss3,e3,hl3⟩;refine⟨p2,_,rfl,.inl (SqL.of e3),?_⟩;refine⟨_,rfl,_,rfl,two,λp4 hp4=>k p4 _ (s2.free (s3.free hp4)) ((s2.trans s3).trans (Same.up hp4)) ?_⟩;rw[hv.1,AL]at hl hl3;rw[zaa,hl,hl3];rfl
noncomputable def zms(K:W.Frag):Sp:=λvs H Q _=>∃(a:Addr) (W:Wk),vs=[.ref a]/\LR K H a W wR/\W.length<=500/\∀H',Same H H'->Q (.int ((nL W:Int)-nS W)) H'
theorem zc9 (g_lefts_and_slants:Fn P w K mg base 2 "lefts_and_slants" ["walk"] (zj6 K)) (d:Df K mg "lefts_less_slants" zbh ["walk"]):FnOk P w K mg base CX0 3 d.f d.fd ["walk"] (zms K):=by
 refine d.F.ok zbb (λvs H Q E h=>?_) (λcdv A outer s H vs Q E hr h=>?_)
 .obtain⟨a,W,rfl,_⟩:=h;rfl
 .obtain⟨a,W,rfl,hLR,hlen,k⟩:=h
  refine⟨_,(zac (zbm (pC g_lefts_and_slants hr (pa_N (pv 0) zab)) (zba (by rfl) (zaf (nG 1 zbb.nd) (zaf (nG 2 zbb.nd) zat))))
   (zag (zak (pe_op zda (pv 1) (pv 2))))),?_⟩
  refine⟨_,rfl,a,W,rfl,hLR,hlen,λp H1 hp s1 f1=>?_⟩;refine⟨p,_,rfl,SqT.of f1,rfl,_,_,rfl,_,_,rfl,rfl,?_⟩;exact⟨_,rfl,_,rfl,_,_,rfl,rfl,k H1 s1⟩
noncomputable def sortS (W:Wk):Str:=if nS W<nL W then "rim" else "hole"
noncomputable def kOf (s:Str):Nat:=if s = "rim" then 0 else 2
noncomputable def zcC(W:Wk)(s:Str)(e:Edge):Prop:=e∈W.map (·.1)/\e.w=kOf s/\∀f∈W.map (·.1),f.w=kOf s->HT.lexLt [f.c.2,f.c.1] [e.c.2,e.c.1]=false
noncomputable def zka (K:W.Frag):Sp:=λvs H Q _=>∃(a:Addr) (W:Wk) (s:Str),vs=[.ref a,.str s]/\(s = "rim" ∨ s = "hole")/\LR K H a W wR/\W.length<=500/\(∃e∈W.map (·.1),e.w=kOf s) /\
 ∀b e H',Same H H'->H' b=some (.tup (edgeT e))->zcC W s e->Q (.ref b) H'
theorem zhV (T:Txt P w K mg) (g_cell_order:Fn P w K mg base 1 "cell_order" ["cell"] (zj4 K)) (d:Df K mg "begin_of" zc4 ["walk","sort"]):FnOk P w K mg base CX0 3 d.f d.fd ["walk","sort"] (zka K):=by
  refine d.F.ok zhM (λvs H Q E h=>?_) (λcdv A outer s H vs Q E hr h=>?_)
  . obtain⟨a,W,s,rfl,_⟩:=h;rfl
  . obtain⟨a,W,so,rfl,hso,hLR,hlen,hex,k⟩:=h;obtain⟨ws,hq,hv⟩:=hLR.vr;have nb0:(["edge","step","sort"]:List Str).Nodup:=by decide +kernel
    refine⟨_,(zag (zak (zni g_cell_order.ok (hr.mono (by decide)) g_cell_order.b (by rfl) T.nmin (by rfl) g_cell_order.m (zaF (osc:=zad zc4) (N:=zfD) (N':=["edge","step","sort"]) (sel:=[none,none,some 1]) bO (zaU (pv 0)) (λ_ _ _ _ _=>(zcx (K:=K) (n:=2) (by rfl) (zaf (nG 0 nb0) (zaf (nG 1 nb0) zat)))) (λ_ _ _ _ _=>zcT (zap op_eq (pe_ix (zgl (K:=K)) (pv 0) zae (λ_ _=>rfl)) (zks (by rfl) T.ways (pv 2)) (zaq _))) (λ_ _ _ _ _=>(pv 0)))))),?_⟩;refine⟨_,rfl,a,rfl,⟨_,hq⟩,λp hp=>?_⟩
    refine zaH (K:=K) (a:=a) (xs:=ws) (λi σ H2=>∃o1 o2,σ=[o1,o2,some (.str so)]/\Same H H2/\∃es:List V,H2 p=some (.lst es)/\VR es (((W.take i).filter λq=>q.1.w == kOf so).map (·.1)) eR H2)
      ⟨_,_,rfl,Same.up hp,[],zaa,VR.nil⟩ (λi σ H2 _ ⟨_,_,_,s2,_⟩=>s2.seq hq) ?_ ?_
    . rintro i v σ H2 hi ⟨o1,o2,rfl,s2,es,e2,hl⟩;obtain⟨⟨e,st⟩,he,B,b,rfl,q1,q2⟩:=hv.at hi
      have hl2:es.length<=1000:=by have:=BK (λq:Edge×Option Nat=>q.1.w == kOf so) (W.take i);rw[hl.1,Ag];rw[AA]at this;lia
      have fin:∀kk:Int, kk=(kOf so:Int) -> (if decide (V.int (e.w:Int)=V.int kk)=true then zcG p (tVar 0) { nx := λσ H2 => ∃o1 o2, σ = [o1, o2, some (V.str so)] /\ Same H H2 /\ ∃es, H2 p=some (.lst es) /\ VR es (List.map (λx => x.fst) (DV (λq => q.1.w == kOf so) (List.take (i + 1) W))) eR H2, rt := λ_ _ => False } [some (.ref b), some (sv st), some (.str so)] H2
          else (∃o1 o2,[some (.ref b),some (sv st),some (V.str so)]=[o1,o2,some (V.str so)]/\Same H H2/\∃es,H2 p=some (.lst es)/\VR es (List.map (λx=>x.fst) (DV (λq=>q.1.w == kOf so) (List.take (i+1) W))) eR H2)):=λkk hk=>by
        have hd:decide (V.int (e.w:Int)=V.int kk)=(e.w == kOf so):=by
          subst hk
          by_cases q:e.w=kOf so
          . rw[q];simp
          . rw[decide_eq_false (λz=>q (by injection z with z;lia))];simp[q]
        rw[hd,zcz he];refine ite2 (λhy=>?_) (λhn=>?_)
        . refine⟨_,rfl,es,e2,small1000 hl2,_,_,rfl,zaj hp s2,_,zaa,?_⟩;rw[if_pos hy,Aq];have k2:KT H2 (upd H2 p (.lst (es++[.ref b]))):=KT.lst e2;exact hl.snoc (λx v hx=>hx.kt k2) ⟨b,rfl,k2 _ _ (s2 _ _ q2)⟩
        . exact⟨_,_,rfl,s2,es,e2,by rw[if_neg hn,Bk];exact hl⟩
      refine⟨B,_,rfl,SqT.of (s2 _ _ q1),rfl,_,_,rfl,_,_,rfl,rfl,?_⟩;rcases hso with z |z
      . have f0:=fin 0 (by rw[z];rfl);exact⟨_,rfl,b,_,_,_,rfl,rfl,SqT.of (s2 _ _ q2),zaE (j:=2) rfl,_,rfl,.inl ⟨by rw[z],rfl,_,rfl,f0⟩⟩
      . have f2:=fin 2 (by rw[z];rfl);exact⟨_,rfl,b,_,_,_,rfl,rfl,SqT.of (s2 _ _ q2),zaE (j:=2) rfl,_,rfl,.inr ⟨by rw[z],rfl,_,rfl,f2⟩⟩
    . rintro σ H2 ⟨o1,o2,rfl,s2,es,e2,hl⟩;rw[hv.1,AL]at hl;obtain⟨L,hL⟩:∃L,L=((W.filter λq=>q.1.w == kOf so).map (·.1)):=⟨_,rfl⟩;rw[<- hL]at hl
      have memL:∀f,f∈L ↔ f∈W.map (·.1)/\f.w=kOf so:=λf=>by
        rw[hL];constructor
        . intro h;obtain⟨q,hq1,rfl⟩:=AG.mp h;obtain⟨h1,h2⟩:=EB.mp hq1;exact⟨AG.mpr ⟨q,h1,rfl⟩,by simpa using h2⟩
        . rintro⟨h1,h2⟩;obtain⟨q,hq1,rfl⟩:=AG.mp h1;exact AG.mpr ⟨q,List.mem_filter.mpr ⟨hq1,by simpa using h2⟩,rfl⟩
      have hpos:0<es.length:=by obtain⟨f,h1,h2⟩:=hex;rw[hl.1];exact Dw ((memL f).mpr ⟨h1,h2⟩)
      have kap:∀(i:Nat) e,L[i]?=some e->(λi=>(L[i]?.map λe:Edge=>[e.c.2,e.c.1]).getD []) i=[e.c.2,e.c.1]:=λi e h=>by simp only[h];rfl
      refine⟨p,es,λi=>(L[i]?.map λe:Edge=>[e.c.2,e.c.1]).getD [],rfl,SqL.of e2,hpos,λi x H3 hx s3=>?_,λi x H3 hx hle s3=>?_⟩
      . obtain⟨e,he,b,rfl,q⟩:=hl.at hx;refine⟨b,e.c.1,e.c.2,_,rfl,SqT.of (s3 _ _ q),λp4 H4 hp4 s4 f4=>⟨s4,p4,rfl,SqT.of ?_⟩⟩;rw[kap i e he];exact f4
      . obtain⟨e,he,b,rfl,q⟩:=hl.at hx;have hm:=(memL e).mp (An he);refine k b e H3 (s2.trans s3) (s3 _ _ q) ⟨hm.1,hm.2,λf h1 h2=>?_⟩;obtain⟨j,hj,ej⟩:=A6 ((memL f).mpr ⟨h1,h2⟩);have hj':L[j]?=some f:=by rw[Ab hj,ej]
        have:=(hle j (by rw[hl.1];exact hj)).1;rw[kap j f hj',kap i e he]at this;exact this
theorem sIx_nat(n d j:Nat):HT.sIx n d (some (j:Int))=min j n:=by show (if (j:Int)<0 then ((j:Int)+(n:Int)).toNat else min (j:Int).toNat n)=min j n;rw[if_neg (by lia),BV]
theorem zi2(xs:List V){j:Nat}(h:j<=xs.length):cutV xs (some (j:Int)) none=xs.drop j:=by unfold cutV;rw[sIx_nat,Nat.min_eq_left h];exact Bx (by rw[CW];exact Ai _)
theorem zmM(xs:List V){j:Nat}(h:j<=xs.length):cutV xs none (some (j:Int))=xs.take j:=by unfold cutV;rw[sIx_nat,Nat.min_eq_left h];rfl
theorem VR.rot{α:Type}{vs:List V}{l:List α}{R:α->V->Hp->Prop}{H:Hp}(h:VR vs l R H)(j:Nat):VR (vs.drop j++vs.take j) (l.drop j++l.take j) R H:=by
 refine⟨by simp[h.1],λi x v h1 h2=>?_⟩;have hd:(vs.drop j).length=(l.drop j).length:=by simp[h.1]
 rcases Bl i (l.drop j).length with hi |hi
 .rw[Aj hi,Et]at h1;rw[Aj (by lia),Et]at h2;exact h.2 _ x v h1 h2
 .rw[Ar hi]at h1;rw[Ar (by lia),hd]at h2;rw[List.getElem?_take]at h1 h2;split at h1
  .rw[if_pos (by assumption)]at h2;exact h.2 _ x v h1 h2
  .cases h1
structure Rnd where
 so:Str
 x:Int
 y:Int
 row:List Nat
 deriving DecidableEq
noncomputable def rowV(row:List Nat):List V:=row.map λn:Nat=>V.int (n:Int)
noncomputable def rR(r:Rnd)(v:V)(H:Hp):Prop:=∃a b,v=.ref a/\H a=some (.tup [.str r.so,.int r.x,.int r.y,.ref b])/\H b=some (.tup (rowV r.row))
theorem rR.kt{r:Rnd}{v:V}{H H':Hp}(h:rR r v H)(s:KT H H'):rR r v H':=let ⟨a,b,e,q1,q2⟩:=h;⟨a,b,e,s _ _ q1,s _ _ q2⟩
noncomputable def IsRnd(W:Wk)(r:Rnd):Prop:=r.so=sortS W/\∃(j:Nat) (e:Edge),(W.map (·.1))[j]?=some e/\zcC W (sortS W) e/\r.x=e.c.1/\r.y=e.c.2/\r.row=(W.drop j++W.take j).filterMap (·.2)
theorem zfL (W:Wk):sortS W = "rim" ∨ sortS W = "hole":=by unfold sortS;split <;> simp
noncomputable def keyV (r:Rnd):List V:=[.int r.y,.int r.x,.bl (decide (V.str r.so=V.str "hole"))]
theorem VR.cons{α:Type}{v:V}{vs:List V}{x:α}{l:List α}{R:α->V->Hp->Prop}{H:Hp}:VR (v::vs) (x::l) R H ↔ R x v H/\VR vs l R H:=by
 constructor
 .intro h;exact⟨h.2 0 x v rfl rfl,by simpa using h.1,λi y u h1 h2=>h.2 (i+1) y u (by simpa using h1) (by simpa using h2)⟩
 .rintro⟨h1,h2⟩;refine⟨by simp[h2.1],λi y u e1 e2=>?_⟩
  match i,e1,e2 with
  | 0,e1,e2=>cases e1;cases e2;exact h1
  |i+1,e1,e2=>exact h2.2 i y u (by simpa using e1) (by simpa using e2)
noncomputable def kE(e:Edge):List Key:=[DL e.c.1,DL e.c.2,DL (e.w:Int)]
theorem zmH{e f:Edge}:kE e=kE f ↔ e=f:=by
 constructor
 .intro h;refine zk9.mp ?_
  unfold kE at h;injection h with h1 h2;injection h2 with h2 h3;injection h3 with h3 _;unfold eI;rw[Sum.inl.inj h1,Sum.inl.inj h2,Sum.inl.inj h3]
 .rintro rfl;rfl
theorem _root_.RP.Closed.back{C:Cell->Bool}{b x:Edge}{es:List Edge}(h:Closed C b es)(hx:IsE C x)(hm:nxt C x∈es):x∈es:=by
 obtain⟨⟨h0,hs,hE,hnd⟩,l,hl,hb⟩:=h;obtain⟨i,hi,ei⟩:=A6 hm;have hlm:l∈es:=An hl;rcases Dv i with rfl |hp
 .rw[Ab hi,ei]at h0;have e:=A0 h0;rw[<- hb]at e;rw[zhW hx (hE l hlm) e];exact hlm
 .have hi':i-1<es.length:=by lia
  have e1:=hs (i-1) es[i-1] (nxt C x) (Ab hi') (by rw[show i-1+1=i by lia,Ab hi,ei]);rw[zhW hx (hE _ (BA hi')) e1];exact BA hi'
theorem _root_.RP.Closed.apart{C:Cell->Bool}{b:Edge}{es done:List Edge}(h:Closed C b es)(hd:∀x,IsE C x->nxt C x∈done->x∈done)(hb:b ∉ done):∀e∈es,e ∉ done:=by
 obtain⟨⟨h0,hs,hE,hnd⟩,_⟩:=h
 have key:∀(i:Nat) e,es[i]?=some e->e ∉ done:=by
  intro i
  induction i with
  |zero=>intro e he;rw[he]at h0;cases h0;exact hb
  |succ i ih =>
   intro e he hm;have hi:i+1<es.length:=(Ae.mp he).1;have h1:es[i]?=some es[i]:=Ab (by lia)
   have hn:=hs i _ e h1 he;rw[hn]at hm;exact ih _ h1 (hd _ (hE _ (BA _)) hm)
 intro e he;obtain⟨i,hi,ei⟩:=A6 he;exact key i e (by rw[Ab hi,ei])
structure Part (C:Cell->Bool) (ESS:List (List Edge)) (R:List Rnd):Prop where
 len:R.length=ESS.length
 each:∀(i:Nat) es r,ESS[i]?=some es->R[i]?=some r->(∃b,Closed C b es)/\IsRnd (wk C es) r
 nd:ESS.flatten.Nodup
theorem Part.closed{C:Cell->Bool}{ESS:List (List Edge)}{R:List Rnd}(h:Part C ESS R):∀es∈ESS,∃b,Closed C b es:=λes he=>by
 obtain⟨i,hi,ei⟩:=A6 he;have hr:i<R.length:=by rw[h.len];exact hi
 exact (h.each i es R[i] (by rw[Ab hi,ei]) (Ab hr)).1
theorem Part.isE{C:Cell->Bool}{ESS:List (List Edge)}{R:List Rnd}(h:Part C ESS R):∀e∈ESS.flatten,IsE C e:=λe he=>by obtain⟨es,h1,h2⟩:=List.mem_flatten.mp he;obtain⟨b,hc⟩:=h.closed es h1;exact hc.1.2.2.1 e h2
theorem Part.back{C:Cell->Bool}{ESS:List (List Edge)}{R:List Rnd}(h:Part C ESS R):∀x,IsE C x->nxt C x∈ESS.flatten->x∈ESS.flatten:=λx hx hm=>by obtain⟨es,h1,h2⟩:=List.mem_flatten.mp hm;obtain⟨b,hc⟩:=h.closed es h1;exact List.mem_flatten.mpr ⟨es,h1,hc.back hx h2⟩
theorem Part.nil{C:Cell->Bool}:Part C [] []:=⟨rfl,λi es r h=>by simp at h,by simp⟩
theorem Part.snoc{C:Cell->Bool}{ESS:List (List Edge)}{R:List Rnd}{b:Edge}{es:List Edge}{r:Rnd}(h:Part C ESS R)(hc:Closed C b es)(hr:IsRnd (wk C es) r)(hb:b ∉ ESS.flatten):Part C (ESS++[es]) (R++[r]):=by
 refine⟨by simp[h.len],λi fs q h1 h2=>?_,?_⟩
 .rcases Bl i ESS.length with hi |hi
  .rw[Aj hi]at h1;rw[Aj (by rw[h.len];exact hi)]at h2;exact h.each i fs q h1 h2
  .rw[Ar hi]at h1;rw[Ar (by rw[h.len];exact hi)]at h2
   have hz:i-ESS.length=0:=by have:=(Ae.mp h1).1;simp at this;lia
   rw[hz]at h1;rw[h.len,hz]at h2
   cases h1;cases h2
   exact⟨⟨b,hc⟩,hr⟩
 .have ap:=hc.apart h.back hb;rw[D7,List.nodup_append];refine⟨h.nd,by simpa using hc.1.2.2.2,λx hx y hy e=>?_⟩;subst e;exact ap x (by simpa using hy) hx
theorem ziT{p:Edge->Bool}:∀(ESS:List (List Edge)),(∀es∈ESS,∃e∈es,p e=true)->ESS.length<=(ESS.flatten.filter p).length
 |[],_=>AT _
 |es::r,h=>by
  have ih:=ziT r λes he=>h es (AK _ he)
  obtain⟨e,he,hp⟩:=h es AM;rw[Bi,Ew,Am,A9];have:0<(es.filter p).length:=Dw (List.mem_filter.mpr ⟨he,hp⟩);lia
theorem Part.few{cs:List Cell}{ESS:List (List Edge)}{R:List Rnd}(h:Part (isIn cs) ESS R):R.length<=cs.length:=by
 rw[h.len];refine AV (ziT (p:=λe=>e.w == 0) ESS λes he=>?_) ?_
 .obtain⟨b,hc⟩:=h.closed es he;obtain⟨e,h1,h2⟩:=hc.has (k:=0) (.inl rfl);exact⟨e,h1,by simpa using h2⟩
 .rw[<- Ag (f:=λc:Cell=>(⟨c,0⟩:Edge)) (as:=cs)];refine zaP (List.Pairwise.filter _ h.nd) λe he=>?_
  obtain⟨h1,h2⟩:=EB.mp he;have hE:=h.isE e h1;refine AG.mpr ⟨e.c,of_decide_eq_true hE.2.1,?_⟩;obtain⟨c,w⟩:=e;simp only at h2 ⊢;have:w=0:=by simpa using h2
  rw[this]
theorem Part.small{cs:List Cell}{ESS:List (List Edge)}{R:List Rnd}(h:Part (isIn cs) ESS R):ESS.flatten.length<=4*cs.length:=by rw[<- zcH];exact zaP h.nd λe he=>zeJ.mpr ⟨of_decide_eq_true (h.isE e he).2.1,(h.isE e he).1⟩
noncomputable def keyI (r:Rnd):List Int:=[r.y,r.x,PyProof.Rows.b2i (decide (V.str r.so=V.str "hole"))]
noncomputable def Whole(cs:List Cell)(R:List Rnd):Prop:=∃ESS,Part (isIn cs) ESS R/\∀e,e∈ESS.flatten ↔ IsE (isIn cs) e
theorem zlF{α:Type}(l:List α)(j:Nat):(l.drop j++l.take j).Perm l:=by have:=C6 (l₁:=l.drop j) (l₂:=l.take j);rw[Cq]at this;exact this
theorem zdr{C:Cell->Bool}(es:List Edge):(wk C es).map (·.1)=es:=by unfold wk;rw[List.map_map];exact List.map_id' _
theorem zjg{C:Cell->Bool}{es fs:List Edge}(p:es.Perm fs):sortS (wk C es)=sortS (wk C fs):=by have q:(wk C es).Perm (wk C fs):=p.map _;unfold sortS nL nS;have a:=(q.filter λq=>q.2.isNone).length_eq;have b:=(q.filter λq=>slant q.2).length_eq;rw[a,b]
theorem lex2{a b c d:Int}(h1:HT.lexLt [a,b] [c,d]=false)(h2:HT.lexLt [c,d] [a,b]=false):a=c/\b=d:=by have:=HT.lexLt_total h1 h2;simpa using this
theorem zcC.one{W W':Wk}{s:Str}{e f:Edge}(p:(W.map (·.1)).Perm (W'.map (·.1)))(h:zcC W s e)(k:zcC W' s f):e=f:=by obtain⟨h1,h2,h3⟩:=h;obtain⟨k1,k2,k3⟩:=k;have a:=h3 f (p.mem_iff.mpr k1) k2;have b:=k3 e (p.mem_iff.mp h1) h2;obtain⟨q1,q2⟩:=lex2 a b;obtain⟨⟨x,y⟩,w⟩:=e;obtain⟨⟨x',y'⟩,w'⟩:=f;simp only at q1 q2 h2 k2;rw[h2,k2,q1,q2]
noncomputable def begE(r:Rnd):Edge:=⟨(r.x,r.y),kOf r.so⟩
theorem IsRnd.beg {C:Cell->Bool}{es:List Edge}{r:Rnd}(h:IsRnd (wk C es) r):begE r∈es/\(r.so = "rim" ∨ r.so = "hole"):=by
 obtain⟨r0,i,f,rf,⟨rb,rw',_⟩,rx,ry,rr⟩:=h;rw[zdr]at rb;refine⟨?_,by rw[r0];exact zfL _⟩
 have:begE r=f:=by obtain⟨⟨x,y⟩,w⟩:=f;unfold begE;rw[rx,ry,r0];simp only at rw' ⊢;rw[rw']
 rw[this];exact rb
theorem Part.got{C:Cell->Bool}{ESS:List (List Edge)}{R:List Rnd}(h:Part C ESS R){i:Nat}{r:Rnd}(hr:R[i]?=some r):∃es b,ESS[i]?=some es/\Closed C b es/\IsRnd (wk C es) r:=by have hi:=(Ae.mp hr).1;rw[h.len]at hi;obtain⟨⟨b,hb⟩,q⟩:=h.each i _ r (Ab hi) hr;exact⟨_,b,Ab hi,hb,q⟩
theorem Part.so {C:Cell->Bool}{ESS:List (List Edge)}{R:List Rnd}(h:Part C ESS R){r:Rnd}(hr:r∈R):r.so = "rim" ∨ r.so = "hole":=by obtain⟨i,hi,ei⟩:=A6 hr;obtain⟨es,b,h1,h2,h3⟩:=h.got (by rw[Ab hi,ei]);exact h3.beg.2
theorem zi1(s:Nat):∀(l:List Nat) (w:Nat),dgo w (l++[s])=((dgo w l).1++(Ac ((zbj s+4-(dgo w l).2) % 4) none++[some s]),wayB s)
 |[],w=>by simp[dgo]
 |a::l,w=>by
  have ih:=zi1 s l (wayB a);show (Ac ((zbj a+4-w) % 4) none++some a::(dgo (wayB a) (l++[s])).1,(dgo (wayB a) (l++[s])).2)=_;rw[ih];show _=((Ac ((zbj a+4-w) % 4) none++some a::(dgo (wayB a) l).1)++_,_);simp;rfl
theorem zgq:∀(l:List Nat) (w:Nat),(dgo w l).1.length<=4*l.length
 |[],w=>by simp[dgo]
 |a::l,w=>by
  have ih:=zgq l (wayB a);show (Ac ((zbj a+4-w) % 4) none++some a::(dgo (wayB a) l).1).length<=_;have:(zbj a+4-w) % 4<4:=Cv _ (by decide);simp only[Am,AR,A9];lia
theorem zh4:∀(l:List Nat) (w:Nat),w<4->(dgo w l).2<4
 |[],w,h=>h
 |a::l,w,h=>zh4 l (wayB a) (Cv _ (by decide))
theorem zjN(s:Nat):zbj s<4:=Cv _ (by decide)
theorem ziY(n:Nat):(Ac n [V.non]).flatten=(Ac n (none:Option Nat)).map sv:=by
 induction n with
 |zero=>rfl
 |succ n ih=>rw[Bh,Bi,ih];rfl
theorem zbk{n:Nat}(h:n<=5000):n<sizeLine:=Es h (by decide)
theorem zmE:1<=sizeLine:=by decide
noncomputable def zgL:Sp:=λvs H Q _=>∃(v:V) (r:Rnd),vs=[v]/\rR r v H/\(r.so = "rim" ∨ r.so = "hole")/\∀p H',H p=none->Same H H'->H' p=some (.tup (edgeT (begE r)))->Q (.ref p) H'
theorem zgb (T:Txt P w K mg) (d:Df K mg "begin_edge" zcQ ["one"]):FnOk P w K mg base CX0 1 d.f d.fd ["one"] zgL:=by
 refine d.F.ok zbr (λvs H Q E h=>?_) (λcdv A outer s H vs Q E hr h=>?_)
 .obtain⟨v,r,rfl,_⟩:=h;rfl
 .obtain⟨v,r,rfl,⟨a,b,rfl,q1,q2⟩,hso,k⟩:=h
  refine⟨_,(zac (zbm (pv 0) (zba (by rfl) (zaf (nG 1 zbr.nd) (zaf (nG 2 zbr.nd) (zaf (nG 3 zbr.nd) (zaf (nG 4 zbr.nd) zat))))))
   (zag (zak (zam (pa_N (pv 2) (pa_N (pv 3) (zah (zks (by rfl) T.ways (pv 1)) zab))))))),?_⟩
  refine⟨_,rfl,a,_,rfl,SqT.of q1,rfl,_,_,rfl,_,_,rfl,_,_,rfl,_,_,rfl,rfl,?_⟩;refine⟨_,rfl,_,rfl,_,rfl,?_⟩;rcases hso with e |e
  .refine .inl ⟨by rw[e],three,λp hp=>k p _ hp (Same.up hp) ?_⟩;rw[zaa];unfold begE edgeT kOf;simp only[e];rfl
  .refine .inr ⟨by rw[e],three,λp hp=>k p _ hp (Same.up hp) ?_⟩;rw[zaa];unfold begE edgeT kOf;simp only[e];rfl
noncomputable def zin:Sp:=λvs H Q _=>∃s:Nat,vs=[.int s]/\Q (.int (zbj s:Nat)) H
theorem zjo (d:Df K mg "way_for" zex ["step"]):FnOk P w K mg base CX0 1 d.f d.fd ["step"] zin:=by
 refine d.F.ok zjj (λvs H Q E h=>?_) (λcdv A outer s H vs Q E hr h=>?_)
 .obtain⟨s,rfl,_⟩:=h;rfl
 .obtain⟨t,rfl,k⟩:=h;refine⟨_,(zag (zak (pe_op zaS (pe_op zhQ (pe_op zaL (pv 0) zae) zae) zae))),?_⟩;refine⟨_,rfl,_,_,rfl,rfl,_,_,rfl,rfl,⟨by decide,by decide⟩,_,_,rfl,rfl,(by show (0:Int)<4;decide),?_⟩;have e:((t:Int)+1) / 2 % 4=(zbj t:Nat):=by unfold zbj;lia
  show Q (V.int (((t:Int)+1) / 2 % 4)) H;rw[e];exact k
noncomputable def zj8(K:W.Frag):Sp:=λvs H Q _=>∃(wn:Nat) (b:Addr) (row:List Nat),vs=[.int (wn:Int),.ref b]/\wn<4/\SqT K H b (rowV row)/\row.length<=500 /\
 ∀p H',H p=none->Same H H'->H' p=some (.lst ((deeds wn row).map sv))->Q (.ref p) H'
theorem zfb (g_way_for:Fn P w K mg base 1 "way_for" ["step"] zin) (d:Df K mg "deeds_along" zcs ["begin_way","row"]):FnOk P w K mg base CX0 2 d.f d.fd ["begin_way","row"] (zj8 K):=by
 refine d.F.ok za2 (λvs H Q E h=>?_) (λcdv A outer s H vs Q E hr h=>?_)
 .obtain⟨wn,b,row,rfl,_⟩:=h;rfl
 .obtain⟨wn,b,row,rfl,hw,hq,hlen,k⟩:=h
  refine⟨_,(zac (sE 2 za2.nd (pv 0))
   (zac (sE 3 za2.nd (zaV zab))
   (zac (zb6 Bs rfl (zgT (pv 1)) (nG 4 za2.nd)
   (zac (zaY (pe_bm AO Eg Eh zeI (pv 3) (pa_B (pe_op zmD (zaV (pa_C za5 zab)) (pe_op zaS (pe_op zda (pC g_way_for hr (pa_N (pv 4) zab)) (pv 2)) zae)) zab)))
   (zac (zaY (pe_bm AO A4 A5 zaM (pv 3) (pa_N (pv 4) zab)))
   (zag (sE 2 za2.nd (pe_op zaS (pe_op zda (pC g_way_for hr (pa_N (pv 4) zab)) (pe_op zaS (pv 4) zae)) zae))))))
   (zac (sE 5 za2.nd (zbT (zef (pv 1) (λ_=>rfl)) (pe_op zaS (pe_op zda (pv 0) (pv 2)) zae) zae))
   (zag (zak (pe_op zfw (pv 3) (pe_op zmD (zaV (pa_C za5 zab)) (pv 5))))))))),?_⟩
  refine⟨_,rfl,(by show 0<=sizeLine;decide),λp hp=>?_⟩;have s0:Same H (upd H p (.lst [])):=Same.up hp;have e0:upd H p (.lst []) p=some (.lst []):=zaa;generalize upd H p (.lst [])=H0 at s0 e0;refine⟨_,rfl,b,rfl,⟨_,s0.seqT hq⟩,?_⟩;have hrl:(rowV row).length=row.length:=by unfold rowV;exact Ag _
  refine zeP (K:=K) (a:=b) (xs:=rowV row) (λi σ H1=>∃o4 o5,σ=[some (.int (wn:Int)),some (.ref b),some (.int ((dgo wn (row.take i)).2:Nat)),some (.ref p),o4,o5]/\Same H H1/\H1 p=some (.lst ((dgo wn (row.take i)).1.map sv)))
   ⟨_,_,rfl,s0,e0⟩ (λi σ H1 _ ⟨_,_,_,s1,_⟩=>s1.seqT hq) ?_ ?_
  .rintro i v σ H1 hi ⟨o4,o5,rfl,s1,e1⟩;have hi':i<row.length:=by rw[<- hrl];exact (Ae.mp hi).1
   unfold rowV at hi;rw[Ay,Ab hi']at hi
   cases hi
   have hdl:=zgq (row.take i) wn;rw[AA]at hdl;have hdw:=zh4 (row.take i) wn hw;have hwf:=zjN row[i];have hn:=zi1 row[i] (row.take i) wn;rw[<- zay (Ab hi')]at hn;refine⟨_,rfl,.inl ⟨rfl,_,SqL.of e1⟩,zmE,λl hl=>?_⟩;have s2:Same H1 (upd H1 l (.lst [.non])):=Same.up hl;have e2:upd H1 l (.lst [.non]) l=some (.lst [.non]):=zaa;generalize upd H1 l (.lst [.non])=H2 at s2 e2;refine⟨_,rfl,row[i],rfl,?_⟩;refine⟨_,rfl,_,_,rfl,rfl,_,_,rfl,rfl,(by show (0:Int)<4;decide),?_⟩;have ek:(((zbj row[i]:Nat):Int)-((dgo wn (row.take i)).2:Nat)) % 4=(((zbj row[i]+4-(dgo wn (row.take i)).2) % 4:Nat):Int):=by lia
   have k4:(zbj row[i]+4-(dgo wn (row.take i)).2) % 4<4:=Cv _ (by decide);generalize hk:(zbj row[i]+4-(dgo wn (row.take i)).2) % 4=kk at *;refine⟨l,(kk:Int),_,rfl,congrArg V.int ek,e2,by lia,by lia,(BD (small1000 (by simp;lia))),λq hq'=>?_⟩;rw[BV,ziY];have s3:Same H2 (upd H2 q (.lst ((Ac kk (none:Option Nat)).map sv))):=Same.up hq';have e3:upd H2 q (.lst ((Ac kk (none:Option Nat)).map sv)) q=some (.lst ((Ac kk (none:Option Nat)).map sv)):=zaa;have hpq:p≠q:=λz=>by subst z;rw[s2 _ _ e1]at hq';cases hq'
   generalize upd H2 q (.lst ((Ac kk (none:Option Nat)).map sv))=H3 at s3 e3;have e13:=s3 _ _ (s2 _ _ e1);refine⟨p,q,_,_,rfl,rfl,e13,e3,?_,?_⟩
   .simp only[Ag,AR];exact BD (zbk (by lia))
   have hp2:H p=none:=hp;have s4:Same H (upd H3 p (.lst ((dgo wn (row.take i)).1.map sv++(Ac kk (none:Option Nat)).map sv))):=zaj hp2 (s1.trans (s2.trans s3));have e4:upd H3 p (.lst ((dgo wn (row.take i)).1.map sv++(Ac kk (none:Option Nat)).map sv)) p=some (.lst ((dgo wn (row.take i)).1.map sv++(Ac kk (none:Option Nat)).map sv)):=zaa;generalize upd H3 p (.lst ((dgo wn (row.take i)).1.map sv++(Ac kk (none:Option Nat)).map sv))=H4 at s4 e4;refine⟨_,rfl,.inl ⟨rfl,_,SqL.of e4⟩,_,rfl,p,_,_,rfl,rfl,e4,?_,?_⟩
   .simp only[Am,Ag,AR];exact zbk (by lia)
   have s5:Same H (upd H4 p (.lst (((dgo wn (row.take i)).1.map sv++(Ac kk (none:Option Nat)).map sv)++[V.int (row[i]:Nat)]))):=zaj hp2 s4
   have e5:upd H4 p (.lst (((dgo wn (row.take i)).1.map sv++(Ac kk (none:Option Nat)).map sv)++[V.int (row[i]:Nat)])) p=some (.lst ((dgo wn (row.take (i+1))).1.map sv)):=by rw[zaa,hn];simp[sv]
   generalize upd H4 p (.lst (((dgo wn (row.take i)).1.map sv++(Ac kk (none:Option Nat)).map sv)++[V.int (row[i]:Nat)]))=H5 at s5 e5;refine⟨_,rfl,row[i],rfl,?_⟩;refine⟨_,rfl,_,_,rfl,rfl,(by show (0:Int)<2;decide),_,_,rfl,rfl,_,_,rfl,rfl,(by show (0:Int)<4;decide),?_⟩
   have ew:(((zbj row[i]:Nat):Int)-(row[i]:Int) % 2) % 4=((dgo wn (row.take (i+1))).2:Nat):=by rw[hn];show _=((wayB row[i]:Nat):Int);unfold wayB;lia
   refine⟨some (V.int (row[i]:Nat)),o5,?_,s5,e5⟩;exact congrArg (λz:Int=>[some (V.int (wn:Int)),some (V.ref b),some (V.int z),some (V.ref p),some (V.int (row[i]:Nat)),o5]) ew
  .rintro σ H1 ⟨o4,o5,rfl,s1,e1⟩;rw[hrl,AL]at e1;rw[hrl,AL];have hdl:=zgq row wn;have hdw:=zh4 row wn hw
   have fin:∀z:Int,z=(zaQ wn row:Nat)->tRet (tOp rCat (tVar 3) (tOp rRep (tLst (tCons (tC .non) tNil)) (tVar 5))) { nx:=λ_ H'=>Q .non H',rt:=Q } [some (.int (wn:Int)),some (.ref b),some (.int ((dgo wn row).2:Nat)),some (.ref p),o4,some (.int z)] H1:=λz hz=>by
    have hll:zaQ wn row<=4:=by
     unfold zaQ;split
     .decide
     .exact BD (Cv _ (by decide))
    refine⟨_,rfl,zmE,λl hl=>?_⟩;have s2:Same H1 (upd H1 l (.lst [.non])):=Same.up hl;have e2:upd H1 l (.lst [.non]) l=some (.lst [.non]):=zaa;generalize upd H1 l (.lst [.non])=H2 at s2 e2;subst hz;refine⟨_,rfl,l,_,_,rfl,rfl,e2,by lia,by lia,(BD (small1000 (by simp;lia))),λq hq'=>?_⟩;rw[BV,ziY];have s3:Same H2 (upd H2 q (.lst ((Ac (zaQ wn row) (none:Option Nat)).map sv))):=Same.up hq';have e3:upd H2 q (.lst ((Ac (zaQ wn row) (none:Option Nat)).map sv)) q=some (.lst ((Ac (zaQ wn row) (none:Option Nat)).map sv)):=zaa;generalize upd H2 q (.lst ((Ac (zaQ wn row) (none:Option Nat)).map sv))=H3 at s3 e3;refine⟨p,q,_,_,rfl,rfl,s3 _ _ (s2 _ _ e1),e3,?_,λx hx=>?_⟩
    .simp only[Ag,AR];exact BD (zbk (by lia))
    .have s13:=s1.trans (s2.trans s3);refine k x _ (s13.free hx) (s13.trans (Same.up hx)) ?_
     rw[zaa];unfold deeds;rw[Aq]
   refine⟨_,rfl,_,.inr (.inl ⟨_,s1.seqT hq,rfl⟩),?_⟩
   by_cases he:row=[]
   .exact iteN (by rw[he];rfl) (fin 4 (by rw[he];rfl))
   .refine iteY (by cases row with |nil=>exact absurd rfl he |cons x r=>rfl) ⟨_,rfl,_,rfl,_,_,rfl,rfl,_,_,rfl,rfl,(by show (0:Int)<4;decide),fin _ ?_⟩
    have hl:zaQ wn row=(wn+4-(dgo wn row).2) % 4:=by unfold zaQ;rw[if_neg (by simpa using he)]
    rw[hl];lia
noncomputable def wby:Edge->List (Option Nat)->List (Edge×Option Nat)
 |_,[]=>[]
 |e,d::r=>(e,d)::wby (edgeB e d) r
noncomputable def eAt:Edge->List (Option Nat)->Edge
 |e,[]=>e
 |e,d::r=>eAt (edgeB e d) r
theorem zi0(d:Option Nat):∀(l:List (Option Nat)) (e:Edge),eAt e (l++[d])=edgeB (eAt e l) d
 |[],_=>rfl
 |_::l,e=>zi0 d l _
theorem zid(d:Option Nat):∀(l:List (Option Nat)) (e:Edge),wby e (l++[d])=wby e l++[(eAt e l,d)]
 |[],_=>rfl
 |a::l,e=>by
  show (e,a)::wby (edgeB e a) (l++[d])=_;rw[zid d l];rfl
theorem zfj:∀(l:List (Option Nat)) (e:Edge),(wby e l).length=l.length
 |[],_=>rfl
 |a::l,e=>by show (wby (edgeB e a) l).length+1=_;rw[zfj l];rfl
theorem zma{e:Edge}{o:Option Nat}(h:e.w<4):(edgeB e o).w<4:=by
 unfold edgeB
 cases o with
 |none=>exact Cv _ (by decide)
 |some s=>simp only;split <;> simp only <;> lia
theorem zmK:∀(l:List (Option Nat)){e:Edge},e.w<4->(eAt e l).w<4
 |[],_,h=>h
 |_::l,_,h=>zmK l (zma h)
theorem zgC{C:Cell->Bool}:∀(es:List Edge){b:Edge},es[0]?=some b∨es=[]->(∀i e f,es[i]?=some e->es[i+1]?=some f->f=nxt C e)->wby b (es.map (stepB C))=wk C es
 |[],_,_,_=>rfl
 |e::r,b,h0,hs=>by
  have hb:e=b:=by rcases h0 with h |h;simpa using h;cases h
  subst hb;show (e,stepB C e)::wby (nxt C e) (r.map (stepB C))=(e,stepB C e)::wk C r;rw[zgC r (b:=nxt C e) ?_ λi x y h1 h2=>hs (i+1) x y (by simpa using h1) (by simpa using h2)]
  cases r with
  |nil=>exact .inr rfl
  |cons f r=>exact .inl (by have:=hs 0 e f rfl rfl;rw[<- this];rfl)
noncomputable def zir(K:W.Frag):Sp:=λvs H Q _=>∃(a l:Addr) (b:Edge) (ds:List (Option Nat)),vs=[.ref a,.ref l]/\H a=some (.tup (edgeT b))/\b.w<4/\H l=some (.lst (ds.map sv))/\(∀s,some s∈ds->s<8)/\ds.length<=3000 /\
 ∀p H' ws,H p=none->Same H H'->H' p=some (.lst ws)->VR ws (wby b ds) wR H'->Q (.ref p) H'
theorem zjq (g_edge_behind:Fn P w K mg base 2 "edge_behind" ["edge","step"] (zfJ K)) (d:Df K mg "walk_by" zez ["begin","deeds"]):FnOk P w K mg base CX0 3 d.f d.fd ["begin","deeds"] (zir K):=by
 refine d.F.ok zch (λvs H Q E h=>?_) (λcdv A outer s H vs Q E hr h=>?_)
 .obtain⟨a,l,b,ds,rfl,_⟩:=h;rfl
 .obtain⟨a,l,b,ds,rfl,ha,hb,hl,h8,hlen,k⟩:=h
  refine⟨_,(zac (sE 2 zch.nd (zaV zab))
   (zac (sE 3 zch.nd (pv 0))
   (zac (zb6 Bs rfl (zaU (pv 1)) (nG 4 zch.nd)
   (zac (zaY (pe_bm AO A4 A5 zaM (pv 2) (pa_T (zam (pa_N (pv 3) (pa_N (pv 4) zab))) zab)))
   (zag (sE 3 zch.nd (pC g_edge_behind hr (pa_N (pv 3) (pa_N (pv 4) zab)))))))
   (zag (zak (pv 2)))))),?_⟩
  refine⟨(by show 0<=sizeLine;decide),λp hp=>?_⟩;have s0:Same H (upd H p (.lst [])):=Same.up hp;have e0:upd H p (.lst []) p=some (.lst []):=zaa;generalize upd H p (.lst [])=H0 at s0 e0;refine⟨_,rfl,_,rfl,l,rfl,⟨_,SqL.of (s0 _ _ hl)⟩,?_⟩
  refine zaH (K:=K) (a:=l) (xs:=ds.map sv) (λi σ H1=>∃(c:Addr) (o4:Option V) (ws:List V),σ=[some (.ref a),some (.ref l),some (.ref p),some (.ref c),o4]/\Same H H1/\H1 c=some (.tup (edgeT (eAt b (ds.take i))))/\H1 p=some (.lst ws)/\VR ws (wby b (ds.take i)) wR H1)
   ⟨a,_,[],rfl,s0,s0 _ _ ha,e0,VR.nil⟩ (λi σ H1 _ ⟨_,_,_,_,s1,_⟩=>SqL.of (s1 _ _ hl)) ?_ ?_
  .rintro i v σ H1 hi ⟨c,o4,ws,rfl,s1,hc,e1,hv⟩;have hi':i<ds.length:=by have:=(Ae.mp hi).1;rwa [Ag]at this
   rw[Ay,Ab hi']at hi
   cases hi
   have tk:=zay (Ab hi');have wl:ws.length<=3000:=by rw[hv.1,zfj,AA];lia
   refine⟨_,rfl,.inl ⟨rfl,_,SqL.of e1⟩,_,rfl,_,rfl,two,λt ht=>?_⟩;have s2:Same H1 (upd H1 t (.tup [.ref c,sv ds[i]])):=Same.up ht;have e2:upd H1 t (.tup [.ref c,sv ds[i]]) t=some (.tup [.ref c,sv ds[i]]):=zaa;generalize upd H1 t (.tup [.ref c,sv ds[i]])=H2 at s2 e2;have e12:=s2 _ _ e1;refine⟨p,ws,_,rfl,rfl,e12,zbk (by lia),?_⟩;have kt3:KT H2 (upd H2 p (.lst (ws++[.ref t]))):=KT.lst e12;have s3:Same H (upd H2 p (.lst (ws++[.ref t]))):=zaj hp (s1.trans s2);have e3:upd H2 p (.lst (ws++[.ref t])) p=some (.lst (ws++[.ref t])):=zaa;generalize upd H2 p (.lst (ws++[.ref t]))=H3 at kt3 s3 e3;have hc3:=kt3 _ _ (s2 _ _ hc);refine⟨_,rfl,_,rfl,c,eAt b (ds.take i),ds[i],rfl,SqT.of hc3,zmK _ hb,λz hz=>h8 z (hz ▸ BA _),λq H4 hq s4 e4=>?_⟩;refine⟨q,_,ws++[.ref t],rfl,s3.trans s4,?_,s4 _ _ e3,?_⟩
   .rw[tk,zi0];exact e4
   .rw[tk,zid];exact hv.snoc (λx v h=>((h.kt (KT.of s2)).kt kt3).kt (KT.of s4)) ⟨t,c,rfl,s4 _ _ (kt3 _ _ e2),s4 _ _ hc3⟩
  .rintro σ H1 ⟨c,o4,ws,rfl,s1,hc,e1,hv⟩;rw[Ag,AL]at hv;exact⟨_,rfl,k p H1 ws hp s1 e1 hv⟩
noncomputable def zet(K:W.Frag):Sp:=λvs H Q _=>∃(a b:Addr) (e:Edge) (row:List Nat),vs=[.ref a,.ref b]/\H a=some (.tup (edgeT e))/\e.w<4/\SqT K H b (rowV row)/\row.length<=500/\(∀s,some s∈deeds e.w row->s<8) /\
 ∀p H' ws,H p=none->Same H H'->H' p=some (.lst ws)->VR ws (wby e (deeds e.w row)) wR H'->Q (.ref p) H'
theorem zf0 (g_walk_by:Fn P w K mg base 3 "walk_by" ["begin","deeds"] (zir K)) (g_deeds_along:Fn P w K mg base 2 "deeds_along" ["begin_way","row"] (zj8 K)) (d:Df K mg "walk_along" zcK ["begin","row"]):FnOk P w K mg base CX0 4 d.f d.fd ["begin","row"] (zet K):=by
 refine d.F.ok zfN (λvs H Q E h=>?_) (λcdv A outer s H vs Q E hr h=>?_)
 .obtain⟨a,b,e,row,rfl,_⟩:=h;rfl
 .obtain⟨a,b,e,row,rfl,ha,hw,hq,hlen,h8,k⟩:=h;refine⟨_,(zag (zak (pC g_walk_by hr (pa_N (pv 0) (zah (pC g_deeds_along hr (zah (pe_ix zbn (pv 0) zae (λ_ _=>rfl)) (pa_N (pv 1) zab))) zab))))),?_⟩;refine⟨_,rfl,_,rfl,a,_,_,_,rfl,rfl,SqT.of ha,zaE (j:=2) rfl,_,rfl,e.w,b,row,rfl,hw,hq,hlen,λp H1 hp s1 e1=>?_⟩
  have hd:(deeds e.w row).length<=3000:=by
   unfold deeds;have:=zgq row e.w
   have:zaQ e.w row<=4:=by
    unfold zaQ;split
    .decide
    .exact BD (Cv _ (by decide))
   simp only[Am,AR];lia
  exact⟨a,p,e,_,rfl,s1 _ _ ha,hw,e1,h8,hd,λq H2 ws hq2 s2 e2 hv=>k q H2 ws (s1.free hq2) (s1.trans s2) e2 hv⟩
noncomputable def sR(q:Cell×Bool)(v:V)(H:Hp):Prop:=∃A b,v=.ref A/\H A=some (.tup [.ref b,.bl q.2])/\H b=some (.tup (cellT q.1))
theorem sR.kt{q:Cell×Bool}{v:V}{H H':Hp}(h:sR q v H)(s:KT H H'):sR q v H':=let ⟨A,b,e,q1,q2⟩:=h;⟨A,b,e,s _ _ q1,s _ _ q2⟩
noncomputable def zmo(K:W.Frag):Sp:=λvs H Q _=>∃(a:Addr) (C:Cell->Bool) (e:Edge),vs=[.ref a,sv (stepB C e)]/\H a=some (.tup (edgeT e))/\IsE C e /\
 ∀p H' ss L,H p=none->Same H H'->H' p=some (.lst ss)->VR ss L sR H'->(∀q∈L,C q.1=q.2)->L.length<=6->Q (.ref p) H'
theorem zeF (g_edge_behind:Fn P w K mg base 2 "edge_behind" ["edge", "step"] (zfJ K)) (g_gap_beside:Fn P w K mg base 2 "gap_beside" ["edge"] (spGap K)) (g_is_slant:Fn P w K mg base 1 "is_slant" ["step"] zdv)
  (g_gone:Fn P w K mg base 1 "gone" ["x","y","step"] zeu) (g_slant_step:Fn P w K mg base 1 "slant_step" ["way"] zj0) (g_straight_step:Fn P w K mg base 1 "straight_step" ["way"] zfm)
  (d:Df K mg "seen_between" zb8 ["edge","step"]):FnOk P w K mg base CX0 3 d.f d.fd ["edge","step"] (zmo K):=by
 refine d.F.ok zaT (λvs H Q E h=>?_) (λcdv A outer s H vs Q E hr h=>?_)
 .obtain⟨a,C,e,rfl,_⟩:=h;rfl
 .obtain⟨a,C,e,rfl,ha,hE,k⟩:=h
  refine⟨_,(zac (zbm (pv 0) (zba (by rfl) (zaf (nG 2 zaT.nd) (zaf (nG 3 zaT.nd) (zaf (nG 4 zaT.nd) zat)))))
   (zac (sE 5 zaT.nd (pC g_edge_behind hr (pa_N (pv 0) (pa_N (pv 1) zab))))
   (zac (sE 6 zaT.nd (zaV (pa_T (zam (pa_T (zam (pa_N (pv 2) (pa_N (pv 3) zab))) (pa_C pe_bl zab))) (pa_T (zam (zah (pC g_gap_beside hr (pa_N (pv 0) zab)) (pa_C pe_bl zab))) (pa_T (zam (zah (zbS zm2 (pv 5) zcU (zca zae)) (pa_C pe_bl zab))) (pa_T (zam (zah (pC g_gap_beside hr (pa_N (pv 5) zab)) (pa_C pe_bl zab))) zab))))))
   (zac (ps_if (zck (zbK (pC g_is_slant hr (pa_N (pv 1) zab))))
   (zag (zaY (pe_bm AO A4 A5 zaM (pv 6) (pa_T (zam (zah (pC g_gone hr (pa_N (pv 2) (pa_N (pv 3) (zah (pC g_slant_step hr (pa_N (pv 4) zab)) zab)))) (pa_C pe_bl zab))) zab))))
   zaB)
   (zac (ps_if (zap ziK (pv 1) za5 (zaq _))
   (zag (zaY (pe_bm AO A4 A5 zaM (pv 6) (pa_T (zam (zah (pC g_gone hr (pa_N (pv 2) (pa_N (pv 3) (zah (pC g_straight_step hr (pa_N (pv 4) zab)) zab)))) (pa_C pe_bl zab))) zab))))
   zaB)
   (zag (zak (pv 6)))))))),?_⟩
  have hw:=hE.1;have hN:=zfx hE;refine⟨_,rfl,a,_,rfl,SqT.of ha,rfl,_,_,rfl,_,_,rfl,_,_,rfl,rfl,?_⟩;refine⟨_,rfl,_,rfl,a,e,stepB C e,rfl,SqT.of ha,hw,zfH hw,λp1 H1 hp1 s1 e1=>?_⟩;change H1 p1=some (.tup (edgeT (nxt C e))) at e1;refine⟨_,rfl,_,rfl,two,λt1 ht1=>⟨two,λt2 ht2=>?_⟩⟩;have s2:Same H1 (upd (upd H1 t1 (.tup [.int e.c.1,.int e.c.2])) t2 (.tup [.ref t1,.bl true])):=(Same.up ht1).trans (Same.up ht2);have r1:sR (e.c,true) (.ref t2) (upd (upd H1 t1 (.tup [.int e.c.1,.int e.c.2])) t2 (.tup [.ref t1,.bl true])):=⟨t2,t1,rfl,zaa,by rw[zai (λz=>by subst z;rw[zaa]at ht2;cases ht2),zaa];rfl⟩;generalize upd (upd H1 t1 (.tup [.int e.c.1,.int e.c.2])) t2 (.tup [.ref t1,.bl true])=H2 at s2 r1;refine⟨_,rfl,a,e,rfl,SqT.of ((s1.trans s2) _ _ ha),hw,λp3 H3 hp3 s3 e3=>⟨two,λt3 ht3=>?_⟩⟩;have s4:Same H3 (upd H3 t3 (.tup [.ref p3,.bl false])):=Same.up ht3;have r2:sR (gap e,false) (.ref t3) (upd H3 t3 (.tup [.ref p3,.bl false])):=⟨t3,p3,rfl,zaa,s4 _ _ e3⟩;generalize upd H3 t3 (.tup [.ref p3,.bl false])=H4 at s4 r2;have s14:=s2.trans (s3.trans s4);have e14:=s14 _ _ e1;have hs1:HT.sIx 3 3 (some 2)=2:=by decide
  refine⟨_,rfl,_,rfl,p1,_,rfl,SqT.of e14,λhx=>absurd (show (3:Nat)=2 from hx.2.symm.trans hs1) (by decide),λ_ t5 ht5=>⟨two,λt6 ht6=>?_⟩⟩;have ec:cutV (edgeT (nxt C e)) none (some 2)=cellT (nxt C e).c:=rfl;have s6:Same H4 (upd (upd H4 t5 (.tup (cutV (edgeT (nxt C e)) none (some 2)))) t6 (.tup [.ref t5,.bl true])):=(Same.up ht5).trans (Same.up ht6);have r3:sR ((nxt C e).c,true) (.ref t6) (upd (upd H4 t5 (.tup (cutV (edgeT (nxt C e)) none (some 2)))) t6 (.tup [.ref t5,.bl true])):=⟨t6,t5,rfl,zaa,by rw[zai (λz=>by subst z;rw[zaa]at ht6;cases ht6),zaa,ec]⟩;generalize upd (upd H4 t5 (.tup (cutV (edgeT (nxt C e)) none (some 2)))) t6 (.tup [.ref t5,.bl true])=H6 at s6 r3;refine⟨_,rfl,p1,nxt C e,rfl,SqT.of (s6 _ _ e14),hN.1,λp7 H7 hp7 s7 e7=>⟨two,λt7 ht7=>?_⟩⟩;have s8:Same H7 (upd H7 t7 (.tup [.ref p7,.bl false])):=Same.up ht7;have r4:sR (gap (nxt C e),false) (.ref t7) (upd H7 t7 (.tup [.ref p7,.bl false])):=⟨t7,p7,rfl,zaa,s8 _ _ e7⟩;generalize upd H7 t7 (.tup [.ref p7,.bl false])=H8 at s8 r4;refine⟨(by show 4<=sizeLine;decide),λl hl=>?_⟩;have s48:=s6.trans (s7.trans s8);have s28:=s3.trans (s4.trans s48);have s08:=s1.trans (s2.trans s28);have kl:KT H8 (upd H8 l (.lst [.ref t2,.ref t3,.ref t6,.ref t7])):=KT.up hl;have sl:Same H (upd H8 l (.lst [.ref t2,.ref t3,.ref t6,.ref t7])):=s08.trans (Same.up hl);have el:upd H8 l (.lst [.ref t2,.ref t3,.ref t6,.ref t7]) l=some (.lst [.ref t2,.ref t3,.ref t6,.ref t7]):=zaa;have hl0:H l=none:=s08.free hl
  have hv:VR [.ref t2,.ref t3,.ref t6,.ref t7] [(e.c,true),(gap e,false),((nxt C e).c,true),(gap (nxt C e),false)] sR (upd H8 l (.lst [.ref t2,.ref t3,.ref t6,.ref t7])) :=
   VR.cons.mpr ⟨(r1.kt (KT.of s28)).kt kl,VR.cons.mpr ⟨(r2.kt (KT.of s48)).kt kl,VR.cons.mpr ⟨(r3.kt (KT.of (s7.trans s8))).kt kl,VR.cons.mpr ⟨r4.kt kl,VR.nil⟩⟩⟩⟩
  generalize upd H8 l (.lst [.ref t2,.ref t3,.ref t6,.ref t7])=H9 at kl sl el hv
  have hL:∀q∈[(e.c,true),(gap e,false),((nxt C e).c,true),(gap (nxt C e),false)],C q.1=q.2:=by
   intro q hq;simp only[AI,Cw,or_false]at hq;rcases hq with rfl |rfl |rfl |rfl
   .exact hE.2.1
   .exact hE.2.2
   .exact hN.2.1
   .exact hN.2.2
  rcases zbu hE with⟨c1,hs,_⟩ |⟨c1,c2,hs,_⟩ |⟨c1,c2,hs,_⟩ <;> rw[hs]
  .refine⟨_,rfl,some ((2*e.w+7) % 8),rfl,_,rfl,?_⟩;have:slant (some ((2*e.w+7) % 8))=true:=by show ((2*e.w+7) % 8 % 2 == 1)=true;rw[odd7];rfl
   rw[this];refine iteF ?_
   refine⟨_,rfl,rfl,_,rfl,iteF ?_⟩;exact⟨_,rfl,k l H9 _ _ hl0 sl el hv hL (by show 4<=6;decide)⟩
  .refine⟨_,rfl,some (2*e.w),rfl,_,rfl,?_⟩;have:slant (some (2*e.w))=false:=by show ((2*e.w) % 2 == 1)=false;rw[show 2*e.w % 2=0 by lia];rfl
   rw[this];refine iteT ?_
   refine⟨_,rfl,.inl ⟨rfl,_,SqL.of el⟩,_,rfl,_,rfl,_,rfl,e.w,rfl,hw,e.c,(2*e.w+7) % 8,rfl,Cv _ (by decide),λp10 H10 hp10 s10 e10=>⟨two,λt11 ht11=>?_⟩⟩;have s11:Same H10 (upd H10 t11 (.tup [.ref p10,.bl false])):=Same.up ht11;have r5:sR (go e.c ((2*e.w+7) % 8),false) (.ref t11) (upd H10 t11 (.tup [.ref p10,.bl false])):=⟨t11,p10,rfl,zaa,s11 _ _ e10⟩;generalize upd H10 t11 (.tup [.ref p10,.bl false])=H11 at s11 r5;have el11:=(s10.trans s11) _ _ el;refine⟨l,_,_,rfl,rfl,el11,zbk (by show 4<=5000;decide),?_⟩;have kt12:KT H11 (upd H11 l (.lst ([.ref t2,.ref t3,.ref t6,.ref t7]++[.ref t11]))):=KT.lst el11;have s12:Same H (upd H11 l (.lst ([.ref t2,.ref t3,.ref t6,.ref t7]++[.ref t11]))):=zaj hl0 (sl.trans (s10.trans s11));have e12:upd H11 l (.lst ([.ref t2,.ref t3,.ref t6,.ref t7]++[.ref t11])) l=some (.lst ([.ref t2,.ref t3,.ref t6,.ref t7]++[.ref t11])):=zaa;have hv12:=hv.snoc (λx v h=>(h.kt (KT.of (s10.trans s11))).kt kt12) (r5.kt kt12);generalize upd H11 l (.lst ([.ref t2,.ref t3,.ref t6,.ref t7]++[.ref t11]))=H12 at kt12 s12 e12 hv12;refine⟨_,rfl,rfl,_,rfl,iteF ?_⟩;refine⟨_,rfl,k l H12 _ _ hl0 s12 e12 hv12 (λq hq=>?_) (by show 5<=6;decide)⟩;rcases Az.mp hq with m |m
   .exact hL q m
   .rw[Ao.mp m];exact c1
  .refine⟨_,rfl,none,rfl,_,rfl,iteT ?_⟩;refine⟨_,rfl,.inl ⟨rfl,_,SqL.of el⟩,_,rfl,_,rfl,_,rfl,e.w,rfl,hw,e.c,(2*e.w+7) % 8,rfl,Cv _ (by decide),λp10 H10 hp10 s10 e10=>⟨two,λt11 ht11=>?_⟩⟩;have s11:Same H10 (upd H10 t11 (.tup [.ref p10,.bl false])):=Same.up ht11;have r5:sR (go e.c ((2*e.w+7) % 8),false) (.ref t11) (upd H10 t11 (.tup [.ref p10,.bl false])):=⟨t11,p10,rfl,zaa,s11 _ _ e10⟩;generalize upd H10 t11 (.tup [.ref p10,.bl false])=H11 at s11 r5;have el11:=(s10.trans s11) _ _ el;refine⟨l,_,_,rfl,rfl,el11,zbk (by show 4<=5000;decide),?_⟩;have kt12:KT H11 (upd H11 l (.lst ([.ref t2,.ref t3,.ref t6,.ref t7]++[.ref t11]))):=KT.lst el11;have s12:Same H (upd H11 l (.lst ([.ref t2,.ref t3,.ref t6,.ref t7]++[.ref t11]))):=zaj hl0 (sl.trans (s10.trans s11));have e12:upd H11 l (.lst ([.ref t2,.ref t3,.ref t6,.ref t7]++[.ref t11])) l=some (.lst ([.ref t2,.ref t3,.ref t6,.ref t7]++[.ref t11])):=zaa;have hv12:=hv.snoc (λx v h=>(h.kt (KT.of (s10.trans s11))).kt kt12) (r5.kt kt12);generalize upd H11 l (.lst ([.ref t2,.ref t3,.ref t6,.ref t7]++[.ref t11]))=H12 at kt12 s12 e12 hv12;refine⟨_,rfl,rfl,_,rfl,iteT ?_⟩;refine⟨_,rfl,.inl ⟨rfl,_,SqL.of e12⟩,_,rfl,_,rfl,_,rfl,e.w,rfl,hw,e.c,2*e.w,rfl,by lia,λp13 H13 hp13 s13 e13=>⟨two,λt14 ht14=>?_⟩⟩;have s14':Same H13 (upd H13 t14 (.tup [.ref p13,.bl false])):=Same.up ht14;have r6:sR (go e.c (2*e.w),false) (.ref t14) (upd H13 t14 (.tup [.ref p13,.bl false])):=⟨t14,p13,rfl,zaa,s14' _ _ e13⟩;generalize upd H13 t14 (.tup [.ref p13,.bl false])=H14 at s14' r6;have e14':=(s13.trans s14') _ _ e12;refine⟨l,_,_,rfl,rfl,e14',zbk (by show 5<=5000;decide),?_⟩;have kt15:KT H14 (upd H14 l (.lst (([.ref t2,.ref t3,.ref t6,.ref t7]++[.ref t11])++[.ref t14]))):=KT.lst e14';have s15:Same H (upd H14 l (.lst (([.ref t2,.ref t3,.ref t6,.ref t7]++[.ref t11])++[.ref t14]))):=zaj hl0 (s12.trans (s13.trans s14'));have e15:upd H14 l (.lst (([.ref t2,.ref t3,.ref t6,.ref t7]++[.ref t11])++[.ref t14])) l=some (.lst (([.ref t2,.ref t3,.ref t6,.ref t7]++[.ref t11])++[.ref t14])):=zaa;have hv15:=hv12.snoc (λx v h=>(h.kt (KT.of (s13.trans s14'))).kt kt15) (r6.kt kt15);refine⟨_,rfl,k l _ _ _ hl0 s15 e15 hv15 (λq hq=>?_) (by show 6<=6;decide)⟩;rcases Az.mp hq with m |m
   .rcases Az.mp m with m |m
    .exact hL q m
    .rw[Ao.mp m];exact c1
   .rw[Ao.mp m];exact c2
noncomputable def Known(C:Cell->Bool)(kvs:List (List Key×V)):Prop:=∀c v,valV kvs (kC c)=some v->v=.bl (C c)
noncomputable def zfo(K:W.Frag):Sp:=λvs H Q _=>∃(a:Addr) (C:Cell->Bool) (es:List Edge),vs=[.ref a]/\LR K H a (wk C es) wR/\(∀e∈es,IsE C e)/\es.length<=500/\∀H',Same H H'->Q .non H'
theorem ze9 (g_seen_between:Fn P w K mg base 3 "seen_between" ["edge","step"] (zmo K)) (d:Df K mg "gainsaid_at" zcq ["walk"]):FnOk P w K mg base CX0 4 d.f d.fd ["walk"] (zfo K):=by
 refine d.F.ok zaJ (λvs H Q E h=>?_) (λcdv A outer s H vs Q E hr h=>?_)
 .obtain⟨a,C,es,rfl,_⟩:=h;rfl
 .obtain⟨a,C,es,rfl,hLR,hE,hlen,k⟩:=h;have hu1:=hu_of hr
  refine⟨_,(zac (sE 1 zaJ.nd zfZ)
   (zac (sE 2 zaJ.nd zae)
   (zac (zb6 Bs rfl (zaU (pv 0)) (zba (by rfl) (zaf (nG 3 zaJ.nd) (zaf (nG 4 zaJ.nd) zat)))
   (zac (zb6 Bs rfl (zaU (pC g_seen_between hr (pa_N (pv 3) (pa_N (pv 4) zab)))) (zba (by rfl) (zaf (nG 5 zaJ.nd) (zaf (nG 6 zaJ.nd) zat)))
   (zag (ps_if (zap op_ne (zlP hu1 (pv 1) (pv 5) (pv 6) ⟨rfl,rfl,rfl,rfl⟩) (pv 6) (zaq _))
   (zag (zak (pv 2)))
   zaB)))
   (zag (ps_if (zap zdT (pv 4) za5 (zaq _))
   (zag (zn7 (i:=2) zaJ.nd (by rfl) (Or.inl rfl) zae zoq))
   zaB))))
   (zag (zak za5))))),?_⟩
  obtain⟨ws,hq,hv⟩:=hLR.vr;have hwl:ws.length=es.length:=by rw[hv.1,zds]
  refine λdd hdd=>?_
  have s0:Same H (upd H dd (.dT [])):=Same.up hdd;have d0:upd H dd (.dT []) dd=some (.dT []):=zaa;generalize upd H dd (.dT [])=H0 at s0 d0;refine⟨_,rfl,a,rfl,⟨_,s0.seq hq⟩,?_⟩
  refine zaH (K:=K) (a:=a) (xs:=ws) (λi σ H1=>∃(n:Int) (o3 o4 o5 o6:Option V) (kvs:List (List Key×V)),σ=[some (.ref a),some (.ref dd),some (.int n),o3,o4,o5,o6]/\Same H H1/\H1 dd=some (.dT kvs)/\Known C kvs/\kvs.length<=6*i)
   ⟨_,_,_,_,_,[],rfl,s0,d0,(λc v h=>by cases h),AT _⟩ (λi σ H1 _ ⟨_,_,_,_,_,_,_,s1,_⟩=>s1.seq hq) ?_ ?_
  .rintro i v σ H1 hi ⟨n,o3,o4,o5,o6,kvs,rfl,s1,d1,hk,hkl⟩;obtain⟨⟨e,st⟩,he,B,b,rfl,q1,q2⟩:=hv.at hi;have hi':i<es.length:=by rw[<- hwl];exact (Ae.mp hi).1
   have he':es[i]?=some e/\st=stepB C e:=by
    unfold wk at he;rw[Ay]at he;obtain⟨g,hg,eg⟩:=Bb.mp he
    cases eg
    exact⟨hg,rfl⟩
   obtain⟨he1,rfl⟩:=he';have hEe:=hE e (An he1);refine⟨B,_,rfl,SqT.of (s1 _ _ q1),rfl,_,_,rfl,_,_,rfl,rfl,?_⟩;refine⟨_,rfl,_,rfl,b,C,e,rfl,s1 _ _ q2,hEe,λp H2 ss L hp s2 e2 hs2 hL hLl=>?_⟩;have hpd:p≠dd:=λz=>by subst z;rw[d1]at hp;cases hp
   have d2:=s2 _ _ d1;refine⟨p,rfl,⟨_,SqL.of e2⟩,?_⟩
   refine zaH (K:=K) (a:=p) (xs:=ss) (λj σ H3=>∃(o5 o6:Option V) (kv3:List (List Key×V)),σ=[some (.ref a),some (.ref dd),some (.int n),some (.ref b),some (sv (stepB C e)),o5,o6]/\(∀z o,z≠dd->H2 z=some o->H3 z=some o)/\H3 dd=some (.dT kv3)/\Known C kv3/\kv3.length<=6*i+j)
    ⟨_,_,kvs,rfl,(λz o _ h=>h),d2,hk,by lia⟩ (λj σ H3 _ ⟨_,_,_,_,k3,_⟩=>SqL.of (k3 _ _ hpd e2)) ?_ ?_
   .rintro j u σ H3 hj ⟨o5,o6,kv3,rfl,k3,d3,hk3,hl3⟩;obtain⟨⟨c,t⟩,hq',A2,b2,rfl,r1,r2⟩:=hs2.at hj;have hjl:j<L.length:=by rw[<- hs2.1];exact (Ae.mp hj).1
    have hct:C c=t:=hL _ (An hq');have nA:A2≠dd:=ne_of r1 d2 (λz=>nomatch z);have nb:b2≠dd:=ne_of r2 d2 (λz=>nomatch z);refine⟨A2,_,rfl,SqT.of (k3 _ _ nA r1),rfl,_,_,rfl,_,_,rfl,rfl,?_⟩;refine⟨_,rfl,dd,rfl,.inr ⟨_,Rd.of d3⟩,_,rfl,_,rfl,kv3,kC c,b2,d3,rfl,k3 _ _ nb r2,zbk (by lia),λv hv'=>?_,λhn=>?_⟩
    .have hv2:v=.bl t:=by rw[hk3 c v hv',hct]
     subst hv2;refine⟨_,rfl,rfl,_,rfl,iteN (by simp) ?_⟩;exact⟨_,_,kv3,rfl,k3,d3,hk3,by lia⟩
    .refine⟨_,rfl,rfl,_,rfl,iteN (by simp) ?_⟩;refine⟨_,_,putK kv3 (kC c) (.bl t),rfl,(λz o hz h=>by rw[zai hz];exact k3 z o hz h),zaa,(λc' v' hv'=>?_),AV (zbZ _ _ _) (by lia)⟩;rw[zif]at hv'
     by_cases ec:c'=c
     .subst ec;rw[if_pos rfl]at hv'
      cases hv'
      rw[hct]
     .rw[if_neg (λz=>ec (zkY.mp z))]at hv';exact hk3 c' v' hv'
   .rintro σ H3 ⟨o5,o6,kv3,rfl,k3,d3,hk3,hl3⟩;have s3:Same H H3:=λz o h=>k3 z o (zal h hdd) (s2 _ _ (s1 _ _ h))
    have hl4:kv3.length<=6*(i+1):=by have:=hs2.1;lia
    cases hst:stepB C e with
    |none =>
     refine⟨_,rfl,rfl,_,rfl,iteF ?_⟩;exact⟨_,_,_,_,_,kv3,rfl,s3,d3,hk3,hl4⟩
    |some z =>
     refine⟨_,rfl,rfl,_,rfl,iteT ?_⟩;refine⟨_,rfl,_,_,rfl,rfl,?_⟩;exact⟨_,_,_,_,_,kv3,rfl,s3,d3,hk3,hl4⟩
  .rintro σ H1 ⟨n,o3,o4,o5,o6,kvs,rfl,s1,d1,hk,hkl⟩;exact k H1 s1
theorem zi6{α:Type}{xs:List α}(h:0<xs.length):atI xs (-1)=xs[xs.length-1]?:=by unfold atI ixN;rw[if_neg (by decide),if_pos (by lia)];show xs[((-1:Int)+xs.length).toNat]?=_;rw[show ((-1:Int)+xs.length).toNat=xs.length-1 by lia]
noncomputable def zj9(K:W.Frag):Sp:=λvs H Q _=>∃(a:Addr) (C:Cell->Bool) (b:Edge) (es:List Edge),vs=[.ref a]/\LR K H a (wk C es) wR/\Closed C b es/\es.length<=500/\∀H',Same H H'->Q (.bl true) H'
theorem zf8 (g_edge_behind:Fn P w K mg base 2 "edge_behind" ["edge","step"] (zfJ K)) (d:Df K mg "comes_back" zcO ["walk"]):FnOk P w K mg base CX0 3 d.f d.fd ["walk"] (zj9 K):=by
 refine d.F.ok zco (λvs H Q E h=>?_) (λcdv A outer s H vs Q E hr h=>?_)
 .obtain⟨a,C,b,es,rfl,_⟩:=h;rfl
 .obtain⟨a,C,b,es,rfl,hLR,hcl,hlen,k⟩:=h;have hu64:=hr.units
  refine⟨_,(zac (zbm (pe_ix za7 (pv 0) (pe_un zcF zae) (λ_ _=>rfl)) (zba (by rfl) (zaf (nG 1 zco.nd) (zaf (nG 2 zco.nd) zat))))
   (zag (zak (zbc (zkA hu64) (pC g_edge_behind hr (pa_N (pv 1) (pa_N (pv 2) zab))) (pe_ix zbn (pe_ix za7 (pv 0) zae (λ_ _=>rfl)) zae (λ_ _=>rfl)) (zaq _))))),?_⟩
  obtain⟨ws,hq,hv⟩:=hLR.vr;have hwl:ws.length=es.length:=by rw[hv.1,zds]
  have hp:=hcl.pos;obtain⟨hch,l,hl,hb⟩:=id hcl;obtain⟨v1,hv1⟩:∃v,ws[ws.length-1]?=some v:=⟨_,Ab (by lia)⟩;obtain⟨⟨e1,st1⟩,he1,B1,b1,rfl,q1,q2⟩:=hv.at hv1;obtain⟨v0,hv0⟩:∃v,ws[0]?=some v:=⟨_,Ab (by lia)⟩;obtain⟨⟨e0,st0⟩,he0,B0,b0,rfl,r1,r2⟩:=hv.at hv0
  have h1:e1=l/\st1=stepB C l:=by
   unfold wk at he1;rw[hwl,Ay,hl]at he1
   cases he1;exact⟨rfl,rfl⟩
  obtain⟨rfl,rfl⟩:=h1
  have h0:e0=b:=by
   unfold wk at he0;rw[Ay,hch.1]at he0
   cases he0;rfl
  subst h0;have hEl:IsE C e1:=hch.2.2.1 e1 (An hl);refine⟨_,rfl,_,rfl,a,ws,_,_,rfl,rfl,hq,(zi6 (by lia)).trans hv1,?_⟩;refine⟨B1,_,rfl,SqT.of q1,rfl,_,_,rfl,_,_,rfl,rfl,?_⟩;refine⟨_,rfl,_,rfl,b1,e1,stepB C e1,rfl,SqT.of q2,hEl.1,zfH hEl.1,λp H1 hp1 s1 f1=>?_⟩;refine⟨_,rfl,a,ws,_,_,rfl,rfl,s1.seq hq,(zaE (j:=0) hv0),B0,_,_,_,rfl,rfl,SqT.of (s1 _ _ r1),zaE (j:=0) rfl,?_⟩;refine⟨_,_,zdR f1,zdR (s1 _ _ r2),zbp _,zbp _,?_⟩;rw[zhm,decide_eq_true (by show eI (nxt C e1)=eI e0;rw[hb])];exact k H1 s1
theorem nL_wk(C:Cell->Bool)(es:List Edge):nL (wk C es)=(es.filter λe=>(stepB C e).isNone).length:=by unfold nL wk;rw[List.filter_map,Ag];rfl
theorem nS_wk(C:Cell->Bool)(es:List Edge):nS (wk C es)=(es.filter λe=>slant (stepB C e)).length:=by unfold nS wk;rw[List.filter_map,Ag];rfl
theorem zmV{C:Cell->Bool}{b:Edge}{es:List Edge}(h:Closed C b es):(nL (wk C es):Int)-nS (wk C es)=4∨(nL (wk C es):Int)-nS (wk C es)=-4:=by rw[nL_wk,nS_wk,<- zih];exact h.turning
noncomputable def zfn(K:W.Frag):Sp:=λvs H Q _=>∃(a:Addr) (C:Cell->Bool) (b:Edge) (es:List Edge),vs=[.ref a,.str (sortS (wk C es))]/\LR K H a (wk C es) wR/\Closed C b es/\es.length<=500/\∀H',Same H H'->Q (.bl true) H'
theorem zg3 (T:Txt P w K mg) (g_comes_back:Fn P w K mg base 3 "comes_back" ["walk"] (zj9 K)) (g_lefts_less_slants:Fn P w K mg base 3 "lefts_less_slants" ["walk"] (zms K)) (d:Df K mg "is_closed" zdi ["walk","sort"]):FnOk P w K mg base CX0 4 d.f d.fd ["walk","sort"] (zfn K):=by
 refine d.F.ok zgO (λvs H Q E h=>?_) (λcdv A outer s H vs Q E hr h=>?_)
 .obtain⟨a,C,b,es,rfl,_⟩:=h;rfl
 .obtain⟨a,C,b,es,rfl,hLR,hcl,hlen,k⟩:=h;refine⟨_,(zag (zak (ziI (pC g_comes_back hr (pa_N (pv 0) zab)) (ziH (zbc op_eq (pC g_lefts_less_slants hr (pa_N (pv 0) zab)) (zoa (by rfl) T.more (pv 1)) (zaq _)))))),?_⟩;refine⟨_,rfl,a,C,b,es,rfl,hLR,hcl,hlen,λH1 s1=>⟨_,rfl,iteT ?_⟩⟩;refine⟨_,rfl,a,wk C es,rfl,hLR.same s1 (λx v h=>h.same s1),by rw[zds];lia,λH2 s2=>⟨_,rfl,?_⟩⟩;rcases zmV hcl with t |t
  .refine .inl ⟨?_,rfl,?_⟩
   .unfold sortS;rw[if_pos (by lia)]
   .rw[t,decide_eq_true rfl];exact k H2 (s1.trans s2)
  .refine .inr ⟨?_,rfl,?_⟩
   .unfold sortS;rw[if_neg (by lia)]
   .rw[t,decide_eq_true rfl];exact k H2 (s1.trans s2)
theorem IsRnd.walk{C:Cell -> Bool}{b:Edge}{es:List Edge}{r:Rnd}(h:Closed C b es)(k:IsRnd (wk C es) r) :
  ∃es',Closed C (begE r) es'/\es'.Perm es/\r.row=(es'.map (stepB C)).filterMap id/\zcC (wk C es') r.so (begE r)/\r.so=sortS (wk C es')/\IsRnd (wk C es') r:=by
 obtain⟨r0,j,f,rf,⟨rb,rw',rl⟩,rx,ry,rr⟩:=id k;rw[zdr]at rf rb rl
 have ef:begE r=f:=by obtain⟨⟨x,y⟩,w⟩:=f;unfold begE;rw[rx,ry,r0];simp only at rw' ⊢;rw[rw']
 have h1:=h.rot j rf;have pm:=zlF es j;have ss:=zjg (C:=C) pm
 have hrow:r.row=((es.drop j++es.take j).map (stepB C)).filterMap id:=by rw[rr];unfold wk;rw[<- Ee,<- Ef,<- Aq,Ct,Ct];rfl
 have hb:zcC (wk C (es.drop j++es.take j)) r.so f:=⟨by rw[zdr];exact pm.mem_iff.mpr rb,by rw[rw',r0],λg hg hw=>by rw[zdr]at hg;exact rl g (pm.mem_iff.mp hg) (by rw[hw,r0])⟩
 rw[ef];refine⟨_,h1,pm,hrow,hb,by rw[r0,ss],by rw[r0,ss],0,f,by rw[zdr];exact h1.1.1,by rw[ss,<- r0];exact hb,rx,ry,?_⟩;rw[hrow,Dr,List.take_zero,Bk];unfold wk;rw[Ct,Ct];rfl
noncomputable def ziq(K:W.Frag):Sp:=λvs H Q _=>∃(v:V) (r:Rnd) (C:Cell->Bool) (es:List Edge),vs=[v]/\rR r v H/\Closed C (begE r) es/\r.row=(es.map (stepB C)).filterMap id/\zcC (wk C es) r.so (begE r)/\r.so=sortS (wk C es)/\es.length<=500 /\
 ∀p H' ws,H p=none->Same H H'->H' p=some (.lst ws)->VR ws (wk C es) wR H'->Q (.ref p) H'
theorem zjp (g_begin_edge:Fn P w K mg base 1 "begin_edge" ["one"] zgL) (g_walk_along:Fn P w K mg base 4 "walk_along" ["begin", "row"] (zet K)) (g_gainsaid_at:Fn P w K mg base 4 "gainsaid_at" ["walk"] (zfo K))
  (g_is_closed:Fn P w K mg base 4 "is_closed" ["walk","sort"] (zfn K)) (g_begin_of:Fn P w K mg base 3 "begin_of" ["walk","sort"] (zka K)) (d:Df K mg "walk_of" zey ["one"]):FnOk P w K mg base CX0 5 d.f d.fd ["one"] (ziq K):=by
 refine d.F.ok zbl (λvs H Q E h=>?_) (λcdv A outer s H vs Q E hr h=>?_)
 .obtain⟨v,r,C,es,rfl,_⟩:=h;rfl
 .obtain⟨v,r,C,es,rfl,hv,hcl,hrow,hbg,hso,hlen,k⟩:=h;have hu64:=hr.units
  refine⟨_,(zac (zbm (pv 0) (zba (by rfl) (zaf (nG 1 zbl.nd) (zaf (nG 2 zbl.nd) (zaf (nG 3 zbl.nd) (zaf (nG 4 zbl.nd) zat))))))
   (zac (sE 5 zbl.nd (pC g_begin_edge hr (pa_N (pv 0) zab)))
   (zac (sE 6 zbl.nd (pC g_walk_along hr (pa_N (pv 5) (pa_N (pv 4) zab))))
   (zac (sE 7 zbl.nd (pC g_gainsaid_at hr (pa_N (pv 6) zab)))
   (zac (ps_if (zap zdT (pv 7) za5 (zaq _))
   (zag zeg)
   zaB)
   (zac (ps_if (pw_or (zck (zbK (pC g_is_closed hr (pa_N (pv 6) (pa_N (pv 1) zab))))) (zdz (zap (zgX hu64) (pC g_begin_of hr (pa_N (pv 6) (pa_N (pv 1) zab))) (pv 5) (zaq _)))).pt
   (zag zeg)
   zaB)
   (zag (zak (pv 6))))))))),?_⟩
  obtain⟨a,b,rfl,q1,q2⟩:=id hv;have hE:IsE C (begE r):=hcl.1.2.2.1 _ (An hcl.1.1);have so2:r.so = "rim" ∨ r.so = "hole":=by rw[hso];exact zfL _
  have hrl:r.row.length<=500:=by rw[hrow];exact AV (Dm _ _) (by rw[Ag];exact hlen)
  have hdd:deeds (begE r).w r.row=es.map (stepB C):=by rw[hrow];exact hcl.deeds.symm
  refine⟨_,rfl,a,_,rfl,SqT.of q1,rfl,_,_,rfl,_,_,rfl,_,_,rfl,_,_,rfl,rfl,?_⟩;refine⟨_,rfl,.ref a,r,rfl,hv,so2,λp1 H1 hp1 s1 e1=>?_⟩;refine⟨_,rfl,_,rfl,p1,b,begE r,r.row,rfl,e1,hE.1,SqT.of (s1 _ _ q2),hrl,(λz hz=>?_),λp H2 ws hp s2 e2 hw=>?_⟩
  .rw[hdd]at hz;obtain⟨e,he,ez⟩:=AG.mp hz;exact zfH (hcl.1.2.2.1 e he).1 z ez
  rw[hdd,zgC es (.inl hcl.1.1) hcl.1.2.1]at hw;have lr:LR K H2 p (wk C es) wR:=LR.of e2 hw;refine⟨_,rfl,p,C,es,rfl,lr,hcl.1.2.2.1,hlen,λH3 s3=>?_⟩;refine⟨_,rfl,rfl,_,rfl,iteF ?_⟩;have lr3:=lr.same s3 (λx v h=>h.same s3);refine⟨_,rfl,_,rfl,p,C,begE r,es,(by rw[<- hso];rfl),lr3,hcl,hlen,λH4 s4=>⟨_,rfl,iteF ?_⟩⟩;have lr4:=lr3.same s4 (λx v h=>h.same s4);refine⟨_,rfl,_,rfl,p,wk C es,r.so,rfl,so2,lr4,by rw[zds];lia,⟨begE r,hbg.1,hbg.2.1⟩,λb5 e5 H5 s5 f5 ib=>?_⟩;have ee:e5=begE r:=ib.one (List.Perm.refl _) hbg;subst ee;have s25:=s3.trans (s4.trans s5);refine⟨_,rfl,_,_,zdR f5,zdR ((s2.trans s25) _ _ e1),zbp _,zbp _,_,rfl,iteN (by rw[zhm,decide_eq_true rfl];rfl) ?_⟩;refine⟨_,rfl,k p H5 ws (s1.free hp) (s1.trans (s2.trans s25)) (s25 _ _ e2) (hw.mono λx v h=>h.same s25)⟩
noncomputable def rowI(row:List Nat):List Int:=row.map λn:Nat=>(n:Int)
noncomputable def dR(r:Rnd):PyData:=.tuple [.str r.so,.int r.x,.int r.y,tI (rowI r.row)]
theorem ziC(row:List Nat):rowV row=(rowI row).map V.int:=by unfold rowV rowI;rw[List.map_map];rfl
theorem ziD{a b:List Nat}(h:rowI a=rowI b):a=b:=by unfold rowI at h;exact List.map_inj_right (f:=λn:Nat=>(n:Int)) (λx y e=>by lia) |>.mp h
theorem zlI{K:W.Frag}{H:Hp}{r:Rnd}{v:V}(h:rR r v H):RD K H v (dR r):=by obtain⟨a,b,rfl,q1,q2⟩:=h;refine .tup (SqT.of q1) (.cons (.str _) (.cons (.int _) (.cons (.int _) (.cons (.tup (SqT.of q2) ?_) .nil))));rw[ziC];exact RDs.ints _
theorem zou(r q:Rnd):DQ (dR r) (dR q)=decide (r=q):=by
 show ((r.so == q.so) && ((r.x == q.x) && ((r.y == q.y) && (DQ (tI (rowI r.row)) (tI (rowI q.row)) && true))))=_;rw[zhm,Bool.and_true];obtain⟨a,b,c,d⟩:=r;obtain⟨a',b',c',d'⟩:=q;simp only
 by_cases h1:a=a'
 .by_cases h2:b=b'
  .by_cases h3:c=c'
   .by_cases h4:d=d'
    .subst h1 h2 h3 h4;simp
    .have:¬ rowI d=rowI d':=λz=>h4 (ziD z)
     simp[h4,this]
   .simp[h3]
  .simp[h2]
 .have:(a == a')=false:=by rw[beq_eq_false_iff_ne];exact h1
  rw[this];simp[h1]
noncomputable abbrev SoOk (r:Rnd):Prop:=r.so = "rim" ∨ r.so = "hole"
theorem zlj{r:Rnd}(h:SoOk r):PyData.canLay0 (dR r)=true:=by have:=zbp (rowI r.row);unfold Ch at this;rw[Bo]at this;show (PyData.strOk r.so && (true && (true && (PyData.canLay0 (tI (rowI r.row)) && true))))=true;rw[this.1];rcases h with h |h <;> rw[h] <;> decide +kernel
theorem zmc(ns:List Int):De (tI ns)=1:=by unfold tI;rw[De,zcA]
theorem zmd(r:Rnd):De (dR r)=2:=by show De (.tuple [.str r.so,.int r.x,.int r.y,tI (rowI r.row)])=2;rw[De];show max 0 (max 0 (max 0 (max (De (tI (rowI r.row))) 0)))+1=2;rw[zmc];rfl
noncomputable def lR(R:List Rnd):PyData:=.list (R.map dR)
theorem zhn:∀R S:List Rnd,PyData.eqvAll (R.map dR) (S.map dR)=decide (R=S)
 |[],[]=>rfl
 |[],_::_=>rfl
 |_::_,[]=>rfl
 |r::R,q::S=>by
  show (DQ (dR r) (dR q) && PyData.eqvAll (R.map dR) (S.map dR))=_;rw[zhn R S,zou]
  by_cases e:r=q
  .subst e;by_cases e2:R=S <;> simp[e2]
  .simp[e]
theorem ziZ(R S:List Rnd):DQ (lR R) (lR S)=decide (R=S):=zhn R S
theorem zd5:∀R:List Rnd,(∀r∈R,SoOk r)->Dd (R.map dR)=true
 |[],_=>rfl
 |r::R,h=>by show (PyData.canLay0 (dR r) && Dd (R.map dR))=true;rw[zlj (h r AM),zd5 R λq hq=>h q (AK _ hq)];rfl
theorem zeR:∀R:List Rnd,PyData.depthAll (R.map dR)<=2
 |[]=>AT _
 |r::R=>by show max (De (dR r)) (PyData.depthAll (R.map dR))<=2;rw[zmd];have:=zeR R;lia
theorem zbF{R:List Rnd}(h:∀r∈R,SoOk r):Ch (lR R)=true:=by unfold Ch lR;rw[PyData.canLay0,zd5 R h,De];have:=zeR R;simp only[Bool.true_and,decide_eq_true_eq];lia
theorem zfu{K:W.Frag}{H:Hp}:∀{vs:List V}{R:List Rnd},VR vs R rR H->RDs K H vs (R.map dR)
 |[],[],_=>.nil
 |[],_::_,h=>by have:=h.1;cases this
 |_::_,[],h=>by have:=h.1;cases this
 |v::vs,r::R,h=>by
  obtain⟨h1,h2⟩:=VR.cons.mp h;exact .cons (zlI h1) (zfu h2)
theorem zbI{K:W.Frag}{H:Hp}{a:Addr}{vs:List V}{R:List Rnd}(e:SqL K H a vs)(h:VR vs R rR H):RD K H (.ref a) (lR R):=.lst e (zfu h)
theorem Whole.so{cs:List Cell}{R:List Rnd}(h:Whole cs R):∀r∈R,SoOk r:=λr hr=>let ⟨_,hP,_⟩:=h;hP.so hr
theorem four:4<=sizeLine:=by decide
structure Can (C:Cell->Bool) (es:List Edge) (r:Rnd):Prop where
 cl:Closed C (begE r) es
 row:r.row=(es.map (stepB C)).filterMap id
 bg:zcC (wk C es) r.so (begE r)
 so:r.so=sortS (wk C es)
inductive Al {α β:Type} (P:α->β->Prop):List α->List β->Prop where
 |nil:Al P [] []
 |cons {a:α} {b:β} {l:List α} {m:List β}:P a b->Al P l m->Al P (a::l) (b::m)
theorem Al.of{α β:Type}{P:α->β->Prop}:∀{l:List α}{m:List β},l.length=m.length->(∀(i:Nat) a b,m[i]?=some b->l[i]?=some a->P a b)->Al P l m
 |[],[],_,_=>.nil
 |[],_::_,h,_=>by cases h
 |_::_,[],h,_=>by cases h
 |a::l,b::m,h,q=>.cons (q 0 a b rfl rfl) (Al.of (by simpa using h) λi x y h1 h2=>q (i+1) x y (by simpa using h1) (by simpa using h2))
theorem Al.length{α β:Type}{P:α->β->Prop}{l:List α}{m:List β}(h:Al P l m):l.length=m.length:=by
 induction h with
 |nil=>rfl
 |cons _ _ ih=>simp[ih]
theorem Al.at{α β:Type}{P:α->β->Prop}{l:List α}{m:List β}(h:Al P l m):∀{i:Nat}{a:α}{b:β},m[i]?=some b->l[i]?=some a->P a b:=by
 induction h with
 |nil=>intro i a b h1;simp at h1
 |cons p _ ih =>
  intro i a b h1 h2
  cases i with
  |zero=>simp at h1 h2;subst h1 h2;exact p
  |succ i=>exact ih (by simpa using h1) (by simpa using h2)
theorem Al.perm{α β:Type}{P:α->β->Prop}{l' l:List α}(p:l'.Perm l):∀{m:List β},Al P l m->∃m',m'.Perm m/\Al P l' m':=by
 induction p with
 |nil=>intro m h;exact⟨m,.refl _,h⟩
 |cons a _ ih =>
  intro m h
  cases h with
  |cons p t =>
   obtain⟨m',q,r⟩:=ih t;exact⟨_::m',q.cons _,.cons p r⟩
 |swap a b l =>
  intro m h
  cases h with
  |cons p t =>
   cases t with
   |cons p2 t2=>exact⟨_::_::_,.swap _ _ _,.cons p2 (.cons p t2)⟩
 |trans _ _ ih1 ih2 =>
  intro m h;obtain⟨m1,q1,r1⟩:=ih2 h;obtain⟨m2,q2,r2⟩:=ih1 r1;exact⟨m2,q2.trans q1,r2⟩
theorem Al.bind{α γ:Type}{P Q:α->List γ->Prop}(f:∀a b,P a b->∃c,Q a c/\c.Perm b){l:List α}{m:List (List γ)}(h:Al P l m):∃m',Al Q l m'/\m'.flatten.Perm m.flatten:=by
 induction h with
 |nil=>exact⟨[],.nil,.refl _⟩
 |cons p _ ih =>
  obtain⟨c,q1,q2⟩:=f _ _ p;obtain⟨m',r1,r2⟩:=ih;exact⟨c::m',.cons q1 r1,by rw[Bi,Bi];exact q2.append r2⟩
theorem zhl{γ:Type}{a b:List (List γ)}(p:a.Perm b):a.flatten.Perm b.flatten:=by
 induction p with
 |nil=>exact .refl _
 |cons x _ ih=>rw[Bi,Bi];exact ih.append_left _
 |swap x y l =>
  simp only[Bi];rw[<- AB,<- AB];exact List.perm_append_comm.append_right _
 |trans _ _ i1 i2=>exact i1.trans i2
structure Cans (C:Cell->Bool) (ESS:List (List Edge)) (R:List Rnd):Prop where
 al:Al (λr es=>Can C es r) R ESS
 nd:ESS.flatten.Nodup
 all:∀e,e∈ESS.flatten ↔ IsE C e
theorem Whole.cans{cs:List Cell}{R R0:List Rnd}(p:R.Perm R0)(h:Whole cs R0):∃ESS,Cans (isIn cs) ESS R:=by
 obtain⟨E,h1,h2⟩:=h;have a1:Al (λr es=>(∃b,Closed (isIn cs) b es)/\IsRnd (wk (isIn cs) es) r) R0 E:=Al.of h1.len λi r es e1 e2=>h1.each i es r e1 e2
 obtain⟨F,q1,a2⟩:=a1.perm p
 obtain⟨G,a3,q2⟩:=Al.bind (Q:=λr es=>Can (isIn cs) es r) (λr es ⟨⟨b,hb⟩,hr⟩=>by obtain⟨es',k1,k2,k3,k4,k5,_⟩:=IsRnd.walk hb hr;exact⟨es',⟨k1,k3,k4,k5⟩,k2⟩) a2
 have pm:=q2.trans (zhl q1);exact⟨G,a3,pm.nodup_iff.mpr h1.nd,λe=>by rw[pm.mem_iff];exact h2 e⟩
theorem Cans.so{C:Cell->Bool}{ESS:List (List Edge)}{R:List Rnd}(h:Cans C ESS R){i:Nat}{r:Rnd}(hr:R[i]?=some r):∃es,ESS[i]?=some es/\Can C es r:=by have hi:=(Ae.mp hr).1;rw[h.al.length]at hi;exact⟨_,Ab hi,h.al.at (Ab hi) hr⟩
inductive Lnk (C:Cell->Bool):Edge->List Edge->Prop where
 |one (e:Edge):Lnk C e []
 |more {e:Edge} {es:List Edge}:Lnk C (nxt C e) es->Lnk C e (nxt C e::es)
structure Box where
 (a b c d:Int)
theorem VR.app{α:Type}{vs ws:List V}{l m:List α}{R:α->V->Hp->Prop}{H:Hp}(h:VR vs l R H)(k:VR ws m R H):VR (vs++ws) (l++m) R H:=by
 refine⟨by rw[Am,Am,h.1,k.1],λi x v h1 h2=>?_⟩
 by_cases hi:i<l.length
 .rw[Aj hi]at h1;rw[Aj (by rw[h.1];exact hi)]at h2;exact h.2 i x v h1 h2
 .rw[Ar (by lia)]at h1;rw[Ar (by rw[h.1];lia),h.1]at h2;exact k.2 _ x v h1 h2
noncomputable abbrev Bfr(a b:Cell):Prop:=HT.lexLt [a.2,a.1] [b.2,b.1]=true
theorem cpow{i j:Int}(h:0<=j/\j<=1000000/\i.natAbs<2 ^ 64):CPow i j:=h
theorem zkb{b:Int}(h0:0<b)(h:b<=6000):b.natAbs.log2<9000:=by refine (Nat.log2_lt (by lia)).mpr (AJ (show b.natAbs<2 ^ 13 by lia) (Nat.pow_le_pow_right (by decide) (by decide)))
theorem zod{cs:List Cell}(h:cs.Pairwise Bfr):InOrd cs:=by intro i c d h1 h2;have hi:=(Ae.mp h1).1;have hj:=(Ae.mp h2).1;have e1:=(Ae.mp h1).2;have e2:=(Ae.mp h2).2;have a:=List.pairwise_iff_getElem.mp h i (i+1) hi hj (by lia);rw[e1,e2]at a;exact a
theorem znD{a b y:Int}(h:a<b):Bfr (a,y) (b,y):=by show HT.lexLt [y,a] [y,b]=true;rw[HT.lexLt_cons,if_pos rfl,HT.lexLt_cons,if_neg (by lia)];exact decide_eq_true h
theorem zoB{a b:Cell}(h:a.2<b.2):Bfr a b:=by show HT.lexLt [a.2,a.1] [b.2,b.1]=true;rw[HT.lexLt_cons,if_neg (by lia)];exact decide_eq_true h
noncomputable def zfK(K:W.Frag):Sp:=λvs H Q _=>∃(a:Addr) (ns:List Int) (k:Nat),vs=[.ref a,.int k]/\SqL K H a (ns.map V.int)/\∀n,Q (.int n) H
theorem ze8 (T:Txt P w K mg) (d:Df K mg "_law_cell_at" zb9 ["_law_script","_law_k"]):FnOk P w K mg base CX0 1 d.f d.fd ["_law_script","_law_k"] (zfK K):=by
 refine d.F.ok zew (λvs H Q E h=>?_) (λcdv A outer s H vs Q E hr h=>?_)
 .obtain⟨a,ns,k,rfl,_⟩:=h;rfl
 .obtain⟨a,ns,i,rfl,hq,k⟩:=h
  refine⟨_,(zac (ps_if (zap op_lt (pv 1) (zan zaw (by rfl) T.nlen (by rfl) (pa_N (pv 0) zab)) (zaq _))
   (zag (zak (pe_ix za7 (pv 0) (pv 1) (λ_ _=>rfl))))
   zaB)
   (zag (zak zae))),?_⟩
  refine⟨_,rfl,_,rfl,a,_,rfl,.inl hq,_,_,rfl,rfl,_,rfl,?_⟩;refine ite2 (λhy=>?_) (λhn=>k 0)
  have hlt:i<ns.length:=by have:=of_decide_eq_true hy;rw[Ag]at this;lia
  exact⟨_,rfl,_,rfl,a,_,_,_,rfl,rfl,hq,zaE (v:=.int ns[i]) (by simp[hlt]),k _⟩
noncomputable def spRow:Sp:=λvs H Q _=>∃(c b:Int) (m:Nat),vs=[.int c,.int m,.int b]/\m<=60/\0<b/\b<=6000/\∀p H' (ns:List Int),H p=none->Same H H'->H' p=some (.lst (ns.map V.int))->ns.length=m->(∀n∈ns,0<=n/\n<b)->Q (.ref p) H'
theorem zju (T:Txt P w K mg) (d:Df K mg "_law_row" zdP ["_law_cell","_law_many","_law_base"]):FnOk P w K mg base CX0 1 d.f d.fd ["_law_cell","_law_many","_law_base"] spRow:=by
 refine d.F.ok zbg (λvs H Q E h=>?_) (λcdv A outer s H vs Q E hr h=>?_)
 .obtain⟨c,b,m,rfl,_⟩:=h;rfl
 .obtain⟨c,b,m,rfl,hm,hb,hb2,k⟩:=h
  refine⟨_,(zac (sE 3 zbg.nd (zaV zab))
   (zac (sE 4 zbg.nd (pe_op zda (pv 0) (pe_op zkz zae zae)))
   (zac (sE 5 zbg.nd (pe_op zaS (pv 0) zae))
   (zac (zb6 Bs rfl (zbX (by rfl) T.nrange (pa_N (pv 1) zab)) (nG 6 zbg.nd)
   (zag (ps_if (zap op_ge (pv 0) (pe_op zkz zae zae) (zaq _))
   (zac (zaY (pe_bm AO A4 A5 zaM (pv 3) (pa_B (pe_op zaS (pv 4) (pv 2)) zab)))
   (zag (sE 4 zbg.nd (pe_op zlQ (pv 4) (pv 2)))))
   (zac (sE 5 zbg.nd (pe_op zaS (pe_op zaL (pe_op zaL (pe_op zbt (pv 5) zae) (pe_op zbt (pe_op zbt (pv 6) (pv 6)) zae)) zae) zae))
   (zag (zaY (pe_bm AO A4 A5 zaM (pv 3) (pa_B (pe_op zaS (pe_op zhQ (pe_op zaS (pe_op zbt (pv 5) (pv 5)) zae) zae) (pv 2)) zab))))))))
   (zag (zak (pv 3))))))),?_⟩
  have hmod:∀z:Int,0<=z % b/\z % b<b:=λz=>⟨DF _ (by lia),C3 _ hb⟩
  have hnum:∀z:Int,0<=z % 2147483629/\z % 2147483629<2147483629:=λz=>⟨DF _ (by decide),C3 _ (by decide)⟩
  refine⟨(by show 0<=sizeLine;decide),λp hp=>?_⟩;have s1:Same H (upd H p (.lst [])):=Same.up hp;have e1:upd H p (.lst []) p=some (.lst []):=zaa;generalize upd H p (.lst [])=H1 at s1 e1;refine⟨_,rfl,_,_,rfl,rfl,(by refine cpow ?_;decide),_,_,rfl,rfl,?_⟩;refine⟨_,rfl,_,_,rfl,rfl,(by show (0:Int)<2147483629;decide),?_⟩;refine⟨_,rfl,_,rfl,(by lia),(by lia),?_⟩
  refine zb0 (lo:=0) (n:=m) (λi σ H2=>∃(l q:Int) (o:Option V) (ns:List Int),σ=[some (.int c),some (.int m),some (.int b),some (.ref p),some (.int l),some (.int q),o]/\0<=q/\q<2147483629/\Same H H2/\H2 p=some (.lst (ns.map V.int))/\ns.length=i/\∀n∈ns,0<=n/\n<b)
   ⟨_,_,_,[],rfl,(hnum c).1,(hnum c).2,s1,e1,rfl,by simp⟩ ?_ ?_
  .rintro i σ H2 hi ⟨l,q,o,ns,rfl,q0,q1,s2,e2,hl,hall⟩
   have snoc:∀z:Int,0<=z->z<b->(ns++[z]).length=i+1/\∀n∈ns++[z],0<=n/\n<b:=λz z0 z1=>⟨by rw[Am,hl];rfl,λn hn=>by
    rcases Az.mp hn with h |h
    .exact hall n h
    .rw[Ao.mp h];exact⟨z0,z1⟩⟩
   refine⟨_,rfl,_,_,rfl,rfl,(by refine cpow ?_;decide),_,_,rfl,rfl,_,rfl,?_⟩;refine ite2 (λ_=>?_) (λ_=>?_)
   .refine⟨_,rfl,.inl ⟨rfl,_,SqL.of e2⟩,_,rfl,_,rfl,_,_,rfl,rfl,hb,p,_,_,rfl,rfl,e2,small1000 (by rw[Ag];lia),?_⟩;refine⟨_,rfl,_,rfl,_,_,rfl,rfl,⟨hb,zkb hb hb2⟩,?_⟩;obtain⟨z1,z2⟩:=snoc (l % b) (hmod l).1 (hmod l).2;exact⟨_,q,_,ns++[l % b],rfl,q0,q1,zaj hp s2,by rw[zaa,Aq];rfl,z1,z2⟩
   .refine⟨_,rfl,_,_,rfl,rfl,.inr ⟨by decide,by decide⟩,_,rfl,_,rfl,_,_,rfl,rfl,.inl ⟨by lia,by lia⟩,_,_,rfl,rfl,.inr ⟨by decide,by decide⟩,_,_,rfl,rfl,_,_,rfl,rfl,_,_,rfl,rfl,(by show (0:Int)<2147483629;decide),?_⟩;obtain⟨n0,n1⟩:=hnum (q*48271+(0+(i:Int))*(0+(i:Int))*69621+11);refine⟨_,rfl,.inl ⟨rfl,_,SqL.of e2⟩,_,rfl,_,rfl,_,_,rfl,rfl,.inl ⟨by lia,by lia⟩,_,_,rfl,rfl,(by show (0:Int)<2147483647;decide),_,_,rfl,rfl,⟨by decide,by decide⟩,_,rfl,_,_,rfl,rfl,hb,p,_,_,rfl,rfl,e2,small1000 (by rw[Ag];lia),?_⟩;obtain⟨z1,z2⟩:=snoc (((q*48271+(0+(i:Int))*(0+(i:Int))*69621+11) % 2147483629)*((q*48271+(0+(i:Int))*(0+(i:Int))*69621+11) % 2147483629) % 2147483647 / 64 % b) (hmod _).1 (hmod _).2;exact⟨l,((q*48271+(0+(i:Int))*(0+(i:Int))*69621+11) % 2147483629),_,ns++[((q*48271+(0+(i:Int))*(0+(i:Int))*69621+11) % 2147483629)*((q*48271+(0+(i:Int))*(0+(i:Int))*69621+11) % 2147483629) % 2147483647 / 64 % b],rfl,n0,n1,zaj hp s2,by rw[zaa,Aq];rfl,z1,z2⟩
  .rintro σ H2 ⟨l,q,o,ns,rfl,q0,q1,s2,e2,hl,hall⟩;exact⟨_,rfl,k p H2 ns hp s2 e2 hl hall⟩
noncomputable def rowX(ns:List Int)(sh dx y:Int)(n:Nat):List Cell:=((Bq n).filter λx=>decide (ns.getD x 0<=sh)).map λx:Nat=>((x:Int)+dx,y)
theorem zkm(ns:List Int)(sh dx y:Int)(n:Nat):rowX ns sh dx y (n+1)=rowX ns sh dx y n++(if ns.getD n 0<=sh then [((n:Int)+dx,y)] else []):=by
 unfold rowX;rw[List.range_succ,Ew,Aq]
 congr 1
 by_cases h:ns.getD n 0<=sh
 .rw[if_pos h]
  have e:(DV (λx=>decide (ns.getD x 0<=sh)) [n])=[n]:=by show (match decide (ns.getD n 0<=sh) with |true=>[n] |false=>[])=[n];rw[decide_eq_true h]
  rw[e];rfl
 .rw[if_neg h]
  have e:(DV (λx=>decide (ns.getD x 0<=sh)) [n])=[]:=by show (match decide (ns.getD n 0<=sh) with |true=>[n] |false=>[])=[];rw[decide_eq_false h]
  rw[e];rfl
theorem zeC(ns:List Int)(sh dx y:Int)(n:Nat):(rowX ns sh dx y n).length<=n:=by
 unfold rowX;rw[Ag];refine AV (BK _ _) ?_
 rw[Ck];exact Ai _
theorem zm9(ns:List Int)(sh dx y:Int)(n:Nat):(rowX ns sh dx y n).Pairwise Bfr:=by unfold rowX;rw[List.pairwise_map];refine (List.pairwise_lt_range.filter _).imp λ{a b} h=>znD (by lia)
theorem zmw{ns:List Int}{sh dx y:Int}{n:Nat}{c:Cell}(h:c∈rowX ns sh dx y n):c.2=y:=by obtain⟨x,_,rfl⟩:=AG.mp h;rfl
theorem zn5{ns:List Int}{sh dx y:Int}{n:Nat}{c:Cell}(h:c∈rowX ns sh dx y n):dx<=c.1/\c.1<dx+n:=by obtain⟨x,hx,rfl⟩:=AG.mp h;have:=Ce.mp (EB.mp hx).1;show dx<=(x:Int)+dx/\(x:Int)+dx<dx+n;lia
noncomputable def CellN(c:Cell):Prop:=(-(10 ^ 30)<c.1/\c.1<10 ^ 30)/\-(10 ^ 30)<c.2/\c.2<10 ^ 30
noncomputable def zmr(K:W.Frag):Sp:=λvs H Q _=>∃(a:Addr) (ns:List Int) (st:Nat),vs=[.ref a,.int st]/\SqL K H a (ns.map V.int)/\∀p H' vs cs,H p=none->Same H H'->H' p=some (.lst vs)->VR vs cs cR H'->cs.Pairwise Bfr->cs.length<=120->(∃x0 y0:Int,∀c∈cs,x0<=c.1/\c.1<x0+12/\y0<=c.2/\c.2<y0+10)->(∀c∈cs,CellN c)->Q (.ref p) H'
theorem six{α:Type}{l:List α}(h:l.length=6):∃a b c d e f,l=[a,b,c,d,e,f]:=by
 match l,h with
 |[a,b,c,d,e,f],_=>exact⟨a,b,c,d,e,f,rfl⟩
theorem ze7 (T:Txt P w K mg) (g__law_cell_at:Fn P w K mg base 1 "_law_cell_at" ["_law_script", "_law_k"] (zfK K)) (g__law_row:Fn P w K mg base 1 "_law_row" ["_law_cell", "_law_many", "_law_base"] spRow)
    (d:Df K mg "_law_picture" zbD ["_law_script","_law_start"]):FnOk P w K mg base CX0 2 d.f d.fd ["_law_script","_law_start"] (zmr K):=by
  refine d.F.ok zar (λvs H Q E h=>?_) (λcdv A outer s H vs Q E hr h=>?_)
  . obtain⟨a,ns,st,rfl,_⟩:=h;rfl
  . obtain⟨a,ns,st,rfl,hS,k⟩:=h;have nb0:(["_law_x","_law_y","_law_far","_law_row_here","_law_share","_law_left","_law_low"]:List Str).Nodup:=by decide +kernel
    refine⟨_,(zac (zbm (pC g__law_row hr (zah (pC g__law_cell_at hr (pa_N (pv 0) (pa_N (pv 1) zab))) (pa_C zae (pa_C zae zab)))) (zmB (by rfl) (zaf (nG 2 zar.nd) (zaf (nG 3 zar.nd) (zaf (zdl (i:=4) zar.nd (by rfl) (Or.inr rfl)) (zaf (zdl (i:=5) zar.nd (by rfl) (Or.inr rfl)) (zaf (zdl (i:=6) zar.nd (by rfl) (Or.inr rfl)) (zaf (nG 7 zar.nd) zat))))))))
      (zac (zgS (i:=8) zar.nd (by rfl) (Or.inr rfl) (pe_ix za7 (zaV (pa_C zae (pa_B (pe_op zkz zae zae) zab))) (pe_op zhQ (pv 7) zae) (λ_ _=>rfl)))
      (zac (sE 9 zar.nd (zaV zab))
      (zac (zb6 Bs rfl (zbX (by rfl) T.nrange (pa_B (pe_op zaL zae (pe_op zaS (pv 3) zae)) zab)) (zdl (i:=10) zar.nd (by rfl) (Or.inr rfl))
      (zac (zgS (i:=11) zar.nd (by rfl) (Or.inr rfl) (pC g__law_row hr (pa_B (pe_op zaL (pC g__law_cell_at hr (pa_N (pv 0) (pa_B (pe_op zaL (pe_op zaL (pv 1) zae) (pv 10)) zab))) (pv 10)) (pa_B (pe_op zaL zae (pe_op zaS (pv 2) zae)) (pa_C zae zab)))))
      (zag (zaY (pe_bm AO Eg Eh zeI (pv 9) (zah (zaF (osc:=zad zbD) (N:=zde) (N':=["_law_x","_law_y","_law_far","_law_row_here","_law_share","_law_left","_law_low"]) (sel:=[none,some 10,some 8,some 11,some 4,some 5,some 6]) bO (zbX (by rfl) T.nrange (zah (zan zaw (by rfl) T.nlen (by rfl) (pa_N (pv 11) zab)) zab)) (λ_ _ _ _ _=>(nG 0 nb0)) (λ_ _ _ _ _=>zcT (zap op_le (pe_ix (zl0 (K:=K)) (pv 3) (pv 0) (λ_ _=>rfl)) (pe_op zaS (pv 4) zae) (zaq _))) (λ_ _ _ _ _=>(zam (pa_B (pe_op zaL (pv 0) (pe_op zbt (pe_op zda (pv 5) zae) (pv 2))) (pa_B (pe_op zaL (pv 1) (pe_op zbt (pe_op zda (pv 6) zae) (pv 2))) zab))))) zab))))))
      (zag (zak (pv 9))))))),?_⟩
    refine⟨_,rfl,_,rfl,a,ns,st,rfl,hS,λc0=>⟨c0,60,6,rfl,by decide,by decide,by decide,λp1 H1 ms hp1 s1 e1 hl1 hb1=>?_⟩⟩;obtain⟨wd,hg,sh,lf,lw,wy,rfl⟩:=six hl1;have bw:=hb1 wd (by simp);have bh:=hb1 hg (by simp);have bl:=hb1 lf (by simp);have bo:=hb1 lw (by simp);have by':=hb1 wy (by simp);refine⟨p1,_,rfl,SqL.of e1,rfl,_,_,rfl,_,_,rfl,_,_,rfl,_,_,rfl,_,_,rfl,_,_,rfl,rfl,?_⟩;refine⟨_,_,rfl,rfl,(by refine cpow ?_;decide),two,λl2 hl2=>?_⟩;have s2:Same H1 (upd H1 l2 (.lst [.int 1,.int (10 ^ (28:Int).toNat)])):=Same.up hl2;have e2:upd H1 l2 (.lst [.int 1,.int (10 ^ (28:Int).toNat)]) l2=some (.lst [.int 1,.int (10 ^ (28:Int).toNat)]):=zaa;generalize upd H1 l2 (.lst [.int 1,.int (10 ^ (28:Int).toNat)])=H2 at s2 e2
    obtain⟨far,hfar,hf2⟩:∃far:Int,atI [V.int 1,V.int (10 ^ (28:Int).toNat)] (wy / 50)=some (.int far)/\(far=1∨far=10 ^ (28:Int).toNat):=by
      have:wy / 50=0∨wy / 50=1:=by lia
      rcases this with z |z <;> rw[z]
      . exact⟨_,rfl,.inl rfl⟩
      . exact⟨_,rfl,.inr rfl⟩
    refine⟨_,rfl,_,_,rfl,rfl,⟨by decide,by decide⟩,l2,_,_,_,rfl,rfl,SqL.of e2,hfar,?_⟩;refine⟨(by show 0<=sizeLine;decide),λf hf=>?_⟩;have s3:Same H2 (upd H2 f (.lst [])):=Same.up hf;have e3:upd H2 f (.lst []) f=some (.lst []):=zaa;generalize upd H2 f (.lst [])=H3 at s3 e3;have s02:=s1.trans s2;have hf0:H f=none:=s02.free hf;have s03:=s02.trans s3;have hh0:=DF hg (show (10:Int)≠0 by decide);have hh1:=C3 hg (show (0:Int)<10 by decide);have hw0:=DF wd (show (12:Int)≠0 by decide);have hw1:=C3 wd (show (0:Int)<12 by decide);refine⟨_,rfl,_,_,rfl,rfl,(by show (0:Int)<10;decide),_,_,rfl,rfl,_,rfl,(by show -(2 ^ 62)<=1+hg % 10;lia),(by show 1+hg % 10<2 ^ 62;lia),?_⟩
    refine zb0 (lo := 0) (n := (1 + hg % 10).toNat) (λi σ H4 => ∃o10 o11, σ = [some (.ref a), some (.int st), some (.int wd), some (.int hg), some (.int sh), some (.int lf), some (.int lw), some (.int wy), some (.int far), some (.ref f), o10, o11] /\ Same H H4 /\
        ∃vs cs,H4 f=some (.lst vs)/\VR vs cs cR H4/\cs.Pairwise Bfr/\(∀c∈cs,c.2<(i:Int)+(lw-30)*far/\(lw-30)*far<=c.2/\(lf-30)*far<=c.1/\c.1<(lf-30)*far+12)/\cs.length<=12*i)
      ⟨_,_,rfl,s03,[],[],e3,VR.nil,.nil,by simp,AT _⟩ ?_ ?_
    . rintro i σ H4 hi ⟨o10,o11,rfl,s4,vs,cs,e4,hv4,hpw,hup,hcl⟩;have hi10:i<10:=by lia
      refine⟨_,rfl,_,rfl,_,_,rfl,rfl,_,rfl,_,_,rfl,rfl,a,ns,st+1+i,(by rw[Dy];rfl),s4.seq hS,λc1=>⟨_,rfl,_,_,rfl,rfl,?_⟩⟩;refine⟨_,rfl,_,_,rfl,rfl,(by show (0:Int)<12;decide),_,_,rfl,rfl,_,4,(1+wd % 12).toNat,(by rw[Int.toNat_of_nonneg (by lia)];rfl),by lia,by decide,by decide,λp5 H5 rs hp5 s5 e5 hl5 _=>?_⟩;have e45:=s5 _ _ e4;refine⟨_,rfl,.inl ⟨rfl,_,SqL.of e45⟩,_,rfl,p5,_,rfl,.inl (SqL.of e5),_,rfl,(by rw[Ag];lia),(by rw[Ag];lia),λg hg5=>?_⟩;rw[show ((((rs.map V.int).length:Nat):Int)).toNat=rs.length by rw[Ag];rfl];have hrl:rs.length<=12:=by lia
      refine zb0 (lo:=0) (n:=rs.length) (λj σ H6=>∃o0,σ=[o0,some (.int (0+(i:Int))),some (.int far),some (.ref p5),some (.int sh),some (.int lf),some (.int lw)]/\Same H5 H6/\∃zs,H6 g=some (.lst zs)/\VR zs (rowX rs (sh % 3) ((lf-30)*far) ((i:Int)+(lw-30)*far) j) cR H6)
        ⟨_,rfl,Same.up hg5,[],zaa,VR.nil⟩ ?_ ?_
      . rintro j σ H6 hj ⟨o0,rfl,s6,zs,e6,hz6⟩;have hzl:zs.length<=12:=by rw[hz6.1];have:=zeC rs (sh % 3) ((lf-30)*far) ((i:Int)+(lw-30)*far) j;lia
        have hget:(rs.map V.int)[j]?=some (.int (rs.getD j 0)):=by rw[Ay,Be,Ab hj];rfl
        refine⟨_,rfl,_,rfl,p5,_,_,_,rfl,rfl,SqL.of (s6 _ _ e5),(by rw[Dy];exact zaE hget),_,rfl,_,_,rfl,rfl,(by show (0:Int)<3;decide),_,_,rfl,rfl,_,rfl,?_⟩;rw[zkm];refine ite2 (λhy=>?_) (λhn=>?_)
        . rw[if_pos (of_decide_eq_true hy)];refine⟨_,rfl,_,rfl,_,_,rfl,rfl,_,rfl,_,_,rfl,rfl,.inl ⟨by lia,by lia⟩,_,_,rfl,rfl,?_⟩;refine⟨_,rfl,_,rfl,_,_,rfl,rfl,_,rfl,_,_,rfl,rfl,.inl ⟨by lia,by lia⟩,_,_,rfl,rfl,two,λt ht=>?_⟩;have s7:Same H6 (upd H6 t (.tup [.int (0+(j:Int)+(lf-30)*far),.int (0+(i:Int)+(lw-30)*far)])):=Same.up ht;have r7:cR ((j:Int)+(lf-30)*far,(i:Int)+(lw-30)*far) (.ref t) (upd H6 t (.tup [.int (0+(j:Int)+(lf-30)*far),.int (0+(i:Int)+(lw-30)*far)])):=⟨t,rfl,by rw[zaa,Dy,Dy];rfl⟩;generalize upd H6 t (.tup [.int (0+(j:Int)+(lf-30)*far),.int (0+(i:Int)+(lw-30)*far)])=H7 at s7 r7;have e7:=s7 _ _ e6;refine⟨zs,e7,small1000 (by lia),_,rfl,zaj hg5 (s6.trans s7),_,zaa,?_⟩;exact hz6.snoc (λx v h=>(h.kt (KT.of s7)).kt (KT.lst e7)) (r7.kt (KT.lst e7))
        . rw[if_neg (by simpa using hn)];exact⟨_,rfl,s6,zs,e6,by rw[Bk];exact hz6⟩
      . rintro σ H6 ⟨o0,rfl,s6,zs,e6,hz6⟩;have hrx:=zeC rs (sh % 3) ((lf-30)*far) ((i:Int)+(lw-30)*far) rs.length;have hzl:zs.length<=12:=by rw[hz6.1];lia
        have hvl:vs.length<=120:=by rw[hv4.1];lia
        have e46:=s6 _ _ e45;refine⟨f,g,_,_,rfl,rfl,e46,e6,BD (small1000 (by lia)),?_⟩;have k7:KT H6 (upd H6 f (.lst (vs++zs))):=KT.lst e46;refine⟨_,_,rfl,zaj hf0 (s4.trans (s5.trans s6)),_,_,zaa,(hv4.mono λx v h=>(h.kt (KT.of (s5.trans s6))).kt k7).app (hz6.mono λx v h=>h.kt k7),?_,?_,?_⟩
        . refine AW.mpr ⟨hpw,zm9 _ _ _ _ _,λx hx y hy=>zoB ?_⟩;have:=(hup x hx).1;rw[zmw hy];exact this
        . intro c hc;rcases Az.mp hc with h |h
          . have:=hup c h;lia
          . have e1:=zmw h;have e2:=zn5 h;lia
        . rw[Am];lia
    . rintro σ H4 ⟨o10,o11,rfl,s4,vs,cs,e4,hv4,hpw,hup,hcl⟩;refine⟨_,rfl,k f H4 vs cs hf0 s4 e4 hv4 hpw (by lia) ⟨(lf-30)*far,(lw-30)*far,λc hc=>by have:=hup c hc;lia⟩ λc hc=>?_⟩;have hu:=hup c hc;have hi:((1+hg % 10).toNat:Int)<=10:=by lia
      have e28:((10:Int) ^ (28:Int).toNat)=10000000000000000000000000000:=rfl;have e30:((10:Int) ^ 30)=1000000000000000000000000000000:=rfl;unfold CellN;rw[e30];rcases hf2 with rfl |rfl
      . refine⟨⟨?_,?_⟩,?_,?_⟩ <;> lia
      . rw[e28]at hu;refine⟨⟨?_,?_⟩,?_,?_⟩ <;> lia
noncomputable def keyR(k:List Key)(v:V)(H:Hp):Prop:=∃b,v=.ref b/\H b=some (.tup (k.map kV))
noncomputable def tru(ks:List (List Key)):List (List Key×V):=ks.map λk=>(k,V.bl true)
theorem zlL{ks:List (List Key)}{k:List Key}(h:k ∉ ks):putK (tru ks) k (.bl true)=tru (ks++[k]):=by
 unfold putK tru;rw[if_neg (λz=>?_),Aq]
 .rfl
 .obtain⟨x,hx,e⟩:=List.any_eq_true.mp z;obtain⟨y,hy,rfl⟩:=AG.mp hx;exact h (by rw[<- of_decide_eq_true e];exact hy)
theorem zjU:∀{ks:List (List Key)}{k:List Key},k ∉ ks->valV (tru ks) k=none
 |[],_,_=>rfl
 |x::xs,k,h=>by
  show valV ((x,V.bl true)::tru xs) k=none;rw[za9 (λe=>h (by rw[<- e];exact AM))];exact zjU λm=>h (AK _ m)
theorem zmk:∀{ks:List (List Key)}{k:List Key},k∈ks->valV (tru ks) k=some (.bl true)
 |x::xs,k,h=>by
  show valV ((x,V.bl true)::tru xs) k=some (V.bl true)
  by_cases e:x=k
  .rw[zbe e]
  .rw[za9 e];exact zmk ((AI.mp h).resolve_left λz=>e z.symm)
noncomputable def spLot(K:W.Frag):Sp:=λvs H Q _=>∃(a:Addr) (us:List V) (ks:List (List Key)),vs=[.ref a]/\SqL K H a us/\VR us ks keyR H/\ks.Nodup/\ks.length<=1000/\∀t H',H t=none->Same H H'->H' t=some (.dT (tru ks))->Q (.ref t) H'
theorem zjv (d:Df K mg "_law_lot" zdQ ["_law_cells"]):FnOk P w K mg base CX0 1 d.f d.fd ["_law_cells"] (spLot K):=by
 refine d.F.ok zdg (λvs H Q E h=>?_) (λcdv A outer s H vs Q E hr h=>?_)
 .obtain⟨a,us,ks,rfl,_⟩:=h;rfl
 .obtain⟨a,us,ks,rfl,hq,hv,hnd,hlen,k⟩:=h;have hu1:=hu_of hr
  refine⟨_,(zac (sE 1 zdg.nd zfZ)
   (zac (zb6 Bs rfl (zaU (pv 0)) (nG 2 zdg.nd)
   (zag (zkn hu1 (pv 1) (pv 2) pe_bl rfl)))
   (zag (zak (pv 1))))),?_⟩
  refine λp hp=>?_
  refine⟨_,rfl,a,rfl,⟨_,(Same.up hp).seq hq⟩,?_⟩
  refine zaH (K:=K) (a:=a) (xs:=us) (λi σ H2=>∃o,σ=[some (.ref a),some (.ref p),o]/\Same H H2/\H2 p=some (.dT (tru (ks.take i))))
   ⟨_,rfl,Same.up hp,zaa⟩ (λi σ H2 _ ⟨_,_,s2,_⟩=>s2.seq hq) ?_ ?_
  .rintro i v σ H2 hi ⟨o,rfl,s2,e2⟩;obtain⟨x,hx,b,rfl,q⟩:=hv.at hi;have hil:i<ks.length:=(Ae.mp hx).1
   have hn:x ∉ ks.take i:=λhm=>by
    obtain⟨j,hj,ej⟩:=A6 hm;rw[AA]at hj;have h1:ks[j]?=some x:=by rw[<- ej,List.getElem_take];exact Ab (by lia)
    have:=(Dh (i:=j) (j:=i) (by lia) hnd).mp (by rw[h1,hx]);lia
   refine⟨_,rfl,_,rfl,p,_,rfl,.inr ⟨tru (ks.take i),x,b,e2,rfl,s2 _ _ q,small1000 (by unfold tru;rw[Ag,AA];lia),rfl⟩,?_⟩;refine⟨_,rfl,λz o e=>?_,?_⟩
   .rw[zai (zal e hp)];exact s2 z o e
   .rw[zaa,zlL hn,zay hx]
  .rintro σ H2 ⟨o,rfl,s2,e2⟩;rw[hv.1,AL]at e2;exact⟨_,rfl,k p H2 hp s2 e2⟩
noncomputable def TabR(H:Hp)(t:Addr)(C:Cell->Bool):Prop:=∃kvs:List (List Key×V),Rd H t (.dT kvs)/\∀c:Cell,(valV kvs [DL c.1,DL c.2]).isSome=C c
theorem Same.rd{H H':Hp}{a:Addr}{o:HO}(s:Same H H')(h:Rd H a o):Rd H' a o:=h.elim (λe=>.inl (s _ _ e)) λ⟨x,e⟩=>.inr ⟨x,s _ _ e⟩
theorem TabR.same{H H':Hp}{t:Addr}{C:Cell->Bool}(h:TabR H t C)(s:Same H H'):TabR H' t C:=let ⟨kvs,e,q⟩:=h;⟨kvs,Same.rd s e,q⟩
theorem zii(cs:List Cell)(c:Cell):(valV (tru (cs.map kC)) (kC c)).isSome=isIn cs c:=by
 show _=decide (c∈cs)
 by_cases m:c∈cs
 .rw[zmk (AG.mpr ⟨c,m,rfl⟩),decide_eq_true m];rfl
 .rw[zjU (λz=>by obtain⟨x,hx,e⟩:=AG.mp z;exact m ((zkY.mp e) ▸ hx)),decide_eq_false m];rfl
theorem TabR.of{H:Hp}{t:Addr}{cs:List Cell}(h:Rd H t (.dT (tru (cs.map kC)))):TabR H t (isIn cs):=⟨_,h,zii cs⟩
noncomputable def ziy(K:W.Frag):Sp:=λvs H Q _=>∃(t a:Addr) (C:Cell->Bool) (e:Edge),vs=[.ref t,.ref a]/\TabR H t C/\SqT K H a (edgeT e)/\e.w<4/\∀p q H',Same H H'->H' p=some (.tup [sv (stepB C e),.ref q])->H' q=some (.tup (edgeT (nxt C e)))->Q (.ref p) H'
theorem zf5 (g__law_gone:Fn P w K mg base 1 "_law_gone" ["_law_x","_law_y","_law_step"] zeu) (d:Df K mg "_law_behind" zcu ["_law_there","_law_edge"]):FnOk P w K mg base CX0 2 d.f d.fd ["_law_there","_law_edge"] (ziy K):=by
 refine d.F.ok za3 (λvs H Q E h=>?_) (λcdv A outer s H vs Q E hr h=>?_)
 .obtain⟨t,a,C,e,rfl,_⟩:=h;rfl
 .obtain⟨t,a,C,e,rfl,tab,hq,hw,k⟩:=h;have hu1:=hu_of hr
  refine⟨_,(zac (zbm (pv 1) (zba (by rfl) (zaf (nG 2 za3.nd) (zaf (nG 3 za3.nd) (zaf (nG 4 za3.nd) zat)))))
   (zac (sE 5 za3.nd (pC g__law_gone hr (pa_N (pv 2) (pa_N (pv 3) (pa_B (pe_op zaS (pe_op zaL (pe_op zbt zae (pv 4)) zae) zae) zab)))))
   (zac (sE 6 za3.nd (pC g__law_gone hr (pa_N (pv 2) (pa_N (pv 3) (pa_B (pe_op zbt zae (pv 4)) zab)))))
   (zac (ps_if (zgR (zmC hu1 (pv 5) (pv 0)))
   (zag (zak (zam (pa_B (pe_op zaS (pe_op zaL (pe_op zbt zae (pv 4)) zae) zae) (pa_B (pe_op zcW (pv 5) (zam (pa_B (pe_op zaS (pe_op zaL (pv 4) zae) zae) zab))) zab)))))
   zaB)
   (zac (ps_if (zgR (zmC hu1 (pv 6) (pv 0)))
   (zag (zak (zam (pa_B (pe_op zbt zae (pv 4)) (pa_B (pe_op zcW (pv 6) (zam (pa_N (pv 4) zab))) zab)))))
   zaB)
   (zag (zak (zam (pa_C za5 (pa_T (zam (pa_N (pv 2) (pa_N (pv 3) (pa_B (pe_op zaS (pe_op zaL (pv 4) zae) zae) zab)))) zab)))))))))),?_⟩
  refine⟨_,rfl,a,_,rfl,hq,rfl,_,_,rfl,_,_,rfl,_,_,rfl,rfl,?_⟩;have m7:(2*(e.w:Int)+7) % 8=(((2*e.w+7) % 8:Nat):Int):=by lia
  have m2:2*(e.w:Int)=((2*e.w:Nat):Int):=by lia
  refine⟨_,rfl,_,rfl,_,rfl,_,_,rfl,rfl,.inl ⟨by decide,by decide⟩,_,_,rfl,rfl,_,_,rfl,rfl,(by show (0:Int)<8;decide),e.c,(2*e.w+7) % 8,(by rw[<- m7];rfl),Cv _ (by decide),λp1 H1 hp1 s1 e1=>?_⟩;refine⟨_,rfl,_,rfl,_,rfl,_,_,rfl,rfl,.inl ⟨by decide,by decide⟩,e.c,2*e.w,(by rw[<- m2];rfl),by lia,λp2 H2 hp2 s2 e2=>?_⟩;have s12:=s1.trans s2;obtain⟨kvs,et,hC⟩:=tab;have e12:=s2 _ _ e1;refine⟨_,rfl,_,rfl,t,_,rfl,.inr ⟨kvs,kC (go e.c ((2*e.w+7) % 8)),p1,(Same.rd s12 et),rfl,e12,rfl⟩,_,rfl,?_⟩;have hc1:=hC (go e.c ((2*e.w+7) % 8));change (valV kvs (kC (go e.c ((2*e.w+7) % 8)))).isSome=_ at hc1;rw[hc1]
  cases c1:C (go e.c ((2*e.w+7) % 8)) with
  |true =>
   refine iteT ?_
   have hs:stepB C e=some ((2*e.w+7) % 8):=by unfold stepB;rw[c1,if_pos rfl]
   refine⟨_,rfl,_,_,rfl,rfl,.inl ⟨by decide,by decide⟩,_,_,rfl,rfl,_,_,rfl,rfl,(by show (0:Int)<8;decide),?_⟩;refine⟨_,rfl,_,rfl,_,_,rfl,rfl,_,_,rfl,rfl,(by show (0:Int)<4;decide),(by show 1<=sizeLine;decide),λt3 h3=>?_⟩;have s3:=Same.up (o:=.tup [.int (((e.w:Int)+3) % 4)]) h3;have f3:upd H2 t3 (.tup [.int (((e.w:Int)+3) % 4)]) t3=some (.tup [.int (((e.w:Int)+3) % 4)]):=zaa;generalize upd H2 t3 (.tup [.int (((e.w:Int)+3) % 4)])=H3 at s3 f3;refine⟨p1,t3,_,_,rfl,rfl,SqT.of (s3 _ _ e12),SqT.of f3,(by simp[cellT]),three,(λz=>by cases z),λ_ q hq'=>?_⟩;have s4:=Same.up (o:=.tup (cellT (go e.c ((2*e.w+7) % 8))++[.int (((e.w:Int)+3) % 4)])) hq';have f4:upd H3 q (.tup (cellT (go e.c ((2*e.w+7) % 8))++[.int (((e.w:Int)+3) % 4)])) q=some (.tup (cellT (go e.c ((2*e.w+7) % 8))++[.int (((e.w:Int)+3) % 4)])):=zaa;generalize upd H3 q (.tup (cellT (go e.c ((2*e.w+7) % 8))++[.int (((e.w:Int)+3) % 4)]))=H4 at s4 f4;refine⟨two,λp5 h5=>?_⟩;refine k p5 q _ (s12.trans (s3.trans (s4.trans (Same.up h5)))) ?_ ?_
   .rw[zaa,hs];show some (HO.tup [.int ((2*(e.w:Int)+7) % 8),.ref q])=some (HO.tup [.int (((2*e.w+7) % 8:Nat):Int),.ref q]);rw[m7]
   .rw[Same.up h5 _ _ f4];unfold nxt;rw[hs];show _=some (HO.tup (edgeT (if (2*e.w+7) % 8 % 2=1 then ⟨go e.c ((2*e.w+7) % 8),(e.w+3) % 4⟩ else ⟨go e.c ((2*e.w+7) % 8),e.w⟩)));rw[if_pos (by lia)];show some (HO.tup [.int _,.int _,.int (((e.w:Int)+3) % 4)])=some (HO.tup [.int _,.int _,.int (((e.w+3) % 4:Nat):Int)]);rw[show ((e.w:Int)+3) % 4=(((e.w+3) % 4:Nat):Int) by lia]
  |false =>
   refine iteF ?_
   refine⟨_,rfl,_,rfl,t,_,rfl,.inr ⟨kvs,kC (go e.c (2*e.w)),p2,(Same.rd s12 et),rfl,e2,rfl⟩,_,rfl,?_⟩;have hc2:=hC (go e.c (2*e.w));change (valV kvs (kC (go e.c (2*e.w)))).isSome=_ at hc2;rw[hc2]
   cases c2:C (go e.c (2*e.w)) with
   |true =>
    refine iteT ?_
    have hs:stepB C e=some (2*e.w):=by unfold stepB;rw[c1,if_neg (by simp),c2,if_pos rfl]
    refine⟨_,rfl,_,_,rfl,rfl,.inl ⟨by decide,by decide⟩,?_⟩;refine⟨_,rfl,_,rfl,(by show 1<=sizeLine;decide),λt3 h3=>?_⟩;have s3:=Same.up (o:=.tup [.int (e.w:Int)]) h3;have f3:upd H2 t3 (.tup [.int (e.w:Int)]) t3=some (.tup [.int (e.w:Int)]):=zaa;generalize upd H2 t3 (.tup [.int (e.w:Int)])=H3 at s3 f3;refine⟨p2,t3,_,_,rfl,rfl,SqT.of (s3 _ _ e2),SqT.of f3,(by simp[cellT]),three,(λz=>by cases z),λ_ q hq'=>?_⟩;have s4:=Same.up (o:=.tup (cellT (go e.c (2*e.w))++[.int (e.w:Int)])) hq';have f4:upd H3 q (.tup (cellT (go e.c (2*e.w))++[.int (e.w:Int)])) q=some (.tup (cellT (go e.c (2*e.w))++[.int (e.w:Int)])):=zaa;generalize upd H3 q (.tup (cellT (go e.c (2*e.w))++[.int (e.w:Int)]))=H4 at s4 f4;refine⟨two,λp5 h5=>?_⟩;refine k p5 q _ (s12.trans (s3.trans (s4.trans (Same.up h5)))) ?_ ?_
    .rw[zaa,hs];show some (HO.tup [.int (2*(e.w:Int)),.ref q])=some (HO.tup [.int ((2*e.w:Nat):Int),.ref q]);rw[m2]
    .rw[Same.up h5 _ _ f4];unfold nxt;rw[hs];show _=some (HO.tup (edgeT (if 2*e.w % 2=1 then ⟨go e.c (2*e.w),(e.w+3) % 4⟩ else ⟨go e.c (2*e.w),e.w⟩)));rw[if_neg (by lia)];rfl
   |false =>
    refine iteF ?_
    have hs:stepB C e=none:=by unfold stepB;rw[c1,if_neg (by simp),c2,if_neg (by simp)]
    refine⟨_,rfl,_,rfl,_,rfl,_,_,rfl,rfl,_,_,rfl,rfl,(by show (0:Int)<4;decide),three,λq hq'=>?_⟩;have s4:=Same.up (o:=.tup [.int e.c.1,.int e.c.2,.int (((e.w:Int)+1) % 4)]) hq';have f4:upd H2 q (.tup [.int e.c.1,.int e.c.2,.int (((e.w:Int)+1) % 4)]) q=some (.tup [.int e.c.1,.int e.c.2,.int (((e.w:Int)+1) % 4)]):=zaa;generalize upd H2 q (.tup [.int e.c.1,.int e.c.2,.int (((e.w:Int)+1) % 4)])=H4 at s4 f4;refine⟨two,λp5 h5=>?_⟩;refine k p5 q _ (s12.trans (s4.trans (Same.up h5))) ?_ ?_
    .rw[zaa,hs];rfl
    .rw[Same.up h5 _ _ f4];unfold nxt;rw[hs];show some (HO.tup [.int _,.int _,.int (((e.w:Int)+1) % 4)])=some (HO.tup [.int _,.int _,.int (((e.w+1) % 4:Nat):Int)]);rw[show ((e.w:Int)+1) % 4=(((e.w+1) % 4:Nat):Int) by lia];rfl
noncomputable def zio(K:W.Frag):Sp:=λvs H Q _=>∃(t a:Addr) (cs:List Cell) (b:Edge),vs=[.ref t,.ref a]/\TabR H t (isIn cs)/\H a=some (.tup (edgeT b))/\IsE (isIn cs) b/\cs.length<=120 /\
 ∀p pe pq H' us es,Same H H'->H' p=some (.tup [.ref pe,.ref pq])->H' pe=some (.lst us)->VR us es eR H'->H' pq=some (.lst ((es.map (stepB (isIn cs))).map sv))->Closed (isIn cs) b es->Q (.ref p) H'
theorem zf3 (g__law_behind:Fn P w K mg base 2 "_law_behind" ["_law_there","_law_edge"] (ziy K)) (d:Df K mg "_law_walked" zct ["_law_there","_law_first"]):FnOk P w K mg base CX0 3 d.f d.fd ["_law_there","_law_first"] (zio K):=by
 refine d.F.ok zaR (λvs H Q E h=>?_) (λcdv A outer s H vs Q E hr h=>?_)
 .obtain⟨t,a,cs,b,rfl,_⟩:=h;rfl
 .obtain⟨t,a,cs,b,rfl,tab,ha,hb,hlen,k⟩:=h;have hu64:=hr.units
  refine⟨_,(zac (sE 2 zaR.nd (zaV (pa_N (pv 1) zab)))
   (zac (sE 3 zaR.nd (zaV zab))
   (zac (zbm (pC g__law_behind hr (pa_N (pv 0) (pa_N (pv 1) zab))) (zba (by rfl) (zaf (nG 4 zaR.nd) (zaf (nG 5 zaR.nd) zat))))
   (zac (zfW Bs (zap (zgX hu64) (pv 5) (pv 1) (zaq _))
   (zac (zaY (pe_bm AO A4 A5 zaM (pv 2) (pa_N (pv 5) zab)))
   (zac (zaY (pe_bm AO A4 A5 zaM (pv 3) (pa_N (pv 4) zab)))
   (zag (zbm (pC g__law_behind hr (pa_N (pv 0) (pa_N (pv 5) zab))) (zba (by rfl) (zaf (nG 4 zaR.nd) (zaf (nG 5 zaR.nd) zat))))))))
   (zag (zak (zam (pa_N (pv 2) (pa_B (pe_op zfw (pv 3) (zaV (pa_N (pv 4) zab))) zab))))))))),?_⟩
  refine⟨_,rfl,(by show 1<=sizeLine;decide),λpe hpe=>?_⟩;have s1:=Same.up (o:=.lst [.ref a]) hpe;have e1:upd H pe (.lst [.ref a]) pe=some (.lst [.ref a]):=zaa;generalize upd H pe (.lst [.ref a])=H1 at s1 e1;refine⟨(by show 0<=sizeLine;decide),λps hps=>?_⟩;have s2:=Same.up (o:=.lst []) hps;have e2:upd H1 ps (.lst []) ps=some (.lst []):=zaa;generalize upd H1 ps (.lst [])=H2 at s2 e2;have s02:=s1.trans s2;have hps0:H ps=none:=s1.free hps;have hne:pe≠ps:=zal e1 hps;refine⟨_,rfl,_,rfl,t,a,isIn cs,b,rfl,tab.same s02,SqT.of (s02 _ _ ha),hb.1,λp3 q3 H3 s3 f3 g3=>?_⟩;refine⟨p3,_,rfl,SqT.of f3,rfl,_,_,rfl,_,_,rfl,rfl,?_⟩;have s03:=s02.trans s3
  refine zlw (λσ H4=>∃us es l re,σ=[some (.ref t),some (.ref a),some (.ref pe),some (.ref ps),some (sv (stepB (isIn cs) l)),some (.ref re)]/\Same H H4/\H4 pe=some (.lst us)/\VR us (es++[l]) eR H4/\H4 ps=some (.lst ((es.map (stepB (isIn cs))).map sv))/\Chain (isIn cs) b (es++[l])/\H4 re=some (.tup (edgeT (nxt (isIn cs) l))))
   (λ_ H4=>4*cs.length+1-zkN (H4 pe)) ?_ ?_ ?_
  .refine⟨[.ref a],[],b,q3,rfl,s03,(s2.trans s3) _ _ e1,⟨rfl,λi x v h1 h2=>?_⟩,s3 _ _ e2,Chain.start hb,g3⟩
   match i,h1,h2 with
   | 0,h1,h2 =>
    cases h1;cases h2
    exact⟨a,rfl,s03 _ _ ha⟩
   |i+1,h1,h2=>simp at h2
  .rintro σ H4 ⟨us,es,l,re,rfl,s4,e4,hv,q4,hch,er⟩;have hw4:(nxt (isIn cs) l).w<4:=(zfx (hch.2.2.1 l (by simp))).1;have hl4:us.length=(es++[l]).length:=hv.1;have hsh0:=hch.short;refine⟨_,rfl,_,rfl,_,_,zdR er,zdR (s4 _ _ ha),zbp _,zbp _,_,rfl,?_⟩;rw[zhm]
   by_cases hnb:nxt (isIn cs) l=b
   .rw[decide_eq_true (zk9.mpr hnb)];refine iteF ?_
    refine⟨_,rfl,_,rfl,_,rfl,(by show 1<=sizeLine;decide),λl5 h5=>?_⟩;have s5:=Same.up (o:=.lst [sv (stepB (isIn cs) l)]) h5;have e5:upd H4 l5 (.lst [sv (stepB (isIn cs) l)]) l5=some (.lst [sv (stepB (isIn cs) l)]):=zaa;generalize upd H4 l5 (.lst [sv (stepB (isIn cs) l)])=H5 at s5 e5;rw[Am,C5]at hsh0;refine⟨ps,l5,_,_,rfl,rfl,s5 _ _ q4,e5,BD (small1000 (by simp;lia)),λl6 h6=>?_⟩;have em:(es.map (stepB (isIn cs))).map sv++[sv (stepB (isIn cs) l)]=((es++[l]).map (stepB (isIn cs))).map sv:=by rw[Aq,Aq];rfl
    rw[em];have s6:=Same.up (o:=.lst (((es++[l]).map (stepB (isIn cs))).map sv)) h6;have e6:upd H5 l6 (.lst (((es++[l]).map (stepB (isIn cs))).map sv)) l6=some (.lst (((es++[l]).map (stepB (isIn cs))).map sv)):=zaa;generalize upd H5 l6 (.lst (((es++[l]).map (stepB (isIn cs))).map sv))=H6 at s6 e6;refine⟨two,λp7 h7=>?_⟩;have s7:=Same.up (o:=.tup [.ref pe,.ref l6]) h7;have s47:=s5.trans (s6.trans s7);exact k p7 pe l6 _ us (es++[l]) (s4.trans s47) zaa (s47 _ _ e4) (hv.mono λx v h=>h.kt (KT.of s47)) (s7 _ _ e6) ⟨hch,l,by simp,hnb⟩
   .rw[decide_eq_false (λz=>hnb (zk9.mp z))];refine iteT ?_
    have hch2:=hch.more hnb;have hsh:=hch2.short;have hl5:us.length+1<=4*cs.length:=by rw[hl4];rw[Am,C5]at hsh;exact hsh
    refine⟨_,rfl,.inl ⟨rfl,_,SqL.of e4⟩,_,rfl,pe,us,_,rfl,rfl,e4,small1000 (by lia),?_⟩;have k5:KT H4 (upd H4 pe (.lst (us++[.ref re]))):=KT.lst e4;have e5:upd H4 pe (.lst (us++[.ref re])) pe=some (.lst (us++[.ref re])):=zaa;have s5:Same H (upd H4 pe (.lst (us++[.ref re]))):=zaj hpe s4;have q5:upd H4 pe (.lst (us++[.ref re])) ps=some (.lst ((es.map (stepB (isIn cs))).map sv)):=by rw[zai (Cz hne)];exact q4
    generalize upd H4 pe (.lst (us++[.ref re]))=H5 at k5 e5 s5 q5;have hel:es.length<=480:=by rw[Am,Am]at hsh;lia
    refine⟨_,rfl,.inl ⟨rfl,_,SqL.of q5⟩,_,rfl,ps,_,_,rfl,rfl,q5,small1000 (by simp;lia),?_⟩;have em:(es.map (stepB (isIn cs))).map sv++[sv (stepB (isIn cs) l)]=((es++[l]).map (stepB (isIn cs))).map sv:=by rw[Aq,Aq];rfl
    rw[em];have k6:KT H5 (upd H5 ps (.lst (((es++[l]).map (stepB (isIn cs))).map sv))):=KT.lst q5;have q6:upd H5 ps (.lst (((es++[l]).map (stepB (isIn cs))).map sv)) ps=some (.lst (((es++[l]).map (stepB (isIn cs))).map sv)):=zaa;have s6:Same H (upd H5 ps (.lst (((es++[l]).map (stepB (isIn cs))).map sv))):=zaj hps0 s5;have e6:upd H5 ps (.lst (((es++[l]).map (stepB (isIn cs))).map sv)) pe=some (.lst (us++[.ref re])):=by rw[zai hne];exact e5
    generalize upd H5 ps (.lst (((es++[l]).map (stepB (isIn cs))).map sv))=H6 at k6 q6 s6 e6;have kt:=k5.trans k6;have r6:=kt _ _ er;refine⟨_,rfl,_,rfl,t,re,isIn cs,nxt (isIn cs) l,rfl,tab.same s6,SqT.of r6,hw4,λp7 q7 H7 s7 f7 g7=>?_⟩;refine⟨p7,_,rfl,SqT.of f7,rfl,_,_,rfl,_,_,rfl,rfl,?_⟩;have e7:=s7 _ _ e6;refine⟨⟨us++[.ref re],es++[l],nxt (isIn cs) l,q7,rfl,s6.trans s7,e7,?_,s7 _ _ q6,hch2,g7⟩,?_⟩
    .exact hv.snoc (λx v hx=>(hx.kt kt).kt (KT.of s7)) ⟨re,rfl,s7 _ _ r6⟩
    .show 4*cs.length+1-zkN (H7 pe)<4*cs.length+1-zkN (H4 pe);rw[e7,e4];show 4*cs.length+1-(us++[V.ref re]).length<4*cs.length+1-us.length;rw[Am,C5];lia
  .rintro σ H4 Q1 Q2 hQ ⟨v,h1,v2,h2,dd,ee,r1,r2,x1,x2,kk,h3,q⟩;exact⟨v,h1,v2,h2,dd,ee,r1,r2,x1,x2,kk,h3,hQ _ _ q⟩
noncomputable def zjY:Sp:=λvs H Q _=>∃n:Int,vs=[.int n]/\Q (.bl true) H
theorem zg0 (T:Txt P w K mg) (d:Df K mg "_law_whole" zcR ["_law_found"]):FnOk P w K mg base CX0 1 d.f d.fd ["_law_found"] zjY:=by
 refine d.F.ok zfS (λvs H Q E h=>?_) (λcdv A outer s H vs Q E hr h=>?_)
 .obtain⟨n,rfl,_⟩:=h;rfl
 .obtain⟨n,rfl,k⟩:=h;refine⟨_,(zag (zak (ziI (zan zc8 (by rfl) T.nisinstance (by rfl) (pa_N (pv 0) (pa_N (zdS (v:=.ty "int") (by rfl) T.nint (by rfl) rfl) zab))) (ziH (zob (zan zc8 (by rfl) T.nisinstance (by rfl) (pa_N (pv 0) (pa_N (zdS (v:=.ty "bool") (by rfl) T.nbool (by rfl) rfl) zab)))))))),?_⟩;refine⟨_,rfl,.int n,"int",_,true,rfl,.int n,zdE _ _,_,rfl,iteT ?_⟩;exact⟨_,rfl,.int n,"bool",_,false,rfl,.int n,zhc _,_,rfl,k⟩
noncomputable def zgK:Sp:=λvs H Q _=>∃(v:V) (r:Rnd),vs=[v]/\rR r v H/\r.row.length<=500/\∀H',Same H H'->Q (.bl true) H'
theorem zeG (T:Txt P w K mg) (g__law_whole:Fn P w K mg base 1 "_law_whole" ["_law_found"] zjY) (d:Df K mg "_law_is_round" zbs ["_law_found"]):FnOk P w K mg base CX0 2 d.f d.fd ["_law_found"] zgK:=by
 refine d.F.ok zeb (λvs H Q E h=>?_) (λcdv A outer s H vs Q E hr h=>?_)
 .obtain⟨v,r,rfl,_⟩:=h;rfl
 .obtain⟨v,r,rfl,⟨a,b,rfl,q1,q2⟩,hlen,k⟩:=h;have nb0:(["_law_step"]:List Str).Nodup:=by decide +kernel
  refine⟨_,(zac (ps_if (pw_or (zck (zbK (zan zc8 (by rfl) T.nisinstance (by rfl) (pa_N (pv 0) (pa_N (zdS (v:=.ty "tuple") (by rfl) T.ntuple (by rfl) rfl) zab))))) (pw_or (zap op_ne (zan zaw (by rfl) T.nlen (by rfl) (pa_N (pv 0) zab)) zae (zaq _)) (zdz (zck (zbK (zan zc8 (by rfl) T.nisinstance (by rfl) (zah (pe_ix zbn (pv 0) zae (λ_ _=>rfl)) (pa_N (zdS (v:=.ty "str") (by rfl) T.nstr (by rfl) rfl) zab)))))))).pt
   (zag (zak pe_bl))
   zaB)
   (zac (ps_if (pw_or (zck (zbK (pC g__law_whole hr (zah (pe_ix zbn (pv 0) zae (λ_ _=>rfl)) zab)))) (pw_or (zck (zbK (pC g__law_whole hr (zah (pe_ix zbn (pv 0) zae (λ_ _=>rfl)) zab)))) (zdz (zck (zbK (zan zc8 (by rfl) T.nisinstance (by rfl) (zah (pe_ix zbn (pv 0) zae (λ_ _=>rfl)) (pa_N (zdS (v:=.ty "tuple") (by rfl) T.ntuple (by rfl) rfl) zab)))))))).pt
   (zag (zak pe_bl))
   zaB)
   (zag (zak (zan (zdG rfl) (by rfl) T.nall (by rfl) (zah (zaF (osc:=zad zbs) (N:=zc1) (N':=["_law_step"]) (sel:=[none]) bO (zgT (pe_ix zbn (pv 0) zae (λ_ _=>rfl))) (λ_ _ _ _ _=>(nG 0 nb0)) (λ_ _ _ _ _=>za6) (λ_ _ _ _ _=>(pC g__law_whole hr (pa_N (pv 0) zab)))) zab)))))),?_⟩
  refine⟨_,rfl,.ref a,"tuple",_,true,rfl,.tup q1,zdE _ _,_,rfl,iteF ?_⟩;refine⟨_,rfl,a,_,rfl,.inr (SqT.of q1),?_⟩;refine⟨rfl,_,rfl,iteN rfl ?_⟩;refine⟨_,rfl,a,_,_,_,rfl,rfl,SqT.of q1,zaE (j:=0) rfl,.str r.so,"str",_,true,rfl,.str _,zdE _ _,_,rfl,iteF ?_⟩;refine⟨_,rfl,a,_,_,_,rfl,rfl,SqT.of q1,zaE (j:=1) rfl,_,rfl,_,rfl,iteF ?_⟩;refine⟨_,rfl,a,_,_,_,rfl,rfl,SqT.of q1,zaE (j:=2) rfl,_,rfl,_,rfl,iteF ?_⟩;refine⟨_,rfl,a,_,_,_,rfl,rfl,SqT.of q1,zaE (j:=3) rfl,.ref b,"tuple",_,true,rfl,.tup q2,zdE _ _,_,rfl,iteF ?_⟩;refine⟨_,rfl,a,_,_,_,rfl,rfl,SqT.of q1,zaE (j:=3) rfl,b,rfl,⟨_,SqT.of q2⟩,λq hq=>?_⟩
  refine zeP (K:=K) (a:=b) (xs:=rowV r.row) (λj σ H9=>∃o,σ=[o]/\Same H H9/\H9 q=some (.lst ((Ac j true).map V.bl)))
   ⟨_,rfl,Same.up hq,zaa⟩ (λj σ H9 _ ⟨_,_,s9,_⟩=>SqT.of (s9 _ _ q2)) ?_ ?_
  .rintro j v σ H9 hj ⟨o,rfl,s9,e9⟩;unfold rowV at hj;have hjl:j<r.row.length:=by have:=(Ae.mp hj).1;rw[Ag]at this;exact this
   rw[Ay]at hj;obtain⟨n,hn,rfl⟩:=Bb.mp hj;refine gN ?_
   refine⟨_,rfl,(n:Int),rfl,?_⟩;refine⟨_,e9,small1000 (by simp;lia),_,rfl,zaj hq s9,?_⟩;rw[zaa,CK,Aq];rfl
  .rintro σ H9 ⟨o,rfl,s9,e9⟩;refine⟨q,Ac (rowV r.row).length true,rfl,SqL.of e9,?_⟩;rw[show (Ac (rowV r.row).length true).all id=true by simp];exact k H9 s9
noncomputable def Frz(t:Addr)(kvs:List (List Key×V))(H H':Hp):Prop:=(∀b o,b≠t->H b=some o->H' b=some o)/\∃od,H' t=some (.frz od (.dT kvs))
noncomputable def zj7(K:W.Frag):Sp:=λvs H Q _=>∃(t:Addr) (cs:List Cell),vs=[.ref t]/\H t=some (.dT (tru (cs.map kC)))/\cs.length<=120/\∀p H' us,H p=none->Frz t (tru (cs.map kC)) H H'->H' p=some (.lst us)->VR us (allE cs) eR H'->Q (.ref p) H'
theorem zg2 (T:Txt P w K mg) (g__law_gone:Fn P w K mg base 1 "_law_gone" ["_law_x","_law_y","_law_step"] zeu) (d:Df K mg "_law_edges" zb4 ["_law_there"]):FnOk P w K mg base CX0 2 d.f d.fd ["_law_there"] (zj7 K):=by
 refine d.F.ok zbN (λvs H Q E h=>?_) (λcdv A outer s H vs Q E hr h=>?_)
 .obtain⟨t,cs,rfl,_⟩:=h;rfl
 .obtain⟨t,cs,rfl,ht,hlen,k⟩:=h;have hu1:=hu_of hr;have nb0:(["_law_way","_law_x","_law_y","_law_there"]:List Str).Nodup:=by decide +kernel
  refine⟨_,(zac (sE 1 zbN.nd (zaV zab))
   (zac (zb6 Bs rfl (zlN (pv 0)) (zba (by rfl) (zaf (zdl (i:=2) zbN.nd (by rfl) (Or.inr rfl)) (zaf (zdl (i:=3) zbN.nd (by rfl) (Or.inr rfl)) zat)))
   (zag (zaY (pe_bm AO Eg Eh zeI (pv 1) (zah (zaF (osc:=zad zb4) (N:=zd8) (N':=["_law_way","_law_x","_law_y","_law_there"]) (sel:=[none,some 2,some 3,some 0]) bO (zbX (by rfl) T.nrange (pa_C zae zab)) (λ_ _ _ _ _=>(nG 0 nb0)) (λ_ _ _ _ _=>zcT (zgR (zgV hu1 (pC g__law_gone hr (pa_N (pv 1) (pa_N (pv 2) (pa_B (pe_op zaS (pe_op zaL (pe_op zbt zae (pv 0)) zae) zae) zab)))) (pv 3)))) (λ_ _ _ _ _=>(zam (pa_N (pv 1) (pa_N (pv 2) (pa_N (pv 0) zab)))))) zab)))))
   (zag (zak (pv 1))))),?_⟩
  refine⟨(by show 0<=sizeLine;decide),λp hp=>?_⟩;have s1:=Same.up (o:=.lst []) hp;have e1:upd H p (.lst []) p=some (.lst []):=zaa;generalize upd H p (.lst [])=H1 at s1 e1;have ht1:=s1 _ _ ht;have hpt:p≠t:=ne_of e1 ht1 (λz=>nomatch z);refine⟨_,rfl,t,_,rfl,ht1,λod=>?_⟩;have kt2:KT H1 (upd H1 t (.frz od (.dT (tru (cs.map kC))))):=KT.dct ht1;have sb2:∀b o,b≠t->H1 b=some o->upd H1 t (.frz od (.dT (tru (cs.map kC)))) b=some o:=λb o hb e=>by rw[zai hb];exact e
  have e2:upd H1 t (.frz od (.dT (tru (cs.map kC)))) t=some (.frz od (.dT (tru (cs.map kC)))):=zaa;have hp2:upd H1 t (.frz od (.dT (tru (cs.map kC)))) p=some (.lst []):=by rw[zai hpt];exact e1
  generalize upd H1 t (.frz od (.dT (tru (cs.map kC))))=H2 at kt2 sb2 e2 hp2
  refine zl7 (a:=t) (od:=od) (kvs:=tru (cs.map kC)) (λi σ H3=>∃o2 o3,σ=[some (.ref t),some (.ref p),o2,o3]/\(∀b o,b≠p->H2 b=some o->H3 b=some o)/\∃us,H3 p=some (.lst us)/\VR us ((sides (cs.take i)).filter λe=>!isIn cs (gap e)) eR H3)
   ⟨_,_,rfl,λ_ _ _ e=>e,[],hp2,VR.nil⟩ (λi σ H3 _ ⟨_,_,_,s3,_⟩=>s3 _ _ (Cz hpt) e2) ?_ ?_
  .rintro i b kk v σ H3 hi hb ⟨o2,o3,rfl,s3,us,e3,hv3⟩;have hil:i<cs.length:=by have:=(Ae.mp hi).1;unfold tru at this;simpa using this
   have ci:cs[i]?=some cs[i]:=Ab hil
   have hk:kk=kC cs[i]:=by
    unfold tru at hi;rw[Ay,Ay,ci]at hi
    cases hi;rfl
   subst hk;have t3:=s3 _ _ (Cz hpt) e2;refine⟨b,_,rfl,SqT.of hb,rfl,_,_,rfl,_,_,rfl,rfl,?_⟩;refine⟨_,rfl,.inl ⟨rfl,_,SqL.of e3⟩,4,rfl,by decide,by decide,λg hg=>?_⟩
   refine zb0 (lo:=0) (n:=4) (λj σ H4=>∃o,σ=[o,some (.int cs[i].1),some (.int cs[i].2),some (.ref t)]/\Same H3 H4/\∃zs,H4 g=some (.lst zs)/\VR zs (((Bq j).map λw=>(⟨cs[i],w⟩:Edge)).filter λe=>!isIn cs (gap e)) eR H4)
    ⟨_,rfl,Same.up hg,[],zaa,VR.nil⟩ ?_ ?_
   .rintro j σ H4 hj ⟨o,rfl,s4,zs,e4,hz⟩;have m6:(2*(0+(j:Int))+6) % 8=(((2*j+6) % 8:Nat):Int):=by lia
    have hzl:zs.length<=4:=by rw[hz.1];have:=BK (λe=>!isIn cs (gap e)) ((Bq j).map λw=>(⟨cs[i],w⟩:Edge));rw[Ag,Ck]at this;lia
    refine⟨_,rfl,_,rfl,_,rfl,_,_,rfl,rfl,.inl ⟨by decide,by decide⟩,_,_,rfl,rfl,_,_,rfl,rfl,(by show (0:Int)<8;decide),cs[i],(2*j+6) % 8,(by rw[<- m6];rfl),Cv _ (by decide),λp5 H5 hp5 s5 e5=>?_⟩;have t5:=(s4.trans s5) _ _ t3;refine⟨_,rfl,t,_,rfl,.inr ⟨tru (cs.map kC),kC (gap ⟨cs[i],j⟩),p5,.inr ⟨od,t5⟩,rfl,e5,rfl⟩,_,rfl,?_⟩;rw[zii,List.range_succ,Aq,List.map_singleton,zdo];refine ite2 (λhy=>?_) (λhn'=>?_)
    .rw[if_pos hy];refine⟨_,rfl,_,rfl,_,rfl,three,λq hq'=>?_⟩;have s6:=Same.up (o:=.tup [.int cs[i].1,.int cs[i].2,.int (0+(j:Int))]) hq';have r6:eR ⟨cs[i],j⟩ (.ref q) (upd H5 q (.tup [.int cs[i].1,.int cs[i].2,.int (0+(j:Int))])):=⟨q,rfl,by rw[zaa,Dy];rfl⟩;generalize upd H5 q (.tup [.int cs[i].1,.int cs[i].2,.int (0+(j:Int))])=H6 at s6 r6;have e6:=(s5.trans s6) _ _ e4;refine⟨zs,e6,small1000 (by lia),_,rfl,zaj hg (s4.trans (s5.trans s6)),_,zaa,?_⟩;exact hz.snoc (λx v h=>(h.kt (KT.of (s5.trans s6))).kt (KT.lst e6)) (r6.kt (KT.lst e6))
    .rw[if_neg hn',Bk];exact⟨_,rfl,s4.trans s5,zs,s5 _ _ e4,hz.mono λx v h=>h.kt (KT.of s5)⟩
   .rintro σ H4 ⟨o,rfl,s4,zs,e4,hz⟩
    have hzl:zs.length<=4:=by rw[hz.1];have:=BK (λe=>!isIn cs (gap e)) ((Bq 4).map λw=>(⟨cs[i],w⟩:Edge));rw[Ag,Ck]at this;exact this
    have hul:us.length<=480:=by rw[hv3.1];have:=BK (λe=>!isIn cs (gap e)) (sides (cs.take i));rw[zcH,AA]at this;lia
    have e34:=s4 _ _ e3;refine⟨p,g,_,_,rfl,rfl,e34,e4,BD (small1000 (by lia)),?_⟩;have k7:KT H4 (upd H4 p (.lst (us++zs))):=KT.lst e34;refine⟨_,_,rfl,λb o hb e=>?_,_,zaa,?_⟩
    .rw[zai hb];exact s4 _ _ (s3 _ _ hb e)
    .rw[zay ci,zji,Ew];exact (hv3.mono λx v h=>(h.kt (KT.of s4)).kt k7).app (hz.mono λx v h=>h.kt k7)
  .rintro σ H3 ⟨o2,o3,rfl,s3,us,e3,hv3⟩;rw[show (tru (cs.map kC)).length=cs.length by unfold tru;rw[Ag,Ag],AL]at hv3;refine⟨_,rfl,k p H3 us hp ⟨λb o hb e=>?_,od,s3 _ _ (Cz hpt) e2⟩ e3 hv3⟩;exact s3 _ _ (zal e hp) (sb2 _ _ hb (s1 _ _ e))
noncomputable def stI(o:Option Nat):Option Int:=o.map λn:Nat=>(n:Int)
theorem znR(o:Option Nat):(stI o).elim V.non V.int=sv o:=by cases o <;> rfl
theorem zjD(C:Cell->Bool)(es:List Edge):((es.map (stepB C)).map stI).countP (·.isNone)=nL (wk C es):=by
 rw[nL_wk,List.countP_map,List.countP_map,List.countP_eq_length_filter]
 congr 1
 apply List.filter_congr
 intro e _;show (stI (stepB C e)).isNone=(stepB C e).isNone
 cases stepB C e <;> rfl
noncomputable def plR(es:List Edge)(k:Nat)(v:V)(H:Hp):Prop:=∃e p,es[k]?=some e/\v=.ref p/\H p=some (.tup [.int e.c.2,.int e.c.1,.int (k:Int)])
theorem plR.kt{es:List Edge}{k:Nat}{v:V}{H H':Hp}(h:plR es k v H)(s:KT H H'):plR es k v H':=let ⟨e,p,a,b,c⟩:=h;⟨e,p,a,b,s _ _ c⟩
noncomputable def keyP(es:List Edge)(k:Nat):List Int:=match es[k]? with |some e=>[e.c.2,e.c.1,(k:Int)] |none=>[]
theorem lex3{a b c d x y:Int}(h:HT.lexLt [a,b] [c,d]=true):HT.lexLt [a,b,x] [c,d,y]=true:=by
 simp only[HT.lexLt]at h ⊢
 by_cases e:a=c
 .rw[if_pos e]at h ⊢
  by_cases f:b=d
  .rw[if_pos f]at h;cases h
  .rw[if_neg f]at h ⊢;exact h
 .rw[if_neg e]at h ⊢;exact h
noncomputable def zjZ(K:W.Frag):Sp:=λvs H Q _=>∃(pe pq:Addr) (us:List V) (C:Cell->Bool) (es:List Edge),vs=[.ref pe,.ref pq]/\H pe=some (.lst us)/\VR us es eR H/\H pq=some (.lst ((es.map (stepB C)).map sv))/\es.length<=480 /\
 (∃e∈es,e.w=0)/\(∃e∈es,e.w=2)/\∀v H' r,Same H H'->rR r v H'->IsRnd (wk C es) r->Q v H'
theorem zhS (T:Txt P w K mg) (d:Df K mg "_law_told" zbz ["_law_edges_here","_law_steps"]):FnOk P w K mg base CX0 2 d.f d.fd ["_law_edges_here","_law_steps"] (zjZ K):=by
 refine d.F.ok zbG (λvs H Q E h=>?_) (λcdv A outer s H vs Q E hr h=>?_)
 .obtain⟨pe,pq,us,C,es,rfl,_⟩:=h;rfl
 .obtain⟨pe,pq,us,C,es,rfl,e10,hv10,q10,hel,hw0,hw2,k⟩:=h;have hu1:=hu_of hr;have nb0:(["_law_step"]:List Str).Nodup:=by decide +kernel
  have nb1:(["_law_k","_law_x","_law_y","_law_here","_law_way"]:List Str).Nodup:=by decide +kernel
  have nb2:(["_law_step"]:List Str).Nodup:=by decide +kernel
  refine⟨_,(zac (sE 2 zbG.nd (pe_op zda (pe_bm AO PySem.F.slot_list_count PySem.F.type_list_count zkH (pv 1) (pa_C za5 zab)) (zan zaw (by rfl) T.nlen (by rfl) (zah (zaF (osc:=zad zbz) (N:=zcB) (N':=["_law_step"]) (sel:=[none]) bO (zaU (pv 1)) (λ_ _ _ _ _=>(nG 0 nb0)) (λ_ _ _ _ _=>zcT (ziG (zap zdT (pv 0) za5 (zaq _)) (zfV (zap op_eq (pe_op zaS (pv 0) zae) zae (zaq _)))).pt) (λ_ _ _ _ _=>(pv 0))) zab))))
   (zac (zgS (i:=3) zbG.nd (by rfl) (Or.inr rfl) (pe_ix za7 (zaV (pa_C zae (pa_C zae zab))) (zav zcZ (by rfl) T.nint (by rfl) (zah (zbc op_gt (pv 2) zae (zaq _)) zab)) (λ_ _=>rfl)))
   (zac (sE 4 zbG.nd (pe_ix zbn (zan (zlm hu1 rfl) (by rfl) T.nmin (by rfl) (zah (zaF (osc:=zad zbz) (N:=zcB) (N':=["_law_k","_law_x","_law_y","_law_here","_law_way"]) (sel:=[none,none,none,none,some 3]) bO (zhO (by rfl) T.nenumerate (pa_N (pv 0) zab)) (λ_ _ _ _ _=>(zcx (K:=K) (n:=2) (by rfl) (zaf (nG 0 nb1) (zaf (zcx (K:=K) (n:=3) (by rfl) (zaf (nG 1 nb1) (zaf (nG 2 nb1) (zaf (nG 3 nb1) zat)))) zat)))) (λ_ _ _ _ _=>zcT (zap op_eq (pv 3) (pv 4) (zaq _))) (λ_ _ _ _ _=>(zam (pa_N (pv 2) (pa_N (pv 1) (pa_N (pv 0) zab)))))) zab)) zae (λ_ _=>rfl)))
   (zac (sE 5 zbG.nd (zav zbU (by rfl) T.ntuple (by rfl) (zah (zaF (osc:=zad zbz) (N:=zcB) (N':=["_law_step"]) (sel:=[none]) bO (zaU (pe_op zfw (zbS zdL (pv 1) (zca (pv 4)) zcU) (zbS zdL (pv 1) zcU (zca (pv 4))))) (λ_ _ _ _ _=>(nG 0 nb2)) (λ_ _ _ _ _=>zcT (zap zdT (pv 0) za5 (zaq _))) (λ_ _ _ _ _=>(pv 0))) zab)))
   (zag (zak (zam (zah (pe_ix za7 (zaV (pa_C zaC (pa_C zaC zab))) (zav zcZ (by rfl) T.nint (by rfl) (zah (zbc op_gt (pv 2) zae (zaq _)) zab)) (λ_ _=>rfl)) (zah (pe_ix zbn (pe_ix za7 (pv 0) (pv 4) (λ_ _=>rfl)) zae (λ_ _=>rfl)) (zah (pe_ix zbn (pe_ix za7 (pv 0) (pv 4) (λ_ _=>rfl)) zae (λ_ _=>rfl)) (pa_N (pv 5) zab))))))))))),?_⟩
  have qs:H pq=some (.lst (((es.map (stepB C)).map stI).map λo=>o.elim V.non V.int)):=by
   rw[q10]
   congr 2
   simp only[List.map_map]
   apply List.map_congr_left
   intro o _;exact (znR _).symm
  refine⟨_,rfl,.inl ⟨rfl,_,SqL.of q10⟩,pq,_,rfl,rfl,qs,?_⟩;rw[zjD];refine⟨_,rfl,pq,rfl,⟨_,SqL.of q10⟩,λg hg=>?_⟩
  refine zaH (K:=K) (a:=pq) (xs:=(es.map (stepB C)).map sv) (λi σ H1=>∃o,σ=[o]/\Same H H1/\∃zs:List V,H1 g=some (.lst zs)/\zs.length=((es.take i).filter λe=>slant (stepB C e)).length)
   ⟨_,rfl,Same.up hg,[],zaa,rfl⟩ (λi σ H1 _ ⟨_,_,s1,_⟩=>SqL.of (s1 _ _ q10)) ?_ ?_
  .rintro i u σ H1 hi ⟨o,rfl,s1,zs,e1,hz⟩;rw[Ay,Ay]at hi;obtain⟨so,hso',rfl⟩:=Bb.mp hi;obtain⟨f,hf,rfl⟩:=Bb.mp hso';have hil:i<es.length:=(Ae.mp hf).1
   have hzl:zs.length<=480:=by have:=BK (λe=>slant (stepB C e)) (es.take i);rw[AA]at this;lia
   rw[zcz hf]
   cases hst:stepB C f with
   |none=>exact⟨_,rfl,rfl,_,rfl,iteF ⟨_,rfl,s1,zs,e1,by rw[if_neg (by decide),Bk];exact hz⟩⟩
   |some n =>
    have hd:decide (V.int ((n:Int) % 2)=V.int 1)=slant (some n):=by
     show _=(n % 2 == 1)
     by_cases q:n % 2=1
     .rw[decide_eq_true (by rw[show (n:Int) % 2=1 by lia]),q];rfl
     .rw[decide_eq_false (λz=>q (by injection z with z;lia))];simp[q]
    refine⟨_,rfl,rfl,_,rfl,iteT ⟨_,rfl,_,_,rfl,rfl,(by show (0:Int)<2;decide),rfl,_,rfl,?_⟩⟩;rw[hd];refine ite2 (λhy=>?_) (λhn=>?_)
    .refine⟨_,rfl,zs,e1,small1000 (by lia),_,rfl,zaj hg s1,_,zaa,?_⟩;rw[if_pos hy,Am,Am,hz];rfl
    .exact⟨_,rfl,s1,zs,e1,by rw[if_neg hn,Bk];exact hz⟩
  .rintro σ H1 ⟨o,rfl,s1,zs,e1,hz⟩;rw[Bx (by rw[Ag,Ag];exact Ai _),<- nS_wk]at hz;refine⟨g,zs,rfl,.inl (SqL.of e1),?_⟩;rw[hz];obtain⟨kk,hkk⟩:∃kk:Nat,kk=kOf (sortS (wk C es)):=⟨_,rfl⟩;have hgt:decide ((0:Int)<(nL (wk C es):Int)-(nS (wk C es):Int))=decide (nS (wk C es)<nL (wk C es)):=decide_eq_decide.mpr (by lia)
   have way:atI [V.int 2,V.int 0] (if decide (nS (wk C es)<nL (wk C es))=true then 1 else 0)=some (.int (kk:Int)):=by
    rw[hkk];unfold kOf sortS
    by_cases z:nS (wk C es)<nL (wk C es)
    .rw[if_pos z,decide_eq_true z];rfl
    .rw[if_neg z,decide_eq_false z];rfl
   have sor:atI [V.str "hole",V.str "rim"] (if decide (nS (wk C es)<nL (wk C es))=true then 1 else 0)=some (.str (sortS (wk C es))):=by
    unfold sortS
    by_cases z:nS (wk C es)<nL (wk C es)
    .rw[if_pos z,decide_eq_true z];rfl
    .rw[if_neg z,decide_eq_false z];rfl
   refine⟨_,_,rfl,rfl,two,λl2 h2=>?_⟩;have s2:=Same.up (o:=.lst [.int 2,.int 0]) h2;have e2:upd H1 l2 (.lst [.int 2,.int 0]) l2=some (.lst [.int 2,.int 0]):=zaa;generalize upd H1 l2 (.lst [.int 2,.int 0])=H2 at s2 e2;refine⟨_,rfl,_,_,rfl,rfl,.inr ⟨_,rfl,l2,_,_,_,rfl,rfl,SqL.of e2,(by rw[hgt];exact way),?_⟩⟩;have s12:=s1.trans s2;have pe2:=s12 _ _ e10;have pq2:=s12 _ _ q10;have hv2:=hv10.mono λx v h=>h.kt (KT.of s12)
   have hul:us.length=es.length:=hv10.1;refine⟨_,rfl,pe,rfl,⟨_,SqL.of pe2⟩,λg2 hg2=>?_⟩
   refine zgn (K:=K) (a:=pe) (xs:=us) (λi σ H3=>∃o0 o1 o2 o3,σ=[o0,o1,o2,o3,some (.int (kk:Int))]/\Same H2 H3/\∃zs,H3 g2=some (.lst zs)/\VR zs ((Bq i).filter λk=>(es[k]?).any (·.w == kk)) (plR es) H3)
    ⟨_,_,_,_,rfl,Same.up hg2,[],zaa,VR.nil⟩ (λi σ H3 _ ⟨_,_,_,_,_,s3,_⟩=>SqL.of (s3 _ _ pe2)) ?_ ?_
   .rintro i u σ H3 p hi ⟨o0,o1,o2,o3,rfl,s3,zs3,e3,hz3⟩ hp;obtain⟨f,hf,bf,rfl,qf⟩:=hv2.at hi;have s4:=Same.up (o:=.tup [.int i,.ref bf]) hp;have e4:upd H3 p (.tup [.int i,.ref bf]) p=some (.tup [.int i,.ref bf]):=zaa;generalize upd H3 p (.tup [.int i,.ref bf])=H4 at s4 e4;have qf4:=(s3.trans s4) _ _ qf;have hil:i<es.length:=(Ae.mp hf).1
    have hzl:zs3.length<=480:=by rw[hz3.1];have:=BK (λk=>(es[k]?).any (·.w == kk)) (Bq i);rw[Ck]at this;lia
    have hd:decide (V.int (f.w:Int)=V.int (kk:Int))=(es[i]?).any (·.w == kk):=by
     rw[hf];show _=(f.w == kk)
     by_cases q:f.w=kk
     .rw[q];simp
     .rw[decide_eq_false (λz=>q (by injection z with z;lia))];simp[q]
    refine⟨p,_,rfl,SqT.of e4,rfl,_,_,rfl,_,_,rfl,bf,_,rfl,SqT.of qf4,rfl,_,_,rfl,_,_,rfl,_,_,rfl,rfl,rfl,_,rfl,_,rfl,rfl,_,rfl,?_⟩;rw[hd,List.range_succ,zdo];refine ite2 (λhy=>?_) (λhn=>?_)
    .rw[if_pos hy];refine⟨_,rfl,_,rfl,_,rfl,three,λq hq=>?_⟩;have s5:=Same.up (o:=.tup [.int f.c.2,.int f.c.1,.int (i:Int)]) hq;have r5:plR es i (.ref q) (upd H4 q (.tup [.int f.c.2,.int f.c.1,.int (i:Int)])):=⟨f,q,hf,rfl,zaa⟩;generalize upd H4 q (.tup [.int f.c.2,.int f.c.1,.int (i:Int)])=H5 at s5 r5;have e5:=(s4.trans s5) _ _ e3;refine⟨zs3,e5,small1000 (by lia),_,_,_,_,rfl,zaj hg2 (s3.trans (s4.trans s5)),_,zaa,?_⟩;exact hz3.snoc (λx v h=>(h.kt (KT.of (s4.trans s5))).kt (KT.lst e5)) (r5.kt (KT.lst e5))
    .rw[if_neg hn,Bk];exact⟨_,_,_,_,rfl,s3.trans s4,zs3,s4 _ _ e3,hz3.mono λx v h=>h.kt (KT.of s4)⟩
   .rintro σ H3 ⟨o0,o1,o2,o3,rfl,s3,zs3,e3,hz3⟩;rw[hul]at hz3;obtain⟨L,hL⟩:∃L,L=(Bq es.length).filter λk=>(es[k]?).any (·.w == kk):=⟨_,rfl⟩
    rw[<- hL]at hz3
    have memL:∀j,j∈L ↔ ∃e,es[j]?=some e/\e.w=kk:=λj=>by
     rw[hL,List.mem_filter,List.mem_range];constructor
     .rintro⟨h1,h2⟩;rw[Ab h1]at h2;exact⟨es[j],Ab h1,by simpa using h2⟩
     .rintro⟨e,h1,h2⟩;exact⟨(Ae.mp h1).1,by rw[h1];simpa using h2⟩
    have hex:∃e∈es,e.w=kk:=by
     rw[hkk];rcases zfL (wk C es) with z |z <;> rw[z]
     .exact hw0
     .exact hw2
    have hpos:0<zs3.length:=by obtain⟨e,h1,h2⟩:=hex;obtain⟨j,hj,ej⟩:=A6 h1;rw[hz3.1];exact Dw ((memL j).mpr ⟨e,by rw[Ab hj,ej],h2⟩)
    refine⟨g2,zs3,λi=>keyP es (L.getD i 0),rfl,SqL.of e3,hpos,λi x hx=>?_,λi x H4 hx hle s4=>?_⟩
    .obtain⟨j,hj,e,p,he,rfl,q⟩:=hz3.at hx;refine⟨p,rfl,SqT.of ?_⟩;show H3 p=some (HO.tup ((keyP es (L.getD i 0)).map V.int));rw[Be,hj,Option.getD_some];unfold keyP;rw[he,q];rfl
    .obtain⟨j,hj,e,p,he,rfl,q⟩:=hz3.at hx;have q4:=s4 _ _ q;have hjl:j<es.length:=(Ae.mp he).1
     have hwj:e.w=kk:=by obtain⟨e',h1,h2⟩:=(memL j).mp (An hj);rw[he]at h1;cases h1;exact h2
     obtain⟨ws,hws⟩:∃ws,ws=(es.map (stepB C)).map sv:=⟨_,rfl⟩;have hwl:ws.length=es.length:=by rw[hws,Ag,Ag]
     have pq4:=(s3.trans s4) _ _ pq2;have pe4:=(s3.trans s4) _ _ pe2;rw[<- hws]at pq4;refine⟨p,_,_,_,rfl,rfl,SqT.of q4,zaE (j:=2) rfl,?_⟩;refine⟨_,rfl,_,rfl,_,rfl,pq,ws,rfl,SqL.of pq4,λp5 hp5=>?_⟩;rw[zi2 ws (by lia:j<=ws.length)];have s5:=Same.up (o:=.lst (ws.drop j)) hp5;refine⟨_,rfl,_,rfl,_,rfl,pq,ws,rfl,SqL.of (s5 _ _ pq4),λp6 hp6=>?_⟩;rw[zmM ws (by lia:j<=ws.length)];have s6:=Same.up (o:=.lst (ws.take j)) hp6;refine⟨p5,p6,_,_,rfl,rfl,s6 _ _ zaa,zaa,BD (small1000 (by simp;lia)),λp7 hp7=>?_⟩;have s7:=Same.up (o:=.lst (ws.drop j++ws.take j)) hp7;have s47:=s5.trans (s6.trans s7);have e7:upd (upd (upd H4 p5 (.lst (ws.drop j))) p6 (.lst (ws.take j))) p7 (.lst (ws.drop j++ws.take j)) p7=some (.lst (ws.drop j++ws.take j)):=zaa;generalize upd (upd (upd H4 p5 (.lst (ws.drop j))) p6 (.lst (ws.take j))) p7 (.lst (ws.drop j++ws.take j))=H7 at s47 e7 ⊢;obtain⟨os,hos⟩:∃os:List (Option Nat),os=(es.map (stepB C)).drop j++(es.map (stepB C)).take j:=⟨_,rfl⟩;have hwo:ws.drop j++ws.take j=os.map sv:=by rw[hws,hos,Aq,Ee,Ef]
     have hol:os.length<=480:=by rw[hos];simp;lia
     rw[hwo]at e7;refine⟨p7,rfl,⟨_,SqL.of e7⟩,λg8 hg8=>?_⟩
     refine zaH (K:=K) (a:=p7) (xs:=os.map sv) (λi σ H8=>∃o,σ=[o]/\Same H7 H8/\H8 g8=some (.lst (rowV ((os.take i).filterMap id))))
      ⟨_,rfl,Same.up hg8,zaa⟩ (λi σ H8 _ ⟨_,_,s8,_⟩=>SqL.of (s8 _ _ e7)) ?_ ?_
     .rintro i u σ H8 hi ⟨o,rfl,s8,e8⟩;rw[Ay]at hi;obtain⟨so,hso,rfl⟩:=Bb.mp hi
      have hl2:(rowV ((os.take i).filterMap id)).length<=1000:=by unfold rowV;rw[Ag];have:=Dm id (os.take i);rw[AA]at this;lia
      refine⟨_,rfl,rfl,_,rfl,?_⟩;rw[zmm,zay hso,List.filterMap_append]
      cases so with
      |none=>exact iteF ⟨_,rfl,s8,by simpa using e8⟩
      |some n =>
       refine iteT ⟨_,rfl,_,e8,small1000 hl2,_,rfl,zaj hg8 s8,?_⟩;rw[zaa];simp[rowV,sv]
     .rintro σ H8 ⟨o,rfl,s8,e8⟩;rw[Ag,AL]at e8;refine⟨g8,_,rfl,.inl ⟨SqL.of e8,λp9 hp9=>?_⟩⟩;have s9:=Same.up (o:=.tup (rowV (os.filterMap id))) hp9;have e9:upd H8 p9 (.tup (rowV (os.filterMap id))) p9=some (.tup (rowV (os.filterMap id))):=zaa;generalize upd H8 p9 (.tup (rowV (os.filterMap id)))=H9 at s9 e9;refine⟨two,λl10 h10=>?_⟩;have s10:=Same.up (o:=.lst [.str "hole",.str "rim"]) h10;have e10':upd H9 l10 (.lst [.str "hole",.str "rim"]) l10=some (.lst [.str "hole",.str "rim"]):=zaa;generalize upd H9 l10 (.lst [.str "hole",.str "rim"])=H10 at s10 e10';have s210:=(s3.trans s4).trans (s47.trans (s8.trans (s9.trans s10)));have pe10:=s210 _ _ pe2;have huj:us[j]?=some us[j]:=Ab (by lia)
      obtain⟨e',he',bf,ebf,qf⟩:=hv2.at huj;rw[he]at he'
      cases he'
      have qf10:=s210 _ _ qf;have hat:atI us (j:Int)=some (.ref bf):=zaE (by rw[huj,ebf]);refine⟨_,rfl,_,_,rfl,rfl,.inr ⟨_,rfl,l10,_,_,_,rfl,rfl,SqL.of e10',(by rw[hgt];exact sor),?_⟩⟩;refine⟨_,rfl,_,rfl,pe,_,_,_,rfl,rfl,SqL.of pe10,hat,bf,_,_,_,rfl,rfl,SqT.of qf10,zaE (j:=0) rfl,?_⟩;refine⟨_,rfl,_,rfl,pe,_,_,_,rfl,rfl,SqL.of pe10,hat,bf,_,_,_,rfl,rfl,SqT.of qf10,zaE (j:=1) rfl,?_⟩;refine⟨_,rfl,(by show 4<=sizeLine;decide),λp11 hp11=>?_⟩;refine k _ _ ⟨sortS (wk C es),e.c.1,e.c.2,os.filterMap id⟩ (s12.trans (s210.trans (Same.up hp11))) ⟨p11,p9,rfl,zaa,Same.up hp11 _ _ (s10 _ _ e9)⟩ ⟨rfl,j,e,?_,⟨?_,?_,λf h1 h2=>?_⟩,rfl,rfl,?_⟩
      .rw[zdr];exact he
      .rw[zdr];exact An he
      .rw[hwj,hkk]
      .rw[zdr]at h1;obtain⟨m,hm,em⟩:=A6 h1;have hmL:=(memL m).mpr ⟨f,by rw[Ab hm,em],by rw[h2,hkk]⟩;obtain⟨n,hn,en⟩:=A6 hmL;have hnl:n<zs3.length:=by rw[hz3.1];exact hn
       have:=(hle n hnl).1
       have kn:keyP es (L.getD n 0)=[f.c.2,f.c.1,(m:Int)]:=by rw[Be,Ab hn,en,Option.getD_some];unfold keyP;rw[Ab hm,em]
       have ki:keyP es (L.getD i 0)=[e.c.2,e.c.1,(j:Int)]:=by rw[Be,hj,Option.getD_some];unfold keyP;rw[he]
       simp only[kn,ki]at this
       cases q':HT.lexLt [f.c.2,f.c.1] [e.c.2,e.c.1] with
       |false=>rfl
       |true=>rw[lex3 q']at this;cases this
      .rw[hos];unfold wk;rw[<- Ee,<- Ef,<- Aq,<- Ee,<- Ef,<- Aq,Ct,Ct];rfl
theorem InOrd.pw{cs:List Cell}(h:InOrd cs):cs.Pairwise λa b=>HT.lexLt [a.2,a.1] [b.2,b.1]=true:=by
 induction cs with
 |nil=>exact .nil
 |cons a r ih =>
  have ih':=ih λi c d h1 h2=>h (i+1) c d (by simpa using h1) (by simpa using h2)
  refine List.pairwise_cons.mpr ⟨λb hb=>?_,ih'⟩
  cases r with
  |nil=>cases hb
  |cons c r =>
   have h0:HT.lexLt [a.2,a.1] [c.2,c.1]=true:=h 0 a c rfl rfl;rcases AI.mp hb with rfl |hb
   .exact h0
   .exact HT.lexLt_trans h0 ((List.pairwise_cons.mp ih').1 b hb)
theorem InOrd.nodup{cs:List Cell}(h:InOrd cs):cs.Nodup:=h.pw.imp λ{a b} q e=>by subst e;rw[HT.lexLt_irrefl]at q;cases q
theorem cR.key{c:Cell}{v:V}{H:Hp}(h:cR c v H):keyR (kC c) v H:=let ⟨b,e1,q⟩:=h;⟨b,e1,q⟩
theorem VR.keys{α:Type}{vs:List V}{l:List α}{R:α->V->Hp->Prop}{H:Hp}{f:α->List Key}(h:VR vs l R H)(m:∀x v,R x v H->keyR (f x) v H):VR vs (l.map f) keyR H:=by refine⟨by rw[Ag];exact h.1,λi x v h1 h2=>?_⟩;rw[Ay]at h1;obtain⟨y,hy,rfl⟩:=Bb.mp h1;exact m y v (h.2 i y v hy h2)
theorem _root_.L2.But1.kt{pos:Pos}{qual:Str}{P:Addr}{H H':Hp}(b:But1 P H H')(l:LamAt pos qual P H):KT H H':=λz xs e=>b z _ (l.ne e nofun) e
noncomputable def lamQ (f:Str):Str:=f ++ ".<locals>." ++ "<lambda>"
noncomputable abbrev lpT:Pos:=(⟨266,34,266,100⟩:Pos)
noncomputable abbrev LamT (P:Addr) (H:Hp):Prop:=LamAt lpT (lamQ "_law_traced") P H
noncomputable def zis(K:W.Frag)(L:Addr):Sp:=λvs H Q _=>∃(a:Addr) (us:List V) (cs:List Cell),vs=[.ref a]/\H a=some (.lst us)/\VR us cs cR H/\InOrd cs/\cs.length<=120/\LamT L H /\
 ∀p H' rs R R0,H p=none->But1 L H H'->LamT L H'->H' p=some (.lst rs)->VR rs R rR H'->R.Perm R0->R.Pairwise (λr q=>HT.lexLt (keyI q) (keyI r)=false)->Whole cs R0->Q (.ref p) H'
theorem zf4 {L c:Addr}(T:Txt P w K mg) (hB:Bm mg base) (hh:Dx K c L=true) (g__law_lot:Fn P w K mg base 1 "_law_lot" ["_law_cells"] (spLot K)) (g__law_edges:Fn P w K mg base 2 "_law_edges" ["_law_there"] (zj7 K))
    (g__law_walked:Fn P w K mg base 3 "_law_walked" ["_law_there","_law_first"] (zio K)) (g__law_told:Fn P w K mg base 2 "_law_told" ["_law_edges_here","_law_steps"] (zjZ K))
    (d:Df K mg "_law_traced" zaX ["_law_cells"]) (hc:d.fd.code=.ref c):FnOk P w K mg base CX0 5 d.f d.fd ["_law_cells"] (zis K L):=by
  refine d.F.okL hc zaK (λvs H Q E h=>?_) (λA outer s H vs Q E hr h=>?_)
  . obtain⟨a,us,cs,rfl,_⟩:=h;rfl
  . obtain⟨a,us,cs,rfl,ea,hva,hord,hlen,hlam,k⟩:=h;have hu1:=hu_of hr
    refine⟨_,(zac (sE 1 zaK.nd (pC g__law_lot hr (pa_N (pv 0) zab)))
      (zac (sE 2 zaK.nd zfZ)
      (zac (sE 3 zaK.nd (zaV zab))
      (zac (zb6 Bs rfl (zaU (pC g__law_edges hr (pa_N (pv 1) zab))) (nG 4 zaK.nd)
      (zag (ps_if (zgR (zgV hu1 (pv 4) (pv 2)))
      (zac (zbm (pC g__law_walked hr (pa_N (pv 1) (pa_N (pv 4) zab))) (zba (by rfl) (zaf (nG 5 zaK.nd) (zaf (nG 6 zaK.nd) zat))))
      (zac (zb6 Bs rfl (zaU (pv 5)) (nG 7 zaK.nd)
      (zag (zkn hu1 (pv 2) (pv 7) pe_bl rfl)))
      (zag (zaY (pe_bm AO A4 A5 zaM (pv 3) (zah (pC g__law_told hr (pa_N (pv 5) (pa_N (pv 6) zab))) zab))))))
      zaB)))
      (zag (zak (zlO (k:=0) (N:=["_law_one"]) (hr.mono (by decide)) (by rfl) T.nsorted rfl hh hB (by rfl) ⟨rfl,rfl,rfl,by decide +kernel,rfl,by decide +kernel,by decide +kernel⟩ (λ_ _ _ _=>rfl) (pv 3) (λ_ _ _ _ _ _=>(zam (zah (pe_ix (zgl (K:=K)) (pv 0) zae (λ_ _=>rfl)) (zah (pe_ix (zgl (K:=K)) (pv 0) zae (λ_ _=>rfl)) (zah (zbc op_eq (pe_ix (zgl (K:=K)) (pv 0) zae (λ_ _=>rfl)) zaC (zaq _)) zab)))))))))))),?_⟩
    have hnd:=hord.nodup;have hcn:(cs.map kC).Nodup:=List.Pairwise.map _ (λa b hab e=>hab (zkY.mp e)) hnd;refine⟨_,rfl,a,us,cs.map kC,rfl,SqL.of ea,hva.keys (f:=kC) λx v h=>h.key,hcn,by rw[Ag];lia,λt H1 ht s1 e1=>?_⟩;refine λdd hdd=>⟨(by show 0<=sizeLine;decide),λp hp=>?_⟩
    have hpd:p≠dd:=λz=>by subst z;rw[zaa]at hp;cases hp
    have s4:Same H1 (upd (upd H1 dd (.dT [])) p (.lst [])):=(Same.up hdd).trans (Same.up hp);have d4:upd (upd H1 dd (.dT [])) p (.lst []) dd=some (.dT []):=by rw[zai (Cz hpd),zaa]
    have p4:upd (upd H1 dd (.dT [])) p (.lst []) p=some (.lst []):=zaa;have n2:H1 dd=none:=hdd;have n2p:H1 p=none:=by rw[zai hpd]at hp;exact hp
    generalize upd (upd H1 dd (.dT [])) p (.lst [])=H4 at s4 d4 p4;have t4:=s4 _ _ e1;have a4:=(s1.trans s4) _ _ ea;have s14:=s1.trans s4;refine⟨_,rfl,t,cs,rfl,t4,hlen,λpe H5 es hpe f5 e5 hvE=>?_⟩;obtain⟨f5,od,t5⟩:=f5;have kt5:KT H4 H5:=λb xs e=>f5 b _ (ne_of e t4 (λz=>nomatch z)) e
    have s15:Same H H5:=λb o e=>f5 b o (zal e ht) (s14 _ _ e)
    have d5:H5 dd=some (.dT []):=f5 _ _ (zal e1 n2).symm d4;have p5:H5 p=some (.lst []):=f5 _ _ (zal e1 n2p).symm p4;have hped:pe≠dd:=(zal d4 hpe).symm;have hpep:pe≠p:=(zal p4 hpe).symm;have htd:t≠dd:=zal e1 n2;have htp:t≠p:=zal e1 n2p;have nHd:H dd=none:=s1.free n2;have nHp:H p=none:=s1.free n2p;refine⟨pe,rfl,⟨_,SqL.of e5⟩,?_⟩
    refine zaH (K := K) (a := pe) (xs := es) (λi σ H6 => ∃o4 o5 o6 o7, σ = [some (.ref a), some (.ref t), some (.ref dd), some (.ref p), o4, o5, o6, o7] /\ Same H H6 /\ H6 t=some (.frz od (.dT (tru (cs.map kC)))) /\ H6 pe=some (.lst es) /\ KT H5 H6 /\
        ∃kvs rs ESS R,H6 dd=some (.dT kvs)/\H6 p=some (.lst rs)/\VR rs R rR H6/\Part (isIn cs) ESS R/\(∀e,(valV kvs (kE e)).isSome=decide (e∈ESS.flatten))/\kvs.length<=ESS.flatten.length/\∀e∈(allE cs).take i,e∈ESS.flatten)
      ⟨_,_,_,_,rfl,s15,t5,e5,KT.refl _,[],[],[],[],d5,p5,VR.nil,Part.nil,(λe=>by simp[valV]),Ai _,(λe he=>by simp at he)⟩ (λi σ H6 _ ⟨_,_,_,_,_,_,_,e6,_⟩=>SqL.of e6) ?_ ?_
    . rintro i v σ H6 hi ⟨o4,o5,o6,o7,rfl,s6,t6,e6,kt6,kvs,rs,ESS,R,d6,p6,hR,hP,hkv,hkl,hall⟩;obtain⟨e,he,b,rfl,qb⟩:=hvE.at hi;have hE:IsE (isIn cs) e:=ziO.mp (An he);have qb6:=kt6 _ _ qb;refine⟨_,rfl,_,rfl,dd,_,rfl,.inr ⟨kvs,kE e,b,Rd.of d6,rfl,qb6,rfl⟩,_,rfl,?_⟩;rw[hkv]
      by_cases hin:e∈ESS.flatten
      . rw[decide_eq_true hin];refine iteF ⟨_,_,_,_,rfl,s6,t6,e6,kt6,kvs,rs,ESS,R,d6,p6,hR,hP,hkv,hkl,λf hf=>?_⟩;rcases (zcX he).mp hf with z |z
        . exact hall f z
        . rw[z];exact hin
      . rw[decide_eq_false hin];refine iteT ?_
        have tab6:TabR H6 t (isIn cs):=TabR.of (.inr ⟨od,t6⟩);refine⟨_,rfl,_,rfl,t,b,cs,e,rfl,tab6,qb6,hE,hlen,λpw pu pq H7 ws fs s7 f7 e7 hv7 q7 hcl=>?_⟩;have hfs:fs.length<=4*cs.length:=hcl.1.short;have hap:=hcl.apart hP.back hin;have d7:=s7 _ _ d6;have hud:pu≠dd:=ne_of e7 d7 (λz=>nomatch z);have hws:ws.length=fs.length:=hv7.1;refine⟨pw,_,rfl,SqT.of f7,rfl,_,_,rfl,_,_,rfl,rfl,?_⟩;refine⟨_,rfl,pu,rfl,⟨_,SqL.of e7⟩,?_⟩
        refine zaH (K := K) (a := pu) (xs := ws) (λj σ H8 => ∃o7, σ = [some (.ref a), some (.ref t), some (.ref dd), some (.ref p), some (.ref b), some (.ref pu), some (.ref pq), o7] /\ (∀z o, z ≠ dd -> H7 z=some o -> H8 z=some o) /\
            ∃kv8,H8 dd=some (.dT kv8)/\(∀f,(valV kv8 (kE f)).isSome=decide (f∈ESS.flatten∨f∈fs.take j))/\kv8.length<=ESS.flatten.length+j)
          ⟨_,rfl,(λz o _ h=>h),kvs,d7,(λf=>by rw[hkv];simp),by lia⟩ (λj σ H8 _ ⟨_,_,k8,_⟩=>SqL.of (k8 _ _ hud e7)) ?_ ?_
        . rintro j u σ H8 hj ⟨o7,rfl,k8,kv8,d8,hk8,hl8⟩;obtain⟨f,hf',bb,rfl,q2⟩:=hv7.at hj;have nb:bb≠dd:=ne_of q2 d7 (λz=>nomatch z);have hjl:j<fs.length:=by rw[<- hws];exact (Ae.mp hj).1
          have hsm:=hP.small;refine⟨_,rfl,_,rfl,dd,_,rfl,.inr ⟨kv8,kE f,bb,d8,rfl,k8 _ _ nb q2,small1000 (by lia),rfl⟩,?_⟩;refine⟨_,rfl,(λz o hz h=>by rw[zai hz];exact k8 z o hz h),_,zaa,(λg=>?_),AV (zbZ _ _ _) (by lia)⟩;rw[zif]
          by_cases eg:g=f
          . rw[if_pos (zmH.mpr eg),decide_eq_true (.inr ((zcX hf').mpr (.inr eg)))];rfl
          . rw[if_neg (λz=>eg (zmH.mp z)),hk8];refine decide_eq_decide.mpr ⟨λz=>z.imp id λq=>(zcX hf').mpr (.inl q),λz=>z.imp id λq=>((zcX hf').mp q).resolve_right eg⟩
        . rintro σ H8 ⟨o7,rfl,k8,kv8,d8,hk8,hl8⟩;rw[hws,AL]at hk8;have p8:=k8 _ _ hpd (s7 _ _ p6);have kt8:KT H7 H8:=λz xs h=>k8 z _ (ne_of h d7 (λq=>nomatch q)) h
          have u8:H8 pu=some (.lst ws):=k8 _ _ hud e7;have q8:H8 pq=some (.lst ((fs.map (stepB (isIn cs))).map sv)):=k8 _ _ (ne_of q7 d7 (λz=>nomatch z)) q7;have hrl:rs.length<=120:=by rw[hR.1];exact AV hP.few hlen
          refine⟨_,rfl,.inl ⟨rfl,_,SqL.of p8⟩,_,rfl,_,rfl,pu,pq,ws,isIn cs,fs,rfl,u8,hv7.mono (λx v hx=>hx.kt kt8),q8,by lia,hcl.has (.inl rfl),hcl.has (.inr rfl),λvr H9 r s9 hr9 hrn=>?_⟩;have p9:=s9 _ _ p8;refine⟨p,rs,_,rfl,rfl,p9,small1000 (by lia),?_⟩;have kt9:KT H9 (upd H9 p (.lst (rs++[vr]))):=KT.lst p9;have ktA:KT H6 (upd H9 p (.lst (rs++[vr]))):=(KT.of s7).trans (kt8.trans ((KT.of s9).trans kt9));refine⟨_,_,_,_,rfl,(λz o h=>?_),?_,?_,kt6.trans ktA,kv8,rs++[vr],ESS++[fs],R++[r],?_,zaa,hR.snoc (λx v hx=>hx.kt ktA) (hr9.kt kt9),hP.snoc hcl hrn hin,(λf=>?_),?_,(λf hf=>?_)⟩
          . rw[zai (zal h nHp)];exact s9 _ _ (k8 _ _ (zal h nHd) (s7 _ _ (s6 _ _ h)))
          . rw[zai htp];exact s9 _ _ (k8 _ _ htd (s7 _ _ t6))
          . rw[zai hpep];exact s9 _ _ (k8 _ _ hped (s7 _ _ e6))
          . rw[zai (Cz hpd)];exact s9 _ _ d8
          . rw[hk8];refine decide_eq_decide.mpr ?_
            rw[D7,List.mem_append];simp
          . rw[D7,Am,show [fs].flatten=fs by simp];lia
          . rw[D7,List.mem_append];rcases (zcX he).mp hf with z |z
            . exact .inl (hall f z)
            . rw[z];refine .inr ?_
              have:=hcl.1.1;simpa using An this
    . rintro σ H6 ⟨o4,o5,o6,o7,rfl,s6,t6,e6,kt6,kvs,rs,ESS,R,d6,p6,hR,hP,hkv,hkl,hall⟩;rw[hvE.1,AL]at hall;have hrl:rs.length<=120:=by rw[hR.1];exact AV hP.few hlen
      have ge:∀(i:Nat) r,R[i]?=some r->R.getD i ⟨"",0,0,[]⟩=r:=λi r h=>by simp only[Be,h,Option.getD_some]
      have lam6:LamT L H6:=hlam.same s6
      refine⟨_,rfl,p,rs,λi=>keyV (R.getD i ⟨"",0,0,[]⟩),λi=>keyI (R.getD i ⟨"",0,0,[]⟩),rfl,lam6,SqL.of p6,by lia,λi x H7 hx b7=>?_,
        λi j hi hj=>⟨_,_,_,_,_,_,rfl,rfl,.cons (.int _ _) (.cons (.bl _ _) .nil),rfl,rfl⟩,λpp D H7 hpm hpo hD b7 l7 f7=>?_⟩
      . obtain⟨r,hr',x1,x2,rfl,q1,q2⟩:=hR.at hx;have q7:=b7.kt lam6 _ _ q1;refine⟨_,rfl,x1,_,_,_,rfl,rfl,SqT.of q7,zaE (j:=2) rfl,_,rfl,x1,_,_,_,rfl,rfl,SqT.of q7,zaE (j:=1) rfl,_,rfl,x1,_,_,_,rfl,rfl,SqT.of q7,zaE (j:=0) rfl,rfl,three,λq hq=>⟨Same.up hq,q,rfl,SqT.of ?_⟩⟩;show upd H7 q _ q=some (HO.tup (keyV (R.getD i ⟨"",0,0,[]⟩)));rw[ge i r hr',zaa];rfl
      . have kt7:=b7.kt lam6;have hpl:pp.length=R.length:=by rw[hpm.length_eq,Ck,hR.1]
        have hlt:∀i∈pp,i<R.length:=λi hi=>by have:=Ce.mp (hpm.mem_iff.mp hi);rw[hR.1]at this;exact this
        have hRR:(pp.map λi=>R.getD i ⟨"",0,0,[]⟩).Perm R:=by
          have h1:=hpm.map λi=>R.getD i (⟨"",0,0,[]⟩:Rnd)
          rw[hR.1]at h1
          have h2:((Bq R.length).map λi=>R.getD i (⟨"",0,0,[]⟩:Rnd))=R:=by
            apply List.ext_getElem
            . simp
            . intro i a b;simp[show i<R.length by simpa using a]
          rw[h2]at h1;exact h1
        have vR:VR (pp.map λi=>rs.getD i V.non) (pp.map λi=>R.getD i ⟨"",0,0,[]⟩) rR H7:=by
          refine⟨by simp,λi r v h1 h2=>?_⟩;rw[Ay]at h1 h2;obtain⟨a,ha,rfl⟩:=Bb.mp h1;rw[ha]at h2
          cases h2
          have hal:=hlt a (An ha);have hal2:a<rs.length:=by rw[hR.1];exact hal
          have e1:R.getD a ⟨"",0,0,[]⟩=R[a]:=by simp[hal]
          have e2:rs.getD a V.non=rs[a]:=by simp[hal2]
          rw[e1];show rR R[a] (rs.getD a V.non) H7;rw[e2];exact (hR.2 a _ _ (Ab hal) (Ab hal2)).kt kt7
        refine k D H7 _ _ R (s6.free hD) (s6.but1.trans b7) l7 f7 vR hRR ?_ ⟨ESS,hP,λe=>⟨hP.isE e,λh=>hall e (ziO.mpr h)⟩⟩
        rw[List.pairwise_map];exact hpo
noncomputable abbrev Run:=Int×Nat
noncomputable def flatR(rs:List Run):List Int:=rs.flatMap λp=>Ac p.2 p.1
theorem zc6(rs:List Run)(p:Run):flatR (rs++[p])=flatR rs++Ac p.2 p.1:=by unfold flatR;simp
noncomputable def addR(rs:List Run)(s:Int):List Run :=
 match rs.getLast? with
 |some p=>if p.1=s then rs.dropLast++[(s,p.2+1)] else rs++[(s,1)]
 |none=>rs++[(s,1)]
theorem zmf(s:Int):addR [] s=[(s,1)]:=rfl
theorem zhw(l:List Run)(p:Run)(s:Int)(h:p.1=s):addR (l++[p]) s=l++[(s,p.2+1)]:=by unfold addR;simp[h]
theorem zi8(l:List Run)(p:Run)(s:Int)(h:¬ p.1=s):addR (l++[p]) s=(l++[p])++[(s,1)]:=by unfold addR;simp[h]
noncomputable def runsL(ns:List Int):List Run:=ns.foldl addR []
structure Good (rs:List Run) (ns:List Int):Prop where
 flat:flatR rs=ns
 pos:∀p∈rs,1<=p.2
 alt:∀(i:Nat) p q,rs[i]?=some p->rs[i+1]?=some q->p.1≠q.1
theorem Good.nil:Good [] []:=⟨rfl,(λp h=>by cases h),(λi p q h=>by simp at h)⟩
theorem zi7{l:List Run}{p:Run}(h:∀(i:Nat) p q,l[i]?=some p->l[i+1]?=some q->p.1≠q.1)(hp:∀q,l.getLast?=some q->q.1≠p.1):∀(i:Nat) a b,(l++[p])[i]?=some a->(l++[p])[i+1]?=some b->a.1≠b.1:=by
 intro i a b h1 h2;rcases Nat.lt_trichotomy (i+1) l.length with hi |hi |hi
 .rw[Aj (by lia)]at h1;rw[Aj hi]at h2;exact h i a b h1 h2
 .rw[Aj (by lia)]at h1;rw[Ar (by lia),hi]at h2;have e:b=p:=by simpa using h2.symm
  subst e;refine hp a ?_
  rw[List.getLast?_eq_getElem?,<- hi];simpa using h1
 .rw[Ar (by lia)]at h2;have:i+1-l.length<1:=(Ae.mp h2).1;lia
theorem Good.add{rs:List Run}{ns:List Int}(h:Good rs ns)(s:Int):Good (addR rs s) (ns++[s]):=by
 rcases List.eq_nil_or_concat rs with rfl |⟨l,p,e⟩
 .rw[zmf];refine⟨by rw[<- h.flat];rfl,λp hp=>?_,λi p q _ h2=>?_⟩
  .have:p=(s,1):=by simpa using hp
   rw[this];exact Ai _
  .have:=(Ae.mp h2).1;simp at this
 .rw[List.concat_eq_append]at e;subst e
  by_cases hs:p.1=s
  .rw[zhw l p s hs];refine⟨?_,λq hq=>?_,?_⟩
   .rw[zc6,<- h.flat,zc6,CK,<- AB,hs]
   .rcases Az.mp hq with z |z
    .exact h.pos q (Bt _ z)
    .have:q=(s,p.2+1):=by simpa using z
     rw[this];exact Nat.le_add_left _ _
   .refine zi7 (λi a b h1 h2=>h.alt i a b (by rw[Aj (Ae.mp h1).1];exact h1) (by rw[Aj (Ae.mp h2).1];exact h2)) λq hq=>?_
    show q.1≠s;rw[<- hs]
    have hl:0<l.length:=by
     cases l with
     |nil=>cases hq
     |cons a r=>simp
    rw[List.getLast?_eq_getElem?]at hq;refine h.alt (l.length-1) q p ?_ ?_
    .rw[Aj (by lia)];exact hq
    .rw[show l.length-1+1=l.length by lia,Ar (Ai _)];simp
  .rw[zi8 l p s hs];refine⟨?_,λq hq=>?_,?_⟩
   .rw[zc6,h.flat];rfl
   .rcases Az.mp hq with z |z
    .exact h.pos q z
    .have:q=(s,1):=by simpa using z
     rw[this];exact Ai _
   .refine zi7 h.alt λq hq=>?_
    have:q=p:=by simpa using hq.symm
    rw[this];exact hs
theorem zhb:∀(rs:List Run),(∀p∈rs,1<=p.2)->rs.length<=(flatR rs).length
 |[],_=>AT _
 |p::r,h=>by
  have ih:=zhb r λq hq=>h q (AK _ hq)
  have:=h p AM;have e:flatR (p::r)=Ac p.2 p.1++flatR r:=by unfold flatR;simp
  rw[e,Am,AR,A9];lia
theorem Good.few{rs:List Run}{ns:List Int}(h:Good rs ns):rs.length<=ns.length:=by rw[<- h.flat];exact zhb rs h.pos
theorem zk4(rs:List Run)(i:Nat):(flatR (rs.take i)).length<=(flatR rs).length:=by
 have e:flatR rs=flatR (rs.take i)++flatR (rs.drop i):=by unfold flatR;rw[<- List.flatMap_append,Cq]
 rw[e,Am];lia
theorem zdc{rs:List Run}{i:Nat}{p:Run}(h:rs[i]?=some p):flatR (rs.take (i+1))=flatR (rs.take i)++Ac p.2 p.1:=by rw[List.take_add_one,h];exact zc6 _ _
noncomputable def runR(p:Run)(v:V)(H:Hp):Prop:=∃b,v=.ref b/\H b=some (.tup [.int p.1,.int (p.2:Int)])
theorem runR.kt{p:Run}{v:V}{H H':Hp}(h:runR p v H)(k:KT H H'):runR p v H':=let ⟨b,e,q⟩:=h;⟨b,e,k _ _ q⟩
theorem VR.unsnoc{α:Type}{vs:List V}{l:List α}{x:α}{R:α->V->Hp->Prop}{H:Hp}(h:VR vs (l++[x]) R H):∃ws v,vs=ws++[v]/\VR ws l R H/\R x v H:=by
 have hl:vs.length=l.length+1:=by rw[h.1];simp
 rcases List.eq_nil_or_concat vs with e |⟨ws,v,e⟩
 .rw[e]at hl;simp at hl
 .rw[List.concat_eq_append]at e;subst e;have hw:ws.length=l.length:=by simpa using hl
  refine⟨ws,v,rfl,⟨hw,λi y u h1 h2=>?_⟩,?_⟩
  .refine h.2 i y u ?_ ?_
   .rw[Aj (Ae.mp h1).1];exact h1
   .rw[Aj (Ae.mp h2).1];exact h2
  .refine h.2 l.length x v ?_ ?_
   .rw[Ar (Ai _)];simp
   .rw[<- hw,Ar (Ai _)];simp
noncomputable def dRun(p:Run):PyData:=.tuple [.int p.1,.int (p.2:Int)]
theorem ziF{K:W.Frag}{H:Hp}:∀{vs:List V}{rs:List Run},VR vs rs runR H->RDs K H vs (rs.map dRun)
 |[],[],_=>.nil
 |[],_::_,h=>by have:=h.1;cases this
 |_::_,[],h=>by have:=h.1;cases this
 |v::vs,r::R,h=>by
  obtain⟨h1,h2⟩:=VR.cons.mp h;obtain⟨b,rfl,q⟩:=h1;exact .cons (.tup (SqT.of q) (.cons (.int _) (.cons (.int _) .nil))) (ziF h2)
noncomputable def zmp(K:W.Frag):Sp:=λvs H Q _=>∃(a:Addr) (ns:List Int),vs=[.ref a]/\SqT K H a (ns.map V.int)/\ns.length<=500 /\
 ∀(q:Addr) (us:List V) (H':Hp),H q=none->Same H H'->H' q=some (.lst us)->VR us (runsL ns) runR H'->Good (runsL ns) ns->Q (.ref q) H'
theorem zjs (d:Df K mg "runs_of" zeB ["row"]):FnOk P w K mg base CX0 1 d.f d.fd ["row"] (zmp K):=by
  refine d.F.ok zdM (λvs H Q E h=>?_) (λcdv A outer s H vs Q E hr h=>?_)
  . obtain⟨a,ns,rfl,_⟩:=h;rfl
  . obtain⟨a,ns,rfl,hq,hlen,k⟩:=h
    refine⟨_,(zac (sE 1 zdM.nd (zaV zab))
      (zac (zb6 Bs rfl (zgT (pv 0)) (nG 2 zdM.nd)
      (zag (ps_if (ziG (zef (pv 1) (λ_=>rfl)) (zfV (zap op_eq (pe_ix zbn (pe_ix za7 (pv 1) (pe_un zcF zae) (λ_ _=>rfl)) zae (λ_ _=>rfl)) (pv 2) (zaq _)))).pt
      (zag (zbm (zam (pa_N (pv 2) (pa_B (pe_op zaL (pe_ix zbn (pe_ix za7 (pv 1) (pe_un zcF zae) (λ_ _=>rfl)) zae (λ_ _=>rfl)) zae) zab))) (zn8 (pv 1) (pe_un zcF zae) zlB)))
      (zag (zaY (pe_bm AO A4 A5 zaM (pv 1) (pa_T (zam (pa_N (pv 2) (pa_C zae zab))) zab)))))))
      (zag (zak (pv 1))))),?_⟩
    refine⟨(by show 0<=sizeLine;decide),λq hq0=>?_⟩;have s1:=Same.up (o:=.lst []) hq0;have q1:upd H q (.lst []) q=some (.lst []):=zaa;generalize upd H q (.lst [])=H1 at s1 q1;refine⟨_,rfl,a,rfl,⟨_,s1.seqT hq⟩,?_⟩
    refine zeP (K:=K) (a:=a) (xs:=ns.map V.int) (λi σ H2=>∃o us,σ=[some (.ref a),some (.ref q),o]/\Same H H2/\H2 q=some (.lst us)/\VR us (runsL (ns.take i)) runR H2/\Good (runsL (ns.take i)) (ns.take i))
      ⟨_,[],rfl,s1,q1,VR.nil,Good.nil⟩ (λi σ H2 _ ⟨_,_,_,s2,_⟩=>s2.seqT hq) ?_ ?_
    . rintro i v σ H2 hi ⟨o,us,rfl,s2,e2,hv,hg⟩
      have hil:i<ns.length:=by have:=(Ae.mp hi).1;simpa using this
      have ev:v=.int ns[i]:=by rw[Ay,Ab hil]at hi;exact (A0 hi).symm
      subst ev;have tk:ns.take (i+1)=ns.take i++[ns[i]]:=by rw[List.take_add_one,Ab hil];rfl
      have rk:runsL (ns.take (i+1))=addR (runsL (ns.take i)) ns[i]:=by unfold runsL;rw[tk,List.foldl_append];rfl
      have gk:=hg.add ns[i];rw[<- rk,<- tk]at gk
      have hul:us.length<=500:=by rw[hv.1];have:=hg.few;rw[AA]at this;lia
      have nw:∀(H3:Hp) (t:Addr), H3 t=none -> Same H H3 -> H3 q=some (.lst us) -> VR us (runsL (ns.take i)) runR H3 -> runsL (ns.take (i + 1))=runsL (ns.take i) ++ [(ns[i], 1)] ->
          Same H (upd (upd H3 t (.tup [.int ns[i],.int 1])) q (.lst (us++[.ref t])))/\VR (us++[.ref t]) (runsL (ns.take (i+1))) runR (upd (upd H3 t (.tup [.int ns[i],.int 1])) q (.lst (us++[.ref t]))):=by
        intro H3 t ht s3 e3 hv3 er;have hqt:q≠t:=zal e3 ht;have k2:KT (upd H3 t (.tup [.int ns[i],.int 1])) (upd (upd H3 t (.tup [.int ns[i],.int 1])) q (.lst (us++[.ref t]))):=KT.lst (xs:=us) (by rw[zai hqt];exact e3);refine⟨zaj hq0 (s3.trans (Same.up ht)),?_⟩;rw[er];exact hv3.snoc (λx v hx=>hx.kt ((KT.up ht).trans k2)) ⟨t,rfl,k2 _ _ zaa⟩
      rcases List.eq_nil_or_concat (runsL (ns.take i)) with er |⟨l,p,er⟩
      . have hus:us = [] := by have:=hv.1;rw[er]at this;exact Cb.mp this
        subst hus;refine⟨_,rfl,_,.inl ⟨_,SqL.of e2,rfl⟩,iteF ?_⟩;refine⟨_,rfl,.inl ⟨rfl,_,SqL.of e2⟩,_,rfl,two,λt ht=>?_⟩;have hqt:q≠t:=zal e2 ht;obtain⟨n1,n2⟩:=nw H2 t ht s2 e2 hv (by rw[rk,er];rfl);exact⟨q,_,_,rfl,rfl,by rw[zai hqt];exact e2,small1000 (by simp),_,_,rfl,n1,zaa,n2,gk⟩
      . rw[List.concat_eq_append]at er;have hv':=hv;rw[er]at hv';obtain⟨ws,u,rfl,hw,b,rfl,qb⟩:=hv'.unsnoc;have at1:atI (ws++[V.ref b]) (-1)=some (.ref b):=by rw[zi6 (by simp)];simp
        refine⟨_,rfl,_,.inl ⟨_,SqL.of e2,rfl⟩,iteY (by simp) ?_⟩;refine⟨_,rfl,_,rfl,q,_,_,_,rfl,rfl,SqL.of e2,at1,b,_,_,_,rfl,rfl,SqT.of qb,zaE (j:=0) rfl,_,rfl,rfl,_,rfl,?_⟩
        by_cases hs:p.1=ns[i]
        . refine iteY (decide_eq_true (by rw[hs])) ?_
          refine⟨_,rfl,_,rfl,_,rfl,q,_,_,_,rfl,rfl,SqL.of e2,at1,b,_,_,_,rfl,rfl,SqT.of qb,zaE (j:=1) rfl,_,_,rfl,rfl,two,λt ht=>?_⟩;have hqt:q≠t:=zal e2 ht;have e3:upd H2 t (.tup [.int ns[i],.int ((p.2:Int)+1)]) q=some (.lst (ws++[.ref b])):=by rw[zai hqt];exact e2
          have ix:ixN (ws++[V.ref b]).length (-1)=some ws.length:=by
            unfold ixN;rw[if_neg (by lia),if_pos (by simp;lia)]
            congr 1;simp;lia
          refine⟨_,rfl,_,rfl,q,_,_,_,rfl,rfl,e3,ix,?_⟩;have hset:(ws++[V.ref b]).set ws.length (.ref t)=ws++[.ref t]:=by rw[List.set_append_right _ _ (Ai _)];simp
          rw[hset];have k2:KT (upd H2 t (.tup [.int ns[i],.int ((p.2:Int)+1)])) (upd (upd H2 t (.tup [.int ns[i],.int ((p.2:Int)+1)])) q (.lst (ws++[.ref t]))):=KT.lst e3;refine⟨_,_,rfl,zaj hq0 (s2.trans (Same.up ht)),zaa,?_,gk⟩;rw[rk,er,zhw l p _ hs];refine hw.snoc (λx v hx=>hx.kt ((KT.up ht).trans k2)) ⟨t,rfl,k2 _ _ ?_⟩;rw[zaa];show some (HO.tup [.int ns[i],.int ((p.2:Int)+1)])=some (HO.tup [.int ns[i],.int ((p.2+1:Nat):Int)]);rw[Int.natCast_add];rfl
        . refine iteN (decide_eq_false (λz=>hs (by injection z))) ?_
          refine⟨_,rfl,.inl ⟨rfl,_,SqL.of e2⟩,_,rfl,two,λt ht=>?_⟩;have hqt:q≠t:=zal e2 ht;obtain⟨n1,n2⟩:=nw H2 t ht s2 e2 hv (by rw[rk,er,zi8 l p _ hs]);exact⟨q,_,_,rfl,rfl,by rw[zai hqt];exact e2,small1000 (by lia),_,_,rfl,n1,zaa,n2,gk⟩
    . rintro σ H2 ⟨o,us,rfl,s2,e2,hv,hg⟩;rw[Ag,AL]at hv hg;exact⟨_,rfl,k q us H2 hq0 s2 e2 hv hg⟩
noncomputable abbrev tS(i:Int):Str:=Aa (Bg i)
noncomputable def prt (p:Run):Str:=if 1<(p.2:Int) then Str.empty++tS p.1 ++ "x" ++ tS p.2 else tS p.1
noncomputable def figS (ns:List Int):Str:=if ns=[] then "-" else Bu "" (ns.map tS)
noncomputable def runS (ns:List Int):Str:="*" ++ Bu "." ((runsL ns).map prt)
noncomputable def rowS(ns:List Int):Str:=if (runS ns).length<(figS ns).length then runS ns else figS ns
noncomputable def rndS (r:Rnd):Str:=Str.empty++r.so ++ " " ++ tS r.x ++ " " ++ tS r.y ++ " " ++ rowS (rowI r.row)
noncomputable def Stp(ns:List Int):Prop:=ns.length<=500/\∀n∈ns,0<=n/\n<8
noncomputable def NearI(x:Int):Prop:=-(10 ^ 31)<x/\x<10 ^ 31
noncomputable def ROk (r:Rnd):Prop:=(r.so = "rim" ∨ r.so = "hole")/\NearI r.x/\NearI r.y/\Stp (rowI r.row)
theorem zau(a b:Str):(a++b).length=a.length+b.length:=by obtain⟨c⟩:=a;obtain⟨d⟩:=b;exact Array.size_append
theorem zd2{x:Int}(h:NearI x):(tS x).length<=32:=by
 obtain⟨h1,h2⟩:=h
 by_cases hx:0<=x
 .exact AV (Co hx (k:=31) (by decide) h2) (by decide)
 .have e:tS x=Aa ("-" ++ Bg (0-x)):=by unfold tS;rw[PyProof.Rows.toString_neg (by lia)]
  have hl:=Co (v:=0-x) (by lia) (k:=31) (by decide) (by lia);rw[e,PyProof.Rows.ofString_length,String.toList_append,Am];rw[PyProof.Rows.ofString_length]at hl;have:("-" : String).toList.length=1:=by decide
  lia
theorem zbE{x:Int}(h:NearI x):x.natAbs.log2<1920:=by
 obtain⟨h1,h2⟩:=h
 by_cases h0:x.natAbs=0
 .rw[h0];decide
 .refine (Nat.log2_lt h0).mpr (AJ (show x.natAbs<10 ^ 31 by lia) (by decide +kernel))
theorem zbV{x:Int}(h0:-1000000<x)(h1:x<1000000):NearI x:=by have e:((10:Int) ^ 31)=10000000000000000000000000000000:=rfl;unfold NearI;rw[e];lia
theorem zei{s:Int}(h0:0<=s)(h1:s<8):(tS s).length<=1:=Co h0 (k:=1) (by decide) (by lia)
theorem zel{m:Nat}(h:m<=500):(tS (m:Int)).length<=3:=Co (by lia) (k:=3) (by decide) (by lia)
theorem zik{ys:List Str}{B:Nat}(h:∀y∈ys,y.length<=B):(ys.map Str.length).sum<=B*ys.length:=by
 induction ys with
 |nil=>simp
 |cons y r ih =>
  have:=ih λz hz=>h z (AK _ hz)
  have:=h y AM;rw[Bj,CD,A9,Nat.mul_add];lia
theorem zdD(sep:Str)(ys:List Str):(Bu sep ys).length<=(ys.map Str.length).sum+ys.length*sep.length:=by show (Builtin.Str.glued sep ys).length<=_;rw[size_glued];have:=Nat.mul_le_mul_right sep.length (show ys.length-1<=ys.length by lia);have e:(ys.map λx=>Str.length x)=ys.map Str.length:=rfl;rw[e];lia
theorem zmv{rs:List Run}{p:Run}(h:p∈rs):p.2<=(flatR rs).length/\(1<=p.2->p.1∈flatR rs):=by
 induction rs with
 |nil=>cases h
 |cons q r ih =>
  have e:flatR (q::r)=Ac q.2 q.1++flatR r:=by unfold flatR;simp
  rw[e,Am,AR];rcases AI.mp h with rfl |h
  .refine⟨by lia,λz=>Bt _ (List.mem_replicate.mpr ⟨by lia,rfl⟩)⟩
  .obtain⟨a,b⟩:=ih h;exact⟨by lia,λz=>At _ (b z)⟩
theorem zcv{ns:List Int}(h:Stp ns)(g:Good (runsL ns) ns){p:Run}(hp:p∈runsL ns):1<=p.2/\p.2<=500/\0<=p.1/\p.1<8:=by obtain⟨a,b⟩:=zmv hp;rw[g.flat]at a b;have c:=g.pos p hp;have d:=h.2 _ (b c);have:=h.1;exact⟨c,by lia,d.1,d.2⟩
theorem zhZ{p:Run}(h:p.2<=500/\0<=p.1/\p.1<8):(prt p).length<=5:=by
 have a:=zei h.2.1 h.2.2;have b:=zel h.1;have e:Str.empty.length=0:=rfl;have x:("x" : Str).length=1:=by decide
 unfold prt;split
 .rw[zau,zau,zau,e,x];lia
 .lia
theorem znt:("*" : Str).length=1:=by decide
theorem zbd(ns:List Int):Good (runsL ns) ns:=by
 have:∀(l:List Int) (rs:List Run) (ms:List Int),Good rs ms->Good (l.foldl addR rs) (ms++l):=by
  intro l
  induction l with
  |nil=>intro rs ms h;rw[Bk];exact h
  |cons a r ih=>intro rs ms h;have:=ih _ _ (h.add a);rw[AB]at this;exact this
 exact this ns [] [] Good.nil
theorem zdC{ns:List Int}(h:Stp ns):(((runsL ns).map prt).map Str.length).sum<=2500/\((runsL ns).map prt).length<=500:=by
 have g:=zbd ns;have f:=g.few;have l:=h.1
 have s:=zik (ys:=(runsL ns).map prt) (B:=5) λy hy=>by obtain⟨p,hp,rfl⟩:=AG.mp hy;exact zhZ (zcv h g hp).2
 rw[Ag]at s ⊢;lia
theorem zdB{ns:List Int}(h:Stp ns):(runS ns).length<=3001:=by
 unfold runS;obtain⟨a,b⟩:=zdC h;have j:=zdD "." ((runsL ns).map prt);have d:("." : Str).length=1:=by decide
 rw[d]at j;rw[zau,znt];lia
theorem zem{ns:List Int}(h:Stp ns):((ns.map tS).map Str.length).sum<=500/\(ns.map tS).length<=500:=by
 have s:=zik (ys:=ns.map tS) (B:=1) λy hy=>by obtain⟨n,hn,rfl⟩:=AG.mp hy;exact zei (h.2 n hn).1 (h.2 n hn).2
 have:=h.1;rw[Ag]at s ⊢;lia
theorem zen{ns:List Int}(h:Stp ns):(figS ns).length<=500:=by
 unfold figS;split
 .decide
 .have j:=zdD "" (ns.map tS);have d:("" : Str).length=0:=by decide
  have:=(zem h).1;rw[d]at j;lia
theorem zej{ns:List Int}(h:Stp ns):(rowS ns).length<=3001:=by have:=zdB h;have:=zen h;unfold rowS;split <;> lia
theorem zkQ{r:Rnd}(h:ROk r):r.so.length<=4:=by rcases h.1 with e |e <;> rw[e] <;> decide
theorem ziS{r:Rnd}(h:ROk r):(rndS r).length<=3100:=by
 have a:=zkQ h;have b:=zd2 h.2.1;have c:=zd2 h.2.2.1;have d:=zej h.2.2.2;have e:Str.empty.length=0:=rfl;have f:(" " : Str).length=1:=by decide
 unfold rndS;simp only[zau,e,f];lia
theorem zaA{n:Nat}(h:n<=1000000):n<=sizeLine:=AV h (by decide)
noncomputable def spFig(K:W.Frag)(f:List Int->Str):Sp:=λvs H Q _=>∃(a:Addr) (ns:List Int),vs=[.ref a]/\SqT K H a (ns.map V.int)/\Stp ns/\∀H',Same H H'->Q (.str (f ns)) H'
theorem zga (T:Txt P w K mg) (d:Df K mg "by_figures" zb3 ["row"]):FnOk P w K mg base CX0 1 d.f d.fd ["row"] (spFig K figS):=by
 refine d.F.ok zfR (λvs H Q E h=>?_) (λcdv A outer s H vs Q E hr h=>?_)
 .obtain⟨a,ns,rfl,_⟩:=h;rfl
 .obtain⟨a,ns,rfl,hq,hok,k⟩:=h;have nb0:(["step"]:List Str).Nodup:=by decide +kernel
  refine⟨_,(zag (zak (zbT (zef (pv 0) (λ_=>rfl)) (pe_bm Bf B5 B6 zdn zaC (zah (zaF (osc:=zad zb3) (N:=zd6) (N':=["step"]) (sel:=[none]) bO (zgT (pv 0)) (λ_ _ _ _ _=>(nG 0 nb0)) (λ_ _ _ _ _=>za6) (λ_ _ _ _ _=>(zav zbo (by rfl) T.nstr (by rfl) (pa_N (pv 0) zab)))) zab)) zaC))),?_⟩;have hl:=hok.1
  by_cases hn:ns=[]
  .subst hn;refine⟨_,rfl,false,.inr (.inl ⟨_,hq,rfl⟩),iteF ?_⟩;exact k H (Same.refl _)
  .refine⟨_,rfl,true,.inr (.inl ⟨_,hq,by cases ns with |nil=>exact absurd rfl hn |cons _ _=>rfl⟩),iteT ?_⟩;refine⟨rfl,_,rfl,a,rfl,⟨_,hq⟩,λg hg=>?_⟩
   refine zeP (K:=K) (a:=a) (xs:=ns.map V.int) (λj σ H2=>∃o0,σ=[o0]/\Same H H2/\H2 g=some (.lst (((ns.take j).map tS).map V.str)))
    ⟨_,rfl,Same.up hg,zaa⟩ (λj σ H2 _ ⟨_,_,s2,_⟩=>s2.seqT hq) ?_ ?_
   .rintro j x σ H2 hj ⟨o0,rfl,s2,e2⟩;have hjl:j<ns.length:=by simpa using (Ae.mp hj).1
    rw[Ay]at hj;obtain⟨n,hn',rfl⟩:=Bb.mp hj;have hb:=hok.2 n (An hn');refine gN ?_
    refine⟨_,rfl,n,rfl,zbE (zbV (by lia) (by lia)),_,e2,small1000 (by rw[Ag,Ag,AA];lia),_,rfl,zaj hg s2,?_⟩;rw[zaa,zay hn',Aq,Aq];rfl
   .rintro σ H2 ⟨o0,rfl,s2,e2⟩;rw[Ag,AL]at e2;refine⟨_,g,ns.map tS,rfl,rfl,e2,?_,?_⟩
    .obtain⟨a1,a2⟩:=zem hok;have d0:("" : Str).length=0:=by decide
     show _+_*("" : Str).length<=_;rw[d0];lia
    .have:=k H2 s2;unfold figS at this;rw[if_neg hn]at this;exact this
theorem zjw (T:Txt P w K mg) (g_runs_of:Fn P w K mg base 1 "runs_of" ["row"] (zmp K)) (d:Df K mg "by_runs" zdy ["row"]):FnOk P w K mg base CX0 2 d.f d.fd ["row"] (spFig K runS):=by
 refine d.F.ok zjl (λvs H Q E h=>?_) (λcdv A outer s H vs Q E hr h=>?_)
 .obtain⟨a,ns,rfl,_⟩:=h;rfl
 .obtain⟨a,ns,rfl,hq,hok,k⟩:=h;have nb0:(["step","times"]:List Str).Nodup:=by decide +kernel
  refine⟨_,(zag (zak (pe_op zcc zaC (pe_bm Bf B5 B6 zdn zaC (zah (zaF (osc:=zad zdy) (N:=zhD) (N':=["step","times"]) (sel:=[none,none]) bO (zaU (pC g_runs_of hr (pa_N (pv 0) zab))) (λ_ _ _ _ _=>(zcx (K:=K) (n:=2) (by rfl) (zaf (nG 0 nb0) (zaf (nG 1 nb0) zat)))) (λ_ _ _ _ _=>za6) (λ_ _ _ _ _=>(zbT (zap op_gt (pv 1) zae (zaq _)) (zkt (zcb (zfv (pv 0)) (zcb zaC (zcb (zfv (pv 1)) zmA)))) (zav zbo (by rfl) T.nstr (by rfl) (pa_N (pv 0) zab))))) zab))))),?_⟩;have hl:=hok.1;refine⟨rfl,_,rfl,a,ns,rfl,hq,hl,λq us H1 hq0 s1 e1 v1 g1=>?_⟩;refine⟨q,rfl,⟨_,SqL.of e1⟩,λg hg=>?_⟩;have hfew:=g1.few
  refine zaH (K:=K) (a:=q) (xs:=us) (λj σ H2=>∃o0 o1,σ=[o0,o1]/\Same H1 H2/\H2 g=some (.lst ((((runsL ns).take j).map prt).map V.str)))
   ⟨_,_,rfl,Same.up hg,zaa⟩ (λj σ H2 _ ⟨_,_,_,s2,_⟩=>SqL.of (s2 _ _ e1)) ?_ ?_
  .rintro j x σ H2 hj ⟨o0,o1,rfl,s2,e2⟩;have hjl:j<us.length:=(Ae.mp hj).1;rw[v1.1]at hjl;obtain⟨p,hp,b,rfl,qb⟩:=v1.at hj;obtain⟨p1,p2,p3,p4⟩:=zcv hok g1 (An hp);have n1:NearI p.1:=zbV (by lia) (by lia);have n2:NearI (p.2:Int):=zbV (by lia) (by lia);have l1:(Aa (Bg p.1)).length<=1:=zei p3 p4;have l2:(Aa (Bg (p.2:Int))).length<=3:=zel p2;have x1:("x" : Str).length=1:=by decide
   have x0:Str.empty.length=0:=rfl;refine⟨b,_,rfl,SqT.of (s2 _ _ qb),rfl,_,_,rfl,_,_,rfl,rfl,?_⟩;refine zdt ?_
   have fin:∀y:Str,y=prt p->∃xs,H2 g=some (.lst xs)/\xs.length<sizeLine/\(∃o0 o1,[some (V.int p.1),some (V.int (p.2:Int))]=[o0,o1]/\Same H1 (upd H2 g (.lst (xs++[V.str y])))/\upd H2 g (.lst (xs++[V.str y])) g=some (.lst ((((runsL ns).take (j+1)).map prt).map V.str))):=λy hy=>by refine⟨_,e2,small1000 (by rw[Ag,Ag,AA];lia),_,_,rfl,zaj hg s2,?_⟩;rw[zaa,zay hp,Aq,Aq,hy];rfl
   refine⟨_,rfl,_,_,rfl,rfl,_,rfl,?_⟩;refine ite2 (λhy=>?_) (λhn=>?_)
   .have h1:=of_decide_eq_true hy;refine⟨_,rfl,.inl ⟨_,rfl,zbE n1,_,rfl,zaA (by rw[zau,x0];lia),_,rfl,zaA (by rw[zau,zau,x0,x1];lia),_,rfl,.inl ⟨_,rfl,zbE n2,_,rfl,zaA (by rw[zau,zau,zau,x0,x1];lia),zaA (by rw[zau,zau,zau,x0,x1];lia),?_⟩⟩⟩;exact fin _ (by unfold prt;rw[if_pos h1])
   .have h1:¬ (1:Int)<p.2:=by simpa using hn
    refine⟨_,rfl,_,rfl,zbE n1,?_⟩;exact fin _ (by unfold prt;rw[if_neg h1])
  .rintro σ H2 ⟨o0,o1,rfl,s2,e2⟩;rw[v1.1,AL]at e2;obtain⟨a1,a2⟩:=zdC hok;have d1:("." : Str).length=1:=by decide
   refine⟨_,g,(runsL ns).map prt,rfl,rfl,e2,?_,_,_,rfl,rfl,?_,?_⟩
   .show _+_*("." : Str).length<=_;rw[d1];lia
   .have:=zdB hok;unfold runS at this;rw[zau]at this;exact zaA (by lia)
   .exact k H2 (s1.trans s2)
theorem zhR (T:Txt P w K mg) (g_by_runs:Fn P w K mg base 2 "by_runs" ["row"] (spFig K runS)) (g_by_figures:Fn P w K mg base 1 "by_figures" ["row"] (spFig K figS)) (d:Df K mg "show_row" zdN ["row"]):FnOk P w K mg base CX0 3 d.f d.fd ["row"] (spFig K rowS):=by
 refine d.F.ok zdf (λvs H Q E h=>?_) (λcdv A outer s H vs Q E hr h=>?_)
 .obtain⟨a,ns,rfl,_⟩:=h;rfl
 .obtain⟨a,ns,rfl,hq,hok,k⟩:=h
  refine⟨_,(zac (sE 1 zdf.nd (pC g_by_runs hr (pa_N (pv 0) zab)))
   (zac (sE 2 zdf.nd (pC g_by_figures hr (pa_N (pv 0) zab)))
   (zag (zak (zbT (zap op_lt (zan zaW (by rfl) T.nlen (by rfl) (pa_N (pv 1) zab)) (zan zaW (by rfl) T.nlen (by rfl) (pa_N (pv 2) zab)) (zaq _)) (pv 1) (pv 2)))))),?_⟩
  have l1:=zdB hok;have l2:=zen hok;refine⟨_,rfl,a,ns,rfl,hq,hok,λH1 s1=>?_⟩;refine⟨_,rfl,a,ns,rfl,s1.seqT hq,hok,λH2 s2=>?_⟩;refine⟨_,rfl,_,rfl,zaA (by lia),_,rfl,_,rfl,zaA (by lia),_,_,rfl,rfl,_,rfl,?_⟩;have kk:=k H2 (s1.trans s2);unfold rowS at kk;refine ite2 (λhy=>?_) (λhn=>?_)
  .have h1:=of_decide_eq_true hy;rw[if_pos (by lia)]at kk;exact⟨_,rfl,kk⟩
  .have h1:¬ ((runS ns).length:Int)<((figS ns).length:Int):=by simpa using hn
   rw[if_neg (by lia)]at kk;exact⟨_,rfl,kk⟩
noncomputable def ziu:Sp:=λvs H Q _=>∃(v:V) (r:Rnd),vs=[v]/\rR r v H/\ROk r/\∀H',Same H H'->Q (.str (rndS r)) H'
theorem zf2 (T:Txt P w K mg) (g_show_row:Fn P w K mg base 3 "show_row" ["row"] (spFig K rowS)) (d:Df K mg "show_round" zcM ["one"]):FnOk P w K mg base CX0 4 d.f d.fd ["one"] ziu:=by
 refine d.F.ok zbq (λvs H Q E h=>?_) (λcdv A outer s H vs Q E hr h=>?_)
 .obtain⟨v,r,rfl,_⟩:=h;rfl
 .obtain⟨v,r,rfl,hr',hok,k⟩:=h;obtain⟨a,b,rfl,ea,eb⟩:=hr'
  refine⟨_,(zac (zbm (pv 0) (zba (by rfl) (zaf (nG 1 zbq.nd) (zaf (nG 2 zbq.nd) (zaf (nG 3 zbq.nd) (zaf (nG 4 zbq.nd) zat))))))
   (zag (zak (zkt (zcb (zfv (pv 1)) (zcb zaC (zcb (zfv (pv 2)) (zcb zaC (zcb (zfv (pv 3)) (zcb zaC (zcb (zfv (pC g_show_row hr (pa_N (pv 4) zab))) zmA))))))))))),?_⟩
  refine⟨_,rfl,a,_,rfl,SqT.of ea,rfl,_,_,rfl,_,_,rfl,_,_,rfl,_,_,rfl,rfl,?_⟩;have l0:=zkQ hok;have l1:(Aa (Bg r.x)).length<=32:=zd2 hok.2.1;have l2:(Aa (Bg r.y)).length<=32:=zd2 hok.2.2.1;have l3:=zej hok.2.2.2;have e0:Str.empty.length=0:=rfl;have e1:(Aa " ").length=1:=by decide
  rw[ziC]at eb;refine⟨_,rfl,.inr ⟨_,rfl,zaA (by lia),_,rfl,zaA (by simp only[zau,e0];lia),_,rfl,zaA (by simp only[zau,e0,e1];lia),?_⟩⟩;refine⟨_,rfl,.inl ⟨_,rfl,zbE hok.2.1,_,rfl,zaA (by simp only[zau,e0,e1];lia),_,rfl,zaA (by simp only[zau,e0,e1];lia),?_⟩⟩;refine⟨_,rfl,.inl ⟨_,rfl,zbE hok.2.2.1,_,rfl,zaA (by simp only[zau,e0,e1];lia),_,rfl,zaA (by simp only[zau,e0,e1];lia),?_⟩⟩;refine⟨_,rfl,b,_,rfl,SqT.of eb,hok.2.2.2,λH1 s1=>.inr ⟨_,rfl,zaA (by lia),_,rfl,zaA (by simp only[zau,e0,e1];lia),zaA (by simp only[zau,e0,e1];lia),?_⟩⟩;exact k H1 s1
noncomputable def zj1 (K:W.Frag):Sp:=λvs H Q _=>∃(a:Addr) (us:List V) (R:List Rnd),vs=[.ref a]/\H a=some (.lst us)/\VR us R rR H/\R.length<=130/\(∀r∈R,ROk r)/\∀H',Same H H'->Q (.str (Bu "\n" (R.map rndS))) H'
theorem zek{R:List Rnd}(h:∀r∈R,ROk r):((R.map rndS).map Str.length).sum<=3100*R.length:=by
 have:=zik (ys:=R.map rndS) (B:=3100) λy hy=>by obtain⟨r,hr,rfl⟩:=AG.mp hy;exact ziS (h r hr)
 rw[Ag]at this;exact this
theorem ze3 (T:Txt P w K mg) (g_show_round:Fn P w K mg base 4 "show_round" ["one"] ziu) (d:Df K mg "show_rounds" zbO ["some"]):FnOk P w K mg base CX0 5 d.f d.fd ["some"] (zj1 K):=by
 refine d.F.ok zeZ (λvs H Q E h=>?_) (λcdv A outer s H vs Q E hr h=>?_)
 .obtain⟨a,us,R,rfl,_⟩:=h;rfl
 .obtain⟨a,us,R,rfl,ea,hv,hl,hok,k⟩:=h;have nb0:(["one"]:List Str).Nodup:=by decide +kernel
  refine⟨_,(zag (zak (pe_bm Bf B5 B6 zdn zaC (zah (zaF (osc:=zad zbO) (N:=zdH) (N':=["one"]) (sel:=[none]) bO (zaU (pv 0)) (λ_ _ _ _ _=>(nG 0 nb0)) (λ_ _ _ _ _=>za6) (λ_ _ _ _ _=>(pC g_show_round hr (pa_N (pv 0) zab)))) zab)))),?_⟩;refine⟨rfl,_,rfl,a,rfl,⟨_,SqL.of ea⟩,λg hg=>?_⟩
  refine zaH (K:=K) (a:=a) (xs:=us) (λj σ H2=>∃o0,σ=[o0]/\Same H H2/\H2 g=some (.lst (((R.take j).map rndS).map V.str)))
   ⟨_,rfl,Same.up hg,zaa⟩ (λj σ H2 _ ⟨_,_,s2,_⟩=>SqL.of (s2 _ _ ea)) ?_ ?_
  .rintro j x σ H2 hj ⟨o0,rfl,s2,e2⟩;have hjl:j<us.length:=(Ae.mp hj).1;rw[hv.1]at hjl;obtain⟨r,hr',qr⟩:=hv.at hj;refine gN ?_
   refine⟨_,rfl,x,r,rfl,rR.kt qr (KT.of s2),hok r (An hr'),λH3 s3=>?_⟩;refine⟨_,s3 _ _ e2,small1000 (by rw[Ag,Ag,AA];lia),_,rfl,zaj hg (s2.trans s3),?_⟩;rw[zaa,zay hr',Aq,Aq];rfl
  .rintro σ H2 ⟨o0,rfl,s2,e2⟩;rw[hv.1,AL]at e2;refine⟨_,g,R.map rndS,rfl,rfl,e2,?_,?_⟩
   .have:=zek hok;have d1:(Aa "\n").length=1:=by decide
    rw[d1,Ag];lia
   .exact k H2 s2
theorem fig8 {n:Int}(h0:0<=n) (h1:n<8):∃c,atI (Aa "01234567").cps.toList n=some c/\(⟨#[c]⟩:Str)=tS n:=by
 have:n=0∨n=1∨n=2∨n=3∨n=4∨n=5∨n=6∨n=7:=by lia
 rcases this with rfl |rfl |rfl |rfl |rfl |rfl |rfl |rfl
 all_goals exact⟨_,rfl,by decide⟩
theorem zh2:(Aa "01234567").length<=sizeLine:=by decide
noncomputable def figL (ns:List Int):Str:=Bu "" (ns.map tS)
theorem zn2{rs:List Run}{ns:List Int}(g:Good rs ns){k:Nat}{p:Run}(hk:rs[k]? = some p):(∀t, t < p.2 -> ns[(flatR (rs.take k)).length + t]? = some p.1) /\ (flatR (rs.take (k + 1))).length=(flatR (rs.take k)).length + p.2 /\
  (∀q,ns[(flatR (rs.take k)).length+p.2]?=some q->q≠p.1):=by
 have hkl:k<rs.length:=(Ae.mp hk).1;have e1:=zdc hk
 have e2:ns=flatR (rs.take (k+1))++flatR (rs.drop (k+1)):=by rw[<- g.flat];unfold flatR;rw[<- List.flatMap_append,Cq]
 have e3:(flatR (rs.take (k+1))).length=(flatR (rs.take k)).length+p.2:=by rw[e1,Am,AR]
 refine⟨λt ht=>?_,e3,λq hq=>?_⟩
 .rw[e2,Aj (by lia),e1,Ar (by lia),Dp,if_pos (by lia)]
 .rw[e2,Ar (by lia),e3,Nat.sub_self]at hq
  cases hd:rs.drop (k+1) with
  |nil=>rw[hd]at hq;cases hq
  |cons y l =>
   have hy:rs[k+1]?=some y:=by have:=congrArg (λz=>z[0]?) hd;simpa using this
   have hpos:=g.pos y (An hy);have e4:flatR (y::l)=Ac y.2 y.1++flatR l:=by unfold flatR;simp
   rw[hd,e4,Aj (by rw[AR];lia),Dp,if_pos (by lia)]at hq
   cases hq
   exact λz=>g.alt k p y hk hy z.symm
theorem zm8{rs:List Run}{ns:List Int}(g:Good rs ns):(flatR (rs.take rs.length)).length=ns.length:=by rw[AL,g.flat]
theorem zmy {p:Run}:tS p.1++(if 1<(p.2:Int) then Aa "x" ++ tS (p.2:Int) else Aa "")=prt p:=by
 unfold prt;have e0:∀a:Str,Str.empty++a=a:=λa=>by obtain⟨c⟩:=a;show (⟨#[]++c⟩:Str)=⟨c⟩;rw[Array.empty_append]
 split
 .rw[e0,Str.append_assoc]
 .obtain⟨c⟩:=tS p.1;show (⟨c++#[]⟩:Str)=⟨c⟩;rw[Array.append_empty]
noncomputable def wrdS(ns:List Int):Str:=if (runS ns).length<(figL ns).length then runS ns else figL ns
theorem zn4 (ns:List Int):(if ns=[] then Aa "-" else wrdS ns)=rowS ns:=by
 unfold rowS wrdS
 by_cases h:ns=[]
 .subst h;have e1:(runS []).length=1:=by decide
  have e2:(figS []).length=1:=by decide
  rw[if_pos rfl,if_neg (by rw[e1,e2];lia)];rfl
 .have e:figS ns=figL ns:=by unfold figS figL;rw[if_neg h]
  rw[if_neg h,e]
theorem zk8(a:Str):Str.empty++a=a:=by obtain⟨c⟩:=a;show (⟨#[]++c⟩:Str)=⟨c⟩;rw[Array.empty_append]
theorem zk1{K:W.Frag}{H:Hp}:∀ns:List Int,RDs K H (ns.map V.int) (ns.map Du)
 |[]=>.nil
 |n::r=>.cons (.int n) (zk1 r)
theorem ze6 (T:Txt P w K mg) (d:Df K mg "_law_written" zbC ["_law_one"]):FnOk P w K mg base CX0 1 d.f d.fd ["_law_one"] ziu:=by
 refine d.F.ok zao (λvs H Q E h=>?_) (λcdv A outer s H vs Q E hr h=>?_)
 .obtain⟨v,r,rfl,_⟩:=h;rfl
 .obtain⟨v,r,rfl,hr',hok,k⟩:=h;obtain⟨a,b,rfl,ea,eb⟩:=hr';have hu64:=hr.units;have nb0:(["_law_step"]:List Str).Nodup:=by decide +kernel
  refine⟨_,(zac (zbm (pv 0) (zba (by rfl) (zaf (nG 1 zao.nd) (zaf (nG 2 zao.nd) (zaf (nG 3 zao.nd) (zaf (nG 4 zao.nd) zat))))))
   (zac (sE 5 zao.nd (pe_bm Bf B5 B6 zdn zaC (zah (zaF (osc:=zad zbC) (N:=zcf) (N':=["_law_step"]) (sel:=[none]) bO (zgT (pv 4)) (λ_ _ _ _ _=>(nG 0 nb0)) (λ_ _ _ _ _=>za6) (λ_ _ _ _ _=>(pe_ix zmI zaC (pv 0) (λ_ _=>rfl)))) zab)))
   (zac (sE 6 zao.nd (zaV zab))
   (zac (sE 7 zao.nd zae)
   (zac (zfW Bs (zap op_lt (pv 7) (zan zaw (by rfl) T.nlen (by rfl) (pa_N (pv 4) zab)) (zaq _))
   (zac (sE 8 zao.nd zae)
   (zac (zfW Bs (ziG (zap op_lt (pe_op zaL (pv 7) (pv 8)) (zan zaw (by rfl) T.nlen (by rfl) (pa_N (pv 4) zab)) (zaq _)) (zfV (zap op_eq (pe_ix zbn (pv 4) (pe_op zaL (pv 7) (pv 8)) (λ_ _=>rfl)) (pe_ix zbn (pv 4) (pv 7) (λ_ _=>rfl)) (zaq _)))).pt
   (zag (sE 8 zao.nd (pe_op zaL (pv 8) zae))))
   (zac (zaY (pe_bm AO A4 A5 zaM (pv 6) (pa_B (pe_op zcc (pe_ix zmI zaC (pe_ix zbn (pv 4) (pv 7) (λ_ _=>rfl)) (λ_ _=>rfl)) (pe_ix za7 (zaV (pa_C zaC (pa_B (pe_op zcc zaC (zav zbo (by rfl) T.nstr (by rfl) (pa_N (pv 8) zab))) zab))) (zav zcZ (by rfl) T.nint (by rfl) (zah (zbc op_gt (pv 8) zae (zaq _)) zab)) (λ_ _=>rfl))) zab)))
   (zag (sE 7 zao.nd (pe_op zaL (pv 7) (pv 8))))))))
   (zac (sE 9 zao.nd (pe_op zcc zaC (pe_bm Bf B5 B6 zdn zaC (pa_N (pv 6) zab))))
   (zac (sE 10 zao.nd (pe_ix za7 (zaV (pa_N (pv 5) (pa_N (pv 9) zab))) (zav zcZ (by rfl) T.nint (by rfl) (zah (zbc op_lt (zan zaW (by rfl) T.nlen (by rfl) (pa_N (pv 9) zab)) (zan zaW (by rfl) T.nlen (by rfl) (pa_N (pv 5) zab)) (zaq _)) zab)) (λ_ _=>rfl)))
   (zag (zak (pe_op zcc (pe_op zcc (pe_op zcc (pe_op zcc (pe_op zcc (pe_op zcc (pv 1) zaC) (zav zbo (by rfl) T.nstr (by rfl) (pa_N (pv 2) zab))) zaC) (zav zbo (by rfl) T.nstr (by rfl) (pa_N (pv 3) zab))) zaC) (pe_ix za7 (zaV (pa_N (pv 10) (pa_C zaC zab))) (zav zcZ (by rfl) T.nint (by rfl) (zah (zbc (zkA hu64) (pv 4) (zam zab) (zaq _)) zab)) (λ_ _=>rfl)))))))))))),?_⟩
  refine⟨_,rfl,a,_,rfl,SqT.of ea,rfl,_,_,rfl,_,_,rfl,_,_,rfl,_,_,rfl,rfl,?_⟩;have hσ:L2.start zcf [V.ref a]=[some (.ref a),none,none,none,none,none,none,none,none,none,none]:=rfl;rw[hσ];simp only[zaG,AY,AZ];have hst:=hok.2.2.2;have hl:=hst.1;rw[ziC]at eb;generalize hns:rowI r.row=ns at hst hl eb
  have lf:(figL ns).length<=500:=by
   have j:=zdD "" (ns.map tS);have d0:("" : Str).length=0:=by decide
   have:=(zem hst).1;rw[d0]at j;show (Bu "" (ns.map tS)).length<=500;lia
  refine⟨rfl,_,rfl,b,rfl,⟨_,SqT.of eb⟩,λg hg=>?_⟩
  refine zeP (K:=K) (a:=b) (xs:=ns.map V.int) (λj σ H2=>∃o0,σ=[o0]/\Same H H2/\H2 g=some (.lst (((ns.take j).map tS).map V.str)))
   ⟨_,rfl,Same.up hg,zaa⟩ (λj σ H2 _ ⟨_,_,s2,_⟩=>SqT.of (s2 _ _ eb)) ?_ ?_
  .rintro j x σ H2 hj ⟨o0,rfl,s2,e2⟩;have hjl:j<ns.length:=by simpa using (Ae.mp hj).1
   rw[Ay]at hj;obtain⟨n,hn',rfl⟩:=Bb.mp hj;have hb:=hst.2 n (An hn');obtain⟨c,hc,hc'⟩:=fig8 hb.1 hb.2;refine gN ?_
   refine⟨_,rfl,_,n,c,rfl,rfl,zh2,hc,_,e2,small1000 (by rw[Ag,Ag,AA];lia),_,rfl,zaj hg s2,?_⟩;rw[zaa,zay hn',Aq,Aq,hc'];rfl
  .rintro σ H2 ⟨o0,rfl,s2,e2⟩;rw[Ag,AL]at e2;refine⟨_,g,ns.map tS,rfl,rfl,e2,?_,?_⟩
   .obtain⟨a1,a2⟩:=zem hst;have d0:(Aa "").length=0:=by decide
    rw[d0];lia
   clear e2;simp only[zaG,AY,AZ];refine⟨AT _,λpt hpt=>?_⟩;have hpt0:H pt=none:=s2.free hpt;have s3:=s2.trans (Same.up (o:=.lst []) hpt);have e3:upd H2 pt (.lst []) pt=some (.lst []):=zaa;generalize upd H2 pt (.lst [])=H3 at s3 e3;simp only[zaG,AY,AZ];have g1:=zbd ns;have hfew:=g1.few;have ebt:∀{H':Hp},Same H H'->SqT K H' b (ns.map V.int):=λs'=>SqT.of (s' _ _ eb)
   have at_ns:∀{i:Nat} {n:Int},ns[i]?=some n->atI (ns.map V.int) (i:Int)=some (.int n):=λ{i n} h=>zaE (by rw[Ay,h];rfl)
   refine⟨λm σ H4=>∃j o8 o9 o10,m=(runsL ns).length-j/\j<=(runsL ns).length/\σ=[some (V.ref a),some (V.str r.so),some (V.int r.x),some (V.int r.y),some (V.ref b),some (V.str (figL ns)),some (V.ref pt),some (V.int (((flatR ((runsL ns).take j)).length:Nat):Int)),o8,o9,o10]/\Same H H4/\H4 pt=some (.lst ((((runsL ns).take j).map prt).map V.str)),
    ⟨_,0,_,_,_,rfl,AT _,rfl,s3,e3⟩,?_⟩
   rintro m σ H4 ⟨j,o8,o9,o10,rfl,hj,rfl,s4,e4⟩;refine⟨_,rfl,_,rfl,b,_,rfl,.inr (ebt s4),_,_,rfl,rfl,_,rfl,?_⟩;rw[Ag]
   by_cases hjl:j=(runsL ns).length
   .refine iteN (decide_eq_false ?_) ?_
    .rw[hjl,zm8 g1];lia
    subst hjl;rw[AL]at e4;obtain⟨a1,a2⟩:=zdC hst;have lr:=zdB hst;have d1:(Aa ".").length=1:=by decide
    have d2:(Aa "*").length=1:=by decide
    have d3:(Aa " ").length=1:=by decide
    have hrun:Aa "*" ++ Bu (Aa ".") ((runsL ns).map prt)=runS ns:=rfl;refine⟨rfl,_,rfl,_,pt,(runsL ns).map prt,rfl,rfl,e4,(by rw[d1];lia),_,_,rfl,rfl,?_,?_⟩
    .have:(runS ns).length=(Aa "*").length+(Bu (Aa ".") ((runsL ns).map prt)).length:=by rw[<- hrun,zau]
     exact zaA (by lia)
    rw[hrun];simp only[zaG,AY,AZ];refine⟨_,rfl,_,rfl,two,λl5 hl5=>?_⟩;refine⟨_,rfl,_,rfl,zaA (by lia),_,rfl,_,rfl,zaA (by lia),_,_,rfl,rfl,.inr ⟨_,rfl,?_⟩⟩
    have hw:atI [V.str (figL ns),V.str (runS ns)] (if decide (((runS ns).length:Int)<((figL ns).length:Int))=true then 1 else 0)=some (.str (wrdS ns)):=by
     unfold wrdS
     by_cases z:(runS ns).length<(figL ns).length
     .rw[if_pos z,if_pos (decide_eq_true (by lia))];rfl
     .rw[if_neg z,if_neg (by rw[decide_eq_true_iff];lia)];rfl
    refine⟨l5,_,_,_,rfl,rfl,SqL.of zaa,hw,?_⟩;have lw:(wrdS ns).length<=3001:=by unfold wrdS;split <;> lia
    have s5:=s4.trans (Same.up (o:=.lst [V.str (figL ns),V.str (runS ns)]) hl5);generalize upd H4 l5 (.lst [V.str (figL ns),V.str (runS ns)])=H5 at s5;simp only[zaG,AY,AZ];have l0:=zkQ hok;have l1:(Aa (Bg r.x)).length<=32:=zd2 hok.2.1;have l2:(Aa (Bg r.y)).length<=32:=zd2 hok.2.2.1;refine⟨_,rfl,_,_,rfl,rfl,zaA (by lia),_,rfl,_,rfl,zbE hok.2.1,_,_,rfl,rfl,zaA (by simp only[zau,d3];lia),_,_,rfl,rfl,zaA (by simp only[zau,d3];lia),?_⟩;refine⟨_,rfl,_,rfl,zbE hok.2.2.1,_,_,rfl,rfl,zaA (by simp only[zau,d3];lia),_,_,rfl,rfl,zaA (by simp only[zau,d3];lia),?_⟩;refine⟨_,rfl,two,λl6 hl6=>?_⟩;refine⟨_,rfl,AT _,λt6 ht6=>?_⟩;have s7:=(Same.up (o:=.lst [V.str (wrdS ns),V.str (Aa "-")]) hl6).trans (Same.up (o:=.tup []) ht6);have e7:upd (upd H5 l6 (.lst [V.str (wrdS ns),V.str (Aa "-")])) t6 (.tup []) l6=some (.lst [V.str (wrdS ns),V.str (Aa "-")]):=Same.up ht6 _ _ zaa;have f7:upd (upd H5 l6 (.lst [V.str (wrdS ns),V.str (Aa "-")])) t6 (.tup []) t6=some (.tup []):=zaa;generalize upd (upd H5 l6 (.lst [V.str (wrdS ns),V.str (Aa "-")])) t6 (.tup [])=H7 at s7 e7 f7;refine⟨tI ns,tI [],.tup (ebt (s5.trans s7)) (zk1 ns),.tup (SqT.of f7) .nil,zbp _,zbp _,.inr ⟨_,rfl,?_⟩⟩
    have hz:atI [V.str (wrdS ns),V.str (Aa "-")] (if DQ (tI ns) (tI [])=true then 1 else 0)=some (.str (rowS ns)):=by
     rw[zhm,<- zn4]
     by_cases z:ns=[]
     .rw[if_pos z,if_pos (decide_eq_true z)];rfl
     .rw[if_neg z,if_neg (by rw[decide_eq_true_iff];exact z)];rfl
    have lr2:=zej hst;refine⟨l6,_,_,_,rfl,rfl,SqL.of e7,hz,_,_,rfl,rfl,zaA (by simp only[zau,d3];lia),?_⟩;have kk:=k H7 (s5.trans s7);unfold rndS at kk;rw[zk8,hns]at kk;exact kk
   .have hj':j<(runsL ns).length:=by lia
    obtain⟨p,hp⟩:∃p,(runsL ns)[j]?=some p:=⟨_,Ab hj'⟩;obtain⟨r1,r2,r3⟩:=zn2 g1 hp;obtain⟨p1,p2,p3,p4⟩:=zcv hst g1 (An hp);generalize hat:(flatR ((runsL ns).take j)).length=at' at r1 r2 r3;have h0:=r1 0 (by lia);have hlt:at'<ns.length:=by simpa using (Ae.mp h0).1
    refine iteY (decide_eq_true (by lia)) ?_
    refine⟨λσ' H'=>∃o8 o9 o10,σ'=[some (V.ref a),some (V.str r.so),some (V.int r.x),some (V.int r.y),some (V.ref b),some (V.str (figL ns)),some (V.ref pt),some (V.int (((flatR ((runsL ns).take (j+1))).length:Nat):Int)),o8,o9,o10]/\Same H H'/\H' pt=some (.lst ((((runsL ns).take (j+1)).map prt).map V.str)),
     λσ' H' ⟨o8,o9,o10,h1,h2,h3⟩=>⟨(runsL ns).length-(j+1),by lia,j+1,o8,o9,o10,rfl,by lia,h1,h2,h3⟩,?_⟩
    simp only[zaG,AY,AZ]
    refine⟨λm σ H5=>∃t:Nat,m=p.2-t/\1<=t/\t<=p.2/\H4=H5/\σ=[some (V.ref a),some (V.str r.so),some (V.int r.x),some (V.int r.y),some (V.ref b),some (V.str (figL ns)),some (V.ref pt),some (V.int (at':Int)),some (V.int (t:Int)),o9,o10],
     ⟨_,1,rfl,Ai _,p1,rfl,rfl⟩,?_⟩
    rintro m σ H5 ⟨t,rfl,t1,t2,rfl,rfl⟩;refine⟨_,rfl,_,rfl,_,_,rfl,rfl,_,rfl,b,_,rfl,.inr (ebt s4),_,_,rfl,rfl,_,rfl,?_⟩;rw[Ag];have h0':atI (ns.map V.int) (at':Int)=some (.int p.1):=at_ns h0
    by_cases ht:t<p.2
    .have h1:=r1 t ht;have hlt1:at'+t<ns.length:=by simpa using (Ae.mp h1).1
     refine iteY (decide_eq_true (by lia)) ?_
     refine⟨_,rfl,_,rfl,_,rfl,_,_,rfl,rfl,b,_,_,_,rfl,rfl,ebt s4,(by rw[show ((at':Int)+(t:Int))=((at'+t:Nat):Int) by lia];exact at_ns h1),_,rfl,_,rfl,b,_,_,_,rfl,rfl,ebt s4,h0',rfl,_,rfl,?_⟩;refine iteY (decide_eq_true rfl) ?_
     refine⟨λσ' H'=>H4=H'/\σ'=[some (V.ref a),some (V.str r.so),some (V.int r.x),some (V.int r.y),some (V.ref b),some (V.str (figL ns)),some (V.ref pt),some (V.int (at':Int)),some (V.int ((t+1:Nat):Int)),o9,o10],
      λσ' H' ⟨z1,z2⟩=>⟨p.2-(t+1),by lia,t+1,rfl,by lia,by lia,z1,z2⟩,?_⟩
     exact⟨_,rfl,_,_,rfl,rfl,rfl,rfl⟩
    .have et:t=p.2:=by lia
     subst et;obtain⟨cc,hcc,hcc'⟩:=fig8 p3 p4;have n2:NearI (p.2:Int):=zbV (by lia) (by lia);have lx:(Aa "x").length=1:=by decide
     have l3:(Aa (Bg (p.2:Int))).length<=3:=zel p2;have lp1:(tS p.1).length<=1:=zei p3 p4
     have lp2:(if 1<(p.2:Int) then Aa "x" ++ tS (p.2:Int) else Aa "").length<=4:=by
      split
      .rw[zau,lx];show 1+(Aa (Bg (p.2:Int))).length<=4;lia
      .decide
     have hx:atI [V.str (Aa ""),V.str (Aa "x" ++ Aa (Bg (p.2:Int)))] (if decide (1<(p.2:Int))=true then 1 else 0)=some (.str (if 1<(p.2:Int) then Aa "x" ++ tS (p.2:Int) else Aa "")):=by
      by_cases z:1<(p.2:Int)
      .rw[if_pos z,if_pos (decide_eq_true z)];rfl
      .rw[if_neg z,if_neg (by rw[decide_eq_true_iff];exact z)];rfl
     by_cases hz:at'+p.2<ns.length
     .obtain⟨q,hq⟩:∃q,ns[at'+p.2]?=some q:=⟨_,Ab hz⟩;refine iteY (decide_eq_true (by lia)) ?_
      refine⟨_,rfl,_,rfl,_,rfl,_,_,rfl,rfl,b,_,_,_,rfl,rfl,ebt s4,(by rw[show ((at':Int)+(p.2:Int))=((at'+p.2:Nat):Int) by lia];exact at_ns hq),_,rfl,_,rfl,b,_,_,_,rfl,rfl,ebt s4,h0',rfl,_,rfl,?_⟩;refine iteN (decide_eq_false (λz=>r3 q hq (by injection z))) ?_
      refine⟨_,rfl,.inl ⟨rfl,_,SqL.of e4⟩,?_⟩;refine⟨_,rfl,_,rfl,b,_,_,_,rfl,rfl,ebt s4,h0',_,p.1,cc,rfl,rfl,zh2,hcc,?_⟩;refine⟨_,rfl,(p.2:Int),rfl,zbE n2,_,_,rfl,rfl,zaA (by lia),two,λl7 hl7=>?_⟩;have hlp:pt≠l7:=zal e4 hl7;refine⟨_,rfl,_,_,rfl,rfl,.inr ⟨_,rfl,?_⟩⟩;refine⟨l7,_,_,_,rfl,rfl,SqL.of zaa,hx,_,_,rfl,rfl,zaA (by rw[hcc'];exact AV (Nat.add_le_add lp1 lp2) (by lia)),?_⟩;rw[hcc',zmy];refine⟨pt,_,_,rfl,rfl,(by rw[zai hlp];exact e4),small1000 (by rw[Ag,Ag,AA];lia),?_⟩;refine⟨_,rfl,_,rfl,_,_,rfl,rfl,?_⟩;refine⟨_,_,_,(by rw[r2,Int.natCast_add];rfl),zaj hpt0 (s4.trans (Same.up hl7)),?_⟩;rw[zaa,zay hp,Aq,Aq];rfl
     .refine iteN (decide_eq_false (by lia)) ?_
      refine⟨_,rfl,.inl ⟨rfl,_,SqL.of e4⟩,?_⟩;refine⟨_,rfl,_,rfl,b,_,_,_,rfl,rfl,ebt s4,h0',_,p.1,cc,rfl,rfl,zh2,hcc,?_⟩;refine⟨_,rfl,(p.2:Int),rfl,zbE n2,_,_,rfl,rfl,zaA (by lia),two,λl7 hl7=>?_⟩;have hlp:pt≠l7:=zal e4 hl7;refine⟨_,rfl,_,_,rfl,rfl,.inr ⟨_,rfl,?_⟩⟩;refine⟨l7,_,_,_,rfl,rfl,SqL.of zaa,hx,_,_,rfl,rfl,zaA (by rw[hcc'];exact AV (Nat.add_le_add lp1 lp2) (by lia)),?_⟩;rw[hcc',zmy];refine⟨pt,_,_,rfl,rfl,(by rw[zai hlp];exact e4),small1000 (by rw[Ag,Ag,AA];lia),?_⟩;refine⟨_,rfl,_,rfl,_,_,rfl,rfl,?_⟩;refine⟨_,_,_,(by rw[r2,Int.natCast_add];rfl),zaj hpt0 (s4.trans (Same.up hl7)),?_⟩;rw[zaa,zay hp,Aq,Aq];rfl
end
end RR
set_option maxRecDepth 700000
namespace RR
open PySem L2 RP
theorem zdw{n:Nat}(h:n<=1000000):n<=sizeLine:=AV h (by decide)
section
variable {P:AF}{w:A7}{K:W.Frag}{mg:Str->Option Value}{base:Heap}
noncomputable def figB(l:List Nat):Bool:=!l.isEmpty && l.all digB
noncomputable def zix:Sp:=λvs H Q _=>∃x:Str,vs=[.str x]/\x.length<=700000/\∀H',Same H H'->Q (.bl (figB (cl x))) H'
theorem zfc (T:Txt P w K mg){tFI:Tok}(hFI:mg "FIGURES" = some (.str "0123456789" tFI)) (d:Df K mg "are_figures" zbR ["word"]):FnOk P w K mg base CX0 1 d.f d.fd ["word"] zix:=by
 refine d.F.ok ze1 (λvs H Q E h=>?_) (λcdv A outer s H vs Q E hr h=>?_)
 .obtain⟨x,rfl,_⟩:=h;rfl
 .obtain⟨x,rfl,hl,k⟩:=h;have nb0:(["sign"]:List Str).Nodup:=by decide +kernel
  refine⟨_,(zag (zak (ziI (zbc op_ne (pv 0) zaC (zaq _)) (ziH (zan (zdG rfl) (by rfl) T.nall (by rfl) (zah (zaF (osc:=zad zbR) (N:=zdK) (N':=["sign"]) (sel:=[none]) bO (zkr (pv 0)) (λ_ _ _ _ _=>(nG 0 nb0)) (λ_ _ _ _ _=>za6) (λ_ _ _ _ _=>(zbc zgY (pv 0) (zbA (v:=.str "0123456789") (by rfl) hFI ⟨_,rfl⟩) rfl))) zab)))))),?_⟩;have hcl:=zb1 x;refine⟨_,rfl,rfl,_,rfl,?_⟩
  have hne:decide (V.str x=V.str (Aa ""))=(cl x).isEmpty:=by
   cases q:(cl x).isEmpty with
   |true =>
    refine decide_eq_true (congrArg V.str (zcl ?_));have:cl x=[]:=by simpa using q
    rw[this];decide +kernel
   |false =>
    refine decide_eq_false λz=>?_
    injection z with z;rw[z]at q;exact absurd q (by decide +kernel)
  by_cases he:(cl x).isEmpty=true
  .rw[hne,he];refine iteF ?_
   have:figB (cl x)=false:=by unfold figB;rw[he];rfl
   rw[<- this];exact k H (Same.refl _)
  .have he:=Cm.mpr he;rw[hne,he];refine iteT ?_
   refine⟨_,rfl,x,rfl,λq hq=>?_⟩;refine zh1 (λj σ H9=>∃o,σ=[o]/\Same H H9/\H9 q=some (.lst ((((cl x).take j).map digB).map V.bl))) ⟨_,rfl,Same.up hq,zaa⟩ ?_ ?_
   .rintro j c σ H9 hc ⟨o,rfl,s9,e9⟩;have hc':(cl x)[j]?=some c:=by rw[<- hc];simp
    have hj:=(Ae.mp hc').1;refine gN ?_
    refine⟨_,rfl,_,_,rfl,rfl,?_⟩;rw[StrLaws.found_one,zny];refine⟨_,e9,Es (m:=700000) (by simp only[Ag,AA];lia) (by decide),_,rfl,zaj hq s9,?_⟩;rw[zaa,zay hc',Aq,Aq];rfl
   .rintro σ H9 ⟨o,rfl,s9,e9⟩;rw[Bx (by rw[hcl];exact Ai _)]at e9;refine⟨q,_,rfl,SqL.of e9,?_⟩;have:figB (cl x)=((cl x).map digB).all id:=by unfold figB;rw[he,List.all_map];rfl
    rw[<- this];exact k H9 s9
noncomputable def optI:Option Int->V
 |none=>.non
 |some n=>.int n
noncomputable def numIn(x:Str):Option Int:=if zd0 (cl x)=true then some (zbL (cl x)) else none
noncomputable def zj5:Sp:=λvs H Q _=>∃x:Str,vs=[.str x]/\x.length<=700000/\∀H',Same H H'->Q (optI (numIn x)) H'
theorem zgZ (T:Txt P w K mg){tMF:Tok}(hMF:mg "MOST_FIGURES" = some (.int 30 tMF)) (g_are_figures:Fn P w K mg base 1 "are_figures" ["word"] zix) (d:Df K mg "number_in" zdh ["word"]):FnOk P w K mg base CX0 2 d.f d.fd ["word"] zj5:=by
  refine d.F.ok zcI (λvs H Q E h=>?_) (λcdv A outer s H vs Q E hr h=>?_)
  . obtain⟨x,rfl,_⟩:=h;rfl
  . obtain⟨x,rfl,hl,k⟩:=h
    refine⟨_,(zac (sE 1 zcI.nd (zbT (zbK (pe_bm Bf PySem.F.slot_str_startswith PySem.F.type_str_startswith zdA (pv 0) (pa_C zaC zab))) (zbS zmu (pv 0) (zca zae) zcU) (pv 0)))
      (zac (ps_if (pw_or (zck (zbK (pC g_are_figures hr (pa_N (pv 1) zab)))) (zdz (zap op_gt (zan zaW (by rfl) T.nlen (by rfl) (pa_N (pv 1) zab)) (zbA (v:=.int 30) (by rfl) hMF ⟨_,rfl⟩) (zaq _)))).pt
      (zag (zak za5))
      zaB)
      (zac (sE 2 zcI.nd (zav zbJ (by rfl) T.nint (by rfl) (pa_N (pv 0) zab)))
      (zag (zak (zbT (zap op_eq (zav zbo (by rfl) T.nstr (by rfl) (pa_N (pv 2) zab)) (pv 0) (zaq _)) (pv 2) za5)))))),?_⟩
    have hcl:=zb1 x;have e45:Aa "-" = ⟨#[45]⟩:=by decide +kernel
    have tail:∀y:Str, cl y=figOf (cl x) -> tSeq (tIfS (tOr (tNot (tB (tCall zix [] E0 (tCons (tVar 1) tNil)))) (tTest (tOp (rI0 λi j => V.bl (decide (j < i))) (tCB (λxs H Q => ∃z:Str, xs = [V.str z] /\ z.length <= sizeLine /\ Q (V.int (z.length:Nat)) H) (tCons (tVar 1) tNil)) (tC (V.int 30))))) (tRet (tC V.non)) tNext)
        (tSeq (tAsg (tCB (λxs H Q=>∃(x:Str) (n:Int),xs=[V.str x]/\intText? x=some n/\x.length<=640/\Q (V.int n) H) (tCons (tVar 0) tNil)) (gName 2))
          (tRet (tIf (tTest (tOp rEq (tCB (λxs H Q=>∃i:Int,xs=[V.int i]/\i.natAbs.log2<1920/\Q (V.str (Aa (Bg i))) H) (tCons (tVar 2) tNil)) (tVar 0))) (tVar 2) (tC V.non)))) { nx:=λx H'=>Q V.non H',rt:=Q } [some (.str x),some (.str y),none] H:=λy hy=>by
      have hyle:y.length<=700000:=by
        rw[<- zb1,hy];unfold figOf;split
        . rw[CW];lia
        . lia
      refine⟨_,rfl,y,rfl,hyle,λH1 s1=>⟨_,rfl,?_⟩⟩
      have hno:zd0 (cl x)=false->∀H',Same H H'->Q .non H':=λz H' s=>by have:=k H' s;unfold numIn at this;rw[z,if_neg (by decide)]at this;exact this
      unfold zd0 at hno
      by_cases hf:figB (cl y)=true
      rotate_left
      . have hf:=Cm.mpr hf;rw[hf];refine iteT (iteT ?_);refine hno ?_ H1 s1;rw[hy]at hf;unfold figB at hf;rw[<- Bool.and_assoc,hf];rfl
      rw[hf];refine iteF ?_
      refine⟨_,rfl,y,rfl,zdw (by lia),_,_,rfl,rfl,_,rfl,?_⟩;have hf2:=hf;rw[hy]at hf2;unfold figB at hf2;rw[Bo]at hf2;obtain⟨hf3,hf4⟩:=hf2;have hlen:y.length=(figOf (cl x)).length:=by rw[<- zb1,hy]
      by_cases h30:(figOf (cl x)).length<=30
      rotate_left
      . refine iteY (decide_eq_true (by lia)) ?_
        refine hno ?_ H1 s1;rw[decide_eq_false h30,Bool.false_and,Bool.and_false,Bool.and_false]
      refine iteN (decide_eq_false (by lia)) ?_
      have h0:figOf (cl x)≠[]:=by simpa using hf3
      have hd:=zgu.mp hf4;obtain⟨hi,hx640⟩:=zhh h0 hd h30;refine⟨_,rfl,x,_,rfl,hi,hx640,?_⟩
      have hv:(zbL (cl x)).natAbs<10 ^ 30:=by
        unfold figOf at h0 hd h30;unfold zbL
        by_cases hh:(cl x).head?=some 45
        . rw[if_pos hh]at hd h30 ⊢;have:=zjP _ _ rfl hd;have:=Nat.pow_le_pow_right (n:=10) (by decide) h30;lia
        . rw[if_neg hh]at hd h30 ⊢;have:=zjP _ _ rfl hd;have:=Nat.pow_le_pow_right (n:=10) (by decide) h30;lia
      have hlog:(zbL (cl x)).natAbs.log2<1920:=by
        by_cases hz:(zbL (cl x)).natAbs=0
        . rw[hz];decide
        . exact (Nat.log2_lt hz).mpr (AJ hv (by decide +kernel))
      refine⟨_,rfl,_,rfl,hlog,_,rfl,rfl,_,rfl,?_⟩;have hw:=zjL h0 hd
      have hdec:decide (V.str (Aa (Bg (zbL (cl x))))=V.str x)=(decide (cl x=[48]) ||decide ((figOf (cl x)).head?≠some 48)):=by rw[<- Bool.decide_or];exact decide_eq_decide.mpr ⟨λz=>hw.mp (by injection z),λz=>congrArg V.str (hw.mpr z)⟩
      have kk:=k H1 s1;unfold numIn zd0 at kk;rw[hf3,hf4,decide_eq_true h30,<- hdec]at kk;simp only[Bool.true_and]at kk
      by_cases hh:decide (V.str (Aa (Bg (zbL (cl x))))=V.str x)=true
      . rw[if_pos hh]at kk;refine iteY hh ?_
        exact⟨_,rfl,kk⟩
      . rw[if_neg hh]at kk;refine iteN (Cm.mpr hh) ?_
        exact kk
    refine⟨_,rfl,rfl,x,_,rfl,rfl,_,rfl,?_⟩
    by_cases hs:DU x (Aa "-")=true
    . refine iteY hs ?_
      refine⟨_,rfl,1,rfl,x,rfl,zdw (by lia),?_⟩;refine tail _ ?_
      rw[e45]at hs;unfold figOf;rw[if_pos ((zc3 x 45).mp hs),zke]
    . refine iteN (Cm.mpr hs) ?_
      refine⟨_,rfl,?_⟩;refine tail _ ?_
      rw[e45]at hs;unfold figOf;rw[if_neg (λz=>hs ((zc3 x 45).mpr z))]
theorem zd4{s:Int}(h0:0<=s)(h1:s<8):cl (tS s)=[48+s.toNat]:=by
 have:∀k:Nat,k<8->cl (tS (k:Int))=[48+k]:=by decide +kernel
 have:=this s.toNat (by lia);rw[show ((s.toNat:Nat):Int)=s by lia]at this;exact this
theorem cl_x:cl (Aa "x")=[120]:=by decide +kernel
theorem zhq{p:Run}(h0:0<=p.1)(h1:p.1<8):cl (prt p)=[48+p.1.toNat]++(if 1<(p.2:Int) then 120::cl (tS (p.2:Int)) else []):=by
 unfold prt;split
 .rw[zcm,zcm,zcm,zd4 h0 h1,show cl (Aa "x")=[120] from cl_x];show ([]++[_])++[120]++_=_;simp
 .rw[zd4 h0 h1];simp
theorem zh0{s:Int}(h:s.natAbs<1000):intText? (tS s)=some s/\(tS s).length<=640:=by have h30:s.natAbs<10 ^ 30:=DX h (by decide);obtain⟨h2,h3⟩:=zeh h30;unfold zd0 at h2;simp only[Bo,Bool.not_eq_true']at h2;obtain⟨k1,k2,k3,_⟩:=h2;have:=zhh (x:=tS s) (λz=>by rw[z]at k1;exact absurd k1 (by decide)) (zgu.mp k2) (of_decide_eq_true k3);rw[h3]at this;exact this
theorem znx(m:Nat):figB (cl (tS (m:Int)))=true:=by
 obtain⟨ds,h1,h2,_,_,h5⟩:=digs m;unfold figB;rw[show cl (tS (m:Int))=ds from h5,zgu.mpr h1,Bool.and_true]
 cases ds with
 |nil=>exact absurd rfl h2
 |cons _ _=>rfl
noncomputable def zit:Sp:=λvs H Q _=>∃x:Str,vs=[.str x]/\(x = "rim" ∨ x = "hole")/\∀H',Same H H'->Q (.str x) H'
theorem zjr (T:Txt P w K mg) (d:Df K mg "sort_in" zeA ["word"]):FnOk P w K mg base CX0 1 d.f d.fd ["word"] zit:=by
 refine d.F.ok zjk (λvs H Q E h=>?_) (λcdv A outer s H vs Q E hr h=>?_)
 .obtain⟨x,rfl,_⟩:=h;rfl
 .obtain⟨x,rfl,hx,k⟩:=h;refine⟨_,(zag (zak (zbT (zgR (zjn (by rfl) T.ways T.nsys (pv 0))) (pv 0) za5))),?_⟩
  have hb:(decide (x=Aa "rim") ||decide (x=Aa "hole"))=true:=by rcases hx with rfl |rfl <;> decide
  refine⟨_,rfl,x,rfl,_,rfl,iteY hb ?_⟩;exact⟨_,rfl,k H (Same.refl _)⟩
noncomputable def zj2:Sp:=λvs H Q _=>∃p:Run,vs=[.str (prt p)]/\0<=p.1/\p.1<8/\1<=p.2/\p.2<=240/\∀q H',H q=none->Same H H'->H' q=some (.tup [.int p.1,.int (p.2:Int)])->Q (.ref q) H'
theorem zkB (T:Txt P w K mg){tSF:Tok}(hSF:mg "STEP_FIGURES" = some (.str "01234567" tSF)) (g_are_figures:Fn P w K mg base 1 "are_figures" ["word"] zix) (d:Df K mg "run_in" zfT ["word"]):FnOk P w K mg base CX0 2 d.f d.fd ["word"] zj2:=by
 refine d.F.ok zdx (λvs H Q E h=>?_) (λcdv A outer s H vs Q E hr h=>?_)
 .obtain⟨x,rfl,_⟩:=h;rfl
 .obtain⟨p,rfl,h0,h1,h2,h3,k⟩:=h
  refine⟨_,(zac (zbm (pe_bm Bf PySem.F.slot_str_partition PySem.F.type_str_partition zg6 (pv 0) (pa_C zaC zab)) (zba (by rfl) (zaf (nG 1 zdx.nd) (zaf (nG 2 zdx.nd) (zaf (nG 3 zdx.nd) zat)))))
   (zac (ps_if (pw_or (zap op_ne (zan zaW (by rfl) T.nlen (by rfl) (pa_N (pv 1) zab)) zae (zaq _)) (zdz (zap zgW (pv 1) (zbA (v:=.str "01234567") (by rfl) hSF ⟨_,rfl⟩) rfl))).pt
   (zag (zak za5))
   zaB)
   (zac (ps_if (zck (zef (pv 2) (λ_=>rfl)))
   (zag (zak (zam (zah (zav zbJ (by rfl) T.nint (by rfl) (pa_N (pv 1) zab)) (pa_C zae zab)))))
   zaB)
   (zac (ps_if (pw_or (zck (zbK (pC g_are_figures hr (pa_N (pv 3) zab)))) (zdz (zap op_gt (zan zaW (by rfl) T.nlen (by rfl) (pa_N (pv 3) zab)) zae (zaq _)))).pt
   (zag (zak za5))
   zaB)
   (zag (zak (zam (zah (zav zbJ (by rfl) T.nint (by rfl) (pa_N (pv 1) zab)) (zah (zav zbJ (by rfl) T.nint (by rfl) (pa_N (pv 3) zab)) zab))))))))),?_⟩
  have ex:(Aa "x")=⟨#[120]⟩:=by decide +kernel
  have h120:120 ∉ [48+p.1.toNat]:=λz=>by rw[Ao]at z;lia
  have hpart:∃b:Bool,b=decide (1<(p.2:Int))/\(Cd (prt p) ⟨#[120]⟩).1=tS p.1/\(Cd (prt p) ⟨#[120]⟩).2.1=(if b=true then Aa "x" else Str.empty)/\(b=true->(Cd (prt p) ⟨#[120]⟩).2.2=tS (p.2:Int)):=by
   refine⟨_,rfl,?_⟩;have hc:=zhq h0 h1
   by_cases h:1<(p.2:Int)
   .rw[if_pos h]at hc;obtain⟨q1,q2,q3⟩:=znl hc h120;rw[decide_eq_true h];exact⟨zcl (q1.trans (zd4 h0 h1).symm),by rw[q2,if_pos rfl,ex],λ_=>zcl q3⟩
   .rw[if_neg h,Bk]at hc;have:=zkx (x:=prt p) (c:=120) (by rw[hc];exact h120);rw[this,decide_eq_false h];exact⟨zcl (hc.trans (zd4 h0 h1).symm),rfl,λz=>nomatch z⟩
  obtain⟨b,hb,p1,p2,p3⟩:=hpart;have hl:=zhZ (p:=p) ⟨by lia,h0,h1⟩;refine⟨_,rfl,rfl,prt p,_,rfl,rfl,rfl,zdw (by lia),λq hq=>?_⟩;rw[ex,p1,p2];refine⟨q,_,rfl,SqT.of zaa,rfl,_,_,rfl,_,_,rfl,_,_,rfl,rfl,?_⟩;have hl1:(tS p.1).length=1:=by rw[<- zb1,zd4 h0 h1];rfl
  generalize hg:upd H q _=H1;have s1:Same H H1:=hg ▸ Same.up hq;clear hg;obtain⟨hi,hi6⟩:=zh0 (s:=p.1) (by lia);refine⟨_,rfl,_,rfl,by rw[hl1];decide,rfl,_,rfl,iteN (by rw[hl1];rfl) ?_⟩;have h8:tS p.1=⟨#[48+p.1.toNat]⟩:=zcl (zd4 h0 h1)
  have hin:(!!(Ca (Aa "01234567") (tS p.1) 0 (Aa "01234567").length 1).isEmpty)=false:=by
   rw[h8,StrLaws.found_one];have:∀k:Nat,k<8->(!decide (48+k∈(Aa "01234567").cps.toList))=false:=by decide +kernel
   exact this _ (by lia)
  refine⟨_,rfl,_,_,rfl,rfl,_,rfl,iteN hin ?_⟩;have k':∀H2,Same H1 H2->∀u,H2 u=none->Q (.ref u) (upd H2 u (.tup [.int p.1,.int (p.2:Int)])):=λH2 s2 u hu=>k u _ ((s1.trans s2).free hu) (s1.trans (s2.trans (Same.up hu))) zaa
  cases b with
  |false =>
   have hp2:p.2=1:=by have:=of_decide_eq_false hb.symm;lia
   refine⟨_,rfl,false,⟨by decide,rfl⟩,iteT ?_⟩;refine⟨_,rfl,_,_,rfl,hi,hi6,two,λu hu=>?_⟩;have:=k' H1 (Same.refl _) u hu;rw[hp2]at this;exact this
  |true =>
   have hp2:1<(p.2:Int):=of_decide_eq_true hb.symm;refine⟨_,rfl,true,⟨by decide,rfl⟩,iteF ?_⟩;rw[p3 rfl];have hm:=zel (m:=p.2) (by lia);obtain⟨hj,hj6⟩:=zh0 (s:=(p.2:Int)) (by lia);refine⟨_,rfl,_,rfl,by lia,λH2 s2=>⟨_,rfl,?_⟩⟩;rw[znx];refine iteF ?_
   refine⟨_,rfl,_,rfl,zdw (by lia),_,_,rfl,rfl,_,rfl,iteN (decide_eq_false (by lia)) ?_⟩;refine⟨_,rfl,_,_,rfl,hi,hi6,_,rfl,_,_,rfl,hj,hj6,two,λu hu=>?_⟩;exact k' H2 s2 u hu
theorem zfY{p:Run}(h0:0<=p.1)(h1:p.1<8){c:Nat}(hc:c∈cl (prt p)):(48<=c/\c<=57)∨c=120:=by
 rw[zhq h0 h1]at hc;rcases Az.mp hc with hc |hc
 .rw[Ao]at hc;lia
 .split at hc
  .rcases AI.mp hc with hc |hc
   .exact .inr hc
   .obtain⟨ds,k1,_,_,_,k5⟩:=digs p.2;rw[show cl (tS (p.2:Int))=ds from k5]at hc;exact .inl (k1 c hc)
  .cases hc
noncomputable def zmq(K:W.Frag):Sp:=λvs H Q _=>∃(q:Addr) (us:List V) (rs:List Run),vs=[.ref q]/\H q=some (.lst us)/\VR us rs runR H/\(flatR rs).length<=500/\∀b H',Same H H'->H' b=some (.tup ((flatR rs).map V.int))->Q (.ref b) H'
theorem ze4 (T:Txt P w K mg) (d:Df K mg "row_of_runs" zbP ["runs"]):FnOk P w K mg base CX0 1 d.f d.fd ["runs"] (zmq K):=by
 refine d.F.ok ze0 (λvs H Q E h=>?_) (λcdv A outer s H vs Q E hr h=>?_)
 .obtain⟨q,us,rs,rfl,_⟩:=h;rfl
 .obtain⟨q,us,rs,rfl,hq,hv,hlen,k⟩:=h;have nb0:(["step","times","again"]:List Str).Nodup:=by decide +kernel
  refine⟨_,(zag (zak (zav zbU (by rfl) T.ntuple (by rfl) (zah (zku (osc:=zad zbP) (N:=zdI) (N':=["step","times","again"]) (sel:=[none,none,none]) bO (zaU (pv 0)) (λ_ _ _ _ _=>(zcx (K:=K) (n:=2) (by rfl) (zaf (nG 0 nb0) (zaf (nG 1 nb0) zat)))) (λ_ _ _ _ _=>za6) (λ_ _ _ _ _=>(zbX (by rfl) T.nrange (pa_N (pv 1) zab))) (λ_ _ _ _ _=>(nG 2 nb0)) (λ_ _ _ _ _=>za6) (λ_ _ _ _ _=>(pv 0)) (λ_ _ _=>rfl)) zab)))),?_⟩;refine⟨_,rfl,q,rfl,⟨_,SqL.of hq⟩,λp hp=>?_⟩
  refine zaH (K:=K) (a:=q) (xs:=us) (λi σ H2=>∃o1 o2 o3,σ=[o1,o2,o3]/\Same H H2/\H2 p=some (.lst ((flatR (rs.take i)).map V.int)))
   ⟨_,_,_,rfl,Same.up hp,zaa⟩ (λi σ H2 _ ⟨_,_,_,_,s2,_⟩=>SqL.of (s2 _ _ hq)) ?_ ?_
  .rintro i v σ H2 hi ⟨o1,o2,o3,rfl,s2,e2⟩;obtain⟨r,hri,b,rfl,qb⟩:=hv.at hi;have hf:=zdc hri
   have hfl:(flatR (rs.take i)).length+r.2<=500:=by have:=zk4 rs (i+1);rw[hf,Am,AR]at this;lia
   refine⟨b,_,rfl,SqT.of (s2 _ _ qb),rfl,_,_,rfl,_,_,rfl,rfl,?_⟩;refine zdt ?_
   refine⟨_,rfl,(r.2:Int),rfl,by lia,by lia,?_⟩
   refine zb0 (lo:=0) (n:=((r.2:Int)).toNat) (λj σ H3=>∃o,σ=[some (.int r.1),some (.int (r.2:Int)),o]/\Same H H3/\H3 p=some (.lst ((flatR (rs.take i)++Ac j r.1).map V.int)))
    ⟨_,rfl,s2,by simpa using e2⟩ ?_ ?_
   .rintro j σ H3 hj ⟨o,rfl,s3,e3⟩;refine gN ?_
    refine⟨_,rfl,_,e3,small1000 (by simp;lia),_,rfl,zaj hp s3,?_⟩;rw[zaa,CK,<- AB,Aq (l₁:=flatR (rs.take i)++Ac j r.1)];rfl
   .rintro σ H3 ⟨o,rfl,s3,e3⟩;refine⟨_,_,_,rfl,s3,?_⟩;rw[hf];rw[BV]at e3;exact e3
  .rintro σ H2 ⟨o1,o2,o3,rfl,s2,e2⟩;rw[hv.1,AL]at e2;exact⟨p,_,rfl,.inl ⟨SqL.of e2,λb hb=>k b _ (s2.trans (Same.up hb)) zaa⟩⟩
noncomputable def zoF(rs:List Run):Prop:=rs≠[]/\(∀p∈rs,0<=p.1/\p.1<8/\1<=p.2/\p.2<=240)/\rs.length<=500/\(flatR rs).length<=240
noncomputable def ziv (K:W.Frag):Sp:=λvs H Q _=>∃(rs:List Run),vs=[.str (Bu "." (rs.map prt))]/\zoF rs/\∀b H',Same H H'->H' b=some (.tup ((flatR rs).map V.int))->Q (.ref b) H'
theorem zjt (T:Txt P w K mg){tMT:Tok}(hMT:mg "MOST_STEPS" = some (.int 240 tMT)) (g_run_in:Fn P w K mg base 2 "run_in" ["word"] zj2) (g_row_of_runs:Fn P w K mg base 1 "row_of_runs" ["runs"] (zmq K)) (d:Df K mg "runs_in" zci ["word"]):FnOk P w K mg base CX0 3 d.f d.fd ["word"] (ziv K):=by
 refine d.F.ok zfr (λvs H Q E h=>?_) (λcdv A outer s H vs Q E hr h=>?_)
 .obtain⟨x,rfl,_⟩:=h;rfl
 .obtain⟨rs,rfl,⟨hne,hok,hl,hfl⟩,k⟩:=h;have hu64:=hr.units;have hu65:(A.deeper (PyProof.Rows.envOfC (Aa "runs_in") (zad zci) s.heap.objs.size d.f cdv)).units+65<cLine:=by have:=hr.un;lia
  have nb0:(["part"]:List Str).Nodup:=by decide +kernel
  have nb1:(["step","times"]:List Str).Nodup:=by decide +kernel
  refine⟨_,(zac (zfX (i:=1) (osc:=zad zci) (N:=zeY) (N':=["part"]) (sel:=[none]) bO zfr.nd (by rfl) (Or.inl rfl) (zaU (pe_bm Bf PySem.F.slot_str_split PySem.F.type_str_split zge (pv 0) (pa_C zaC zab))) (λ_ _ _ _ _=>(nG 0 nb0)) (λ_ _ _ _ _=>za6) (λ_ _ _ _ _=>(pC g_run_in hr (pa_N (pv 0) zab))))
   (zac (ps_if (pw_or (zap (zoe hu65) za5 (pv 1) rfl) (zdz (zap op_gt (zan (zlk rfl) (by rfl) T.nsum (by rfl) (zah (zaF (osc:=zad zci) (N:=zeY) (N':=["step","times"]) (sel:=[none,none]) bO (zaU (pv 1)) (λ_ _ _ _ _=>(zcx (K:=K) (n:=2) (by rfl) (zaf (nG 0 nb1) (zaf (nG 1 nb1) zat)))) (λ_ _ _ _ _=>za6) (λ_ _ _ _ _=>(pv 1))) zab)) (zbA (v:=.int 240) (by rfl) hMT ⟨_,rfl⟩) (zaq _)))).pt
   (zag (zak za5))
   zaB)
   (zag (zak (pC g_row_of_runs hr (pa_N (pv 1) zab)))))),?_⟩
  have ed:(Aa ".")=⟨#[46]⟩:=by decide +kernel
  have hsp:Cy (Bu (Aa ".") (rs.map prt)) (Aa ".")=rs.map prt:=by
   rw[show Bu (Aa ".") (rs.map prt)=Cc (Aa ".") (rs.map prt) from C7 _ _,ed];refine zcg (λz=>hne (D6.mp z)) λy hy z=>?_
   obtain⟨p,hp,rfl⟩:=AG.mp hy;have:=zfY (hok p hp).1 (hok p hp).2.1 z;lia
  have hjl:(Bu (Aa ".") (rs.map prt)).length<=3000:=by
   refine AV (zdD _ _) ?_
   have h1:=zik (ys:=rs.map prt) (B:=5) λy hy=>by obtain⟨p,hp,rfl⟩:=AG.mp hy;have:=hok p hp;exact zhZ ⟨by lia,by lia,by lia⟩
   have h2:(Aa ".").length=1:=by decide
   rw[Ag]at h1 ⊢;rw[h2];lia
  refine⟨_,rfl,rfl,_,_,rfl,rfl,rfl,zdw (by lia),λq hq=>⟨q,rfl,⟨_,SqL.of zaa⟩,λg hg=>?_⟩⟩;rw[hsp]at hg ⊢;have s1:=Same.up (o:=.lst ((rs.map prt).map V.str)) hq;have e1:upd H q (.lst ((rs.map prt).map V.str)) q=some (.lst ((rs.map prt).map V.str)):=zaa;generalize upd H q (.lst ((rs.map prt).map V.str))=H1 at s1 e1 hg
  refine zaH (K:=K) (a:=q) (xs:=(rs.map prt).map V.str) (λj σ H2=>∃o us,σ=[o]/\Same H1 H2/\H2 g=some (.lst us)/\VR us (rs.take j) runR H2)
   ⟨_,[],rfl,Same.up hg,zaa,VR.nil⟩ (λj σ H2 _ ⟨_,_,_,s2,_⟩=>SqL.of (s2 _ _ e1)) ?_ ?_
  .rintro j v σ H2 hj ⟨o,us,rfl,s2,e2,hv⟩;rw[Ay,Ay,Option.map_map]at hj;obtain⟨p,hp,rfl⟩:=Bb.mp hj;have hb:=hok p (An hp);have hul:us.length<=500:=by rw[hv.1,AA];lia
   refine gN ?_
   refine⟨_,rfl,p,rfl,hb.1,hb.2.1,hb.2.2.1,hb.2.2.2,λu H3 hu s3 e3=>?_⟩;have e23:=s3 _ _ e2;refine⟨_,e23,small1000 (by lia),_,us++[.ref u],rfl,zaj hg (s2.trans s3),zaa,?_⟩;rw[zay hp];have kt:KT H3 (upd H3 g (.lst (us++[.ref u]))):=KT.lst e23;exact hv.snoc (λx v h=>(h.kt (KT.of s3)).kt kt) ⟨u,rfl,kt _ _ e3⟩
  .rintro σ H2 ⟨o,us,rfl,s2,e2,hv⟩;rw[Ag,Ag,AL]at hv;have hul:us.length=rs.length:=hv.1;refine⟨_,rfl,g,us,.none,rs.map dRun,rfl,SqL.of e2,.non,ziF hv,rfl,λe he=>?_,_,rfl,iteN ?_ ?_⟩
   .obtain⟨p,_,rfl⟩:=AG.mp he;rfl
   .rw[List.any_eq_false];intro e he;obtain⟨p,_,rfl⟩:=AG.mp he;exact AX
   refine⟨_,rfl,g,rfl,⟨_,SqL.of e2⟩,λl hl2=>?_⟩
   refine zaH (K:=K) (a:=g) (xs:=us) (λj σ H3=>∃o1 o2,σ=[o1,o2]/\Same H2 H3/\H3 l=some (.lst (((rs.take j).map λp=>(p.2:Int)).map V.int)))
    ⟨_,_,rfl,Same.up hl2,zaa⟩ (λj σ H3 _ ⟨_,_,_,s3,_⟩=>SqL.of (s3 _ _ e2)) ?_ ?_
   .rintro j v σ H3 hj ⟨o1,o2,rfl,s3,e3⟩;obtain⟨p,hp,b,rfl,qb⟩:=hv.at hj;refine⟨b,_,rfl,SqT.of (s3 _ _ qb),rfl,_,_,rfl,_,_,rfl,rfl,?_⟩;refine zdt ?_
    refine⟨_,rfl,_,e3,small1000 (by rw[Ag,Ag,AA];lia),_,_,rfl,zaj hl2 s3,?_⟩;rw[zaa,zay hp,Aq,Aq];rfl
   .rintro σ H3 ⟨o1,o2,rfl,s3,e3⟩;rw[hul,AL]at e3
    have hsum:∀l:List Run,(l.map λp=>(p.2:Int)).sum=((flatR l).length:Int):=λl=>by
     induction l with
     |nil=>rfl
     |cons p r ih =>
      rw[Bj,CD,ih];show _=(((Ac p.2 p.1++flatR r).length:Nat):Int);rw[Am,AR];lia
    refine⟨l,rs.map λp=>(p.2:Int),rfl,SqL.of e3,λn hn=>?_,by rw[Ag];lia,_,_,rfl,rfl,_,rfl,iteN ?_ ?_⟩
    .obtain⟨p,hp,rfl⟩:=AG.mp hn;have:=hok p hp;lia
    .rw[hsum];exact decide_eq_false (by lia)
    refine⟨_,rfl,g,us,rs,rfl,s3 _ _ e2,hv.mono λx v h=>h.kt (KT.of s3),by lia,λb H4 s4 e4=>?_⟩;exact k b H4 (s1.trans (s2.trans (s3.trans s4))) e4
noncomputable def fg(s:Int):Nat:=48+s.toNat
theorem zoy (ys:List Str):cl (Bu (Aa "") ys)=(ys.map cl).flatten:=by
 rw[show Bu (Aa "") ys=Cc (Aa "") ys from C7 _ _]
 induction ys with
 |nil=>rfl
 |cons y r ih =>
  cases r with
  |nil=>show cl y=(cl y++[]);rw[Bk]
  |cons z r =>
   rw[show Cc (Aa "") (y::z::r)=y++Aa "" ++ Cc (Aa "") (z::r) from rfl,zcm,zcm,ih];show cl y++[]++_=_;rw[Bk];rfl
theorem zgs {ns:List Int}(h:∀n∈ns,0<=n/\n<8):cl (Bu (Aa "") (ns.map tS))=ns.map fg:=by
 rw[zoy]
 induction ns with
 |nil=>rfl
 |cons n r ih =>
  have hn:=h n (.head _);show cl (tS n)++_=fg n::_;rw[zd4 hn.1 hn.2,ih λm hm=>h m (.tail _ hm)];rfl
theorem znL{n:Int}(h:0<=n/\n<8):(⟨#[fg n]⟩:Str)=tS n:=zcl (zd4 h.1 h.2).symm
theorem fg_in {n:Int}(h:0<=n/\n<8):decide (fg n∈(Aa "01234567").cps.toList)=true:=by
 have:∀k:Nat,k<8->decide (48+k∈(Aa "01234567").cps.toList)=true:=by decide +kernel
 exact this _ (by lia)
noncomputable def zfI(K:W.Frag)(f:List Int->Str):Sp:=λvs H Q _=>∃(ns:List Int),vs=[.str (f ns)]/\Stp ns/\ns.length<=240/\∀b H',Same H H'->H' b=some (.tup (ns.map V.int))->Q (.ref b) H'
theorem zf7 (T:Txt P w K mg){tMT tSF:Tok}(hMT:mg "MOST_STEPS" = some (.int 240 tMT)) (hSF:mg "STEP_FIGURES" = some (.str "01234567" tSF)) (d:Df K mg "figures_in" zbH ["word"]):FnOk P w K mg base CX0 1 d.f d.fd ["word"] (zfI K figS):=by
 refine d.F.ok zfP (λvs H Q E h=>?_) (λcdv A outer s H vs Q E hr h=>?_)
 .obtain⟨x,rfl,_⟩:=h;rfl
 .obtain⟨ns,rfl,hst,hl,k⟩:=h;have nb0:(["sign"]:List Str).Nodup:=by decide +kernel
  have nb1:(["sign"]:List Str).Nodup:=by decide +kernel
  refine⟨_,(zac (ps_if (zap op_eq (pv 0) zaC (zaq _))
   (zag (zak (zam zab)))
   zaB)
   (zac (ps_if (pw_or (zap op_gt (zan zaW (by rfl) T.nlen (by rfl) (pa_N (pv 0) zab)) (zbA (v:=.int 240) (by rfl) hMT ⟨_,rfl⟩) (zaq _)) (zdz (zck (zbK (zan (zdG rfl) (by rfl) T.nall (by rfl) (zah (zaF (osc:=zad zbH) (N:=zc0) (N':=["sign"]) (sel:=[none]) bO (zkr (pv 0)) (λ_ _ _ _ _=>(nG 0 nb0)) (λ_ _ _ _ _=>za6) (λ_ _ _ _ _=>(zbc zgY (pv 0) (zbA (v:=.str "01234567") (by rfl) hSF ⟨_,rfl⟩) rfl))) zab)))))).pt
   (zag (zak za5))
   zaB)
   (zag (zak (zav zbU (by rfl) T.ntuple (by rfl) (zah (zaF (osc:=zad zbH) (N:=zc0) (N':=["sign"]) (sel:=[none]) bO (zkr (pv 0)) (λ_ _ _ _ _=>(nG 0 nb1)) (λ_ _ _ _ _=>za6) (λ_ _ _ _ _=>(zav zbJ (by rfl) T.nint (by rfl) (pa_N (pv 0) zab)))) zab)))))),?_⟩
  have hlf:=zen hst
  by_cases hn:ns=[]
  .subst hn;refine⟨_,rfl,rfl,_,rfl,iteY (decide_eq_true rfl) ?_⟩;exact⟨AT _,λb hb=>k b _ (Same.up hb) zaa⟩
  have hf:figS ns=Bu (Aa "") (ns.map tS):=by unfold figS;rw[if_neg hn]
  rw[hf]at hlf ⊢;have hcl:=zgs hst.2;have hlen:(Bu (Aa "") (ns.map tS)).length=ns.length:=by rw[<- zb1,hcl,Ag]
  have hne:decide (V.str (Bu (Aa "") (ns.map tS))=V.str (Aa "-"))=false:=by
   refine decide_eq_false λz=>?_
   injection z with z;obtain⟨n,r,rfl⟩:∃n r,ns=n::r:=by cases ns with |nil=>exact absurd rfl hn |cons n r=>exact⟨n,r,rfl⟩
   rw[z]at hcl;have:(cl (Aa "-"))=[45]:=by decide +kernel
   rw[this]at hcl;injection hcl with h1 _;unfold fg at h1;lia
  generalize Bu (Aa "") (ns.map tS)=x at *;refine⟨_,rfl,rfl,_,rfl,iteN hne ?_⟩;refine⟨_,rfl,x,rfl,zdw (by lia),_,_,rfl,rfl,_,rfl,iteN (decide_eq_false (by lia)) ?_⟩
  have sign:∀(j c:Nat),x.cps[j]?=some c->∃n,ns[j]?=some n/\c=fg n/\0<=n/\n<8:=λj c hc=>by
   have hc:(cl x)[j]?=some c:=by rw[<- hc];simp
   rw[hcl,Ay]at hc;obtain⟨n,hn,rfl⟩:=Bb.mp hc;exact⟨n,hn,rfl,hst.2 n (An hn)⟩
  have hsz:x.cps.size=ns.length:=hlen;refine⟨_,rfl,x,rfl,λq hq=>?_⟩;refine zh1 (λj σ H9=>∃o,σ=[o]/\Same H H9/\H9 q=some (.lst ((Ac j true).map V.bl))) ⟨_,rfl,Same.up hq,zaa⟩ ?_ ?_
  .rintro j c σ H9 hc ⟨o,rfl,s9,e9⟩;obtain⟨n,hn',rfl,h0⟩:=sign j c hc;have hj:=(Ae.mp hn').1;refine gN ?_
   refine⟨_,rfl,_,_,rfl,rfl,?_⟩;rw[StrLaws.found_one,fg_in h0];refine⟨_,e9,small1000 (by rw[Ag,AR];lia),_,rfl,zaj hq s9,?_⟩;rw[zaa,CK,Aq];rfl
  .rintro σ H9 ⟨o,rfl,s9,e9⟩;refine⟨q,_,rfl,SqL.of e9,_,rfl,?_⟩;have:((Ac x.cps.size true).all id)=true:=by rw[List.all_eq_true];intro b hb;exact (Ex.mp hb).2
   rw[this];refine iteF ?_
   refine⟨_,rfl,x,rfl,λg hg=>?_⟩;refine zh1 (λj σ H2=>∃o,σ=[o]/\Same H9 H2/\H2 g=some (.lst ((ns.take j).map V.int))) ⟨_,rfl,Same.up hg,zaa⟩ ?_ ?_
   .rintro j c σ H2 hc ⟨o,rfl,s2,e2⟩;obtain⟨n,hn',rfl,h0⟩:=sign j c hc;obtain⟨hi,hi6⟩:=zh0 (s:=n) (by lia);refine gN ?_
    refine⟨_,rfl,tS n,n,by rw[znL h0],hi,hi6,_,e2,small1000 (by rw[Ag,AA];lia),_,rfl,zaj hg s2,?_⟩;rw[zaa,zay hn',Aq];rfl
   .rintro σ H2 ⟨o,rfl,s2,e2⟩;rw[hsz,AL]at e2;exact⟨g,_,rfl,.inl ⟨SqL.of e2,λb hb=>k b _ (s9.trans (s2.trans (Same.up hb))) zaa⟩⟩
theorem zkC (T:Txt P w K mg) (g_runs_in:Fn P w K mg base 3 "runs_in" ["word"] (ziv K)) (g_figures_in:Fn P w K mg base 1 "figures_in" ["word"] (zfI K figS)) (g_show_row:Fn P w K mg base 3 "show_row" ["row"] (spFig K rowS)) (d:Df K mg "row_in" zfU ["word"]):FnOk P w K mg base CX0 4 d.f d.fd ["word"] (zfI K rowS):=by
 refine d.F.ok zgN (λvs H Q E h=>?_) (λcdv A outer s H vs Q E hr h=>?_)
 .obtain⟨x,rfl,_⟩:=h;rfl
 .obtain⟨ns,rfl,hst,hl,k⟩:=h;have hu64:=hr.units
  refine⟨_,(zac (sE 1 zgN.nd (zbT (zbK (pe_bm Bf PySem.F.slot_str_startswith PySem.F.type_str_startswith zdA (pv 0) (pa_C zaC zab))) (pC g_runs_in hr (zah (zbS zmu (pv 0) (zca zae) zcU) zab)) (pC g_figures_in hr (pa_N (pv 0) zab))))
   (zag (zak (zbT (ziG (zap zdT (pv 1) za5 (zaq _)) (zfV (zap op_eq (pC g_show_row hr (pa_N (pv 1) zab)) (pv 0) (zaq _)))).pt (pv 1) za5)))),?_⟩
  have e42:Aa "*" = ⟨#[42]⟩:=by decide +kernel
  have hlr:=zdB hst;have hlf:=zen hst;have hrow:rowS ns=if (runS ns).length<(figS ns).length then runS ns else figS ns:=rfl
  have hrl:(rowS ns).length<=3001:=zej hst;have hrun:runS ns=Aa "*" ++ Bu (Aa ".") ((runsL ns).map prt):=rfl;refine⟨_,rfl,rfl,_,_,rfl,rfl,_,rfl,?_⟩
  by_cases hc:(runS ns).length<(figS ns).length
  .rw[if_pos hc]at hrow
   have hs:DU (rowS ns) (Aa "*")=true:=by rw[e42,zc3,hrow,hrun,zcm];rfl
   refine iteY hs ?_
   refine⟨_,rfl,1,rfl,_,rfl,zdw (by lia),?_⟩;have hsl:Txt.slice (rowS ns) (some 1) none=Bu (Aa ".") ((runsL ns).map prt):=zcl (by rw[zke,hrow,hrun,zcm];rfl);rw[hsl]
   have hne:ns≠[]:=λz=>by subst z;exact absurd hc (by decide +kernel)
   have g:=zbd ns;refine⟨runsL ns,rfl,⟨λz=>hne (by rw[<- g.flat,z];rfl),λp hp=>?_,?_,by rw[g.flat];exact hl⟩,λb H1 s1 e1=>?_⟩
   .have:=zcv hst g hp;have:=zmv hp;rw[g.flat]at this;lia
   .have:=(zdC hst).2;rw[Ag]at this;exact this
   .rw[g.flat]at e1;refine⟨_,rfl,rfl,_,rfl,iteY (by simp) ?_⟩;refine⟨_,rfl,b,ns,rfl,SqT.of e1,hst,λH2 s2=>⟨_,rfl,rfl,_,rfl,iteY (decide_eq_true rfl) ?_⟩⟩;exact⟨_,rfl,k b H2 (s1.trans s2) (s2 _ _ e1)⟩
  .rw[if_neg hc]at hrow
   have hs:DU (rowS ns) (Aa "*")=false:=by
    refine Cm.mpr λz=>?_
    rw[e42,zc3,hrow]at z
    by_cases hn:ns=[]
    .subst hn;exact absurd z (by decide +kernel)
    .have hf:figS ns=Bu (Aa "") (ns.map tS):=by unfold figS;rw[if_neg hn]
     rw[hf,zgs hst.2]at z;obtain⟨n,r,rfl⟩:∃n r,ns=n::r:=by cases ns with |nil=>exact absurd rfl hn |cons n r=>exact⟨n,r,rfl⟩
     injection z with z;unfold fg at z;lia
   refine iteN hs ?_
   refine⟨_,rfl,ns,by rw[hrow];rfl,hst,hl,λb H1 s1 e1=>?_⟩;refine⟨_,rfl,rfl,_,rfl,iteY (by simp) ?_⟩;refine⟨_,rfl,b,ns,rfl,SqT.of e1,hst,λH2 s2=>⟨_,rfl,rfl,_,rfl,iteY (decide_eq_true rfl) ?_⟩⟩;exact⟨_,rfl,k b H2 (s1.trans s2) (s2 _ _ e1)⟩
noncomputable def RTx(r:Rnd):Prop:=ROk r/\r.x.natAbs<10 ^ 30/\r.y.natAbs<10 ^ 30/\r.row.length<=240
noncomputable def wds(r:Rnd):List Str:=[r.so,tS r.x,tS r.y,rowS (rowI r.row)]
theorem ziE (r:Rnd):rndS r=Cc (Aa " ") (wds r):=by
 show Str.empty++r.so++_++_++_++_++_++_=r.so++_++(_++_++(_++_++_));refine zcl ?_
 simp only[zcm,AB];rfl
theorem zkl{ns:List Int}(h:Stp ns){c:Nat}(hc:c∈cl (rowS ns)):33<=c:=by
 unfold rowS at hc;split at hc
 .have e:runS ns=Aa "*" ++ Bu (Aa ".") ((runsL ns).map prt):=rfl;rw[e,zcm]at hc;rcases Az.mp hc with hc |hc
  .have:cl (Aa "*")=[42]:=by decide +kernel
   rw[this,Ao]at hc;lia
  .rw[show Bu (Aa ".") ((runsL ns).map prt)=Cc (Aa ".") ((runsL ns).map prt) from C7 _ _]at hc;rcases (DK _ _ _).mp hc with⟨t,ht,hc⟩ |⟨_,hc⟩
   .obtain⟨p,hp,rfl⟩:=AG.mp ht;have:=zcv h (zbd ns) hp;have:=zfY (by lia) (by lia) hc;lia
   .have e46:(Aa ".").cps.toList=[46]:=by decide +kernel
    rw[e46,Ao]at hc;lia
 .unfold figS at hc;split at hc
  .have:cl (Aa "-")=[45]:=by decide +kernel
   rw[show cl _=cl (Aa "-") from rfl,this,Ao]at hc;lia
  .rw[show cl _=cl (Bu (Aa "") (ns.map tS)) from rfl,zgs h.2]at hc;obtain⟨n,_,rfl⟩:=AG.mp hc;unfold fg;lia
theorem zfi{r:Rnd}(h:ROk r){y:Str}(hy:y∈wds r){c:Nat}(hc:c∈cl y):33<=c:=by
 simp only[wds,AI,Cw,or_false]at hy;rcases hy with rfl |rfl |rfl |rfl
 .have a:∀c∈cl (Aa "rim"),33<=c:=by decide +kernel
  have b:∀c∈cl (Aa "hole"),33<=c:=by decide +kernel
  rcases h.1 with q |q
  .rw[q]at hc;exact a c hc
  .rw[q]at hc;exact b c hc
 .have:=zg5 hc;lia
 .have:=zg5 hc;lia
 .exact zkl h.2.2.2 hc
theorem zeE {r:Rnd}(h:ROk r):Cy (rndS r) (Aa " ")=wds r:=by
 have e:Aa " " = ⟨#[32]⟩:=by decide +kernel
 rw[ziE,e];exact zcg (λz=>nomatch z) λy hy hc=>by have:=zfi h hy hc;lia
theorem zlG{r:Rnd}(h:ROk r){c:Nat}(hc:c∈cl (rndS r)):32<=c:=by
 rw[ziE]at hc;rcases (DK _ _ _).mp hc with⟨t,ht,hc⟩ |⟨_,hc⟩
 .have:=zfi h ht hc;lia
 .have e32:(Aa " ").cps.toList=[32]:=by decide +kernel
  rw[e32,Ao]at hc;lia
theorem zmF{x:Int}(h:x.natAbs<10 ^ 30):numIn (tS x)=some x:=by obtain⟨h1,h2⟩:=zeh h;unfold numIn;rw[if_pos h1,h2]
noncomputable def zgJ (K:W.Frag):Sp:=λvs H Q _=>∃(r:Rnd) (at_:Nat) (p:Addr),vs=[.str (rndS r),.int (at_:Int),.ref p]/\RTx r/\SqT K H p [.str "sort",.str "number",.str "number",.str "row"] /\
 ∀t H',Same H H'->rR r (.ref t) H'->Q (.ref t) H'
theorem ze2 (T:Txt P w K mg) (g_sort_in:Fn P w K mg base 1 "sort_in" ["word"] zit) (g_number_in:Fn P w K mg base 2 "number_in" ["word"] zj5) (g_row_in:Fn P w K mg base 4 "row_in" ["word"] (zfI K rowS)) (hRD:Rds3 P w K mg g_sort_in.f g_number_in.f g_row_in.f) (d:Df K mg "things_read" zcp ["text","at","forms"]):FnOk P w K mg base CX0 5 d.f d.fd ["text","at","forms"] (zgJ K):=by
 refine d.F.ok za0 (λvs H Q E h=>?_) (λcdv A outer s H vs Q E hr h=>?_)
 .obtain⟨r,n,p,rfl,_⟩:=h;rfl
 .obtain⟨r,at_,p,rfl,hr2,hp,k⟩:=h
  refine⟨_,(zac (sE 3 za0.nd (pe_bm Bf PySem.F.slot_str_split PySem.F.type_str_split zge (pv 0) (pa_C zaC zab)))
   (zac (sE 4 za0.nd (zaV zab))
   (zac (zb6 Bs rfl (zbX (by rfl) T.nrange (zah (zan (zlo rfl) (by rfl) T.nmin (by rfl) (zah (zan zaw (by rfl) T.nlen (by rfl) (pa_N (pv 3) zab)) (zah (zan zaw (by rfl) T.nlen (by rfl) (pa_N (pv 2) zab)) zab))) zab)) (nG 5 za0.nd)
   (zac (sE 6 za0.nd (znh (by rfl) hRD (pe_ix zbn (pv 2) (pv 5) (λ_ _=>rfl))))
   (zac (sE 7 za0.nd (zkv g_sort_in g_number_in g_row_in hr (pv 6) (zah (pe_ix za7 (pv 3) (pv 5) (λ_ _=>rfl)) zab)))
   (zac (ps_if (zap ziK (pv 7) za5 (zaq _))
   (zag zeg)
   zaB)
   (zag (zaY (pe_bm AO A4 A5 zaM (pv 4) (pa_N (pv 7) zab))))))))
   (zac (ps_if (zap op_ne (zan zaw (by rfl) T.nlen (by rfl) (pa_N (pv 3) zab)) (zan zaw (by rfl) T.nlen (by rfl) (pa_N (pv 2) zab)) (zaq _))
   (zag zeg)
   zaB)
   (zag (zak (zav zbU (by rfl) T.ntuple (by rfl) (pa_N (pv 4) zab)))))))),?_⟩
  have hw:=zeE hr2.1;have hln:=ziS hr2.1;refine⟨_,rfl,rfl,rndS r,_,rfl,rfl,rfl,zdw (by lia),λpw hpw=>?_⟩;rw[show Cy (rndS r) (Aa " ")=wds r from hw];have s1:=Same.up (o:=.lst ((wds r).map V.str)) hpw;have e1:upd H pw (.lst ((wds r).map V.str)) pw=some (.lst ((wds r).map V.str)):=zaa;show tSeq _ _ _ _ (upd H pw (.lst ((wds r).map V.str)));generalize upd H pw (.lst ((wds r).map V.str))=H1 at s1 e1;refine⟨AT _,λq hq=>?_⟩;have s2:=Same.up (o:=.lst []) hq;have e2:upd H1 q (.lst []) q=some (.lst []):=zaa;generalize upd H1 q (.lst [])=H2 at s2 e2;have hp4:∀H',Same H H'->SqT K H' p [.str "sort",.str "number",.str "number",.str "row"]:=λH' s=>s.seqT hp
  refine⟨_,rfl,pw,_,rfl,.inl (SqL.of (s2 _ _ e1)),_,rfl,p,_,rfl,.inr (hp4 _ (s1.trans s2)),_,_,rfl,4,rfl,by decide,by decide,?_⟩
  refine zb0 (lo:=0) (n:=4) (λi σ H3=>∃o5 o6 o7 us,σ=[some (.str (rndS r)),some (.int at_),some (.ref p),some (.ref pw),some (.ref q),o5,o6,o7]/\Same H1 H3/\H3 q=some (.lst us)/\us.length=i/\(1<=i->us[0]?=some (.str r.so))/\(2<=i->us[1]?=some (.int r.x))/\(3<=i->us[2]?=some (.int r.y))/\(4<=i->∃b,us[3]?=some (.ref b)/\H3 b=some (.tup (rowV r.row))))
   ⟨_,_,_,[],rfl,s2,e2,rfl,λh=>absurd h (by decide),λh=>absurd h (by decide),λh=>absurd h (by decide),λh=>absurd h (by decide)⟩ ?_ ?_
  .rintro i σ H3 hi ⟨o5,o6,o7,us,rfl,s3,e3,hul,u0,u1,u2,u3⟩;simp only[zaG,AY,AZ];have hp3:=hp4 H3 (s1.trans s3);have pw3:=s3 _ _ e1;rw[Dy]
   match i,hi,hul,u0,u1,u2,u3 with
   | 0,_,hul,u0,u1,u2,u3 =>
    refine⟨_,rfl,_,rfl,p,_,0,_,rfl,rfl,hp3,rfl,.inr (.inl ⟨rfl,?_⟩)⟩;refine⟨_,rfl,.inl ⟨rfl,?_⟩⟩;refine⟨_,rfl,_,rfl,pw,_,0,_,rfl,rfl,SqL.of pw3,rfl,?_⟩;refine⟨r.so,rfl,hr2.1.1,λH4 s4=>?_⟩;have e4:=s4 _ _ e3;refine⟨_,rfl,rfl,_,rfl,iteN (decide_eq_false λz=>nomatch z) ?_⟩;refine⟨_,rfl,.inl ⟨rfl,_,SqL.of e4⟩,_,rfl,q,_,_,rfl,rfl,e4,small1000 (by lia),?_⟩;refine⟨_,_,_,us++[.str r.so],rfl,zaj hq (s3.trans s4),zaa,by rw[Am,hul];rfl,λ_=>?_,λh=>absurd h (by decide),λh=>absurd h (by decide),λh=>absurd h (by decide)⟩;rw[Ar (by lia),hul];rfl
   | 1,_,hul,u0,u1,u2,u3 =>
    refine⟨_,rfl,_,rfl,p,_,1,_,rfl,rfl,hp3,rfl,.inl ⟨rfl,?_⟩⟩;refine⟨_,rfl,.inr (.inl ⟨rfl,?_⟩)⟩;refine⟨_,rfl,_,rfl,pw,_,1,_,rfl,rfl,SqL.of pw3,rfl,?_⟩;refine⟨tS r.x,rfl,by have:=zd2 hr2.1.2.1;lia,λH4 s4=>?_⟩;rw[zmF hr2.2.1];show tSeq _ _ _ _ _;have e4:=s4 _ _ e3;refine⟨_,rfl,rfl,_,rfl,iteN (decide_eq_false λz=>nomatch z) ?_⟩;refine⟨_,rfl,.inl ⟨rfl,_,SqL.of e4⟩,_,rfl,q,_,_,rfl,rfl,e4,small1000 (by lia),?_⟩;refine⟨_,_,_,us++[.int r.x],rfl,zaj hq (s3.trans s4),zaa,by rw[Am,hul];rfl,λ_=>?_,λ_=>?_,λh=>absurd h (by decide),λh=>absurd h (by decide)⟩
    .rw[Aj (by lia)];exact u0 (by decide)
    .rw[Ar (by lia),hul];rfl
   | 2,_,hul,u0,u1,u2,u3 =>
    refine⟨_,rfl,_,rfl,p,_,2,_,rfl,rfl,hp3,rfl,.inl ⟨rfl,?_⟩⟩;refine⟨_,rfl,.inr (.inl ⟨rfl,?_⟩)⟩;refine⟨_,rfl,_,rfl,pw,_,2,_,rfl,rfl,SqL.of pw3,rfl,?_⟩;refine⟨tS r.y,rfl,by have:=zd2 hr2.1.2.2.1;lia,λH4 s4=>?_⟩;rw[zmF hr2.2.2.1];show tSeq _ _ _ _ _;have e4:=s4 _ _ e3;refine⟨_,rfl,rfl,_,rfl,iteN (decide_eq_false λz=>nomatch z) ?_⟩;refine⟨_,rfl,.inl ⟨rfl,_,SqL.of e4⟩,_,rfl,q,_,_,rfl,rfl,e4,small1000 (by lia),?_⟩;refine⟨_,_,_,us++[.int r.y],rfl,zaj hq (s3.trans s4),zaa,by rw[Am,hul];rfl,λ_=>?_,λ_=>?_,λ_=>?_,λh=>absurd h (by decide)⟩
    .rw[Aj (by lia)];exact u0 (by decide)
    .rw[Aj (by lia)];exact u1 (by decide)
    .rw[Ar (by lia),hul];rfl
   | 3,_,hul,u0,u1,u2,u3 =>
    refine⟨_,rfl,_,rfl,p,_,3,_,rfl,rfl,hp3,rfl,.inr (.inr ⟨rfl,?_⟩)⟩;refine⟨_,rfl,.inr (.inr ⟨rfl,?_⟩)⟩;refine⟨_,rfl,_,rfl,pw,_,3,_,rfl,rfl,SqL.of pw3,rfl,?_⟩;refine⟨rowI r.row,rfl,hr2.1.2.2.2,by unfold rowI;rw[Ag];exact hr2.2.2.2,λb H4 s4 eb=>?_⟩;have e4:=s4 _ _ e3;refine⟨_,rfl,rfl,_,rfl,iteN (decide_eq_false λz=>nomatch z) ?_⟩;refine⟨_,rfl,.inl ⟨rfl,_,SqL.of e4⟩,_,rfl,q,_,_,rfl,rfl,e4,small1000 (by lia),?_⟩;refine⟨_,_,_,us++[.ref b],rfl,zaj hq (s3.trans s4),zaa,by rw[Am,hul];rfl,λ_=>?_,λ_=>?_,λ_=>?_,λ_=>⟨b,?_,?_⟩⟩
    .rw[Aj (by lia)];exact u0 (by decide)
    .rw[Aj (by lia)];exact u1 (by decide)
    .rw[Aj (by lia)];exact u2 (by decide)
    .rw[Ar (by lia),hul];rfl
    .rw[ziC];exact (KT.lst e4:KT H4 _) _ _ eb
   |i+4,hi,_,_,_,_,_=>exact absurd hi (by lia)
  .rintro σ H3 ⟨o5,o6,o7,us,rfl,s3,e3,hul,u0,u1,u2,u3⟩;refine⟨_,rfl,pw,_,rfl,.inl (SqL.of (s3 _ _ e1)),_,rfl,p,_,rfl,.inr (hp4 _ (s1.trans s3)),rfl,_,rfl,iteN rfl ?_⟩;obtain⟨b,u3,eb⟩:=u3 (by decide)
   have hus:us=[.str r.so,.int r.x,.int r.y,.ref b]:=by
    match us,hul,u0 (by decide),u1 (by decide),u2 (by decide),u3 with
    |[_,_,_,_],_,h0,h1,h2,h3=>cases h0;cases h1;cases h2;cases h3;rfl
   subst hus;refine⟨_,rfl,q,_,rfl,.inl ⟨SqL.of e3,λt ht=>?_⟩⟩;have s5:=Same.up (o:=.tup [.str r.so,.int r.x,.int r.y,.ref b]) ht;exact k t _ (s1.trans (s3.trans s5)) ⟨t,b,rfl,zaa,s5 _ _ eb⟩
noncomputable def GoodR(r:Rnd):Prop:=∃(C:Cell->Bool) (es:List Edge),Can C es r/\es.length<=500
noncomputable def txtR (R:List Rnd):Str:=Bu (Aa "\n") (R.map rndS)
theorem zjQ(R:List Rnd):txtR R=Cc ⟨#[10]⟩ (R.map rndS):=by
 have e:Aa "\n" = ⟨#[10]⟩:=by decide +kernel
 unfold txtR;rw[e];exact C7 _ _
theorem zes {R:List Rnd}(h0:R≠[]) (h:∀r∈R,ROk r):Cy (txtR R) (Aa "\n")=R.map rndS:=by
 have e:Aa "\n" = ⟨#[10]⟩:=by decide +kernel
 rw[zjQ,e];refine zcg (λz=>h0 (D6.mp z)) λy hy z=>?_
 obtain⟨r,hr,rfl⟩:=AG.mp hy;have:=zlG (h r hr) z;lia
theorem zmT{R:List Rnd}(h:∀r∈R,ROk r)(hl:R.length<=130):(txtR R).length<=403130:=by
 unfold txtR;refine AV (zdD _ _) ?_
 have h1:=zek h;have h2:(Aa "\n").length=1:=by decide
 rw[Ag,h2];lia
theorem zna(r:Rnd):0<(rndS r).length:=by
 have e:rndS r=(Str.empty++r.so++Aa " " ++ tS r.x++Aa " " ++ tS r.y++Aa " ")++rowS (rowI r.row):=rfl;have h1:(Aa " ").length=1:=by decide
 rw[e,zau,zau,h1];lia
theorem zhG {R:List Rnd}(h0:R≠[]):txtR R≠Aa "":=λz=>by
 obtain⟨r,hr⟩:=List.exists_mem_of_ne_nil R h0;have hp:=zna r;rw[<- zb1]at hp;obtain⟨c,hc⟩:=List.exists_mem_of_length_pos hp;have h:=(DK ⟨#[10]⟩ c (R.map rndS)).mpr (.inl ⟨rndS r,List.mem_map_of_mem hr,hc⟩);rw[<- zjQ,z]at h
 cases h
noncomputable def zmt:Sp:=λvs H Q _=>∃(v:V) (r:Rnd),vs=[v]/\rR r v H/\GoodR r/\∀H',Same H H'->Q (.bl true) H'
theorem zg4 (g_walk_of:Fn P w K mg base 5 "walk_of" ["one"] (ziq K)) (d:Df K mg "ask_round" zdj ["one"]):FnOk P w K mg base CX0 6 d.f d.fd ["one"] zmt:=by
 refine d.F.ok zgP (λvs H Q E h=>?_) (λcdv A outer s H vs Q E hr h=>?_)
 .obtain⟨v,r,rfl,_⟩:=h;rfl
 .obtain⟨v,r,rfl,hx,⟨C,es,hcan,hel⟩,k⟩:=h
  refine⟨_,(zac (zaY (pC g_walk_of hr (pa_N (pv 0) zab)))
   (zag (zak pe_bl))),?_⟩
  exact⟨_,rfl,v,r,C,es,rfl,hx,hcan.cl,hcan.row,hcan.bg,hcan.so,by lia,λp H' ws _ s' _ _=>k H' s'⟩
noncomputable def zj3(K:W.Frag):Sp:=λvs H Q _=>∃(R:List Rnd),vs=[.str (txtR R)]/\R.length<=130/\(∀r∈R,RTx r/\GoodR r)/\∀p H' us,H p=none->Same H H'->H' p=some (.lst us)->VR us R rR H'->Q (.ref p) H'
theorem ze5 (T:Txt P w K mg){pRW:Addr}(hRW:mg "ROUND_WORDS" = some (.ref pRW)) (hrw:∀H,SqT K H pRW [.str "sort",.str "number",.str "number",.str "row"]) (g_things_read:Fn P w K mg base 5 "things_read" ["text","at","forms"] (zgJ K)) (g_ask_round:Fn P w K mg base 6 "ask_round" ["one"] zmt) (d:Df K mg "read_rounds" zbQ ["text"]):FnOk P w K mg base CX0 7 d.f d.fd ["text"] (zj3 K):=by
 refine d.F.ok zb7 (λvs H Q E h=>?_) (λcdv A outer s H vs Q E hr h=>?_)
 .obtain⟨R,rfl,_⟩:=h;rfl
 .obtain⟨R,rfl,hl,hR,k⟩:=h;have nb0:(["at","row"]:List Str).Nodup:=by decide +kernel
  refine⟨_,(zac (ps_if (zap op_eq (pv 0) zaC (zaq _))
   (zag (zak (zaV zab)))
   zaB)
   (zac (zfX (i:=1) (osc:=zad zbQ) (N:=zdJ) (N':=["at","row"]) (sel:=[none,none]) bO zb7.nd (by rfl) (Or.inl rfl) (zhO (by rfl) T.nenumerate (zah (pe_bm Bf PySem.F.slot_str_split PySem.F.type_str_split zge (pv 0) (pa_C zaC zab)) zab)) (λ_ _ _ _ _=>(zcx (K:=K) (n:=2) (by rfl) (zaf (nG 0 nb0) (zaf (nG 1 nb0) zat)))) (λ_ _ _ _ _=>za6) (λ_ _ _ _ _=>(pC g_things_read hr (pa_N (pv 1) (pa_N (pv 0) (pa_N (zbA (v:=.ref pRW) (by rfl) hRW rfl) zab))))))
   (zac (zb6 Bs rfl (zaU (pv 1)) (nG 2 zb7.nd)
   (zag (zaY (pC g_ask_round hr (pa_N (pv 2) zab)))))
   (zag (zak (pv 1)))))),?_⟩
  by_cases h0:R=[]
  .subst h0;refine⟨_,rfl,rfl,_,rfl,iteY (decide_eq_true rfl) ?_⟩;exact⟨AT _,λp hp=>k p _ [] hp (Same.up hp) zaa VR.nil⟩
  have hok:∀r∈R,ROk r:=λr hr=>(hR r hr).1.1
  have hne:decide (V.str (txtR R)=V.str (Aa ""))=false:=decide_eq_false λz=>by injection z with z;exact zhG h0 z
  have htl:=zmT hok hl;have hsp:=zes h0 hok;refine⟨_,rfl,rfl,_,rfl,iteN hne ?_⟩;refine⟨_,rfl,rfl,_,_,rfl,rfl,rfl,zdw (by lia),λpw hpw=>?_⟩;rw[hsp];have s1:=Same.up (o:=.lst ((R.map rndS).map V.str)) hpw;have e1:upd H pw (.lst ((R.map rndS).map V.str)) pw=some (.lst ((R.map rndS).map V.str)):=zaa;generalize upd H pw (.lst ((R.map rndS).map V.str))=H1 at s1 e1;refine⟨pw,rfl,⟨_,SqL.of e1⟩,λg hg=>?_⟩
  refine zgn (K:=K) (a:=pw) (xs:=(R.map rndS).map V.str) (λj σ H2=>∃o1 o2 us,σ=[o1,o2]/\Same H1 H2/\H2 g=some (.lst us)/\VR us (R.take j) rR H2)
   ⟨_,_,[],rfl,Same.up hg,zaa,VR.nil⟩ (λj σ H2 _ ⟨_,_,_,_,s2,_⟩=>SqL.of (s2 _ _ e1)) ?_ ?_
  .rintro j v σ H2 t hj ⟨o1,o2,us,rfl,s2,e2,hv⟩ ht;rw[Ay,Ay,Option.map_map]at hj;obtain⟨r,hp,rfl⟩:=Bb.mp hj;have hjl:=(Ae.mp hp).1;have hul:us.length<=130:=by rw[hv.1,AA];lia
   have s3:Same H2 (upd H2 t (.tup [.int (j:Int),.str (rndS r)])):=Same.up ht;have e3:upd H2 t (.tup [.int (j:Int),.str (rndS r)]) t=some (.tup [.int (j:Int),.str (rndS r)]):=zaa;generalize hH3:upd H2 t (.tup [.int (j:Int),.str (rndS r)])=H3 at s3 e3;have hH3':upd H2 t (.tup [.int (j:Int),(V.str ∘ rndS) r])=H3:=hH3;rw[hH3'];refine⟨t,_,rfl,SqT.of e3,rfl,_,_,rfl,_,_,rfl,rfl,?_⟩;refine zdt ?_
   refine⟨_,rfl,_,rfl,r,j,pRW,rfl,(hR r (An hp)).1,hrw _,λu H4 s4 hu=>?_⟩;have e24:=s4 _ _ (s3 _ _ e2);refine⟨_,e24,small1000 (by lia),_,_,us++[.ref u],rfl,zaj hg (s2.trans (s3.trans s4)),zaa,?_⟩;rw[zay hp];have kt:KT H4 (upd H4 g (.lst (us++[.ref u]))):=KT.lst e24;exact hv.snoc (λx v h=>(((h.kt (KT.of s3)).kt (KT.of s4)).kt kt)) (hu.kt kt)
  .rintro σ H2 ⟨o1,o2,us,rfl,s2,e2,hv⟩;rw[Ag,Ag,AL]at hv;have hgH:H g=none:=s1.free hg;refine⟨_,rfl,g,rfl,⟨_,SqL.of e2⟩,?_⟩
   refine zaH (K:=K) (a:=g) (xs:=us) (λj σ H3=>∃o,σ=[some (.str (txtR R)),some (.ref g),o]/\Same H2 H3)
    ⟨_,rfl,Same.refl _⟩ (λj σ H3 _ ⟨_,_,s3⟩=>SqL.of (s3 _ _ e2)) ?_ ?_
   .rintro j v σ H3 hj ⟨o,rfl,s3⟩;obtain⟨r,hp,hrv⟩:=hv.at hj;simp only[zaG,AY,AZ];refine⟨_,rfl,v,r,rfl,hrv.kt (KT.of s3),(hR r (An hp)).2,λH4 s4=>⟨_,rfl,s3.trans s4⟩⟩
   .rintro σ H3 ⟨o,rfl,s3⟩;exact⟨_,rfl,k g H3 us hgH (s1.trans (s2.trans s3)) (s3 _ _ e2) (hv.mono λx v h=>rR.kt h (KT.of s3))⟩
noncomputable def shC(d:Cell)(C:Cell->Bool)(c:Cell):Bool:=C (c.1-d.1,c.2-d.2)
noncomputable def shE(d:Cell)(e:Edge):Edge:=⟨(e.c.1+d.1,e.c.2+d.2),e.w⟩
theorem sh_go(d:Cell)(C:Cell->Bool)(e:Edge)(i:Nat):shC d C (go (shE d e).c i)=C (go e.c i):=by unfold shC;exact congrArg C (Eb (by show e.c.1+d.1+(mv i).1-d.1=e.c.1+(mv i).1;lia) (by show e.c.2+d.2+(mv i).2-d.2=e.c.2+(mv i).2;lia))
theorem zm6(d:Cell)(C:Cell->Bool)(e:Edge):stepB (shC d C) (shE d e)=stepB C e:=by unfold stepB;rw[sh_go,sh_go];rfl
theorem zm7(d:Cell)(e:Edge)(o:Option Nat):edgeB (shE d e) o=shE d (edgeB e o):=by
 cases o with
 |none=>rfl
 |some s =>
  unfold edgeB;have hg:go (shE d e).c s=((go e.c s).1+d.1,(go e.c s).2+d.2):=Eb (by show e.c.1+d.1+(mv s).1=e.c.1+(mv s).1+d.1;lia) (by show e.c.2+d.2+(mv s).2=e.c.2+(mv s).2+d.2;lia);simp only;rw[hg]
  by_cases h:s % 2=1
  .rw[if_pos h,if_pos h];rfl
  .rw[if_neg h,if_neg h];rfl
theorem znU{d:Cell}{e f:Edge}(h:shE d e=shE d f):e=f:=by obtain⟨⟨a,b⟩,w⟩:=e;obtain⟨⟨x,y⟩,z⟩:=f;unfold shE at h;injection h with h1 h2;injection h1 with h3 h4;simp only at h2 h3 h4;rw[h2,show a=x by lia,show b=y by lia]
noncomputable def fam(b f:Edge):Bool:=f.w == b.w && (f.c.1 == b.c.1 && f.c.2 == b.c.2)
theorem zk7{b f:Edge}:fam b f=true ↔ f=b:=by
 unfold fam;simp only[Bo,beq_iff_eq];constructor
 .rintro⟨h1,h2,h3⟩;obtain⟨⟨a,c⟩,w⟩:=b;obtain⟨⟨x,y⟩,z⟩:=f;simp only at h1 h2 h3;rw[h1,h2,h3]
 .rintro rfl;exact⟨rfl,rfl,rfl⟩
noncomputable def keyOk(b e:Edge):Bool:=e.w != 0 || (decide (b.c.2<e.c.2) || (e.c.2 == b.c.2 && decide (b.c.1<=e.c.1)))
noncomputable def chk(C:Cell->Bool)(b:Edge):Nat->Edge->List Nat->Nat->Nat->Bool
 | 0,_,_,_,_=>false
 |n+1,e,row,l,s =>
  keyOk b e && match stepB C e,row with
   |none,row=>if fam b (edgeB e none) then row.isEmpty && decide (s<l+1) else chk C b n (edgeB e none) row (l+1) s
   |some t,u::r=>(t == u) && (if fam b (edgeB e (some t)) then r.isEmpty && decide (s+t % 2<l) else chk C b n (edgeB e (some t)) r l (s+t % 2))
   |some _,[]=>false
theorem zgd(q:Edge×Option Nat)(W:Wk):nL (q::W)=(if q.2=none then 1 else 0)+nL W:=by
 unfold nL;obtain⟨e,o⟩:=q
 cases o with
 |none=>show (_::DV _ W).length=_;rw[A9,if_pos rfl];lia
 |some s=>show (DV _ W).length=_;rw[if_neg (λz=>nomatch z)];lia
theorem zgc(q:Edge×Option Nat)(W:Wk):nS (q::W)=(match q.2 with |none=>0 |some s=>s % 2)+nS W:=by
 unfold nS;obtain⟨e,o⟩:=q
 cases o with
 |none=>show (DV _ W).length=0+_;lia
 |some s =>
  show (DV _ ((e,some s)::W)).length=s % 2+_
  by_cases h:s % 2=1
  .rw[List.filter_cons_of_pos (by show (s % 2 == 1)=true;rw[h];rfl),A9,h];lia
  .rw[List.filter_cons_of_neg (by show ¬ (s % 2 == 1)=true;simp[h])];lia
theorem zli{C:Cell -> Bool}{b:Edge}(d:Cell):∀(n:Nat) (e:Edge) (row:List Nat) (l s:Nat) (acc:List Edge), chk C b n e row l s=true -> Chain (shC d C) (shE d b) (acc ++ [shE d e]) ->
  ∃t,Closed (shC d C) (shE d b) (acc++shE d e::t)/\row=((shE d e::t).map (stepB (shC d C))).filterMap id/\(∀f∈shE d e::t,∃g,f=shE d g/\keyOk b g=true)/\s+nS (wk (shC d C) (shE d e::t))<l+nL (wk (shC d C) (shE d e::t))/\(shE d e::t).length<=n
 | 0,_,_,_,_,_,h,_=>by cases h
 |n+1,e,row,l,s,acc,h,hc=>by
  have hst:=zm6 d C e;have hnx:∀o,stepB C e=o->nxt (shC d C) (shE d e)=shE d (edgeB e o):=λo ho=>by unfold nxt;rw[hst,ho,zm7]
  have last:∀o,stepB C e=o->fam b (edgeB e o)=true->Closed (shC d C) (shE d b) (acc++shE d e::[]):=λo ho hf=>by refine⟨hc,shE d e,by simp,?_⟩;rw[hnx o ho,zk7.mp hf]
  have more:∀o,stepB C e=o->¬ fam b (edgeB e o)=true->Chain (shC d C) (shE d b) ((acc++[shE d e])++[shE d (edgeB e o)]):=λo ho hf=>by
   rw[<- hnx o ho];refine hc.more λz=>hf ?_
   rw[hnx o ho]at z;exact zk7.mpr (znU z)
  unfold chk at h;rw[Bo]at h;obtain⟨hk,h⟩:=h
  cases ho:stepB C e with
  |none =>
   rw[ho]at h;have h:(if fam b (edgeB e none)=true then row.isEmpty && decide (s<l+1) else chk C b n (edgeB e none) row (l+1) s)=true:=by cases row <;> exact h
   by_cases hf:fam b (edgeB e none)=true
   .rw[if_pos hf,Bo]at h;refine⟨[],last _ ho hf,?_,λf hfm=>⟨e,Ao.mp hfm,hk⟩,?_,by simp⟩
    .rw[List.map_singleton,hst,ho];simpa using h.1
    .show s+nS [(shE d e,stepB _ (shE d e))]<l+nL [(shE d e,stepB _ (shE d e))];rw[hst,ho,zgc,zgd];have:=of_decide_eq_true h.2;show s+(0+0)<l+(1+0);lia
   .rw[if_neg hf]at h;obtain⟨t,k1,k2,k3,k4,k5⟩:=zli d n _ _ _ _ (acc++[shE d e]) h (more _ ho hf);refine⟨shE d (edgeB e none)::t,by rw[AB]at k1;exact k1,?_,λf hfm=>?_,?_,by simp only[A9]at *;lia⟩
    .rw[Bj,hst,ho];exact k2
    .rcases AI.mp hfm with rfl |hfm
     .exact⟨e,rfl,hk⟩
     .exact k3 f hfm
    .show s+nS ((shE d e,stepB _ (shE d e))::wk _ _)<l+nL ((shE d e,stepB _ (shE d e))::wk _ _);rw[hst,ho,zgc,zgd];show s+(0+nS _)<l+(1+nL _);lia
  |some t =>
   rw[ho]at h
   cases row with
   |nil=>cases h
   |cons u r =>
    have h9:((t == u) && (if fam b (edgeB e (some t))=true then r.isEmpty && decide (s+t % 2<l) else chk C b n (edgeB e (some t)) r l (s+t % 2)))=true:=h;clear h;rw[Bo,beq_iff_eq]at h9;obtain⟨rfl,h⟩:=h9
    by_cases hf:fam b (edgeB e (some t))=true
    .rw[if_pos hf,Bo]at h;refine⟨[],last _ ho hf,?_,λf hfm=>⟨e,Ao.mp hfm,hk⟩,?_,by simp⟩
     .rw[List.map_singleton,hst,ho];have:r=[]:=by simpa using h.1
      rw[this];rfl
     .show s+nS [(shE d e,stepB _ (shE d e))]<l+nL [(shE d e,stepB _ (shE d e))];rw[hst,ho,zgc,zgd];have:=of_decide_eq_true h.2;show s+(t % 2+0)<l+(0+0);lia
    .rw[if_neg hf]at h;obtain⟨tt,k1,k2,k3,k4,k5⟩:=zli d n _ _ _ _ (acc++[shE d e]) h (more _ ho hf);refine⟨shE d (edgeB e (some t))::tt,by rw[AB]at k1;exact k1,?_,λf hfm=>?_,?_,by simp only[A9]at *;lia⟩
     .rw[Bj,hst,ho];show t::r=t::_;rw[<- k2]
     .rcases AI.mp hfm with rfl |hfm
      .exact⟨e,rfl,hk⟩
      .exact k3 f hfm
     .show s+nS ((shE d e,stepB _ (shE d e))::wk _ _)<l+nL ((shE d e,stepB _ (shE d e))::wk _ _);rw[hst,ho,zgc,zgd];show s+(t % 2+nS _)<l+(0+nL _);lia
noncomputable def e0:Edge:=⟨(0,0),0⟩
theorem znw {C:Cell->Bool}{row:List Nat}(x y:Int) (hE:C (0,0)=true/\C (0,-1)=false) (h:chk C e0 500 e0 row 0 0=true):GoodR ⟨"rim",x,y,row⟩:=by
 have he:shE (x,y) e0=⟨(x,y),0⟩:=by show (⟨(0+x,0+y),0⟩:Edge)=_;rw[Dy,Dy]
 have hI:IsE (shC (x,y) C) (shE (x,y) e0):=by
  rw[he];refine⟨(by show 0<4;decide),?_,?_⟩
  .unfold shC;simp only[Int.sub_self];exact hE.1
  .unfold shC gap go;simp only;show C (x+0-x,y+-1-y)=false;rw[show x+0-x=0 by lia,show y+-1-y=-1 by lia];exact hE.2
 obtain⟨t,k1,k2,k3,k4,k5⟩:=zli (x,y) 500 e0 row 0 0 [] h (Chain.start hI);refine⟨shC (x,y) C,shE (x,y) e0::t,⟨?_,k2,⟨?_,rfl,λf hf hw=>?_⟩,?_⟩,k5⟩
 .show Closed _ ⟨(x,y),kOf "rim"⟩ _;rw[show kOf "rim" = 0 from rfl,<- he];exact k1
 .show (⟨(x,y),kOf "rim"⟩:Edge)∈_;rw[show kOf "rim" = 0 from rfl,<- he];exact .head _
 .have hf':f∈shE (x,y) e0::t:=by rw[zdr]at hf;exact hf
  obtain⟨g,rfl,hg⟩:=k3 f hf';have hw:g.w=0:=hw;show HT.lexLt [g.c.2+y,g.c.1+x] [y,x]=false;unfold keyOk at hg;simp only[Bool.or_eq_true,Bo,bne_iff_ne,decide_eq_true_eq,beq_iff_eq,e0]at hg;rw[HT.lexLt_cons,HT.lexLt_cons];rcases hg with hg |hg |⟨h1,h2⟩
  .exact absurd hw hg
  .have hg:(0:Int)<g.c.2:=of_decide_eq_true hg;rw[if_neg (by lia)];exact decide_eq_false (by lia)
  .have h1:g.c.2=0:=h1;have h2:(0:Int)<=g.c.1:=of_decide_eq_true h2;rw[if_pos (by lia)]
   by_cases hx:g.c.1+x=x
   .rw[if_pos hx];rfl
   .rw[if_neg hx];exact decide_eq_false (by lia)
 .show "rim" = sortS _;unfold sortS;rw[if_pos (by lia)]
noncomputable def lineR(k n:Nat):List Nat :=
 if k=0 then Ac n 0++Ac n 4 else if k=1 then Ac n 1++Ac n 3++Ac n 5++Ac n 7
 else if k=2 then [] else if k=3 then (Ac n [0,1]).flatten++(Ac n [5,4]).flatten else Ac (2*n) 0++Ac (2*n) 4
noncomputable def lineC(k n:Nat)(c:Cell):Bool :=
 if k=0 then c.2 == 0 && (decide (0<=c.1) && decide (c.1<=n)) else if k=1 then decide (c.1.natAbs+(c.2-n).natAbs<=n)
 else if k=2 then c.1 == 0 && c.2 == 0 else if k=3 then decide (0<=c.1) && (decide (c.1<=2*n) && c.2 == ((c.1.toNat / 2:Nat):Int)) else c.2 == 0 && (decide (0<=c.1) && decide (c.1<=2*n))
theorem zkP:∀k<5,∀n<61,1<=n->lineC k n (0,0)=true/\lineC k n (0,-1)=false/\chk (lineC k n) e0 500 e0 (lineR k n) 0 0=true:=by decide +kernel
theorem zha {k n:Nat}(hk:k<5) (h1:1<=n) (h2:n<=60) (x y:Int):GoodR ⟨"rim",x,y,lineR k n⟩:=by obtain⟨a,b,c⟩:=zkP k hk n (by lia) h1;exact znw x y ⟨a,b⟩ c
noncomputable def Gives(t:TE)(σ:St)(H:Hp)(xs:List V):Prop:=∀H1 (Q:VK),Same H H1->(∀q H',Same H1 H'->H' q=some (.tup xs)->Q (.ref q) H')->t σ H1 Q
theorem zcj{K:W.Frag}{σ:St}{H:Hp}{n:Int}{k:Nat}(hv:σ[6]?=some (some (.int (k:Int))))(h1:1<=k)(h2:k<=1000):Gives (tOp (rRepT K) (tTup (tCons (tC (.int n)) tNil)) (tVar 6)) σ H (Ac k (V.int n)):=by intro H1 Q s1 kk;refine⟨(by show 1<=sizeLine;decide),λt ht=>⟨_,hv,t,k,.int n,rfl,rfl,SqT.of zaa,h1,h2,λe=>kk t _ (Same.up ht) (by rw[zaa,e];rfl),λ_ p hp=>kk p _ ((Same.up ht).trans (Same.up hp)) zaa⟩⟩
theorem zcn{K:W.Frag}{σ:St}{H:Hp}{t1 t2:TE}{xs ys:List V}(r1:Gives t1 σ H xs)(r2:Gives t2 σ H ys)(hx:xs≠[])(hy:ys≠[])(hl:xs.length+ys.length<=sizeLine):Gives (tOp (rCatT K) t1 t2) σ H (xs++ys):=by
 intro H1 Q s1 kk;refine r1 H1 _ s1 λq H2 s2 e2=>?_
 refine r2 H2 _ (s1.trans s2) λp H3 s3 e3=>?_
 exact⟨q,p,xs,ys,rfl,rfl,SqT.of (s3 _ _ e2),SqT.of e3,hx,hl,λz=>absurd z hy,λ_ l hl'=>kk l _ (s2.trans (s3.trans (Same.up hl'))) zaa⟩
theorem zkE{σ:St}{H:Hp}:Gives (tTup tNil) σ H []:=λH1 Q s1 kk=>⟨AT _,λp hp=>kk p _ (Same.up hp) zaa⟩
theorem zb5(k:Nat)(n:Nat):Ac k (V.int (n:Int))=rowV (Ac k n):=by unfold rowV;rw[List.map_replicate]
theorem zcw(a b:List Nat):rowV (a++b)=rowV a++rowV b:=by unfold rowV;rw[Aq]
theorem zmn{row:List Nat}(h1:row.length<=500)(h2:∀n∈row,n<8):Stp (rowI row):=by refine⟨by unfold rowI;rw[Ag];exact h1,λn hn=>?_⟩;obtain⟨m,hm,rfl⟩:=AG.mp hn;have:=h2 m hm;lia
theorem zfs{K:W.Frag}{σ:St}{H:Hp}{n:Int}{k:Nat}{tn:TE}(hv:∀H1 (Q:VK),Q (.int (k:Int)) H1->tn σ H1 Q)(h1:1<=k)(h2:k<=1000):Gives (tOp (rRepT K) (tTup (tCons (tC (.int n)) tNil)) tn) σ H (Ac k (V.int n)):=by intro H1 Q s1 kk;refine⟨(by show 1<=sizeLine;decide),λt ht=>hv _ _ ⟨t,k,.int n,rfl,rfl,SqT.of zaa,h1,h2,λe=>kk t _ (Same.up ht) (by rw[zaa,e];rfl),λ_ p hp=>kk p _ ((Same.up ht).trans (Same.up hp)) zaa⟩⟩
theorem zft{K:W.Frag}{σ:St}{H:Hp}{n m:Int}{k:Nat}(hv:σ[6]?=some (some (.int (k:Int))))(h1:1<=k)(h2:k<=1000):Gives (tOp (zmx K) (tTup (tCons (tC (.int n)) (tCons (tC (.int m)) tNil))) (tVar 6)) σ H (Ac k [V.int n,V.int m]).flatten:=by intro H1 Q s1 kk;refine⟨(by show 2<=sizeLine;decide),λt ht=>⟨_,hv,t,k,.int n,.int m,rfl,rfl,SqT.of zaa,h1,h2,λe=>kk t _ (Same.up ht) (by rw[zaa,e];rfl),λ_ p hp=>kk p _ ((Same.up ht).trans (Same.up hp)) zaa⟩⟩
theorem list2{σ:St}{H:Hp}{A B:TE}{xs ys:List V}{Q:VK}(gA:Gives A σ H xs)(gB:Gives B σ H ys)(k:∀l qa qb H',Same H H'->H' l=some (.lst [.ref qa,.ref qb])->H' qa=some (.tup xs)->H' qb=some (.tup ys)->Q (.ref l) H'){H0:Hp}(h0:Same H H0):tLst (tCons A (tCons B tNil)) σ H0 Q:=by
 refine gA H0 _ h0 λqa H1 s1 e1=>?_
 refine gB H1 _ (h0.trans s1) λqb H2 s2 e2=>?_
 refine⟨(by show 2<=sizeLine;decide),λl hl=>?_⟩;exact k l qa qb _ (h0.trans (s1.trans (s2.trans (Same.up hl)))) zaa ((s2.trans (Same.up hl)) _ _ e1) (Same.up hl _ _ e2)
theorem list3{σ:St}{H:Hp}{A B C:TE}{xs ys zs:List V}(gA:Gives A σ H xs)(gB:Gives B σ H ys)(gC:Gives C σ H zs){gg:TG}{u:TS}{D:Ends}(k:∀l qa qb qc H',Same H H'->H' l=some (.lst [.ref qa,.ref qb,.ref qc])->H' qa=some (.tup xs)->H' qb=some (.tup ys)->H' qc=some (.tup zs)->gg (.ref l) σ H' (u D)):tSeq (tAsg (tLst (tCons A (tCons B (tCons C tNil)))) gg) u D σ H:=by
 refine gA H _ (Same.refl _) λqa H1 s1 e1=>?_
 refine gB H1 _ s1 λqb H2 s2 e2=>?_
 refine gC H2 _ (s1.trans s2) λqc H3 s3 e3=>?_
 refine⟨(by show 3<=sizeLine;decide),λl hl=>?_⟩;exact k l qa qb qc _ (s1.trans (s2.trans (s3.trans (Same.up hl)))) zaa ((s2.trans (s3.trans (Same.up hl))) _ _ e1) ((s3.trans (Same.up hl)) _ _ e2) (Same.up hl _ _ e3)
theorem zeD(a b:Nat):∀k,(Ac k [V.int (a:Int),V.int (b:Int)]).flatten=rowV (Ac k [a,b]).flatten
 | 0=>rfl
 |k+1=>by rw[Bh,Bh,Bi,Bi,zeD a b k,zcw];rfl
theorem ziR{k n:Nat}(hk:k<5)(h:n<=60):(lineR k n).length<=240/\∀m∈lineR k n,m<8:=by
 have mr:∀(j a m:Nat),a<8->m∈Ac j a->m<8:=λj a m ha hm=>by rw[(Ex.mp hm).2];exact ha
 have m2:∀(j a b m:Nat),a<8->b<8->m∈(Ac j [a,b]).flatten->m<8:=λj a b m ha hb hm=>by
  obtain⟨l,hl,hm⟩:=List.mem_flatten.mp hm;rw[(Ex.mp hl).2]at hm;simp only[AI,Cw,or_false]at hm;rcases hm with rfl |rfl
  .exact ha
  .exact hb
 match k,hk with
 | 0,_ =>
  show (Ac n 0++Ac n 4).length<=240/\∀m∈Ac n 0++Ac n 4,m<8;refine⟨by simp only[Am,AR];lia,λm hm=>?_⟩;rcases Az.mp hm with hm |hm
  .exact mr _ _ _ (by decide) hm
  .exact mr _ _ _ (by decide) hm
 | 1,_ =>
  show (Ac n 1++Ac n 3++Ac n 5++Ac n 7).length<=240/\∀m∈Ac n 1++Ac n 3++Ac n 5++Ac n 7,m<8;refine⟨by simp only[Am,AR];lia,λm hm=>?_⟩;rcases Az.mp hm with hm |hm
  .rcases Az.mp hm with hm |hm
   .rcases Az.mp hm with hm |hm
    .exact mr _ _ _ (by decide) hm
    .exact mr _ _ _ (by decide) hm
   .exact mr _ _ _ (by decide) hm
  .exact mr _ _ _ (by decide) hm
 | 2,_=>exact⟨AT _,λm hm=>by cases hm⟩
 | 3,_ =>
  show ((Ac n [0,1]).flatten++(Ac n [5,4]).flatten).length<=240/\∀m∈(Ac n [0,1]).flatten++(Ac n [5,4]).flatten,m<8;refine⟨by rw[Am,HT.len_rep2,HT.len_rep2];lia,λm hm=>?_⟩;rcases Az.mp hm with hm |hm
  .exact m2 _ _ _ _ (by decide) (by decide) hm
  .exact m2 _ _ _ _ (by decide) (by decide) hm
 | 4,_ =>
  show (Ac (2*n) 0++Ac (2*n) 4).length<=240/\∀m∈Ac (2*n) 0++Ac (2*n) 4,m<8;refine⟨by simp only[Am,AR];lia,λm hm=>?_⟩;rcases Az.mp hm with hm |hm
  .exact mr _ _ _ (by decide) hm
  .exact mr _ _ _ (by decide) hm
 |k+5,hk=>exact absurd hk (by lia)
theorem ziB {s:Str}{x y:Int}{row:List Nat}(hs:s = "rim" ∨ s = "hole") (hx:-1000000<x/\x<1000000) (hy:-1000000<y/\y<1000000) (hl:row.length<=240) (h8:∀m∈row,m<8):RTx ⟨s,x,y,row⟩:=by
 have t:(1000000:Nat)<10 ^ 30:=by decide
 exact⟨⟨hs,zbV hx.1 hx.2,zbV hy.1 hy.2,zmn (AV hl (by decide)) h8⟩,DX (show x.natAbs<1000000 by lia) t,DX (show y.natAbs<1000000 by lia) t,hl⟩
noncomputable def ziw(K:W.Frag):Sp:=λvs H Q _=>∃(a:Addr) (ns:List Int) (st:Nat),vs=[.ref a,.int st]/\SqL K H a (ns.map V.int)/\st<=100/\∀p H' us R,H p=none->Same H H'->H' p=some (.lst us)->VR us R rR H'->R.length<=3->(∀r∈R,RTx r/\GoodR r)->Q (.ref p) H'
theorem zg1 (T:Txt P w K mg) (g__law_row:Fn P w K mg base 1 "_law_row" ["_law_cell","_law_many","_law_base"] spRow) (d:Df K mg "_law_lines" zcS ["_law_script","_law_start"]):FnOk P w K mg base CX0 2 d.f d.fd ["_law_script","_law_start"] (ziw K):=by
 refine d.F.ok zaz (λvs H Q E h=>?_) (λcdv A outer s H vs Q E hr h=>?_)
 .obtain⟨a,ns,st,rfl,_⟩:=h;rfl
 .obtain⟨a,ns,st,rfl,hS,hst,k⟩:=h
  refine⟨_,(zac (sE 2 zaz.nd (zaV zab))
   (zac (zb6 Bs rfl (zhO (by rfl) T.nenumerate (zah (zbS zdL (pv 0) (zca (pv 1)) (zca (pe_op zaL (pv 1) zae))) zab)) (zba (by rfl) (zaf (nG 3 zaz.nd) (zaf (nG 4 zaz.nd) zat)))
   (zac (zbm (pC g__law_row hr (pa_N (pv 4) (pa_C zae (pa_C zae zab)))) (zmB (by rfl) (zaf (nG 5 zaz.nd) (zaf (nG 6 zaz.nd) (zaf (nG 7 zaz.nd) (zaf (nG 8 zaz.nd) zat))))))
   (zac (sE 6 zaz.nd (pe_op zaL zae (pe_op zaS (pv 6) zae)))
   (zac (sE 9 zaz.nd (zaV (pa_B (pe_op zcW (pe_op zcV (zam (pa_C zae zab)) (pv 6)) (pe_op zcV (zam (pa_C zae zab)) (pv 6))) (pa_B (pe_op zcW (pe_op zcW (pe_op zcW (pe_op zcV (zam (pa_C zae zab)) (pv 6)) (pe_op zcV (zam (pa_C zae zab)) (pv 6))) (pe_op zcV (zam (pa_C zae zab)) (pv 6))) (pe_op zcV (zam (pa_C zae zab)) (pv 6))) (pa_T (zam zab) zab)))))
   (zac (sE 9 zaz.nd (pe_op zfw (pv 9) (zaV (pa_B (pe_op zcW (pe_op ziJ (zam (pa_C zae (pa_C zae zab))) (pv 6)) (pe_op ziJ (zam (pa_C zae (pa_C zae zab))) (pv 6))) (pa_B (pe_op zcW (pe_op zcV (zam (pa_C zae zab)) (pe_op zbt zae (pv 6))) (pe_op zcV (zam (pa_C zae zab)) (pe_op zbt zae (pv 6)))) zab)))))
   (zag (zaY (pe_bm AO A4 A5 zaM (pv 2) (pa_T (zam (pa_C zaC (pa_B (pe_op zaL (pv 7) (pe_op zbt zae (pv 3))) (pa_B (pe_op zda (pe_op zaS (pv 8) zae) (pe_op zbt zae (pv 3))) (zah (pe_ix za7 (pv 9) (pe_op zaS (pv 5) zae) (λ_ _=>rfl)) zab))))) zab)))))))))
   (zag (zak (pv 2))))),?_⟩
  have hσ:L2.start zd7 [V.ref a,V.int st]=[some (.ref a),some (.int st),none,none,none,none,none,none,none,none]:=rfl;rw[hσ];refine⟨AT _,λf hf=>?_⟩;have s1:=Same.up (o:=.lst []) hf;have e1:upd H f (.lst []) f=some (.lst []):=zaa;generalize upd H f (.lst [])=H1 at s1 e1;simp only[zaG,AY,AZ];refine⟨_,rfl,_,rfl,_,rfl,_,rfl,_,_,rfl,rfl,_,rfl,a,_,rfl,s1.seq hS,λg hg=>?_⟩
  obtain⟨ms,hms,hml⟩:∃ms:List Int,cutV (ns.map V.int) (some (st:Int)) (some ((st:Int)+3))=ms.map V.int/\ms.length<=3:=by
   refine⟨(ns.drop (HT.sIx (ns.map V.int).length 0 (some (st:Int)))).take (HT.sIx (ns.map V.int).length (ns.map V.int).length (some ((st:Int)+3))-HT.sIx (ns.map V.int).length 0 (some (st:Int))),?_,?_⟩
   .unfold cutV;rw[Ef,Ee]
   .have e3:((st:Int)+3)=((st+3:Nat):Int):=by lia
    rw[AA,e3,HT.sIx_nat,HT.sIx_nat];lia
  rw[hms];have s2:=s1.trans (Same.up (o:=.lst (ms.map V.int)) hg);have e2:=Same.up (o:=.lst (ms.map V.int)) hg _ _ e1;have g2:upd H1 g (.lst (ms.map V.int)) g=some (.lst (ms.map V.int)):=zaa;generalize upd H1 g (.lst (ms.map V.int))=H2 at s2 e2 g2;refine⟨g,rfl,⟨_,SqL.of g2⟩,?_⟩
  refine zgn (K:=K) (a:=g) (xs:=ms.map V.int) (λi σ H3=>∃o3 o4 o5 o6 o7 o8 o9 us R,σ=[some (.ref a),some (.int st),some (.ref f),o3,o4,o5,o6,o7,o8,o9]/\Same H H3/\H3 g=some (.lst (ms.map V.int))/\H3 f=some (.lst us)/\VR us R rR H3/\R.length=i/\∀r∈R,RTx r/\GoodR r)
   ⟨_,_,_,_,_,_,_,[],[],rfl,s2,g2,e2,VR.nil,rfl,λr h=>by cases h⟩ (λi σ H3 _ ⟨_,_,_,_,_,_,_,_,_,_,_,g3,_⟩=>SqL.of g3) ?_ ?_
  .rintro i x σ H3 p hi ⟨o3,o4,o5,o6,o7,o8,o9,us,R,rfl,s3,g3,f3,v3,hl3,hR3⟩ hp;have hil:i<(ms.map V.int).length:=(Ae.mp hi).1;rw[Ag]at hil;rw[Ay]at hi;obtain⟨c,hc,rfl⟩:=Bb.mp hi;have s4:=Same.up (o:=.tup [V.int (i:Int),V.int c]) hp;have p4:upd H3 p (.tup [V.int (i:Int),V.int c]) p=some (.tup [V.int (i:Int),V.int c]):=zaa;generalize upd H3 p (.tup [V.int (i:Int),V.int c])=H4 at s4 p4;refine⟨p,_,rfl,SqT.of p4,rfl,_,_,rfl,_,_,rfl,rfl,?_⟩;simp only[zaG,AY,AZ];refine⟨_,rfl,c,5040,4,rfl,by decide,by decide,by decide,λq H5 ks hq s5 e5 hkl hkb=>?_⟩
   obtain⟨kd,sz,x0,y0,rfl⟩:∃a b c d,ks=[a,b,c,d]:=by
    match ks,hkl with
    |[a,b,c,d],_=>exact⟨a,b,c,d,rfl⟩
   have bk:=hkb kd (by simp);have bs:=hkb sz (by simp);have bx:=hkb x0 (by simp);have by0:=hkb y0 (by simp);refine⟨q,_,rfl,SqL.of e5,rfl,_,_,rfl,_,_,rfl,_,_,rfl,_,_,rfl,rfl,?_⟩;simp only[zaG,AY,AZ];refine⟨_,rfl,_,_,rfl,rfl,(by show (0:Int)<60;decide),_,_,rfl,rfl,?_⟩;have z0:=DF sz (show (60:Int)≠0 by decide);have z1:=C3 sz (show (0:Int)<60 by decide);obtain⟨k6,hk6⟩:∃k6:Nat,1+sz % 60=(k6:Int):=⟨(1+sz % 60).toNat,by lia⟩;simp only[zaG,AY,AZ];rw[hk6];have k61:1<=k6:=by lia
   have k62:k6<=60:=by lia
   have rn:∀n:Int,Ac k6 (V.int n)≠[]:=λn z=>by have:=congrArg Ez z;simp at this;lia
   refine list3 (xs:=rowV (lineR 0 k6)) (ys:=rowV (lineR 1 k6)) (zs:=rowV (lineR 2 k6)) ?_ ?_ zkE λl qa qb qc H6 s6 el ea' eb' ec'=>?_
   .show Gives _ _ _ (rowV (Ac k6 0++Ac k6 4));rw[zcw,<- zb5,<- zb5];exact zcn (zcj rfl k61 (by lia)) (zcj rfl k61 (by lia)) (rn _) (rn _) (zaA (by simp;lia))
   .show Gives _ _ _ (rowV (Ac k6 1++Ac k6 3++Ac k6 5++Ac k6 7));rw[zcw,zcw,zcw,<- zb5,<- zb5,<- zb5,<- zb5];exact zcn (zcn (zcn (zcj rfl k61 (by lia)) (zcj rfl k61 (by lia)) (rn _) (rn _) (zaA (by simp;lia))) (zcj rfl k61 (by lia)) (by simp;lia) (rn _) (zaA (by simp;lia))) (zcj rfl k61 (by lia)) (by simp;lia) (rn _) (zaA (by simp;lia))
   simp only[zaG,AY,AZ]
   have hmul:∀(σ:St) (H1:Hp) (Q:VK),σ[6]?=some (some (.int (k6:Int)))->Q (.int ((2*k6:Nat):Int)) H1->tOp (rI CMul λi j=>V.int (i*j)) (tC (V.int 2)) (tVar 6) σ H1 Q:=λσ H1 Q hσ h=>by refine⟨_,hσ,2,k6,rfl,rfl,.inl ⟨by decide,by decide⟩,?_⟩;show Q (V.int (2*(k6:Int))) H1;rw[show (2*(k6:Int))=((2*k6:Nat):Int) by lia];exact h
   refine⟨_,rfl,list2 (xs:=rowV (lineR 3 k6)) (ys:=rowV (lineR 4 k6)) ?_ ?_ (λl2 qd qe H7 s7 el2 ed ee=>?_) (Same.refl H6)⟩
   .show Gives _ _ _ (rowV ((Ac k6 [0,1]).flatten++(Ac k6 [5,4]).flatten));rw[zcw,<- zeD,<- zeD];exact zcn (zft rfl k61 (by lia)) (zft rfl k61 (by lia)) (λz=>by have:=congrArg Ez z;rw[HT.len_rep2]at this;simp at this;lia) (λz=>by have:=congrArg Ez z;rw[HT.len_rep2]at this;simp at this;lia) (zaA (by rw[HT.len_rep2,HT.len_rep2];lia))
   .show Gives _ _ _ (rowV (Ac (2*k6) 0++Ac (2*k6) 4));have rn2:∀n:Int,Ac (2*k6) (V.int n)≠[]:=λn z=>by have:=congrArg Ez z;simp at this;lia
    rw[zcw,<- zb5,<- zb5];exact zcn (zfs (λH1 Q=>hmul _ H1 Q rfl) (by lia) (by lia)) (zfs (λH1 Q=>hmul _ H1 Q rfl) (by lia) (by lia)) (rn2 _) (rn2 _) (zaA (by simp;lia))
   refine⟨l,l2,_,_,rfl,rfl,s7 _ _ el,el2,(by show 3+2<=sizeLine;decide),λl8 hl8=>?_⟩;have s8:Same H7 (upd H7 l8 (.lst ([.ref qa,.ref qb,.ref qc]++[.ref qd,.ref qe]))):=Same.up hl8;have el8:upd H7 l8 (.lst ([.ref qa,.ref qb,.ref qc]++[.ref qd,.ref qe])) l8=some (.lst [.ref qa,.ref qb,.ref qc,.ref qd,.ref qe]):=zaa;have fa:=(s7.trans s8) _ _ ea';have fb:=(s7.trans s8) _ _ eb';have fc:=(s7.trans s8) _ _ ec';have fd:=s8 _ _ ed;have fe:=s8 _ _ ee;dsimp only;generalize upd H7 l8 (.lst ([.ref qa,.ref qb,.ref qc]++[.ref qd,.ref qe]))=H8x at s8 el8 fa fb fc fd fe;simp only[zaG,AY,AZ]
   obtain⟨row,qr,hix,hrow,hrl,hr8,hgr⟩:∃(row:List Nat) (qr:Addr),atI [V.ref qa,V.ref qb,V.ref qc,V.ref qd,V.ref qe] (kd % 5)=some (.ref qr)/\H8x qr=some (.tup (rowV row))/\row.length<=240/\(∀n∈row,n<8)/\∀x y,GoodR ⟨"rim",x,y,row⟩:=by
    have get:∀j,j<5->∀q,H8x q=some (.tup (rowV (lineR j k6)))->H8x q=some (.tup (rowV (lineR j k6)))/\(lineR j k6).length<=240/\(∀n∈lineR j k6,n<8)/\∀x y,GoodR ⟨"rim",x,y,lineR j k6⟩:=λj hj q e=>⟨e,(ziR hj k62).1,(ziR hj k62).2,λx y=>zha hj k61 k62 x y⟩
    have:kd % 5=0∨kd % 5=1∨kd % 5=2∨kd % 5=3∨kd % 5=4:=by lia
    rcases this with z |z |z |z |z <;> rw[z]
    .exact⟨_,qa,rfl,get 0 (by decide) _ fa⟩
    .exact⟨_,qb,rfl,get 1 (by decide) _ fb⟩
    .exact⟨_,qc,rfl,get 2 (by decide) _ fc⟩
    .exact⟨_,qd,rfl,get 3 (by decide) _ fd⟩
    .exact⟨_,qe,rfl,get 4 (by decide) _ fe⟩
   have s36:=s4.trans (s5.trans (s6.trans (s7.trans s8)));have f6:=s36 _ _ f3;have g6:=s36 _ _ g3;refine⟨_,rfl,.inl ⟨rfl,_,SqL.of f6⟩,_,rfl,_,rfl,_,_,rfl,rfl,.inl ⟨by decide,by decide⟩,_,_,rfl,rfl,?_⟩;refine⟨_,rfl,_,_,rfl,rfl,(by show (0:Int)<7;decide),_,rfl,_,_,rfl,rfl,.inl ⟨by decide,by decide⟩,_,_,rfl,rfl,?_⟩;refine⟨_,rfl,_,rfl,_,_,rfl,rfl,(by show (0:Int)<5;decide),l8,_,_,_,rfl,rfl,SqL.of el8,hix,(by show 4<=sizeLine;decide),λt7 ht7=>?_⟩;have s9:=Same.up (o:=.tup [V.str (Aa "rim"),V.int (x0+5040*(i:Int)),V.int (y0 % 7-10*(i:Int)),V.ref qr]) ht7;have t7':upd H8x t7 (.tup [V.str (Aa "rim"),V.int (x0+5040*(i:Int)),V.int (y0 % 7-10*(i:Int)),V.ref qr]) t7=some (.tup [V.str (Aa "rim"),V.int (x0+5040*(i:Int)),V.int (y0 % 7-10*(i:Int)),V.ref qr]):=zaa;have hfg:f≠g:=λz=>by rw[z]at e1;rw[hg]at e1;cases e1
   dsimp only;generalize upd H8x t7 (.tup [V.str (Aa "rim"),V.int (x0+5040*(i:Int)),V.int (y0 % 7-10*(i:Int)),V.ref qr])=H9 at s9 t7';have f9:=s9 _ _ f6;have hR:rR ⟨"rim",x0+5040*(i:Int),y0 % 7-10*(i:Int),row⟩ (.ref t7) H9:=⟨t7,qr,rfl,t7',s9 _ _ hrow⟩;have k8:KT H9 (upd H9 f (.lst (us++[.ref t7]))):=KT.lst f9;refine⟨f,_,_,rfl,rfl,f9,small1000 (by rw[v3.1];lia),?_⟩;refine⟨_,_,_,_,_,_,_,us++[.ref t7],R++[⟨"rim",x0+5040*(i:Int),y0 % 7-10*(i:Int),row⟩],rfl,zaj hf (s3.trans (s36.trans s9)),by rw[zai (Cz hfg)];exact s9 _ _ g6,zaa,?_,by rw[Am,hl3];rfl,λr hr'=>?_⟩
   .exact v3.snoc (λx v h=>rR.kt h ((KT.of (s36.trans s9)).trans k8)) (rR.kt hR k8)
   .rcases Az.mp hr' with h |h
    .exact hR3 r h
    .rw[Ao.mp h];exact⟨ziB (.inl rfl) ⟨by lia,by lia⟩ ⟨by lia,by lia⟩ hrl hr8,hgr _ _⟩
  .rintro σ H3 ⟨o3,o4,o5,o6,o7,o8,o9,us,R,rfl,s3,g3,f3,v3,hl3,hR3⟩;rw[Ag]at hl3;exact⟨_,rfl,k f H3 us R hf s3 f3 v3 (by lia) hR3⟩
theorem zjW{x y:Int}(hx:x.natAbs<10 ^ 30)(hy:y.natAbs<10 ^ 30)(h:tS x=tS y):x=y:=by have a:=(zeh hx).2;have b:=(zeh hy).2;rw[show Aa (Bg x)=Aa (Bg y) from h,b]at a;exact a.symm
theorem zfB:∀{a b:List Int},(∀n∈a,0<=n)->(∀n∈b,0<=n)->a.map fg=b.map fg->a=b
 |[],[],_,_,_=>rfl
 |[],_::_,_,_,h=>by cases h
 |_::_,[],_,_,h=>by cases h
 |x::a,y::b,ha,hb,h=>by
  injection h with h1 h2;have:=ha x (.head _);have:=hb y (.head _);unfold fg at h1;rw[show x=y by lia,zfB (λn hn=>ha n (.tail _ hn)) (λn hn=>hb n (.tail _ hn)) h2]
theorem zkc{n:Nat}(h:n<1000):n<10 ^ 30:=DX h (by decide)
theorem znf{p q:Run}(hp:0<=p.1/\p.1<8/\1<=p.2/\p.2<=500)(hq:0<=q.1/\q.1<8/\1<=q.2/\q.2<=500)(h:prt p=prt q):p=q:=by
 have e:=congrArg cl h;rw[zhq hp.1 hp.2.1,zhq hq.1 hq.2.1]at e;injection e with e1 e2;have h1:p.1=q.1:=by lia
 have h2:p.2=q.2:=by
  by_cases a:1<(p.2:Int)
  .by_cases b:1<(q.2:Int)
   .have e2 : 120 :: cl (tS (p.2:Int))=120 :: cl (tS (q.2:Int)) := by have e2:(if 1<(p.2:Int) then 120::cl (tS (p.2:Int)) else [])=(if 1<(q.2:Int) then 120::cl (tS (q.2:Int)) else []):=e2;rw[if_pos a,if_pos b]at e2;exact e2
    injection e2 with _ e3;have:=zjW (x:=(p.2:Int)) (y:=(q.2:Int)) (zkc (by lia)) (zkc (by lia)) (zcl e3);lia
   .have e2:(if 1<(p.2:Int) then 120::cl (tS (p.2:Int)) else [])=(if 1<(q.2:Int) then 120::cl (tS (q.2:Int)) else []):=e2;rw[if_pos a,if_neg b]at e2;cases e2
  .by_cases b:1<(q.2:Int)
   .have e2:(if 1<(p.2:Int) then 120::cl (tS (p.2:Int)) else [])=(if 1<(q.2:Int) then 120::cl (tS (q.2:Int)) else []):=e2;rw[if_neg a,if_pos b]at e2;cases e2
   .lia
 exact Eb h1 h2
theorem zeK:∀{a b:List Run},(∀p∈a,0<=p.1/\p.1<8/\1<=p.2/\p.2<=500)->(∀p∈b,0<=p.1/\p.1<8/\1<=p.2/\p.2<=500)->a.map prt=b.map prt->a=b
 |[],[],_,_,_=>rfl
 |[],_::_,_,_,h=>by cases h
 |_::_,[],_,_,h=>by cases h
 |x::a,y::b,ha,hb,h=>by
  injection h with h1 h2;rw[znf (ha x (.head _)) (hb y (.head _)) h1,zeK (λn hn=>ha n (.tail _ hn)) (λn hn=>hb n (.tail _ hn)) h2]
theorem zgQ{ns:List Int}(h:Stp ns):∀y∈(runsL ns).map prt,46 ∉ cl y:=λy hy z=>by obtain⟨p,hp,rfl⟩:=AG.mp hy;have:=zcv h (zbd ns) hp;have:=zfY (by lia) (by lia) z;lia
theorem zlD{ns ms:List Int}(hn:Stp ns)(hm:Stp ms)(h:runS ns=runS ms):ns=ms:=by
 have ed:(Aa ".")=⟨#[46]⟩:=by decide +kernel
 have ej:∀l:List Int,cl (runS l)=42::cl (Cc ⟨#[46]⟩ ((runsL l).map prt)):=λl=>by show cl (Aa "*" ++ Bu (Aa ".") ((runsL l).map prt))=_;rw[zcm,show Bu (Aa ".") ((runsL l).map prt)=Cc (Aa ".") ((runsL l).map prt) from C7 _ _,ed];rfl
 have e:=congrArg cl h;rw[ej,ej]at e;injection e with _ e;have e:=zcl e
 have ex:∀l k:List Int,Stp k->(runsL l).map prt=[]->Cc ⟨#[46]⟩ ((runsL l).map prt)=Cc ⟨#[46]⟩ ((runsL k).map prt)->(runsL k).map prt=[]:=λl k hk hl e=>by
  rw[hl]at e
  cases hq:runsL k with
  |nil=>rfl
  |cons p r =>
   exfalso;have hp:=zcv hk (zbd k) (p:=p) (by rw[hq];exact .head _);rw[hq]at e;have hc:48+p.1.toNat∈cl (prt p):=by rw[zhq (by lia) (by lia)];simp
   have:=(DK ⟨#[46]⟩ (48+p.1.toNat) ((p::r).map prt)).mpr (.inl ⟨prt p,.head _,hc⟩);rw[<- e]at this
   cases this
 have hmm:(runsL ns).map prt=(runsL ms).map prt:=by
  by_cases a:(runsL ns).map prt=[]
  .rw[a,ex ns ms hm a e]
  .by_cases b:(runsL ms).map prt=[]
   .exact absurd (ex ms ns hn b e.symm) a
   .exact zlZ a b (zgQ hn) (zgQ hm) e
 have:=zeK (λp hp=>by have:=zcv hn (zbd ns) hp;lia) (λp hp=>by have:=zcv hm (zbd ms) hp;lia) hmm;rw[<- (zbd ns).flat,this,(zbd ms).flat]
theorem zh7{ns:List Int}(h:Stp ns):cl (figS ns)=if ns=[] then [45] else ns.map fg:=by
 unfold figS
 by_cases hn:ns=[]
 .rw[if_pos hn,if_pos hn];exact (by decide +kernel:cl (Aa "-")=[45])
 .rw[if_neg hn,if_neg hn];exact zgs h.2
theorem zl8{ns ms:List Int}(hn:Stp ns)(hm:Stp ms)(h:figS ns=figS ms):ns=ms:=by
 have e:=congrArg cl h;rw[zh7 hn,zh7 hm]at e
 by_cases a:ns=[]
 .by_cases b:ms=[]
  .rw[a,b]
  .rw[if_pos a,if_neg b]at e;obtain⟨m,r,rfl⟩:∃m r,ms=m::r:=by cases ms with |nil=>exact absurd rfl b |cons m r=>exact⟨m,r,rfl⟩
   injection e with e _;unfold fg at e;lia
 .by_cases b:ms=[]
  .rw[if_neg a,if_pos b]at e;obtain⟨m,r,rfl⟩:∃m r,ns=m::r:=by cases ns with |nil=>exact absurd rfl a |cons m r=>exact⟨m,r,rfl⟩
   injection e with e _;unfold fg at e;lia
  .rw[if_neg a,if_neg b]at e;exact zfB (λn q=>(hn.2 n q).1) (λn q=>(hm.2 n q).1) e
theorem zkk{ns ms:List Int}(hm:Stp ms):runS ns≠figS ms:=λh=>by
 have e:=congrArg cl h;rw[zh7 hm]at e
 have e1:cl (runS ns)=42::cl (Bu (Aa ".") ((runsL ns).map prt)):=by show cl (Aa "*" ++ Bu (Aa ".") ((runsL ns).map prt))=_;rw[zcm];rfl
 rw[e1]at e
 by_cases b:ms=[]
 .rw[if_pos b]at e;injection e with e _;lia
 .rw[if_neg b]at e;obtain⟨m,r,rfl⟩:∃m r,ms=m::r:=by cases ms with |nil=>exact absurd rfl b |cons m r=>exact⟨m,r,rfl⟩
  injection e with e _;unfold fg at e;lia
theorem zlE{ns ms:List Int}(hn:Stp ns)(hm:Stp ms)(h:rowS ns=rowS ms):ns=ms:=by
 unfold rowS at h;split at h
 .split at h
  .exact zlD hn hm h
  .exact absurd h (zkk hm)
 .split at h
  .exact absurd h.symm (zkk hn)
  .exact zl8 hn hm h
theorem zlH{r q:Rnd}(hr:RTx r)(hq:RTx q)(h:rndS r=rndS q):r=q:=by have e:=zeE hr.1;rw[h,zeE hq.1]at e;unfold wds at e;injection e with e1 e;injection e with e2 e;injection e with e3 e;injection e with e4 _;obtain⟨so,x,y,row⟩:=r;obtain⟨so',x',y',row'⟩:=q;have h1:=zjW hq.2.1 hr.2.1 e2;have h2:=zjW hq.2.2.1 hr.2.2.1 e3;have h3:=ziD (zlE hq.1.2.2.2 hr.1.2.2.2 e4);simp only at e1 h1 h2 h3;rw[e1,h1,h2,h3]
theorem zd1:∀{a b:List Rnd},(∀r∈a,RTx r)->(∀r∈b,RTx r)->a.map rndS=b.map rndS->a=b
 |[],[],_,_,_=>rfl
 |[],_::_,_,_,h=>by cases h
 |_::_,[],_,_,h=>by cases h
 |x::a,y::b,ha,hb,h=>by
  injection h with h1 h2;rw[zlH (ha x (.head _)) (hb y (.head _)) h1,zd1 (λn hn=>ha n (.tail _ hn)) (λn hn=>hb n (.tail _ hn)) h2]
theorem zmU{a b:List Rnd}(ha:∀r∈a,RTx r)(hb:∀r∈b,RTx r)(h:txtR a=txtR b):a=b:=by
 by_cases h1:a=[]
 .by_cases h2:b=[]
  .rw[h1,h2]
  .rw[h1]at h;exact absurd h.symm (zhG h2)
 .by_cases h2:b=[]
  .rw[h2]at h;exact absurd h (zhG h1)
  .have e:=zes h1 λr hr=>(ha r hr).1
   rw[h,zes h2 λr hr=>(hb r hr).1]at e;exact (zd1 hb ha e).symm
theorem VR.rev{α:Type}{vs:List V}{l:List α}{R:α->V->Hp->Prop}{H:Hp}(h:VR vs l R H):VR vs.reverse l.reverse R H:=by
 refine⟨by rw[Do,Do,h.1],λi x v h1 h2=>?_⟩;have hi:i<l.length:=by have:=(Ae.mp h1).1;rw[Do]at this;exact this
 rw[List.getElem?_reverse hi]at h1;rw[List.getElem?_reverse (by rw[h.1];exact hi),h.1]at h2;exact h.2 _ x v h1 h2
theorem mv8{i:Nat}(h:i < 8){t0 t1 t2 t3 t4 t5 t6 t7:Addr}{H:Hp}(f0:H t0=some (.tup [.int 1, .int 0]))(f1:H t1=some (.tup [.int 1, .int 1]))(f2:H t2=some (.tup [.int 0, .int 1]))(f3:H t3=some (.tup [.int (-1), .int 1]))
  (f4:H t4=some (.tup [.int (-1),.int 0])) (f5:H t5=some (.tup [.int (-1),.int (-1)])) (f6:H t6=some (.tup [.int 0,.int (-1)])) (f7:H t7=some (.tup [.int 1,.int (-1)])) :
  ∃t,([V.ref t0,.ref t1,.ref t2,.ref t3,.ref t4,.ref t5,.ref t6,.ref t7]:List V)[i]?=some (.ref t)/\H t=some (.tup [.int (mv i).1,.int (mv i).2]):=by
 have:i=0∨i=1∨i=2∨i=3∨i=4∨i=5∨i=6∨i=7:=by lia
 rcases this with rfl |rfl |rfl |rfl |rfl |rfl |rfl |rfl
 .exact⟨_,rfl,f0⟩
 .exact⟨_,rfl,f1⟩
 .exact⟨_,rfl,f2⟩
 .exact⟨_,rfl,f3⟩
 .exact⟨_,rfl,f4⟩
 .exact⟨_,rfl,f5⟩
 .exact⟨_,rfl,f6⟩
 .exact⟨_,rfl,f7⟩
theorem zhT (d:Df K mg "_law_gone" zdk ["_law_x","_law_y","_law_step"]):FnOk P w K mg base CX0 1 d.f d.fd ["_law_x","_law_y","_law_step"] zeu:=by
 refine d.F.ok zcJ (λvs H Q E h=>?_) (λcdv A outer s H vs Q E hr h=>?_)
 .obtain⟨c,i,rfl,_⟩:=h;rfl
 .obtain⟨c,i,rfl,hi,k⟩:=h
  refine⟨_,(zac (zbm (pe_ix za7 (zaV (zah (zam (zah zae (zah zae zab))) (zah (zam (zah zae (zah zae zab))) (zah (zam (zah zae (zah zae zab))) (zah (zam (zah (pe_un zcF zae) (zah zae zab))) (zah (zam (zah (pe_un zcF zae) (zah zae zab))) (zah (zam (zah (pe_un zcF zae) (zah (pe_un zcF zae) zab))) (zah (zam (zah zae (zah (pe_un zcF zae) zab))) (zah (zam (zah zae (zah (pe_un zcF zae) zab))) zab))))))))) (pv 2) (λ_ _=>rfl)) (zba (by rfl) (zaf (nG 3 zcJ.nd) (zaf (nG 4 zcJ.nd) zat))))
   (zag (zak (zam (zah (pe_op zaL (pv 0) (pv 3)) (zah (pe_op zaL (pv 1) (pv 4)) zab)))))),?_⟩
  refine⟨two,λt0 h0=>?_⟩;have s0:=Same.up (o:=.tup [.int 1,.int 0]) h0;have f0:upd H t0 (.tup [.int 1,.int 0]) t0=some (.tup [.int 1,.int 0]):=zaa;generalize upd H t0 (.tup [.int 1,.int 0])=H0 at s0 f0;refine⟨two,λt1 h1=>?_⟩;have s1:=Same.up (o:=.tup [.int 1,.int 1]) h1;have f1:upd H0 t1 (.tup [.int 1,.int 1]) t1=some (.tup [.int 1,.int 1]):=zaa;generalize upd H0 t1 (.tup [.int 1,.int 1])=H1 at s1 f1;refine⟨two,λt2 h2=>?_⟩;have s2:=Same.up (o:=.tup [.int 0,.int 1]) h2;have f2:upd H1 t2 (.tup [.int 0,.int 1]) t2=some (.tup [.int 0,.int 1]):=zaa;generalize upd H1 t2 (.tup [.int 0,.int 1])=H2 at s2 f2;refine⟨_,rfl,two,λt3 h3=>?_⟩;have s3:=Same.up (o:=.tup [.int (-1),.int 1]) h3;have f3:upd H2 t3 (.tup [.int (-1),.int 1]) t3=some (.tup [.int (-1),.int 1]):=zaa;generalize upd H2 t3 (.tup [.int (-1),.int 1])=H3 at s3 f3;refine⟨_,rfl,two,λt4 h4=>?_⟩;have s4:=Same.up (o:=.tup [.int (-1),.int 0]) h4;have f4:upd H3 t4 (.tup [.int (-1),.int 0]) t4=some (.tup [.int (-1),.int 0]):=zaa;generalize upd H3 t4 (.tup [.int (-1),.int 0])=H4 at s4 f4;refine⟨_,rfl,_,rfl,two,λt5 h5=>?_⟩;have s5:=Same.up (o:=.tup [.int (-1),.int (-1)]) h5;have f5:upd H4 t5 (.tup [.int (-1),.int (-1)]) t5=some (.tup [.int (-1),.int (-1)]):=zaa;generalize upd H4 t5 (.tup [.int (-1),.int (-1)])=H5 at s5 f5;refine⟨_,rfl,two,λt6 h6=>?_⟩;have s6:=Same.up (o:=.tup [.int 0,.int (-1)]) h6;have f6:upd H5 t6 (.tup [.int 0,.int (-1)]) t6=some (.tup [.int 0,.int (-1)]):=zaa;generalize upd H5 t6 (.tup [.int 0,.int (-1)])=H6 at s6 f6;refine⟨_,rfl,two,λt7 h7=>?_⟩;have s7:=Same.up (o:=.tup [.int 1,.int (-1)]) h7;have f7:upd H6 t7 (.tup [.int 1,.int (-1)]) t7=some (.tup [.int 1,.int (-1)]):=zaa;generalize upd H6 t7 (.tup [.int 1,.int (-1)])=H7 at s7 f7;refine⟨(by show 8<=sizeLine;decide),λl hl=>?_⟩;have s8:=Same.up (o:=.lst [.ref t0,.ref t1,.ref t2,.ref t3,.ref t4,.ref t5,.ref t6,.ref t7]) hl;have f8:upd H7 l (.lst [.ref t0,.ref t1,.ref t2,.ref t3,.ref t4,.ref t5,.ref t6,.ref t7]) l=some (.lst [.ref t0,.ref t1,.ref t2,.ref t3,.ref t4,.ref t5,.ref t6,.ref t7]):=zaa;generalize upd H7 l (.lst [.ref t0,.ref t1,.ref t2,.ref t3,.ref t4,.ref t5,.ref t6,.ref t7])=H8 at s8 f8;have s67:=s7.trans s8;have s57:=s6.trans s67;have s47:=s5.trans s57;have s37:=s4.trans s47;have s27:=s3.trans s37;have s17:=s2.trans s27;have s07:=s1.trans s17;obtain⟨t,ht,ft⟩:=mv8 hi (s07 _ _ f0) (s17 _ _ f1) (s27 _ _ f2) (s37 _ _ f3) (s47 _ _ f4) (s57 _ _ f5) (s67 _ _ f6) (s8 _ _ f7);refine⟨_,rfl,l,_,_,_,rfl,rfl,SqL.of f8,zaE ht,t,_,rfl,SqT.of ft,rfl,_,_,rfl,_,_,rfl,rfl,?_⟩;refine⟨_,rfl,_,rfl,_,_,rfl,rfl,_,rfl,_,rfl,_,_,rfl,rfl,two,λp hp=>?_⟩;have s08:=s0.trans s07;exact k p _ (s08.free hp) (s08.trans (Same.up hp)) zaa
theorem VR.takeS{α:Type}{vs:List V}{l:List α}{R:α->V->Hp->Prop}{H:Hp}(h:VR vs l R H)(j:Nat):VR (vs.take j) (l.take j) R H:=by
 refine⟨by rw[AA,AA,h.1],λi x v h1 h2=>?_⟩;rw[List.getElem?_take]at h1 h2;split at h1
 .rw[if_pos (by assumption)]at h2;exact h.2 _ x v h1 h2
 .cases h1
theorem zle(us:List V)(k:Nat):cutV us none (some (k:Int))=us.take k:=by
 have e:cutV us none (some (k:Int))=us.take (min k us.length):=by unfold cutV;rw[HT.sIx_nat,HT.sIx_none,Dr,Nat.sub_zero]
 rw[e];rcases Nat.le_total k us.length with h |h
 .rw[Nat.min_eq_left h]
 .rw[Nat.min_eq_right h,AL,Bx h]
theorem zm1{C:Cell->Bool}{e:Edge}(hw:e.w<4){n:Nat}(h:stepB C e=some n):n<8:=by
 unfold stepB at h;split at h
 .injection h with h;lia
 .split at h
  .injection h with h;lia
  .cases h
theorem zkG{x:Int}(h:-(10 ^ 30)<x/\x<10 ^ 30):NearI x:=by have e:((10:Int) ^ 31)=10000000000000000000000000000000:=rfl;have e':((10:Int) ^ 30)=1000000000000000000000000000000:=rfl;unfold NearI;rw[e];rw[e']at h;lia
theorem zoz{cs:List Cell}{es:List Edge}{r:Rnd}(h:Can (isIn cs) es r)(hl:cs.length<=120)(hn:∀c∈cs,CellN c)(hs:SoOk r):ROk r:=by
 have hel:es.length<=480:=by have:=h.cl.1.short;lia
 have hE:=h.cl.1.2.2.1;have hb:IsE (isIn cs) (begE r):=hE _ (An h.cl.1.1);have hc:(r.x,r.y)∈cs:=of_decide_eq_true hb.2.1;have hcn:=hn _ hc;refine⟨hs,zkG hcn.1,zkG hcn.2,zmn ?_ λn hn'=>?_⟩
 .rw[h.row];have:=Dm id (es.map (stepB (isIn cs)));rw[Ag]at this;lia
 .rw[h.row]at hn';obtain⟨o,ho,e⟩:=List.mem_filterMap.mp hn';obtain⟨ed,hed,rfl⟩:=AG.mp ho;exact zm1 (hE ed hed).1 e
theorem znB{cs:List Cell}{es:List Edge}{r:Rnd}(h:Can (isIn cs) es r)(hl:cs.length<=120)(hn:∀c∈cs,CellN c)(hb:∃x0 y0:Int,∀c∈cs,x0<=c.1/\c.1<x0+12/\y0<=c.2/\c.2<y0+10)(hs:SoOk r):RTx r/\GoodR r:=by
 have hel:es.length<=480:=by have:=h.cl.1.short;lia
 have hE:=h.cl.1.2.2.1;obtain⟨x0,y0,hb⟩:=hb;have h240:=zoA hb h.cl.1.2.2.2 hE;have hbe:IsE (isIn cs) (begE r):=hE _ (An h.cl.1.1);have hc:(r.x,r.y)∈cs:=of_decide_eq_true hbe.2.1;obtain⟨⟨a1,a2⟩,b1,b2⟩:=hn _ hc;have e':((10:Int) ^ 30)=1000000000000000000000000000000:=rfl;have e'':((10:Nat) ^ 30)=1000000000000000000000000000000:=rfl;rw[e']at a1 a2 b1 b2;refine⟨⟨zoz h hl hn hs,?_,?_,?_⟩,isIn cs,es,h,by lia⟩
 .rw[e''];show r.x.natAbs<_;simp only at a1 a2;lia
 .rw[e''];simp only at b1 b2;lia
 .rw[h.row];have:=Dm id (es.map (stepB (isIn cs)));rw[Ag]at this;lia
noncomputable def loneT (t:Int) (k:Nat):Rnd:=⟨"rim",2*(0+(k:Int))-t,t,[]⟩
theorem znr{t:Int}(h0:0<=t)(h1:t<=43){k:Nat}(hk:k<120):RTx (loneT t k)/\GoodR (loneT t k) :=
 ⟨ziB (.inl rfl) (by show -1000000<2*(0+(k:Int))-t/\2*(0+(k:Int))-t<1000000;lia) (by show -1000000<t/\t<1000000;lia) (AT _) (λm hm=>by cases hm),zha (k:=2) (n:=1) (by decide) (by decide) (by decide) _ _⟩
theorem zno{t:TS}{D:Ends}{σ:St}{H:Hp}(h:t D σ H):tNext { D with nx:=t D } σ H:=h
noncomputable def spLaw(K:W.Frag)(L:Addr):Sp:=λvs H Q _=>∃(a:Addr) (ns:List Int),vs=[.ref a]/\SqL K H a (ns.map V.int)/\ns.length<=63/\LamT L H/\∀H',Q (.bl true) H'
theorem zof {L:Addr}(T:Txt P w K mg) (g__law_picture:Fn P w K mg base 2 "_law_picture" ["_law_script", "_law_start"] (zmr K)) (g__law_traced:Fn P w K mg base 5 "_law_traced" ["_law_cells"] (zis K L)) (g__law_lines:Fn P w K mg base 2 "_law_lines" ["_law_script", "_law_start"] (ziw K))
  (g_read_rounds:Fn P w K mg base 7 "read_rounds" ["text"] (zj3 K)) (g_show_rounds:Fn P w K mg base 5 "show_rounds" ["some"] (zj1 K)) (g__law_written:Fn P w K mg base 1 "_law_written" ["_law_one"] ziu) (g__law_is_round:Fn P w K mg base 2 "_law_is_round" ["_law_found"] zgK)
  (g__law_cell_at:Fn P w K mg base 1 "_law_cell_at" ["_law_script","_law_k"] (zfK K)) (d:Df K mg "law" s_law ["_law_script"]):FnOk P w K mg base CX0 8 d.f d.fd ["_law_script"] (spLaw K L):=by
 refine d.F.ok zdX (λvs H Q E h=>?_) (λcdv A outer s H vs Q E hr h=>?_)
 .obtain⟨a,ns,rfl,_⟩:=h;rfl
 .obtain⟨a,ns,rfl,hS,hnl,hlam,k⟩:=h;have hu64:=hr.units;have nb0:(["_law_one"]:List Str).Nodup:=by decide +kernel
  have nb1:(["_law_one"]:List Str).Nodup:=by decide +kernel
  have nb2:(["_law_k","_law_turn"]:List Str).Nodup:=by decide +kernel
  have nb3:(["_law_one"]:List Str).Nodup:=by decide +kernel
  refine⟨_,(zac (sE 1 zdX.nd (pe_op zfw (pC g__law_lines hr (pa_N (pv 0) (pa_C zae zab))) (zbS zdL (pC g__law_traced hr (zah (pC g__law_picture hr (pa_N (pv 0) (pa_C zae zab))) zab)) zcU (zca zae))))
   (zac (zgS (i:=2) zdX.nd (by rfl) (Or.inr rfl) (pe_op zaS (pC g__law_cell_at hr (pa_N (pv 0) (pa_C zae zab))) (pe_op zaL (zan zaw (by rfl) T.nlen (by rfl) (pa_N (pv 1) zab)) zae)))
   (zac (sE 1 zdX.nd (pe_op zfw (zbS zdL (pv 1) (zca (pv 2)) zcU) (zbS zdL (pv 1) zcU (zca (pv 2)))))
   (zac (sE 3 zdX.nd (pe_bm Bf B5 B6 zdn zaC (zah (zaF (osc:=zad s_law) (N:=N_law) (N':=["_law_one"]) (sel:=[none]) bO (zaU (pv 1)) (λ_ _ _ _ _=>(nG 0 nb0)) (λ_ _ _ _ _=>za6) (λ_ _ _ _ _=>(pC g__law_written hr (pa_N (pv 0) zab)))) zab)))
   (zac (sE 4 zdX.nd (pC g_read_rounds hr (pa_N (pv 3) zab)))
   (zac (ps_if (pw_or (zck (zbK (zan zc8 (by rfl) T.nisinstance (by rfl) (pa_N (pv 4) (pa_N (zdS (v:=.ty "list") (by rfl) T.nlist (by rfl) rfl) zab))))) (pw_or (zap (zgX hu64) (pv 4) (pv 1) (zaq _)) (zdz (zck (zbK (zan (zdG rfl) (by rfl) T.nall (by rfl) (zah (zaF (osc:=zad s_law) (N:=N_law) (N':=["_law_one"]) (sel:=[none]) bO (zaU (pv 4)) (λ_ _ _ _ _=>(nG 0 nb1)) (λ_ _ _ _ _=>za6) (λ_ _ _ _ _=>(pC g__law_is_round hr (pa_N (pv 0) zab)))) zab))))))).pt
   (zag (zak pe_bl))
   zaB)
   (zac (ps_if (zap op_ne (pC g_show_rounds hr (pa_N (pv 4) zab)) (pv 3) (zaq _))
   (zag (zak pe_bl))
   zaB)
   (zac (zaY (pe_bm AO A4 A5 zaM (pv 4) (pa_T (zam (pa_C zaC (pa_C zae (pa_C zae (pa_T (zam zab) zab))))) zab)))
   (zac (ps_if (zap (zgX hu64) (pC g_read_rounds hr (pa_N (pv 3) zab)) (pv 1) (zaq _))
   (zag (zak pe_bl))
   zaB)
   (zac (zfX (i:=5) (osc:=zad s_law) (N:=N_law) (N':=["_law_k","_law_turn"]) (sel:=[none,some 2]) bO zdX.nd (by rfl) (Or.inl rfl) (zbX (by rfl) T.nrange (pa_C zae zab)) (λ_ _ _ _ _=>(nG 0 nb2)) (λ_ _ _ _ _=>za6) (λ_ _ _ _ _=>(zam (pa_C zaC (pa_B (pe_op zda (pe_op zbt zae (pv 0)) (pv 1)) (pa_N (pv 1) (pa_T (zam zab) zab)))))))
   (zac (ps_if (zap (zgX hu64) (pC g_read_rounds hr (zah (pe_bm Bf B5 B6 zdn zaC (zah (zaF (osc:=zad s_law) (N:=N_law) (N':=["_law_one"]) (sel:=[none]) bO (zaU (pv 5)) (λ_ _ _ _ _=>(nG 0 nb3)) (λ_ _ _ _ _=>za6) (λ_ _ _ _ _=>(pC g__law_written hr (pa_N (pv 0) zab)))) zab)) zab)) (pv 5) (zaq _))
   (zag (zak pe_bl))
   zaB)
   (zac (sE 6 zdX.nd (zng (pv 1) (pe_un zcF zae)))
   (zag (zak (zbc op_eq (zbc op_eq (pC g_show_rounds hr (pa_N (pv 6) zab)) (pv 3) (zaq _)) (zbc (zkA hu64) (pv 6) (pv 1) (zaq _)) (zaq _)))))))))))))))),?_⟩
  have hσ:L2.start N_law [V.ref a]=[some (.ref a),none,none,none,none,none,none]:=rfl;rw[hσ];refine⟨_,rfl,a,ns,12,rfl,hS,by decide,λpl H1 us R2 hpl s1 e1 v1 hl2 hR2=>?_⟩;refine⟨_,rfl,a,ns,1,rfl,s1.seq hS,λpc H2 cvs cs hpc s2 e2 hv2 hbf hcl hbox hnear=>?_⟩;have lam2:LamT L H2:=hlam.same (s1.trans s2);refine⟨pc,cvs,cs,rfl,e2,hv2,zod hbf,hcl,lam2,λpr H3 rv R R0 hpr b3 lam3 e3 hvr hpm _ hwh=>?_⟩;obtain⟨ESS,hcans⟩:=hwh.cans hpm
  have hRok:∀r∈R,RTx r/\GoodR r:=λr hr'=>by obtain⟨i,hi⟩:=List.getElem?_of_mem hr';obtain⟨es,_,hcan⟩:=hcans.so hi;exact znB hcan hcl hnear hbox (hwh.so r (hpm.mem_iff.mp hr'))
  have hS3:=b3.seq lam2 ((s1.trans s2).seq hS);have pl3:H3 pl=some (.lst us):=b3 _ _ (lam2.ne (s2 _ _ e1) nofun) (s2 _ _ e1);have k13:KT H1 H3:=(KT.of s2).trans (b3.kt lam2);refine⟨_,rfl,pr,rv,rfl,SqL.of e3,λsl hsl=>?_⟩;rw[show cutV rv none (some 40)=rv.take 40 from zle rv 40];have s4:=Same.up (o:=.lst (rv.take 40)) hsl;have e4:upd H3 sl (.lst (rv.take 40)) sl=some (.lst (rv.take 40)):=zaa;generalize upd H3 sl (.lst (rv.take 40))=H4 at s4 e4;have v4:=(hvr.takeS 40).mono λx v h=>rR.kt h (KT.of s4)
  have hl40:(R.take 40).length<=40:=by rw[AA];lia
  refine⟨pl,sl,_,_,rfl,rfl,s4 _ _ pl3,e4,zaA (by rw[(hvr.takeS 40).1,v1.1];lia),λz hz=>?_⟩;have s6:=Same.up (o:=.lst (us++rv.take 40)) hz;have e6:upd H4 z (.lst (us++rv.take 40)) z=some (.lst (us++rv.take 40)):=zaa;generalize upd H4 z (.lst (us++rv.take 40))=H6 at s6 e6;have v6:VR (us++rv.take 40) (R2++R.take 40) rR H6:=(v1.mono λx v h=>rR.kt h (k13.trans (KT.of (s4.trans s6)))).app (v4.mono λx v h=>rR.kt h (KT.of s6));have hS6:=(s4.trans s6).seq hS3
  have hok6:∀r∈R2++R.take 40,RTx r/\GoodR r:=λr hr'=>by
   rcases Az.mp hr' with h |h
   .exact hR2 r h
   .exact hRok r (BM h)
  have hl6:(R2++R.take 40).length<=43:=by rw[Am];lia
  generalize us++rv.take 40=ws0 at e6 v6;generalize R2++R.take 40=RA at v6 hok6 hl6;clear e4 pl3 v4 hvr hcans hwh hpm b3 lam3 s4 s6 v1 k13;simp only[zaG,AY,AZ];refine⟨_,rfl,a,ns,0,rfl,hS6,λc0=>⟨_,rfl,z,ws0,rfl,.inl (SqL.of e6),_,_,rfl,rfl,_,_,rfl,rfl,(by lia),?_⟩⟩;have wl0:ws0.length=RA.length:=v6.1
  obtain⟨t,ht,ht2⟩:∃t:Nat,c0 % ((ws0.length:Int)+1)=(t:Int)/\t<=ws0.length:=by have:=DF c0 (show (ws0.length:Int)+1≠0 by lia);have:=C3 c0 (show (0:Int)<(ws0.length:Int)+1 by lia);exact⟨(c0 % ((ws0.length:Int)+1)).toNat,by lia,by lia⟩
  simp only[zaG,AY,AZ];rw[ht];refine⟨_,rfl,_,rfl,_,rfl,z,ws0,rfl,SqL.of e6,λza hza=>?_⟩;rw[zi2 ws0 ht2];have s7:=Same.up (o:=.lst (ws0.drop t)) hza;have e7:upd H6 za (.lst (ws0.drop t)) za=some (.lst (ws0.drop t)):=zaa;generalize upd H6 za (.lst (ws0.drop t))=H7 at s7 e7;refine⟨_,rfl,_,rfl,_,rfl,z,ws0,rfl,SqL.of (s7 _ _ e6),λzb hzb=>?_⟩;rw[zmM ws0 ht2];have s8:=Same.up (o:=.lst (ws0.take t)) hzb;have e8:upd H7 zb (.lst (ws0.take t)) zb=some (.lst (ws0.take t)):=zaa;generalize upd H7 zb (.lst (ws0.take t))=H8 at s8 e8;refine⟨za,zb,_,_,rfl,rfl,s8 _ _ e7,e8,zaA (by rw[CW,AA];lia),λzz hzz=>?_⟩;have s9:=Same.up (o:=.lst (ws0.drop t++ws0.take t)) hzz;have e9:upd H8 zz (.lst (ws0.drop t++ws0.take t)) zz=some (.lst (ws0.drop t++ws0.take t)):=zaa;generalize upd H8 zz (.lst (ws0.drop t++ws0.take t))=H9 at s9 e9;have v9:VR (ws0.drop t++ws0.take t) (RA.drop t++RA.take t) rR H9:=(v6.rot t).mono λx v h=>rR.kt h (KT.of (s7.trans (s8.trans s9)))
  have hokB:∀r∈RA.drop t++RA.take t,RTx r/\GoodR r:=λr hr'=>by
   rcases Az.mp hr' with h |h
   .exact hok6 r (By h)
   .exact hok6 r (BM h)
  have hlB:(RA.drop t++RA.take t).length<=43:=by rw[Am,CW,AA];lia
  have htl:(t:Int)<=43:=by lia
  generalize ws0.drop t++ws0.take t=ws at e9 v9;generalize RA.drop t++RA.take t=RB at v9 hokB hlB;clear s7 s8 s9 e7 e8 v6 hok6 e6 hS6;have wsl:ws.length=RB.length:=v9.1;have hRok2:∀r∈RB,ROk r:=λr h=>(hokB r h).1.1
  have soOk:∀r∈RB,SoOk r:=λr h=>(hRok2 r h).1
  have lrs:=zek hRok2;have nl:(Aa "\n").length=1:=by decide
  simp only[zaG,AY,AZ];refine⟨rfl,_,rfl,zz,rfl,⟨_,SqL.of e9⟩,λg hg=>?_⟩
  refine zaH (K:=K) (a:=zz) (xs:=ws) (λj σ H2=>∃o0,σ=[o0]/\Same H9 H2/\H2 g=some (.lst (((RB.take j).map rndS).map V.str)))
   ⟨_,rfl,Same.up hg,zaa⟩ (λj σ H2 _ ⟨_,_,s2,_⟩=>SqL.of (s2 _ _ e9)) ?_ ?_
  .rintro j x σ H2 hj ⟨o0,rfl,s2,e2⟩;have hjl:j<ws.length:=(Ae.mp hj).1;obtain⟨r,hr',qr⟩:=v9.at hj;refine gN ?_
   refine⟨_,rfl,x,r,rfl,rR.kt qr (KT.of s2),hRok2 r (An hr'),λH3 s3=>?_⟩;refine⟨_,s3 _ _ e2,small1000 (by rw[Ag,Ag,AA];lia),_,rfl,zaj hg (s2.trans s3),?_⟩;rw[zaa,zay hr',Aq,Aq];rfl
  rintro σ H2 ⟨o0,rfl,s2,e2⟩;rw[wsl,AL]at e2;refine⟨_,g,RB.map rndS,rfl,rfl,e2,(by rw[nl,Ag];lia),?_⟩;simp only[zaG,AY,AZ];refine⟨_,rfl,RB,rfl,by lia,hokB,λq H3 fs hq s3 e3 v3=>?_⟩;simp only[zaG,AY,AZ];have s23:=s2.trans s3;refine⟨_,rfl,_,_,_,_,rfl,.lst e3,zdE _ _,_,rfl,iteF ?_⟩;have v9':=v9.mono λx v h=>rR.kt h (KT.of s23)
  refine⟨_,rfl,_,rfl,lR RB,lR RB,zbI (SqL.of e3) v3,zbI (SqL.of (s23 _ _ e9)) v9',zbF soOk,zbF soOk,_,rfl,iteN (by rw[ziZ,decide_eq_true rfl];rfl) ?_⟩;refine⟨_,rfl,q,rfl,⟨_,SqL.of e3⟩,λg4 hg4=>?_⟩;have fsl:fs.length=RB.length:=v3.1
  refine zaH (K:=K) (a:=q) (xs:=fs) (λj σ H4=>∃o0,σ=[o0]/\Same H3 H4/\H4 g4=some (.lst ((Ac j true).map V.bl)))
   ⟨_,rfl,Same.up hg4,zaa⟩ (λj σ H4 _ ⟨_,_,s4,_⟩=>SqL.of (s4 _ _ e3)) ?_ ?_
  .rintro j x σ H4 hj ⟨o0,rfl,s4,e4⟩;have hjl:j<fs.length:=(Ae.mp hj).1;obtain⟨r,hr',qr⟩:=v3.at hj;have hrr:=(hokB r (An hr')).1.2.2.2;refine gN ?_
   refine⟨_,rfl,x,r,rfl,rR.kt qr (KT.of s4),by lia,λH5 s5=>?_⟩;refine⟨_,s5 _ _ e4,small1000 (by rw[Ag,AR];lia),_,rfl,zaj hg4 (s4.trans s5),?_⟩;rw[zaa,CK,Aq];rfl
  rintro σ H4 ⟨o0,rfl,s4,e4⟩;refine⟨g4,_,rfl,SqL.of e4,_,rfl,?_⟩;have hall:((Ac fs.length true).all id)=true:=by rw[List.all_eq_true];intro b hb;exact (Ex.mp hb).2
  rw[hall];refine iteF ?_
  have e34:=s4 _ _ e3;have v4:=v3.mono λx v h=>rR.kt h (KT.of s4)
  refine zno ?_
  refine⟨_,rfl,q,fs,RB,rfl,e34,v4,by lia,hRok2,λH5 s5=>?_⟩;refine⟨_,rfl,rfl,_,rfl,iteN (by rw[decide_eq_true (rfl:V.str (Bu (Aa "\n") (RB.map rndS))=V.str (Bu (Aa "\n") (RB.map rndS)))];rfl) ?_⟩;refine⟨_,rfl,.inl ⟨rfl,_,SqL.of (s5 _ _ e34)⟩,AT _,λtn htn=>⟨four,λt4 ht4=>?_⟩⟩;have hq9:H9 q=none:=s2.free hq;have s6:Same H5 (upd (upd H5 tn (.tup [])) t4 (.tup [V.str (Aa "rim"),V.int 0,V.int 0,V.ref tn])):=(Same.up htn).trans (Same.up ht4);dsimp only;generalize upd (upd H5 tn (.tup [])) t4 (.tup [V.str (Aa "rim"),V.int 0,V.int 0,V.ref tn])=H6 at s6;have s36:=s4.trans (s5.trans s6);refine⟨q,fs,_,rfl,rfl,s36 _ _ e3,small1000 (by lia),?_⟩;have s10:Same H9 (upd H6 q (.lst (fs++[.ref t4]))):=zaj hq9 (s23.trans s36);generalize upd H6 q (.lst (fs++[.ref t4]))=H10 at s10;have e10:=s10 _ _ e9;have v10:=v9.mono λx v h=>rR.kt h (KT.of s10)
  clear s23 s36 s4 s5 s6 e34 v4 v9' e4 e2 e3 v3;refine⟨_,rfl,RB,rfl,by lia,hokB,λq2 H11 fs2 hq2 s11 e11 v11=>?_⟩;refine⟨_,rfl,lR RB,lR RB,zbI (SqL.of e11) v11,zbI (SqL.of (s11 _ _ e10)) (v10.mono λx v h=>rR.kt h (KT.of s11)),zbF soOk,zbF soOk,_,rfl,iteN (by rw[ziZ,decide_eq_true rfl];rfl) ?_⟩;have s911:=s10.trans s11;refine⟨120,rfl,by decide,by decide,λg5 hg5=>?_⟩
  refine zb0 (lo:=0) (n:=120) (λj σ H12=>∃o0,σ=[o0,some (.int (t:Int))]/\Same H11 H12/\∃zs,H12 g5=some (.lst zs)/\VR zs ((Bq j).map (loneT t)) rR H12)
   ⟨_,rfl,Same.up hg5,[],zaa,VR.nil⟩ ?_ ?_
  .rintro j σ H12 hj ⟨o0,rfl,s12,zs,e12,v12⟩;have hzl:zs.length=j:=by rw[v12.1,Ag,Ck]
   refine gN ?_
   refine⟨_,rfl,_,_,rfl,rfl,.inl ⟨by decide,by decide⟩,_,rfl,_,_,rfl,rfl,?_⟩;refine⟨_,rfl,AT _,λtn htn=>⟨four,λt4 ht4=>?_⟩⟩;have s13:=(Same.up (o:=.tup []) htn).trans (Same.up (o:=.tup [V.str (Aa "rim"),V.int (2*(0+(j:Int))-t),V.int t,V.ref tn]) ht4);have t13:upd (upd H12 tn (.tup [])) t4 (.tup [V.str (Aa "rim"),V.int (2*(0+(j:Int))-t),V.int t,V.ref tn]) t4=some (.tup [V.str (Aa "rim"),V.int (2*(0+(j:Int))-t),V.int t,V.ref tn]):=zaa;have n13:upd (upd H12 tn (.tup [])) t4 (.tup [V.str (Aa "rim"),V.int (2*(0+(j:Int))-t),V.int t,V.ref tn]) tn=some (.tup []):=Same.up ht4 _ _ zaa;dsimp only;generalize upd (upd H12 tn (.tup [])) t4 (.tup [V.str (Aa "rim"),V.int (2*(0+(j:Int))-t),V.int t,V.ref tn])=H13 at s13 t13 n13;have e13:=s13 _ _ e12;have k14:KT H13 (upd H13 g5 (.lst (zs++[.ref t4]))):=KT.lst e13;refine⟨zs,e13,small1000 (by lia),_,rfl,zaj hg5 (s12.trans s13),_,zaa,?_⟩;rw[List.range_succ,Aq];exact v12.snoc (λx v h=>rR.kt h ((KT.of s13).trans k14)) (rR.kt (⟨t4,tn,rfl,t13,n13⟩:rR (loneT t j) (.ref t4) H13) k14)
  rintro σ H12 ⟨o0,rfl,s12,zs,e12,v12⟩
  have hmo:∀r∈(Bq 120).map (loneT t),RTx r/\GoodR r:=λr hr'=>by obtain⟨j,hj,rfl⟩:=AG.mp hr';exact znr (by lia) htl (Ce.mp hj)
  have hml:((Bq 120).map (loneT t)).length=120:=by rw[Ag,Ck]
  generalize (Bq 120).map (loneT t)=MM at v12 hmo hml;have zsl:zs.length=MM.length:=v12.1;have hmr:∀r∈MM,ROk r:=λr h=>(hmo r h).1.1
  have smo:∀r∈MM,SoOk r:=λr h=>(hmr r h).1
  have lrm:=zek hmr;simp only[zaG,AY,AZ];refine⟨rfl,_,rfl,g5,rfl,⟨_,SqL.of e12⟩,λg6 hg6=>?_⟩
  refine zaH (K:=K) (a:=g5) (xs:=zs) (λj σ H14=>∃o0,σ=[o0]/\Same H12 H14/\H14 g6=some (.lst (((MM.take j).map rndS).map V.str)))
   ⟨_,rfl,Same.up hg6,zaa⟩ (λj σ H14 _ ⟨_,_,s14,_⟩=>SqL.of (s14 _ _ e12)) ?_ ?_
  .rintro j x σ H14 hj ⟨o0,rfl,s14,e14⟩;have hjl:j<zs.length:=(Ae.mp hj).1;obtain⟨r,hr',qr⟩:=v12.at hj;refine gN ?_
   refine⟨_,rfl,x,r,rfl,rR.kt qr (KT.of s14),hmr r (An hr'),λH15 s15=>?_⟩;refine⟨_,s15 _ _ e14,small1000 (by rw[Ag,Ag,AA];lia),_,rfl,zaj hg6 (s14.trans s15),?_⟩;rw[zaa,zay hr',Aq,Aq];rfl
  rintro σ H14 ⟨o0,rfl,s14,e14⟩;rw[zsl,AL]at e14;refine⟨_,g6,MM.map rndS,rfl,rfl,e14,(by rw[nl,Ag];lia),?_⟩;refine⟨MM,rfl,by lia,hmo,λq3 H15 fs3 hq3 s15 e15 v15=>?_⟩;have e15':=s15 _ _ (s14 _ _ e12);refine⟨_,rfl,lR MM,lR MM,zbI (SqL.of e15) v15,zbI (SqL.of e15') (v12.mono λx v h=>rR.kt h (KT.of (s14.trans s15))),zbF smo,zbF smo,_,rfl,iteN (by rw[ziZ,decide_eq_true rfl];rfl) ?_⟩;have s915:=s911.trans (s12.trans (s14.trans s15));have e915:=s915 _ _ e9;refine⟨_,rfl,_,rfl,rfl,zz,ws,rfl,SqL.of e915,λzr hzr=>?_⟩;have s16:=Same.up (o:=.lst ws.reverse) hzr;have e16:upd H15 zr (.lst ws.reverse) zr=some (.lst ws.reverse):=zaa;generalize upd H15 zr (.lst ws.reverse)=H16 at s16 e16;have s916:=s915.trans s16;have v16:=v9.rev.mono λx v h=>rR.kt h (KT.of s916)
  have hrev:∀r∈RB.reverse,RTx r/\GoodR r:=λr h=>hokB r (List.mem_reverse.mp h)
  have hrr:∀r∈RB.reverse,ROk r:=λr h=>(hrev r h).1.1
  have srr:∀r∈RB.reverse,SoOk r:=λr h=>(hrr r h).1
  refine⟨_,rfl,zr,ws.reverse,RB.reverse,rfl,e16,v16,by rw[Do];lia,hrr,λH17 s17=>?_⟩;have e17:=s17 _ _ e16;have e917:=(s916.trans s17) _ _ e9;refine⟨_,rfl,rfl,_,rfl,_,rfl,lR RB.reverse,lR RB,zbI (SqL.of e17) (v16.mono λx v h=>rR.kt h (KT.of s17)),zbI (SqL.of e917) (v9.mono λx v h=>rR.kt h (KT.of (s916.trans s17))),zbF srr,zbF soOk,rfl,?_⟩
  have hb:decide (V.str (Bu (Aa "\n") (RB.reverse.map rndS))=V.str (Bu (Aa "\n") (RB.map rndS)))=DQ (lR RB.reverse) (lR RB):=by rw[ziZ];refine decide_eq_decide.mpr ⟨λz=>?_,λz=>by rw[z]⟩;injection z with z;exact zmU (λr h=>(hrev r h).1) (λr h=>(hokB r h).1) z
  rw[hb,decide_eq_true rfl];exact k H17
end
theorem all_mk {L0:Addr}{l:W.OpenLaw}{w:A7}{K:W.Frag}{h:Heap}{mg:Str -> Option Value}{fa:Addr}(X:K.In h) (G:h.Ns AH mg) (hfa:mg "law" = some (.ref fa)){fx46 fx51:Addr}{od46 an46 od51 an51:Option Addr}{sl46 sl51:Array (Option Value)}{oc46 kV46 dc46 pm46 ct46 oc51 kV51 dc51 pm51 ct51 cd51:Value}{cc0:Addr}{hd0:Option Addr}{hv0:Array Value}{hs0:Array (Option Value)}
  (h0:DA K "cell_order" zcP)
  (h1:DA K "gone" zkh)
  (h2:DA K "gap_beside" zcN)
  (h3:DA K "straight_step" zbW)
  (h4:DA K "slant_step" zcL)
  (h5:DA K "is_slant" zdO)
  (h6:DA K "edge_behind" zcr)
  (h7:DA K "lefts_and_slants" zaO)
  (h8:DA K "lefts_less_slants" zbh)
  (h9:DA K "begin_of" zc4)
  (h10:DA K "begin_edge" zcQ)
  (h11:DA K "way_for" zex)
  (h12:DA K "deeds_along" zcs)
  (h13:DA K "walk_by" zez)
  (h14:DA K "walk_along" zcK)
  (h15:DA K "seen_between" zb8)
  (h16:DA K "gainsaid_at" zcq)
  (h17:DA K "comes_back" zcO)
  (h18:DA K "is_closed" zdi)
  (h19:DA K "walk_of" zey)
  (h20:DA K "ask_round" zdj)
  (h21:DA K "runs_of" zeB)
  (h22:DA K "row_of_runs" zbP)
  (h23:DA K "by_figures" zb3)
  (h24:DA K "by_runs" zdy)
  (h25:DA K "show_row" zdN)
  (h26:DA K "show_round" zcM)
  (h27:DA K "show_rounds" zbO)
  (h28:DA K "are_figures" zbR)
  (h29:DA K "sort_in" zeA)
  (h30:DA K "number_in" zdh)
  (h31:DA K "run_in" zfT)
  (h32:DA K "runs_in" zci)
  (h33:DA K "figures_in" zbH)
  (h34:DA K "row_in" zfU)
  (h35:DA K "things_read" zcp)
  (h36:DA K "read_rounds" zbQ)
  (h37:DA K "_law_cell_at" zb9)
  (h38:DA K "_law_row" zdP)
  (h39:DA K "_law_picture" zbD)
  (h40:DA K "_law_gone" zdk)
  (h41:DA K "_law_lot" zdQ)
  (h42:DA K "_law_behind" zcu)
  (h43:DA K "_law_edges" zb4)
  (h44:DA K "_law_walked" zct)
  (h45:DA K "_law_told" zbz)
  (a46:Cn K AH "_law_traced" = some (some (.ref fx46))) (l46:K.lookup fx46=some ⟨oc46,od46,.func (D4 "_law_traced" "_law_traced" (zbi zaX) (za8 zaX) (zad zaX) .none kV46 dc46 pm46 an46 (.ref cc0) ct46),sl46⟩) (c46:W.codeIn K (.ref cc0) "_law_traced" = true) (k46:DP K (.ref fx46)=true)
  (lc0:K.lookup cc0=some ⟨.type "code",hd0,.fields hv0,hs0⟩) (lh0:hdOk hv0 cc0 L0=true)
  (h47:DA K "_law_written" zbC)
  (h48:DA K "_law_lines" zcS)
  (h49:DA K "_law_whole" zcR)
  (h50:DA K "_law_is_round" zbs)
  (a51:Cn K AH "law" = some (some (.ref fx51))) (l51:K.lookup fx51=some ⟨oc51,od51,.func (D4 "law" "law" (zbi s_law) (za8 s_law) (zad s_law) .none kV51 dc51 pm51 an51 cd51 ct51),sl51⟩) (c51:W.codeIn K cd51 "law" = true) (k51:DP K (.ref fx51)=true)
  {M m0 m1 m2 m3 m4 m5 m6 m7:Addr}{odM:Option Addr}{nM:Nat}{slM:Array (Option Value)}
  (aM:Cn K AH "MOVES" = some (some (.ref M))) (lM:K.lookup M=some ⟨.type "tuple",odM,.seq #[.ref m0,.ref m1,.ref m2,.ref m3,.ref m4,.ref m5,.ref m6,.ref m7] nM,slM⟩)
  {odm0:Option Addr}{nm0:Nat}{slm0:Array (Option Value)}{tm0 um0:Tok} (x0:K.lookup m0=some ⟨.type "tuple",odm0,.seq #[.int (1) tm0,.int (0) um0] nm0,slm0⟩)
  {odm1:Option Addr}{nm1:Nat}{slm1:Array (Option Value)}{tm1 um1:Tok} (x1:K.lookup m1=some ⟨.type "tuple",odm1,.seq #[.int (1) tm1,.int (1) um1] nm1,slm1⟩)
  {odm2:Option Addr}{nm2:Nat}{slm2:Array (Option Value)}{tm2 um2:Tok} (x2:K.lookup m2=some ⟨.type "tuple",odm2,.seq #[.int (0) tm2,.int (1) um2] nm2,slm2⟩)
  {odm3:Option Addr}{nm3:Nat}{slm3:Array (Option Value)}{tm3 um3:Tok} (x3:K.lookup m3=some ⟨.type "tuple",odm3,.seq #[.int (-1) tm3,.int (1) um3] nm3,slm3⟩)
  {odm4:Option Addr}{nm4:Nat}{slm4:Array (Option Value)}{tm4 um4:Tok} (x4:K.lookup m4=some ⟨.type "tuple",odm4,.seq #[.int (-1) tm4,.int (0) um4] nm4,slm4⟩)
  {odm5:Option Addr}{nm5:Nat}{slm5:Array (Option Value)}{tm5 um5:Tok} (x5:K.lookup m5=some ⟨.type "tuple",odm5,.seq #[.int (-1) tm5,.int (-1) um5] nm5,slm5⟩)
  {odm6:Option Addr}{nm6:Nat}{slm6:Array (Option Value)}{tm6 um6:Tok} (x6:K.lookup m6=some ⟨.type "tuple",odm6,.seq #[.int (0) tm6,.int (-1) um6] nm6,slm6⟩)
  {odm7:Option Addr}{nm7:Nat}{slm7:Array (Option Value)}{tm7 um7:Tok} (x7:K.lookup m7=some ⟨.type "tuple",odm7,.seq #[.int (1) tm7,.int (-1) um7] nm7,slm7⟩)
  {B:Addr}{t1 t2 t3 t4:Tok}{nB:Nat} (aB:Cn K AH "BEGIN_WAYS" = some (some (.ref B))) (lB:K.lookup B=some ⟨.type "dict",none,.dict #[⟨Bc w.params "rim",.str "rim" t1,.int 0 t2⟩,⟨Bc w.params "hole",.str "hole" t3,.int 2 t4⟩] nB,#[]⟩)
  (sB:(B == PySem.sysModules)=false)
  {B2:Addr}{u1 u2 u3 u4:Tok}{nB2:Nat} (aB2:Cn K AH "MORE_LEFTS" = some (some (.ref B2))) (lB2:K.lookup B2=some ⟨.type "dict",none,.dict #[⟨Bc w.params "rim",.str "rim" u1,.int 4 u2⟩,⟨Bc w.params "hole",.str "hole" u3,.int (-4) u4⟩] nB2,#[]⟩)
  {tMT tSF tMF tFG:Tok}{pPW fS fN fR bRD:Addr}{odP:Option Addr}{slP:Array (Option Value)}{nPW nRD:Nat}{tw1 tw2 tw3 tw4 tr1 tr3 tr5:Tok} (xMT:Cn K AH "MOST_STEPS" = some (some (.int 240 tMT))) (xSF:Cn K AH "STEP_FIGURES" = some (some (.str "01234567" tSF))) (xMF:Cn K AH "MOST_FIGURES" = some (some (.int 30 tMF))) (xFG:Cn K AH "FIGURES" = some (some (.str "0123456789" tFG)))
  (xPW:Cn K AH "ROUND_WORDS" = some (some (.ref pPW))) (xSI:Cn K AH "sort_in" = some (some (.ref fS))) (xNI:Cn K AH "number_in" = some (some (.ref fN))) (xRI:Cn K AH "row_in" = some (some (.ref fR))) (xRD:Cn K AH "READERS" = some (some (.ref bRD)))
  (xPL:K.lookup pPW=some ⟨.type "tuple",odP,.seq #[.str "sort" tw1,.str "number" tw2,.str "number" tw3,.str "row" tw4] nPW,slP⟩)
  (xRL:K.lookup bRD=some ⟨.type "dict",none,.dict #[⟨Bc w.params "sort",.str "sort" tr1,.ref fS⟩,⟨Bc w.params "number",.str "number" tr3,.ref fN⟩,⟨Bc w.params "row",.str "row" tr5,.ref fR⟩] nRD,#[]⟩)
  (z_range:Cn K AH "range" = some none)
  (z_len:Cn K AH "len" = some none)
  (z_min:Cn K AH "min" = some none)
  (z_sorted:Cn K AH "sorted" = some none)
  (z_tuple:Cn K AH "tuple" = some none)
  (z_int:Cn K AH "int" = some none)
  (z_bool:Cn K AH "bool" = some none)
  (z_str:Cn K AH "str" = some none)
  (z_isinstance:Cn K AH "isinstance" = some none)
  (z_list:Cn K AH "list" = some none)
  (z_enumerate:Cn K AH "enumerate" = some none)
  (z_all:Cn K AH "all" = some none)
  (z_sum:Cn K AH "sum" = some none) :
  ∃fd:BI,(∀(s:Af) (v:Value),BindsTo s fd ⟨[v],[]⟩ [("_law_script",v)])/\(∀P∈[L0],∃c,Dx K c P=true)/\∀base:Heap,K.In base->base.Ns AH mg->Bm mg base->FnOk l.prog w K mg base CX0 8 fa fd ["_law_script"] (spLaw K L0):=by
 have e:=hfa.symm.trans (CC X G a51)
 cases e
 have moves:∃M,mg "MOVES" = some (.ref M)/\∀H,∃ms:List Addr,SqT K H M (ms.map V.ref)/\ms.length=8/\∀(i:Nat) a,ms[i]?=some a->SqT K H a [.int (mv i).1,.int (mv i).2]:=by
  refine⟨M,CC X G aM,λH=>⟨[m0,m1,m2,m3,m4,m5,m6,m7],.inr ⟨_,_,_,lM,rfl,rfl,(by show 8<=sizeLine;decide),.cons rfl (.cons rfl (.cons rfl (.cons rfl (.cons rfl (.cons rfl (.cons rfl (.cons rfl .nil)))))))⟩,rfl,λi a e=>?_⟩⟩
  match i,e with
  | 0,e=>cases e;exact .inr ⟨_,_,_,x0,rfl,rfl,(by show 2<=sizeLine;decide),.cons ⟨_,rfl⟩ (.cons ⟨_,rfl⟩ .nil)⟩
  | 1,e=>cases e;exact .inr ⟨_,_,_,x1,rfl,rfl,(by show 2<=sizeLine;decide),.cons ⟨_,rfl⟩ (.cons ⟨_,rfl⟩ .nil)⟩
  | 2,e=>cases e;exact .inr ⟨_,_,_,x2,rfl,rfl,(by show 2<=sizeLine;decide),.cons ⟨_,rfl⟩ (.cons ⟨_,rfl⟩ .nil)⟩
  | 3,e=>cases e;exact .inr ⟨_,_,_,x3,rfl,rfl,(by show 2<=sizeLine;decide),.cons ⟨_,rfl⟩ (.cons ⟨_,rfl⟩ .nil)⟩
  | 4,e=>cases e;exact .inr ⟨_,_,_,x4,rfl,rfl,(by show 2<=sizeLine;decide),.cons ⟨_,rfl⟩ (.cons ⟨_,rfl⟩ .nil)⟩
  | 5,e=>cases e;exact .inr ⟨_,_,_,x5,rfl,rfl,(by show 2<=sizeLine;decide),.cons ⟨_,rfl⟩ (.cons ⟨_,rfl⟩ .nil)⟩
  | 6,e=>cases e;exact .inr ⟨_,_,_,x6,rfl,rfl,(by show 2<=sizeLine;decide),.cons ⟨_,rfl⟩ (.cons ⟨_,rfl⟩ .nil)⟩
  | 7,e=>cases e;exact .inr ⟨_,_,_,x7,rfl,rfl,(by show 2<=sizeLine;decide),.cons ⟨_,rfl⟩ (.cons ⟨_,rfl⟩ .nil)⟩
  |i+8,e=>exact absurd (Ae.mp e).1 (by simp)
 have ways:Ways l.prog w K mg:=⟨⟨B,t1,t2,t3,t4,nB,CC X G aB,lB⟩⟩;have T:Txt l.prog w K mg:={ moves:=moves,ways:=ways,nsys:=λ_ e=>by cases (CC X G aB).symm.trans e;exact sB,more:=⟨⟨B2,u1,u2,u3,u4,nB2,CC X G aB2,lB2⟩⟩,nrange:=B8 X G z_range,nlen:=B8 X G z_len,nmin:=B8 X G z_min,nsorted:=B8 X G z_sorted,ntuple:=B8 X G z_tuple,nint:=B8 X G z_int,nbool:=B8 X G z_bool,nstr:=B8 X G z_str,nisinstance:=B8 X G z_isinstance,nlist:=B8 X G z_list,nenumerate:=B8 X G z_enumerate,nall:=B8 X G z_all,nsum:=B8 X G z_sum };obtain⟨d'0⟩:=h0.d1 X G (p0:="cell");obtain⟨d'1⟩:=h1.d3 X G (p0:="x") (p1:="y") (p2:="step");obtain⟨d'2⟩:=h2.d1 X G (p0:="edge");obtain⟨d'3⟩:=h3.d1 X G (p0:="way");obtain⟨d'4⟩:=h4.d1 X G (p0:="way");obtain⟨d'5⟩:=h5.d1 X G (p0:="step");obtain⟨d'6⟩:=h6.d2 X G (p0:="edge") (p1:="step");obtain⟨d'7⟩:=h7.d1 X G (p0:="walk");obtain⟨d'8⟩:=h8.d1 X G (p0:="walk");obtain⟨d'9⟩:=h9.d2 X G (p0:="walk") (p1:="sort");obtain⟨d'a⟩:=h10.d1 X G (p0:="one");obtain⟨d'b⟩:=h11.d1 X G (p0:="step");obtain⟨d'c⟩:=h12.d2 X G (p0:="begin_way") (p1:="row");obtain⟨d'd⟩:=h13.d2 X G (p0:="begin") (p1:="deeds");obtain⟨d'e⟩:=h14.d2 X G (p0:="begin") (p1:="row");obtain⟨d'f⟩:=h15.d2 X G (p0:="edge") (p1:="step");obtain⟨d'10⟩:=h16.d1 X G (p0:="walk");obtain⟨d'11⟩:=h17.d1 X G (p0:="walk");obtain⟨d'12⟩:=h18.d2 X G (p0:="walk") (p1:="sort");obtain⟨d'13⟩:=h19.d1 X G (p0:="one");obtain⟨d'14⟩:=h20.d1 X G (p0:="one");obtain⟨d'15⟩:=h21.d1 X G (p0:="row");obtain⟨d'16⟩:=h22.d1 X G (p0:="runs");obtain⟨d'17⟩:=h23.d1 X G (p0:="row");obtain⟨d'18⟩:=h24.d1 X G (p0:="row");obtain⟨d'19⟩:=h25.d1 X G (p0:="row");obtain⟨d'1a⟩:=h26.d1 X G (p0:="one");obtain⟨d'1b⟩:=h27.d1 X G (p0:="some");obtain⟨d'1c⟩:=h28.d1 X G (p0:="word");obtain⟨d'1d⟩:=h29.d1 X G (p0:="word");obtain⟨d'1e⟩:=h30.d1 X G (p0:="word");obtain⟨d'1f⟩:=h31.d1 X G (p0:="word");obtain⟨d'20⟩:=h32.d1 X G (p0:="word");obtain⟨d'21⟩:=h33.d1 X G (p0:="word");obtain⟨d'22⟩:=h34.d1 X G (p0:="word");obtain⟨d'23⟩:=h35.d3 X G (p0:="text") (p1:="at") (p2:="forms");obtain⟨d'24⟩:=h36.d1 X G (p0:="text");obtain⟨d'25⟩:=h37.d2 X G (p0:="_law_script") (p1:="_law_k");obtain⟨d'26⟩:=h38.d3 X G (p0:="_law_cell") (p1:="_law_many") (p2:="_law_base");obtain⟨d'27⟩:=h39.d2 X G (p0:="_law_script") (p1:="_law_start");obtain⟨d'28⟩:=h40.d3 X G (p0:="_law_x") (p1:="_law_y") (p2:="_law_step");obtain⟨d'29⟩:=h41.d1 X G (p0:="_law_cells");obtain⟨d'2a⟩:=h42.d2 X G (p0:="_law_there") (p1:="_law_edge");obtain⟨d'2b⟩:=h43.d1 X G (p0:="_law_there");obtain⟨d'2c⟩:=h44.d2 X G (p0:="_law_there") (p1:="_law_first");obtain⟨d'2d⟩:=h45.d2 X G (p0:="_law_edges_here") (p1:="_law_steps");have F46:=zd3 (st:=zaX) l46 c46 k46;have b46:=F46.b1 (p0:="_law_cells");obtain⟨d'2e,hc_0⟩:∃d:Df K mg "_law_traced" zaX ["_law_cells"],d.fd.code=.ref cc0:=⟨⟨fx46,_,F46,CC X G a46,b46⟩,rfl⟩;obtain⟨d'2f⟩:=h47.d1 X G (p0:="_law_one");obtain⟨d'30⟩:=h48.d2 X G (p0:="_law_script") (p1:="_law_start");obtain⟨d'31⟩:=h49.d1 X G (p0:="_law_found");obtain⟨d'32⟩:=h50.d1 X G (p0:="_law_found");have F51:=zd3 (st:=s_law) l51 c51 k51;have b51:=F51.b1 (p0:="_law_script");have hh_0:Dx K cc0 L0=true:=hd_of lc0 lh0;refine⟨D4 "law" "law" (zbi s_law) (za8 s_law) (zad s_law) .none kV51 dc51 pm51 an51 cd51 ct51,λs v=>.of_eq rfl,List.forall_mem_cons.mpr ⟨⟨cc0,hh_0⟩,λ_ z=>nomatch z⟩,λbase _ _ hB=>?_⟩;have fn:∀{k:Nat}{x:Str}{s:Stmt}{ps:List Str}{sp:Sp} (d:Df K mg x s ps),FnOk l.prog w K mg base CX0 k d.f d.fd ps sp->Fn l.prog w K mg base k x ps sp:=λd h=>d.fn h
 have g'33:=fn d'0 (zf9 d'0);have g'34:=fn d'1 (znm T d'1);have g'35:=fn d'3 (zec d'3);have g'36:=fn d'4 (zf1 d'4);have g'37:=fn d'5 (zhU d'5);have g'38:=fn d'2 (zf6 g'34 d'2);have g'39:=fn d'6 (zfa g'34 g'37 d'6);have g'3a:=fn d'7 (zdm T g'37 d'7);have g'3b:=fn d'8 (zc9 g'3a d'8);have g'3c:=fn d'9 (zhV T g'33 d'9);have g'3d:=fn d'a (zgb T d'a);have g'3e:=fn d'b (zjo d'b);have g'3f:=fn d'c (zfb g'3e d'c);have g'40:=fn d'd (zjq g'39 d'd);have g'41:=fn d'e (zf0 g'40 g'3f d'e);have g'42:=fn d'f (zeF g'39 g'38 g'37 g'34 g'36 g'35 d'f);have g'43:=fn d'10 (ze9 g'42 d'10);have g'44:=fn d'11 (zf8 g'39 d'11);have g'45:=fn d'12 (zg3 T g'44 g'3b d'12);have g'46:=fn d'13 (zjp g'3d g'41 g'43 g'45 g'3c d'13);have g'47:=fn d'14 (zg4 g'46 d'14);have g'48:=fn d'15 (zjs d'15);have g'49:=fn d'16 (ze4 T d'16);have g'4a:=fn d'17 (zga T d'17);have g'4b:=fn d'18 (zjw T g'48 d'18);have g'4c:=fn d'19 (zhR T g'4b g'4a d'19);have g'4d:=fn d'1a (zf2 T g'4c d'1a);have g'4e:=fn d'1b (ze3 T g'4d d'1b);have g'4f:=fn d'1c (zfc T (CC X G xFG) d'1c);have g'50:=fn d'1d (zjr T d'1d);have g'51:=fn d'1e (zgZ T (CC X G xMF) g'4f d'1e);have g'52:=fn d'1f (zkB T (CC X G xSF) g'4f d'1f);have g'53:=fn d'20 (zjt T (CC X G xMT) g'52 g'49 d'20);have g'54:=fn d'21 (zf7 T (CC X G xMT) (CC X G xSF) d'21);have g'55:=fn d'22 (zkC T g'53 g'54 g'4c d'22);have g'56:=(by have e1:=(CC X G xSI).symm.trans g'50.m;injection e1 with e1;injection e1 with e1;have e2:=(CC X G xNI).symm.trans g'51.m;injection e2 with e2;injection e2 with e2;have e3:=(CC X G xRI).symm.trans g'55.m;injection e3 with e3;injection e3 with e3;subst e1 e2 e3;exact⟨⟨_,_,_,_,_,CC X G xRD,xRL⟩⟩:Rds3 l.prog w K mg g'50.f g'51.f g'55.f);have g'57:=fn d'23 (ze2 T g'50 g'51 g'55 g'56 d'23);have g'58:=fn d'24 (ze5 T (CC X G xPW) (λH=>.inr ⟨_,_,_,xPL,rfl,rfl,(by show 4<=sizeLine;decide),.cons ⟨_,rfl⟩ (.cons ⟨_,rfl⟩ (.cons ⟨_,rfl⟩ (.cons ⟨_,rfl⟩ .nil)))⟩) g'57 g'47 d'24);have g'59:=fn d'25 (ze8 T d'25);have g'5a:=fn d'26 (zju T d'26);have g'5b:=fn d'27 (ze7 T g'59 g'5a d'27);have g'5c:=fn d'28 (zhT d'28);have g'5d:=fn d'29 (zjv d'29);have g'5e:=fn d'2a (zf5 g'5c d'2a);have g'5f:=fn d'2c (zf3 g'5e d'2c);have g'60:=fn d'2b (zg2 T g'5c d'2b);have g'61:=fn d'2d (zhS T d'2d);have g'62:=fn d'2e (zf4 T hB hh_0 g'5d g'60 g'5f g'61 d'2e hc_0);have g'63:=fn d'2f (ze6 T d'2f);have g'64:=fn d'30 (zg1 T g'5a d'30);have g'65:=fn d'31 (zg0 T d'31);have g'66:=fn d'32 (zeG T g'65 d'32);exact zof T g'5b g'62 g'64 g'58 g'4e g'63 g'66 g'59 ⟨_,_,F51,CC X G a51,b51⟩
theorem walk{L0:Addr}{l:W.OpenLaw}{q:AF}{loose:List Str}{XP:(Str -> Option Value) -> Heap -> Prop}{YP:A7 -> Heap -> Prop}{d:DefRec}{K:Params -> W.Frag}(hn:l.most=some 63)(hdf:d.params.defaults = [])
  (hY:∀(w:A7) (h:Heap),YP w h->(K w.params).In h/\(∀P∈[L0],h.get? P=some (W.tabObj #[]))/\∀P∈[L0],(K w.params).lookup P=none)
  (F:∀(w:A7) (mg:Str->Option Value) (fa:Addr) (h:Heap),(K w.params).In h->h.Ns AH mg->mg d.name=some (.ref fa) ->
   ∃fd:BI,(∀(s:Af) (u:Value),BindsTo s fd ⟨[u],[]⟩ [("_law_script",u)])/\(∀P∈[L0],∃c,Dx (K w.params) c P=true)/\∀base:Heap,(K w.params).In base->base.Ns AH mg->Bm mg base->FnOk l.prog w (K w.params) mg base CX0 8 fa fd ["_law_script"] (spLaw (K w.params) L0)) :
  W.WalkO q loose XP YP l.row.toRowW d [] (λf vs=>PySem.call f vs) :=
 L2.walk_ofL (n:=63) (k:=8) (x:="_law_script") (CX:=λ_=>CX0) (sp:=λw=>spLaw (K w.params) L0) (ts:=[L0]) hn (by decide) hdf ⟨rfl,by decide,by decide,rfl⟩ hY F (λ_ _ a ns hl hT hS=>⟨a,ns,rfl,hS,hl,⟨#[],hT L0 (by simp),.inl rfl⟩,λ_=>rfl⟩) λ_ _ _ _ _ z=>z
end RR
namespace PySem.W.Fast
noncomputable def tw8618460511548270455:=()
noncomputable def tw4800187743471375722:=()
noncomputable def tw13745460169168005862:=()
noncomputable def tw16474896812534016018:=()
noncomputable def tw17777759702004132103:=()
noncomputable def tw15782710383033760580:=()
noncomputable def tw8934435261905785097:=()
noncomputable def tw5928912381538308040:=()
noncomputable def tw4116615630341865219:=()
noncomputable def tw679817553381600126:=()
noncomputable def tw15089165151048089730:=()
noncomputable def tw1929305382767311352:=()
noncomputable def tw16547591991532401083:=()
noncomputable def tw12397967899303302516:=()
noncomputable def tw9136049932981886809:=()
noncomputable def tw17411642884650106539:=()
noncomputable def tw10480465359135221949:=()
noncomputable def tw69856281291334863:=()
noncomputable def tw13056815634417378279:=()
noncomputable def tw16627791944577776445:=()
noncomputable def tw15852838997681930186:=()
noncomputable def tw6893832278896983648:=()
noncomputable def tw17531738292980905167:=()
noncomputable def tw1216315479265434646:=()
noncomputable def tw14514682358489276908:=()
noncomputable def tw6336660764992495813:=()
noncomputable def tw5629263821685958096:=()
noncomputable def tw16039294336148155821:=()
noncomputable def tw14636478370932302498:=()
noncomputable def tw3275851842386025847:=()
noncomputable def tw10606530179582407677:=()
noncomputable def tw13509183845069164645:=()
noncomputable def tw15818826085657410071:=()
noncomputable def tw14687143342290311805:=()
noncomputable def tw5558917434594497930:=()
noncomputable def tw11504630749015806360:=()
noncomputable def tw7261656539229323739:=()
noncomputable def tw11089746815889466907:=()
noncomputable def tw15210756681921936418:=()
noncomputable def tw3309606408221433515:=()
noncomputable def tw18373773241142800405:=()
noncomputable def tw876350765864948826:=()
noncomputable def tw3629154100642994134:=()
noncomputable def tw5891074748179574696:=()
noncomputable def tw5930556881174590048:=()
noncomputable def tw648013011681567890:=()
noncomputable def tw1959501236196943166:=()
noncomputable def tw4368625519447398732:=()
noncomputable def tw15350912073299112139:=()
noncomputable def tw3354799090010460673:=()
noncomputable def tw1405518204210606043:=()
noncomputable def tw4073497680941014762:=()
noncomputable def tw879146455971776718:=()
noncomputable def tw16966605707958836367:=()
noncomputable def tw5238065097985838253:=()
noncomputable def tw16630935747363661735:=()
noncomputable def tw6176122741061481235:=()
noncomputable def tw14100288887168156707:=()
noncomputable def tw11819498420626425251:=()
noncomputable def tw2079442505137804530:=()
noncomputable def tw2603397031425687897:=()
noncomputable def tw17353369084253608698:=()
noncomputable def tw2245640837948844146:=()
noncomputable def tw3759160986865443552:=()
noncomputable def tw9436379253887790029:=()
noncomputable def tw6724041243315086682:=()
noncomputable def tw12025957135440610820:=()
noncomputable def tw4714732348652060594:=()
noncomputable def tw1670141308298872960:=()
noncomputable def tw8569175925605960806:=()
noncomputable def tw10098094090923240055:=()
noncomputable def tw17130033199557090932:=()
noncomputable def tw305080499226839490:=()
noncomputable def tw3873807746409821035:=()
noncomputable def tw606837195175287485:=()
noncomputable def tw7374688361133577643:=()
noncomputable def tw7325186053130750075:=()
noncomputable def tw8874427481198624966:=()
noncomputable def tw5913005490595959642:=()
noncomputable def tw1968002775063453256:=()
noncomputable def tw11075490016913278407:=()
noncomputable def tw16364388697614985254:=()
noncomputable def tw12760581391108050518:=()
noncomputable def tw5519495784800094428:=()
noncomputable def tw16651092277959966114:=()
noncomputable def tw11757410563489381661:=()
noncomputable def tw3839906985039928072:=()
noncomputable def tw18216281950167435206:=()
noncomputable def tw1683621354467102579:=()
noncomputable def tw16565508320496763058:=()
noncomputable def tw9013062594746350693:=()
noncomputable def tw17974622623895197542:=()
noncomputable def tw11605318757102222761:=()
noncomputable def tw9829634010202253799:=()
noncomputable def tw2402750997892568177:=()
noncomputable def tw10630395626332459044:=()
noncomputable def tw1328620717298133515:=()
noncomputable def tw15523106757769418747:=()
noncomputable def tw526580986552024930:=()
noncomputable def tw18316202190779727004:=()
noncomputable def tw5450489075379086119:=()
noncomputable def tw8213804762996976508:=()
noncomputable def tw15494280238016909012:=()
noncomputable def tw10990965038139607532:=()
noncomputable def tw12244037151855426585:=()
noncomputable def tw17518329589007450877:=()
noncomputable def tw5906655612322822058:=()
noncomputable def tw16589732527910801859:=()
noncomputable def tw1292598060364616404:=()
noncomputable def tw2927926372858762156:=()
noncomputable def tw13022314930705602712:=()
noncomputable def tw17375614192554057606:=()
noncomputable def tw2371550187108615527:=()
noncomputable def tw11991701370068152910:=()
noncomputable def tw17597698851269178375:=()
noncomputable def tw5879173361542334951:=()
noncomputable def tw4335856392357228865:=()
noncomputable def tw10531601667889983929:=()
noncomputable def tw5366545126416890590:=()
noncomputable def tw18270052471159477157:=()
noncomputable def tw7708987204394895619:=()
noncomputable def tw14275477391314953064:=()
noncomputable def tw15425707149553685094:=()
noncomputable def tw14101822719902658853:=()
noncomputable def tw7799575214648819810:=()
noncomputable def tw9524906559171277203:=()
noncomputable def tw4780814685185486567:=()
noncomputable def tw14109264429757342712:=()
noncomputable def tw11267238547073073345:=()
noncomputable def tw615434206119667217:=()
noncomputable def tw7906889577191956451:=()
noncomputable def tw17532927024494462454:=()
noncomputable def tw15110809096626934907:=()
noncomputable def tw14207029181850634414:=()
noncomputable def tw7415726223585255345:=()
noncomputable def tw8710727781925492776:=()
noncomputable def tw7465785461400693278:=()
noncomputable def tw2657005297532741900:=()
noncomputable def tw2542226105660160582:=()
noncomputable def tw17553257794488534225:=()
noncomputable def tw159182476329052798:=()
noncomputable def tw16949179290137455581:=()
noncomputable def tw9586409517972736648:=()
noncomputable def tw4157190905091301602:=()
noncomputable def tw1748308329589853042:=()
noncomputable def tw15431086969274790184:=()
noncomputable def tw15409261139360695291:=()
noncomputable def tw17818784595012057806:=()
noncomputable def tw7792347847653989704:=()
noncomputable def tw17990274508292413870:=()
noncomputable def tw4774184506172487835:=()
noncomputable def tw560872613031524604:=()
noncomputable def tw7071146736423283651:=()
noncomputable def tw11891106629417295454:=()
noncomputable def tw960774497122008456:=()
noncomputable def tw11017327744234281455:=()
noncomputable def tw2330542504501691597:=()
noncomputable def tw5955716292902340604:=()
noncomputable def tw12453459225876096363:=()
noncomputable def tw17305113126864153266:=()
noncomputable def tw17377569124742862637:=()
noncomputable def tw5607082463259423501:=()
noncomputable def tw14397520067457830586:=()
noncomputable def tw13912301102528460914:=()
noncomputable def tw144621462819348323:=()
noncomputable def tw5088055488954765922:=()
noncomputable def tw11602686072367344436:=()
noncomputable def tw10987807981971134889:=()
noncomputable def tw17774961141422109062:=()
noncomputable def tw2957445723233869826:=()
noncomputable def tw6798903529934804862:=()
noncomputable def tw5532402609157367306:=()
noncomputable def tw12450570986464753334:=()
noncomputable def tw4446235578366501066:=()
noncomputable def tw9945571099302893019:=()
noncomputable def tw11267413851641199658:=()
noncomputable def tw5367930522343277515:=()
noncomputable def tw10024952886308418834:=()
noncomputable def tw12360408861664930061:=()
noncomputable def tw48629380439661981:=()
noncomputable def tw6516373533538270806:=()
noncomputable def tw16801936307304893711:=()
noncomputable def tw1426429538940981525:=()
noncomputable def tw11108284732417062618:=()
noncomputable def tw10509914106214374523:=()
noncomputable def tw9641439296311184400:=()
noncomputable def tw1969656713765558234:=()
noncomputable def tw2221446365551016903:=()
noncomputable def tw5339822097553060264:=()
noncomputable def tw2713499741347045433:=()
noncomputable def tw9105933231447245481:=()
noncomputable def tw10450807711259090548:=()
noncomputable def tw11707250895375309556:=()
noncomputable def tw17505485156621441814:=()
noncomputable def tw5645109926250241421:=()
noncomputable def tw4621325617029290889:=()
noncomputable def tw7579668052374008933:=()
noncomputable def tw3282223360139261138:=()
noncomputable def tw6976107493044520760:=()
noncomputable def tw5123048296659310481:=()
noncomputable def tw16737827567439445879:=()
noncomputable def tw11652358841196516249:=()
noncomputable def tw10070673070675881308:=()
noncomputable def tw407015025581809770:=()
noncomputable def tw11025100180834531926:=()
noncomputable def tw18020904003744123948:=()
noncomputable def tw16620066884762013450:=()
noncomputable def tw11674655537521019356:=()
noncomputable def tw15604254903440165644:=()
noncomputable def tw11479969285151046989:=()
noncomputable def tw8474020964146554597:=()
noncomputable def tw18158792503308138920:=()
noncomputable def tw13603971534310712472:=()
noncomputable def tw459563262325538841:=()
noncomputable def tw3433728930616975371:=()
noncomputable def tw12477059424027517239:=()
noncomputable def tw8623875665316346841:=()
noncomputable def tw10766417226355150964:=()
noncomputable def tw6887549808128462586:=()
noncomputable def tw7489882308425122428:=()
noncomputable def tw868314448106810240:=()
noncomputable def tw2536779688490702660:=()
noncomputable def tw16459196979876885075:=()
noncomputable def tw10377820813307214196:=()
noncomputable def tw12770967287082158339:=()
noncomputable def tw6605198003405030971:=()
noncomputable def tw14078720088895587917:=()
noncomputable def tw4408010877356376411:=()
noncomputable def tw11553652843085366401:=()
noncomputable def tw2134302182206726939:=()
noncomputable def tw2047970253282095231:=()
noncomputable def tw7437738893009173726:=()
noncomputable def tw5828337211298452401:=()
noncomputable def tw677967648631737714:=()
noncomputable def tw13272501032657256243:=()
noncomputable def tw736672317144171357:=()
noncomputable def tw10300445205524982279:=()
noncomputable def tw2847997903735509474:=()
noncomputable def tw13896446975683733064:=()
noncomputable def tw7729152790423529619:=()
noncomputable def tw1351563051791660768:=()
noncomputable def tw12059932448526359957:=()
noncomputable def tw7895412666435695189:=()
noncomputable def tw3886926344948147049:=()
noncomputable def tw17611370333280985337:=()
noncomputable def tw94845875729455417:=()
noncomputable def tw17050884262728523679:=()
noncomputable def tw15296530170935492701:=()
noncomputable def tw6359931721945712168:=()
noncomputable def tw12357999885476352479:=()
noncomputable def tw17493841834167689014:=()
noncomputable def tw8866635931237342680:=()
noncomputable def tw17000758723555979686:=()
noncomputable def tw16646842616194199973:=()
noncomputable def tw3702619177655388585:=()
noncomputable def tw2316909541018956126:=()
noncomputable def tw1442259494277729367:=()
noncomputable def tw10756491465064651933:=()
noncomputable def tw17003931850328896576:=()
noncomputable def tw12433706015479941451:=()
noncomputable def tw10315904047760852859:=()
noncomputable def tw10576737577865394624:=()
noncomputable def tw5987237797409473956:=()
noncomputable def tw11017030980923933453:=()
noncomputable def tw16181289269467123653:=()
noncomputable def tw9860629793127467524:=()
noncomputable def tw14738394040347913357:=()
noncomputable def tw641740228915207186:=()
noncomputable def tw15322543656509033037:=()
noncomputable def tw16744567451072044176:=()
noncomputable def tw17714900813150555946:=()
noncomputable def tw9451838782375887635:=()
noncomputable def tw8040531363494173572:=()
noncomputable def tw5374748326440943579:=()
noncomputable def tw13655374982541733769:=()
noncomputable def tw17614692542536037817:=()
noncomputable def tw12102408141014879739:=()
noncomputable def tw11417039715685183718:=()
noncomputable def tw14756866557130938219:=()
end PySem.W.Fast
open PySem PySem.W PyProof.Rows
set_option maxRecDepth 100000 in
set_option maxHeartbeats 0 in
theorem PySem.Challenge.cw_rimsteps_k81_whole_texts_read_back_holds : PySem.Challenge.rw_rimsteps_k81_whole_texts_read_back.Holds := by
 w_on;o_law;k_head;(case hw=>w_witness2)
 k_fill
 refine RR.walk (l:=PySem.Challenge.rw_rimsteps_k81_whole_texts_read_back) rfl rfl (L2.km_all (by decide)) ?F
 case F =>
  intro w mg fa h KX G hmg
  refine' RR.all_mk KX G hmg (.mk ?a0 ?l0 ?c0 ?k0) (.mk ?a1 ?l1 ?c1 ?k1) (.mk ?a2 ?l2 ?c2 ?k2) (.mk ?a3 ?l3 ?c3 ?k3) (.mk ?a4 ?l4 ?c4 ?k4) (.mk ?a5 ?l5 ?c5 ?k5) (.mk ?a6 ?l6 ?c6 ?k6) (.mk ?a7 ?l7 ?c7 ?k7) (.mk ?a8 ?l8 ?c8 ?k8) (.mk ?a9 ?l9 ?c9 ?k9) (.mk ?a10 ?l10 ?c10 ?k10) (.mk ?a11 ?l11 ?c11 ?k11) (.mk ?a12 ?l12 ?c12 ?k12) (.mk ?a13 ?l13 ?c13 ?k13) (.mk ?a14 ?l14 ?c14 ?k14) (.mk ?a15 ?l15 ?c15 ?k15) (.mk ?a16 ?l16 ?c16 ?k16) (.mk ?a17 ?l17 ?c17 ?k17) (.mk ?a18 ?l18 ?c18 ?k18) (.mk ?a19 ?l19 ?c19 ?k19) (.mk ?a20 ?l20 ?c20 ?k20) (.mk ?a21 ?l21 ?c21 ?k21) (.mk ?a22 ?l22 ?c22 ?k22) (.mk ?a23 ?l23 ?c23 ?k23) (.mk ?a24 ?l24 ?c24 ?k24) (.mk ?a25 ?l25 ?c25 ?k25) (.mk ?a26 ?l26 ?c26 ?k26) (.mk ?a27 ?l27 ?c27 ?k27) (.mk ?a28 ?l28 ?c28 ?k28) (.mk ?a29 ?l29 ?c29 ?k29) (.mk ?a30 ?l30 ?c30 ?k30) (.mk ?a31 ?l31 ?c31 ?k31) (.mk ?a32 ?l32 ?c32 ?k32) (.mk ?a33 ?l33 ?c33 ?k33) (.mk ?a34 ?l34 ?c34 ?k34) (.mk ?a35 ?l35 ?c35 ?k35) (.mk ?a36 ?l36 ?c36 ?k36) (.mk ?a37 ?l37 ?c37 ?k37) (.mk ?a38 ?l38 ?c38 ?k38) (.mk ?a39 ?l39 ?c39 ?k39) (.mk ?a40 ?l40 ?c40 ?k40) (.mk ?a41 ?l41 ?c41 ?k41) (.mk ?a42 ?l42 ?c42 ?k42) (.mk ?a43 ?l43 ?c43 ?k43) (.mk ?a44 ?l44 ?c44 ?k44) (.mk ?a45 ?l45 ?c45 ?k45) ?a46 ?l46 ?c46 ?k46 ?lc0 ?lh0 (.mk ?a47 ?l47 ?c47 ?k47) (.mk ?a48 ?l48 ?c48 ?k48) (.mk ?a49 ?l49 ?c49 ?k49) (.mk ?a50 ?l50 ?c50 ?k50) ?a51 ?l51 ?c51 ?k51 ?aM ?lM ?x0 ?x1 ?x2 ?x3 ?x4 ?x5 ?x6 ?x7 ?aB ?lB ?sB ?aB2 ?lB2 ?xMT ?xSF ?xMF ?xFG ?xPW ?xSI ?xNI ?xRI ?xRD ?xPL ?xRL ?z_range ?z_len ?z_min ?z_sorted ?z_tuple ?z_int ?z_bool ?z_str ?z_isinstance ?z_list ?z_enumerate ?z_all ?z_sum
  (case a0=>k_is)
  (case l0=>k_is)
  (case c0=>k_is)
  (case k0=>k_is)
  (case a1=>k_is)
  (case l1=>k_is)
  (case c1=>k_is)
  (case k1=>k_is)
  (case a2=>k_is)
  (case l2=>k_is)
  (case c2=>k_is)
  (case k2=>k_is)
  (case a3=>k_is)
  (case l3=>k_is)
  (case c3=>k_is)
  (case k3=>k_is)
  (case a4=>k_is)
  (case l4=>k_is)
  (case c4=>k_is)
  (case k4=>k_is)
  (case a5=>k_is)
  (case l5=>k_is)
  (case c5=>k_is)
  (case k5=>k_is)
  (case a6=>k_is)
  (case l6=>k_is)
  (case c6=>k_is)
  (case k6=>k_is)
  (case a7=>k_is)
  (case l7=>k_is)
  (case c7=>k_is)
  (case k7=>k_is)
  (case a8=>k_is)
  (case l8=>k_is)
  (case c8=>k_is)
  (case k8=>k_is)
  (case a9=>k_is)
  (case l9=>k_is)
  (case c9=>k_is)
  (case k9=>k_is)
  (case a10=>k_is)
  (case l10=>k_is)
  (case c10=>k_is)
  (case k10=>k_is)
  (case a11=>k_is)
  (case l11=>k_is)
  (case c11=>k_is)
  (case k11=>k_is)
  (case a12=>k_is)
  (case l12=>k_is)
  (case c12=>k_is)
  (case k12=>k_is)
  (case a13=>k_is)
  (case l13=>k_is)
  (case c13=>k_is)
  (case k13=>k_is)
  (case a14=>k_is)
  (case l14=>k_is)
  (case c14=>k_is)
  (case k14=>k_is)
  (case a15=>k_is)
  (case l15=>k_is)
  (case c15=>k_is)
  (case k15=>k_is)
  (case a16=>k_is)
  (case l16=>k_is)
  (case c16=>k_is)
  (case k16=>k_is)
  (case a17=>k_is)
  (case l17=>k_is)
  (case c17=>k_is)
  (case k17=>k_is)
  (case a18=>k_is)
  (case l18=>k_is)
  (case c18=>k_is)
  (case k18=>k_is)
  (case a19=>k_is)
  (case l19=>k_is)
  (case c19=>k_is)
  (case k19=>k_is)
  (case a20=>k_is)
  (case l20=>k_is)
  (case c20=>k_is)
  (case k20=>k_is)
  (case a21=>k_is)
  (case l21=>k_is)
  (case c21=>k_is)
  (case k21=>k_is)
  (case a22=>k_is)
  (case l22=>k_is)
  (case c22=>k_is)
  (case k22=>k_is)
  (case a23=>k_is)
  (case l23=>k_is)
  (case c23=>k_is)
  (case k23=>k_is)
  (case a24=>k_is)
  (case l24=>k_is)
  (case c24=>k_is)
  (case k24=>k_is)
  (case a25=>k_is)
  (case l25=>k_is)
  (case c25=>k_is)
  (case k25=>k_is)
  (case a26=>k_is)
  (case l26=>k_is)
  (case c26=>k_is)
  (case k26=>k_is)
  (case a27=>k_is)
  (case l27=>k_is)
  (case c27=>k_is)
  (case k27=>k_is)
  (case a28=>k_is)
  (case l28=>k_is)
  (case c28=>k_is)
  (case k28=>k_is)
  (case a29=>k_is)
  (case l29=>k_is)
  (case c29=>k_is)
  (case k29=>k_is)
  (case a30=>k_is)
  (case l30=>k_is)
  (case c30=>k_is)
  (case k30=>k_is)
  (case a31=>k_is)
  (case l31=>k_is)
  (case c31=>k_is)
  (case k31=>k_is)
  (case a32=>k_is)
  (case l32=>k_is)
  (case c32=>k_is)
  (case k32=>k_is)
  (case a33=>k_is)
  (case l33=>k_is)
  (case c33=>k_is)
  (case k33=>k_is)
  (case a34=>k_is)
  (case l34=>k_is)
  (case c34=>k_is)
  (case k34=>k_is)
  (case a35=>k_is)
  (case l35=>k_is)
  (case c35=>k_is)
  (case k35=>k_is)
  (case a36=>k_is)
  (case l36=>k_is)
  (case c36=>k_is)
  (case k36=>k_is)
  (case a37=>k_is)
  (case l37=>k_is)
  (case c37=>k_is)
  (case k37=>k_is)
  (case a38=>k_is)
  (case l38=>k_is)
  (case c38=>k_is)
  (case k38=>k_is)
  (case a39=>k_is)
  (case l39=>k_is)
  (case c39=>k_is)
  (case k39=>k_is)
  (case a40=>k_is)
  (case l40=>k_is)
  (case c40=>k_is)
  (case k40=>k_is)
  (case a41=>k_is)
  (case l41=>k_is)
  (case c41=>k_is)
  (case k41=>k_is)
  (case a42=>k_is)
  (case l42=>k_is)
  (case c42=>k_is)
  (case k42=>k_is)
  (case a43=>k_is)
  (case l43=>k_is)
  (case c43=>k_is)
  (case k43=>k_is)
  (case a44=>k_is)
  (case l44=>k_is)
  (case c44=>k_is)
  (case k44=>k_is)
  (case a45=>k_is)
  (case l45=>k_is)
  (case c45=>k_is)
  (case k45=>k_is)
  (case a46=>k_is)
  (case l46=>k_is)
  (case c46=>k_is)
  (case k46=>k_is)
  (case lc0=>k_is)
  (case lh0=>exact rfl)
  (case a47=>k_is)
  (case l47=>k_is)
  (case c47=>k_is)
  (case k47=>k_is)
  (case a48=>k_is)
  (case l48=>k_is)
  (case c48=>k_is)
  (case k48=>k_is)
  (case a49=>k_is)
  (case l49=>k_is)
  (case c49=>k_is)
  (case k49=>k_is)
  (case a50=>k_is)
  (case l50=>k_is)
  (case c50=>k_is)
  (case k50=>k_is)
  (case a51=>k_is)
  (case l51=>k_is)
  (case c51=>k_is)
  (case k51=>k_is)
  (case aM=>k_is)
  (case lM=>k_is)
  (case x0=>k_is)
  (case x1=>k_is)
  (case x2=>k_is)
  (case x3=>k_is)
  (case x4=>k_is)
  (case x5=>k_is)
  (case x6=>k_is)
  (case x7=>k_is)
  (case aB=>k_is)
  (case lB=>k_is)
  (case sB=>exact rfl)
  (case aB2=>k_is)
  (case lB2=>k_is)
  (case xMT=>k_is)
  (case xSF=>k_is)
  (case xMF=>k_is)
  (case xFG=>k_is)
  (case xPW=>k_is)
  (case xSI=>k_is)
  (case xNI=>k_is)
  (case xRI=>k_is)
  (case xRD=>k_is)
  (case xPL=>k_is)
  (case xRL=>k_is)
  (case z_range=>k_is)
  (case z_len=>k_is)
  (case z_min=>k_is)
  (case z_sorted=>k_is)
  (case z_tuple=>k_is)
  (case z_int=>k_is)
  (case z_bool=>k_is)
  (case z_str=>k_is)
  (case z_isinstance=>k_is)
  (case z_list=>k_is)
  (case z_enumerate=>k_is)
  (case z_all=>k_is)
  (case z_sum=>k_is)

import PyProof.Rows.All
import Wide.All
import OpenK.AllK
import Wide.FinOn
import Lean
import PyProof.EqAt
import PyProof.EqKinds
import PyProof.TupleCall
import PySem.Challenge.RW_rimsteps_k10_any_thing_as_a_round
set_option Elab.async false
set_option linter.all false
set_option maxRecDepth 100000
open PySem renaming wpAny_bind → Aa,Shared → Ac,wpAny_pure → Ah,wpAny → Ar,model → Az,Program → AF,mainGlobals → AL,Around → AO,World → A5,starEach → Bg,wpAny_mono → Bv,wpAny_holding → Bw,FuncData → BC,Spec → BH,compareOp → BR,wpAny_truthy_bool → BV,wpAny_newObj_type → BW,wpAny_tryCatch → Cf,sysModules → Cm,wpAny_Call_Name_kw → Cn,wpAny_typeNameOfWhole_keyiter → Cz,assignEach → CB,rawInt → CC,mem_of_lookup → CH,keywordEach → CL,wpAny_passesOwn → CT,binaryOp → CV,plainId_quiet → C4,wpAny_callSpecial?_slot → C6,wpAny_letGo → C8,codeAny → Da,codeAny_mono → Db,wpAny_rule → Dc,wpAny_loadPart' → De,codeAny_builtin → Dh,wpAny_updateSeq → Di,wpAny_pyIter_list → Dq,wpAny_loadPart_at → Ds,wpAny_seqItems → Dw,wpAny_call_entry → DC,backTo → DH,behindInMarks → DL,bindArgs → DM,backToKw → DN,wpAny_standAt → DO,wpAny_execs_nil → DR,tupleKind_room_in1 → DX,wpAny_field → D2,sliceBounds → D3
open List renaming getElem?_eq_getElem → Ab,getElem?_eq_some_iff → Ad,replicate → Ae,length_append → Af,length_map → Ai,mem_singleton → Ak,mem_append_right → An,mem_append → Ap,size_toArray → As,mem_cons → At,mem_of_getElem? → Aw,append_assoc → AA,set_cons_zero → AD,append_nil → AE,set_cons_succ → AH,mem_cons_of_mem → AI,getElem?_append_left → AK,mem_cons_self → AQ,map_append → AS,length_take → AT,pairwise_append → AU,getElem?_append_right → AW,getElem_of_mem → AZ,take_length → A4,getElem?_map → A7,mem_map → Bd,length_cons → Be,not_mem_nil → Bf,getD_eq_getElem?_getD → Bh,mem_append_left → Bl,mem_of_mem_drop → Bo,mem_of_mem_take → Bp,lookup_cons → Bq,length_replicate → Bs,length_filter_le → Bz,map_cons → BA,range → BD,getElem_mem → BE,flatten_cons → BN,take_of_length_le → BY,replicate_succ → B3,filterMap_map → B6,filter_append → B9,take_sublist → Cc,length_nil → Cg,extract_eq_take_drop → Ci,length_singleton → Cj,length_drop → Co,drop_sublist → CA,find?_cons → CD,filterMap_cons → CF,length_pos_of_mem → CJ,lookup → CK,perm_append_comm → CP,nodup_cons → CU,length_range → C0,take_append_of_le_length → C9,filterMap_append → Do,take_zero → Dy,pairwise_iff_getElem → DG,flatten_append → DJ,getElem?_cons_succ → D4,mem_range → D5,mem_filter → D7
open PySem.Heap renaming get?_push_of_some → Ag,lt_size → Ax,get?_push_size → AB,get?_update_other → BO,SameBut → Cq,get?_update_self → CQ
open Nat renaming le_refl → Aj,lt_of_lt_of_le → AC,le_trans → AN,ne_of_lt → AV,zero_le → A6,le_of_lt → Bc,lt_or_ge → Bi,mod_lt → B4,le_succ → B5,lt_of_le_of_lt → B7,lt_irrefl → Ca,ne_of_gt → Cr
open PyProof.Rows renaming wpS_bind → Am,wpS_pure → Av,arrOf → Ay,SortSt → AM,pendingOf → AR,wpS_forRange → By,seqObj → BG,slot_tuple_getitem → BJ,getElem?_mirror_all → BS,wpS_modify → BU,wpS_mono → Ck,failedOf → Cy,SortKind → CM,callWith_type1 → Dr,get?_update_seq → DV,wpS_get → DW
open PySem.Value renaming ref → Ao,none → Bk,bool → Dt,int → DB
open PySem.Str renaming ofString → Aq
open Bool renaming false_ne_true → Au,and_eq_true → A3,true_and → BI,false_eq_true → BP,eq_false_iff → BX,false_and → Cv,eq_iff_iff → DS
open PySem.F renaming plainAttrs_list → AG,slot_list_append → AX,type_list_append → AY,plain_min_loop → A8,slot_dict_keyiterator_next → B8,entry_min_loop → Ce,slot_list_extend → Ct,type_list_extend → Cu,args_dict_keyiterator_next_1 → DI,args_tuple_add_2 → DP,entry_dict_keyiterator_next → DQ,entry_tuple_add → D1
open Array renaming length_toList → AJ,getElem?_eq_some_iff → Bb,toList_append → Bj,getElem?_toList → Bt,getElem?_eq_getElem → BZ,size_extract → Cp,toList_push → CY,toList_extract → CZ
open PySem.PyData renaming int → A0,keyHash → BM,canLayAll0 → Cd,weightAll → C7,depthAll → Dg,leavesShortAll → Dp,showableAll → DZ,leavesShort → D0
open Option.some renaming inj → A9
open PySem.Obj renaming mapSeq → Ba,mapFields → Dm,data_mapFields → DY
open PySem.SeqAt renaming shaped → Br
open False renaming elim → Bu
open Ne renaming symm → Bx
open PySem.NameKind renaming free → BB,cell → Dl
open PySem.PassesOwn renaming never → BF
open PySem.Heap.SameBut renaming update → BK
open PySem.W renaming mg_none_of → BL,nsIn → Ch,findIn → CG,keepIn → C5,codeHdIn → Dd,kia_one → Dk,fnOf → Du,kas_item → Dx,mg_of → DU
open Option renaming map_eq_some_iff → BQ,map_some → DT,map_eq_none_iff → D6
open True renaming intro → Cb
open Lean renaming maxHeartbeats → Cs
open PySem.Around renaming under_plainId → Cw
open PySem.Builtin.Builtins renaming bindParams → CI
open Break.runK renaming match_1 → CN
open Int renaming emod_lt_of_pos → CO,toNat_natCast → CW,emod_nonneg → Dj,zero_add → DE
open PySem.Builtin.Slice renaming slicePlaces → CS,sliceAdjust → DF
open PySem.Builtin.Tuple renaming tupleExact → C1
open PySem.Builtin.List renaming listTooLong → C3
open ToString renaming toString → Dv
open Sum renaming inl → Dz
open PySem.Paired renaming length → DK
namespace L2
open PySem PySem.Spec PyProof.Rows
noncomputable abbrev Key:=Sum Int Str
noncomputable def keyIs:Key->Value->Bool
 |.inl k,v=>Value.isInt k v
 |.inr x,v=>Value.isStrOf x v
noncomputable def keyH(w:A5):Key->Int
 |.inl k=>hashInt k
 |.inr x=>hashStr w x
theorem zaU:∀{k:Key}{v:Value},keyIs k v=true->(∃i t,k=Dz i/\v=DB i t)∨(∃x t,k=Sum.inr x/\v=Value.str x t)
 |.inl i,v,h=>by
  obtain⟨t,e⟩:=Value.isInt_shape (k:=i) (v:=v) h;exact .inl ⟨i,t,rfl,e⟩
 |.inr x,v,h=>by
  obtain⟨t,e⟩:=Value.isStrOf_shape (x:=x) (v:=v) h;exact .inr ⟨x,t,rfl,e⟩
theorem zjp(i:Int)(t:Tok):keyIs (.inl i) (.int i t)=true:=by simp[keyIs,Value.isInt]
theorem zjo(x:Str)(t:Tok):keyIs (.inr x) (.str x t)=true:=by simp[keyIs,Value.isStrOf]
theorem zmC(a b:Int):decide ((Dz a:Key)=Dz b)=(a == b):=by
 by_cases e:a=b
 .subst e;simp
 .have h:¬ (Dz a:Key)=Dz b:=λq=>e (Sum.inl.inj q)
  rw[decide_eq_false h];exact (beq_eq_false_iff_ne.mpr e).symm
theorem zmz(a b:Str):decide ((Sum.inr a:Key)=Sum.inr b)=decide (a=b):=by
 by_cases e:a=b
 .subst e;simp
 .have h:¬ (Sum.inr a:Key)=Sum.inr b:=λq=>e (Sum.inr.inj q)
  rw[decide_eq_false h,decide_eq_false e]
theorem zmB(a:Int)(b:Str):decide ((Dz a:Key)=Sum.inr b)=false:=decide_eq_false (λq=>nomatch q)
theorem zmA(a:Str)(b:Int):decide ((Sum.inr a:Key)=Dz b)=false:=decide_eq_false (λq=>nomatch q)
noncomputable def zaH(prog:AF)(w:A5):PySem.KeyKind prog w Key where
 is:=keyIs
 hash:=keyH w
 inj:=λv a b ha hb=>by
  rcases zaU ha with⟨i,t,rfl,rfl⟩ |⟨x,t,rfl,rfl⟩
  .rcases zaU hb with⟨j,u,rfl,e⟩ |⟨y,u,rfl,e⟩
   .injection e with e1 _;rw[e1]
   .exact nomatch e
  .rcases zaU hb with⟨j,u,rfl,e⟩ |⟨y,u,rfl,e⟩
   .exact nomatch e
   .injection e with e1 _;rw[e1]
 byValue:=λk v h=>by rcases zaU h with⟨i,t,rfl,rfl⟩ |⟨x,t,rfl,rfl⟩ <;> rfl
 pyHash:=λhv h=>by
  rcases zaU hv with⟨i,t,rfl,rfl⟩ |⟨x,t,rfl,rfl⟩
  .exact wpAny_pyHash_int h
  .exact wpAny_pyHash_str h
 eqBool:=λhu hv h=>by
  rcases zaU hu with⟨i,t,rfl,rfl⟩ |⟨x,t,rfl,rfl⟩
  .rcases zaU hv with⟨j,u,rfl,rfl⟩ |⟨y,u,rfl,rfl⟩
   .rw[zmC]at h;exact wpAny_eqBool_int h
   .rw[zmB]at h;exact SeqAt.EqAt.int_str i t y u _ _ _ _ h
  .rcases zaU hv with⟨j,u,rfl,rfl⟩ |⟨y,u,rfl,rfl⟩
   .rw[zmA]at h;exact SeqAt.EqAt.str_int x t j u _ _ _ _ h
   .rw[zmz]at h;exact wpAny_eqBool_str h
 «strs»:=λk x t v h=>by
  rcases zaU h with⟨i,u,rfl,e⟩ |⟨y,u,rfl,e⟩
  .exact nomatch e
  .injection e with e1 _;subst e1
   cases v <;> rfl
theorem zh3(prog:AF)(w:A5)(k:Key)(v:Value):(zaH prog w).is k v=keyIs k v:=rfl
theorem zgI(prog:AF)(w:A5)(i:Int)(t:Tok):(zaH prog w).is (.inl i) (.int i t)=true:=zjp i t
theorem za3(prog:AF)(w:A5)(x:Str)(t:Tok):(zaH prog w).is (.inr x) (.str x t)=true:=zjo x t
inductive V where
 |non |bl (b:Bool) |int (i:Int) |str (x:Str) |byt (b:Array UInt8) |flt (b:UInt64) |ref (a:Addr) |ty (n:String)
 deriving DecidableEq
noncomputable def RelV:V->Value->Prop
 |.non,u=>u=Bk
 |.bl b,u=>u=Dt b
 |.int i,u=>∃t,u=DB i t
 |.str x,u=>∃t,u=Value.str x t
 |.byt b,u=>∃t,u=Value.bytes b t
 |.flt b,u=>∃t,u=Value.float b t
 |.ref a,u=>u=Ao a
 |.ty n,u=>u=Value.type n
noncomputable abbrev Vals:List V->List Value->Prop:=Paired RelV
theorem Vals.length{xs:List V}{us:List Value}(r:Vals xs us):xs.length=us.length:=DK r
theorem Vals.get:∀{xs:List V}{us:List Value}{i:Nat}{x:V},Vals xs us->xs[i]?=some x->∃u,us[i]?=some u/\RelV x u
 |_,_,_,_,.nil,e=>by simp at e
 |_,_,0,_,.cons r _,e=>by simp at e;subst e;exact⟨_,rfl,r⟩
 |_,_,i+1,x,.cons _ t,e=>by
  obtain⟨u,h1,h2⟩:=Vals.get (i:=i) (x:=x) t (by simpa using e);exact⟨u,by simpa using h1,h2⟩
theorem Vals.append:∀{xs ys:List V}{us ws:List Value},Vals xs us->Vals ys ws->Vals (xs++ys) (us++ws)
 |_,_,_,_,.nil,s=>s
 |_,_,_,_,.cons r t,s=>.cons r (Vals.append t s)
theorem Vals.take:∀{xs:List V}{us:List Value}(n:Nat),Vals xs us->Vals (xs.take n) (us.take n)
 |_,_,0,_=>.nil
 |_,_,_+1,.nil=>.nil
 |_,_,n+1,.cons r t=>.cons r (Vals.take n t)
theorem Vals.drop:∀{xs:List V}{us:List Value}(n:Nat),Vals xs us->Vals (xs.drop n) (us.drop n)
 |_,_,0,r=>r
 |_,_,_+1,.nil=>.nil
 |_,_,n+1,.cons _ t=>Vals.drop n t
noncomputable def RelO:Option V->Option Value->Prop
 |some v,some u=>RelV v u
 |none,none=>True
 |_,_=>False
noncomputable def KV{κ:Type}:List (κ×V)->List (κ×Value)->Prop:=Paired λ(p:κ×V) (q:κ×Value)=>p.1=q.1/\RelV p.2 q.2
noncomputable def kV:Key->V
 |.inl i=>.int i
 |.inr x=>.str x
inductive HO where
 /-- a list -/
 |lst (xs:List V)
 /-- a tuple (never changes) -/
 |tup (xs:List V)
 /-- a dict whose keys are ints and texts;one whose keys are tuples of ints and texts (the empty one is both) -/
 |dK (kvs:List (Key×V)) |dT (kvs:List (List Key×V))
 /-- a set of ints: its members,its size -/
 |set (S:Int->Bool) (n:Nat)
 /-- an instance of the class at C,its dict at dx,its attributes -/
 |ins (C dx:Addr) (fs:List (Str×V))
 /-- the dict of the instance at x -/
 |own (x:Addr)
 /-- the dict of an exception -/
 |xd (fs:List (Str×V))
 /-- a bound method,f of x -/
 |met (f x:Addr)
 /-- a range object lo,lo+1,.. below hi -/
 |rng (lo hi:Int)
 /-- a thing that is known to the object (the script;a dict while a loop walks it): read,never written while it is so -/
 |frz (o:Obj) (u:HO)
 /-- a code object's table -/
 |tbl (ps:Array Value)
 /-- any other thing,by what is true of its one object (a def of one's own: SetO a S n:=HO.ext λh=>..) -/
 |ext (φ:Heap->Prop)
noncomputable abbrev Hp:=Addr->Option HO
noncomputable def upd(H:Hp)(a:Addr)(o:HO):Hp:=λb=>if b=a then some o else H b
theorem zaa{H:Hp}{a:Addr}{o:HO}:upd H a o a=some o:=by unfold upd;rw[if_pos rfl]
theorem zai{H:Hp}{a b:Addr}{o:HO}(h:b≠a):upd H a o b=H b:=by unfold upd;rw[if_neg h]
theorem zlh{H:Hp}{a:Addr}{o u:HO}:upd (upd H a o) a u=upd H a u:=by
 funext b;unfold upd;split <;> rfl
theorem ne_of{H:Hp}{a b:Addr}{o u:HO}(h:H a=some o)(h':H b=some u)(d:o≠u):a≠b:=by intro e;subst e;rw[h]at h';exact d (A9 h')
theorem zaj{H:Hp}{a b:Addr}{o:HO}(h:H a=some o)(h':H b=none):a≠b:=by intro e;subst e;rw[h]at h';cases h'
section
variable (P:AF) (w:A5)
noncomputable def ObjOk(H:Hp)(h:Heap)(a:Addr):HO->Prop
  |.lst xs=>xs.length<=sizeLine/\∃(its:List Value) (n:Nat),Vals xs its/\h.get? a=some { cls:=.type "list",data:=.seq its.toArray n }
  |.tup xs=>xs.length<=sizeLine/\∃its:List Value,Vals xs its/\IsTup h a its.toArray
  |.dK kvs=>kvs.length<=sizeLine/\(a == Cm)=false/\∃vs,KV kvs vs/\h.DictOf (zaH P w) a vs
  |.dT kvs => kvs.length <= sizeLine /\ (a == Cm)=false /\ ∃xs:List (List Key × Addr × Value),
      Paired (λ(p:List Key×V) (q:List Key×Addr×Value)=>p.1=q.1/\H q.2.1=some (.tup (p.1.map kV))/\RelV p.2 q.2.2) kvs xs /\
      ∃o es ep,h.get? a=some o/\o.ExactDict/\o.data=.dict es ep/\es.toList=xs.map (entryOfKey (tupleKind (zaH P w)))/\(xs.map (·.1)).Nodup
  |.set S n=>h.SetOf (intKind P w) a S n
  |.ins C dx fs => H dx=some (.own a) /\ fs.length <= 1000 /\ dx ≠ a /\ h.get? a=some (W.instObj C dx) /\
      ∃mA,h.Ns1 dx mA/\(∀f,RelO (fs.lookup f) (mA f))/\PySem.Within mA (fs.map (·.1))
  |.own _=>∃o,h.get? a=some o
  |.xd fs=>∃mA,h.Ns1 a mA/\∀f,RelO (fs.lookup f) (mA f)
  |.rng lo hi=>∃t u v,h.get? a=some { cls:=.type "range",data:=.fields #[.int lo t,.int hi u,.int 1 v] }
  |.frz o u=>h.get? a=some o/\ObjOk H h a u
  |.tbl ps=>h.get? a=some { cls:=.none,data:=.fields ps }
  |.met f x=>h.get? a=some (W.methodObj (.ref f) (.ref x))
  |.ext φ=>φ h/\(∃o,h.get? a=some o)/\∀h1 h2:Heap,φ h1->(∀o,h1.get? a=some o->h2.get? a=some o)->φ h2
noncomputable def HOk(H:Hp)(h:Heap):Prop:=∀a o,H a=some o->ObjOk P w H h a o
end
section
variable {P:AF}{w:A5}{H H':Hp}{h h':Heap}{a:Addr}{o:HO}
theorem ObjOk.lt(x:ObjOk P w H h a o):a<h.objs.size:=by
 cases o with
 |lst xs=>obtain⟨_,_,_,_,e⟩:=x;exact Ax e
 |tup xs=>obtain⟨_,_,_,p⟩:=x;exact p.lt
 |dK kvs=>obtain⟨_,_,_,_,o,_,_,e,_⟩:=x;exact Ax e
 |dT kvs=>obtain⟨_,_,_,_,o,_,_,e,_⟩:=x;exact Ax e
 |set S n=>obtain⟨o,_,_,_,e,_⟩:=x;exact Ax e
 |ins C dx fs=>obtain⟨_,_,_,e,_⟩:=x;exact Ax e
 |own y=>obtain⟨_,e⟩:=x;exact Ax e
 |xd fs=>obtain⟨_,⟨_,_,_,e,_⟩,_⟩:=x;exact Ax e
 |rng lo hi=>obtain⟨_,_,_,e⟩:=x;exact Ax e
 |frz ob u=>obtain⟨e,_⟩:=x;exact Ax e
 |tbl ps=>exact Ax (show h.get? a=some _ from x)
 |met f y=>exact Ax (show h.get? a=some _ from x)
 |ext φ=>obtain⟨_,⟨_,e⟩,_⟩:=x;exact Ax e
theorem Paired.mapP{α β:Type}{F G:α->β->Prop}:∀{l₁:List α}{l₂:List β},Paired F l₁ l₂->(∀a b,F a b->G a b)->Paired G l₁ l₂
 |_,_,.nil,_=>.nil
 |_,_,.cons r t,f=>.cons (f _ _ r) (Paired.mapP t f)
theorem ObjOk.stay(x:ObjOk P w H h a o)(k:∀b u, (b=a ∨ H b=some (.own a)) -> h.get? b=some u -> h'.get? b=some u)
  (ho:∀b,H b=some (.own a)->H' b=some (.own a)) (ht:∀b xs,H b=some (.tup xs)->H' b=some (.tup xs)):ObjOk P w H' h' a o:=by
 induction o with
 |lst xs=>obtain⟨z,its,n,r,e⟩:=x;exact⟨z,its,n,r,k _ _ (.inl rfl) e⟩
 |tup xs=>obtain⟨z,its,r,ob,e,c⟩:=x;exact⟨z,its,r,ob,k _ _ (.inl rfl) e,c⟩
 |dK kvs=>obtain⟨z,y,vs,r,ob,es,ep,e,c⟩:=x;exact⟨z,y,vs,r,ob,es,ep,k _ _ (.inl rfl) e,c⟩
 |dT kvs =>
  obtain⟨z,y,xs,r,ob,es,ep,e,c⟩:=x;exact⟨z,y,xs,Paired.mapP r λp q z=>⟨z.1,ht _ _ z.2.1,z.2.2⟩,ob,es,ep,k _ _ (.inl rfl) e,c⟩
 |set S n=>obtain⟨ob,es,ep,t,e,c⟩:=x;exact⟨ob,es,ep,t,k _ _ (.inl rfl) e,c⟩
 |ins C dx fs =>
  obtain⟨d,z,ne,e,mA,⟨od,es,ep,e2,c⟩,r⟩:=x;exact⟨ho _ d,z,ne,k _ _ (.inl rfl) e,mA,⟨od,es,ep,k _ _ (.inr d) e2,c⟩,r⟩
 |own y=>obtain⟨ob,e⟩:=x;exact⟨ob,k _ _ (.inl rfl) e⟩
 |xd fs=>obtain⟨mA,⟨od,es,ep,e,c⟩,r⟩:=x;exact⟨mA,⟨od,es,ep,k _ _ (.inl rfl) e,c⟩,r⟩
 |rng lo hi=>obtain⟨t,u,v,e⟩:=x;exact⟨t,u,v,k _ _ (.inl rfl) e⟩
 |frz ob u ih=>obtain⟨e,q⟩:=x;exact⟨k _ _ (.inl rfl) e,ih q⟩
 |tbl ps =>
  have e:h.get? a=some { cls:=.none,data:=.fields ps }:=x;show h'.get? a=some { cls:=.none,data:=.fields ps };exact k a _ (.inl rfl) e
 |met f y =>
  have e:h.get? a=some (W.methodObj (.ref f) (.ref y)):=x;show h'.get? a=some (W.methodObj (.ref f) (.ref y));exact k a _ (.inl rfl) e
 |ext φ=>obtain⟨p,⟨o,e⟩,st⟩:=x;exact⟨st _ _ p λo q=>k _ _ (.inl rfl) q,⟨o,k _ _ (.inl rfl) e⟩,st⟩
theorem HOk.lt(x:HOk P w H h)(e:H a=some o):a<h.objs.size:=(x a o e).lt
theorem HOk.fresh(x:HOk P w H h)(e:h.objs.size<=a):H a=none:=by
 cases q:H a with
 |none=>rfl
 |some u=>exact absurd (AC (x.lt q) e) (Ca _)
theorem HOk.kept(x:HOk P w H h)(k:∀b u,h.get? b=some u->h'.get? b=some u):HOk P w H h':=λa o e =>
 (x a o e).stay (λb u _ q=>k b u q) (λ_ q=>q) λ_ _ q=>q
theorem HOk.laid(x:HOk P w H h)(k:∀b u,h.get? b=some u->h'.get? b=some u)(hp:h.objs.size<=a)(new:ObjOk P w (upd H a o) h' a o):HOk P w (upd H a o) h':=λb u e=>by
 have hn:=x.fresh hp
 by_cases hb:b=a
 .subst hb;rw[zaa]at e;cases e;exact new
 .rw[zai hb]at e;exact (x b u e).stay (λc v _ q=>k c v q) (λc q=>by rw[zai (zaj q hn)];exact q) λc xs q=>by rw[zai (zaj q hn)];exact q
end
noncomputable def Rd(H:Hp)(a:Addr)(u:HO):Prop:=H a=some u∨∃o,H a=some (.frz o u)
theorem Rd.of{H:Hp}{a:Addr}{u:HO}(h:H a=some u):Rd H a u:=.inl h
theorem Rd.ok{P:AF}{w:A5}{H:Hp}{h:Heap}{a:Addr}{u:HO}(r:Rd H a u)(x:HOk P w H h):ObjOk P w H h a u:=by
 rcases r with r |⟨o,r⟩
 .exact x a u r
 .obtain⟨_,q⟩:=x a _ r;exact q
noncomputable def Mut:Option HO->Prop
 |some (.lst _)=>True
 |some (.dK _)=>True
 |some (.dT _)=>True
 |some (.set _ _)=>True
 |some (.ins _ _ _)=>True
 |some (.ext _)=>True
 |_=>False
section
variable {P:AF}{w:A5}{H:Hp}{h h':Heap}{x e:Addr}{o':HO}
theorem HOk.write(ok:HOk P w H h)(mu:Mut (H x))(he:e=x ∨ H e=some (.own x))(k:∀b u, b ≠ e -> h.get? b=some u -> h'.get? b=some u)(heo:∃u, h'.get? e=some u)
  (new:ObjOk P w (upd H x o') h' x o'):HOk P w (upd H x o') h':=λb u q=>by
 have nown:∀c y,H c=some (.own y)->c≠x:=λc y r z=>by subst z;rw[r]at mu;exact mu
 have ntup:∀c xs,H c=some (.tup xs)->c≠x:=λc xs r z=>by subst z;rw[r]at mu;exact mu
 by_cases hb:b=x
 .subst hb;rw[zaa]at q;cases q;exact new
 .rw[zai hb]at q
  by_cases hbe:b=e
  .have q':H b=some (.own x) := by
    rcases he with z |z
    .exact absurd (hbe.trans z) hb
    .rw[hbe];exact z
   rw[q]at q';cases q';obtain⟨v,hv⟩:=heo;exact⟨v,by rw[hbe];exact hv⟩
  .refine (ok b u q).stay (λc v hc r=>k c v ?_ r) (λc r=>by rw[zai (nown c b r)];exact r) λc xs r=>by rw[zai (ntup c xs r)];exact r
   rcases hc with rfl |hc
   .exact hbe
   .rintro rfl;rcases he with z |z
    .exact nown c b hc z
    .rw[hc]at z;cases z;exact hb rfl
end
structure Un (fs ex:List Addr) (H H':Hp) (h h':Heap):Prop where
 keep:∀b o,h.get? b=some o->H b=none->b ∉ fs->b ∉ ex->h'.get? b=some o
 slot:∀b o,h.get? b=some o->H b=none->b∈fs->b ∉ ex->∃sl,h'.get? b=some { o with slots:=sl }
 free:∀b o,h.get? b=some o->H b=none->b ∉ ex->H' b=none
 there:∀b o,h.get? b=some o->b ∉ ex->∃o',h'.get? b=some o'
 tups:∀b xs,H b=some (.tup xs)->H' b=some (.tup xs)
 frzs:∀b o u,H b=some (.frz o u)->H' b=some (.frz o u)
 tbls:∀b ps,H b=some (.tbl ps)->∃more,H' b=some (.tbl (ps++more))
section
variable {fs fs' ex ex':List Addr}{H H1 H2:Hp}{h h1 h2 h':Heap}{a x e:Addr}{o:HO}
theorem Un.any(u:Un fs ex H H1 h h1){b:Addr}{ob:Obj}(q:h.get? b=some ob)(n:H b=none)(hx:b ∉ ex):∃sl,h1.get? b=some { ob with slots:=sl }:=by
 by_cases hb:b∈fs
 .exact u.slot b ob q n hb hx
 .exact⟨ob.slots,u.keep b ob q n hb hx⟩
theorem Un.kept(k:∀b u,h.get? b=some u->h'.get? b=some u):Un fs ex H H h h' :=
 ⟨λb ob q _ _ _=>k b ob q,λb ob q _ _ _=>⟨ob.slots,k b ob q⟩,λ_ _ _ n _=>n,λb ob q _=>⟨ob,k b ob q⟩,λ_ _ q=>q,λ_ _ _ q=>q,λ_ ps q=>⟨#[],by rw[q];simp⟩⟩
theorem Un.refl:Un fs ex H H h h:=Un.kept λ_ _ q=>q
theorem Un.laid(k:∀b u,h.get? b=some u->h'.get? b=some u)(hp:h.objs.size<=a)(hn:H a=none):Un fs ex H (upd H a o) h h' where
 keep:=λb u q _ _ _=>k b u q
 slot:=λb u q _ _ _=>⟨u.slots,k b u q⟩
 free:=λb u q n _=>by rw[zai (AV (AC (Ax q) hp))];exact n
 there:=λb u q _=>⟨u,k b u q⟩
 tups:=λb xs q=>by rw[zai (zaj q hn)];exact q
 frzs:=λb u xs q=>by rw[zai (zaj q hn)];exact q
 tbls:=λb ps q=>⟨#[],by rw[zai (zaj q hn),q];simp⟩
theorem Un.write(mu:Mut (H x))(he:e=x∨H e=some (.own x))(k:∀b u,b≠e->h.get? b=some u->h'.get? b=some u)(heo:∃u,h'.get? e=some u):Un fs ex H (upd H x o) h h':=by
 have hx:∀b,H b=none->b≠x:=λb n z=>by subst z;rw[n]at mu;exact mu
 have hb:∀b,H b=none->b≠e:=λb n z=>by
  subst z;rcases he with r |r
  .exact hx b n r
  .rw[n]at r;cases r
 have hm:∀b u,H b=some u->¬ Mut (some u)->b≠x:=λb u q nm z=>by subst z;rw[q]at mu;exact nm mu
 refine⟨λb u q n _ _=>k b u (hb b n) q,λb u q n _ _=>⟨u.slots,k b u (hb b n) q⟩,λb u q n _=>by rw[zai (hx b n)];exact n,λb u q _=>?_,
  λb xs q=>by rw[zai (hm b _ q λz=>z)];exact q,λb u xs q=>by rw[zai (hm b _ q λz=>z)];exact q,λb ps q=>⟨#[],by rw[zai (hm b _ q λz=>z),q];simp⟩⟩
 by_cases hbe:b=e
 .subst hbe;exact heo
 .exact⟨u,k b u hbe q⟩
end
noncomputable def trk(h:Heap)(H:Hp):List Addr:=(BD h.objs.size).filter λa=>(H a).isSome
noncomputable def hidT(h:Heap)(H:Hp):Heap:=W.hideAll h (trk h H)
theorem zjt(h:Heap)(H:Hp):(hidT h H).objs.size=h.objs.size:=W.hideAll_size _ _
theorem zks{h:Heap}{H:Hp}{b:Addr}{o:Obj}(e:h.get? b=some o)(n:H b=none):(hidT h H).get? b=some o :=
 W.hideAll_get _ e λhm=>by have q:(H b).isSome=true:=(D7.mp hm).2;rw[n]at q;simp at q
theorem zlC{h:Heap}{H:Hp}{b:Addr}{o:Obj}(e:(hidT h H).get? b=some o):h.get? b=some o/\H b=none:=by
 have e':h.get? b=some o:=W.of_hideAll (trk h H) e;refine⟨e',?_⟩
 cases q:H b with
 |none=>rfl
 |some x =>
  have hm:b∈trk h H:=List.mem_filter.mpr ⟨List.mem_range.mpr (Ax e'),by simp[q]⟩;have z:(hidT h H).get? b=none:=W.hideAll_none (trk h H) hm;rw[z]at e;cases e
noncomputable def zlW(g h:Heap)(L:Addr):List (Addr×Obj):=(BD h.objs.size).filterMap λa=>if a=L∨(g.get? a).isSome=true then none else (h.get? a).map λo=>(a,o)
noncomputable def rest(g h:Heap)(L d:Addr):List (Addr×Obj):=(zlW g h L).filter λp=>decide (p.1≠d)
structure Mod (K:W.Frag) (mg:Str->Option Value) (base:Heap):Prop where
 kin:K.In base
 glob:base.Ns AL mg
 blt:∃mb,base.Ns builtinsNs mb/\∀x:Str,x ≠ "__name__" -> mb x=bootBuiltins x
 nolimit:base.NoLimit
structure Cx where
 prog:AF
 w:A5
 K:W.Frag
 mg:Str->Option Value
 base:Heap
 A:AO
 N:List Str
 s₀:Ac
 H₀:Hp
 env:Env
 outer:List Env
 stack:List Env
 ex:List Addr
 fn:Str->Bool
 calm:Bool
 pn:List (Addr×Obj)
 xe:Value->Ac->Prop
noncomputable def frs(l:List Env):List Addr:=l.filterMap (·.frame)
noncomputable abbrev Cx.fs(X:Cx):List Addr:=frs X.outer
noncomputable def Vis(sc:Scope)(x:Str):Prop:=sc.names.lookup x=some .local∨sc.names.lookup x=some .cell∨sc.names.lookup x=some .free
noncomputable def Loc(sc:Scope)(x:Str):Prop:=sc.names.lookup x=some .local∨sc.names.lookup x=some .cell
noncomputable def Look(env:Env)(h:Heap)(m:Str->Option Value)(x:Str)(u:Value):Prop :=
 (env.kindOf x=some .local/\m x=some u)∨((env.kindOf x=some .cell∨env.kindOf x=some .free)/\∃c,env.cells.lookup x=some c/\h.IsCell c (some u))
structure Cx.Ok (X:Cx):Prop where
 mod:Mod X.K X.mg X.base
 kind:X.env.scope.kind=.function
 glob:X.env.globals=AL
 blt:X.env.builtins=builtinsNs
 above:X.s₀.heap.objs.size<=X.env.locals
 inj:∀x y c,X.env.cells.lookup x=some c->X.env.cells.lookup y=some c->x=y
 has:∀x,(X.env.kindOf x=some .cell∨X.env.kindOf x=some .free)->∃c,X.env.cells.lookup x=some c
 cab:∀x c,X.fn x=true->X.env.cells.lookup x=some c->X.s₀.heap.objs.size<=c
 hd:X.calm=true->X.A.handled=none
 frames:X.A.frames=some X.stack
 stk:X.stack=X.outer∨(X.stack=X.env::X.outer/\X.env.frame=some X.env.locals)
 exf:∀b∈X.ex,b≠X.env.locals/\∀x c,X.env.cells.lookup x=some c->c≠b
 bs:∀b o,X.base.get? b=some o->X.s₀.heap.get? b=some o/\X.H₀ b=none
 bsz:X.base.objs.size<=X.s₀.heap.objs.size
 noex:∀b o,X.base.get? b=some o->b ∉ X.ex
 exfs:∀b∈X.ex,b ∉ X.fs
 funs:X.s₀.heap.FunFrames X.base X.outer
 frf:∀b∈X.fs,X.H₀ b=none
structure Inv (X:Cx) (pins:List (Addr×Obj)) (σ:List (Option V)) (H:Hp) (s:Ac):Prop where
 ok:X.Ok
 os:s.os=X.s₀.os
 bare:AllBare s.gens
 base:Un X.fs X.ex X.H₀ H X.s₀.heap s.heap
 loc:∃m,s.heap.Ns X.env.locals m/\∀(i:Nat) (x:Str) (v:V),X.N[i]?=some x->σ[i]?=some (some v)->Vis X.env.scope x->∃u,RelV v u/\Look X.env s.heap m x u
 cell:∀x c,X.env.cells.lookup x=some c->∃v,s.heap.IsCell c v
 free:H X.env.locals=none
 freeC:∀x c,X.env.cells.lookup x=some c->H c=none
 pin:∀p∈X.pn++pins,s.heap.get? p.1=some p.2/\H p.1=none/\p.1≠X.env.locals/\p.1 ∉ X.fs/\∀v,p.2.data≠.cell v
 hok:HOk X.prog X.w H s.heap
 len:σ.length=X.N.length
section
variable {X:Cx}{pins:List (Addr×Obj)}{σ:List (Option V)}{H H':Hp}{s:Ac}{h':Heap}
theorem Cx.Ok.nofr(ok:X.Ok){b:Addr}{o:Obj}(e:X.base.get? b=some o):b ∉ X.fs:=λhb=>by have:=(ok.funs.mem hb).1;rw[e]at this;cases this
theorem Inv.bs(I:Inv X pins σ H s):∀b o,X.base.get? b=some o->s.heap.get? b=some o/\H b=none:=λb o e =>
 ⟨I.base.keep b o (I.ok.bs b o e).1 (I.ok.bs b o e).2 (I.ok.nofr e) (I.ok.noex b o e),I.base.free b o (I.ok.bs b o e).1 (I.ok.bs b o e).2 (I.ok.noex b o e)⟩
theorem Inv.bk(I:Inv X pins σ H s):∀b o,X.base.get? b=some o->s.heap.get? b=some o:=λb o e=>(I.bs b o e).1
theorem Inv.mod(I:Inv X pins σ H s):Mod X.K X.mg X.base:=I.ok.mod
theorem Inv.kIn(I:Inv X pins σ H s):X.K.In s.heap:=I.ok.mod.kin.keeps I.bk
theorem Inv.lt(I:Inv X pins σ H s):X.env.locals<s.heap.objs.size:=let ⟨_,hn,_⟩:=I.loc;hn.lt
theorem Inv.sz(I:Inv X pins σ H s):X.s₀.heap.objs.size<=s.heap.objs.size:=AN I.ok.above (Bc I.lt)
theorem Inv.nofs(I:Inv X pins σ H s){a:Addr}(h:s.heap.objs.size<=a):a ∉ X.fs:=λhb=>by obtain⟨_,o,ho,_⟩:=I.ok.funs.mem hb;exact absurd (AC (Ax ho) (AN I.sz h)) (Ca _)
theorem Inv.cne(I:Inv X pins σ H s):∀x c,X.env.cells.lookup x=some c->c≠X.env.locals:=λx c e z=>by obtain⟨v,o,ho,hd⟩:=I.cell x c e;obtain⟨m,⟨o',es,ep,ho',hd',_⟩,_⟩:=I.loc;rw[z,ho']at ho;cases ho;rw[hd']at hd;cases hd
theorem Inv.funs(I:Inv X pins σ H s):s.heap.FunFrames X.base X.outer:=by
 have all:∀(l:List Env),(∀b∈frs l,b∈X.fs)->X.s₀.heap.FunFrames X.base l->s.heap.FunFrames X.base l:=by
  intro l
  induction l with
  |nil=>intro _ _;trivial
  |cons env r ih =>
   intro hs hl;obtain⟨hk,⟨L,o,hf,hn,ho,hd⟩,hr⟩:=hl;have hL:L∈X.fs:=hs L (by unfold frs;rw[CF,hf];exact AQ);obtain⟨sl,e⟩:=I.base.slot L o ho (I.ok.frf L hL) hL λz=>I.ok.exfs L z hL
   exact⟨hk,⟨L,_,hf,hn,e,hd⟩,ih (λb hb=>hs b (by unfold frs;rw[CF,hf];exact AI _ hb)) hr⟩
 exact all X.outer (λ_ hb=>hb) I.ok.funs
theorem Inv.stack(I:Inv X pins σ H s):s.heap.FunFrames X.base X.stack:=by
 rcases I.ok.stk with e |⟨e,hf⟩
 .rw[e];exact I.funs
 .rw[e];obtain⟨m,hn,_⟩:=I.loc;refine .cons (by rw[I.ok.kind];decide) hf hn ?_ I.funs;exact Heap.get?_none_of_le (AN I.ok.bsz I.ok.above)
theorem Inv.stkSub(I:Inv X pins σ H s):∀b∈frs X.stack,b∈X.env.locals::X.fs:=λb hb=>by
 rcases I.ok.stk with e |⟨e,hf⟩
 .rw[e]at hb;exact AI _ hb
 .rw[e]at hb;unfold frs at hb;rw[CF,hf]at hb;exact hb
theorem Inv.stkFree(I:Inv X pins σ H s):∀b∈frs X.stack,H b=none:=λb hb=>by
 rcases At.mp (I.stkSub b hb) with e |hb
 .rw[e];exact I.free
 .obtain⟨_,o,ho,_⟩:=I.ok.funs.mem hb;exact I.base.free b o ho (I.ok.frf b hb) λz=>I.ok.exfs b z hb
theorem Inv.step{g':Array GenState}{t':Nat}{d':Drawn}{ch:List Addr}(I:Inv X pins σ H s)
  (hch:∀b∈ch,(b∈X.ex∨X.s₀.heap.objs.size<=b)/\b≠X.env.locals/\(∀x c,X.env.cells.lookup x=some c->c≠b)/\∀p∈X.pn++pins,p.1≠b)
  (keep:∀b o,b≠X.env.locals->b ∉ X.fs->b ∉ ch->s.heap.get? b=some o->H b=none->h'.get? b=some o)
  (slot:∀b o,b≠X.env.locals->b∈X.fs->b ∉ ch->s.heap.get? b=some o->H b=none->∃sl,h'.get? b=some { o with slots:=sl }) (free:∀b o,b ∉ ch->s.heap.get? b=some o->H b=none->H' b=none)
  (there:∀b o,b ∉ ch->s.heap.get? b=some o->∃o',h'.get? b=some o')
  (tups:∀b xs,H b=some (.tup xs)->H' b=some (.tup xs)) (frzs:∀b o u,H b=some (.frz o u)->H' b=some (.frz o u)) (tbls:∀b ps,H b=some (.tbl ps)->∃more,H' b=some (.tbl (ps++more)))
  (ns:∀m,s.heap.Ns X.env.locals m->h'.Ns X.env.locals m) (hok:HOk X.prog X.w H' h') (hg:AllBare g') :
  Inv X pins σ H' { s with heap:=h',gens:=g',drawn:=d',toks:=t' }:=by
 have neL:∀b o,X.s₀.heap.get? b=some o->b≠X.env.locals:=λb o e=>AV (AC (Ax e) I.ok.above)
 have neC:∀b o,X.s₀.heap.get? b=some o->b ∉ X.ex->b ∉ ch:=λb o e hx hb=>by
  rcases (hch b hb).1 with z |z
  .exact hx z
  .exact absurd (AC (Ax e) z) (Ca _)
 have cellK:∀x c,X.env.cells.lookup x=some c->∀v,s.heap.IsCell c v->h'.IsCell c v:=λx c e v ⟨o,ho,hd⟩=>by
  have nch:c ∉ ch:=λz=>(hch c z).2.2.1 x c e rfl
  by_cases hc:c∈X.fs
  .obtain⟨sl,q⟩:=slot c o (I.cne x c e) hc nch ho (I.freeC x c e);exact⟨_,q,hd⟩
  .exact⟨o,keep c o (I.cne x c e) hc nch ho (I.freeC x c e),hd⟩
 refine⟨I.ok,I.os,hg,⟨λb o e n hb hx=>?_,λb o e n hb hx=>?_,λb o e n hx=>?_,λb o e hx=>?_,λb xs e=>tups b xs (I.base.tups b xs e),λb o xs e=>frzs b o xs (I.base.frzs b o xs e),λb ps e=>?_⟩,?_,λx c e=>?_,?_,λx c e=>?_,λp hp=>?_,hok,I.len⟩
 .exact keep b o (neL b o e) hb (neC b o e hx) (I.base.keep b o e n hb hx) (I.base.free b o e n hx)
 .obtain⟨sl,e1⟩:=I.base.slot b o e n hb hx;obtain⟨sl',e2⟩:=slot b _ (neL b o e) hb (neC b o e hx) e1 (I.base.free b o e n hx);exact⟨sl',e2⟩
 .obtain⟨o',e1⟩:=I.base.there b o e hx;exact free b o' (neC b o e hx) e1 (I.base.free b o e n hx)
 .obtain⟨o',e1⟩:=I.base.there b o e hx;exact there b o' (neC b o e hx) e1
 .obtain⟨m1,e1⟩:=I.base.tbls b ps e;obtain⟨m2,e2⟩:=tbls b _ e1;exact⟨m1++m2,by rw[e2,Array.append_assoc]⟩
 .obtain⟨m,hn,hl⟩:=I.loc;refine⟨m,ns m hn,λi x v e1 e2 e3=>?_⟩;obtain⟨u,r,l⟩:=hl i x v e1 e2 e3;refine⟨u,r,?_⟩;rcases l with l |⟨k,c,e,z⟩
  .exact .inl l
  .exact .inr ⟨k,c,e,cellK x c e _ z⟩
 .obtain⟨v,z⟩:=I.cell x c e;exact⟨v,cellK x c e v z⟩
 .obtain⟨m,⟨o,_,_,ho,_⟩,_⟩:=I.loc;exact free _ o (λz=>(hch _ z).2.1 rfl) ho I.free
 .obtain⟨v,o,ho,hd⟩:=I.cell x c e;exact free c o (λz=>(hch c z).2.2.1 x c e rfl) ho (I.freeC x c e)
 .obtain⟨e,n,ne,nf,d⟩:=I.pin p hp;have nch:p.1 ∉ ch:=λz=>(hch p.1 z).2.2.2 p hp rfl
  exact⟨keep p.1 p.2 ne nf nch e n,free p.1 p.2 nch e n,ne,nf,d⟩
theorem Inv.un{t':Nat}(I:Inv X pins σ H s)(u:Un X.fs [] H H' s.heap h')(hok:HOk X.prog X.w H' h'):Inv X pins σ H' { s with heap:=h',toks:=t' }:=by
 obtain⟨m,⟨o,es,ep,ho,r⟩,_⟩:=id I.loc;obtain⟨sl,hL⟩:=u.any ho I.free (by simp)
 exact I.step (g':=s.gens) (d':=s.drawn) (ch:=[]) (λ_ z=>nomatch z) (λb o _ hb _ e n=>u.keep b o e n hb (by simp)) (λb o _ hb _ e n=>u.slot b o e n hb (by simp)) (λb o _ e n=>u.free b o e n (by simp)) (λb o _ e=>u.there b o e (by simp)) u.tups u.frzs u.tbls (λm' hm=>by obtain⟨o',es',ep',ho',r'⟩:=hm;rw[ho]at ho';cases ho';exact⟨_,es',ep',hL,r'⟩) hok I.bare
theorem Inv.call{g':Array GenState}{t':Nat}{d':Drawn}{ch:List Addr}(I:Inv X pins σ H s)(u:Un (frs X.stack) ch H H' s.heap h')(hok:HOk X.prog X.w H' h')(hg:AllBare g')
  (hch:∀b∈ch,(b∈X.ex∨X.s₀.heap.objs.size<=b)/\b≠X.env.locals/\(∀x c,X.env.cells.lookup x=some c->c≠b)/\∀p∈X.pn++pins,p.1≠b) :
  Inv X pins σ H' { s with heap:=h',gens:=g',drawn:=d',toks:=t' }:=by
 obtain⟨m,⟨o,es,ep,ho,r⟩,_⟩:=id I.loc;obtain⟨sl,hL⟩:=u.any ho I.free λz=>(hch _ z).2.1 rfl
 exact I.step (ch:=ch) hch (λb o hL hb hc e n=>u.keep b o e n (λz=>(At.mp (I.stkSub b z)).elim hL hb) hc) (λb o _ _ hc e n=>u.any e n hc) (λb o hc e n=>u.free b o e n hc) (λb o hc e=>u.there b o e hc) u.tups u.frzs u.tbls (λm' hm=>by obtain⟨o',es',ep',ho',r'⟩:=hm;rw[ho]at ho';cases ho';exact⟨_,es',ep',hL,r'⟩) hok hg
theorem Inv.turned{t':Nat}{it:Addr}(I:Inv X pins σ H s)(k:∀b o, b ≠ it -> s.heap.get? b=some o -> h'.get? b=some o)(hn:H it=none)(hL:it ≠ X.env.locals)
  (h1:it∈X.ex∨X.s₀.heap.objs.size<=it) (h2:∀x c,X.env.cells.lookup x=some c->c≠it) (h3:∀p∈X.pn++pins,p.1≠it):Inv X pins σ H { s with heap:=h',toks:=t' }:=by
 have nit:∀b u,H b=some u->b≠it:=λb u e z=>by rw[z,hn]at e;cases e
 refine I.step (g':=s.gens) (d':=s.drawn) (ch:=[it]) (λb hb=>?_) (λb o _ _ hc e _=>k b o (λz=>hc (by simp[z])) e) (λb o _ _ hc e _=>⟨o.slots,k b o (λz=>hc (by simp[z])) e⟩) (λ_ _ _ _ n=>n)
  (λb o hc e=>⟨o,k b o (λz=>hc (by simp[z])) e⟩) (λ_ _ e=>e) (λ_ _ _ e=>e) (λb ps e=>⟨#[],by rw[e];simp⟩) (λm hm=>?_) (λb u e=>?_) I.bare
 .have e:b=it:=by simpa using hb
  subst e;exact⟨h1,hL,h2,h3⟩
 .obtain⟨o,es,ep,ho,r⟩:=hm;exact⟨o,es,ep,k _ o (Bx hL) ho,r⟩
 .refine (I.hok b u e).stay (λc v hc q=>k c v ?_ q) (λ_ q=>q) λ_ _ q=>q
  rcases hc with z |z
  .rw[z];exact nit b u e
  .exact nit c _ z
theorem Inv.tok(I:Inv X pins σ H s)(t:Nat):Inv X pins σ H { s with toks:=t }:=I.un (h':=s.heap) (t':=t) Un.refl I.hok
theorem Inv.kept{t':Nat}(I:Inv X pins σ H s)(k:∀b u,s.heap.get? b=some u->h'.get? b=some u):Inv X pins σ H { s with heap:=h',toks:=t' }:=I.un (Un.kept k) (I.hok.kept k)
theorem Inv.laid{a:Addr}{o:HO}{t':Nat}(I:Inv X pins σ H s)(k:∀b u, s.heap.get? b=some u -> h'.get? b=some u)(hp:s.heap.objs.size <= a)(new:ObjOk X.prog X.w (upd H a o) h' a o) :
  Inv X pins σ (upd H a o) { s with heap:=h',toks:=t' }:=I.un (Un.laid k hp (I.hok.fresh hp)) (I.hok.laid k hp new)
theorem Inv.write{x e:Addr}{o:HO}{t':Nat}(I:Inv X pins σ H s)(mu:Mut (H x))(he:e=x ∨ H e=some (.own x))(k:∀b u, b ≠ e -> s.heap.get? b=some u -> h'.get? b=some u)(heo:∃u, h'.get? e=some u)
  (new:ObjOk X.prog X.w (upd H x o) h' x o):Inv X pins σ (upd H x o) { s with heap:=h',toks:=t' }:=I.un (Un.write mu he k heo) (I.hok.write mu he k heo new)
theorem Inv.pins_of{pins':List (Addr×Obj)}(I:Inv X pins σ H s)(h:∀p∈pins',s.heap.get? p.1=some p.2/\H p.1=none/\p.1≠X.env.locals/\p.1 ∉ X.fs/\∀v,p.2.data≠.cell v):Inv X pins' σ H s :=
 ⟨I.ok,I.os,I.bare,I.base,I.loc,I.cell,I.free,I.freeC,λp hp=>(Ap.mp hp).elim (λz=>I.pin p (Bl _ z)) (h p),I.hok,I.len⟩
theorem zhq{N:List Str}(hN:N.Nodup){i j:Nat}{x:Str}(a:N[i]?=some x)(b:N[j]?=some x):i=j:=by obtain⟨h1,e1⟩:=Ad.mp a;obtain⟨h2,e2⟩:=Ad.mp b;exact (List.getElem_inj hN).mp (e1.trans e2.symm)
theorem zfx{M:Model}{A:AO}{E:Value -> Ac -> Prop}{i:Nat}{x:Str}{v:V}{u:Value}{Q:Unit -> Ac -> Prop}(I:Inv X pins σ H s)(hN:X.N.Nodup)(hi:X.N[i]? = some x)(hx:Loc X.env.scope x)(r:RelV v u)
  (h:∀s',Inv X pins (σ.set i (some v)) H s'->(∃a,Cq a s.heap s'.heap/\(a=X.env.locals∨X.env.cells.lookup x=some a))->Q () s') (hf:X.fn x=true∨X.env.scope.names.lookup x=some .local:=by first |exact .inl rfl |exact .inr rfl |assumption):Ar M A (storeName X.env x u) Q E s:=by
 obtain⟨m,hn,hl⟩:=id I.loc;have hcls:(X.env.scope.kind == .class || (X.env.scope.kind == .module && X.env.locals != X.env.globals))=false:=by rw[I.ok.kind];rfl
 have hiσ:i<σ.length:=by rw[I.len];exact (Ad.mp hi).1
 have cne:=I.cne
 have tracked:∀{a:Addr} {h':Heap},(∃o,s.heap.get? a=some o/\H a=none)->Cq a s.heap h'->HOk X.prog X.w H h':=λ{a h'} ha hs b ob e=>by
  obtain⟨_,_,hfree⟩:=ha;refine (I.hok b ob e).stay (λc w' hc q=>(hs.2 c ?_).trans q) (λ_ q=>q) λ_ _ q=>q
  rintro rfl;rcases hc with rfl |hc
  .rw[hfree]at e;cases e
  .rw[hfree]at hc;cases hc
 rcases hx with hk |hk
 .refine wpAny_storeName_local hk hn (λh' hn' hs=>?_) hcls;obtain⟨oL,_,_,hoL,_⟩:=id hn;refine h _ ⟨I.ok,I.os,I.bare,⟨λb o e n hb hx=>?_,λb o e n hb hx=>?_,I.base.free,λb o e hx=>?_,I.base.tups,I.base.frzs,I.base.tbls⟩,⟨_,hn',λj y v' e1 e2 e3=>?_⟩,λy c e=>?_,I.free,I.freeC,λp hp=>?_,tracked ⟨oL,hoL,I.free⟩ hs,by simpa using I.len⟩ ⟨_,hs,.inl rfl⟩
  .exact (hs.2 b (AV (AC (Ax e) I.ok.above))).trans (I.base.keep b o e n hb hx)
  .obtain⟨sl,e1⟩:=I.base.slot b o e n hb hx;exact⟨sl,(hs.2 b (AV (AC (Ax e) I.ok.above))).trans e1⟩
  .obtain⟨o',e1⟩:=I.base.there b o e hx;exact⟨o',(hs.2 b (AV (AC (Ax e) I.ok.above))).trans e1⟩
  .by_cases hj:j=i
   .subst hj;rw[hi]at e1;cases e1;rw[List.getElem?_set_self hiσ]at e2
    cases e2
    exact⟨u,r,.inl ⟨hk,by simp⟩⟩
   .rw[List.getElem?_set_ne (Bx hj)]at e2;obtain⟨u',r',q⟩:=hl j y v' e1 e2 e3;refine⟨u',r',?_⟩;rcases q with⟨k,e⟩ |⟨k,c,e,z⟩
    .refine .inl ⟨k,?_⟩;have:y≠x:=λe=>hj (zhq hN e1 (e ▸ hi))
     simp[this,e]
    .exact .inr ⟨k,c,e,z.sameBut hs (cne y c e)⟩
  .obtain⟨w',z⟩:=I.cell y c e;exact⟨w',z.sameBut hs (cne y c e)⟩
  .obtain⟨e,n,ne,nf,d⟩:=I.pin p hp;exact⟨(hs.2 p.1 ne).trans e,n,ne,nf,d⟩
 .have hfn:X.fn x=true := by
   rcases hf with z |z
   .exact z
   .rw[z]at hk;cases hk
  obtain⟨c,hc⟩:=I.ok.has x (.inl hk);obtain⟨w',z⟩:=I.cell x c hc;refine wpAny_storeName_cell I.ok.kind hk hc z (λh' hc' hs=>?_);obtain⟨oc,hoc,hocd⟩:=id z;refine h { s with heap:=h' } ⟨I.ok,I.os,I.bare,⟨λb o e n hb hx=>?_,λb o e n hb hx=>?_,I.base.free,λb o e hx=>?_,I.base.tups,I.base.frzs,I.base.tbls⟩,⟨m,hn.sameBut hs (Bx (cne x c hc)),λj y v' e1 e2 e3=>?_⟩,λy c' e=>?_,I.free,I.freeC,λp hp=>?_,tracked ⟨oc,hoc,I.freeC x c hc⟩ hs,by simpa using I.len⟩ ⟨c,hs,.inr hc⟩
  .exact (hs.2 b (AV (AC (Ax e) (I.ok.cab x c hfn hc)))).trans (I.base.keep b o e n hb hx)
  .obtain⟨sl,e1⟩:=I.base.slot b o e n hb hx;exact⟨sl,(hs.2 b (AV (AC (Ax e) (I.ok.cab x c hfn hc)))).trans e1⟩
  .obtain⟨o',e1⟩:=I.base.there b o e hx;exact⟨o',(hs.2 b (AV (AC (Ax e) (I.ok.cab x c hfn hc)))).trans e1⟩
  .by_cases hj:j=i
   .subst hj;rw[hi]at e1;cases e1;rw[List.getElem?_set_self hiσ]at e2
    cases e2
    exact⟨u,r,.inr ⟨.inl hk,c,hc,hc'⟩⟩
   .rw[List.getElem?_set_ne (Bx hj)]at e2;obtain⟨u',r',q⟩:=hl j y v' e1 e2 e3;refine⟨u',r',?_⟩;rcases q with q |⟨k,c',e,z'⟩
    .exact .inl q
    .refine .inr ⟨k,c',e,z'.sameBut hs ?_⟩;rintro rfl;exact hj (zhq hN e1 (I.ok.inj _ _ _ e hc ▸ hi))
  .by_cases hcc:c'=c
   .subst hcc;exact⟨_,hc'⟩
   .obtain⟨w2,z2⟩:=I.cell y c' e;exact⟨w2,z2.sameBut hs hcc⟩
  .obtain⟨e,n,ne,nf,d⟩:=I.pin p hp;refine⟨(hs.2 p.1 ?_).trans e,n,ne,nf,d⟩;intro q;rw[q,hoc]at e;have q':oc=p.2:=A9 e;exact d w' (by rw[<- q'];exact hocd)
theorem zeL{M:Model}{A:AO}{E:Value -> Ac -> Prop}{i:Nat}{x:Str}{v:V}{u:Value}{Q:Unit -> Ac -> Prop}(I:Inv X pins σ H s)(hN:X.N.Nodup)(hi:X.N[i]? = some x)(hx:Loc X.env.scope x)(r:RelV v u)
  (h:∀s',Inv X pins (σ.set i (some v)) H s'->Q () s') (hf:X.fn x=true∨X.env.scope.names.lookup x=some .local:=by first |exact .inl rfl |exact .inr rfl |assumption):Ar M A (storeName X.env x u) Q E s :=
 zfx I hN hi hx r (λs' I' _=>h s' I') hf
theorem Inv.call'{s':Ac}{ch:List Addr}(I:Inv X pins σ H s)(ho:s'.os=s.os)(u:Un (frs X.stack) ch H H' s.heap s'.heap)(hok:HOk X.prog X.w H' s'.heap)(hg:AllBare s'.gens)
  (hch:∀b∈ch,(b∈X.ex∨X.s₀.heap.objs.size<=b)/\b≠X.env.locals/\(∀x c,X.env.cells.lookup x=some c->c≠b)/\∀p∈X.pn++pins,p.1≠b):Inv X pins σ H' s':=by
 obtain⟨h',g',d',t',o'⟩:=s';have e:o'=s.os:=ho;subst e;exact I.call (g':=g') (t':=t') (d':=d') u hok hg hch
end
noncomputable abbrev XK:=Value->Option Addr->Hp->Prop
noncomputable abbrev St:=List (Option V)
noncomputable abbrev VK:=V->Hp->Prop
noncomputable abbrev TE:=St->Hp->VK->Prop
noncomputable abbrev TT:=St->Hp->(Bool->Hp->Prop)->Prop
noncomputable abbrev TA:=St->Hp->(List V->Hp->Prop)->Prop
structure Ends where
 nx:St->Hp->Prop
 rt:VK
 bk:St->Hp->Prop:=λ_ _=>False
 ct:St->Hp->Prop:=λ_ _=>False
noncomputable abbrev TS:=Ends->St->Hp->Prop
noncomputable def EP(X:Cx)(pins:List (Addr×Obj))(σ:St)(Q:VK)(u:Value)(s':Ac):Prop:=∃v H',Inv X pins σ H' s'/\RelV v u/\Q v H'
noncomputable def TP(X:Cx)(pins:List (Addr×Obj))(σ:St)(Q:Bool->Hp->Prop)(b:Bool)(s':Ac):Prop:=∃H',Inv X pins σ H' s'/\Q b H'
noncomputable def AP(X:Cx)(pins:List (Addr×Obj))(σ:St)(Q:List V->Hp->Prop)(us:List Value)(s':Ac):Prop:=∃vs H',Inv X pins σ H' s'/\Vals vs us/\Q vs H'
noncomputable def SP(X:Cx)(pins:List (Addr×Obj))(D:Ends)(f:Flow)(s':Ac):Prop :=
 match f with
 |.next=>∃ σ' H',Inv X pins σ' H' s'/\D.nx σ' H'
 |.brk=>∃ σ' H',Inv X pins σ' H' s'/\D.bk σ' H'
 |.cont=>∃ σ' H',Inv X pins σ' H' s'/\D.ct σ' H'
 |.ret u=>∃v σ' H',Inv X pins σ' H' s'/\RelV v u/\D.rt v H'
noncomputable def PE(X:Cx)(e:Expr)(t:TE):Prop :=
 ∀(pins:List (Addr×Obj)) (s:Ac) (σ:St) (H:Hp) (Q:VK),Inv X pins σ H s->t σ H Q->Ar (Az X.prog X.w) X.A (eval e X.env) (EP X pins σ Q) X.xe s
noncomputable def PT(X:Cx)(e:Expr)(t:TT):Prop :=
 ∀(pins:List (Addr×Obj)) (s:Ac) (σ:St) (H:Hp) (Q:Bool->Hp->Prop),Inv X pins σ H s->t σ H Q->Ar (Az X.prog X.w) X.A (isTrue e X.env (eval e X.env)) (TP X pins σ Q) X.xe s
noncomputable def PW(X:Cx)(e:Expr)(t:TT):Prop :=
 ∀(whole:Sem Value) (pins:List (Addr×Obj)) (s:Ac) (σ:St) (H:Hp) (Q:Bool->Hp->Prop),Inv X pins σ H s->t σ H Q->Ar (Az X.prog X.w) X.A (isTrue e X.env whole) (TP X pins σ Q) X.xe s
theorem PW.pt{X:Cx}{e:Expr}{t:TT}(h:PW X e t):PT X e t:=h _
noncomputable def PA(X:Cx)(es:List Expr)(t:TA):Prop :=
 ∀(pos:Pos) (pins:List (Addr×Obj)) (s:Ac) (σ:St) (H:Hp) (Q:List V->Hp->Prop),Inv X pins σ H s->t σ H Q->Ar (Az X.prog X.w) X.A (spliced (DH pos (Bg es X.env))) (AP X pins σ Q) X.xe s
noncomputable def PS(X:Cx)(st:Stmt)(t:TS):Prop :=
 ∀(pins:List (Addr×Obj)) (s:Ac) (σ:St) (H:Hp) (D:Ends),Inv X pins σ H s->t D σ H->Ar (Az X.prog X.w) X.A (exec st X.env) (SP X pins D) X.xe s
noncomputable def PSs(X:Cx)(st:List Stmt)(t:TS):Prop :=
 ∀(pins:List (Addr×Obj)) (s:Ac) (σ:St) (H:Hp) (D:Ends),Inv X pins σ H s->t D σ H->Ar (Az X.prog X.w) X.A (execs st X.env) (SP X pins D) X.xe s
theorem thn{α:Type}{t:Sem α}{Q Q':α->Ac->Prop}{M:Model}{A:AO}{E:Value->Ac->Prop}{s:Ac}(h:Ar M A t Q E s)(hQ:∀a s,Q a s->Q' a s):Ar M A t Q' E s:=Bv h hQ λ_ _ x=>x
section
variable {X:Cx}
noncomputable def tVar(i:Nat):TE:=λσ H Q=>∃v,σ[i]?=some (some v)/\Q v H
noncomputable def tC(v:V):TE:=λ_ H Q=>Q v H
theorem zmo {i:Nat}{x:Str}{pos:Pos}(hN:X.N[i]?=some x) (hv:Vis X.env.scope x) (hd:(x == ("__debug__" : Str))=false:=by decide) (hcd:(x == ("__classdict__" : Str))=false:=by decide):PE X (.Name x pos) (tVar i):=by
 intro pins s σ H Q I h;obtain⟨v,e,h⟩:=h;obtain⟨m,hn,hl⟩:=I.loc;obtain⟨u,r,l⟩:=hl i x v hN e hv;have fin:EP X pins σ Q u s:=⟨v,H,I,r,h⟩;rcases l with⟨hk,hm⟩ |⟨hk,c,hc,hcell⟩
 .exact wpAny_Name (wpAny_loadName_local I.ok.kind hk hn hm fin) hd
 .rcases hk with hk |hk
  .exact wpAny_Name (wpAny_loadName_cell I.ok.kind hk hc hcell fin) hd
  .exact wpAny_Name (wpAny_loadName_free I.ok.kind hk hc hcell fin hcd) hd
theorem zad{i j pos}:PE X (.Constant (.int i) j pos) (tC (.int i)):=λ_ _ _ H _ I h=>wpAny_Constant_int ⟨.int i,H,I.tok _,⟨_,rfl⟩,h⟩
theorem pe_bl{b j pos}:PE X (.Constant (.bool b) j pos) (tC (.bl b)):=λ_ _ _ H _ I h=>Constant_bool ⟨.bl b,H,I,rfl,h⟩
theorem zby{j pos}:PE X (.Constant .none j pos) (tC .non):=λ_ _ _ H _ I h=>Constant_none ⟨.non,H,I,rfl,h⟩
theorem zbN{x j pos}:PE X (.Constant (.str x) j pos) (tC (.str x)):=λ_ _ _ H _ I h=>Calls.Constant_str ⟨.str x,H,I.tok _,⟨_,rfl⟩,h⟩
noncomputable def Gl(X:Cx)(x:Str):Prop:=X.env.kindOf x=some .globalImplicit
theorem zff{E:Value -> Ac -> Prop}{pins:List (Addr × Obj)}{s:Ac}{σ : St}{H:Hp}{x:Str}{u:Value}{pos:Pos}{Q:Value -> Ac -> Prop}(I:Inv X pins σ H s)(hg:Gl X x)(hm:X.mg x=some u)(h:Q u s)
  (hd:(x == ("__debug__" : Str))=false:=by decide):Ar (Az X.prog X.w) X.A (eval (.Name x pos) X.env) Q E s :=
 Calls.Name_function_global I.ok.kind hg (Calls.loadGlobal_global (by rw[I.ok.glob];exact I.mod.glob.keeps I.bk) hm h) hd
theorem zdX{E:Value -> Ac -> Prop}{pins:List (Addr × Obj)}{s:Ac}{σ : St}{H:Hp}{x:Str}{u:Value}{pos:Pos}{Q:Value -> Ac -> Prop}(I:Inv X pins σ H s)(hg:Gl X x)(hm:X.mg x=none)(hv:bootBuiltins x=some u)(h:Q u s)
  (hn:x ≠ "__name__":=by decide) (hd:(x == ("__debug__" : Str))=false:=by decide):Ar (Az X.prog X.w) X.A (eval (.Name x pos) X.env) Q E s:=by
 obtain⟨mb,h1,h2⟩:=I.mod.blt;exact Calls.Name_function_global I.ok.kind hg (Calls.loadGlobal_builtin (by rw[I.ok.glob];exact I.mod.glob.keeps I.bk) hm (by rw[I.ok.blt];exact h1.keeps I.bk) ((h2 x hn).trans hv) h) hd
theorem zdN {x:Str}{v:V}{u:Value}{pos:Pos}(hg:Gl X x) (hm:X.mg x=some u) (r:RelV v u) (hd:(x == ("__debug__" : Str))=false:=by decide):PE X (.Name x pos) (tC v) :=
 λ_ _ _ H _ I h=>zff I hg hm ⟨v,H,I,r,h⟩ hd
theorem zbI {x:Str}{v:V}{u:Value}{pos:Pos}(hg:Gl X x) (hm:X.mg x=none) (hv:bootBuiltins x=some u) (r:RelV v u) (hn:x ≠ "__name__":=by decide) (hd:(x == ("__debug__" : Str))=false:=by decide):PE X (.Name x pos) (tC v) :=
 λ_ _ _ H _ I h=>zdX I hg hm hv ⟨v,H,I,r,h⟩ hn hd
variable {a b:Expr}{ta tb:TE}{pos:Pos}
noncomputable def PC(X:Cx)(op:CmpOp)(a b:Expr)(t:TE):Prop :=
 ∀(pins:List (Addr×Obj)) (s:Ac) (σ:St) (H:Hp) (Q:VK),Inv X pins σ H s->t σ H Q ->
  Ar (Az X.prog X.w) X.A (eval a X.env) (λv s₁=>Ar (Az X.prog X.w) X.A (eval b X.env) (λu s₂=>Ar (Az X.prog X.w) X.A (BR op v u) (EP X pins σ Q) X.xe s₂) X.xe s₁) X.xe s
noncomputable def tB(t:TE):TT:=λσ H Q=>t σ H λx H1=>∃c,x=.bl c/\Q c H1
theorem zms{op:CmpOp}{t:TE}(h:PC X op a b t)(h1:DL op b=false:=by first |exact nobehind _ (by decide) (by decide) |rfl):PE X (.Compare a [op] [b] pos) t:=λpins s σ H Q I hw=>wpAny_Compare1 (h pins s σ H Q I hw) h1
theorem zhe{op:CmpOp}{t:TE}(h:PC X op a b t)(h1:DL op b=false:=by first |exact nobehind _ (by decide) (by decide) |rfl):PT X (.Compare a [op] [b] pos) (tB t):=by
 intro pins s σ H Q I hw;refine wpAny_isTrue_Compare1 (thn (h pins s σ H _ I hw) λv s1 h1=>thn h1 λu s2 h2=>thn h2 λc s3 ⟨x,H1,I1,r1,q1⟩=>?_) h1;obtain⟨d,rfl,q⟩:=q1
 cases r1
 exact BV ⟨H1,I1,q⟩
theorem zbV{e:Expr}{t:TE}(h:PE X e t)(he:∀whole,isTrue e X.env whole=(do let v <- whole;standAt e.pos;holding [v] (truthy v)):=by intro _;rfl):PT X e (tB t):=by
 intro pins s σ H Q I hw;refine isTrue_plain (thn (h pins s σ H _ I hw) λv s1 ⟨x,H1,I1,r1,q1⟩=>?_) (he _);obtain⟨d,rfl,q⟩:=q1
 cases r1
 exact BV ⟨H1,I1,q⟩
variable {tA tB':TT}{rest:List Expr}
noncomputable def tAnd(t u:TT):TT:=λσ H Q=>t σ H λc H1=>if c=true then u σ H1 Q else Q false H1
noncomputable def tOr(t u:TT):TT:=λσ H Q=>t σ H λc H1=>if c=true then Q true H1 else u σ H1 Q
noncomputable def tNot(t:TT):TT:=λσ H Q=>t σ H λc H1=>Q (!c) H1
theorem zgu(ha:PT X a tA):PW X (.BoolOp .And [a] pos) tA:=by
 intro wh pins s σ H Q I h;refine isTrue_and (thn (ha pins s σ H Q I h) λc s1 e=>?_)
 cases c with
 |true=>exact isTrue_and_nil e
 |false=>exact e
theorem zdL(ha:PT X a tA):PW X (.BoolOp .Or [a] pos) tA:=by
 intro wh pins s σ H Q I h;refine isTrue_or (thn (ha pins s σ H Q I h) λc s1 e=>?_)
 cases c with
 |false=>exact isTrue_or_nil e
 |true=>exact e
theorem ziX(ha:PT X a tA)(hb:PW X (.BoolOp .And (b::rest) pos) tB'):PW X (.BoolOp .And (a::b::rest) pos) (tAnd tA tB'):=by
 intro wh pins s σ H Q I h;refine isTrue_and (thn (ha pins s σ H _ I h) λc s1 ⟨H1,I1,q1⟩=>?_)
 cases c with
 |true=>exact hb wh pins s1 σ H1 Q I1 q1
 |false=>exact⟨H1,I1,q1⟩
theorem pw_or(ha:PT X a tA)(hb:PW X (.BoolOp .Or (b::rest) pos) tB'):PW X (.BoolOp .Or (a::b::rest) pos) (tOr tA tB'):=by
 intro wh pins s σ H Q I h;refine isTrue_or (thn (ha pins s σ H _ I h) λc s1 ⟨H1,I1,q1⟩=>?_)
 cases c with
 |true=>exact⟨H1,I1,q1⟩
 |false=>exact hb wh pins s1 σ H1 Q I1 q1
theorem zcS(ha:PT X a tA):PT X (.UnaryOp .Not a pos) (tNot tA):=by intro pins s σ H Q I h;exact isTrue_not (ha pins s σ H (λc H1=>Q (!c) H1) I h)
noncomputable def tAndV(ta tb:TE):TE:=λσ H Q=>ta σ H λx H1=>∃c,x=.bl c/\if c=true then tb σ H1 Q else Q (.bl false) H1
noncomputable def tNotV(ta:TE):TE:=λσ H Q=>ta σ H λx H1=>∃c,x=.bl c/\Q (.bl (!c)) H1
theorem zcU{op}{t:TE}(h:PE X a t):PE X (.BoolOp op [a] pos) t:=λpins s σ H Q I hw=>BoolOp_one (h pins s σ H Q I hw)
theorem zcb(ha:PE X a ta)(hb:PE X (.BoolOp .And (b::rest) pos) tb):PE X (.BoolOp .And (a::b::rest) pos) (tAndV ta tb):=by
 intro pins s σ H Q I h;refine BoolOp_and (thn (ha pins s σ H _ I h) λv s1 ⟨x,H1,I1,r1,q1⟩=>?_);obtain⟨c,rfl,q1⟩:=q1
 cases r1
 refine BV ?_
 cases c with
 |true=>exact hb pins s1 σ H1 Q I1 q1
 |false=>exact⟨.bl false,H1,I1,rfl,q1⟩
theorem zkX(ha:PE X a ta):PE X (.UnaryOp .Not a pos) (tNotV ta):=by
 intro pins s σ H Q I h;refine UnaryOp_ (thn (ha pins s σ H _ I h) λv s1 ⟨x,H1,I1,r1,q1⟩=>?_);obtain⟨c,rfl,q1⟩:=q1
 cases r1
 exact not_of (BV ⟨.bl (!c),H1,I1,rfl,q1⟩)
noncomputable def tIf(t:TT)(ta tb:TE):TE:=λσ H Q=>t σ H λc H1=>if c=true then ta σ H1 Q else tb σ H1 Q
theorem zkc{c:Expr}(hc:PT X c tA)(ha:PE X a ta)(hb:PE X b tb):PE X (.IfExp c a b pos) (tIf tA ta tb):=by
 intro pins s σ H Q I h;refine wpAny_IfExp (thn (hc pins s σ H _ I h) λd s1 ⟨H1,I1,q1⟩=>?_)
 cases d with
 |true=>exact ha pins s1 σ H1 Q I1 q1
 |false=>exact hb pins s1 σ H1 Q I1 q1
end
noncomputable def SqL(K:W.Frag)(H:Hp)(a:Addr)(xs:List V):Prop :=
 Rd H a (.lst xs) ∨
  ∃(o:Obj) (its:Array Value) (n:Nat),K.lookup a=some o/\o.cls=.type "list" /\ o.dict=none/\o.data=.seq its n/\its.size<=sizeLine/\Vals xs its.toList
noncomputable def SqT(K:W.Frag)(H:Hp)(a:Addr)(xs:List V):Prop :=
 Rd H a (.tup xs) ∨
  ∃(o:Obj) (its:Array Value) (n:Nat),K.lookup a=some o/\o.cls=.type "tuple" /\ o.data=.seq its n/\its.size<=sizeLine/\Vals xs its.toList
noncomputable def absV:Value->Option V
 |.none=>some .non
 |.bool b=>some (.bl b)
 |.int i _=>some (.int i)
 |.str x _=>some (.str x)
 |.bytes b _=>some (.byt b)
 |.float b _=>some (.flt b)
 |.ref a=>some (.ref a)
 |.type n=>some (.ty n)
 |_=>none
theorem RelV.abs{x:V}{u:Value}(r:RelV x u):absV u=some x:=by
 cases x with
 |non=>cases r;rfl
 |bl _=>cases r;rfl
 |int _=>obtain⟨t,rfl⟩:=r;rfl
 |str _=>obtain⟨t,rfl⟩:=r;rfl
 |byt _=>obtain⟨t,rfl⟩:=r;rfl
 |flt _=>obtain⟨t,rfl⟩:=r;rfl
 |ref _=>cases r;rfl
 |ty _=>cases r;rfl
theorem RelV.inj{x y:V}{u:Value}(r:RelV x u)(q:RelV y u):x=y:=A9 (r.abs.symm.trans q.abs)
theorem Vals.inj:∀{xs ys:List V}{us:List Value},Vals xs us->Vals ys us->xs=ys
 |_,_,_,.nil,.nil=>rfl
 |_,_,_,.cons r t,.cons r' t'=>by rw[r.inj r',Vals.inj t t']
section
variable {X:Cx}{pins:List (Addr×Obj)}{σ:St}{H:Hp}{s:Ac}{a:Addr}{xs ys:List V}
theorem SqL.of{K:W.Frag}(h:H a=some (.lst xs)):SqL K H a xs:=.inl (.inl h)
theorem SqT.of{K:W.Frag}(h:H a=some (.tup xs)):SqT K H a xs:=.inl (.inl h)
theorem Inv.list(I:Inv X pins σ H s)(h:SqL X.K H a xs):∃its:List Value,Vals xs its/\PlainL s.heap a its.toArray/\xs.length<=sizeLine:=by
 rcases h with h |⟨o,its,n,hk,hc,hd,hs,hz,r⟩
 .obtain⟨z,its,n,r,e⟩:=h.ok I.hok;exact⟨its,r,⟨_,n,e,rfl,rfl,rfl⟩,z⟩
 .refine⟨its.toList,r,⟨o,n,I.kIn a o hk,hc,hd,by simpa using hs⟩,?_⟩;have e:=r.length;simp only[AJ]at e;lia
theorem Inv.tuple(I:Inv X pins σ H s)(h:SqT X.K H a xs):∃its:List Value,Vals xs its/\IsTup s.heap a its.toArray/\xs.length<=sizeLine:=by
 rcases h with h |⟨o,its,n,hk,hc,hs,hz,r⟩
 .obtain⟨z,its,r,p⟩:=h.ok I.hok;exact⟨its,r,p,z⟩
 .refine⟨its.toList,r,⟨o,I.kIn a o hk,hc,n,by simpa using hs⟩,?_⟩;have e:=r.length;simp only[AJ]at e;lia
theorem Inv.list_inj(I:Inv X pins σ H s)(h:SqL X.K H a xs)(h':SqL X.K H a ys):xs=ys:=by
 obtain⟨its,r,⟨o,n,e,_,_,d⟩,_⟩:=I.list h;obtain⟨its',r',⟨o',n',e',_,_,d'⟩,_⟩:=I.list h';rw[e]at e';cases e';rw[d]at d';injection d' with d1 _;have:its=its':=by simpa using congrArg Array.toList d1
 subst this;exact r.inj r'
theorem Inv.tuple_inj(I:Inv X pins σ H s)(h:SqT X.K H a xs)(h':SqT X.K H a ys):xs=ys:=by
 obtain⟨its,r,⟨o,e,_,n,d⟩,_⟩:=I.tuple h;obtain⟨its',r',⟨o',e',_,n',d'⟩,_⟩:=I.tuple h';rw[e]at e';cases e';rw[d]at d';injection d' with d1 _;have:its=its':=by simpa using congrArg Array.toList d1
 subst this;exact r.inj r'
end
noncomputable abbrev Cx.wish(X:Cx)(E:Value->Ac->Prop):Cx:={ X with xe:=E }
noncomputable abbrev Cx.nox(X:Cx):Cx:=X.wish λ_ _=>False
theorem Cx.Ok.wish{X:Cx}(ok:X.Ok)(E:Value->Ac->Prop):(X.wish E).Ok :=
 ⟨ok.mod,ok.kind,ok.glob,ok.blt,ok.above,ok.inj,ok.has,ok.cab,ok.hd,ok.frames,ok.stk,ok.exf,ok.bs,ok.bsz,ok.noex,ok.exfs,ok.funs,ok.frf⟩
theorem Cx.Ok.unwish{X:Cx}{E:Value->Ac->Prop}(ok:(X.wish E).Ok):X.Ok :=
 ⟨ok.mod,ok.kind,ok.glob,ok.blt,ok.above,ok.inj,ok.has,ok.cab,ok.hd,ok.frames,ok.stk,ok.exf,ok.bs,ok.bsz,ok.noex,ok.exfs,ok.funs,ok.frf⟩
section
variable {X:Cx}{pins:List (Addr×Obj)}{σ:St}{H:Hp}{s:Ac}{E:Value->Ac->Prop}
theorem Inv.wish(I:Inv X pins σ H s)(E:Value->Ac->Prop):Inv (X.wish E) pins σ H s:=⟨I.ok.wish E,I.os,I.bare,I.base,I.loc,I.cell,I.free,I.freeC,I.pin,I.hok,I.len⟩
theorem Inv.unwish(I:Inv (X.wish E) pins σ H s):Inv X pins σ H s:=⟨I.ok.unwish,I.os,I.bare,I.base,I.loc,I.cell,I.free,I.freeC,I.pin,I.hok,I.len⟩
theorem SP.unwish{D:Ends}{f:Flow}{s':Ac}(h:SP (X.wish E) pins D f s'):SP X pins D f s':=by
 cases f with
 |next=>obtain⟨σ',H',I,q⟩:=h;exact⟨σ',H',I.unwish,q⟩
 |brk=>obtain⟨σ',H',I,q⟩:=h;exact⟨σ',H',I.unwish,q⟩
 |cont=>obtain⟨σ',H',I,q⟩:=h;exact⟨σ',H',I.unwish,q⟩
 |ret u=>obtain⟨v,σ',H',I,r,q⟩:=h;exact⟨v,σ',H',I.unwish,r,q⟩
theorem PE.nox{e:Expr}{t:TE}(h:PE X.nox e t):PE X e t:=λpins s σ H Q I hw =>
 Bv (h pins s σ H Q (I.wish _) hw) (λ_ _ ⟨v,H',I',r,q⟩=>⟨v,H',I'.unwish,r,q⟩) λ_ _ z=>Bu z
theorem PT.nox{e:Expr}{t:TT}(h:PT X.nox e t):PT X e t:=λpins s σ H Q I hw =>
 Bv (h pins s σ H Q (I.wish _) hw) (λ_ _ ⟨H',I',q⟩=>⟨H',I'.unwish,q⟩) λ_ _ z=>Bu z
theorem PSs.nox{st:List Stmt}{t:TS}(h:PSs X.nox st t):PSs X st t:=λpins s σ H D I hw =>
 Bv (h pins s σ H D (I.wish _) hw) (λ_ _ q=>q.unwish) λ_ _ z=>Bu z
end
section
variable {X:Cx}{st:Stmt}{rest:List Stmt}{t u:TS}{e:Expr}{te:TE}{pos:Pos}
noncomputable def tNext:TS:=λD σ H=>D.nx σ H
noncomputable def tSeq(t u:TS):TS:=λD σ H=>t { D with nx:=u D } σ H
theorem zaA:PSs X [] tNext:=λ_ _ σ H _ I h=>DR ⟨σ,H,I,h⟩
theorem zac(h1:PS X st t)(h2:PSs X rest u):PSs X (st::rest) (tSeq t u):=by
 intro pins s σ H D I h;refine wpAny_execs_cons (thn (h1 pins s σ H { D with nx:=u D } I h) λf s1 q=>?_)
 cases f with
 |next =>
  obtain⟨σ',H',I',q⟩:=q;exact h2 pins s1 σ' H' D I' q
 |ret v=>exact q
 |brk=>exact q
 |cont=>exact q
theorem zah(h1:PS X st t):PSs X [st] t:=by
 intro pins s σ H D I h;refine wpAny_execs_cons (thn (h1 pins s σ H D I h) λf s1 q=>?_)
 cases f with
 |next=>exact DR q
 |ret v=>exact q
 |brk=>exact q
 |cont=>exact q
theorem Inv.quiet{pins:List (Addr×Obj)}{σ:St}{H:Hp}{s:Ac}(I:Inv X pins σ H s):interactive X.env=false:=by simp[interactive,I.ok.kind]
noncomputable def tDrop(te:TE):TS:=λD σ H=>te σ H λ_ H1=>D.nx σ H1
theorem zaS(he:PE X e te)(hs:swapsWith e none pos.line X.env=pure false:=by rfl):PS X (.Expr e pos) (tDrop te):=by intro pins s σ H D I h;exact wpAny_Expr_any (thn (he pins s σ H _ I h) λv s1 ⟨x,H1,I1,r1,q1⟩=>⟨σ,H1,I1,q1⟩) I.quiet hs
noncomputable def tRet(te:TE):TS:=λD σ H=>te σ H D.rt
theorem zal(he:PE X e te):PS X (.Return (some e) pos) (tRet te):=by intro pins s σ H D I h;exact wpAny_Return_some (thn (he pins s σ H _ I h) λv s1 ⟨x,H1,I1,r1,q1⟩=>⟨x,σ,H1,I1,r1,q1⟩)
noncomputable def tIfS(c:TT)(t u:TS):TS:=λD σ H=>c σ H λb H1=>if b=true then t D σ H1 else u D σ H1
theorem ps_if{c:Expr}{a b:List Stmt}{tc:TT}(hc:PT X c tc)(ha:PSs X a t)(hb:PSs X b u):PS X (.If c a b pos) (tIfS tc t u):=by
 intro pins s σ H D I h;refine wpAny_If (thn (hc pins s σ H _ I h) λd s1 ⟨H1,I1,q1⟩=>?_)
 cases d with
 |true=>exact ha pins s1 σ H1 D I1 q1
 |false=>exact hb pins s1 σ H1 D I1 q1
end
noncomputable abbrev TG:=V->St->Hp->(St->Hp->Prop)->Prop
noncomputable abbrev TGs:=List V->St->Hp->(St->Hp->Prop)->Prop
noncomputable def PG(X:Cx)(target:Expr)(t:TG):Prop :=
 ∀(pins:List (Addr×Obj)) (s:Ac) (σ:St) (H:Hp) (v:V) (u:Value) (Q:St->Hp->Prop),Inv X pins σ H s->RelV v u->t v σ H Q ->
  Ar (Az X.prog X.w) X.A (assign target X.env u) (λ_ s'=>∃ σ' H',Inv X pins σ' H' s'/\Q σ' H') X.xe s
noncomputable def PGs(X:Cx)(ts:List Expr)(t:TGs):Prop :=
 ∀(pins:List (Addr×Obj)) (s:Ac) (σ:St) (H:Hp) (vs:List V) (us:List Value) (Q:St->Hp->Prop),Inv X pins σ H s->Vals vs us->t vs σ H Q ->
  Ar (Az X.prog X.w) X.A (assignInOrder ((CB ts X.env).map (·.2)) us) (λ_ s'=>∃ σ' H',Inv X pins σ' H' s'/\Q σ' H') X.xe s
noncomputable abbrev TIp:=V->V->Hp->VK->Prop
noncomputable def PIp(X:Cx)(op:Operator)(t:TIp):Prop :=
 ∀(pins:List (Addr×Obj)) (s:Ac) (σ:St) (H:Hp) (x y:V) (v u:Value) (Q:VK),Inv X pins σ H s->RelV x v->RelV y u->t x y H Q ->
  Ar (Az X.prog X.w) X.A (inplaceOp op v u) (EP X pins σ Q) X.xe s
section
variable {X:Cx}{pos:Pos}
noncomputable def gName(i:Nat):TG:=λv σ H Q=>Q (σ.set i (some v)) H
theorem zcK{i:Nat}{x:Str}(hN:X.N.Nodup)(hi:X.N[i]?=some x)(hx:Loc X.env.scope x)(hf:X.fn x=true∨X.env.scope.names.lookup x=some .local:=by first |exact .inl rfl |exact .inr rfl |assumption):PG X (.Name x pos) (gName i):=by intro pins s σ H v u Q I r h;exact wpAny_assign_Name (zeL I hN hi hx r (λs' I'=>⟨_,H,I',h⟩) hf)
noncomputable def gNil:TGs:=λvs σ H Q=>vs=[]/\Q σ H
noncomputable def gCons(t:TG)(u:TGs):TGs:=λvs σ H Q=>∃v r,vs=v::r/\t v σ H λσ' H'=>u r σ' H' Q
theorem zay:PGs X [] gNil:=by
 intro pins s σ H vs us Q I r h;obtain⟨e,h⟩:=h;subst e
 cases r
 exact assignInOrder_nil ⟨σ,H,I,h⟩
theorem zae{e:Expr}{es:List Expr}{t:TG}{u:TGs}(h1:PG X e t)(h2:PGs X es u)
  (hs:(CB (e::es) X.env).map (·.2)=assign e X.env::(CB es X.env).map (·.2):=by rfl):PGs X (e::es) (gCons t u):=by
 intro pins s σ H vs us Q I r h;obtain⟨v,vr,e1,h⟩:=h;subst e1
 cases r with
 |cons r rr =>
  rw[hs];refine assignInOrder_cons (thn (h1 pins s σ H _ _ _ I r h) λ_ s1 ⟨σ1,H1,I1,q1⟩=>?_);exact h2 pins s1 σ1 H1 _ _ Q I1 rr q1
noncomputable def gTup(K:W.Frag)(n:Nat)(t:TGs):TG:=λv σ H Q=>∃a xs,v=.ref a/\SqT K H a xs/\xs.length=n/\t xs σ H Q
theorem zaW{es:List Expr}{k:Nat}{t:TGs}{n:Nat}(hc:X.calm=true)(h:PGs X es t)
  (hn:(CB es X.env).length=n:=by rfl) (hst:(CB es X.env).findIdx? (·.1)=none:=by rfl):PG X (.Tuple es k pos) (gTup X.K n t):=by
 intro pins s σ H v u Q I r hw;obtain⟨a,xs,e1,hq,hl,hw⟩:=hw;subst e1
 cases r
 obtain⟨its,rv,ht,hz⟩:=I.tuple hq;refine assign_Tuple_tuple (I.ok.hd hc) ht (by simp[hn,<- hl,rv.length]) hst λh' hx=>?_
 have I1:Inv X pins σ H { s with heap:=h' }:=I.kept (t':=s.toks) λb o e=>hx b o (AV (Ax e)) e
 exact h pins _ σ H xs _ Q I1 (by simpa using rv) hw
noncomputable def tAsg(te:TE)(g:TG):TS:=λD σ H=>te σ H λx H1=>g x σ H1 D.nx
theorem za2{tg e:Expr}{te:TE}{g:TG}(he:PE X e te)(hg:PG X tg g)(hs:swapsWithSole [tg] e pos.line X.env=pure false := by rfl)(hw:swappedStores [tg] e X.env=pure none := by rfl)
  (h1:(CB [tg] X.env).map (·.2)=[assign tg X.env]:=by rfl):PS X (.Assign [tg] e pos) (tAsg te g):=by
 intro pins s σ H D I h;refine wpAny_Assign_stores (thn (he pins s σ H _ I h) λv s1 ⟨x,H1,I1,r1,q1⟩=>?_) hs hw;rw[h1];exact thn (hg pins s1 σ H1 x v _ I1 r1 q1) λ_ s2 q=>q
theorem zfC{i:Nat}{x:Str}{e:Expr}{te:TE}{pos':Pos}(hN:X.N.Nodup)(hi:X.N[i]? = some x)(hx:Loc X.env.scope x)(he:PE X e te)(hs:swapsWith e (some (.Name x pos')) pos.line X.env=pure false := by rfl)(hf:X.fn x=true ∨ X.env.scope.names.lookup x=some .local := by first |exact .inl rfl |exact .inr rfl |assumption) :
  PS X (.Assign [.Name x pos'] e pos) (tAsg te (gName i)):=by
 intro pins s σ H D I h;refine wpAny_Assign_Name (thn (he pins s σ H _ I h) λv s1 ⟨y,H1,I1,r1,q1⟩=>?_) hs;exact zeL I1 hN hi hx r1 (λs2 I2=>⟨_,H1,I2,q1⟩) hf
noncomputable def tAug(i:Nat)(te:TE)(ti:TIp):TS:=λD σ H=>∃x,σ[i]?=some (some x)/\te σ H λy H1=>ti x y H1 λz H2=>D.nx (σ.set i (some z)) H2
theorem zmn{i:Nat}{x:Str}{e:Expr}{te:TE}{op:Operator}{ti:TIp}{pos':Pos}(hN:X.N.Nodup)(hi:X.N[i]? = some x)(hx:Loc X.env.scope x)(he:PE X e te)(ho:PIp X op ti)(hf:X.fn x=true ∨ X.env.scope.names.lookup x=some .local := by first |exact .inl rfl |exact .inr rfl |assumption) :
  PS X (.AugAssign (.Name x pos') op e pos) (tAug i te ti):=by
 intro pins s σ H D I h;obtain⟨v,e1,h⟩:=h;obtain⟨m,hn,hl⟩:=I.loc;have vis:Vis X.env.scope x:=by rcases hx with k |k;exact .inl k;exact .inr (.inl k)
 obtain⟨u,r,l⟩:=hl i x v hi e1 vis;refine wpAny_AugAssign_Name ?_
 have go:Ar (Az X.prog X.w) X.A (eval e X.env) (λw s₂=>Ar (Az X.prog X.w) X.A (inplaceOp op u w) (λr s₃=>Ar (Az X.prog X.w) X.A (storeName X.env x r) (λ_=>SP X pins D .next) X.xe s₃) X.xe s₂) X.xe s:=by
  refine thn (he pins s σ H _ I h) λw s1 ⟨y,H1,I1,r1,q1⟩=>?_
  refine thn (ho pins s1 σ H1 v y u w _ I1 r r1 q1) λz s2 ⟨zv,H2,I2,r2,q2⟩=>?_
  exact zeL I2 hN hi hx r2 (λs3 I3=>⟨_,H2,I3,q2⟩) hf
 rcases l with⟨hk,hm⟩ |⟨hk,c,hc,hcell⟩
 .exact wpAny_loadName_local I.ok.kind hk hn hm go
 .rcases hk with hk |hk
  .exact wpAny_loadName_cell I.ok.kind hk hc hcell go
  .rcases hx with k |k
   .have:X.env.scope.names.lookup x=some .free:=hk;rw[k]at this;cases this
   .have:X.env.scope.names.lookup x=some .free:=hk;rw[k]at this;cases this
noncomputable def ipI(f:Int->Int->Int):TIp:=λx y H Q=>∃i j,x=.int i/\y=.int j/\Q (.int (f i j)) H
theorem zmG:PIp X .Add (ipI λi j=>i+j):=by intro pins s σ H x y v u Q I r1 r2 h;obtain⟨i,j,e1,e2,q⟩:=h;subst e1;subst e2;obtain⟨t,rfl⟩:=r1;obtain⟨t',rfl⟩:=r2;exact iadd_int ⟨.int _,H,I.tok _,⟨_,rfl⟩,q⟩
end
section
variable {X:Cx}{pos:Pos}
noncomputable def zgZ(c:TT)(tb:TS):TS:=λD σ H=>∃W:Nat->St->Hp->Prop,(∃m,W m σ H)/\∀m σ H,W m σ H ->
 c σ H λb H1=>if b=true then ∃N:St->Hp->Prop,(∀ σ' H',N σ' H'->∃m',m'<m/\W m' σ' H')/\tb { D with nx:=N,ct:=N,bk:=D.nx } σ H1 else D.nx σ H1
theorem zhf{c:Expr}{body:List Stmt}{tc:TT}{tb:TS}(hp:PassesOwn (Az X.prog X.w) X.A X.env X.xe)(hc:PT X c tc)(hb:PSs X body tb):PS X (.While c body [] pos) (zgZ tc tb):=by
 intro pins s σ H D I h;obtain⟨W,⟨m0,w0⟩,turn⟩:=h;refine wpAny_While (codeAny_whileLoop (λn s'=>∃ σ' H',Inv X pins σ' H' s'/\W n σ' H') ?_ m0 ⟨σ,H,I,w0⟩);rintro n s1 ⟨σ1,H1,I1,w1⟩;refine CT hp (thn (hc pins s1 σ1 H1 _ I1 (turn n σ1 H1 w1)) λb s2 ⟨H2,I2,q2⟩=>?_)
 cases b with
 |true =>
  obtain⟨N,hN,q2⟩:=q2;rw[if_pos rfl];refine CT hp (thn (hb pins s2 σ1 H2 _ I2 q2) λf s3 q3=>?_)
  cases f with
  |next =>
   obtain⟨σ3,H3,I3,n3⟩:=q3;obtain⟨m',hm,w3⟩:=hN σ3 H3 n3;exact⟨m',hm,σ3,H3,I3,w3⟩
  |cont =>
   obtain⟨σ3,H3,I3,n3⟩:=q3;obtain⟨m',hm,w3⟩:=hN σ3 H3 n3;exact⟨m',hm,σ3,H3,I3,w3⟩
  |brk=>exact q3
  |ret v=>exact q3
 |false =>
  rw[if_neg Au];exact DR ⟨σ1,H2,I2,q2⟩
end
structure It where
 go:Nat->Hp->Prop
 yld:Nat->Hp->V->Hp->Prop
 stop:Nat->Hp->Prop
noncomputable def FpOk(X:Cx)(pins:List (Addr×Obj))(H:Hp)(b:Addr):Prop :=
 H b=none/\b≠X.env.locals/\b ∉ X.fs/\(b∈X.ex∨X.s₀.heap.objs.size<=b)/\(∀x c,X.env.cells.lookup x=some c->c≠b)/\∀p∈X.pn++pins,p.1≠b
theorem Inv.fpOk{X:Cx}{pins:List (Addr×Obj)}{σ:St}{H H':Hp}{s:Ac}{b:Addr}(I:Inv X pins σ H s)(hb:s.heap.objs.size<=b)(hn:H' b=none):FpOk X pins H' b:=by
 refine⟨hn,Cr (AC I.lt hb),I.nofs hb,.inr (AN I.sz hb),λx c e z=>?_,λp hp z=>?_⟩
 .obtain⟨v,q⟩:=I.cell x c e;exact absurd (AC q.lt (by rw[z];exact hb)) (Ca _)
 .exact absurd (AC (Ax (I.pin p hp).1) (by rw[z];exact hb)) (Ca _)
structure Turn (P:AF) (w:A5) (K:W.Frag) (tg:Expr) (J:It) (fp:List Addr) (it:Addr) (tn:Nat->Heap->Prop):Prop where
 mem:it∈fp
 obj:∀i h,tn i h->∀b∈fp,∃o,h.get? b=some o/\∀v,o.data≠.cell v
 keep:∀i h h',tn i h->(∀b∈fp,∀o,h.get? b=some o->h'.get? b=some o)->tn i h'
 item:∀(X:Cx),X.prog=P->X.w=w->X.K=K->X.calm=true->∀(i:Nat) (pins:List (Addr×Obj)) (s:Ac) (σ:St) (H:Hp) (E:Value->Ac->Prop),Inv X pins σ H s->(∀b∈fp,FpOk X pins H b)->tn i s.heap->J.go i H ->
  Ar (Az P w) X.A (pyNext (.ref it)) (λr s1=>∃u,r=some u /\
   Ar (Az P w) X.A (letOwnedTupleGo tg (.ref it) u) (λ_ s2=>∃x H',Inv X pins σ H' s2/\RelV x u/\J.yld i H x H'/\tn (i+1) s2.heap/\∀b∈fp,H' b=none) E s1) E s
 done:∀(X:Cx),X.prog=P->X.w=w->X.K=K->X.calm=true->∀(i:Nat) (pins:List (Addr×Obj)) (s:Ac) (σ:St) (H:Hp) (E:Value->Ac->Prop),Inv X pins σ H s->(∀b∈fp,FpOk X pins H b)->tn i s.heap->J.stop i H ->
  Ar (Az P w) X.A (pyNext (.ref it)) (λr s1=>r=none/\Inv X pins σ H s1) E s
 self:∀(A:AO) (i:Nat) (s:Ac) (Q:Value->Ac->Prop) (E:Value->Ac->Prop),tn i s.heap->Q (.ref it) s->Ar (Az P w) A (pyIter (.ref it)) Q E s
noncomputable abbrev TI:=St->Hp->(It->Hp->Prop)->Prop
noncomputable def PIE(X:Cx)(pins:List (Addr×Obj))(σ:St)(tg:Expr)(R:It->Hp->Prop)(itv:Value)(s2:Ac):Prop :=
 ∃(it:Addr) (fp:List Addr) (tn:Nat->Heap->Prop) (J:It) (H':Hp),itv=.ref it/\Inv X pins σ H' s2/\Turn X.prog X.w X.K tg J fp it tn/\tn 0 s2.heap/\(∀b∈fp,FpOk X pins H' b)/\R J H'
noncomputable def PI(X:Cx)(tg iter:Expr)(wi:TI):Prop :=
 ∀(pins:List (Addr×Obj)) (s:Ac) (σ:St) (H:Hp) (R:It->Hp->Prop),Inv X pins σ H s->wi σ H R ->
  Ar (Az X.prog X.w) X.A (eval iter X.env) (λv s1=>Ar (Az X.prog X.w) X.A (pyIter v) (PIE X pins σ tg R) X.xe s1) X.xe s
theorem go_of {M : Model}{A : AO}{E : Value → Ac → Prop}{s : Ac}{tg : Expr}{it : Addr}{u : Value}{o : Obj}{n : String}{vs : Array Value}{Q : Unit → Ac → Prop}(ho : s.heap.get? it = some o) (hc : o.cls = .type n) (hd : o.data = .fields vs)
    (hn:["enumerate","zip","dict_itemiterator","dict_reverseitemiterator","odict_iterator","itertools.zip_longest","itertools.pairwise"].contains n=false) (hQ:Q () s):Ar M A (letOwnedTupleGo tg (.ref it) u) Q E s:=by
  unfold letOwnedTupleGo
  cases tg <;> first
    | exact Ah hQ
    | (cases u <;> first
        | exact Ah hQ
        | (refine Aa (wpAny_load ho ?_)
           rw[hc,hd]
           show Ar M A (if (["enumerate","zip","dict_itemiterator","dict_reverseitemiterator","odict_iterator","itertools.zip_longest","itertools.pairwise"].contains n && vs[0]? == some (CC _))=true then _ else _) Q E s
           rw[if_neg (by intro h;rw[hn,Cv] at h;cases h)]
           exact Ah hQ))
noncomputable def Itl(K:W.Frag)(a:Addr):It :=
 ⟨λi H=>∃xs x,SqL K H a xs/\xs[i]?=some x,λi H x H'=>H'=H/\∀xs,SqL K H a xs->xs[i]?=some x,λi H=>∃xs,SqL K H a xs/\xs.length<=i⟩
noncomputable def Itt(K:W.Frag)(a:Addr):It :=
 ⟨λi H=>∃xs x,SqT K H a xs/\xs[i]?=some x,λi H x H'=>H'=H/\∀xs,SqT K H a xs->xs[i]?=some x,λi H=>∃xs,SqT K H a xs/\xs.length<=i⟩
noncomputable def Itr(lo:Int)(n:Nat):It:=⟨λi _=>i<n,λi H x H'=>H'=H/\x=.int (lo+i),λi _=>n<=i⟩
theorem ziq{P:AF}{w:A5}{K:W.Frag}{tg:Expr}(a it:Addr):Turn P w K tg (Itl K a) [it] it (λi h=>h.IsListIter it a i) where
 mem:=by simp
 obj:=λi h st b hb=>by
  have e:b=it:=by simpa using hb
  subst e;obtain⟨o,e,c,d⟩:=st;exact⟨o,e,λv z=>by rw[d]at z;cases z⟩
 keep:=λi h h' st k=>st.at λo e=>k it (by simp) o e
 item:=by
  intro X hP hw hK hc i pins s σ H E I hf st hg;subst hP hw hK;obtain⟨xs,x,hq,hx⟩:=hg;obtain⟨its,rv,p,hz⟩:=I.list hq;obtain⟨u,hu,ru⟩:=rv.get hx;obtain⟨f0,f1,f2,f3,f4,f5⟩:=hf it (by simp);refine wpAny_pyNext_list_item st p.isList (x:=u) (by simpa using hu) λh' st' sb=>?_
  have I1:Inv X pins σ H { s with heap:=h' }:=I.turned (t':=s.toks) (λb o hb e=>(sb.2 b hb).trans e) f0 f1 f3 f4 f5;obtain⟨o,e,c,d⟩:=id st';exact⟨u,rfl,go_of (s:={ s with heap:=h' }) e c d (by decide) ⟨x,H,I1,ru,⟨rfl,λys hy=>by rw[I.list_inj hy hq];exact hx⟩,st',λb hb=>(hf b hb).1⟩⟩
 done:=by intro X hP hw hK hc i pins s σ H E I hf st hg;subst hP hw hK;obtain⟨xs,hq,hx⟩:=hg;obtain⟨its,rv,p,hz⟩:=I.list hq;obtain⟨f0,f1,f2,f3,f4,f5⟩:=hf it (by simp);have hl:=rv.length;exact wpAny_pyNext_list_end (I.ok.hd hc) st p.isList (by simp;lia) λh' eb=>⟨rfl,I.turned (t':=s.toks) (λb o hb e=>eb b o hb e) f0 f1 f3 f4 f5⟩
 self:=λ_ _ _ _ _ st h=>wpAny_pyIter_listiter st h
theorem zhN{P:AF}{w:A5}{K:W.Frag}{tg:Expr}(a it:Addr):Turn P w K tg (Itt K a) [it] it (λi h=>h.IsTupleIter it a i) where
 mem:=by simp
 obj:=λi h st b hb=>by
  have e:b=it:=by simpa using hb
  subst e;obtain⟨o,e,c,d⟩:=st;exact⟨o,e,λv z=>by rw[d]at z;cases z⟩
 keep:=λi h h' st k=>st.at λo e=>k it (by simp) o e
 item:=by
  intro X hP hw hK hc i pins s σ H E I hf st hg;subst hP hw hK;obtain⟨xs,x,hq,hx⟩:=hg;obtain⟨its,rv,p,hz⟩:=I.tuple hq;obtain⟨u,hu,ru⟩:=rv.get hx;obtain⟨f0,f1,f2,f3,f4,f5⟩:=hf it (by simp);refine wpAny_pyNext_tuple_item st (show s.heap.IsTuple a its.toArray from p) (x:=u) (by simpa using hu) λh' st' sb=>?_
  have I1:Inv X pins σ H { s with heap:=h' }:=I.turned (t':=s.toks) (λb o hb e=>(sb.2 b hb).trans e) f0 f1 f3 f4 f5;obtain⟨o,e,c,d⟩:=id st';exact⟨u,rfl,go_of (s:={ s with heap:=h' }) e c d (by decide) ⟨x,H,I1,ru,⟨rfl,λys hy=>by rw[I.tuple_inj hy hq];exact hx⟩,st',λb hb=>(hf b hb).1⟩⟩
 done:=by intro X hP hw hK hc i pins s σ H E I hf st hg;subst hP hw hK;obtain⟨xs,hq,hx⟩:=hg;obtain⟨its,rv,p,hz⟩:=I.tuple hq;obtain⟨f0,f1,f2,f3,f4,f5⟩:=hf it (by simp);have hl:=rv.length;exact wpAny_pyNext_tuple_end (I.ok.hd hc) st (show s.heap.IsTuple a its.toArray from p) (by simp;lia) λh' eb=>⟨rfl,I.turned (t':=s.toks) (λb o hb e=>eb b o hb e) f0 f1 f3 f4 f5⟩
 self:=λ_ _ _ _ _ st h=>wpAny_pyIter_tupleiter st h
theorem zhO{P:AF}{w:A5}{K:W.Frag}{tg:Expr}(it:Addr)(lo:Int)(n:Nat):Turn P w K tg (Itr lo n) [it] it (λi h=>IsRangeIter h it (lo+(i:Nat)*1) ((n:Int)-(i:Nat)) 1) where
 mem:=by simp
 obj:=λi h st b hb=>by
  have e:b=it:=by simpa using hb
  subst e
  exact⟨_,st,λv z=>by
   have z':Data.fields _=Data.cell v:=z
   cases z'⟩
 keep:=λi h h' st k=>k it (by simp) _ st
 item:=by
  intro X hP hw hK hc i pins s σ H E I hf st hg;subst hP hw hK;obtain⟨f0,f1,f2,f3,f4,f5⟩:=hf it (by simp);have W:=Walks.range (prog:=X.prog) (w:=X.w) (I.ok.hd hc) it lo 1 n;refine W.item i s _ _ hg st λv h' tk hv st' kk=>?_
  obtain⟨t,rfl⟩:=hv;have I1:Inv X pins σ H { s with heap:=h',toks:=tk }:=I.turned (λb o hb e=>kk b o (by simpa using hb) e) f0 f1 f3 f4 f5;refine⟨_,rfl,go_of (s:={ s with heap:=h',toks:=tk }) (n:="range_iterator") st' rfl rfl (by decide) ⟨.int (lo+i),H,I1,⟨t,?_⟩,⟨rfl,rfl⟩,st',λb hb=>(hf b hb).1⟩⟩;rw[Int.mul_one]
 done:=by intro X hP hw hK hc i pins s σ H E I hf st hg;subst hP hw hK;obtain⟨f0,f1,f2,f3,f4,f5⟩:=hf it (by simp);exact wpAny_pyNext_range_end (I.ok.hd hc) st (by have:n<=i:=hg;lia) λh' eb=>⟨rfl,I.turned (t':=s.toks) (λb o hb e=>eb b o hb e) f0 f1 f3 f4 f5⟩
 self:=λ_ _ _ _ _ st h=>wpAny_pyIter_rangeiter st h
section
variable {X:Cx}{tg:Expr}
noncomputable def iList(K:W.Frag)(tl:TE):TI:=λσ H R=>tl σ H λx H1=>∃a,x=.ref a/\(∃xs,SqL K H1 a xs)/\R (Itl K a) H1
noncomputable def iTup(K:W.Frag)(tl:TE):TI:=λσ H R=>tl σ H λx H1=>∃a,x=.ref a/\(∃xs,SqT K H1 a xs)/\R (Itt K a) H1
theorem zbx{l:Expr}{tl:TE}(hl:PE X l tl):PI X tg l (iList X.K tl):=by
 intro pins s σ H R I h;refine thn (hl pins s σ H _ I h) λv s1 ⟨x,H1,I1,r1,q1⟩=>?_
 obtain⟨a,e,⟨xs,hq⟩,q⟩:=q1;subst e
 cases r1
 obtain⟨its,rv,p,hz⟩:=I1.list hq;refine Dq p.isList ?_
 refine⟨s1.heap.objs.size,[s1.heap.objs.size],_,_,H1,rfl,I1.kept (t':=s1.toks) λb o e=>Ag _ e,ziq a _,⟨_,AB _ rfl,rfl,rfl⟩,λb hb=>?_,q⟩;have e:b=s1.heap.objs.size:=by simpa using hb
 subst e;exact I1.fpOk (Aj _) (I1.hok.fresh (Aj _))
theorem zi5{l:Expr}{tl:TE}(hl:PE X l tl):PI X tg l (iTup X.K tl):=by
 intro pins s σ H R I h;refine thn (hl pins s σ H _ I h) λv s1 ⟨x,H1,I1,r1,q1⟩=>?_
 obtain⟨a,e,⟨xs,hq⟩,q⟩:=q1;subst e
 cases r1
 obtain⟨its,rv,p,hz⟩:=I1.tuple hq;refine wpAny_pyIter_tuple (show s1.heap.IsTuple a its.toArray from p) ?_
 refine⟨s1.heap.objs.size,[s1.heap.objs.size],_,_,H1,rfl,I1.kept (t':=s1.toks) λb o e=>Ag _ e,zhN a _,⟨_,AB _ rfl,rfl,rfl⟩,λb hb=>?_,q⟩;have e:b=s1.heap.objs.size:=by simpa using hb
 subst e;exact I1.fpOk (Aj _) (I1.hok.fresh (Aj _))
theorem zj4{pins:List (Addr × Obj)}{σ : St}{H:Hp}{s:Ac}{R:It -> Hp -> Prop}{E:Value -> Ac -> Prop}{lo hi:Int}{t u v:Tok}{tk:Nat}(I:Inv X pins σ H s)(h1 : -(2 ^ 62) <= lo)(h2:lo < 2 ^ 62)(h3 : -(2 ^ 62) <= hi)(h4:hi < 2 ^ 62)
  (q:R (Itr lo (hi-lo).toNat) H):Ar (Az X.prog X.w) X.A (pyIter (.ref s.heap.objs.size)) (PIE X pins σ tg R) E { s with heap:=s.heap.push { cls:=.type "range",data:=.fields #[.int lo t,.int hi u,.int 1 v] },toks:=tk }:=by
 refine wpAny_pyIter_range (IsRange.new ..) (small_one h1 h2 h3 h4) ?_
 have I1:Inv X pins σ H { s with heap:=s.heap.push { cls:=.type "range",data:=.fields #[.int lo t,.int hi u,.int 1 v] },toks:=tk }:=I.kept λb o e=>Ag _ e
 refine⟨(s.heap.push { cls:=.type "range",data:=.fields #[.int lo t,.int hi u,.int 1 v] }).objs.size,[(s.heap.push { cls:=.type "range",data:=.fields #[.int lo t,.int hi u,.int 1 v] }).objs.size],_,_,H,rfl,
  I1.kept (t':=tk) λb o e=>Ag _ e,zhO _ lo (hi-lo).toNat,?_,λb hb=>?_,q⟩
 .have e1:lo+((0:Nat):Int)*1=lo:=by simp
  have e2:(((hi-lo).toNat:Nat):Int)-((0:Nat):Int)=Builtin.Range.rangeSize lo hi 1:=by rw[rangeSize_one];split <;> lia
  show IsRangeIter _ _ (lo+((0:Nat):Int)*1) ((((hi-lo).toNat:Nat):Int)-((0:Nat):Int)) 1;rw[e1,e2];exact AB _ rfl
 .have e:b=(s.heap.push { cls:=.type "range",data:=.fields #[.int lo t,.int hi u,.int 1 v] }).objs.size:=by simpa using hb
  subst e;exact I1.fpOk (Aj _) (I1.hok.fresh (Aj _))
noncomputable def iRng1(ta:TA):TI:=λσ H R=>ta σ H λvs H1=>∃j:Int,vs=[.int j]/\-(2 ^ 62)<=j/\j<2 ^ 62/\R (Itr 0 j.toNat) H1
theorem zbW {a:Expr}{ta:TA}{p pos:Pos}(hg:Gl X "range") (hm:X.mg "range" = none) (ha:PA X [a] ta) (hs:Bg [a] X.env=[(false,eval a X.env)]:=by rfl):PI X tg (.Call (.Name "range" p) [a] [] pos) (iRng1 ta):=by
 intro pins s σ H R I h;refine Call_ (zdX I hg hm boot_range (Dr (thn (ha pos pins s σ H _ I h) λus s1 ⟨vs,H1,I1,r1,q1⟩=>?_) hs rfl));obtain⟨j,e,q1,q2,q⟩:=q1;subst e
 cases r1 with
 |cons r rr =>
  cases rr
  obtain⟨t,rfl⟩:=r;exact call_range_1 (zj4 I1 (by lia) (by lia) q1 q2 (by simpa using q))
noncomputable def tFor(wi:TI)(g:TG)(tb:TS):TS:=λD σ H=>wi σ H λJ H1=>∃W:Nat->Nat->St->Hp->Prop,(∃m,W 0 m σ H1)/\∀i m σ H,W i m σ H ->
 (J.stop i H/\D.nx σ H)∨(J.go i H/\∃N:St->Hp->Prop,(∀ σ' H',N σ' H'->∃m',m'<m/\W (i+1) m' σ' H')/\∀x H',J.yld i H x H'->g x σ H' λσ2 H2=>tb { D with nx:=N,ct:=N,bk:=D.nx } σ2 H2)
noncomputable def zdj(fp:List Addr)(h:Heap):List (Addr×Obj):=fp.filterMap λb=>(h.get? b).map λo=>(b,o)
theorem za0{fp:List Addr}{h:Heap}{b:Addr}{o:Obj}(hb:b∈fp)(e:h.get? b=some o):(b,o)∈zdj fp h:=List.mem_filterMap.mpr ⟨b,hb,by rw[e];rfl⟩
theorem zja{fp:List Addr}{h:Heap}{p:Addr×Obj}(hp:p∈zdj fp h):p.1∈fp/\h.get? p.1=some p.2:=by
 obtain⟨b,hb,e⟩:=List.mem_filterMap.mp hp
 cases q:h.get? b with
 |none=>rw[q]at e;cases e
 |some o =>
  rw[q]at e;have e':(b,o)=p:=A9 e;subst e';exact⟨hb,q⟩
theorem Inv.pinned{pins:List (Addr×Obj)}{σ:St}{H:Hp}{s:Ac}{fp:List Addr}(I:Inv X pins σ H s)(hf:∀b∈fp,FpOk X pins H b)(ho:∀b∈fp,∃o,s.heap.get? b=some o/\∀v,o.data≠.cell v):Inv X (pins++zdj fp s.heap) σ H s :=
 I.pins_of λp hp=>(Ap.mp hp).elim (λz=>I.pin p (An _ z)) λz=>by obtain⟨hb,e⟩:=zja z;obtain⟨f0,f1,f2,_⟩:=hf p.1 hb;obtain⟨o,e',d⟩:=ho p.1 hb;rw[e]at e';cases e';exact⟨e,f0,f1,f2,d⟩
theorem Inv.unpinned{pins pl:List (Addr×Obj)}{σ:St}{H:Hp}{s:Ac}(I:Inv X (pins++pl) σ H s):Inv X pins σ H s:=I.pins_of λp hp=>I.pin p (An _ (Bl _ hp))
theorem zca{iter:Expr}{body:List Stmt}{wi:TI}{g:TG}{tb:TS}{pos:Pos}(hp:PassesOwn (Az X.prog X.w) X.A X.env X.xe)(hc:X.calm=true)(hi:PI X tg iter wi)(hg:PG X tg g)(hb:PSs X body tb)
  (hs:∀x,foldedSetIterable iter X.env x=pure x:=by intro _;rfl):PS X (.For tg iter body [] pos) (tFor wi g tb):=by
 intro pins s σ H D I h;refine wpAny_For (thn (hi pins s σ H _ I h) λv s1 h1=>thn h1 λitv s2 h2=>?_) hs;obtain⟨it,fp,tn,J,H2,e,I2,T,st2,f2,W,⟨m0,w0⟩,turn⟩:=h2;subst e;have stat:∀{H':Hp},(∀b∈fp,H' b=none)->∀b∈fp,FpOk X pins H' b:=λhn b hb=>⟨hn b hb,(f2 b hb).2⟩
 refine codeAny_forLoop_any (λn s'=>∃i σ' H',Inv X pins σ' H' s'/\tn i s'.heap/\(∀b∈fp,H' b=none)/\W i n σ' H') ?_ m0 ⟨0,σ,H2,I2,st2,λb hb=>(f2 b hb).1,w0⟩;rintro n s3 ⟨i,σ3,H3,I3,st3,fr3,w3⟩;rcases turn i n σ3 H3 w3 with⟨stop,qn⟩ |⟨go,N,hN,step⟩
 .refine CT hp (thn (T.done X rfl rfl rfl hc i pins s3 σ3 H3 X.xe I3 (stat fr3) st3 stop) λr s4 ⟨hr,I4⟩=>?_);subst hr;exact DR ⟨σ3,H3,I4,qn⟩
 .refine CT hp (thn (T.item X rfl rfl rfl hc i pins s3 σ3 H3 X.xe I3 (stat fr3) st3 go) λr s4 ⟨u,hr,h4⟩=>?_);subst hr;refine CT hp (thn h4 λ_ s5 ⟨x,H5,I5,r5,y5,st5,fr5⟩=>?_);have I5':=I5.pinned (stat fr5) (T.obj _ _ st5);refine CT hp (thn (hg _ s5 σ3 H5 x u _ I5' r5 (step x H5 y5)) λ_ s6 ⟨σ6,H6,I6,q6⟩=>?_);refine CT hp (thn (hb _ s6 σ6 H6 _ I6 q6) λf s7 q7=>?_)
  have again:∀{σ7:St} {H7:Hp},Inv X (pins++zdj fp s5.heap) σ7 H7 s7->N σ7 H7->∃m,m<n/\∃i σ' H',Inv X pins σ' H' s7/\tn i s7.heap/\(∀b∈fp,H' b=none)/\W i m σ' H':=λ{σ7 H7} I7 n7=>by obtain⟨m',hm,w7⟩:=hN σ7 H7 n7;refine⟨m',hm,i+1,σ7,H7,I7.unpinned,T.keep _ _ _ st5 λb hb o e=>(I7.pin (b,o) (An _ (An _ (za0 hb e)))).1,λb hb=>?_,w7⟩;obtain⟨o,e,d⟩:=T.obj _ _ st5 b hb;exact (I7.pin (b,o) (An _ (An _ (za0 hb e)))).2.1
  cases f with
  |next=>obtain⟨σ7,H7,I7,n7⟩:=q7;exact again I7 n7
  |cont=>obtain⟨σ7,H7,I7,n7⟩:=q7;exact again I7 n7
  |brk=>obtain⟨σ7,H7,I7,q7⟩:=q7;exact⟨σ7,H7,I7.unpinned,q7⟩
  |ret v=>obtain⟨x7,σ7,H7,I7,r7,q7⟩:=q7;exact⟨x7,σ7,H7,I7.unpinned,r7,q7⟩
end
theorem zba{K:W.Frag}{a:Addr}{xs:List V}{g:TG}{tb:TS}{D:Ends}{σ : St}{H:Hp}(Pv:Nat -> St -> Hp -> Prop)(h0:Pv 0 σ H)(hl:∀i σ H, i <= xs.length -> Pv i σ H -> SqL K H a xs)
  (hs:∀i x σ H,xs[i]?=some x->Pv i σ H->g x σ H λσ2 H2=>tb { D with nx:=Pv (i+1),ct:=Pv (i+1),bk:=D.nx } σ2 H2) (hd:∀ σ H,Pv xs.length σ H->D.nx σ H) :
  ∃W:Nat->Nat->St->Hp->Prop,(∃m,W 0 m σ H)/\∀i m σ H,W i m σ H ->
   ((Itl K a).stop i H/\D.nx σ H)∨((Itl K a).go i H/\∃N:St->Hp->Prop,(∀ σ' H',N σ' H'->∃m',m'<m/\W (i+1) m' σ' H')/\∀x H',(Itl K a).yld i H x H'->g x σ H' λσ2 H2=>tb { D with nx:=N,ct:=N,bk:=D.nx } σ2 H2):=by
 refine⟨λi m σ H=>m=xs.length-i/\i<=xs.length/\Pv i σ H,⟨xs.length,by simp,A6 _,h0⟩,?_⟩;rintro i m σ H ⟨rfl,hi,p⟩;have q:=hl i σ H hi p
 by_cases hlt:i<xs.length
 .refine .inr ⟨⟨xs,xs[i],q,by simp[hlt]⟩,Pv (i+1),λσ' H' p'=>⟨xs.length-(i+1),by lia,rfl,hlt,p'⟩,λx H' y=>?_⟩;obtain⟨e,y⟩:=y;subst e;exact hs i x σ _ (y xs q) p
 .have e:i=xs.length:=by lia
  subst e;exact .inl ⟨⟨xs,q,Aj _⟩,hd σ H p⟩
theorem zgL{K:W.Frag}{a:Addr}{xs:List V}{g:TG}{tb:TS}{D:Ends}{σ : St}{H:Hp}(Pv:Nat -> St -> Hp -> Prop)(h0:Pv 0 σ H)(hl:∀i σ H, i <= xs.length -> Pv i σ H -> SqT K H a xs)
  (hs:∀i x σ H,xs[i]?=some x->Pv i σ H->g x σ H λσ2 H2=>tb { D with nx:=Pv (i+1),ct:=Pv (i+1),bk:=D.nx } σ2 H2) (hd:∀ σ H,Pv xs.length σ H->D.nx σ H) :
  ∃W:Nat->Nat->St->Hp->Prop,(∃m,W 0 m σ H)/\∀i m σ H,W i m σ H ->
   ((Itt K a).stop i H/\D.nx σ H)∨((Itt K a).go i H/\∃N:St->Hp->Prop,(∀ σ' H',N σ' H'->∃m',m'<m/\W (i+1) m' σ' H')/\∀x H',(Itt K a).yld i H x H'->g x σ H' λσ2 H2=>tb { D with nx:=N,ct:=N,bk:=D.nx } σ2 H2):=by
 refine⟨λi m σ H=>m=xs.length-i/\i<=xs.length/\Pv i σ H,⟨xs.length,by simp,A6 _,h0⟩,?_⟩;rintro i m σ H ⟨rfl,hi,p⟩;have q:=hl i σ H hi p
 by_cases hlt:i<xs.length
 .refine .inr ⟨⟨xs,xs[i],q,by simp[hlt]⟩,Pv (i+1),λσ' H' p'=>⟨xs.length-(i+1),by lia,rfl,hlt,p'⟩,λx H' y=>?_⟩;obtain⟨e,y⟩:=y;subst e;exact hs i x σ _ (y xs q) p
 .have e:i=xs.length:=by lia
  subst e;exact .inl ⟨⟨xs,q,Aj _⟩,hd σ H p⟩
theorem zbX{lo:Int}{n:Nat}{g:TG}{tb:TS}{D:Ends}{σ : St}{H:Hp}(Pv:Nat -> St -> Hp -> Prop)(h0:Pv 0 σ H)
  (hs:∀i σ H,i<n->Pv i σ H->g (.int (lo+i)) σ H λσ2 H2=>tb { D with nx:=Pv (i+1),ct:=Pv (i+1),bk:=D.nx } σ2 H2) (hd:∀ σ H,Pv n σ H->D.nx σ H) :
  ∃W:Nat->Nat->St->Hp->Prop,(∃m,W 0 m σ H)/\∀i m σ H,W i m σ H ->
   ((Itr lo n).stop i H/\D.nx σ H)∨((Itr lo n).go i H/\∃N:St->Hp->Prop,(∀ σ' H',N σ' H'->∃m',m'<m/\W (i+1) m' σ' H')/\∀x H',(Itr lo n).yld i H x H'->g x σ H' λσ2 H2=>tb { D with nx:=N,ct:=N,bk:=D.nx } σ2 H2):=by
 refine⟨λi m σ H=>m=n-i/\i<=n/\Pv i σ H,⟨n,by simp,A6 _,h0⟩,?_⟩;rintro i m σ H ⟨rfl,hi,p⟩
 by_cases hlt:i<n
 .refine .inr ⟨hlt,Pv (i+1),λσ' H' p'=>⟨n-(i+1),by lia,rfl,hlt,p'⟩,λx H' y=>?_⟩;obtain⟨e,y⟩:=y;subst e y;exact hs i σ _ hlt p
 .have e:i=n:=by lia
  subst e;exact .inl ⟨Aj _,hd σ H p⟩
theorem zjT{c:TT}{tb:TS}{D:Ends}{σ : St}{H:Hp}(Pv:St -> Hp -> Prop)(μ : St -> Hp -> Nat)(h0:Pv σ H)
  (hs:∀ σ H,Pv σ H->c σ H λb H1=>if b=true then tb { D with nx:=λσ' H'=>Pv σ' H'/\μ σ' H'<μ σ H,ct:=λσ' H'=>Pv σ' H'/\μ σ' H'<μ σ H,bk:=D.nx } σ H1 else D.nx σ H1)
  (mono:∀ σ H Q Q',(∀b H1,Q b H1->Q' b H1)->c σ H Q->c σ H Q'):zgZ c tb D σ H:=by
 refine⟨λm σ H=>m=μ σ H/\Pv σ H,⟨_,rfl,h0⟩,?_⟩;rintro m σ H ⟨rfl,p⟩;refine mono σ H _ _ (λb H1 q=>?_) (hs σ H p)
 cases b with
 |true=>exact⟨_,λσ' H' ⟨p',l⟩=>⟨_,l,rfl,p'⟩,q⟩
 |false=>exact q
noncomputable abbrev R2:=V->V->Hp->VK->Prop
noncomputable def OpR(X:Cx)(f:Value->Value->Sem Value)(r:R2):Prop :=
 ∀(pins:List (Addr×Obj)) (s:Ac) (σ:St) (H:Hp) (x y:V) (v u:Value) (Q:VK),Inv X pins σ H s->RelV x v->RelV y u->r x y H Q ->
  Ar (Az X.prog X.w) X.A (f v u) (EP X pins σ Q) X.xe s
noncomputable def UnR(X:Cx)(f:Value->Sem Value)(r:V->Hp->VK->Prop):Prop :=
 ∀(pins:List (Addr×Obj)) (s:Ac) (σ:St) (H:Hp) (x:V) (v:Value) (Q:VK),Inv X pins σ H s->RelV x v->r x H Q ->
  Ar (Az X.prog X.w) X.A (f v) (EP X pins σ Q) X.xe s
noncomputable def CallR(X:Cx)(f:Value)(r:List V->Hp->VK->Prop):Prop :=
 ∀(pins:List (Addr×Obj)) (s:Ac) (σ:St) (H:Hp) (xs:List V) (us:List Value) (Q:VK),Inv X pins σ H s->Vals xs us->r xs H Q ->
  Ar (Az X.prog X.w) X.A (call f us) (EP X pins σ Q) X.xe s
noncomputable def TruR(X:Cx)(r:V->Hp->(Bool->Hp->Prop)->Prop):Prop :=
 ∀(pins:List (Addr×Obj)) (s:Ac) (σ:St) (H:Hp) (x:V) (v:Value) (Q:Bool->Hp->Prop),Inv X pins σ H s->RelV x v->r x H Q ->
  Ar (Az X.prog X.w) X.A (truthy v) (TP X pins σ Q) X.xe s
noncomputable def tOp(r:R2)(ta tb:TE):TE:=λσ H Q=>ta σ H λx H1=>tb σ H1 λy H2=>r x y H2 Q
noncomputable def tUn(r:V->Hp->VK->Prop)(ta:TE):TE:=λσ H Q=>ta σ H λx H1=>r x H1 Q
noncomputable def rI(C:Int->Int->Prop)(g:Int->Int->V):R2:=λx y H Q=>∃i j,x=.int i/\y=.int j/\C i j/\Q (g i j) H
noncomputable def rI0(g:Int->Int->V):R2:=λx y H Q=>∃i j,x=.int i/\y=.int j/\Q (g i j) H
noncomputable def rU(g:Int->V):V->Hp->VK->Prop:=λx H Q=>∃i,x=.int i/\Q (g i) H
section
variable {X:Cx}{a b c:Expr}{ta tb tc:TE}{pos:Pos}
theorem binT(ha:PE X a ta)(hb:PE X b tb){pins:List (Addr × Obj)}{s:Ac}{σ : St}{H:Hp}{R:V -> V -> Hp -> Prop}(I:Inv X pins σ H s)
  (h:ta σ H λx H1=>tb σ H1 λy H2=>R x y H2) {Q:Value->Ac->Prop} {f:Value->Value->Sem Value}
  (hf:∀v u s2 x y H2,Inv X pins σ H2 s2->RelV x v->RelV y u->R x y H2->Ar (Az X.prog X.w) X.A (f v u) Q X.xe s2) :
  Ar (Az X.prog X.w) X.A (eval a X.env) (λv s₁=>Ar (Az X.prog X.w) X.A (eval b X.env) (λu s₂=>Ar (Az X.prog X.w) X.A (f v u) Q X.xe s₂) X.xe s₁) X.xe s:=by
 refine thn (ha pins s σ H _ I h) λv s1 ⟨x,H1,I1,r1,q1⟩=>?_
 refine thn (hb pins s1 σ H1 _ I1 q1) λu s2 ⟨y,H2,I2,r2,q2⟩=>?_
 exact hf v u s2 x y H2 I2 r1 r2 q2
theorem pe_op{op:Operator}{r:R2}(ho:OpR X (CV op) r)(ha:PE X a ta)(hb:PE X b tb):PE X (.BinOp a op b pos) (tOp r ta tb):=by intro pins s σ H Q I h;exact wpAny_BinOp (binT ha hb I h λv u s2 x y H2 I2 rx ry q=>ho pins s2 σ H2 x y v u Q I2 rx ry q)
theorem pe_un{op:UnaryOp}{r:V->Hp->VK->Prop}(ho:UnR X (unaryOp op) r)(ha:PE X a ta):PE X (.UnaryOp op a pos) (tUn r ta):=by intro pins s σ H Q I h;exact UnaryOp_ (thn (ha pins s σ H _ I h) λv s1 ⟨x,H1,I1,r1,q1⟩=>ho pins s1 σ H1 x v Q I1 r1 q1)
theorem opI{f:Value -> Value -> Sem Value}{C:Int -> Int -> Prop}{g:Int -> Int -> Int}
  (rule:∀(i j:Int) (t u:Tok) (s:Ac) (Q:Value->Ac->Prop) (E:Value->Ac->Prop),C i j->Q (.int (g i j) s.toks) { s with toks:=s.toks+1 }->Ar (Az X.prog X.w) X.A (f (.int i t) (.int j u)) Q E s) :
  OpR X f (rI C λi j=>.int (g i j)):=by
 intro pins s σ H x y v u Q I rx ry h;obtain⟨i,j,rfl,rfl,hc,q⟩:=h;obtain⟨t,rfl⟩:=rx;obtain⟨t',rfl⟩:=ry;exact rule i j t t' s _ _ hc ⟨.int (g i j),H,I.tok _,⟨_,rfl⟩,q⟩
theorem opI0{f:Value -> Value -> Sem Value}{g:Int -> Int -> Int}
  (rule:∀(i j:Int) (t u:Tok) (s:Ac) (Q:Value->Ac->Prop) (E:Value->Ac->Prop),Q (.int (g i j) s.toks) { s with toks:=s.toks+1 }->Ar (Az X.prog X.w) X.A (f (.int i t) (.int j u)) Q E s) :
  OpR X f (rI0 λi j=>.int (g i j)):=by
 intro pins s σ H x y v u Q I rx ry h;obtain⟨i,j,rfl,rfl,q⟩:=h;obtain⟨t,rfl⟩:=rx;obtain⟨t',rfl⟩:=ry;exact rule i j t t' s _ _ ⟨.int (g i j),H,I.tok _,⟨_,rfl⟩,q⟩
theorem opB0{f:Value -> Value -> Sem Value}{g:Int -> Int -> Bool}
  (rule:∀(i j:Int) (t u:Tok) (s:Ac) (Q:Value->Ac->Prop) (E:Value->Ac->Prop),Q (.bool (g i j)) s->Ar (Az X.prog X.w) X.A (f (.int i t) (.int j u)) Q E s) :
  OpR X f (rI0 λi j=>.bl (g i j)):=by
 intro pins s σ H x y v u Q I rx ry h;obtain⟨i,j,rfl,rfl,q⟩:=h;obtain⟨t,rfl⟩:=rx;obtain⟨t',rfl⟩:=ry;exact rule i j t t' s _ _ ⟨.bl (g i j),H,I,rfl,q⟩
noncomputable def CDiv(i j:Int):Prop:=0<j/\j<1073741824
noncomputable def CPow(i j:Int):Prop:=0<=j/\j<=1000000/\i.natAbs<2 ^ 64
noncomputable def CMul(i j:Int):Prop:=(-(2 ^ 64)<i/\i<2 ^ 64)∨(-(2 ^ 64)<j/\j<2 ^ 64)
theorem CMul.ok{i j:Int}(h:CMul i j):IntMulOk i j:=by
 rcases h with⟨h1,h2⟩ |⟨h1,h2⟩
 .exact .of_left (intBits_le_64 h1 h2)
 .exact .of_right (intBits_le_64 h1 h2)
theorem zaG:OpR X (CV .Add) (rI0 λi j=>.int (i+j)):=opI0 λ_ _ _ _ _ _ _ q=>add_int q
theorem zcD:OpR X (CV .Sub) (rI0 λi j=>.int (i-j)):=opI0 λ_ _ _ _ _ _ _ q=>sub_int q
theorem zbm:OpR X (CV .Mult) (rI CMul λi j=>.int (i*j)):=opI λ_ _ _ _ _ _ _ hc q=>mul_int q hc.ok
theorem zeV:OpR X (CV .FloorDiv) (rI CDiv λi j=>.int (i / j)):=opI λi j _ _ _ _ _ hc q=>by have h1:(0:Int)<j:=hc.1;have h2:j<1073741824:=hc.2;exact floordiv_int (by lia) (by rw[Int.fdiv_eq_ediv_of_nonneg i (by lia)];exact q) (.inl (PyProof.noPylong_small (by lia)))
theorem zau:OpR X (CV .Mod) (rI (λ_ j=>0<j) λi j=>.int (i % j)):=opI λi j _ _ _ _ _ hc q=>by have h1:(0:Int)<j:=hc;exact mod_int' (by lia) (by rw[Int.fmod_eq_emod_of_nonneg i (by lia)];exact q)
theorem zhl:OpR X (CV .Pow) (rI CPow λi j=>.int (i ^ j.toNat)):=opI λ_ _ _ _ _ _ _ hc q=>pow_int_small hc.1 hc.2.1 hc.2.2 q
theorem unI{f:Value -> Sem Value}{g:Int -> Int}
  (rule:∀(i:Int) (t:Tok) (s:Ac) (Q:Value->Ac->Prop) (E:Value->Ac->Prop),Q (.int (g i) s.toks) { s with toks:=s.toks+1 }->Ar (Az X.prog X.w) X.A (f (.int i t)) Q E s) :
  UnR X f (rU λi=>.int (g i)):=by
 intro pins s σ H x v Q I rx h;obtain⟨i,rfl,q⟩:=h;obtain⟨t,rfl⟩:=rx;exact rule i t s _ _ ⟨.int (g i),H,I.tok _,⟨_,rfl⟩,q⟩
theorem zbC:UnR X (unaryOp .USub) (rU λi=>.int (-i)):=unI λ_ _ _ _ _ q=>neg_int q
end
noncomputable def scal:V->V->Bool
 |.non,.non=>true |.non,.int _=>true |.int _,.non=>true |.non,.bl _=>true |.bl _,.non=>true |.non,.str _=>true |.str _,.non=>true
 |.int _,.int _=>true |.bl _,.bl _=>true |.str _,.str _=>true |.byt _,.byt _=>true
 |.int _,.str _=>true |.str _,.int _=>true |.bl _,.str _=>true |.str _,.bl _=>true
 |_,_=>false
noncomputable def rEq:R2:=λx y H Q=>scal x y=true/\Q (.bl (decide (x=y))) H
noncomputable def rNe:R2:=λx y H Q=>scal x y=true/\Q (.bl (!decide (x=y))) H
theorem zjF{i j:Int}:decide (V.int i=V.int j)=(i == j):=by rw[DS];simp
theorem zlb{i j:Bool}:decide (V.bl i=V.bl j)=(i == j):=by rw[DS];simp
theorem zjE{i j:Str}:decide (V.str i=V.str j)=(i == j):=by rw[DS];simp
theorem zjG{i j:Array UInt8}:decide (V.byt i=V.byt j)=(i.toList == j.toList):=by
 rw[DS]
 cases i
 cases j
 simp
section
variable {X:Cx}{a b c:Expr}{ta tb tc:TE}{pos:Pos}
theorem zaK{pins:List (Addr×Obj)}{σ:St}{H:Hp}{s:Ac}{Q:VK}{k k':Bool}(I:Inv X pins σ H s)(q:Q (.bl k) H)(e:k=k'):EP X pins σ Q (.bool k') s:=by subst e;exact⟨.bl k,H,I,rfl,q⟩
theorem op_eq:OpR X (BR .Eq) rEq:=by
 intro pins s σ H x y v u Q I rx ry h;obtain⟨hs,q⟩:=h
 cases x with
 |non =>
  cases rx
  cases y with
  |non=>cases ry;exact PySem.EqNone.eq_none_none (zaK I q (by simp))
  |bl j=>cases ry;exact PySem.EqNone.eq_none_bool (zaK I q (by simp))
  |int j=>obtain⟨t',rfl⟩:=ry;exact PySem.EqNone.eq_none_int (zaK I q (by simp))
  |str j=>obtain⟨t',rfl⟩:=ry;exact PySem.EqNone.eq_none_str (zaK I q (by simp))
  |_=>exact absurd (show false=true from hs) Au
 |bl i =>
  cases rx
  cases y with
  |non=>cases ry;exact PySem.EqNone.eq_bool_none (zaK I q (by simp))
  |bl j=>cases ry;exact eq_bool (zaK I q zlb)
  |str j=>obtain⟨t',rfl⟩:=ry;exact PySem.EqMixed.eq_bool_str (zaK I q (by simp))
  |_=>exact absurd (show false=true from hs) Au
 |int i =>
  obtain⟨t,rfl⟩:=rx
  cases y with
  |non=>cases ry;exact PySem.EqNone.eq_int_none (zaK I q (by simp))
  |int j=>obtain⟨t',rfl⟩:=ry;exact eq_int (zaK I q zjF)
  |str j=>obtain⟨t',rfl⟩:=ry;exact PySem.EqMixed.eq_int_str (zaK I q (by simp))
  |_=>exact absurd (show false=true from hs) Au
 |str i =>
  obtain⟨t,rfl⟩:=rx
  cases y with
  |non=>cases ry;exact PySem.EqNone.eq_str_none (zaK I q (by simp))
  |bl j=>cases ry;exact PySem.EqMixed.eq_str_bool (zaK I q (by simp))
  |int j=>obtain⟨t',rfl⟩:=ry;exact PySem.EqMixed.eq_str_int (zaK I q (by simp))
  |str j=>obtain⟨t',rfl⟩:=ry;exact eq_str (zaK I q zjE)
  |_=>exact absurd (show false=true from hs) Au
 |byt i =>
  obtain⟨t,rfl⟩:=rx
  cases y with
  |byt j=>obtain⟨t',rfl⟩:=ry;exact W.eq_bytes (zaK I q zjG)
  |_=>exact absurd (show false=true from hs) Au
 |_=>cases y <;> exact absurd (show false=true from hs) Au
theorem op_ne:OpR X (BR .NotEq) rNe:=by
 intro pins s σ H x y v u Q I rx ry h;obtain⟨hs,q⟩:=h
 cases x with
 |non =>
  cases rx
  cases y with
  |non=>cases ry;exact PySem.EqNone.ne_none_none (zaK I q (by simp))
  |bl j=>cases ry;exact PySem.EqNone.ne_none_bool (zaK I q (by simp))
  |int j=>obtain⟨t',rfl⟩:=ry;exact PySem.EqNone.ne_none_int (zaK I q (by simp))
  |str j=>obtain⟨t',rfl⟩:=ry;exact PySem.EqNone.ne_none_str (zaK I q (by simp))
  |_=>exact absurd (show false=true from hs) Au
 |bl i =>
  cases rx
  cases y with
  |non=>cases ry;exact PySem.EqNone.ne_bool_none (zaK I q (by simp))
  |bl j=>cases ry;exact ne_bool (zaK I q (congrArg not zlb))
  |str j=>obtain⟨t',rfl⟩:=ry;exact PySem.EqMixed.ne_bool_str (zaK I q (by simp))
  |_=>exact absurd (show false=true from hs) Au
 |int i =>
  obtain⟨t,rfl⟩:=rx
  cases y with
  |non=>cases ry;exact PySem.EqNone.ne_int_none (zaK I q (by simp))
  |int j=>obtain⟨t',rfl⟩:=ry;exact ne_int (zaK I q (congrArg not zjF))
  |str j=>obtain⟨t',rfl⟩:=ry;exact PySem.EqMixed.ne_int_str (zaK I q (by simp))
  |_=>exact absurd (show false=true from hs) Au
 |str i =>
  obtain⟨t,rfl⟩:=rx
  cases y with
  |non=>cases ry;exact PySem.EqNone.ne_str_none (zaK I q (by simp))
  |bl j=>cases ry;exact PySem.EqMixed.ne_str_bool (zaK I q (by simp))
  |int j=>obtain⟨t',rfl⟩:=ry;exact PySem.EqMixed.ne_str_int (zaK I q (by simp))
  |str j=>obtain⟨t',rfl⟩:=ry;exact ne_str (zaK I q (congrArg not zjE))
  |_=>exact absurd (show false=true from hs) Au
 |byt i =>
  obtain⟨t,rfl⟩:=rx
  cases y with
  |byt j=>obtain⟨t',rfl⟩:=ry;exact W.ne_bytes (zaK I q (congrArg not zjG))
  |_=>exact absurd (show false=true from hs) Au
 |_=>cases y <;> exact absurd (show false=true from hs) Au
theorem op_lt:OpR X (BR .Lt) (rI0 λi j=>.bl (decide (i<j))):=opB0 λ_ _ _ _ _ _ _ q=>lt_int q
theorem op_le:OpR X (BR .LtE) (rI0 λi j=>.bl (decide (i<=j))):=opB0 λ_ _ _ _ _ _ _ q=>le_int q
theorem op_gt:OpR X (BR .Gt) (rI0 λi j=>.bl (decide (j<i))):=opB0 λ_ _ _ _ _ _ _ q=>gt_int q
theorem op_ge:OpR X (BR .GtE) (rI0 λi j=>.bl (decide (j<=i))):=opB0 λ_ _ _ _ _ _ _ q=>ge_int q
theorem zhn:OpR X (BR .Is) (λx y H Q=>y=.non/\Q (.bl (decide (x=.non))) H):=by
 intro pins s σ H x y v u Q I rx ry h;obtain⟨rfl,q⟩:=h
 cases ry
 refine is_none_gen (zaK I q ?_)
 cases x <;> first
  | (cases rx;rfl)
  | (obtain⟨t,rfl⟩:=rx;rfl)
theorem zdP:OpR X (BR .IsNot) (λx y H Q=>y=.non/\Q (.bl (!decide (x=.non))) H):=by
 intro pins s σ H x y v u Q I rx ry h;obtain⟨rfl,q⟩:=h
 cases ry
 refine isnot_none_gen (zaK I q ?_)
 cases x <;> first
  | (cases rx;rfl)
  | (obtain⟨t,rfl⟩:=rx;rfl)
theorem zas(b:Expr){op:CmpOp}(h:op≠.In:=by decide)(h2:op≠.NotIn:=by decide):DL op b=false:=by
 have e1:(op == CmpOp.In)=false:=by cases op <;> first |rfl |exact absurd rfl h
 have e2:(op == CmpOp.NotIn)=false:=by cases op <;> first |rfl |exact absurd rfl h2
 cases b <;> simp[DL,e1,e2]
theorem zbG{op:CmpOp}{r:R2}(ho:OpR X (BR op) r)(ha:PE X a ta)(hb:PE X b tb)(hm:DL op b=false):PE X (.Compare a [op] [b] pos) (tOp r ta tb):=by intro pins s σ H Q I h;exact wpAny_Compare1 (binT ha hb I h λv u s2 x y H2 I2 rx ry q=>ho pins s2 σ H2 x y v u Q I2 rx ry q) hm
noncomputable def tTest(t:TE):TT:=λσ H Q=>t σ H λx H'=>∃k,x=.bl k/\Q k H'
theorem zaq{op:CmpOp}{r:R2}(ho:OpR X (BR op) r)(ha:PE X a ta)(hb:PE X b tb)(hm:DL op b=false):PT X (.Compare a [op] [b] pos) (tTest (tOp r ta tb)):=by
 intro pins s σ H Q I h
 refine wpAny_isTrue_Compare1 (thn (ha pins s σ H _ I h) λv s1 ⟨x,H1,I1,r1,q1⟩=>thn (hb pins s1 σ H1 _ I1 q1) λu s2 ⟨y,H2,I2,r2,q2⟩ =>
  thn (ho pins s2 σ H2 x y v u _ I2 r1 r2 q2) λc s3 ⟨z,H3,I3,r3,k,e,q3⟩=>?_) hm
 subst e
 cases r3
 exact BV ⟨H3,I3,q3⟩
noncomputable def zl8(r r':R2)(ta tb tc:TE):TE:=λσ H Q=>ta σ H λx H1=>tb σ H1 λy H2=>r x y H2 λz H3=>∃k,z=.bl k /\
 (if k=true then tc σ H3 λw' H4=>r' y w' H4 Q else Q (.bl false) H3)
theorem zhj{op op':CmpOp}{r r':R2}(ho:OpR X (BR op) r)(ho':OpR X (BR op') r')(ha:PE X a ta)(hb:PE X b tb)(hc:PE X c tc)
  (hm:lastMarks [op,op'] [b,c]=false:=by with_unfolding_all rfl):PE X (.Compare a [op,op'] [b,c] pos) (zl8 r r' ta tb tc):=by
 intro pins s σ H Q I h
 refine Compare_chain (thn (ha pins s σ H _ I h) λv s1 ⟨x,H1,I1,r1,q1⟩=>chain_link (thn (hb pins s1 σ H1 _ I1 q1) λu s2 ⟨y,H2,I2,r2,q2⟩ =>
  thn (ho pins s2 σ H2 x y v u _ I2 r1 r2 q2) λd s3 ⟨z,H3,I3,r3,k,e,q3⟩=>?_)) hm
 subst e
 cases r3
 refine BV ?_
 cases k with
 |false=>exact ite_ff ⟨.bl false,H3,I3,rfl,q3⟩
 |true=>exact ite_tt (chain_last (thn (hc pins s3 σ H3 _ I3 q3) λw' s4 ⟨z',H4,I4,r4,q4⟩=>ho' pins s4 σ H4 y z' u w' Q I4 r2 r4 q4))
noncomputable def TruV(K:W.Frag)(x:V)(H:Hp)(k:Bool):Prop :=
 match x with
 |.non=>k=false
 |.bl b=>k=b
 |.int i=>k=(i != 0)
 |.str y=>y.length<=sizeLine/\k=((y.length:Int) != 0)
 |.byt y=>y.size<=sizeLine/\k=((y.size:Int) != 0)
 |.ref p=>(∃xs,SqL K H p xs/\k=!xs.isEmpty)∨(∃xs,SqT K H p xs/\k=!xs.isEmpty)∨∃kvs,H p=some (.dK kvs)/\k=!kvs.isEmpty
 |_=>False
theorem zh9{κ:Type}{kvs:List (κ×V)}{vs:List (κ×Value)}(r:KV kvs vs):(!vs.isEmpty)=!kvs.isEmpty:=by
 cases r <;> rfl
theorem zev{xs:List V}{its:List Value}(r:Vals xs its):(!its.toArray.isEmpty)=!xs.isEmpty:=by
 cases r <;> simp
theorem zhu:(sizeLine:Nat)<2 ^ 63:=by rw[sizeLine_eq];decide
theorem zl1:TruR X (λx H Q=>∃k,TruV X.K x H k/\Q k H):=by
 intro pins s σ H x v Q I rx h;obtain⟨k,e,q⟩:=h;have hl:=zhu;have hs:sizeLine=16777216:=sizeLine_eq
 cases x with
 |non =>
  cases rx
  have e':k=false:=e;subst e';exact truthy_none ⟨H,I,q⟩
 |bl b =>
  cases rx
  have e':k=b:=e;subst e';exact BV ⟨H,I,q⟩
 |int i =>
  obtain⟨t,rfl⟩:=rx;have e':k=(i != 0):=e;subst e';exact PySem.P.truthy_int ⟨H,I,q⟩
 |str y =>
  obtain⟨t,rfl⟩:=rx;obtain⟨hy,e'⟩:y.length<=sizeLine/\k=((y.length:Int) != 0):=e;subst e';exact PySem.P.truthy_str (by lia) ⟨H,I.tok _,q⟩
 |byt y =>
  obtain⟨t,rfl⟩:=rx;obtain⟨hy,e'⟩:y.size<=sizeLine/\k=((y.size:Int) != 0):=e;subst e';exact W.truthy_bytes (by lia) ⟨H,I.tok _,q⟩
 |ref p =>
  cases rx
  have e':(∃xs,SqL X.K H p xs/\k=!xs.isEmpty)∨(∃xs,SqT X.K H p xs/\k=!xs.isEmpty)∨∃kvs,H p=some (.dK kvs)/\k=!kvs.isEmpty:=e;rcases e' with⟨xs,hx,e'⟩ |⟨xs,hx,e'⟩ |⟨kvs,hx,e'⟩
  .subst e';obtain⟨its,r,pl,hz⟩:=I.list hx;have hlen:=r.length;exact wpAny_truthy_list pl.isList (by simp only[As];lia) ⟨H,I.tok _,by rw[zev r];exact q⟩
  .subst e';obtain⟨its,r,pl,hz⟩:=I.tuple hx;have hlen:=r.length;exact truthy_tuple pl (by simp only[As];lia) ⟨H,I.tok _,by rw[zev r];exact q⟩
  .subst e';obtain⟨hz,hS,vs,r,m⟩:kvs.length<=sizeLine/\(p == Cm)=false/\∃vs,KV kvs vs/\s.heap.DictOf (zaH X.prog X.w) p vs:=I.hok p _ hx;have hlen:kvs.length=vs.length:=DK r;exact wpAny_truthy_dict hS m (by lia) ⟨H,I.tok _,by rw[zh9 r];exact q⟩
 |_=>exact (show False from e).elim
theorem zj6(ha:PE X a ta)(he:∀whole, isTrue a X.env whole=(do let v <- whole; standAt a.pos; holding [v] (truthy v))) :
  PT X a (λσ H Q=>ta σ H λx H'=>∃k,TruV X.K x H' k/\Q k H'):=by
 intro pins s σ H Q I h;exact isTrue_plain (thn (ha pins s σ H _ I h) λv s1 ⟨x,H1,I1,r1,q1⟩=>zl1 pins s1 σ H1 x v Q I1 r1 q1) (he _)
theorem vals1{x:V}{us:List Value}(r:Vals [x] us):∃u,us=[u]/\RelV x u:=by
 cases r with
 |cons r1 r2=>cases r2;exact⟨_,rfl,r1⟩
theorem vals2{x y:V}{us:List Value}(r:Vals [x,y] us):∃u w',us=[u,w']/\RelV x u/\RelV y w':=by
 cases r with
 |cons r1 r2 =>
  cases r2 with
  |cons r3 r4=>cases r4;exact⟨_,_,rfl,r1,r3⟩
theorem zc2:CallR X (.type "int") (λxs H Q=>(∃i,xs=[.int i]/\Q (.int i) H)∨∃k,xs=[.bl k]/\Q (.int (if k then 1 else 0)) H):=by
 intro pins s σ H xs us Q I r h;rcases h with⟨i,rfl,q⟩ |⟨k,rfl,q⟩
 .obtain⟨u,rfl,t,rfl⟩:=vals1 r;exact call_int_int ⟨.int i,H,I,⟨_,rfl⟩,q⟩
 .obtain⟨u,rfl,r1⟩:=vals1 r
  cases r1
  exact call_int_bool ⟨.int (if k then 1 else 0),H,I.tok _,⟨_,rfl⟩,q⟩
end
structure ObjM (h:Heap) (x dx C:Addr) (mA:Str->Option Value):Prop where
 obj:h.get? x=some (W.instObj C dx)
 ns:h.Ns1 dx mA
 ne:dx≠x
theorem zfQ{h:Heap}{dx:Addr}{mA:Str->Option Value}(n:h.Ns1 dx mA):∃od,h.get? dx=some od/\∀name,W.lookIn name od=some (mA name):=by
 obtain⟨o,es,ep,ho,hd,hk,_,hm⟩:=n;refine⟨o,ho,λname=>?_⟩;have e:=hm name;unfold nsFind findBy at e;rw[<- Array.find?_toList]at e;unfold W.lookIn;rw[hd];dsimp only;split
 .rename_i y q
  rw[q]at e;exact congrArg some e
 .rename_i q
  rw[q]at e
  have a:es.toList.any (·.refKey)=false:=by rw[List.any_eq_false];intro y hy;obtain⟨z,t,hkey⟩:=hk y (Array.mem_toList_iff.mp hy);simp[DictEntry.refKey,hkey]
  have a':¬ es.toList.any (·.refKey)=true:=by rw[a];exact Au
  rw[if_neg a'];exact congrArg some e
theorem ObjM.look{h:Heap}{x dx C:Addr}{mA:Str->Option Value}(I:ObjM h x dx C mA):∃od,W.InstAt h x (W.instObj C dx) C (some od)/\∀name,W.lookIn name od=some (mA name) :=
 let ⟨od,ho,hl⟩:=zfQ I.ns
 ⟨od,⟨I.obj,rfl,rfl,ho⟩,hl⟩
section
variable {prog:AF}{w:A5}{A:AO}{E:Value->Ac->Prop}{s:Ac}{K:W.Frag}{x dx C f:Addr}{mA:Str->Option Value}{name:Str}{v:Value}
end
noncomputable def putF(f:Str)(v:V):List (Str×V)->List (Str×V)
 |[]=>[(f,v)]
 | (g,x)::r=>if g=f then (g,v)::r else (g,x)::putF f v r
theorem zdV(f g:Str)(v:V):∀fs:List (Str×V),(putF f v fs).lookup g=if g=f then some v else fs.lookup g
 |[]=>by
  show CK g [(f,v)]=_
  by_cases h:g=f
  .have hb:(g == f)=true:=beq_iff_eq.mpr h;simp only[CK,hb,if_pos h]
  .have hb:(g == f)=false:=beq_eq_false_iff_ne.mpr h;simp only[CK,hb,if_neg h]
 | (k,x)::r=>by
  have ih:=zdV f g v r;rw[show putF f v ((k,x)::r)=(if k=f then (k,v)::r else (k,x)::putF f v r) from rfl]
  by_cases hk:k=f
  .rw[if_pos hk]
   by_cases h:g=k
   .have hb:(g == k)=true:=beq_iff_eq.mpr h;simp only[CK,hb,if_pos (h.trans hk)]
   .have hb:(g == k)=false:=beq_eq_false_iff_ne.mpr h;simp only[CK,hb,if_neg (λe:g=f=>h (e.trans hk.symm))]
  .rw[if_neg hk]
   by_cases h:g=k
   .have hb:(g == k)=true:=beq_iff_eq.mpr h;simp only[CK,hb,if_neg (λe:g=f=>hk (h.symm.trans e))]
   .have hb:(g == k)=false:=beq_eq_false_iff_ne.mpr h;simp only[CK,hb];exact ih
theorem zdY(f:Str)(v:V):∀fs:List (Str×V),f∈(putF f v fs).map (·.1)/\∀g,g∈fs.map (·.1)->g∈(putF f v fs).map (·.1)
 |[]=>⟨by simp[putF],λg h=>by simp at h⟩
 | (k,x)::r=>by
  obtain⟨i1,i2⟩:=zdY f v r;rw[show putF f v ((k,x)::r)=(if k=f then (k,v)::r else (k,x)::putF f v r) from rfl]
  by_cases hk:k=f
  .rw[if_pos hk];subst hk;exact⟨by simp,λg h=>by simpa using h⟩
  .rw[if_neg hk];refine⟨?_,λg h=>?_⟩
   .rw[BA];exact AI _ i1
   .rw[BA]at h ⊢;rcases At.mp h with e |e
    .exact List.mem_cons.mpr (.inl e)
    .exact AI _ (i2 g e)
section
variable {P:AF}{w:A5}{H H':Hp}{h h':Heap}{a C dx:Addr}{fs fs':List (Str×V)}
theorem zlM(hok:HOk P w H h)(e:H a=some (.ins C dx fs)):∃mA,ObjM h a dx C mA/\(∀f,RelO (fs.lookup f) (mA f))/\PySem.Within mA (fs.map (·.1))/\fs.length<=1000/\H dx=some (.own a):=by obtain⟨d,z,ne,ob,mA,n,r,q⟩:=(show ObjOk P w H h a (.ins C dx fs) from hok a _ e);exact⟨mA,⟨ob,n,ne⟩,r,q,z,d⟩
end
structure Cls (K:W.Frag) (C:Addr):Prop where
 pg:W.plainGet K C Str.empty=true
 hd:W.hasDictIn K C=true
 po:W.plainOver K C=true
 sa:CG K (.ref C) "__setattr__" = some (some (.builtin "object.__setattr__"))
theorem Cls.get{K:W.Frag}{C:Addr}(c:Cls K C)(f:Str):W.plainGet K C f=true:=c.pg
noncomputable def zhJ(K:W.Frag)(C:Addr)(f:Str):Prop:=CG K (.ref C) f=some none
structure Con (K:W.Frag) (C:Addr) (f:Str) (v:V) (u:Value):Prop where
 at_:CG K (.ref C) f=some (some u)
 rel:RelV v u
 get:W.specialIn K u "__get__" = some none
 cp:W.copiedNames.contains f=false
structure Meth (K:W.Frag) (C:Addr) (m:Str) (f:Addr):Prop where
 at_:CG K (.ref C) m=some (some (.ref f))
 fn:W.isFn K (.ref f)=true
 kp:C5 K (.ref f)=true
section
variable {X:Cx}{pins:List (Addr×Obj)}{σ:St}{H:Hp}{s:Ac}{a C dx:Addr}{fs:List (Str×V)}{f:Str}{v:V}{A:AO}{E:Value->Ac->Prop}
end
section
variable {X:Cx}{o e value:Expr}{f:Str}{pos pos' tpos:Pos}{ta tv:TE}
end
section
variable {X:Cx}{pins:List (Addr×Obj)}{σ:St}{H:Hp}{s:Ac}{A:AO}{E:Value->Ac->Prop}{Q:Value->Ac->Prop}{c:Value}{b:Bool}
inductive TyOf (K:W.Frag) (H:Hp):V->Value->Prop where
  |non:TyOf K H .non (.type "NoneType")
  |bl (x:Bool):TyOf K H (.bl x) (.type "bool")
  |int (i:Int):TyOf K H (.int i) (.type "int")
  |str (x:Str):TyOf K H (.str x) (.type "str")
  |flt (x:UInt64):TyOf K H (.flt x) (.type "float")
  |lst {a:Addr} {xs:List V} (e:H a=some (.lst xs)):TyOf K H (.ref a) (.type "list")
  |frz {a:Addr} {o:Obj} {xs:List V} (e:H a=some (.frz o (.lst xs))):TyOf K H (.ref a) (.type "list")
  |tup {a:Addr} {xs:List V} (e:H a=some (.tup xs)):TyOf K H (.ref a) (.type "tuple")
  |dK {a:Addr} {kvs:List (Key×V)} (e:H a=some (.dK kvs)):TyOf K H (.ref a) (.type "dict")
  |dT {a:Addr} {kvs:List (List Key×V)} (e:H a=some (.dT kvs)):TyOf K H (.ref a) (.type "dict")
  |ins {a C dx:Addr} {fs:List (Str × V)} (e:H a=some (.ins C dx fs)) (cl:Cls K C) (ha:CG K (.ref C) "__class__" = some (some (.builtin "object.__class__")))
      (hn:W.specialIn K (.builtin "object.__class__") "__get__" = some (some (.builtin "getset_descriptor.__get__"))) (htk:W.takesIn K (.builtin "object.__class__")=some true)
      (hm:W.mroIn K C (.type "object")=some true):TyOf K H (.ref a) (.ref C)
theorem zjs{x:V}{u t:Value}(I:Inv X pins σ H s)(rx:RelV x u)(ty:TyOf X.K H x t)(e:W.kitOne X.K t c=some b)(h:∀tk, Q (.bool b) { s with toks := tk }) :
  Ar (Az X.prog X.w) A (call (.builtin "isinstance") [u,c]) Q E s:=by
 cases ty with
 |non=>cases (show u=Bk from rx);exact Dk W.kitx_none I.kIn Cb e (λz=>nomatch z) h
 |bl y=>cases (show u=Dt y from rx);exact Dk W.kitx_bool I.kIn Cb e (λz=>nomatch z) h
 |int i=>obtain⟨t,q⟩:=(show ∃t,u=DB i t from rx);cases q;exact Dk W.kitx_int I.kIn Cb e (λz=>nomatch z) h
 |str y=>obtain⟨t,q⟩:=(show ∃t,u=Value.str y t from rx);cases q;exact Dk W.kitx_str I.kIn Cb e (λz=>nomatch z) h
 |flt y=>obtain⟨t,q⟩:=(show ∃t,u=Value.float y t from rx);cases q;exact Dk W.kitx_float I.kIn Cb e (λz=>nomatch z) h
 |@lst a xs ea =>
  cases (show u=Ao a from rx)
  obtain⟨_,_,n,_,h1⟩:=(show ObjOk X.prog X.w H s.heap a (.lst xs) from I.hok a _ ea);exact Dk W.kitx_list I.kIn ⟨_,h1,rfl⟩ e (λz=>nomatch z) h
 |@frz a ob xs ea =>
  cases (show u=Ao a from rx)
  obtain⟨_,_,_,n,_,h1⟩:=(show ObjOk X.prog X.w H s.heap a (.frz ob (.lst xs)) from I.hok a _ ea);exact Dk W.kitx_list I.kIn ⟨_,h1,rfl⟩ e (λz=>nomatch z) h
 |@tup a xs ea =>
  cases (show u=Ao a from rx)
  obtain⟨_,_,_,p⟩:=(show ObjOk X.prog X.w H s.heap a (.tup xs) from I.hok a _ ea);obtain⟨o,h1,h2,_⟩:=p;exact Dk W.kitx_tuple I.kIn ⟨o,h1,h2⟩ e (λz=>nomatch z) h
 |@dK a kvs ea =>
  cases (show u=Ao a from rx)
  obtain⟨_,_,vs,_,p⟩:=(show ObjOk X.prog X.w H s.heap a (.dK kvs) from I.hok a _ ea);obtain⟨o,es,ep,h1,h2,_⟩:=p;exact Dk W.kitx_dict I.kIn ⟨o,h1,h2.1⟩ e (λz=>nomatch z) h
 |@dT a kvs ea =>
  cases (show u=Ao a from rx)
  obtain⟨_,_,xs,_,o,es,ep,h1,h2,_⟩:=(show ObjOk X.prog X.w H s.heap a (.dT kvs) from I.hok a _ ea);exact Dk W.kitx_dict I.kIn ⟨o,h1,h2.1⟩ e (λz=>nomatch z) h
 |@ins a C dx fs ea cl ha hn htk hm =>
  cases (show u=Ao a from rx)
  obtain⟨mA,O,_⟩:=zlM I.hok ea;obtain⟨od,J,_⟩:=O.look;exact Dk (W.kitx_own (cl.get _) cl.hd ha hn htk hm) I.kIn J e (λz=>nomatch z) h
end
structure Room (k:Nat) (A:AO):Prop where
 hd:A.handled=none
 dp:A.depth+3*k+5<recursionLimit
 un:A.units+16*k+200<cLine
 gd:A.guards=some []
theorem Room.mono{j k:Nat}{A:AO}(r:Room k A)(h:j<=k):Room j A:=⟨r.hd,by have:=r.dp;lia,by have:=r.un;lia,r.gd⟩
theorem Room.deeper{k:Nat}{A:AO}(r:Room (k+1) A)(env:Env):Room k (A.deeper env) :=
 ⟨r.hd,by have:=r.dp;show A.depth+1+3*k+5<_;lia,by have:=r.un;show A.units+3+16*k+200<_;lia,r.gd⟩
theorem Room.in1{k:Nat}{A:AO}(r:Room (k+1) A):Room k A.in1 :=
 ⟨r.hd,by have:=r.dp;show A.depth+3*k+5<_;lia,by have:=r.un;show A.units+1+16*k+200<_;lia,r.gd⟩
theorem zh7 {A:AO}{C:Addr}{us:List Value}{kw:List (Str×Value)}:(A.under (.builtin "type.__call__" ⟨.ref C::us,kw⟩)).depth=A.depth+1:=by
 first |rfl |simp[Around.under,Code.weight,Code.isCreation,Code.isGuard,Code.isCaller,Code.frames,Code.isFrame,guardIds]
theorem zh6 {A:AO}{C:Addr}{us:List Value}{kw:List (Str×Value)}:(A.under (.builtin "type.__call__" ⟨.ref C::us,kw⟩)).units=A.units+1:=by
 first |rfl |simp[Around.under,Code.cUnits,Code.frames,Code.isFrame]
theorem Room.make {k:Nat}{A:AO}(r:Room (k+1) A) (C:Addr) (us:List Value) (kw:List (Str×Value)):Room k (A.under (.builtin "type.__call__" ⟨.ref C::us,kw⟩)) :=
 ⟨r.hd,by have:=r.dp;rw[zh7];lia,by have:=r.un;rw[zh6];lia,by have:=r.gd;first |exact this | (simp[Around.under,Code.guards,Code.isGuard,guardIds,pushGuards,this])⟩
theorem Room.depth{k:Nat}{A:AO}(r:Room k A):A.depth<recursionLimit:=by have:=r.dp;lia
theorem Room.units{k:Nat}{A:AO}(r:Room k A):A.units+64<cLine:=by have:=r.un;lia
noncomputable def tNil:TA:=λ_ H Q=>Q [] H
noncomputable def tCons(ta:TE)(tr:TA):TA:=λσ H Q=>ta σ H λx H1=>tr σ H1 λxs H2=>Q (x::xs) H2
section
variable {X:Cx}{e:Expr}{es:List Expr}{te:TE}{t:TA}{pos:Pos}
theorem zab:PA X [] tNil:=λ_ _ _ _ H Q I h=>Calls.spliced_nil ⟨[],H,I,.nil,h⟩
theorem zag(ha:PE X e te)(hr:PA X es t)(hs:Bg (e::es) X.env=(false,eval e X.env)::Bg es X.env:=by rfl):PA X (e::es) (tCons te t):=by intro pos pins s σ H Q I h;rw[hs];show Ar _ _ (spliced ((false,eval e X.env)::DH pos (Bg es X.env))) _ _ s;refine Calls.spliced_cons (thn (ha pins s σ H _ I h) λu s1 ⟨x,H1,I1,r1,q1⟩=>?_);exact thn (hr pos pins s1 σ H1 _ I1 q1) λus s2 ⟨xs,H2,I2,r2,q2⟩=>⟨x::xs,H2,I2,.cons r1 r2,q2⟩
noncomputable def tTup(t:TA):TE:=λσ H Q=>t σ H λxs H1=>xs.length<=sizeLine/\∀p,H1 p=none->Q (.ref p) (upd H1 p (.tup xs))
noncomputable def tLst(t:TA):TE:=λσ H Q=>t σ H λxs H1=>xs.length<=sizeLine/\∀p,H1 p=none->Q (.ref p) (upd H1 p (.lst xs))
theorem zao{x1}(h:PA X es t):PE X (.Tuple es x1 pos) (tTup t):=by intro pins s σ H Q I hq;refine wpAny_Tuple_spliced (thn (h pos pins s σ H _ I hq) λus s1 ⟨xs,H1,I1,r,z,q⟩=>⟨by rw[<- r.length];exact z,?_⟩);have hf:H1 s1.heap.objs.size=none:=I1.hok.fresh (Aj _);refine⟨.ref s1.heap.objs.size,upd H1 s1.heap.objs.size (.tup xs),I1.laid (t':=s1.toks) (λb u e=>Ag _ e) (Aj _) ?_,rfl,q _ hf⟩;exact⟨z,us,r,⟨_,AB _ rfl,rfl,_,rfl⟩⟩
theorem zaL(h:PA X es t):PE X (.List es pos) (tLst t):=by intro pins s σ H Q I hq;refine wpAny_List_spliced (thn (h pos pins s σ H _ I hq) λus s1 ⟨xs,H1,I1,r,z,q⟩=>⟨by rw[<- r.length];exact z,?_⟩);have hf:H1 s1.heap.objs.size=none:=I1.hok.fresh (Aj _);refine⟨.ref s1.heap.objs.size,upd H1 s1.heap.objs.size (.lst xs),I1.laid (t':=s1.toks) (λb u e=>Ag _ e) (Aj _) ?_,rfl,q _ hf⟩;exact⟨z,us,0,r,AB _ rfl⟩
end
noncomputable abbrev Sp:=List V->Hp->VK->XK->Prop
noncomputable abbrev CXT:=List Env->Hp->Ac->XK->Value->Ac->Prop
structure Env0 (P:AF) (w:A5) (K:W.Frag) (mg:Str->Option Value) (base:Heap) (A:AO) (outer:List Env) (s:Ac) (H:Hp):Prop where
 frames:A.frames=some outer
 mod:Mod K mg base
 bs:∀b o,base.get? b=some o->s.heap.get? b=some o/\H b=none
 bsz:base.objs.size<=s.heap.objs.size
 funs:s.heap.FunFrames base outer
 frf:∀b∈frs outer,H b=none
 hok:HOk P w H s.heap
 bare:AllBare s.gens
noncomputable def CE(outer:List Env)(P:AF)(w:A5)(H:Hp)(s:Ac)(Q:VK)(u:Value)(s':Ac):Prop :=
 ∃v H',s'.os=s.os/\AllBare s'.gens/\Un (frs outer) [] H H' s.heap s'.heap/\HOk P w H' s'.heap/\RelV v u/\Q v H'
noncomputable def CR(CX:CXT)(outer:List Env)(P:AF)(w:A5)(H:Hp)(s:Ac)(Q:VK)(E:XK)(r:Result)(s':Ac):Prop :=
 match r with
 |.ok (.ret u)=>CE outer P w H s Q u s'
 |.ok _=>False
 |.error e=>CX outer H s E e s'
structure FnOk (P:AF) (w:A5) (K:W.Frag) (mg:Str->Option Value) (base:Heap) (CX:CXT) (k:Nat) (f:Addr) (fd:BC) (ps:List Str) (sp:Sp):Prop where
 len:∀vs H Q E,sp vs H Q E->vs.length=ps.length
 run:∀(A:AO) (outer:List Env) (s:Ac) (H:Hp) (args:Args) (us:List Value) (vs:List V) (Q:VK) (E:XK),Room k A->Env0 P w K mg base A outer s H->BindsTo s fd args (ps.zip us)->Vals vs us->sp vs H Q E ->
  Da (Az P w) A (.call (.ref f) args) (CR CX outer P w H s Q E) s
theorem Env0.make{P:AF}{w:A5}{K:W.Frag}{mg:Str -> Option Value}{base:Heap}{A:AO}{outer:List Env}{s:Ac}{H:Hp}(e:Env0 P w K mg base A outer s H)(C:Addr)(us:List Value)(kw:List (Str × Value)) :
  Env0 P w K mg base (A.under (.builtin "type.__call__" ⟨.ref C::us,kw⟩)) outer s H:=⟨by first |exact e.frames | (simpa[Around.under,Code.envs,Code.isFrame,pushEnvs]using e.frames),e.mod,e.bs,e.bsz,e.funs,e.frf,e.hok,e.bare⟩
theorem Env0.in1{P:AF}{w:A5}{K:W.Frag}{mg:Str -> Option Value}{base:Heap}{A:AO}{outer:List Env}{s:Ac}{H:Hp}(e:Env0 P w K mg base A outer s H) :
  Env0 P w K mg base A.in1 outer s H:=⟨e.frames,e.mod,e.bs,e.bsz,e.funs,e.frf,e.hok,e.bare⟩
section
variable {X:Cx}{pins:List (Addr×Obj)}{σ:St}{H:Hp}{s s':Ac}
theorem Inv.env0(I:Inv X pins σ H s):Env0 X.prog X.w X.K X.mg X.base X.A X.stack s H :=
 ⟨I.ok.frames,I.ok.mod,I.bs,AN I.ok.bsz I.sz,I.stack,I.stkFree,I.hok,I.bare⟩
theorem Inv.after{Q:VK}{u:Value}(I:Inv X pins σ H s)(h:CE X.stack X.prog X.w H s Q u s'):EP X pins σ Q u s':=by obtain⟨v,H',os,bare,un,hok,r,q⟩:=h;obtain⟨hh,g,d,t,os'⟩:=s';obtain rfl:os'=s.os:=os;exact⟨v,H',I.call (h':=hh) (g':=g) (d':=d) (t':=t) (ch:=[]) un hok bare (λb z=>absurd z (by simp)),r,q⟩
end
noncomputable def tCall(sp:Sp)(dvs:List V)(E:XK)(t:TA):TE:=λσ H Q=>t σ H λvs H1=>sp (vs++dvs) H1 Q E
noncomputable def Binds(K:W.Frag)(fd:BC)(ps:List Str)(ds:List Value):Prop :=
 ∀(s:Ac) (us:List Value),K.In s.heap->(us++ds).length=ps.length->BindsTo s fd ⟨us,[]⟩ (ps.zip (us++ds))
theorem Binds.all{K:W.Frag}{fd:BC}{ps:List Str}(h:∀us:List Value,us.length=ps.length->DM fd ⟨us,[]⟩=pure (ps.zip us)):Binds K fd ps []:=λs us _ hl=>by rw[AE]at hl ⊢;exact .of_eq (h us hl)
noncomputable def zd7(CX:CXT)(X:Cx)(E:XK):Prop:=∀(pins:List (Addr×Obj)) (σ:St) (H:Hp) (s:Ac) (e:Value) (s':Ac),Inv X pins σ H s->CX X.stack H s E e s'->X.xe e s'
section
variable {X:Cx}{CX:CXT}{k:Nat}{f C:Addr}{fd:BC}{ps:List Str}{sp:Sp}{dvs:List V}{ds:List Value}{E:XK}{x m:Str}{p pos apos:Pos}{e o:Expr}{es:List Expr}{ta:TE}{t:TA}
theorem zmh{pins:List (Addr × Obj)}{σ : St}{H:Hp}{s:Ac}{Q:VK}{us:List Value}{vs:List V}(F:FnOk X.prog X.w X.K X.mg X.base CX k f fd ps sp)(hr:Room k X.A)(hb:Binds X.K fd ps ds)(hd:Vals dvs ds)(hx:zd7 CX X E)
  (I:Inv X pins σ H s) (r:Vals vs us) (h:sp (vs++dvs) H Q E):Ar (Az X.prog X.w) X.A (call (.ref f) us) (EP X pins σ Q) X.xe s:=by
 have r2:Vals (vs++dvs) (us++ds):=r.append hd;have hl:(us++ds).length=ps.length:=by rw[<- r2.length];exact F.len _ _ _ _ h
 refine wpAny_call (Db (F.run X.A X.stack s H ⟨us,[]⟩ (us++ds) (vs++dvs) Q E hr I.env0 (hb s us I.kIn hl) r2 h) λr s' hq=>?_)
 cases r with
 |error e=>exact hx pins σ H s e s' I hq
 |ok fl =>
  cases fl with
  |ret u=>exact I.after hq
  |next=>exact Bu hq
  |brk=>exact Bu hq
  |cont=>exact Bu hq
theorem zi7(F:FnOk X.prog X.w X.K X.mg X.base CX k f fd ps sp)(hr:Room k X.A)(hg:Gl X x)(hm:X.mg x=some (.ref f))(hk:C5 X.K (.ref f)=true)(hb:Binds X.K fd ps ds)(hd:Vals dvs ds)(hx:zd7 CX X E)
  (ha:PA X (e::es) t) (hdb:(x == ("__debug__" : Str))=false:=by decide) (he:Bg (e::es) X.env=(false,eval e X.env)::Bg es X.env:=by rfl) (hpl:(DH pos (Bg es X.env)).any (·.1)=false:=by rfl) :
  PE X (.Call (.Name x p) (e::es) [] pos) (tCall sp dvs E t):=by
 intro pins s σ H Q I h;refine Cn (zff I hg hm ?_ hdb);refine W.callWith_K (h₀:=X.base) I.ok.mod.kin hk (thn (ha pos pins s σ H _ I h) λus s1 ⟨vs,H1,I1,r,q⟩=>⟨I1.kIn,?_⟩) he hpl;exact zmh F hr hb hd hx I1 r q
structure Mk (K:W.Frag) (C f:Addr):Prop where
 makes:W.makesIn K C=true
 init:CG K (.ref C) "__init__" = some (some (.ref f))
 fn:W.isFn K (.ref f)=true
 kp:C5 K (.ref C)=true
end
noncomputable def PK(X:Cx)(kws:List Keyword)(t:TA):Prop :=
 ∀(pos:Pos) (pins:List (Addr×Obj)) (s:Ac) (σ:St) (H:Hp) (Q:List V->Hp->Prop),Inv X pins σ H s->t σ H Q->Ar (Az X.prog X.w) X.A (evalAll ((DN pos (CL kws X.env)).map (·.2))) (AP X pins σ Q) X.xe s
section
variable {X:Cx}{CX:CXT}{k:Nat}{f C:Addr}{fd:BC}{ps ks:List Str}{sp:Sp}{E:XK}{x m:Str}{p pos apos kpos:Pos}{e o:Expr}{es:List Expr}{kws:List Keyword}{te ta:TE}{t tk:TA}{nm:Option Str}
theorem zkV:PK X [] tNil:=λ_ _ _ _ H Q I h=>wpAny_evalAll_nil ⟨[],H,I,.nil,h⟩
theorem zi4(ha:PE X e te)(hr:PK X kws t):PK X (⟨nm,e,kpos⟩::kws) (tCons te t):=by intro pos pins s σ H Q I h;show Ar _ _ (evalAll ((do let v <- eval e X.env;standAt pos;pure v)::(DN pos (CL kws X.env)).map (·.2))) _ _ s;refine wpAny_evalAll_cons (Aa (thn (ha pins s σ H _ I h) λu s1 ⟨x,H1,I1,r1,q1⟩=>Aa (DO (Ah ?_))));exact thn (hr pos pins s1 σ H1 _ I1 q1) λus s2 ⟨xs,H2,I2,r2,q2⟩=>⟨x::xs,H2,I2,.cons r1 r2,q2⟩
structure KBinds (K:W.Frag) (fd:BC) (ps ks:List Str) (g:List Value->List Value->List Value) (gV:List V->List V->List V):Prop where
 to:∀(s:Ac) (us ws:List Value),K.In s.heap->(g us ws).length=ps.length->BindsTo s fd ⟨us,ks.zip ws⟩ (ps.zip (g us ws))
 rel:∀{vs:List V} {us:List Value} {zs:List V} {ws:List Value},Vals vs us->Vals zs ws->Vals (gV vs zs) (g us ws)
variable {g:List Value->List Value->List Value}{gV:List V->List V->List V}
end
structure FnScope (N P:List Str) (sc:Scope):Prop where
 kind:sc.kind=.function
 co:sc.isCoroutine=false
 gen:sc.isGenerator=false
 nd:N.Nodup
 pre:N.take P.length=P
 par:∀x∈P,sc.names.lookup x=some .local∨sc.names.lookup x=some .cell
 nofree:∀y∈sc.names,y.2≠.free
theorem zf7{kindOf:Str->Option NameKind}{x:Str}:∀{binds:List (Str×Value)}{m:Str->Option Value},(∀v,(x,v) ∉ binds)->bindL kindOf binds m x=m x
 |[],_,_=>rfl
 | (n,v)::r,m,h=>by
  unfold bindL;rw[zf7 λw hw=>h w (AI _ hw)];split
  .have:x≠n:=by rintro rfl;exact h v AQ
   simp[this]
  .rfl
theorem zf9{kindOf:Str->Option NameKind}{x:Str}:∀{binds:List (Str×Value)}{m:Str->Option Value},(∀v,(x,v) ∉ binds)->bindC kindOf binds m x=m x
 |[],_,_=>rfl
 | (n,v)::r,m,h=>by
  unfold bindC;rw[zf9 λw hw=>h w (AI _ hw)];split
  .rfl
  .have:x≠n:=by rintro rfl;exact h v AQ
   simp[this]
theorem zf8{kindOf:Str -> Option NameKind}{x:Str}{v:Value} : ∀{P:List Str}{vs:List Value}{i:Nat}{m:Str -> Option Value}, P.Nodup -> P[i]? = some x -> vs[i]? = some v -> kindOf x=some .local ->
  bindL kindOf (P.zip vs) m x=some v
 |[],_,_,_,_,h,_,_=>by simp at h
 |_::_,[],_,_,_,_,h,_=>by simp at h
 |p::P,w::vs,0,m,nd,h1,h2,hk=>by
  simp at h1 h2;subst h1;subst h2;show bindL kindOf ((p,w)::P.zip vs) m p=_;unfold bindL;rw[zf7 λv hv=>(CU.mp nd).1 (List.of_mem_zip hv).1,if_pos hk];simp
 |p::P,w::vs,i+1,m,nd,h1,h2,hk=>by
  show bindL kindOf ((p,w)::P.zip vs) m x=_;unfold bindL;exact zf8 (i:=i) (CU.mp nd).2 (by simpa using h1) (by simpa using h2) hk
theorem zga{kindOf:Str -> Option NameKind}{x:Str}{v:Value} : ∀{P:List Str}{vs:List Value}{i:Nat}{m:Str -> Option Value}, P.Nodup -> P[i]? = some x -> vs[i]? = some v -> kindOf x ≠ some .local ->
  bindC kindOf (P.zip vs) m x=some v
 |[],_,_,_,_,h,_,_=>by simp at h
 |_::_,[],_,_,_,_,h,_=>by simp at h
 |p::P,w::vs,0,m,nd,h1,h2,hk=>by
  simp at h1 h2;subst h1;subst h2;show bindC kindOf ((p,w)::P.zip vs) m p=_;unfold bindC;rw[zf9 λv hv=>(CU.mp nd).1 (List.of_mem_zip hv).1,if_neg hk];simp
 |p::P,w::vs,i+1,m,nd,h1,h2,hk=>by
  show bindC kindOf ((p,w)::P.zip vs) m x=_;unfold bindC;exact zga (i:=i) (CU.mp nd).2 (by simpa using h1) (by simpa using h2) hk
noncomputable def start(N:List Str)(vs:List V):St:=vs.map some++Ae (N.length-vs.length) none
noncomputable def cxOf(CX:CXT)(P:AF)(w:A5)(K:W.Frag)(mg:Str->Option Value)(base:Heap)(N:List Str)(qual:Str)(scope:Scope)(f:Addr)(cd:Value)(A:AO)(outer:List Env)(s:Ac)(H:Hp)(E:XK):Cx where
 prog:=P
 w:=w
 K:=K
 mg:=mg
 base:=base
 A:=A.deeper (envOfC qual scope s.heap.objs.size f cd)
 N:=N
 s₀:=s
 H₀:=H
 env:=envOfC qual scope s.heap.objs.size f cd
 outer:=outer
 stack:=envOfC qual scope s.heap.objs.size f cd::outer
 ex:=[]
 calm:=true
 fn:=λ_=>true
 pn:=[]
 xe:=λe s'=>Ar (Az P w) (A.deeper (envOfC qual scope s.heap.objs.size f cd)) (leaving (envOfC qual scope s.heap.objs.size f cd) e) (λ_ s''=>CX outer H s E e s'') (λe' s''=>CX outer H s E e' s'') s'
theorem zhI{sc:Scope}{n:Nat}{x:Str}(h:sc.names.lookup x=some .cell):∃c,(cellsFrom n sc.names []).lookup x=some c:=by have q:=W.cellsFrom_some sc.names n [] (.inl h);exact Option.isSome_iff_exists.mp q
theorem zfU{CX:CXT}{P:AF}{w:A5}{K:W.Frag}{mg:Str -> Option Value}{base:Heap}{N ps:List Str}{qual:Str}{scope:Scope}{f:Addr}{cd:Value}{A:AO}{outer:List Env}{s s1:Ac}{H:Hp}{E:XK}{us:List Value}{vs:List V}
  (S:FnScope N ps scope) (hd:A.handled=none) (e0:Env0 P w K mg base A outer s H) (hl:vs.length=ps.length) (r:Vals vs us)
  (x:InCallC s s.heap.objs.size (bindL (envOfC qual scope s.heap.objs.size f cd).kindOf (ps.zip us) λ_=>none) (cellsFrom (s.heap.objs.size+1) scope.names []) (bindC (envOfC qual scope s.heap.objs.size f cd).kindOf (ps.zip us) λ_=>none) s1) :
  Inv (cxOf CX P w K mg base N qual scope f cd A outer s H E) [] (start N vs) H s1:=by
 have hpl:ps.length<=N.length:=by have:=congrArg List.length S.pre;rw[AT]at this;lia
 obtain⟨h1,tk,rfl,hk⟩:=x.done;have noA:∀b:Addr,b ∉ (cxOf CX P w K mg base N qual scope f cd A outer s H E).ex:=λb z=>absurd (show b∈([]:List Addr) from z) (by simp)
 refine⟨⟨e0.mod,S.kind,rfl,rfl,Aj _,λy z c h1 h2=>?_,λy hy=>?_,λy c _ h=>?_,λ_=>hd,Around.frames_deeper e0.frames,.inr ⟨rfl,rfl⟩,λb z=>absurd z (noA b),e0.bs,e0.bsz,λb _ _=>noA b,λb z=>absurd z (noA b),e0.funs,e0.frf⟩,
  rfl,e0.bare,Un.kept hk,⟨_,x.toInCall.ns,λi y v h1 h2 h3=>?_⟩,λy c h=>⟨_,x.cell y c h⟩,e0.hok.fresh (Aj _),λy c h=>?_,λp hp=>absurd (show p∈([]:List (Addr×Obj)) from hp) (by simp),e0.hok.kept hk,?_⟩
 .exact name_of_addr x.apart (CH h1) (CH h2)
 .have hy:scope.names.lookup y=some .cell∨scope.names.lookup y=some .free:=hy;rcases hy with hy |hy
  .exact zhI hy
  .exact absurd rfl (S.nofree _ (CH hy))
 .exact Bc (x.above y c (CH h))
 .have hi:i < vs.length := by
   unfold start at h2
   by_cases hi:i<vs.length
   .exact hi
   .rw[AW (by simpa using hi)]at h2;rw[List.getElem?_replicate]at h2;split at h2 <;> cases h2
  have ha:vs[i]?=some v:=by
   unfold start at h2;rw[AK (by simpa using hi),A7]at h2
   cases e:vs[i]? with
   |none=>rw[e]at h2;cases h2
   |some a=>rw[e]at h2;cases h2;rfl
  obtain⟨u,hu,rv⟩:=r.get ha
  have hp:ps[i]?=some y:=by rw[<- S.pre,List.getElem?_take_of_lt (by lia)];exact h1
  have ndP:ps.Nodup:=by rw[<- S.pre];exact S.nd.sublist (Cc _ _)
  refine⟨u,rv,?_⟩;rcases S.par y (Aw hp) with k |k
  .exact .inl ⟨k,zf8 ndP hp hu k⟩
  .obtain⟨c,e⟩:=zhI (n:=s.heap.objs.size+1) k;refine .inr ⟨.inl k,c,e,?_⟩;have q:=x.cell y c e;rw[zga ndP hp hu (by show scope.names.lookup y≠_;rw[k];decide)]at q;exact q
 .exact e0.hok.fresh (Bc (x.above y c (CH h)))
 .unfold start;show _=N.length;rw[Af,Ai,Bs];lia
theorem fn_of{CX:CXT}{P:AF}{w:A5}{K:W.Frag}{mg:Str -> Option Value}{base:Heap}{k:Nat}{f:Addr}{name qual:Str}{params:Arguments}{body:List Stmt}{scope:Scope}{dV kV doc pm cdv ct oc:Value}{an od:Option Addr}
  {osl:Array (Option Value)} {N ps:List Str} {sp:Sp} (lk:K.lookup f=some ⟨oc,od,.func (Du name qual params body scope dV kV doc pm an cdv ct),osl⟩) (hcd:W.codeIn K cdv qual=true) (S:FnScope N ps scope)
  (len:∀vs H Q E,sp vs H Q E->vs.length=ps.length)
  (hbody:∀(A:AO) (outer:List Env) (s:Ac) (H:Hp) (vs:List V) (Q:VK) (E:XK),Room k (A.deeper (envOfC qual scope s.heap.objs.size f cdv))->sp vs H Q E ->
   ∃t,PSs (cxOf CX P w K mg base N qual scope f cdv A outer s H E) body t/\t { nx:=λ_ H'=>Q .non H',rt:=Q } (start N vs) H) :
  FnOk P w K mg base CX (k+1) f (Du name qual params body scope dV kV doc pm an cdv ct) ps sp:=by
 refine⟨len,λA outer s H args us vs Q E hr e0 hb r hsp=>?_⟩;have hl:=len _ _ _ _ hsp;have KX:K.In s.heap:=e0.mod.kin.keeps λb o e=>(e0.bs b o e).1
 have lim:s.heap.NoLimit:=e0.mod.nolimit.keeps λb o e=>(e0.bs b o e).1
 have hkind:∀y∈ps.zip us,scope.names.lookup y.1=some .local∨(scope.names.lookup y.1=some .cell/\((cellsFrom (s.heap.objs.size+1) scope.names []).lookup y.1).isSome=true):=λ⟨n,v⟩ hy=>by
  rcases S.par n (List.of_mem_zip hy).1 with q |q
  .exact .inl q
  .exact .inr ⟨q,W.cellsFrom_some _ _ _ (.inl q)⟩
 refine codeAny_call_function hr.depth (KX _ _ lk) rfl S.co S.gen rfl (W.codeRec_of KX hcd) (hb _ _ _ _ ?_);refine wpAny_newFunctionEnv_cells S.kind hkind λenv he s1 x=>?_
 subst he;refine⟨lim.keeps x.toInCall.keep,codeAny_func ?_⟩;obtain⟨t,ht,hq⟩:=hbody A outer s H vs Q E (hr.deeper _) hsp;have I:Inv (cxOf CX P w K mg base N qual scope f cdv A outer s H E) [] (start N vs) H s1:=zfU S hr.hd e0 hl r x;refine Bv (ht [] s1 (start N vs) H _ I hq) (λfl s' hs=>?_) λe s' hs=>hs
 have fin:∀{σ':St} {H':Hp} {v:V} {u:Value},Inv (cxOf CX P w K mg base N qual scope f cdv A outer s H E) [] σ' H' s'->RelV v u->Q v H'->CE outer P w H s Q u s' :=
  λ{σ' H' v u} J rv q=>⟨v,H',J.os,J.bare,J.base,J.hok,rv,q⟩
 cases fl with
 |ret u =>
  obtain⟨v,σ',H',J,rv,q⟩:=hs;exact fin J rv q
 |next =>
  obtain⟨σ',H',J,q⟩:=hs;exact fin (v:=V.non) (u:=Bk) J rfl q
 |brk =>
  obtain⟨_,_,_,q⟩:=hs;exact Bu q
 |cont =>
  obtain⟨_,_,_,q⟩:=hs;exact Bu q
section
variable {X:Cx}{x:Str}{p pos:Pos}{e:Expr}{es:List Expr}{t:TA}{id T:String}{r:List V->Hp->VK->Prop}
noncomputable def tCB(r:List V->Hp->VK->Prop)(t:TA):TE:=λσ H Q=>t σ H λvs H1=>r vs H1 Q
theorem zan (hc:CallR X (.builtin id) r) (hg:Gl X x) (hm:X.mg x=none) (hv:bootBuiltins x=some (.builtin id)) (ha:PA X (e :: es) t) (hn:x ≠ "__name__" := by decide) (hdb:(x == ("__debug__" : Str))=false := by decide)
  (he:Bg (e::es) X.env=(false,eval e X.env)::Bg es X.env:=by rfl) (hpl:(DH pos (Bg es X.env)).any (·.1)=false:=by rfl):PE X (.Call (.Name x p) (e::es) [] pos) (tCB r t):=by
 intro pins s σ H Q I h;refine Cn (zdX I hg hm hv ?_ hn hdb);exact PyProof.Rows.callWith_builtin1 (thn (ha pos pins s σ H _ I h) λus s1 ⟨vs,H1,I1,r1,q1⟩=>hc pins s1 σ H1 vs us Q I1 r1 q1) he hpl
theorem zbH (hc:CallR X (.type T) r) (hg:Gl X x) (hm:X.mg x=none) (hv:bootBuiltins x=some (.type T)) (ha:PA X (e :: es) t) (hn:x ≠ "__name__" := by decide) (hdb:(x == ("__debug__" : Str))=false := by decide)
  (he:Bg (e::es) X.env=(false,eval e X.env)::Bg es X.env:=by rfl) (hpl:(DH pos (Bg es X.env)).any (·.1)=false:=by rfl):PE X (.Call (.Name x p) (e::es) [] pos) (tCB r t):=by
 intro pins s σ H Q I h;refine Cn (zdX I hg hm hv ?_ hn hdb);exact Dr (thn (ha pos pins s σ H _ I h) λus s1 ⟨vs,H1,I1,r1,q1⟩=>hc pins s1 σ H1 vs us Q I1 r1 q1) he hpl
end
section
variable {κ:Type} [DecidableEq κ]
noncomputable def valV(kvs:List (κ×V))(k:κ):Option V:=(kvs.find? λkv=>decide (kv.1=k)).map (·.2)
noncomputable def putK(kvs:List (κ×V))(k:κ)(v:V):List (κ×V) :=
 if (kvs.any λkv=>decide (kv.1=k))=true then kvs.map (λkv=>if kv.1=k then (kv.1,v) else kv) else kvs++[(k,v)]
theorem za8{p:κ×V}{r:List (κ×V)}{k:κ}(e:p.1=k):valV (p::r) k=some p.2:=by simp[valV,CD,e]
theorem za4{p:κ×V}{r:List (κ×V)}{k:κ}(e:¬ p.1=k):valV (p::r) k=valV r k:=by simp[valV,CD,e]
theorem zds(k:κ):∀kvs:List (κ×V),(kvs.any λkv=>decide (kv.1=k))=(valV kvs k).isSome
 |[]=>rfl
 |p::r=>by
  rw[List.any_cons]
  by_cases e:p.1=k
  .simp only[za8 e,decide_eq_true e,Bool.true_or,Option.isSome_some]
  .rw[za4 e,decide_eq_false e,Bool.false_or];exact zds k r
theorem zgX(k j:κ)(y:V):∀kvs:List (κ×V),valV (kvs.map λkv=>if kv.1=k then (kv.1,y) else kv) j=(valV kvs j).map λx=>if j=k then y else x
 |[]=>rfl
 |p::r=>by
  have ih:=zgX k j y r;rw[BA]
  by_cases h:p.1=k
  .rw[if_pos h]
   by_cases e:p.1=j
   .rw[za8 (p:=(p.1,y)) e,za8 e,DT,if_pos (e.symm.trans h)]
   .rw[za4 (p:=(p.1,y)) e,za4 e,ih]
  .rw[if_neg h]
   by_cases e:p.1=j
   .rw[za8 (p:=p) e,za8 e,DT,if_neg (λz=>h (e.trans z))]
   .rw[za4 (p:=p) e,za4 e,ih]
theorem zfv(k j:κ)(y:V):∀kvs:List (κ×V),valV kvs k=none->valV (kvs++[(k,y)]) j=if j=k then some y else valV kvs j
 |[],_=>by
  by_cases e:k=j
  .rw[if_pos e.symm];exact za8 (p:=(k,y)) e
  .rw[if_neg (λz=>e z.symm)];exact za4 (p:=(k,y)) e
 |p::r,hn=>by
  rw[List.cons_append];have hk:¬ p.1=k:=λz=>by rw[za8 z]at hn;cases hn
  rw[za4 hk]at hn;have ih:=zfv k j y r hn
  by_cases e:p.1=j
  .rw[za8 e,za8 e,if_neg (λz=>hk (e.trans z))]
  .rw[za4 e,za4 e,ih]
theorem zeI(kvs:List (κ×V))(k j:κ)(y:V):valV (putK kvs k y) j=if j=k then some y else valV kvs j:=by
 unfold putK
 by_cases a:(kvs.any λkv=>decide (kv.1=k))=true
 .rw[if_pos a,zgX];rw[zds]at a
  by_cases e:j=k
  .obtain⟨x,hx⟩:=Option.isSome_iff_exists.mp a;rw[if_pos e,e,hx,DT,if_pos rfl]
  .rw[if_neg e]
   cases valV kvs j with
   |none=>rfl
   |some x=>rw[DT,if_neg e]
 .rw[if_neg a];refine zfv k j y kvs ?_
  rw[zds]at a
  cases q:valV kvs k with
  |none=>rfl
  |some x=>rw[q]at a;exact (a rfl).elim
theorem zbq(kvs:List (κ×V))(k:κ)(v:V):(putK kvs k v).length<=kvs.length+1:=by
 unfold putK;split
 .rw[Ai];lia
 .rw[Af,Be,Cg];lia
theorem RelO.isSome_eq{o:Option V}{u:Option Value}(r:RelO o u):o.isSome=u.isSome:=by
 cases o with
 |none=>cases u with
  |none=>rfl
  |some _=>exact (show False from r).elim
 |some _=>cases u with
  |none=>exact (show False from r).elim
  |some _=>rfl
theorem KV.val{kvs:List (κ×V)}{vs:List (κ×Value)}(r:KV kvs vs)(k:κ):RelO (valV kvs k) (valueAt vs k):=by
 unfold KV at r
 induction r with
 |nil=>exact Cb
 |@cons p q ps qs h t ih =>
  obtain⟨h1,h2⟩:=h
  by_cases e:p.1=k
  .have e':q.1=k:=h1.symm.trans e;have b:valueAt (q::qs) k=some q.2:=by simp[valueAt,CD,e']
   rw[za8 e,b];exact h2
  .have e':¬ q.1=k:=λz=>e (h1.trans z)
   have b:valueAt (q::qs) k=valueAt qs k:=by simp[valueAt,CD,e']
   rw[za4 e,b];exact ih
theorem KV.any{kvs:List (κ×V)}{vs:List (κ×Value)}(r:KV kvs vs)(k:κ):(kvs.any λkv=>decide (kv.1=k))=vs.any λkv=>decide (kv.1=k):=by
 unfold KV at r
 induction r with
 |nil=>rfl
 |cons h t ih=>rw[List.any_cons,List.any_cons,ih,h.1]
theorem KV.repl{kvs:List (κ × V)}{vs:List (κ × Value)}(r:KV kvs vs)(k : κ){y:V}{u:Value}(ry:RelV y u) :
  KV (kvs.map λkv=>if kv.1=k then (kv.1,y) else kv) (vs.map λkv=>if kv.1=k then (kv.1,u) else kv):=by
 unfold KV at r ⊢
 induction r with
 |nil=>exact .nil
 |@cons p q ps qs h t ih =>
  rw[BA,BA];refine .cons ?_ ih;obtain⟨h1,h2⟩:=h
  by_cases e:p.1=k
  .rw[if_pos e,if_pos (h1.symm.trans e)];exact⟨h1,ry⟩
  .rw[if_neg e,if_neg (λz=>e (h1.trans z))];exact⟨h1,h2⟩
theorem KV.put{kvs:List (κ×V)}{vs:List (κ×Value)}(r:KV kvs vs)(k:κ){y:V}{u:Value}(ry:RelV y u):KV (putK kvs k y) (stored vs k u):=by
 unfold putK stored;rw[r.any k]
 by_cases e:(vs.any λkv=>decide (kv.1=k))=true
 .rw[if_pos e,if_pos e];exact r.repl k ry
 .rw[if_neg e,if_neg e];exact Paired.snoc r ⟨rfl,ry⟩
theorem KV.length{kvs:List (κ×V)}{vs:List (κ×Value)}(r:KV kvs vs):kvs.length=vs.length:=DK r
end
theorem kV_is{P:AF}{w:A5}{k:Key}{u:Value}(r:RelV (kV k) u):(zaH P w).is k u=true:=by
 cases k with
 |inl i=>obtain⟨t,e⟩:=(show ∃t,u=DB i t from r);subst e;exact zgI P w i t
 |inr x=>obtain⟨t,e⟩:=(show ∃t,u=Value.str x t from r);subst e;exact za3 P w x t
theorem zfT{P:AF}{w:A5}:∀{ks:List Key}{us:List Value},Vals (ks.map kV) us->ItemsAre (zaH P w) ks us
 |[],_,r=>by rw[List.map_nil]at r;cases r;exact .nil
 |k::ks,_,r=>by
  rw[BA]at r
  cases r with
  |cons h t=>exact .cons (kV_is h) (zfT t)
noncomputable abbrev KT(H:Hp):List (List Key×V)->List (List Key×Addr×Value)->Prop:=Paired λp q=>p.1=q.1/\H q.2.1=some (.tup (p.1.map kV))/\RelV p.2 q.2.2
theorem KT.val{H:Hp}{kvs:List (List Key×V)}{xs:List (List Key×Addr×Value)}(r:KT H kvs xs)(k:List Key):RelO (valV kvs k) ((atKey xs k).map (·.2)):=by
 induction r with
 |nil=>exact Cb
 |@cons p q ps qs h t ih =>
  obtain⟨h1,_,h2⟩:=h
  by_cases e:p.1=k
  .have e':q.1=k:=h1.symm.trans e;have b:atKey (q::qs) k=some q.2:=by simp[atKey,CD,e']
   rw[za8 e,b];exact h2
  .have e':¬ q.1=k:=λz=>e (h1.trans z)
   have b:atKey (q::qs) k=atKey qs k:=by simp[atKey,CD,e']
   rw[za4 e,b];exact ih
theorem KT.repl{H:Hp}{kvs:List (List Key × V)}{xs:List (List Key × Addr × Value)}(r:KT H kvs xs)(k:List Key){y:V}{u:Value}(ry:RelV y u) :
  KT H (kvs.map λkv=>if kv.1=k then (kv.1,y) else kv) (xs.map (putAt k u)):=by
 induction r with
 |nil=>exact .nil
 |@cons p q ps qs h t ih =>
  rw[BA,BA];refine .cons ?_ ih;obtain⟨h1,h2,h3⟩:=h;unfold putAt
  by_cases e:p.1=k
  .rw[if_pos e,if_pos (h1.symm.trans e)];exact⟨h1,h2,ry⟩
  .rw[if_neg e,if_neg (λz=>e (h1.trans z))];exact⟨h1,h2,h3⟩
theorem KT.put{H:Hp}{kvs:List (List Key × V)}{xs:List (List Key × Addr × Value)}(r:KT H kvs xs)(k:List Key){b:Addr}{y:V}{u:Value}(hb:H b=some (.tup (k.map kV)))(ry:RelV y u) :
  KT H (putK kvs k y) (storedH xs k b u):=by
 have e:(kvs.any λkv=>decide (kv.1=k))=(atKey xs k).isSome:=by rw[zds,(r.val k).isSome_eq,Option.isSome_map]
 unfold putK storedH;rw[e]
 by_cases q:(atKey xs k).isSome=true
 .rw[if_pos q,if_pos q];exact r.repl k ry
 .rw[if_neg q,if_neg q];exact Paired.snoc r ⟨rfl,hb,ry⟩
theorem KT.keeps{H H':Hp}{kvs:List (List Key×V)}{xs:List (List Key×Addr×Value)}(r:KT H kvs xs)(ht:∀b ys,H b=some (.tup ys)->H' b=some (.tup ys)):KT H' kvs xs :=
 Paired.mapP r λ_ _ z=>⟨z.1,ht _ _ z.2.1,z.2.2⟩
section
variable {P:AF}{w:A5}{H:Hp}{h:Heap}{a:Addr}
theorem rd_of{u:HO}(ok:HOk P w H h)(e:Rd H a u):ObjOk P w H h a u:=e.ok ok
theorem dk_rd{kvs:List (Key×V)}(ok:HOk P w H h)(e:Rd H a (.dK kvs)):kvs.length<=sizeLine/\(a == Cm)=false/\∃vs,KV kvs vs/\h.DictOf (zaH P w) a vs :=
 show ObjOk P w H h a (.dK kvs) from rd_of ok e
theorem dk_of{kvs:List (Key×V)}(ok:HOk P w H h)(e:H a=some (.dK kvs)):kvs.length<=sizeLine/\(a == Cm)=false/\∃vs,KV kvs vs/\h.DictOf (zaH P w) a vs:=dk_rd ok (.inl e)
theorem zfR{ks:List Key}(ok:HOk P w H h)(e:H a=some (.tup (ks.map kV))):(tupleKind (zaH P w)).is h ks a:=by obtain⟨_,its,r,o,h1,h2,n,h3⟩:=(show ObjOk P w H h a (.tup (ks.map kV)) from ok a _ e);exact⟨o,its.toArray,n,h1,h2,h3,by simpa using zfT r⟩
theorem dt_rd{kvs:List (List Key × V)}(ok:HOk P w H h)(e:Rd H a (.dT kvs)):kvs.length <= sizeLine /\ (a == Cm)=false /\
  ∃xs,KT H kvs xs/\h.DictOfH (tupleKind (zaH P w)) a xs:=by
 obtain⟨z,y,xs,r,o,es,ep,h1,h2,h3,h4,h5⟩:=(show ObjOk P w H h a (.dT kvs) from rd_of ok e);refine⟨z,y,xs,r,o,es,ep,h1,h2,h3,h4,λx hx=>?_,h5⟩
 have all:∀{l:List (List Key×V)} {m:List (List Key×Addr×Value)},KT H l m->∀x∈m,(tupleKind (zaH P w)).is h x.1 x.2.1:=by
  intro l m q
  induction q with
  |nil=>intro x hx;exact nomatch hx
  |@cons p q ps qs hq t ih =>
   intro x hx;rcases At.mp hx with e |hx
   .subst e;exact zfR ok (by rw[<- hq.1];exact hq.2.1)
   .exact ih x hx
 exact all r x hx
theorem dt_of{kvs:List (List Key × V)}(ok:HOk P w H h)(e:H a=some (.dT kvs)):kvs.length <= sizeLine /\ (a == Cm)=false /\
  ∃xs,KT H kvs xs/\h.DictOfH (tupleKind (zaH P w)) a xs:=dt_rd ok (.inl e)
end
noncomputable def DGet(H:Hp)(a:Addr)(y:V)(r:Option V):Prop :=
 (∃kvs k,Rd H a (.dK kvs)/\y=kV k/\r=valV kvs k)∨∃kvs k b,Rd H a (.dT kvs)/\y=.ref b/\H b=some (.tup (k.map kV))/\r=valV kvs k
noncomputable def DPut(H:Hp)(a:Addr)(y v:V)(H':Hp):Prop :=
 (∃kvs k,H a=some (.dK kvs)/\y=kV k/\kvs.length<sizeLine/\H'=upd H a (.dK (putK kvs k v))) ∨
 ∃kvs k b,H a=some (.dT kvs)/\y=.ref b/\H b=some (.tup (k.map kV))/\kvs.length<sizeLine/\H'=upd H a (.dT (putK kvs k v))
section
variable {X:Cx}{pins:List (Addr×Obj)}{σ:St}{H:Hp}{s:Ac}{a:Addr}{y v:V}{u r:Value}{o:Option V}{A:AO}{E:Value->Ac->Prop}
theorem Inv.big(I:Inv X pins σ H s):Cm<s.heap.objs.size:=by have h:AL<s.heap.objs.size:=(I.mod.glob.keeps I.bk).lt;exact Nat.lt_trans (by decide) h
theorem d_in{Q:Value -> Ac -> Prop}(hu:A.units + 1 < cLine)(I:Inv X pins σ H s)(g:DGet H a y o)(ry:RelV y u)(h:∀s', Inv X pins σ H s' -> Q (.bool o.isSome) s') :
  Ar (Az X.prog X.w) A (BR .In u (.ref a)) Q E s:=by
 rcases g with⟨kvs,k,e,ey,l⟩ |⟨kvs,k,b,e,ey,eb,l⟩
 .subst ey;obtain⟨z,hd,vs,rel,dd⟩:=dk_rd I.hok e;refine wpAny_in_of (kV_is ry) hd dd.mapOf ?_
  rw[<- (rel.val k).isSome_eq,<- l];exact h _ (I.tok _)
 .subst ey
  cases (show u=Ao b from ry)
  obtain⟨z,hd,xs,rel,dd⟩:=dt_rd I.hok e;refine wpAny_in_heap (DX hu) (zfR I.hok eb) hd dd ?_
  have q:=(rel.val k).isSome_eq;rw[Option.isSome_map]at q;rw[<- q,<- l];exact h _ (I.tok _)
theorem zlR{Q:Value -> Ac -> Prop}(hu:A.units + 1 < cLine)(I:Inv X pins σ H s)(g:DGet H a y o)(ry:RelV y u)(h:∀s', Inv X pins σ H s' -> Q (.bool (!o.isSome)) s') :
  Ar (Az X.prog X.w) A (BR .NotIn u (.ref a)) Q E s:=by
 rcases g with⟨kvs,k,e,ey,l⟩ |⟨kvs,k,b,e,ey,eb,l⟩
 .subst ey;obtain⟨z,hd,vs,rel,dd⟩:=dk_rd I.hok e;refine wpAny_notIn_of (kV_is ry) hd dd.mapOf ?_
  rw[<- (rel.val k).isSome_eq,<- l];exact h _ (I.tok _)
 .subst ey
  cases (show u=Ao b from ry)
  obtain⟨z,hd,xs,rel,dd⟩:=dt_rd I.hok e;refine wpAny_notIn_heap (DX hu) (zfR I.hok eb) hd dd ?_
  have q:=(rel.val k).isSome_eq;rw[Option.isSome_map]at q;rw[<- q,<- l];exact h _ (I.tok _)
theorem zgP{h':Heap}{t':Nat}{ob:HO}(I:Inv X pins σ H s)(mu:Mut (H a))(hs:Cq a s.heap h')(he:∃q, h'.get? a=some q)(new:ObjOk X.prog X.w (upd H a ob) h' a ob) :
  Inv X pins σ (upd H a ob) { s with heap:=h',toks:=t' } :=
 I.write (x:=a) (e:=a) mu (.inl rfl) (λb q hb z=>(hs.2 b hb).trans z) he new
theorem zmK{P:AF}{w:A5}{H':Hp}{h':Heap}{kvs:List (Key × V)}{vs:List (Key × Value)}(z:kvs.length <= sizeLine)(hd:(a == Cm)=false)(rel:KV kvs vs)(dd:h'.DictOf (zaH P w) a vs) :
  ObjOk P w H' h' a (.dK kvs):=⟨z,hd,vs,rel,dd⟩
theorem zjH{H':Hp}{Q:Unit -> Ac -> Prop}(hu:A.units + 1 < cLine)(I:Inv X pins σ H s)(g:DPut H a y v H')(ry:RelV y u)(rv:RelV v r)(h:∀s', Inv X pins σ H' s' -> Q () s') :
  Ar (Az X.prog X.w) A (setItem (.ref a) u r) Q E s:=by
 rcases g with⟨kvs,k,e,ey,l,eH⟩ |⟨kvs,k,b,e,ey,eb,l,eH⟩
 .subst ey eH;obtain⟨z,hd,vs,rel,dd⟩:=dk_of I.hok e;have hz:vs.length<=sizeLine:=by rw[<- rel.length];exact z
  have hl:(putK kvs k v).length<=sizeLine:=by have:=zbq kvs k v;lia
  refine wpAny_setItem_pairs (hsz:=hz) (kV_is ry) dd λh' dd' hs=>h _ ?_
  have he:∃q,h'.get? a=some q:=let ⟨q,_,_,hq,_⟩:=dd';⟨q,hq⟩
  exact zgP I (by rw[e];exact Cb) hs he (zmK hl hd (rel.put k rv) dd')
 .subst ey eH
  cases (show u=Ao b from ry)
  obtain⟨z,hd,xs,rel,dd⟩:=dt_of I.hok e;have hz:xs.length<=sizeLine:=by rw[<- DK rel];exact z
  have hl:(putK kvs k v).length<=sizeLine:=by have:=zbq kvs k v;lia
  refine wpAny_setItem_heap (hsz:=hz) (DX hu) (zfR I.hok eb) dd λh' dd' hs=>h _ ?_
  obtain⟨q,es,ep,hq,h2,h3,h4,_,h5⟩:=dd';refine zgP I (by rw[e];exact Cb) hs ⟨q,hq⟩ ⟨hl,hd,_,(rel.put k eb rv).keeps λc ys ec=>?_,q,es,ep,hq,h2,h3,h4,h5⟩;rw[zai (ne_of ec e (λz=>nomatch z))];exact ec
end
section
variable {X:Cx}{pins:List (Addr×Obj)}{σ:St}{H:Hp}{s:Ac}{a:Addr}{kvs:List (Key×V)}{k:Key}{u:Value}{A:AO}{E:Value->Ac->Prop}
end
noncomputable def NoSl(i:Expr):Prop:=∀ov iv,subscripted i false ov iv=operate [ov,iv] (getItem ov iv)
theorem zix{prog:AF}{w:A5}{A:AO}{E:Value -> Ac -> Prop}{s:Ac}{env:Env}{value slice:Expr}{pos:Pos}{T id:String}{Q:Value -> Ac -> Prop}
  (hl:typeLookup (.type T) "__getitem__" = pure (some (.builtin id))) (hs:NoSl slice)
  (h:Ar (Az prog w) A (eval value env) (λo s₁=>Ar (Az prog w) A (eval slice env) (λi s₂=>s₂.TypeIs o T/\Ar (Az prog w) A (getItem o i) Q E s₂) E s₁) E s) :
  Ar (Az prog w) A (eval (.Subscript value slice pos) env) Q E s:=by
 refine Subscript_ (Bv h (λo s₁ h₁=>Bv h₁ (λi s₂ h₂=>?_) λ_ _ x=>x) λ_ _ x=>x);obtain⟨hT,h₂⟩:=h₂;unfold subscriptTail;refine Aa ?_
 rw[getitemInPython_of_ne hT.not_modules];refine Aa (wpAny_specialOf hT hl ?_)
 have fin:Ar (Az prog w) A (subscripted slice false o i) (λr s₃=>Ar (Az prog w) A (letTemporaryGo value o r >>= λ_=>pure r) Q E s₃) E s₂:=by rw[hs o i];exact wpAny_operating (Bv h₂ (λr s₃ h₃=>Aa (wpAny_letTemporaryGo (Ah h₃))) λ_ _ x=>x)
 first
  |exact Ah (Aa fin)
  |exact Aa (Ah (Aa fin))
  |exact Aa fin
noncomputable def tDIn(ty td:TE):TE:=λσ H Q=>ty σ H λy H1=>td σ H1 λx H2=>∃a o,x=.ref a/\DGet H2 a y o/\Q (.bl o.isSome) H2
noncomputable def zll(ty td:TE):TE:=λσ H Q=>ty σ H λy H1=>td σ H1 λx H2=>∃a o,x=.ref a/\DGet H2 a y o/\Q (.bl (!o.isSome)) H2
noncomputable def sDPut(td ty tv:TE):TS:=λD σ H=>tv σ H λv H1=>td σ H1 λx H2=>ty σ H2 λy H3=>∃a H4,x=.ref a/\DPut H3 a y v H4/\D.nx σ H4
section
variable {X:Cx}{o i e value:Expr}{pos pos' tpos:Pos}{td ty tv:TE}
theorem zkY(hu:X.A.units+1<cLine)(hi:PE X i ty)(ho:PE X o td):PC X .In i o (tDIn ty td):=by
 intro pins s σ H Q I h;refine thn (hi pins s σ H _ I h) λiv s1 ⟨y,H1,I1,ry,q1⟩=>thn (ho pins s1 σ H1 _ I1 q1) λu s2 ⟨x,H2,I2,rx,a,ov,ex,g,q2⟩=>?_
 subst ex;obtain rfl:u=Ao a:=rx;exact d_in hu I2 g ry λs3 I3=>⟨.bl ov.isSome,H2,I3,rfl,q2⟩
theorem zfG(hu:X.A.units+1<cLine)(hi:PE X i ty)(ho:PE X o td):PC X .NotIn i o (zll ty td):=by
 intro pins s σ H Q I h;refine thn (hi pins s σ H _ I h) λiv s1 ⟨y,H1,I1,ry,q1⟩=>thn (ho pins s1 σ H1 _ I1 q1) λu s2 ⟨x,H2,I2,rx,a,ov,ex,g,q2⟩=>?_
 subst ex;obtain rfl:u=Ao a:=rx;exact zlR hu I2 g ry λs3 I3=>⟨.bl (!ov.isSome),H2,I3,rfl,q2⟩
theorem zi0(hu:X.A.units + 1 < cLine)(ho:PE X o td)(hi:PE X i ty)(hv:PE X value tv)(hs:swapsWith value (some (.Subscript o i pos')) pos.line X.env=pure false) :
  PS X (.Assign [.Subscript o i pos'] value pos) (sDPut td ty tv):=by
 intro pins s σ H D I h;refine wpAny_Assign_Subscript (thn (hv pins s σ H _ I h) λr s1 ⟨v,H1,I1,rv,q1⟩=>thn (ho pins s1 σ H1 _ I1 q1) λu s2 ⟨x,H2,I2,rx,q2⟩=>thn (hi pins s2 σ H2 _ I2 q2) λiv s3 ⟨y,H3,I3,ry,a,H4,ex,g,q3⟩=>?_) hs;subst ex;obtain rfl:u=Ao a:=rx;exact zjH hu I3 g ry rv λs4 I4=>⟨σ,H4,I4,q3⟩
end
theorem zkE {P:AF}{w:A5}{H:Hp}(h:Heap) (hb:Cm<h.objs.size):ObjOk P w H (h.push { cls:=.type "dict",data:=.dict #[] }) h.objs.size (.dT []) :=
 ⟨A6 _,beq_eq_false_iff_ne.mpr (Bx (AV hb)),[],.nil,_,#[],0,AB _ rfl,⟨rfl,rfl,rfl⟩,rfl,rfl,List.nodup_nil⟩
noncomputable def zl6:TE:=λ_ H Q=>∀p,H p=none->Q (.ref p) (upd H p (.dT []))
section
variable {X:Cx}{pos:Pos}
theorem zdv:PE X (.Dict [] [] pos) zl6:=λpins s σ H Q I h =>
 wpAny_Dict_empty ⟨.ref s.heap.objs.size,_,I.laid (a:=s.heap.objs.size) (o:=.dT []) (t':=s.toks) (λ_ _ q=>Ag _ q) (Aj _) (zkE s.heap I.big),rfl,h _ (I.hok.fresh (Aj _))⟩
end
structure M1 (X:Cx) (o:Expr) (m:Str) (apos:Pos) (e:Expr) (cpos:Pos):Prop where
 base:attributeBase o m X.env (eval o X.env)=eval o X.env
 few:((DH cpos (Bg [e] X.env)).all (λx=>!x.1) && (DN cpos (CL [] X.env)).all (λx=>x.1.isSome)
  && decide (([e]:List Expr).length+([]:List Keyword).length+(if ([]:List Keyword).isEmpty then 0 else 1)<30))=true
 line:(apos.endLine == cpos.line)=true
 trees:DH cpos (Bg [e] X.env)=[(false,eval e X.env)]
structure M2 (X:Cx) (o:Expr) (m:Str) (apos:Pos) (e f:Expr) (cpos:Pos):Prop where
 base:attributeBase o m X.env (eval o X.env)=eval o X.env
 few:((DH cpos (Bg [e,f] X.env)).all (λx=>!x.1) && (DN cpos (CL [] X.env)).all (λx=>x.1.isSome)
  && decide (([e,f]:List Expr).length+([]:List Keyword).length+(if ([]:List Keyword).isEmpty then 0 else 1)<30))=true
 line:(apos.endLine == cpos.line)=true
 trees:DH cpos (Bg [e,f] X.env)=[(false,eval e X.env),(false,eval f X.env)]
noncomputable def IsD(H:Hp)(a:Addr):Prop:=(∃kvs,Rd H a (.dK kvs))∨∃kvs,Rd H a (.dT kvs)
theorem zmF{X:Cx}{pins:List (Addr × Obj)}{σ : St}{H:Hp}{s:Ac}{a:Addr}(I:Inv X pins σ H s)(d:IsD H a) :
  s.TypeIs (.ref a) "dict" /\ (∀b,Ao a=.ref b->∃ob,s.heap.get? b=some ob/\ob.dict=none)/\(a == Cm)=false:=by
 rcases d with⟨kvs,e⟩ |⟨kvs,e⟩
 .obtain⟨_,hd,vs,_,dd⟩:=dk_rd I.hok e;refine⟨dd.typeIs,λb q=>?_,hd⟩
  cases q
  obtain⟨ob,_,_,h1,h2,_⟩:=dd;exact⟨ob,h1,h2.2.1⟩
 .obtain⟨_,hd,xs,_,dd⟩:=dt_rd I.hok e;refine⟨dd.typeIs,λb q=>?_,hd⟩
  cases q
  obtain⟨ob,_,_,h1,h2,_⟩:=dd;exact⟨ob,h1,h2.2.1⟩
section
variable {X:Cx}{pins:List (Addr×Obj)}{σ:St}{H:Hp}{s:Ac}{a:Addr}{y d:V}{u r:Value}{o:Option V}{A:AO}{E:Value->Ac->Prop}
end
section
variable {X:Cx}{o e f:Expr}{apos cpos:Pos}{td ty tx:TE}
end
section
variable {X:Cx}{pins:List (Addr×Obj)}{σ:St}{H:Hp}{s:Ac}{a:Addr}{kvs:List (Key×V)}{A:AO}{E:Value->Ac->Prop}
end
section
variable {X:Cx}{pins:List (Addr×Obj)}{σ:St}{H:Hp}{s:Ac}{a:Addr}{y:V}{u:Value}{A:AO}{E:Value->Ac->Prop}
end
end L2
namespace HT
open PySem PyProof.Rows
noncomputable def lexLt:List Int->List Int->Bool
 |[],[]=>false
 |[],_::_=>true
 |_::_,[]=>false
 |x::xs,y::ys=>if x=y then lexLt xs ys else decide (x<y)
theorem lexLt_cons(x y:Int)(xs ys:List Int):lexLt (x::xs) (y::ys)=if x=y then lexLt xs ys else decide (x<y):=rfl
theorem zfd:lexLt [] []=false:=rfl
theorem zef(y:Int)(ys:List Int):lexLt [] (y::ys)=true:=rfl
theorem zeg(x:Int)(xs:List Int):lexLt (x::xs) []=false:=rfl
theorem zkB(A:AO)(s:Ac)(a:Int)(t:Tok)(c:Int)(u:Tok):∃e,SeqAt.EqAt A s (.int a t) (.int c u) e/\(e=true ↔ a=c) :=
 ⟨(a == c),SeqAt.EqAt.int_int a t c u,by simp⟩
theorem zj3(A:AO)(s:Ac)(a:Int)(t:Tok)(c:Int)(u:Tok)(prog:AF)(w:A5)(E:Value -> Ac -> Prop)(Q:Value -> Ac -> Prop)(h:Q (.bool (decide (a < c))) s) :
  Ar (Az prog w) A (richCompare .Lt (.int a t) (.int c u)) Q E s :=
 (PyProof.Rows.lt_int h:Ar (Az prog w) A (BR .Lt (.int a t) (.int c u)) Q E s)
section
open PySem.SeqAt
open PySem.AutoSeq1 (wpAny_loadPart')
open PySem.MeetsSeq PySem.MeetsSeq2 PySem.MeetsSeq3
theorem zeJ(l b:Addr)(items items2:Array Value)(n n2:Nat)(dd dd2:Option Addr)(sl sl2:Array (Option Value))(ns ms:List Int)(hi:IntsAre items.toList ns)(hj:IntsAre items2.toList ms) :
  Meets (Builtin.«tuple.__lt__» ⟨[.ref l,.ref b],[]⟩)
   (λ_ R s=>s.heap.get? l=some { cls:=.type "tuple",dict:=dd,data:=.seq items n,slots:=sl }/\s.heap.get? b=some { cls:=.type "tuple",dict:=dd2,data:=.seq items2 n2,slots:=sl2 } /\
    R (.ok (.ret (.bool (lexLt ns ms)))) s) :=
 .of_wp λprog w A R s h=>by
  obtain⟨hp,g,d,tk,os⟩:=s;obtain⟨hl,hb,h⟩:=h;have f2:=AutoSeq1.sub_tuple_tuple;have z1:items.size=ns.length:=by rw[<- hi.length];simp
  have z2:items2.size=ms.length:=by rw[<- hj.length];simp
  wp_walk using De hl,De hb,wpAny_forIn_list _ (λrest b s'=>b.1=none/\s'=⟨hp,g,d,tk,os⟩/\∃(vs ws:List Value) (ns' ms':List Int),rest=vs.zip ws /\
   IntsAre vs ns'/\IntsAre ws ms'/\ns'.length+items2.size=ms'.length+items.size/\R (.ok (.ret (.bool (lexLt ns' ms')))) ⟨hp,g,d,tk,os⟩) _
  case turn =>
   rintro⟨y,x⟩ rest b s' ⟨hb',rfl,vs,ws,ns',ms',hz,hvi,hwi,hlen,hR⟩
   cases hvi with
   |nil=>rw[List.zip_nil_left]at hz;cases hz
   |cons a t hvi' =>
    cases hwi with
    |nil=>rw[List.zip_nil_right]at hz;cases hz
    |cons c u hwi' =>
     rw[List.zip_cons_cons]at hz;injection hz with hyx hrest;injection hyx with hy hx;subst hy hx;rw[lexLt_cons]at hR;simp only[Be]at hlen;obtain⟨e,he,hiff⟩:=zkB A.in1 ⟨hp,g,d,tk,os⟩ a t c u;refine Aa (he prog w _ _ ?_)
     cases e with
     |true =>
      rw[if_pos (hiff.mp rfl)]at hR
      wp_walk
      exact⟨rfl,rfl,_,_,_,_,hrest,hvi',hwi',by lia,hR⟩
     |false =>
      rw[if_neg (λq=>absurd (hiff.mpr q) Au)]at hR;have hri:=zj3 A.in1 ⟨hp,g,d,tk,os⟩ a t c u prog w
      wp_walk using hri
      exact⟨_,rfl,by simpa using hR⟩
  case fin =>
   rintro⟨b1,b2⟩ s' ⟨hb',rfl,vs,ws,ns',ms',hz,hvi,hwi,hlen,hR⟩;simp only at hb';subst hb'
   have hv:lexLt ns' ms'=decide (items.size<items2.size):=by
    cases hvi with
    |nil =>
     cases hwi with
     |nil =>
      simp only[Cg]at hlen;rw[zfd];exact (decide_eq_false (by lia)).symm
     |cons c u hw =>
      simp only[Cg,Be]at hlen;rw[zef];exact (decide_eq_true (by lia)).symm
    |cons a t hv =>
     cases hwi with
     |nil =>
      simp only[Cg,Be]at hlen;rw[zeg];exact (decide_eq_false (by lia)).symm
     |cons c u hw =>
      rw[List.zip_cons_cons]at hz
      cases hz
   rw[hv]at hR
   wp_walk
   exact⟨_,rfl,by simpa[Builtin.Tuple.tupleCompareSizes]using hR⟩
  case h =>
   exact⟨rfl,rfl,items.toList,items2.toList,ns,ms,rfl,hi,hj,by lia,h⟩
end
section
variable {prog:AF}{w:A5}{A:AO}{E:Value->Ac->Prop}{s:Ac}
theorem lt_tupInts{l b:Addr}{items items2:Array Value}{ns ms:List Int}{Q:Value -> Ac -> Prop}(hl:IsTup s.heap l items)(hb:IsTup s.heap b items2)(hi:IntsAre items.toList ns)(hj:IntsAre items2.toList ms)
  (hu:A.units<cLine) (h:Q (.bool (lexLt ns ms)) s):Ar (Az prog w) A (BR .Lt (.ref l) (.ref b)) Q E s:=by
 obtain⟨⟨cls,dd,data,sl⟩,ho,hc,n,hd⟩:=id hl;obtain⟨⟨cls2,dd2,data2,sl2⟩,ho2,hc2,n2,hd2⟩:=id hb;simp only at hc hd hc2 hd2;subst hc hd hc2 hd2
 exact richCompare_meets_room (op:=.Lt) ⟨_,ho,rfl⟩ ⟨_,ho2,rfl⟩ PySem.F.slot_tuple_lt PySem.F.entry_tuple_lt (PySem.F.args_tuple_lt_2 _ _) (zeJ l b items items2 n n2 dd dd2 sl sl2 ns ms hi hj)
  ⟨ho,ho2,show Dt (lexLt ns ms)≠Value.notImplemented/\Q (.bool (lexLt ns ms)) s from ⟨(λx=>nomatch x),h⟩⟩ hu
theorem cat_tup{t b:Addr}{vs ws:List Value}{Q:Value -> Ac -> Prop}(ht:IsTup s.heap t vs.toArray)(hb:IsTup s.heap b ws.toArray)(hv:vs ≠ [])
  (h1:ws=[]->Q (.ref t) s) (h2:ws≠[]->Q (.ref s.heap.objs.size) { s with heap:=s.heap.push { cls:=.type "tuple",data:=.seq (vs++ws).toArray } })
  (hsz:vs.length+ws.length<=sizeLine):Ar (Az prog w) A (CV .Add (.ref t) (.ref b)) Q E s:=by
 obtain⟨⟨cls,dd,data,sl⟩,ho,hc,n,hd⟩:=id ht;obtain⟨⟨cls2,dd2,data2,sl2⟩,ho2,hc2,n2,hd2⟩:=id hb;simp only at hc hd hc2 hd2;subst hc hd hc2 hd2;have e:vs.toArray++ws.toArray=(vs++ws).toArray:=by simp
 by_cases hw:ws=[]
 .exact concat_meets ⟨_, ho, rfl⟩ ⟨_, ho2, rfl⟩ noFill_tuple_add seq_tuple_add PySem.F.slot_tuple_add D1 (DP _ _)
   (tuple_addW1 t b vs.toArray ws.toArray n n2 dd dd2 sl sl2 (by simpa using hv) (by simp[hw])) ⟨ho,ho2,h1 hw⟩
 .refine concat_meets ⟨_, ho, rfl⟩ ⟨_, ho2, rfl⟩ noFill_tuple_add seq_tuple_add PySem.F.slot_tuple_add D1 (DP _ _)
   (tuple_addW2 t b vs.toArray ws.toArray n n2 dd dd2 sl sl2 (by simpa using hv) (by simpa using hw) (by rw[As,As];exact hsz)) ⟨ho,ho2,?_⟩
  rw[e];exact h2 hw
noncomputable def sIx(n d:Nat):Option Int->Nat
 |none=>d
 |some v=>if v<0 then (v+(n:Int)).toNat else min v.toNat n
theorem sIx_nat(n d k:Nat):sIx n d (some (k:Int))=min k n:=by show (if (k:Int)<0 then ((k:Int)+(n:Int)).toNat else min (k:Int).toNat n)=min k n;rw[if_neg (by lia),CW]
theorem zmg(n d:Nat)(hd:d<=n)(o:Option Int):sIx n d o<=n:=by
 cases o with
 |none=>exact hd
 |some v =>
  show (if v<0 then (v+(n:Int)).toNat else min v.toNat n)<=n
  by_cases hv:v<0
  .rw[if_pos hv];lia
  .rw[if_neg hv];exact Nat.min_le_right _ _
theorem zjL(v:Int)(n d:Nat):(if v<0 then max (v+(n:Int)) 0 else min v (n:Int))=((sIx n d (some v):Nat):Int):=by
 show (if v<0 then max (v+(n:Int)) 0 else min v (n:Int))=(((if v<0 then (v+(n:Int)).toNat else min v.toNat n):Nat):Int)
 by_cases hv:v<0
 .simp only[if_pos hv];lia
 .simp only[if_neg hv];lia
theorem zie(lo hi:Option Int)(n:Nat):DF lo hi 1 (n:Int)=(((sIx n 0 lo:Nat):Int),((sIx n n hi:Nat):Int)):=by
 have h1:¬ ((1:Int)<0):=by lia
 unfold DF;simp only[h1,if_false];refine Prod.ext ?_ ?_
 .cases lo with
  |none=>rfl
  |some v=>exact zjL v n 0
 .cases hi with
  |none=>rfl
  |some v=>exact zjL v n n
theorem zhU(i j:Nat):CS (i:Int) (j:Int) 1=j-i:=by
 unfold CS;have h1:(1:Int) > 0:=by lia
 simp only[h1,if_true,Int.ediv_one];split <;> lia
theorem zeo{v:Value}{o:Option Int}{Q:Option Int->Ac->Prop}(p:IsPart v o)(h:Q o s):Ar (Az prog w) A (Builtin.Slice.slicePartIndex v) Q E s:=by
 cases p with
 |none=>exact slicePart_none h
 |int i t=>exact slicePart_int h
theorem zb9{sl:Addr}{vl vu:Value}{lo hi:Option Int}{n:Nat}{Q:Int × Int × Nat -> Ac -> Prop}(hs:s.heap.IsSliceOf sl vl vu .none)(pl:IsPart vl lo)(pu:IsPart vu hi)
  (h:Q (((sIx n 0 lo:Nat):Int),1,sIx n n hi-sIx n 0 lo) s):Ar (Az prog w) A (Builtin.Slice.sliceApplied (.ref sl) (pure (n:Int))) Q E s:=by
 obtain⟨os,hos,hcs,hds⟩:=id hs;unfold Builtin.Slice.sliceApplied Builtin.Slice.sliceFields;refine Aa (Aa (D2 hos hds (x:=vl) rfl (Aa (D2 hos hds (x:=vu) rfl (Aa (D2 hos hds (x:=.none) rfl (Ah ?_)))))));refine Aa (slicePart_none ?_);show Ar _ _ (if ((1:Int) == 0)=true then _ else _) _ _ s;rw[if_neg (by decide)];refine Aa (zeo pl (Aa (zeo pu (Aa (Ah ?_)))));show Ar _ _ (match DF lo hi 1 (n:Int) with | (lo,hi)=>pure (lo,(1:Int),CS lo hi 1)) _ _ s;rw[zie lo hi n];show Ar _ _ (pure (((sIx n 0 lo:Nat):Int),(1:Int),CS ((sIx n 0 lo:Nat):Int) ((sIx n n hi:Nat):Int) 1)) _ _ s;rw[zhU];exact Ah h
theorem zj9(xs:Array Value)(i k:Nat):((BD k).filterMap λ(m:Nat)=>xs[((i:Int)+(m:Int)*1).toNat]?).toArray=((xs.toList.drop i).take k).toArray:=by
 have e:(λ(m:Nat)=>xs[((i:Int)+(m:Int)*1).toNat]?)=λm=>xs[i+m]?:=by
  funext m
  have:((i:Int)+(m:Int)*1).toNat=i+m:=by lia
  rw[this]
 rw[e];have:=pick_run xs i k;rw[B6]at this;have e2:((λx=>xs[x]?) ∘ λx=>i+x)=λm=>xs[i+m]?:=rfl
 rw[e2]at this;rw[this]
theorem getItem_tuple_cut{t sl:Addr}{items:Array Value}{vl vu:Value}{lo hi:Option Int}{Q:Value -> Ac -> Prop}(ht:IsTup s.heap t items)(hs:s.heap.IsSliceOf sl vl vu .none)(pl:IsPart vl lo)(pu:IsPart vu hi)
  (hw:¬ (sIx items.size 0 lo=0/\sIx items.size items.size hi=items.size))
  (h:Q (.ref s.heap.objs.size) { s with heap:=s.heap.push { cls:=.type "tuple",data:=.seq ((items.toList.drop (sIx items.size 0 lo)).take (sIx items.size items.size hi-sIx items.size 0 lo)).toArray } })
  (hsz:items.size<=sizeLine):Ar (Az prog w) A (getItem (.ref t) (.ref sl)) Q E s:=by
 have htake:sizeOk (.seq ((items.toList.drop (sIx items.size 0 lo)).take (sIx items.size items.size hi-sIx items.size 0 lo)).toArray):=by show ((items.toList.drop (sIx items.size 0 lo)).take (sIx items.size items.size hi-sIx items.size 0 lo)).toArray.size<=sizeLine;rw[As,AT,Co,AJ];lia
 have hj:sIx items.size items.size hi<=items.size:=zmg _ _ (Aj _) hi;obtain⟨os,hos,hcs,hds⟩:=id hs;have hTs:s.TypeIs (.ref sl) "slice":=⟨os,hos,hcs⟩;unfold getItem
 try with_reducible refine Bw ?_
 first |refine Aa (Ah ?_) |skip
 refine Aa (wpAny_sequenceKey ht.typeIs (by decide) ?_)
 refine Aa (C6 (name:=Aq "__getitem__") ht.typeIs BJ
  (DC BJ ht.typeIs entry_tuple_getitem ?_ (args_tuple_getitem _ _)))
 show Ar _ _ (Builtin.Tuple.tupleItemsOf (.ref t) >>= _) _ _ s;refine Aa (tupleItemsOf_ ht ?_);refine Aa (wpAny_typeOf hTs ?_);rw[if_pos (by decide)];refine Aa (zb9 hs pl pu ?_)
 have hno:¬ ((((sIx items.size 0 lo:Nat):Int) == 0 && (1:Int) == 1 && (sIx items.size items.size hi-sIx items.size 0 lo) == items.size)=true):=by intro q;rw[A3,A3]at q;have q1:((sIx items.size 0 lo:Nat):Int)=0:=eq_of_beq q.1.1;have q2:sIx items.size items.size hi-sIx items.size 0 lo=items.size:=eq_of_beq q.2;exact hw ⟨by lia,by lia⟩
 show Ar _ _ (if (((sIx items.size 0 lo:Nat):Int) == 0 && (1:Int) == 1 && (sIx items.size items.size hi-sIx items.size 0 lo) == items.size)=true then _ else _) _ _ s;rw[if_neg hno,zj9]
 first
  |exact Aa (m:=C1 _) (BW (Ah ⟨_,rfl,Ah h⟩) htake)
  |exact Aa (m:=C1 _) (BW (Aa (Ah (Ah ⟨_,rfl,Ah h⟩))) htake)
  |exact Aa (Aa (m:=C1 _) (BW (Ah (Ah ⟨_,rfl,Ah h⟩)) htake))
  |exact Aa (Aa (m:=C1 _) (BW (Ah ⟨_,rfl,Ah h⟩) htake))
end
end HT
namespace L2
open PySem PySem.Spec PyProof.Rows
noncomputable abbrev TO:=St->Hp->(Option Int->Hp->Prop)->Prop
noncomputable def PO(X:Cx)(e:Option Expr)(t:TO):Prop :=
 ∀(pins:List (Addr×Obj)) (s:Ac) (σ:St) (H:Hp) (Q:Option Int->Hp->Prop),Inv X pins σ H s->t σ H Q ->
  Ar (Az X.prog X.w) X.A (evalPart e X.env) (λu s'=>∃o H',Inv X pins σ H' s'/\IsPart u o/\Q o H') X.xe s
noncomputable def zlk:TO:=λ_ H Q=>Q none H
noncomputable def tPart(t:TE):TO:=λσ H Q=>t σ H λx H1=>∃i,x=.int i/\Q (some i) H1
theorem zew{ns:List Int}:∀{us:List Value},Vals (ns.map V.int) us->IntsAre us ns:=by
 induction ns with
 |nil=>intro us r;rw[List.map_nil]at r;cases r;exact .nil
 |cons n ns ih =>
  intro us r;rw[BA]at r
  cases r with
  |cons r1 r2 =>
   obtain⟨t,e⟩:=r1;subst e;exact .cons n t (ih r2)
section
variable {X:Cx}{e:Expr}{te:TE}{lo hi:Option Expr}{tl th:TO}{pos p2:Pos}
theorem zbQ:PO X none zlk:=by intro pins s σ H Q I h;rw[evalPart_none];exact Ah ⟨none,H,I,.none,h⟩
theorem zbi(h:PE X e te):PO X (some e) (tPart te):=by
 intro pins s σ H Q I hw;rw[evalPart_some];refine thn (h pins s σ H _ I hw) λu s1 ⟨x,H1,I1,r1,q1⟩=>?_
 obtain⟨i,rfl,q⟩:=q1;obtain⟨t,rfl⟩:=r1;exact⟨some i,H1,I1,.int i t,q⟩
noncomputable def SlR(X:Cx)(r:V->Option Int->Option Int->Hp->VK->Prop):Prop :=
 ∀(pins:List (Addr×Obj)) (s:Ac) (σ:St) (H:Hp) (x:V) (v vl vu:Value) (lo hi:Option Int) (sl:Addr) (Q:VK),Inv X pins σ H s->RelV x v->s.heap.IsSliceOf sl vl vu .none->IsPart vl lo->IsPart vu hi->r x lo hi H Q ->
  ∃T id,typeLookup (.type T) "__getitem__" = pure (some (.builtin id))/\s.TypeIs v T/\Ar (Az X.prog X.w) X.A (getItem v (.ref sl)) (EP X pins σ Q) X.xe s
noncomputable def tSl(r:V->Option Int->Option Int->Hp->VK->Prop)(te:TE)(tl th:TO):TE:=λσ H Q=>te σ H λx H1=>tl σ H1 λl H2=>th σ H2 λu H3=>r x l u H3 Q
theorem za9{r:V->Option Int->Option Int->Hp->VK->Prop}(hr:SlR X r)(he:PE X e te)(hl:PO X lo tl)(hu:PO X hi th):PE X (.Subscript e (.Slice lo hi none p2) pos) (tSl r te tl th):=by
 intro pins s σ H Q I h;refine Subscript_ (thn (he pins s σ H _ I h) λv s1 ⟨x,H1,I1,r1,q1⟩=>?_);refine wpAny_Slice (thn (hl pins s1 σ H1 _ I1 q1) λvl s2 ⟨l,H2,I2,pl,q2⟩=>thn (hu pins s2 σ H2 _ I2 q2) λvu s3 ⟨u,H3,I3,pu,q3⟩=>?_);rw[evalPart_none];refine Ah ?_
 have I4:Inv X pins σ H3 { s3 with heap:=s3.heap.push { cls:=.type "slice",data:=.fields #[vl,vu,.none] } }:=I3.kept (t':=s3.toks) λb ob q=>Ag _ q
 obtain⟨T,id,hT,ht,hg⟩:=hr pins { s3 with heap:=s3.heap.push { cls:=.type "slice",data:=.fields #[vl,vu,.none] } } σ H3 x v vl vu l u s3.heap.objs.size Q I4 r1 (Heap.IsSliceOf.new ..) pl pu q3;show Ar (Az X.prog X.w) X.A (subscriptTail e (.Slice lo hi none p2) v (.ref s3.heap.objs.size)) (EP X pins σ Q) X.xe { s3 with heap:=s3.heap.push { cls:=.type "slice",data:=.fields #[vl,vu,.none] } };exact tail_any (ops:=[.ref s3.heap.objs.size,v]) ht hT hg (by with_unfolding_all rfl)
noncomputable def cutV(xs:List V)(lo hi:Option Int):List V:=(xs.drop (HT.sIx xs.length 0 lo)).take (HT.sIx xs.length xs.length hi-HT.sIx xs.length 0 lo)
theorem zcO(xs:List V)(lo hi:Option Int):(cutV xs lo hi).length<=xs.length:=by unfold cutV;rw[AT,Co];lia
noncomputable def rSlT(K:W.Frag):V->Option Int->Option Int->Hp->VK->Prop:=λx lo hi H Q=>∃a xs,x=.ref a/\SqT K H a xs /\
 ¬ (HT.sIx xs.length 0 lo=0/\HT.sIx xs.length xs.length hi=xs.length)/\∀p,H p=none->Q (.ref p) (upd H p (.tup (cutV xs lo hi)))
theorem zma:SlR X (rSlT X.K):=by
 intro pins s σ H x v vl vu lo hi sl Q I rx hs pl pu h;obtain⟨a,xs,rfl,hx,hw,q⟩:=h
 cases rx
 obtain⟨its,r,ht,hz⟩:=I.tuple hx;have hlen:its.toArray.size=xs.length:=by rw[As];exact r.length.symm
 refine⟨"tuple",_,BJ.lookup,ht.typeIs,?_⟩;refine HT.getItem_tuple_cut ht hs pl pu (by rw[hlen];exact hw) ?_ (by rw[hlen];exact hz)
 rw[hlen];refine⟨.ref s.heap.objs.size,_,I.laid (t':=s.toks) (o:=.tup (cutV xs lo hi)) (λb ob q=>Ag _ q) (Aj _) ?_,rfl,q _ (I.hok.fresh (Aj _))⟩;exact⟨AN (zcO xs lo hi) hz,_,(r.drop (HT.sIx xs.length 0 lo)).take (HT.sIx xs.length xs.length hi-HT.sIx xs.length 0 lo),IsTup.new _ _⟩
noncomputable def rCatT(K:W.Frag):R2:=λx y H Q=>∃a b xs ys,x=.ref a/\y=.ref b/\SqT K H a xs/\SqT K H b ys/\xs≠[]/\xs.length+ys.length<=sizeLine /\
 (ys=[]->Q (.ref a) H)/\(ys≠[]->∀p,H p=none->Q (.ref p) (upd H p (.tup (xs++ys))))
theorem Vals.nil_iff{xs:List V}{us:List Value}(r:Vals xs us):us=[] ↔ xs=[]:=by
 cases r with
 |nil=>simp
 |cons _ _=>simp
theorem zeW:OpR X (CV .Add) (rCatT X.K):=by
 intro pins s σ H x y v u Q I rx ry h;obtain⟨a,b,xs,ys,rfl,rfl,ha,hb,hx,hz,q1,q2⟩:=h
 cases rx
 cases ry
 obtain⟨its,r1,p1,_⟩:=I.tuple ha;obtain⟨its2,r2,p2,_⟩:=I.tuple hb;refine HT.cat_tup p1 p2 (λz=>hx (r1.nil_iff.mp z)) (λz=>⟨.ref a,H,I,rfl,q1 (r2.nil_iff.mp z)⟩) (λz=>?_) (by rw[<- r1.length,<- r2.length];exact hz);refine⟨.ref s.heap.objs.size,_,I.laid (t':=s.toks) (o:=.tup (xs++ys)) (λb ob q=>Ag _ q) (Aj _) ?_,rfl,q2 (λw=>z (r2.nil_iff.mpr w)) _ (I.hok.fresh (Aj _))⟩;exact⟨by rw[Af];exact hz,_,r1.append r2,IsTup.new _ _⟩
end
noncomputable def ixN(n:Nat)(i:Int):Option Nat:=if 0<=i then (if i<n then some i.toNat else none) else if -(n:Int)<=i then some (i+n).toNat else none
noncomputable def atI{α:Type}(xs:List α)(i:Int):Option α:=(ixN xs.length i).bind λj=>xs[j]?
theorem zlK{n:Nat}{i:Int}{j:Nat}(h:ixN n i=some j):seqIndex? i n=some j/\j<n/\-(n:Int)<=i/\i<n:=by
 unfold ixN at h
 by_cases h0:0<=i
 .rw[if_pos h0]at h
  by_cases h1:i<n
  .rw[if_pos h1]at h;have e:i.toNat=j:=A9 h;exact⟨by rw[seqIndex_of h0 h1,e],by lia,by lia,h1⟩
  .rw[if_neg h1]at h;cases h
 .rw[if_neg h0]at h
  by_cases h1:-(n:Int)<=i
  .rw[if_pos h1]at h;have e:(i+n).toNat=j:=A9 h;exact⟨by rw[seqIndex_neg (by lia) h1,e],by lia,h1,by lia⟩
  .rw[if_neg h1]at h;cases h
theorem zjO{α:Type}{xs:List α}{i:Int}{v:α}(h:atI xs i=some v):∃j,seqIndex? i xs.length=some j/\xs[j]?=some v/\j<xs.length/\-(xs.length:Int)<=i/\i<xs.length:=by
 unfold atI at h
 cases e:ixN xs.length i with
 |none=>rw[e]at h;cases h
 |some j =>
  rw[e]at h;obtain⟨h1,h2,h3,h4⟩:=zlK e;exact⟨j,h1,h,h2,h3,h4⟩
theorem zaz{α:Type}{xs:List α}{j:Nat}{v:α}(h:xs[j]?=some v):atI xs (j:Int)=some v:=by
 have hj:j<xs.length:=(Ad.mp h).1
 have e:ixN xs.length (j:Int)=some j:=by unfold ixN;rw[if_pos (by lia),if_pos (by lia)];simp
 unfold atI;rw[e];exact h
noncomputable def zlX(b:Expr):Prop:=∀o i,subscripted b false o i=operate [o,i] (getItem o i)
noncomputable def IxR(X:Cx)(r:R2):Prop :=
 ∀(value slice:Expr) (pins:List (Addr×Obj)) (s:Ac) (σ:St) (H:Hp) (x y:V) (v u:Value) (Q:VK),Inv X pins σ H s->RelV x v->RelV y u->r x y H Q ->
  subscripted slice false v u=operate [v,u] (getItem v u)->Ar (Az X.prog X.w) X.A (subscriptTail value slice v u) (EP X pins σ Q) X.xe s
noncomputable def MtR(X:Cx)(id:String)(r:V->List V->Hp->VK->Prop):Prop :=
 ∀(pins:List (Addr×Obj)) (s:Ac) (σ:St) (H:Hp) (x:V) (xs:List V) (v:Value) (us:List Value) (Q:VK),Inv X pins σ H s->RelV x v->Vals xs us->r x xs H Q ->
  Ar (Az X.prog X.w) X.A (call (.builtin id) (v::us)) (EP X pins σ Q) X.xe s
section
variable {X:Cx}{a b:Expr}{ta tb:TE}{pos:Pos}
theorem pe_ix{r:R2}(hr:IxR X r)(ha:PE X a ta)(hb:PE X b tb)(hs:zlX b):PE X (.Subscript a b pos) (tOp r ta tb):=by intro pins s σ H Q I h;exact Subscript_ (binT ha hb I h λv u s2 x y H2 I2 rx ry q=>hr a b pins s2 σ H2 x y v u Q I2 rx ry q (hs _ _))
noncomputable def rIxL(K:W.Frag):R2:=λx y H Q=>∃p xs i v,x=.ref p/\y=.int i/\SqL K H p xs/\atI xs i=some v/\Q v H
noncomputable def rIxT(K:W.Frag):R2:=λx y H Q=>∃p xs i v,x=.ref p/\y=.int i/\SqT K H p xs/\atI xs i=some v/\Q v H
theorem zaB:IxR X (rIxL X.K):=by
 intro value slice pins s σ H x y v u Q I rx ry h hs;obtain⟨p,xs,i,z,rfl,rfl,hq,he,q⟩:=h
 cases rx
 obtain⟨t,rfl⟩:=ry;obtain⟨its,r,pl,hz⟩:=I.list hq;obtain⟨j,h1,h2,h3,h4,h5⟩:=zjO he;obtain⟨w,ew,rw'⟩:=r.get h2;have hl:=r.length;have hn:=zhu;have fin:EP X pins σ Q w s:=⟨z,H,I,rw',q⟩
 by_cases h0:0<=i
 .have hj:i.toNat=j := by rw[seqIndex_of h0 h5]at h1;exact A9 h1
  exact item_listR pl.isList h0 (by lia) (by rw[hj];simpa using ew) fin hs
 .have hj:(i + (its.toArray.size:Int)).toNat=j := by rw[seqIndex_neg (by lia) h4]at h1;rw[As,<- hl];exact A9 h1
  exact subscriptTail_builtinR (x:=w) pl.isList.typeIs slot_list_getitem.lookup
   (wpAny_getItem_list_neg (Q:=λr s'=>r=w/\EP X pins σ Q r s') pl.isList (by lia) (by rw[As] <;> lia) (by lia) (by rw[hj];simpa using ew) ⟨rfl,fin⟩) hs
theorem zbw:IxR X (rIxT X.K):=by
 intro value slice pins s σ H x y v u Q I rx ry h hs;obtain⟨p,xs,i,z,rfl,rfl,hq,he,q⟩:=h
 cases rx
 obtain⟨t,rfl⟩:=ry;obtain⟨its,r,pl,hz⟩:=I.tuple hq;obtain⟨j,h1,h2,h3,h4,h5⟩:=zjO he;obtain⟨w,ew,rw'⟩:=r.get h2;have hl:=r.length;have hn:=zhu;have fin:EP X pins σ Q w s:=⟨z,H,I,rw',q⟩
 exact subscriptTail_builtinR (x:=w) pl.typeIs slot_tuple_getitem.lookup
  (getItem_tuple (j:=j) (Q:=λr s'=>r=w/\EP X pins σ Q r s') pl (by lia) (by lia) (by rw[As,<- hl];exact h1) (by simpa using ew) ⟨rfl,fin⟩) hs
theorem zfz(lo hi:Option Int)(n:Nat):(D3 lo hi none n).1=((HT.sIx n 0 lo:Nat):Int)/\(D3 lo hi none n).2.1=((HT.sIx n n hi:Nat):Int)/\(D3 lo hi none n).2.2=1:=by
 refine⟨?_,?_,rfl⟩
 .cases lo with
  |none=>simp[D3,HT.sIx]
  |some i =>
   simp only[D3,HT.sIx,Option.getD_none,show (1:Int) > 0 by decide,if_true]
   by_cases h:i<0
   .simp only[h,if_true] <;> lia
   .simp only[h,if_false] <;> lia
 .cases hi with
  |none=>simp[D3,HT.sIx]
  |some i =>
   simp only[D3,HT.sIx,Option.getD_none,show (1:Int) > 0 by decide,if_true]
   by_cases h:i<0
   .simp only[h,if_true] <;> lia
   .simp only[h,if_false] <;> lia
theorem zeP(its:List Value)(lo hi:Option Int):slicePick its.toArray lo hi none=((its.drop (HT.sIx its.length 0 lo)).take (HT.sIx its.length its.length hi-HT.sIx its.length 0 lo)).toArray:=by obtain⟨h1,h2,h3⟩:=zfz lo hi its.toArray.size;unfold slicePick;rw[h1,h2,h3];simp only[sliceRange_one,pick_run,As] <;> rfl
noncomputable def rSlL(K:W.Frag):V->Option Int->Option Int->Hp->VK->Prop:=λx lo hi H Q=>∃a xs,x=.ref a/\SqL K H a xs/\∀p,H p=none->Q (.ref p) (upd H p (.lst (cutV xs lo hi)))
theorem zdE:SlR X (rSlL X.K):=by
 intro pins s σ H x v vl vu lo hi sl Q I rx hs pl pu h;obtain⟨a,xs,rfl,hx,q⟩:=h
 cases rx
 obtain⟨its,r,ht,hz⟩:=I.list hx;have hlen:=r.length;refine⟨"list",_,slot_list_getitem.lookup,ht.isList.typeIs,?_⟩;refine wpAny_getItem_list_slice ht.isList hs pl pu .none (by simp) ?_ (by rw[As] <;> lia)
 rw[zeP,<- hlen];refine⟨.ref s.heap.objs.size,_,I.laid (t':=s.toks) (o:=.lst (cutV xs lo hi)) (λb ob q=>Ag _ q) (Aj _) ?_,rfl,q _ (I.hok.fresh (Aj _))⟩;exact⟨AN (zcO xs lo hi) hz,_,0,(r.drop (HT.sIx xs.length 0 lo)).take (HT.sIx xs.length xs.length hi-HT.sIx xs.length 0 lo),AB _ rfl⟩
theorem zap:CallR X (.builtin "len") (λxs H Q=>∃p ys,xs=[.ref p]/\(SqL X.K H p ys∨SqT X.K H p ys)/\Q (.int ys.length) H):=by
 intro pins s σ H xs us Q I r h;obtain⟨p,ys,rfl,hq,q⟩:=h;obtain⟨u,rfl,rx⟩:=vals1 r
 cases rx
 have hn:=zhu;rcases hq with hq |hq
 .obtain⟨its,r',pl,hz⟩:=I.list hq;have hlen:=r'.length;exact Calls.call_len_list pl.isList (by simp only[As] <;> lia) ⟨.int ys.length,H,I.tok _,⟨s.toks+1,by rw[As,hlen]⟩,q⟩
 .obtain⟨its,r',pl,hz⟩:=I.tuple hq;have hlen:=r'.length;exact len_tuple pl (by simp only[As] <;> lia) ⟨.int ys.length,H,I.tok _,⟨s.toks+1,by rw[As,hlen]⟩,q⟩
theorem zdm:CallR X (.type "list") (λxs H Q=>∃p ys,xs=[.ref p]/\(SqL X.K H p ys∨SqT X.K H p ys)/\∀l,H l=none->Q (.ref l) (upd H l (.lst ys))):=by
  intro pins s σ H xs us Q I r h;obtain⟨p,ys,rfl,hq,q⟩:=h;obtain⟨u,rfl,rx⟩:=vals1 r
  cases rx
  have fin:∀(its:List Value), Vals ys its -> ys.length <= sizeLine -> ∀(h':Heap) (c':Nat), (∀b o', s.heap.get? b=some o' -> h'.get? b=some o') ->
      h'.get? s.heap.objs.size=some { cls:=.type "list",dict:=none,data:=.seq its.toArray c',slots:=#[] }->EP X pins σ Q (.ref s.heap.objs.size) { s with heap:=h' }:=λits r' hz h' c' kp e =>
    ⟨.ref s.heap.objs.size,_,I.laid (t':=s.toks) kp (Aj _) (show ObjOk X.prog X.w _ h' _ (.lst ys) from ⟨hz,its,c',r',e⟩),rfl,q _ (I.hok.fresh (Aj _))⟩
  rcases hq with hq |hq
  . obtain⟨its,r',pl,hz⟩:=I.list hq;have hlen:=r'.length;obtain⟨o,ho,hc,n,hd⟩:=pl.isList;exact call_list_seq p (.inl rfl) ho hc hd (λh' c' kp e=>fin its r' hz h' c' kp e) (by simp only[As] <;> lia)
  . obtain⟨its,r',pl,hz⟩:=I.tuple hq;have hlen:=r'.length;obtain⟨o,ho,hc,n,hd⟩:=pl;exact call_list_seq p (.inr rfl) ho hc hd (λh' c' kp e=>fin its r' hz h' c' kp e) (by simp only[As] <;> lia)
theorem zfn:CallR X (.type "tuple") (λxs H Q=>∃p ys,xs=[.ref p]/\((SqL X.K H p ys/\∀l,H l=none->Q (.ref l) (upd H l (.tup ys)))∨(SqT X.K H p ys/\Q (.ref p) H))):=by
 intro pins s σ H xs us Q I r h;obtain⟨p,ys,rfl,h⟩:=h;obtain⟨u,rfl,rx⟩:=vals1 r
 cases rx
 rcases h with⟨hq,q⟩ |⟨hq,q⟩
 .obtain⟨its,r',pl,hz⟩:=I.list hq;have hlen:=r'.length;refine call_tuple_list pl.isList (λh' kp=>?_) (by simp only[As] <;> lia);have I1:Inv X pins σ H { s with heap:=h' }:=I.kept (t':=s.toks) kp
  have I2:Inv X pins σ (upd H h'.objs.size (.tup ys)) { s with heap:=h'.push { cls:=.type "tuple",data:=.seq its.toArray } } :=
   I1.laid (t':=s.toks) (λb o e=>Ag _ e) (Aj _) (show ObjOk X.prog X.w _ _ _ (.tup ys) from ⟨hz,its,r',IsTup.new _ _⟩)
  exact⟨.ref h'.objs.size,_,I2,rfl,q _ (I1.hok.fresh (Aj _))⟩
 .obtain⟨its,r',pl,hz⟩:=I.tuple hq;exact call_tuple_same pl ⟨.ref p,H,I,rfl,q⟩
noncomputable def tyV(K:W.Frag)(T:String)(x:V)(H:Hp):Prop:=match x with
  |.str _=>T = "str"
  |.int _=>T = "int"
  |.ref p => (T = "list" /\ ∃xs, SqL K H p xs) ∨ (T = "tuple" /\ ∃o, K.lookup p=some o /\ o.cls = .type "tuple" /\ o.dict=none) ∨
      (T = "dict" /\ ((∃kvs,H p=some (.dK kvs))∨∃kvs,H p=some (.dT kvs)))∨(T = "set" /\ ∃S n,H p=some (.set S n))
  |_=>False
theorem zlZ{pins:List (Addr × Obj)}{σ : St}{H:Hp}{s:Ac}{T:String}{x:V}{v:Value}(I:Inv X pins σ H s)(r:RelV x v)(ty:tyV X.K T x H) :
  s.TypeIs v T/\∀a,v=.ref a->∃ob,s.heap.get? a=some ob/\ob.dict=none:=by
 cases x with
 |str z =>
  obtain⟨t,rfl⟩:=r
  cases (show T = "str" from ty)
  exact⟨typeIs_str s z t,λ_ e=>nomatch e⟩
 |int i =>
  obtain⟨t,rfl⟩:=r
  cases (show T = "int" from ty)
  exact⟨typeIs_int s i t,λ_ e=>nomatch e⟩
 |ref p =>
  cases r
  rcases ty with⟨rfl,xs,hq⟩ |⟨rfl,o,hk,hc,hd⟩ |⟨rfl,hk⟩ |⟨rfl,S,n,hk⟩
  .obtain⟨its,_,pl,_⟩:=I.list hq;refine⟨pl.isList.typeIs,λa e=>?_⟩
   cases e
   obtain⟨o,n,e,c,hd,_⟩:=pl;exact⟨o,e,hd⟩
  .refine⟨⟨o,I.kIn p o hk,hc⟩,λa e=>?_⟩
   cases e
   exact⟨o,I.kIn _ o hk,hd⟩
  .have z:∃o, s.heap.get? p=some o /\ o.ExactDict := by
    rcases hk with⟨kvs,hk⟩ |⟨kvs,hk⟩
    .obtain⟨_,_,_,_,o,_,_,e,ex,_⟩:=I.hok p _ hk;exact⟨o,e,ex⟩
    .obtain⟨_,_,_,_,o,_,_,e,ex,_⟩:=I.hok p _ hk;exact⟨o,e,ex⟩
   obtain⟨o,e,ex⟩:=z;refine⟨⟨o,e,ex.1⟩,λa e2=>?_⟩
   cases e2
   exact⟨o,e,ex.2.1⟩
  .obtain⟨o,_,_,_,e,ex,_⟩:=I.hok p _ hk;refine⟨⟨o,e,ex.1⟩,λa e2=>?_⟩
   cases e2
   exact⟨o,e,ex.2.1⟩
 |_=>exact Bu ty
noncomputable def tBM(K:W.Frag)(T:String)(r:V->List V->Hp->VK->Prop)(to:TE)(t:TA):TE:=λσ H Q=>to σ H λx H1=>tyV K T x H1/\t σ H1 λxs H2=>r x xs H2 Q
variable {o e:Expr}{es:List Expr}{to:TE}{t:TA}{name:Str}{apos cpos:Pos}{T id:String}{r:V->List V->Hp->VK->Prop}
theorem pe_bm (pa:PlainAttrs T) (slot:Slot T name id) (hty:typeOf (.builtin id)=pure (.type "method_descriptor")) (hm:MtR X id r) (ho:PE X o to) (ha:PA X (e :: es) t)
  (hbase:attributeBase o name X.env (eval o X.env)=eval o X.env:=by rfl)
  (hfew:((DH cpos (Bg (e::es) X.env)).all (λx=>!x.1) && (DN cpos (CL [] X.env)).all (λx=>x.1.isSome)
   && decide ((e::es).length+([]:List Keyword).length+(if ([]:List Keyword).isEmpty then 0 else 1)<30))=true:=by rfl)
  (hline:(apos.endLine == cpos.line)=true:=by rfl) (hs:Bg (e::es) X.env=(false,eval e X.env)::Bg es X.env:=by rfl) (hplain:(DH cpos (Bg es X.env)).any (·.1)=false:=by rfl) :
  PE X (.Call (.Attribute o name apos) (e::es) [] cpos) (tBM X.K T r to t):=by
 intro pins s σ H Q I h;refine wpAny_Call_method_late hbase hfew hline rfl (thn (ho pins s σ H _ I h) λv s1 ⟨x,H1,I1,r1,ty,q1⟩=>?_);obtain⟨h1,h2⟩:=zlZ I1 r1 ty;refine⟨T,id,pa,slot,hty,h1,h2,?_⟩;have hA:=ha cpos pins s1 σ H1 _ I1 q1;rw[hs]at hA ⊢;refine Calls.callWith_builtin (by show (false || (DH cpos (Bg es X.env)).any (·.1))=false;rw[hplain] <;> rfl) (Calls.evalArgs_plain ?_);exact thn hA λus s2 ⟨vs,H2,I2,r2,q2⟩=>hm pins s2 σ H2 x vs v us Q I2 r1 r2 q2
/- xs.append(e),list.index on a module's tuple .. are MtR facts of 06m -/
end
noncomputable def MtM(X:Cx)(id:String)(r:V->List V->Hp->VK->Prop):Prop :=
 ∀(pins:List (Addr×Obj)) (s:Ac) (σ:St) (H:Hp) (x:V) (xs:List V) (v:Value) (us:List Value) (Q:VK),Inv X pins σ H s->RelV x v->Vals xs us->r x xs H Q ->
  Ar (Az X.prog X.w) X.A (call (.builtin id) (v::us)) (EP X pins σ Q) X.xe s
theorem Vals.one:∀{x:V}{us:List Value},Vals [x] us->∃u,us=[u]/\RelV x u
 |_,_,.cons r .nil=>⟨_,rfl,r⟩
theorem Vals.rep{xs:List V}{us:List Value}(h:Vals xs us):∀k:Nat,Vals (Ae k xs).flatten (Ae k us).flatten
 | 0=>.nil
 |k+1=>by
  rw[B3,B3,BN,BN];exact Vals.append h (Vals.rep h k)
theorem zfX(its:List Value):∀(k:Nat) (acc:List Value),
  List.foldl (λx1 x2=>x1++x2) acc.toArray (Ae k its.toArray)=(acc++(Ae k its).flatten).toArray
 | 0,acc=>by simp
 |k+1,acc=>by
  have e:acc.toArray++its.toArray=(acc++its).toArray:=by simp
  have e2:(acc++its)++(Ae k its).flatten=acc++(Ae (k+1) its).flatten:=by rw[B3,BN,AA]
  rw[<- e2,<- zfX its k (acc++its),<- e,B3,List.foldl_cons]
section
variable {X:Cx}{pins:List (Addr×Obj)}{σ:St}{H:Hp}{s:Ac}{l b:Addr}{xs ys zs:List V}
theorem Inv.lset{its its':List Value}{n:Nat}{f:Array Value -> Array Value}{t':Nat}(I:Inv X pins σ H s)(hH:H l=some (.lst xs))
  (e:s.heap.get? l=some { cls:=.type "list",data:=.seq its.toArray n }) (hf:f its.toArray=its'.toArray) (hv:Vals ys its') (hz:ys.length<=sizeLine) :
  Inv X pins σ (upd H l (.lst ys)) { s with heap:=s.heap.update l (Ba f),toks:=t' }:=by
 have q:=PySem.IsL.update e f;rw[hf]at q;refine I.write (x:=l) (e:=l) (by rw[hH];exact trivial) (.inl rfl) (λb' u hb hu=>(BO s.heap (Ba f) (Bx hb)).trans hu) ⟨_,q⟩ ?_
 exact⟨hz,its',_,hv,q⟩
theorem Inv.lnew{its:List Value}{t':Nat}(I:Inv X pins σ H s)(hv:Vals ys its)(hz:ys.length <= sizeLine) :
  Inv X pins σ (upd H s.heap.objs.size (.lst ys)) { s with heap:=s.heap.push { cls:=.type "list",data:=.seq its.toArray },toks:=t' } :=
 I.laid (λ_ _ q=>Ag _ q) (Aj _) ⟨hz,its,0,hv,AB _ rfl⟩
theorem Inv.fresh(I:Inv X pins σ H s):H s.heap.objs.size=none:=I.hok.fresh (Aj _)
theorem Inv.lstM (I:Inv X pins σ H s) (hH:H l=some (.lst xs)):xs.length<=sizeLine/\∃(its:List Value) (n:Nat),Vals xs its/\xs.length=its.length/\s.heap.get? l=some { cls:=.type "list",data:=.seq its.toArray n }:=by obtain⟨z,its,n,r,e⟩:=I.hok l _ hH;exact⟨z,its,n,r,r.length,e⟩
theorem zhp{n:Nat}(h:n<=sizeLine):C3 n=false:=by unfold C3;exact decide_eq_false (by lia)
end
section
variable {X:Cx}
noncomputable def zgt:V->List V->Hp->VK->Prop:=λx vs H Q=>∃l xs y,x=.ref l/\vs=[y]/\H l=some (.lst xs)/\xs.length<sizeLine/\Q .non (upd H l (.lst (xs++[y])))
theorem zaM:MtM X "list.append" zgt:=by
 intro pins s σ H x vs v us Q I rx rv h;obtain⟨l,xs,y,rfl,rfl,hH,hz,q⟩:=h
 cases rx
 obtain⟨u,rfl,ru⟩:=rv.one;obtain⟨z,its,n,r,hl,e⟩:=I.lstM hH;refine call_meets F.slot_list_append ⟨_,e,rfl⟩ F.entry_list_append (F.args_list_append_2 _ _) (PySem.list_append l its.toArray n u (by rw[As];lia)) ⟨e,?_⟩;refine⟨.non,_,I.lset (its':=its++[u]) hH e (by simp) (r.append (.cons ru .nil)) ?_,rfl,q⟩;rw[Af,Cj];lia
noncomputable def ziW:V->List V->Hp->VK->Prop:=λx vs H Q=>∃l b xs zs,x=.ref l/\vs=[.ref b]/\H l=some (.lst xs)/\H b=some (.lst zs)/\xs.length+zs.length<=sizeLine/\Q .non (upd H l (.lst (xs++zs)))
theorem zcq:MtM X "list.extend" ziW:=by
 intro pins s σ H x vs v us Q I rx rv h;obtain⟨l,b,xs,zs,rfl,rfl,hH,hB,hz,q⟩:=h
 cases rx
 obtain⟨u,rfl,ru⟩:=rv.one
 cases ru
 obtain⟨z,its,n,r,hl,e⟩:=I.lstM hH;obtain⟨z2,its2,n2,r2,hl2,e2⟩:=I.lstM hB;have hsz:its.toArray.size+its2.toArray.size<=sizeLine:=by rw[As,As];lia
 have hlong:¬ (!its.toArray.isEmpty && C3 (its.toArray.size+its2.toArray.size))=true:=by rw[zhp hsz,Bool.and_false];exact Au
 refine call_meets F.slot_list_extend ⟨_,e,rfl⟩ F.entry_list_extend (F.args_list_extend_2 _ _)
  (AutoSeq1.list_extend_list_list_0 l its.toArray n b its2.toArray n2 hlong (by rw[As];lia) (by lia)) ⟨e,e2,?_⟩
 refine⟨.non,_,I.lset (its':=its++its2) hH e (by simp) (r.append r2) ?_,rfl,q⟩;rw[Af];lia
noncomputable def rCat:R2:=λx y H Q=>∃l b xs zs,x=.ref l/\y=.ref b/\H l=some (.lst xs)/\H b=some (.lst zs)/\xs.length+zs.length<=sizeLine/\∀p,H p=none->Q (.ref p) (upd H p (.lst (xs++zs)))
theorem zfH:OpR X (CV .Add) rCat:=by
 intro pins s σ H x y v u Q I rx ry h;obtain⟨l,b,xs,zs,rfl,rfl,hH,hB,hz,q⟩:=h
 cases rx
 cases ry
 obtain⟨z,its,n,r,hl,e⟩:=I.lstM hH;obtain⟨z2,its2,n2,r2,hl2,e2⟩:=I.lstM hB;refine PySem.P.add_list e e2 ?_ (by rw[As,As];lia)
 have ea:its.toArray++its2.toArray=(its++its2).toArray:=by simp
 rw[ea];exact⟨.ref _,_,I.lnew (t':=s.toks) (r.append r2) (by rw[Af];lia),rfl,q _ I.fresh⟩
noncomputable def rRep:R2:=λx y H Q=>∃l k xs,x=.ref l/\y=.int k/\H l=some (.lst xs)/\-(2 ^ 63)<=k/\k<2 ^ 63/\xs.length*k.toNat<=sizeLine /\
 ∀p,H p=none->Q (.ref p) (upd H p (.lst (Ae k.toNat xs).flatten))
theorem zlH{α:Type}(xs:List α)(k:Nat):(Ae k xs).flatten.length=k*xs.length:=by
 induction k with
 |zero=>simp
 |succ k ih=>rw[B3,BN,Af,ih,Nat.succ_mul,Nat.add_comm]
theorem zk0:OpR X (CV .Mult) rRep:=by
 intro pins s σ H x y v u Q I rx ry h;obtain⟨l,k,xs,rfl,rfl,hH,h1,h2,hz,q⟩:=h
 cases rx
 obtain⟨t,rfl⟩:=ry;obtain⟨z,its,n,r,hl,e⟩:=I.lstM hH;have hlen:its.toArray.size*k.toNat<=sizeLine:=by rw[As,<- hl];exact hz
 have hcap:¬ its.toArray.size*k.toNat > (2 ^ 63-1) / 8:=by
  have:(sizeLine:Nat)<=(2 ^ 63-1) / 8:=by decide
  lia
 have hfit:¬ (!Builtin.List.listFitsIndex k)=true:=by rw[fitsIndex_both h1 h2];exact Au
 have hlong:¬ C3 (its.toArray.size*k.toNat)=true:=by rw[zhp hlen];exact Au
 have hnew:List.foldl (λx1 x2=>x1++x2) #[] (Ae (if its.toArray.isEmpty=true then 0 else k.toNat) its.toArray)=(Ae k.toNat its).flatten.toArray:=by
  have f0:∀m:Nat,List.foldl (λx1 x2=>x1++x2) #[] (Ae m its.toArray)=(Ae m its).flatten.toArray:=λm=>by have:=zfX its m [];rw[List.nil_append]at this;exact this
  rw[f0]
  cases its with
  |nil=>simp
  |cons a r'=>rw[if_neg (by simp)]
 refine wpAny_binaryOp_repeat_ref (T:="list") (U:="int") (by decide) ⟨_,e,rfl⟩ (λs'=>typeIs_int s' k t) noFill_list_mul F.fills_int_mul F.slot_int_rmul repeat_list F.slot_int_index.lookup
  (call_meets F.slot_int_rmul (typeIs_int s k t) F.entry_int_rmul (F.args_int_rmul_2 _ _) (int___rmul___int_list k t l its.toArray n)
   ⟨e,rfl,⟨_,e,rfl⟩,call_meets F.slot_list_mul ⟨_,e,rfl⟩ F.entry_list_mul (F.args_list_mul_2 _ _) (AutoListH.list___mul___list_int_3 l its.toArray n k t hfit hcap hlong) ⟨e,?_⟩⟩)
 rw[hnew];exact⟨.ref _,_,I.lnew (t':=s.toks) (r.rep k.toNat) (by rw[zlH,Nat.mul_comm];exact hz),rfl,q _ I.fresh⟩
end
section
variable {prog:AF}{w:A5}{A:AO}{E:Value->Ac->Prop}{s:Ac}
end
section
variable {X:Cx}
end
end L2
namespace Att
open PySem PySem.W PySem.Calls PyProof.Rows
theorem zdZ{P:Params}{h:Heap}:∀(ns:List Int) (vs:List Value),WellAll P h vs (ns.map WData.int)->IntsAre vs ns:=by
 intro ns
 induction ns with
 |nil =>
  intro vs w;rw[List.map_nil]at w
  cases w
  exact .nil
 |cons n ns ih =>
  intro vs w;rw[BA]at w
  cases w with
  |cons a b =>
   cases a
   exact .cons _ _ (ih _ b)
theorem ziO{l:OpenLaw}{n:Nat}(hn:l.most=some n){P:Params}{h:Heap}{args:List WData}{vals:List Value}
  (hpre:l.row.toRowW.claim.pre args=true) (hwl:WellAll P h vals args) :
  ∃a vs ns,vals=[Ao a]/\args=[WData.list (ns.map WData.int)]/\h.get? a=some { cls:=.type "list",data:=.seq vs.toArray }/\IntsAre vs ns/\ns.length<=n:=by
 have hsh:WShape.hasAll [] args [.list .int]=true:=(pre_splitW hpre).1;have hc:l.pre.holds [] { args:=args }=true:=(pre_splitW hpre).2;obtain⟨d,r,rfl,h1,h2⟩:=hasAllW_cons hsh;obtain rfl:=hasAllW_nil h2;obtain⟨xs,rfl,h3⟩:=hasW_list h1;obtain⟨ns,rfl⟩:=items_int h3
 have hlen:ns.length<=n:=by
  unfold OpenLaw.pre at hc
  have h4:(WTm.not (.lt (.lit (.int (n:Int))) (.len (.arg 0)))).holds [] { args:=[.list (ns.map .int)] }=true:=by have h4:=(holds_andW hc).1;rw[hn]at h4;exact h4
  have h5:=condW_of h4 (w_not (w_lt w_lit (w_len_list (w_arg rfl))));rw[Ai]at h5;refine Nat.le_of_not_lt λq=>?_
  have q':(n:Int)<((ns.length:Nat):Int):=by lia
  first
   | (rw[decide_eq_true q']at h5;exact absurd h5 (by decide))
   | (simp at h5;lia)
 cases hwl with
 |cons w1 w2 =>
  cases w2
  cases w1 with
  |list ho hall=>exact⟨_,_,ns,rfl,rfl,ho,zdZ ns _ hall,hlen⟩
theorem zi3(l:OpenLaw)(args:List WData):l.row.toRowW.claim.post args (.bool true) args=true :=
 postW_of (r:=l.row.toRowW) (X:=(true == true))
  (show WShape.has [] (.bool true) .bool=true by first |rfl |decide |simp[WShape.has,WShape.arms,WShape.armsAll])
  (show (WTm.eq .res (.lit (.bool true))).value [] { args:=args,res:=some (.bool true),after:=args }=some (.bool (true == true)) from w_eq_bool (w_res rfl) w_lit) rfl
theorem attach_call{l:OpenLaw}{n:Nat}{q:AF}{loose:List Str}{XP:(Str -> Option Value) -> Heap -> Prop}{YP:A5 -> Heap -> Prop}{d:DefRec}
  (hn:l.most=some n) (hdf:d.params.defaults=[])
  (call:∀(w:A5) (s₀ s₁:Ac) (mg mb:Str->Option Value) (fa:Addr) (o:Obj) (pm cd doc:Value) (a:Addr) (vs:List Value) (ns:List Int),
   Ground q loose [] XP w s₀ mg mb s₁.heap->YP w s₁.heap ->
   s₁.heap.get? fa=some o->o.data=.func (docDef d.name d.params d.body d.scope pm cd doc)->s₁.heap.CodeRec cd d.name->mg d.name=some (.ref fa) ->
   s₁.heap.get? a=some { cls:=.type "list",data:=.seq vs.toArray }->IntsAre vs ns->ns.length<=n->s₁.gens=#[] ->
   Da (Az l.prog w) callerA (.call (.ref fa) ⟨[.ref a],[]⟩) (λr s'=>r=.ok (.ret (.bool true))/\OldK s₁.heap s'.heap/\s'.os=s₁.os/\AllBare s'.gens) s₁) :
  WalkO q loose XP YP l.row.toRowW d [] (λf vs=>PySem.call f vs):=by
 intro w s₀ s₁ mg mb G Y fa o pm cd doc dV kV ho hd hcd hD hmg hg args vals as hpre hlay hrd hwl hlo;obtain rfl:dV=.none:=Dflts.none hD hdf;obtain rfl:kV=.none:=Dflts.noKw hD;obtain⟨a,vs,ns,rfl,rfl,hobj,hints,hlen⟩:=ziO hn hpre hwl;refine enter_call (Db (call w s₀ s₁ mg mb fa o pm cd doc a vs ns G Y ho (fd_plain hd) hcd hmg hobj hints hlen hg) λr s' hq=>?_);obtain⟨rfl,h2,h3,h4⟩:=hq;exact⟨.inl ⟨.bool true,.bool true,[],rfl,λ_=>rfl,.bool true,zi3 l _,λ_=>⟨List.Pairwise.nil,λ_ hm=>(nomatch hm)⟩⟩,h2,h3,h4⟩
section
variable {prog:AF}{w:A5}{A:AO}{E:Value->Ac->Prop}{s:Ac}{K:Frag}
noncomputable def zmR(h:Heap)(L d:Addr):List (Addr×Obj):=(BD h.objs.size).filterMap λa=>if a=L∨a=d then none else (h.get? a).map λo=>(a,o)
end
end Att
namespace L2
open PySem PySem.Spec PyProof.Rows
theorem zfu:∀{vs:List Value}{ns:List Int},IntsAre vs ns->Vals (ns.map V.int) vs
 |_,_,.nil=>.nil
 |_,_,.cons n t h=>.cons ⟨t,rfl⟩ (zfu h)
noncomputable abbrev KOf{K:W.Frag}{h:Heap}(_:K.In h):W.Frag:=K
end L2
/- THE LAST THEOREM (shape; LID, My.* are yours):
  My.Adr: a structure of the addresses that your layer names (classes,functions);My.Txt K t: a structure (Prop) of the equations over K;
  My.txt_mk:{K} {implicit addresses ..} (e1:nsIn K AL "law" = some (some (.ref f))) (e2:K.lookup f=some ⟨oc,od,.func (fnOf "law" "law" params body scope dV kV doc pm an cdv ct),sl⟩) (e3:codeIn K cdv "law" = true) ..:∃t,My.Txt K t
set_option maxRecDepth 100000 in
set_option maxHeartbeats 0 in
theorem PySem.Challenge.cw_LID_holds : PySem.Challenge.rw_LID.Holds := by
 w_on;o_law;k_head;(case hw=>w_witness2)
 k_fill
 refine L2.walk_of (l:=PySem.Challenge.rw_LID) (n:=63) (k:=40) (x:="script") (CX:=λw=>..) (sp:=λ_=>My.sp_law) rfl (by decide) rfl ⟨rfl,by decide,by decide⟩ (λw h Y=>W.kIn_of Y) ?F ?S ?C
 case F =>
  intro w mg fa h KX G hmg
  have T:∃ t,My.Txt (L2.KOf KX) t:=by
   dsimp only[L2.KOf]                          -- K must stand as «<heap const> w.params» for k_is
   refine' My.txt_mk ?e1 ?e2 ?e3 ..
   (case e1=>W.k_is)                    -- in the order: a name -> its address -> its object -> its parts
   (case e2=>W.k_is)
   ..
  obtain⟨t,T⟩:=T
  have e0:=hmg.symm.trans (DU KX G T.law)
  cases e0                                       -- fa is the law's own address
  exact⟨_,λs u=>.of_eq rfl,λbase kb nb=>My.law_fn T kb nb⟩     -- if «.of_eq rfl» comes too early: refine' ⟨_,?b,λbase kb nb=>My.law_fn T kb nb⟩;exact λs u=>.of_eq rfl
 case S=>exact λw H a ns hl hO hS=>..
 case C=>exact ..
(the tactic k_is has no namespace: write k_is) -/
namespace L2
open PySem PySem.Spec PyProof.Rows
noncomputable def za7(s:Stmt):Arguments:=match s with
 |.FunctionDef _ a _ _ _ _ _ _ _ _=>a
 |_=>{ posonlyargs:=[],args:=[],vararg:=none,kwonlyargs:=[],kw_defaults:=[],kwarg:=none,defaults:=[] }
noncomputable def zaF(s:Stmt):List Stmt:=match s with
 |.FunctionDef _ _ b _ _ _ _ _ _ _=>b
 |_=>[]
noncomputable def zaf(s:Stmt):Scope:=match s with
 |.FunctionDef _ _ _ _ _ _ sc _ _ _=>sc
 |_=>{ kind:=.function,names:=[],isGenerator:=false,isCoroutine:=false }
noncomputable abbrev CX0:CXT:=λ_ _ _ _ _ _=>False
noncomputable abbrev E0:XK:=λ_ _ _=>False
theorem pass0{X:Cx}:zd7 CX0 X E0:=λ_ _ _ _ _ _ _ h=>h.elim
structure Fun (K:W.Frag) (x qual:Str) (st:Stmt) (f:Addr) (fd:BC):Prop where
 ex:∃(oc:Value) (od:Option Addr) (kV doc pm:Value) (an:Option Addr) (cdv ct:Value) (osl:Array (Option Value)),
  fd=Du x qual (za7 st) (zaF st) (zaf st) .none kV doc pm an cdv ct/\K.lookup f=some ⟨oc,od,.func fd,osl⟩/\W.codeIn K cdv qual=true
 kp:C5 K (.ref f)=true
section
variable {P:AF}{w:A5}{K:W.Frag}{mg:Str->Option Value}{base:Heap}
theorem Fun.ok{x qual:Str}{st:Stmt}{f:Addr}{fd:BC}{N ps:List Str}{k:Nat}{sp:Sp}(F:Fun K x qual st f fd)(S:FnScope N ps (zaf st))(len:∀vs H Q E, sp vs H Q E -> vs.length=ps.length)
  (hbody:∀(cdv:Value) (A:AO) (outer:List Env) (s:Ac) (H:Hp) (vs:List V) (Q:VK) (E:XK),Room k (A.deeper (envOfC qual (zaf st) s.heap.objs.size f cdv))->sp vs H Q E ->
   ∃t,PSs (cxOf CX0 P w K mg base N qual (zaf st) f cdv A outer s H E).nox (zaF st) t/\t { nx:=λ_ H'=>Q .non H',rt:=Q } (start N vs) H):FnOk P w K mg base CX0 (k+1) f fd ps sp:=by
 obtain⟨oc,od,kV,doc,pm,an,cdv,ct,osl,rfl,lk,hcd⟩:=F.ex;refine fn_of lk hcd S len λA outer s H vs Q E hr hsp=>?_
 obtain⟨t,h,q⟩:=hbody cdv A outer s H vs Q E hr hsp;exact⟨t,h.nox,q⟩
theorem Fun.binds{x qual:Str}{st:Stmt}{f:Addr}{fd:BC}{ps:List Str}(F:Fun K x qual st f fd)
  (h:∀(kV doc pm:Value) (an:Option Addr) (cdv ct:Value) (us:List Value),us.length=ps.length->DM (Du x qual (za7 st) (zaF st) (zaf st) .none kV doc pm an cdv ct) ⟨us,[]⟩=pure (ps.zip us)):Binds K fd ps []:=by
 obtain⟨oc,od,kV,doc,pm,an,cdv,ct,osl,rfl,lk,hcd⟩:=F.ex;exact .all (h kV doc pm an cdv ct)
theorem zcX{x qual:Str}{st:Stmt}{f:Addr}{oc:Value}{od an:Option Addr}{osl:Array (Option Value)}{kV doc pm cdv ct:Value}(l:K.lookup f=some ⟨oc, od, .func (Du x qual (za7 st) (zaF st) (zaf st) .none kV doc pm an cdv ct), osl⟩)
  (c:W.codeIn K cdv qual=true) (k:C5 K (.ref f)=true):Fun K x qual st f (Du x qual (za7 st) (zaF st) (zaf st) .none kV doc pm an cdv ct):=⟨⟨oc,od,kV,doc,pm,an,cdv,ct,osl,rfl,l,c⟩,k⟩
end
theorem hu_of{A:AO}{k:Nat}(hr:Room k A):A.units+1<cLine:=B7 (Nat.add_le_add_left (by decide:1<=64) _) hr.units
section
variable {X:Cx}
theorem pv (i:Nat){x:Str}{pos:Pos}(hN:X.N[i]? = some x := by rfl) (hv:Vis X.env.scope x := by first |exact Or.inl rfl |exact Or.inr (Or.inl rfl) |exact Or.inr (Or.inr rfl)) (hd:(x == ("__debug__" : Str))=false := by decide)
  (hcd:(x == ("__classdict__" : Str))=false:=by decide):PE X (.Name x pos) (tVar i):=zmo hN hv hd hcd
end
theorem iteF{A B:Prop}(h:B):if false=true then A else B:=by rw[if_neg Au];exact h
theorem iteT{A B:Prop}(h:A):if true=true then A else B:=by rw[if_pos rfl];exact h
theorem ite2{c A B:Prop} [Decidable c](h1:c->A)(h2:¬ c->B):if c then A else B:=by
 by_cases h:c
 .rw[if_pos h];exact h1 h
 .rw[if_neg h];exact h2 h
noncomputable def Same(H H':Hp):Prop:=∀b o,H b=some o->H' b=some o
theorem Same.refl(H:Hp):Same H H:=λ_ _ h=>h
theorem Same.trans{H H1 H2:Hp}(a:Same H H1)(b:Same H1 H2):Same H H2:=λc o h=>b c o (a c o h)
theorem Same.free{H H':Hp}(e:Same H H'){l:Addr}(h:H' l=Option.none):H l=Option.none:=by
 cases q:H l with
 |none=>rfl
 |some o =>
  rw[e l o q]at h
  cases h
theorem Same.seq{K:W.Frag}{H H':Hp}{a:Addr}{xs:List V}(e:Same H H')(h:SqL K H a xs):SqL K H' a xs:=by
 rcases h with (h |⟨o,h⟩) |h
 .exact .inl (.inl (e _ _ h))
 .exact .inl (.inr ⟨o,e _ _ h⟩)
 .exact .inr h
section
variable {κ:Type} [DecidableEq κ]
end
end L2
set_option maxHeartbeats 4000000
namespace L2
open PySem PySem.Spec PyProof.Rows
noncomputable def zem(J:It)(g:TG)(tb:TS):TS:=λD σ H=>∃W:Nat->Nat->St->Hp->Prop,(∃m,W 0 m σ H)/\∀i m σ H,W i m σ H ->
 (J.stop i H/\D.nx σ H)∨(J.go i H/\∃N:St->Hp->Prop,(∀ σ' H',N σ' H'->∃m',m'<m/\W (i+1) m' σ' H')/\∀x H',J.yld i H x H'->g x σ H' λσ2 H2=>tb { D with nx:=N,ct:=N,bk:=D.nx } σ2 H2)
noncomputable def PTs(X:Cx)(ifs:List Expr)(t:TT):Prop :=
 ∀(pins:List (Addr×Obj)) (s:Ac) (σ:St) (H:Hp) (Q:Bool->Hp->Prop),Inv X pins σ H s->t σ H Q ->
  Ar (Az X.prog X.w) X.A (forIn ifs true λc r=>if r=true then do let ok <- isTrue c X.env (eval c X.env);pure (ForInStep.yield ok) else pure (ForInStep.yield r)) (TP X pins σ Q) X.xe s
theorem ziY{X:Cx}:PTs X [] (λ_ H Q=>Q true H):=λpins s σ H Q I h=>Ah ⟨H,I,h⟩
theorem zb5{X:Cx}{c:Expr}{t:TT}(hc:PT X c t):PTs X [c] t:=λpins s σ H Q I h=>wpAny_tests_one (hc pins s σ H Q I h)
noncomputable def PB(X:Cx)(inner:Sem Unit)(t:TS):Prop :=
 ∀(pins:List (Addr×Obj)) (s:Ac) (σ:St) (H:Hp) (D:Ends),Inv X pins σ H s->t D σ H->Ar (Az X.prog X.w) X.A inner (λ_ s'=>∃ σ' H',Inv X pins σ' H' s'/\D.nx σ' H') X.xe s
noncomputable def tIfs(tt:TT)(tb:TS):TS:=λD σ H=>tt σ H λb H1=>if b=true then tb D σ H1 else D.nx σ H1
theorem zjK{X:Cx}{e tg:Expr}{d:Nat}{ifs:List Expr}{p:Pos}{acc:Value}{inner:Sem Unit}{g:TG}{tt:TT}{tb:TS}{it:Addr}{fp:List Addr}{tn:Nat -> Heap -> Prop}{J:It}
  {pins:List (Addr×Obj)} {s:Ac} {σ:St} {H:Hp} {D:Ends} {R:Result->Ac->Prop}
  (hq:(Code.compLoop e d (.ref it) acc X.env).quiet=true)
  (hden:(Az X.prog X.w).den (.compLoop e d (.ref it) acc X.env)=(compTurn e d (.ref it) acc X.env).onRaise (λx=>do noteFrame x X.env;theTreesLotGoes x))
  (hT:compTurn e d (.ref it) acc X.env=(do
   standAt p
   match <- pyNext (.ref it) with
   |none=>pure (.done .next)
   |some v =>
    letOwnedTupleGo tg (.ref it) v
    assign tg X.env v
    let mut ok:=true
    for c in ifs do
     if ok then ok <- isTrue c X.env (eval c X.env)
    if ok then
     inner
    again (.compLoop e d (.ref it) acc X.env)))
  (hA:∀(B:AO) {α:Type} {t:Sem α} {Q:α->Ac->Prop} {E:Value->Ac->Prop} {s:Ac},B=X.A.under (.compLoop e d (.ref it) acc X.env)->Ar (Az X.prog X.w) X.A t Q E s->Ar (Az X.prog X.w) B t Q E s)
  (hc:X.calm=true) (hx:X.xe=λ_ _=>False) (hg:PG X tg g) (ht:PTs X ifs tt) (hb:PB X inner tb)
  (I:Inv X pins σ H s) (T:Turn X.prog X.w X.K tg J fp it tn) (st:tn 0 s.heap) (f:∀b∈fp,FpOk X pins H b) (W:zem J g (tIfs tt tb) D σ H)
  (hR:∀fl s',(∃ σ' H',Inv X pins σ' H' s'/\(∀b∈fp,H' b=none)/\D.nx σ' H')->R (.ok fl) s') :
  Da (Az X.prog X.w) X.A (.compLoop e d (.ref it) acc X.env) R s:=by
 obtain⟨W,⟨m0,w0⟩,turn⟩:=W;have stat:∀{H':Hp},(∀b∈fp,H' b=none)->∀b∈fp,FpOk X pins H' b:=λhn b hb=>⟨hn b hb,(f b hb).2⟩
 refine codeAny_loop hq (λn s'=>∃i σ' H',Inv X pins σ' H' s'/\tn i s'.heap/\(∀b∈fp,H' b=none)/\W i n σ' H') ?_ m0 ⟨0,σ,H,I,st,λb hb=>(f b hb).1,w0⟩;rintro n s3 ⟨i,σ3,H3,I3,st3,fr3,w3⟩;refine hA _ rfl ?_
 rw[hden];refine wpAny_noted (wpAny_noRaise ?_);rw[hT];refine Aa (DO ?_)
 have nx:∀{α:Type} {t:Sem α} {Q:α->Ac->Prop} {s:Ac},Ar (Az X.prog X.w) X.A t Q X.xe s->Ar (Az X.prog X.w) X.A t Q (λ_ _=>False) s:=λ{α t Q s} h=>by rw[hx]at h;exact h
 rcases turn i n σ3 H3 w3 with⟨stop,qn⟩ |⟨go,N,hN,step⟩
 .refine Aa (thn (T.done X rfl rfl rfl hc i pins s3 σ3 H3 _ I3 (stat fr3) st3 stop) λr s4 ⟨hr,I4⟩=>?_);subst hr;exact Ah (hR _ _ ⟨σ3,H3,I4,fr3,qn⟩)
 .refine Aa (thn (T.item X rfl rfl rfl hc i pins s3 σ3 H3 _ I3 (stat fr3) st3 go) λr s4 ⟨u,hr,h4⟩=>?_);subst hr;refine Aa (thn h4 λ_ s5 ⟨x,H5,I5,r5,y5,st5,fr5⟩=>?_);have I5':=I5.pinned (stat fr5) (T.obj _ _ st5)
  have again:∀{σ7:St} {H7:Hp} {s7:Ac},Inv X (pins++zdj fp s5.heap) σ7 H7 s7->N σ7 H7->∃m,m<n/\∃i σ' H',Inv X pins σ' H' s7/\tn i s7.heap/\(∀b∈fp,H' b=none)/\W i m σ' H':=λ{σ7 H7 s7} I7 n7=>by obtain⟨m',hm,w7⟩:=hN σ7 H7 n7;refine⟨m',hm,i+1,σ7,H7,I7.unpinned,T.keep _ _ _ st5 λb hb o e=>(I7.pin (b,o) (An _ (An _ (za0 hb e)))).1,λb hb=>?_,w7⟩;obtain⟨o,e,d⟩:=T.obj _ _ st5 b hb;exact (I7.pin (b,o) (An _ (An _ (za0 hb e)))).2.1
  refine Aa (thn (nx (hg _ s5 σ3 H5 x u _ I5' r5 (step x H5 y5))) λ_ s6 ⟨σ6,H6,I6,q6⟩=>?_);refine Aa (thn (nx (ht _ s6 σ6 H6 _ I6 q6)) λok s7 ⟨H7,I7,q7⟩=>?_)
  cases ok with
  |false =>
   exact Ah ⟨rfl,again I7 q7⟩
  |true =>
   refine Aa (thn (nx (hb _ s7 σ6 H7 _ I7 q7)) λ_ s8 ⟨σ8,H8,I8,q8⟩=>?_);exact Ah ⟨rfl,again I8 q8⟩
noncomputable abbrev blk(X:Cx)(sc:Scope)(cl:List (Str×Addr))(C:Addr)(N':List Str)(s0:Ac)(H0:Hp)(ex:List Addr):Cx :=
 { X with N:=N',s₀:=s0,H₀:=H0,env:=compEnvC sc cl C X.env,outer:=X.stack,stack:=X.stack,ex:=ex,fn:=λ_=>false,pn:=[],xe:=λ_ _=>False }
structure BlkOk (osc:Scope) (N:List Str) (sc:Scope) (N':List Str) (sel:List (Option Nat)):Prop where
 kind:sc.kind=.function
 nocell:∀y∈sc.names,y.2≠.cell
 names:∀y∈sc.names,y.2=.local->sc.names.lookup y.1=some .local
 free:∀y∈sc.names,y.2=.free->osc.names.lookup y.1=some .cell∨osc.names.lookup y.1=some .free
 len:sel.length=N'.length
 sel:∀p∈sel.zip N',∀i∈p.1,N[i]?=some p.2/\sc.names.lookup p.2=some .free
noncomputable def selSt(sel:List (Option Nat))(σ:St):St:=sel.map λo=>o.bind λi=>(σ[i]?).join
theorem zcP{env:Env} : ∀(names:List (Str × NameKind)) (acc:List (Str × Addr)), (∀y ∈ names, y.2 = .free -> ∃c, env.cells.lookup y.1=some c) ->
  ∃cl,(forIn names acc λ(x:Str×NameKind) (r:List (Str×Addr))=>(if (x.2 == .free)=true then do let c <- cellOf env x.1;pure (ForInStep.yield ((x.1,c)::r)) else pure (ForInStep.yield r):Sem (ForInStep (List (Str×Addr)))))=pure cl /\
   (∀x c,cl.lookup x=some c->acc.lookup x=some c∨(env.cells.lookup x=some c/\(x,BB)∈names))/\(∀y∈names,y.2=.free->∃c,cl.lookup y.1=some c)/\(∀x c,acc.lookup x=some c->∃c',cl.lookup x=some c')
 |[],acc,_=>⟨acc,rfl,λ_ _ h=>.inl h,(λ_ h=>nomatch h),λx c h=>⟨c,h⟩⟩
 | (n,k)::r,acc,h=>by
  by_cases hk:k=.free
  .subst hk;obtain⟨c,hc⟩:=h (n,.free) AQ rfl;obtain⟨cl,e,h1,h2,h3⟩:=zcP r ((n,c)::acc) λy hy=>h y (AI _ hy)
   refine⟨cl,?_,λx c' hx=>?_,λy hy hf=>?_,λx c' hx=>?_⟩
   .rw[List.forIn_cons];have e1:cellOf env n=pure c:=by unfold cellOf;rw[hc]
    simp only[beq_self_eq_true,if_true,e1,pure_bind];exact e
   .rcases h1 x c' hx with q |⟨q,m⟩
    .by_cases hn:x=n
     .subst hn;rw[Bq,beq_self_eq_true]at q
      cases q
      exact .inr ⟨hc,AQ⟩
     .have hb:(x == n)=false:=by simpa using hn
      rw[Bq,hb]at q;exact .inl q
    .exact .inr ⟨q,AI _ m⟩
   .rcases At.mp hy with z |z
    .subst z;exact h3 n c (by rw[Bq,beq_self_eq_true])
    .exact h2 y z hf
   .by_cases hn:x=n
    .subst hn;exact h3 x c (by rw[Bq,beq_self_eq_true])
    .have hb:(x == n)=false:=by simpa using hn
     exact h3 x c' (by rw[Bq,hb];exact hx)
  .obtain⟨cl,e,h1,h2,h3⟩:=zcP r acc λy hy=>h y (AI _ hy)
   refine⟨cl,?_,λx c' hx=>?_,λy hy hf=>?_,h3⟩
   .rw[List.forIn_cons];have hb:(k == BB)=false:=by simpa using hk
    simp only[hb,BP,if_false,pure_bind];exact e
   .rcases h1 x c' hx with q |⟨q,m⟩
    .exact .inl q
    .exact .inr ⟨q,AI _ m⟩
   .rcases At.mp hy with z |z
    .subst z;exact absurd hf hk
    .exact h2 y z hf
structure Clo (env:Env) (sc:Scope) (cl:List (Str×Addr)):Prop where
 run:closureFor sc env=pure cl
 old:∀x c,cl.lookup x=some c->env.cells.lookup x=some c/\(x,BB)∈sc.names
 has:∀y∈sc.names,y.2=.free->∃c,cl.lookup y.1=some c
theorem zle{X:Cx}{osc:Scope}{N:List Str}{sc:Scope}{N':List Str}{sel:List (Option Nat)}(ok:X.Ok)(B:BlkOk osc N sc N' sel)(ho:X.env.scope=osc):∃cl,Clo X.env sc cl:=by
 have hc:∀y∈sc.names,y.2=.free->∃c,X.env.cells.lookup y.1=some c:=λy hy hf=>ok.has y.1 (by
  show X.env.scope.names.lookup y.1=_∨X.env.scope.names.lookup y.1=_;rw[ho];exact B.free y hy hf)
 obtain⟨cl,e,h1,h2,_⟩:=zcP (env:=X.env) sc.names [] hc;refine⟨cl,?_,λx c h=>?_,h2⟩
 .unfold closureFor;have e':=e;show (do let r <- forIn sc.names [] _;pure r)=_;simp only[bind_pure];exact e'
 .rcases h1 x c h with q |q
  .cases q
  .exact q
theorem zbR{env:Env} : ∀{names:List (Str × NameKind)}{x:Str}{k:NameKind}, (names.map λ(n, k) => if (k == BB && env.scope.kind == .function && env.kindOf n == some .cell) then (n, Dl) else (n, k)).lookup x=some k ->
  ∃k',(x,k')∈names/\(k=k'∨(k=.cell/\k'=.free))
 |[],x,k,h=>nomatch h
 | (n,j)::r,x,k,h=>by
  have ih:=@zbR env r x k;have h:CK x ((if (j == BB && env.scope.kind == .function && env.kindOf n == some .cell)=true then (n,Dl) else (n,j))::_)=some k:=h
  by_cases hx:x=n
  .subst hx
   by_cases hc:(j == BB && env.scope.kind == .function && env.kindOf x == some .cell)=true
   .rw[if_pos hc,Bq,beq_self_eq_true]at h
    cases h
    refine⟨j,AQ,.inr ⟨rfl,?_⟩⟩;simp only[A3,beq_iff_eq]at hc;exact hc.1.1
   .rw[if_neg hc,Bq,beq_self_eq_true]at h
    cases h
    exact⟨j,AQ,.inl rfl⟩
  .have hb:(x == n)=false:=by simpa using hx
   have h':CK x (r.map λ(n,k)=>if (k == BB && env.scope.kind == .function && env.kindOf n == some .cell) then (n,Dl) else (n,k))=some k:=by
    by_cases hc:(j == BB && env.scope.kind == .function && env.kindOf n == some .cell)=true
    .rw[if_pos hc,Bq,hb]at h;exact h
    .rw[if_neg hc,Bq,hb]at h;exact h
   obtain⟨k',m,e⟩:=ih h';exact⟨k',AI _ m,e⟩
theorem zbJ{env:Env} : ∀{names:List (Str × NameKind)}{x:Str}, names.lookup x=some .free ->
  (names.map λ(n,k)=>if (k == BB && env.scope.kind == .function && env.kindOf n == some .cell) then (n,Dl) else (n,k)).lookup x=some .cell ∨
  (names.map λ(n,k)=>if (k == BB && env.scope.kind == .function && env.kindOf n == some .cell) then (n,Dl) else (n,k)).lookup x=some .free
 |[],x,h=>nomatch h
 | (n,j)::r,x,h=>by
  have ih:=@zbJ env r x;rw[Bq]at h;show CK x ((if (j == BB && env.scope.kind == .function && env.kindOf n == some .cell)=true then (n,Dl) else (n,j))::_)=_∨CK x ((if (j == BB && env.scope.kind == .function && env.kindOf n == some .cell)=true then (n,Dl) else (n,j))::_)=_
  cases hx:x == n with
  |true =>
   rw[hx]at h
   cases h
   by_cases hc:(BB == BB && env.scope.kind == .function && env.kindOf n == some .cell)=true
   .rw[if_pos hc,Bq,hx];exact .inl rfl
   .rw[if_neg hc,Bq,hx];exact .inr rfl
  |false =>
   rw[hx]at h
   by_cases hc:(j == BB && env.scope.kind == .function && env.kindOf n == some .cell)=true
   .rw[if_pos hc,Bq,hx];exact ih h
   .rw[if_neg hc,Bq,hx];exact ih h
section
variable {X:Cx}{osc:Scope}{N:List Str}{sc:Scope}{N':List Str}{sel:List (Option Nat)}{cl:List (Str×Addr)}{pins:List (Addr×Obj)}{σ:St}{H:Hp}{s:Ac}{fp:List Addr}
theorem zlL{h':Heap}{ob:Obj}{tk:Nat}(B:BlkOk osc N sc N' sel)(ho:X.env.scope=osc)(hN:X.N=N)(Cl:Clo X.env sc cl)(I:Inv X pins σ H s)
    (f:∀b∈fp,FpOk X pins H b) (fo:∀b∈fp,∃o,s.heap.get? b=some o) (hns:h'.Ns s.heap.objs.size (λ_=>none)) (hsb:Cq s.heap.objs.size (s.heap.push ob) h') :
    Inv (blk X sc cl s.heap.objs.size N' s H fp) [] (selSt sel σ) H { s with heap:=h',toks:=tk }:=by
  have old:∀b o,s.heap.get? b=some o->h'.get? b=some o:=λb o e=>(hsb.2 b (AV (Ax e))).trans (Ag _ e)
  have bel:∀b∈fp,b<s.heap.objs.size:=λb hb=>by obtain⟨o,e⟩:=fo b hb;exact Ax e
  have kk:∀x,(compEnvC sc cl s.heap.objs.size X.env).kindOf x=some .cell∨(compEnvC sc cl s.heap.objs.size X.env).kindOf x=some .free->(x,BB)∈sc.names:=λx hx=>by
    rcases hx with hx |hx
    . obtain⟨k',m,e⟩:=zbR hx;rcases e with e |⟨_,e⟩
      . subst e;exact absurd rfl (B.nocell _ m)
      . subst e;exact m
    . obtain⟨k',m,e⟩:=zbR hx;rcases e with e |⟨e,_⟩
      . subst e;exact m
      . cases e
  refine⟨⟨I.mod, B.kind, I.ok.glob, I.ok.blt, Aj _, λx y c e1 e2 => I.ok.inj x y c (Cl.old x c e1).1 (Cl.old y c e2).1, λx hx => Cl.has _ (kk x hx) rfl, λx c z => absurd z (by intro q; cases q), I.ok.hd, I.ok.frames, .inl rfl,
      λb hb=>⟨AV (bel b hb),λx c e=>(f b hb).2.2.2.2.1 x c (Cl.old x c e).1⟩,I.bs,AN I.ok.bsz I.sz,λb o e hb=>?_,λb hb hs=>?_,I.stack,I.stkFree⟩,
    rfl,I.bare,Un.kept old,⟨_,hns,λj x v e1 e2 e3=>?_⟩,λx c e=>?_,I.hok.fresh (Aj _),λx c e=>I.freeC x c (Cl.old x c e).1,λp hp=>absurd (show p∈([]:List (Addr×Obj)) from hp) (by simp),I.hok.kept old,?_⟩
  . rcases (f b hb).2.2.2.1 with z |z
    . exact I.ok.noex b o e z
    . exact absurd (AC (Ax e) (AN I.ok.bsz z)) (Ca _)
  . obtain⟨_,f1,f2,_⟩:=f b hb;rcases At.mp (I.stkSub b hs) with z |z
    . exact f1 z
    . exact f2 z
  . have e2':((sel[j]?).map λo => o.bind λi => (σ[i]?).join)=some (some v) := by have:=e2;unfold selSt at this;rw[A7]at this;exact this
    cases hj:sel[j]? with
    |none=>rw[hj]at e2';cases e2'
    |some o =>
      rw[hj]at e2'
      cases o with
      |none=>cases e2'
      |some i =>
        have e4:(σ[i]?).join=some v:=A9 e2'
        have e5:σ[i]?=some (some v):=by
          cases q:σ[i]? with
          |none=>rw[q]at e4;cases e4
          |some z=>rw[q]at e4;exact congrArg some e4
        have hz:(some i,x)∈sel.zip N':=by
          refine Aw (i:=j) ?_
          rw[List.getElem?_zip_eq_some];exact⟨hj,e1⟩
        obtain⟨g1,g2⟩:=B.sel _ hz i rfl;obtain⟨m,hn,hl⟩:=I.loc;have m2:(x,BB)∈sc.names:=CH g2
        have k2:X.env.kindOf x=some .cell∨X.env.kindOf x=some .free:=by show X.env.scope.names.lookup x=_∨X.env.scope.names.lookup x=_;rw[ho];exact B.free _ m2 rfl
        have v2:Vis X.env.scope x:=by
          rcases k2 with z |z
          . exact .inr (.inl z)
          . exact .inr (.inr z)
        obtain⟨u,r,l⟩:=hl i x v (by rw[hN];exact g1) e5 v2;refine⟨u,r,?_⟩;rcases l with⟨l,_⟩ |⟨_,c,e6,hc⟩
        . rcases k2 with z |z <;> (rw[l]at z;cases z)
        . obtain⟨c',hc'⟩:=Cl.has _ m2 rfl;have e7:=(Cl.old x c' hc').1;rw[e6]at e7
          cases e7
          exact .inr ⟨zbJ g2,c,hc',hc.keeps old⟩
  . obtain⟨v,hc⟩:=I.cell x c (Cl.old x c e).1;exact⟨v,hc.keeps old⟩
  . show (selSt sel σ).length=N'.length;unfold selSt;rw[Ai,B.len]
theorem zlU{C:Addr}{H':Hp}{σ':St}{s':Ac}(I:Inv X pins σ H s)(f:∀b∈fp,FpOk X pins H b)(I':Inv (blk X sc cl C N' s H fp) [] σ' H' s'):Inv X pins σ H' s' :=
 I.call' (ch:=fp) I'.os I'.base I'.hok I'.bare λb hb=>by obtain⟨_,f1,_,f3,f4,f5⟩:=f b hb;exact⟨f3,f1,f4,f5⟩
end
section
variable {X:Cx}
noncomputable def zdB(p:Addr)(te:TE):TS:=λD σ H=>te σ H λv H1=>∃xs,H1 p=some (.lst xs)/\xs.length<sizeLine/\D.nx σ (upd H1 p (.lst (xs++[v])))
theorem zlz {p:Addr}{elt:Expr}{te:TE}(he:PE X elt te):PB X (do let _ <- call (.builtin "list.append") [.ref p,<- eval elt X.env]) (zdB p te):=by intro pins s σ H D I h;refine Aa (thn (he pins s σ H _ I h) λv s1 ⟨x,H1,I1,r1,xs,e1,hl,q⟩=>?_);refine Aa (thn (zaM pins s1 σ H1 (.ref p) [x] (.ref p) [v] (λz H2=>D.nx σ H2) I1 rfl (.cons r1 .nil) ⟨p,xs,x,rfl,rfl,e1,hl,q⟩) λu s2 ⟨z,H2,I2,_,q2⟩=>?_);exact Ah ⟨σ,H2,I2,q2⟩
end
section
variable {X:Cx}{osc:Scope}{N:List Str}{sc:Scope}{N':List Str}{sel:List (Option Nat)}{pos:Pos}{elt kx vx tg iter:Expr}{ifs:List Expr}{wi:TI}{g:TG}{tt:TT}{te tk tv:TE}
noncomputable def InBlk(X:Cx)(sc:Scope)(N':List Str)(P:Cx->Prop):Prop:=∀cl C s0 H0 ex,P (blk X sc cl C N' s0 H0 ex)
theorem zf4{e:Expr}{inner:Env -> Addr -> Sem Unit}{tb:Addr -> TS}{use:Option (Value -> Sem Unit)}{pins:List (Addr × Obj)}{s:Ac}{σ : St}{H:Hp}{J:It}{it:Addr}{fp:List Addr}{tn:Nat -> Heap -> Prop}{o0:HO}{ob:Obj}
    {D:Addr->Ends} {Q:Value->Ac->Prop}
    (B:BlkOk osc N sc N' sel) (ho:X.env.scope=osc) (hN:X.N=N) (hc:X.calm=true)
    (hstart:∀(acc:Value) (env:Env) (R:Result->Ac->Prop) (s:Ac),Da (Az X.prog X.w) X.A (.compLoop e 0 (.ref it) acc env) R s->Ar (Az X.prog X.w) X.A (pyIter (.ref it)) (λit' s'=>Da (Az X.prog X.w) X.A (.compLoop e 0 it' acc env) R s') (notedBy (Az X.prog X.w) X.A env λx s'=>R (.error x) s') s->Da (Az X.prog X.w) X.A (.compStart e 0 (.ref it) acc env) R s)
    (hloop:∀cl C s0 H0 ex p pins s σ H Dn R,Inv (blk X sc cl C N' s0 H0 ex) pins σ H s->tn 0 s.heap->(∀b∈fp,FpOk (blk X sc cl C N' s0 H0 ex) pins H b)->zem J g (tIfs tt (tb p)) Dn σ H ->
      (∀fl s',(∃ σ' H',Inv (blk X sc cl C N' s0 H0 ex) pins σ' H' s'/\(∀b∈fp,H' b=none)/\Dn.nx σ' H')->R (.ok fl) s')->Da (Az X.prog X.w) X.A (.compLoop e 0 (.ref it) (.ref p) (compEnvC sc cl C X.env)) R s)
    (I:Inv X pins σ H s) (T:Turn X.prog X.w X.K tg J fp it tn) (st:tn 0 s.heap) (f:∀b∈fp,FpOk X pins H b)
    (hnew:ObjOk X.prog X.w (upd H s.heap.objs.size o0) (s.heap.push ob) s.heap.objs.size o0) (hfree:ob.isFreed=false)
    (h:zem J g (tIfs tt (tb s.heap.objs.size)) (D s.heap.objs.size) (selSt sel σ) (upd H s.heap.objs.size o0))
    (hend:∀C H' s',Inv X pins σ H' s'->FpOk X pins H' C->(∃m,s'.heap.Ns C m)->(∃ σ',(D s.heap.objs.size).nx σ' H')->compPost (Az X.prog X.w) X.A X.xe use Q (.ref s.heap.objs.size) C (.ok .next) s') (tk:Nat)
    (cl:List (Str×Addr)) (Cl:Clo X.env sc cl) (E:Value->Ac->Prop) :
    Ar (Az X.prog X.w) X.A (newFunctionEnv sc X.env.globals cl [] X.env.qual none .none (some X.env)) (λcenv s₄ =>
        Da (Az X.prog X.w) X.A (.compStart e 0 (.ref it) (.ref s.heap.objs.size) { cenv with scope:=relabel sc X.env }) (compPost (Az X.prog X.w) X.A X.xe use Q (.ref s.heap.objs.size) cenv.locals) s₄) E { s with heap:=s.heap.push ob,toks:=tk }:=by
  have grow:∀b o,s.heap.get? b=some o->(s.heap.push ob).get? b=some o:=λ_ _ q=>Ag _ q
  have I1:Inv X pins σ (upd H s.heap.objs.size o0) { s with heap:=s.heap.push ob,toks:=tk }:=I.laid grow (Aj _) hnew;have bel:∀b∈fp,∃o,s.heap.get? b=some o:=λb hb=>let ⟨o,e,_⟩:=T.obj _ _ st b hb;⟨o,e⟩
  have f1:∀b∈fp,FpOk X pins (upd H s.heap.objs.size o0) b:=λb hb=>by obtain⟨o,e⟩:=bel b hb;refine⟨?_,(f b hb).2⟩;rw[zai (AV (Ax e))];exact (f b hb).1
  refine wpAny_newFunctionEnv (s:={ s with heap:=s.heap.push ob,toks:=tk }) B.nocell (by intro x hx;cases hx) (λh1 hns hsb=>?_) B.kind;have I2:=zlL (tk:=tk) B ho hN Cl I1 f1 (λb hb=>let ⟨o,e⟩:=bel b hb;⟨o,grow b o e⟩) hns hsb;have old:∀b o,s.heap.get? b=some o->h1.get? b=some o:=λb o e=>(hsb.2 b (AV (Ax (grow b o e)))).trans (Ag _ (grow b o e))
  have st1:tn 0 h1:=T.keep _ _ _ st λb _ o e=>old b o e
  have f2:∀b∈fp,FpOk (blk X sc cl (s.heap.push ob).objs.size N' { s with heap:=s.heap.push ob,toks:=tk } (upd H s.heap.objs.size o0) fp) [] (upd H s.heap.objs.size o0) b:=λb hb=>by
    obtain⟨g0,g1,g2,g3,g4,g5⟩:=f1 b hb;obtain⟨o,e⟩:=bel b hb;refine⟨g0,AV (Ax (grow b o e)),λz=>?_,.inl hb,λx c e=>g4 x c (Cl.old x c e).1,λp hp=>absurd (show p∈([]:List (Addr×Obj)) from hp) (by simp)⟩;rcases At.mp (I1.stkSub b z) with q |q
    . exact g1 q
    . exact g2 q
  have loop:=hloop cl _ _ _ _ s.heap.objs.size [] _ _ _ (D s.heap.objs.size) (compPost (Az X.prog X.w) X.A X.xe use Q (.ref s.heap.objs.size) (s.heap.push ob).objs.size) I2 st1 f2 h λfl s' ⟨σ',H',I',fr',q'⟩=>by
    have I3:=zlU I1 f1 I';have hC:FpOk X pins H' (s.heap.push ob).objs.size:=I1.fpOk (Aj _) I'.free;obtain⟨m,hn,_⟩:=I'.loc;have:=hend _ H' s' I3 hC ⟨m,hn⟩ ⟨σ',q'⟩
    cases use <;> exact this
  exact hstart _ _ _ _ loop (T.self _ 0 _ _ _ st1 loop)
end
section
variable {X:Cx}{osc:Scope}{N:List Str}{sc:Scope}{N':List Str}{sel:List (Option Nat)}{pos:Pos}{elt kx vx tg iter:Expr}{ifs:List Expr}{wi:TI}{g:TG}{tt:TT}{te tk tv:TE}
theorem zex{it:Addr}{fp:List Addr}{tn:Nat -> Heap -> Prop}{J:It}(T:Turn X.prog X.w X.K tg J fp it tn)(hc:X.calm=true)(hg:InBlk X sc N' λY => PG Y tg g)(ht:InBlk X sc N' λY => PTs Y ifs tt)(he:InBlk X sc N' λY => PE Y elt te) :
  ∀cl C s0 H0 ex p pins s σ H Dn R,Inv (blk X sc cl C N' s0 H0 ex) pins σ H s->tn 0 s.heap->(∀b∈fp,FpOk (blk X sc cl C N' s0 H0 ex) pins H b)->zem J g (tIfs tt (zdB p te)) Dn σ H ->
   (∀fl s',(∃ σ' H',Inv (blk X sc cl C N' s0 H0 ex) pins σ' H' s'/\(∀b∈fp,H' b=none)/\Dn.nx σ' H')->R (.ok fl) s')->Da (Az X.prog X.w) X.A (.compLoop (.ListComp elt [⟨tg,iter,ifs,0⟩] sc pos) 0 (.ref it) (.ref p) (compEnvC sc cl C X.env)) R s :=
 λcl C s0 H0 ex p pins s σ H Dn R I st f W hR =>
  zjK (X:=blk X sc cl C N' s0 H0 ex) (p:=iter.pos) (inner:=do let _ <- call (.builtin "list.append") [.ref p,<- eval elt (compEnvC sc cl C X.env)]) rfl rfl rfl (λB {α t Q E s} h w=>by subst h;exact w) hc rfl (hg _ _ _ _ _) (ht _ _ _ _ _) (zlz (he _ _ _ _ _)) I T st f W hR
noncomputable def zl7(wi:TI)(sel:List (Option Nat))(g:TG)(tt:TT)(te:TE):TE:=λσ H Q=>wi σ H λJ H1=>∀p,H1 p=none ->
 zem J g (tIfs tt (zdB p te)) { nx:=λ_ H'=>Q (.ref p) H',rt:=λ_ _=>False } (selSt sel σ) (upd H1 p (.lst []))
theorem Inv.let_go{pins:List (Addr×Obj)}{σ:St}{H:Hp}{s:Ac}{C:Addr}{h':Heap}(I:Inv X pins σ H s)(f:FpOk X pins H C)(hs:Cq C s.heap h'):Inv X pins σ H { s with heap:=h' }:=by obtain⟨f0,f1,_,f3,f4,f5⟩:=f;exact I.turned (t':=s.toks) (λb o hb e=>(hs.2 b hb).trans e) f0 f1 f3 f4 f5
theorem zji {P:AF}{w:A5}{H:Hp}{h:Heap}:ObjOk P w (upd H h.objs.size (.lst [])) (h.push { cls:=.type "list",dict:=none,data:=.seq ([]:List Value).toArray }) h.objs.size (.lst []) :=
 ⟨A6 _,[],_,.nil,AB _ rfl⟩
theorem zbt(B:BlkOk osc N sc N' sel)(hi:PI X tg iter wi)(hg:InBlk X sc N' λY => PG Y tg g)(ht:InBlk X sc N' λY => PTs Y ifs tt)(he:InBlk X sc N' λY => PE Y elt te)
  (ho:X.env.scope=osc:=by rfl) (hN:X.N=N:=by rfl) (hc:X.calm=true:=by rfl) (hs:∀x,foldedSetIterable iter X.env x=pure x:=by intro _;rfl) :
  PE X (.ListComp elt [⟨tg,iter,ifs,0⟩] sc pos) (zl7 wi sel g tt te):=by
 intro pins s σ H Q I h;obtain⟨cl,Cl⟩:=zle I.ok B ho;rw[eval_ListComp];refine wpAny_comprehension_free (use:=none) rfl hs Cl.run B.kind B.names (thn (hi pins s σ H _ I h) λv s1 h1=>thn h1 λitv s2 h2=>?_);obtain⟨it,fp,tn,J,H2,e,I2,T,st2,f2,h2⟩:=h2;subst e
 refine BW (zf4 (e:=.ListComp elt [⟨tg,iter,ifs,0⟩] sc pos) (inner:=λ_ _=>pure ()) (D:=λp=>{ nx:=λ_ H'=>Q (.ref p) H',rt:=λ_ _=>False }) (tb:=λp=>zdB p te) (use:=none) B ho hN hc (λacc env R s a b=>codeAny_compStart_list a b)
  (zex (iter:=iter) (pos:=pos) T hc hg ht he) I2 T st2 f2 zji rfl (h2 _ (I2.hok.fresh (Aj _))) (λC H' s' I3 fC hn hq=>?_) s2.toks cl Cl X.xe)
 obtain⟨m,hn⟩:=hn;obtain⟨_,hq⟩:=hq;exact⟨m,hn,λh' hs'=>⟨.ref s2.heap.objs.size,H',I3.let_go fC hs',rfl,hq⟩⟩
noncomputable def zkT(wi:TI)(sel:List (Option Nat))(g:TG)(tt:TT)(te:TE)(i:Nat):TS:=λD σ H=>wi σ H λJ H1=>∀p,H1 p=none ->
 zem J g (tIfs tt (zdB p te)) { nx:=λ_ H'=>D.nx (σ.set i (some (.ref p))) H',rt:=λ_ _=>False } (selSt sel σ) (upd H1 p (.lst []))
theorem zj7{i:Nat}{x:Str}{px spos:Pos}(B:BlkOk osc N sc N' sel)(hnd:X.N.Nodup)(hi':X.N[i]? = some x)(hx:Loc X.env.scope x)(hi:PI X tg iter wi)(hg:InBlk X sc N' λY => PG Y tg g)(ht:InBlk X sc N' λY => PTs Y ifs tt)(he:InBlk X sc N' λY => PE Y elt te)
  (hsw:swapsWith (.ListComp elt [⟨tg,iter,ifs,0⟩] sc pos) (some (.Name x px)) spos.line X.env=pure true:=by rfl)
  (ho:X.env.scope=osc:=by rfl) (hN:X.N=N:=by rfl) (hc:X.calm=true:=by rfl) (hs:∀x,foldedSetIterable iter X.env x=pure x:=by intro _;rfl)
  (hf:X.fn x=true∨X.env.scope.names.lookup x=some .local:=by first |exact .inl rfl |exact .inr rfl |assumption) :
  PS X (.Assign [.Name x px] (.ListComp elt [⟨tg,iter,ifs,0⟩] sc pos) spos) (zkT wi sel g tt te i):=by
 intro pins s σ H D I h;obtain⟨cl,Cl⟩:=zle I.ok B ho;rw[exec_Assign_Name_used _ _ _ _ hsw];refine Aa (DO (Aa ?_));show Ar _ X.A (do let _ <- comprehension (.ListComp elt [⟨tg,iter,ifs,0⟩] sc pos) sc X.env _ (newList []) false (eval iter X.env) (some (assign (.Name x px) X.env))) _ _ s;refine Aa (thn (wpAny_comprehension_free (use:=some (assign (.Name x px) X.env)) (Q:=λ_ s'=>SP X pins D .next s') rfl hs Cl.run B.kind B.names (thn (hi pins s σ H _ I h) λv s1 h1=>thn h1 λitv s2 h2=>?_)) λ_ s' hq=>Ah (Ah hq));obtain⟨it,fp,tn,J,H2,e,I2,T,st2,f2,h2⟩:=h2;subst e
 refine BW (zf4 (e:=.ListComp elt [⟨tg,iter,ifs,0⟩] sc pos) (inner:=λ_ _=>pure ()) (D:=λp=>{ nx:=λ_ H'=>D.nx (σ.set i (some (.ref p))) H',rt:=λ_ _=>False }) (tb:=λp=>zdB p te) (use:=some (assign (.Name x px) X.env)) B ho hN hc (λacc env R s a b=>codeAny_compStart_list a b)
  (zex (iter:=iter) (pos:=pos) T hc hg ht he) I2 T st2 f2 zji rfl (h2 _ (I2.hok.fresh (Aj _))) (λC H' s' I3 fC hn hq=>?_) s2.toks cl Cl X.xe)
 obtain⟨m,hn⟩:=hn;obtain⟨_,hq⟩:=hq;show Ar _ X.A (assign (.Name x px) X.env (.ref s2.heap.objs.size)) _ _ _;refine wpAny_assign_Name (zfx I3 hnd hi' hx (v:=.ref s2.heap.objs.size) rfl (λs4 I4 hch=>?_) hf);obtain⟨a,sb,ha⟩:=hch
 have nC:C≠a:=by
  rcases ha with z |z
  .rw[z];exact fC.2.1
  .exact λq=>fC.2.2.2.2.1 x a z q.symm
 refine⟨m,hn.sameBut sb nC,λh' hs'=>⟨_,H',I4.let_go fC hs',hq⟩⟩
end
mutual
inductive RD (K:W.Frag) (H:Hp):V->PyData->Prop where
 |non:RD K H .non .none
 |bl (b:Bool):RD K H (.bl b) (.bool b)
 |int (i:Int):RD K H (.int i) (.int i)
 |str (x:Str):RD K H (.str x) (.str x)
 |lst {a:Addr} {xs:List V} {ds:List PyData}:SqL K H a xs->RDs K H xs ds->RD K H (.ref a) (.list ds)
 |tup {a:Addr} {xs:List V} {ds:List PyData}:SqT K H a xs->RDs K H xs ds->RD K H (.ref a) (.tuple ds)
inductive RDs (K:W.Frag) (H:Hp):List V->List PyData->Prop where
 |nil:RDs K H [] []
 |cons {x:V} {xs:List V} {d:PyData} {ds:List PyData}:RD K H x d->RDs K H xs ds->RDs K H (x::xs) (d::ds)
end
section
variable {X:Cx}{pins:List (Addr×Obj)}{σ:St}{H:Hp}{s:Ac}
mutual
theorem Inv.reads(I:Inv X pins σ H s):∀{v:V}{d:PyData}{u:Value},RD X.K H v d->RelV v u->∃as,Reads s.heap u d as
 |_,_,_,.non,r=>by cases (show _=Bk from r);exact⟨_,.none⟩
 |_,_,_,.bl b,r=>by cases (show _=Dt b from r);exact⟨_,.bool b⟩
 |_,_,_,.int i,r=>by obtain⟨t,rfl⟩:=r;exact⟨_,.int i t⟩
 |_,_,_,.str x,r=>by obtain⟨t,rfl⟩:=r;exact⟨_,.str x t⟩
 |_,_,_,.lst (a:=a) hq hs,r=>by
  cases (show _=Ao a from r)
  obtain⟨its,rv,p,hz⟩:=I.list hq;obtain⟨as,ra⟩:=I.readsAll hs rv;obtain⟨o,ho,hc,n,hd⟩:=p.isList;exact⟨_,.list ho hc hd (by simpa using ra)⟩
 |_,_,_,.tup (a:=a) hq hs,r=>by
  cases (show _=Ao a from r)
  obtain⟨its,rv,p,hz⟩:=I.tuple hq;obtain⟨as,ra⟩:=I.readsAll hs rv;obtain⟨o,ho,hc,n,hd⟩:=p;exact⟨_,.tuple ho hc hd (by simpa using ra)⟩
theorem Inv.readsAll(I:Inv X pins σ H s):∀{vs:List V}{ds:List PyData}{us:List Value},RDs X.K H vs ds->Vals vs us->∃as,ReadsAll s.heap us ds as
 |_,_,_,.nil,r=>by cases r;exact⟨_,.nil⟩
 |_,_,_,.cons h t,.cons r rr=>by
  obtain⟨as,h1⟩:=I.reads h r;obtain⟨bs,h2⟩:=I.readsAll t rr;exact⟨_,.cons h1 h2⟩
end
end
theorem RDs.ints{K:W.Frag}{H:Hp}:∀(ns:List Int),RDs K H (ns.map V.int) (ns.map A0)
 |[]=>.nil
 |n::r=>.cons (.int n) (RDs.ints r)
mutual
theorem RD.mono{K:W.Frag}{H H':Hp}(hl:∀a xs,SqL K H a xs->SqL K H' a xs)(ht:∀a xs,SqT K H a xs->SqT K H' a xs):∀{v:V}{d:PyData},RD K H v d->RD K H' v d
 |_,_,.non=>.non
 |_,_,.bl b=>.bl b
 |_,_,.int i=>.int i
 |_,_,.str x=>.str x
 |_,_,.lst h t=>.lst (hl _ _ h) (RDs.mono hl ht t)
 |_,_,.tup h t=>.tup (ht _ _ h) (RDs.mono hl ht t)
theorem RDs.mono{K:W.Frag}{H H':Hp}(hl:∀a xs,SqL K H a xs->SqL K H' a xs)(ht:∀a xs,SqT K H a xs->SqT K H' a xs):∀{v:List V}{d:List PyData},RDs K H v d->RDs K H' v d
 |_,_,.nil=>.nil
 |_,_,.cons h t=>.cons (RD.mono hl ht h) (RDs.mono hl ht t)
end
noncomputable def rEqD(K:W.Frag):R2:=λx y H Q=>∃d e,RD K H x d/\RD K H y e/\Br d=true/\Br e=true/\Q (.bl (PyData.eqv d e)) H
noncomputable def rNeD(K:W.Frag):R2:=λx y H Q=>∃d e,RD K H x d/\RD K H y e/\Br d=true/\Br e=true/\Q (.bl (!PyData.eqv d e)) H
section
variable {X:Cx}
theorem zk1(hu:X.A.units+64<cLine):OpR X (BR .Eq) (rEqD X.K):=by intro pins s σ H x y v u Q I rx ry h;obtain⟨d,e,hd,he,sd,se,q⟩:=h;obtain⟨as,ra⟩:=I.reads hd rx;obtain⟨bs,rb⟩:=I.reads he ry;exact SeqAt.compareEq_shaped ra rb sd se hu ⟨.bl _,H,I,rfl,q⟩
theorem zhm(hu:X.A.units+64<cLine):OpR X (BR .NotEq) (rNeD X.K):=by intro pins s σ H x y v u Q I rx ry h;obtain⟨d,e,hd,he,sd,se,q⟩:=h;obtain⟨as,ra⟩:=I.reads hd rx;obtain⟨bs,rb⟩:=I.reads he ry;exact SeqAt.compareNe_shaped ra rb sd se hu ⟨.bl _,H,I,rfl,q⟩
noncomputable def rInD(K:W.Frag):R2:=λx y H Q=>∃p xs d ds,y=.ref p/\SqL K H p xs/\RD K H x d/\RDs K H xs ds/\Br d=true/\(∀e∈ds,Br e=true)/\Q (.bl (ds.any λe=>PyData.eqv e d)) H
theorem zdl{ds:List PyData}(h:∀e∈ds,Br e=true):Cd ds=true:=by
 induction ds with
 |nil=>rfl
 |cons d r ih=>rw[Cd,SeqAt.canLay_of_shaped (h d AQ),ih λe he=>h e (AI _ he)];rfl
theorem zmu(hu:X.A.units+65<cLine):OpR X (BR .In) (rInD X.K):=by intro pins s σ H x y v u Q I rx ry h;obtain⟨p,xs,d,ds,rfl,hq,hd,hds,sd,sds,q⟩:=h;obtain⟨as,ra⟩:=I.reads hd rx;obtain⟨bs,rb⟩:=I.reads (.lst hq hds) ry;exact SeqAt.in_list_reads rb ra (zdl sds) (SeqAt.canLay_of_shaped sd) (PyProof.Rows.room_in_shaped sd hu) ⟨.bl _,H,I,rfl,q⟩
theorem zd1:∀ns ms:List Int,PyData.eqvAll (ns.map A0) (ms.map A0)=decide (ns=ms)
 |[],[]=>rfl
 |[],_::_=>rfl
 |_::_,[]=>rfl
 |n::r,m::t=>by
  show (n == m && PyData.eqvAll (r.map A0) (t.map A0))=_;rw[zd1 r t]
  by_cases e:n=m
  .subst e;by_cases e2:r=t <;> simp[e2]
  .simp[e]
theorem zc0:∀ns:List Int,Dg (ns.map A0)=0
 |[]=>rfl
 |n::r=>by show max 0 (Dg (r.map A0))=0;rw[zc0 r];rfl
theorem zcE:∀ns:List Int,Cd (ns.map A0)=true
 |[]=>rfl
 |n::r=>by show (true && Cd (r.map A0))=true;rw[zcE r];rfl
noncomputable def tI(ns:List Int):PyData:=.tuple (ns.map .int)
theorem zez(ns ms:List Int):PyData.eqv (tI ns) (tI ms)=decide (ns=ms):=zd1 ns ms
theorem zaV(ns:List Int):Br (tI ns)=true:=by unfold Br tI;rw[PyData.canLay0,zcE,PyData.depth,zc0];rfl
end
section
variable {prog:AF}{w:A5}{A:AO}{E:Value->Ac->Prop}{s:Ac}
theorem zf0{it t:Addr}{items:Array Value}(hne:t ≠ it):∀(n i:Nat) (s:Ac) (Q:List Value -> Ac -> Prop), s.heap.IsListIter it t i -> s.heap.IsList t items -> i + n <= items.size ->
  (∀h',h'.IsListIter it t (i+n)->Cq it s.heap h'->Q ((items.toList.drop i).take n) { s with heap:=h' })->Ar (Az prog w) A (draw (.ref it) n) Q E s
 | 0,i,s,Q,hit,_,_,hQ=>by
  show Ar _ _ (pure []) Q E s;exact Ah (by simpa using hQ s.heap hit (Heap.SameBut.refl ..))
 |n+1,i,s,Q,hit,ht,hle,hQ=>by
  have hlt:i<items.size:=by lia
  show Ar _ _ (pyNext (.ref it) >>= _) Q E s;refine Aa (wpAny_pyNext_list_item hit ht (x:=items[i]) (by simp[hlt]) λh₁ hit₁ hs₁=>?_);refine Aa (Bw (zf0 hne n (i+1) _ _ hit₁ (ht.extBut hs₁.extBut hne) (by lia) λh₂ hit₂ hs₂=>Ah ?_));have hd:items.toList.drop i=items[i]::items.toList.drop (i+1):=by simp[List.drop_eq_getElem_cons,hlt]
  have:=hQ h₂ (by rw[show i+(n+1)=i+1+n by lia];exact hit₂) (hs₁.trans hs₂);rw[hd,List.take_succ_cons]at this;exact this
theorem zdo{t:Addr}{items:Array Value}{Q:List Value -> Ac -> Prop}(hh:A.handled=none)(ht:s.heap.IsList t items)
  (hQ:∀h',Heap.ExtBut s.heap.objs.size s.heap h'->Q items.toList { s with heap:=h' }):Ar (Az prog w) A (unpackItems (.ref t) items.size none) Q E s:=by
 have hlt:t≠s.heap.objs.size:=by obtain⟨o,ho,_⟩:=ht;exact AV (Ax ho)
 unfold unpackItems;refine Aa ?_
 .unfold notIterableAtAll;refine Aa (wpAny_specialOf ht.typeIs PySem.F.slot_list_iter.lookup ?_);refine Ah ?_
  simp only[BP,if_false];refine Aa (Bw (Dq ht ?_));refine Aa (Bw (zf0 hlt items.size 0 _ _ ⟨_,AB _ rfl,rfl,rfl⟩ (ht.push _) (by lia) λh₁ hit₁ hs₁=>?_))
  have hall:List.take items.size (List.drop 0 items.toList)=items.toList:=by rw[List.drop_zero];exact BY (by simp)
  rw[hall];rw[if_neg (by simp)];have ht₁:h₁.IsList t items:=(ht.push _).extBut hs₁.extBut hlt;refine Aa (Bw (wpAny_pyNext_list_end hh hit₁ ht₁ (by simp) λh₂ he₂=>?_));simp only[Option.isSome_none,BP,if_false];refine Ah (hQ h₂ λb o hb e=>he₂ b o hb (hs₁.extBut b o hb (Ag _ e)))
theorem zdh{env:Env}{elts:List Expr}{x1}{pos:Pos}{t:Addr}{items:Array Value}{Q:Unit -> Ac -> Prop}(hh:A.handled=none)(ht:s.heap.IsList t items)
  (hn:(CB elts env).length=items.size) (hstar:(CB elts env).findIdx? (·.1)=none)
  (h:∀h',Heap.ExtBut s.heap.objs.size s.heap h'->Ar (Az prog w) A (assignInOrder ((CB elts env).map (·.2)) items.toList) Q E { s with heap:=h' }) :
  Ar (Az prog w) A (assign (.Tuple elts x1 pos) env (.ref t)) Q E s:=by
 rw[assign_Tuple];refine Aa (DO ?_);unfold unpack;rw[hn,hstar];exact Aa (Bw (zdo hh ht h))
end
section
variable {X:Cx}{pos:Pos}
noncomputable def gLst(K:W.Frag)(n:Nat)(t:TGs):TG:=λv σ H Q=>∃a xs,v=.ref a/\SqL K H a xs/\xs.length=n/\t xs σ H Q
theorem zkW{es:List Expr}{k:Nat}{t:TGs}{n:Nat}(hc:X.calm=true)(h:PGs X es t)
  (hn:(CB es X.env).length=n:=by rfl) (hst:(CB es X.env).findIdx? (·.1)=none:=by rfl):PG X (.Tuple es k pos) (gLst X.K n t):=by
 intro pins s σ H v u Q I r hw;obtain⟨a,xs,e1,hq,hl,hw⟩:=hw;subst e1
 cases r
 obtain⟨its,rv,ht,hz⟩:=I.list hq;refine zdh (I.ok.hd hc) ht.isList (by simp[hn,<- hl,rv.length]) hst λh' hx=>?_
 have I1:Inv X pins σ H { s with heap:=h' }:=I.kept (t':=s.toks) λb o e=>hx b o (AV (Ax e)) e
 exact h pins _ σ H xs _ Q I1 (by simpa using rv) hw
noncomputable def CDivB(i j:Int):Prop:=0<j/\j.natAbs.log2<9000
theorem zkd:OpR X (CV .FloorDiv) (rI CDivB λi j=>.int (i / j)):=opI λi j _ _ _ _ _ hc q=>by have e:i.fdiv j=i / j:=Int.fdiv_eq_ediv_of_nonneg i (Int.le_of_lt hc.1);rw[<- e]at q;exact floordiv_int (by have:=hc.1;lia) q (.inl (PyProof.noPylong_of_log2 hc.2))
theorem zf6 (hh:X.calm=true):CallR X (.builtin "all") (λxs H Q=>∃(p:Addr) (bs:List Bool),xs=[.ref p]/\SqL X.K H p (bs.map V.bl)/\Q (.bl (bs.all id)) H):=by
 intro pins s σ H xs us Q I r h;obtain⟨p,bs,rfl,hq,q⟩:=h;obtain⟨u,rfl,ru⟩:=vals1 r
 cases (show u=Ao p from ru)
 obtain⟨its,rv,pl,hz⟩:=I.list hq;have hlp:p<s.heap.objs.size:=by obtain⟨o,ho,_⟩:=pl.isList;exact Ax ho
 have hlen:its.length=bs.length:=by have:=rv.length;simpa using this.symm
 refine call_all_walk (Dq pl.isList ?_);refine⟨_,_,_,_,_,_,λi=>bs.getD i true,rfl,Walks.list (A:=X.A.in1) (I.ok.hd hh) s.heap.objs.size p (AV hlp) its.toArray,⟨⟨_,AB _ rfl,rfl,rfl⟩,pl.isList.push _⟩,?_,λh' tk hk=>?_⟩
 .intro i v s1 Q1 E1 hv hQ;have hv':its[i]?=some v:=by simpa using hv
  have hi:i<its.length:=(Ad.mp hv').1;obtain⟨w',hw,rw'⟩:=rv.get (i:=i) (x:=V.bl (bs[i]'(by lia))) (by simp[Ab,show i<bs.length by lia]);rw[hv']at hw
  cases hw
  cases (show v=Dt _ from rw')
  refine BV ?_
  have e:bs.getD i true=bs[i]'(by lia):=by simp[Bh,show i<bs.length by lia]
  rw[<- e];exact hQ
 .have I1:Inv X pins σ H { s with heap:=h',toks:=tk }:=I.kept λb o e=>hk b o (by simp;exact AV (Ax e)) (Ag _ e)
  refine⟨.bl _,H,I1,rfl,?_⟩
  have e:(BD its.toArray.size).all (λi=>bs.getD i true)=bs.all id:=by
   rw[show its.toArray.size=bs.length by simpa using hlen];rw[DS];simp only[List.all_eq_true,List.mem_range,id];constructor
   .intro h b hb;obtain⟨i,hi,e⟩:=AZ hb;have:=h i hi;simpa[Bh,hi,e]using this
   .intro h i hi;have:=h bs[i] (BE hi);simpa[Bh,hi]using this
  rw[e];exact q
end
section
variable {X:Cx}
theorem zbk:CallR X (.builtin "isinstance") (λxs H Q=>∃x T t b,xs=[x,.ty T]/\TyOf X.K H x t/\W.kitOne X.K t (.type T)=some b/\Q (.bl b) H):=by
 intro pins s σ H xs us Q I r h;obtain⟨x,T,t,b,rfl,ty,e,q⟩:=h;obtain⟨u,w',rfl,ru,rw'⟩:=vals2 r
 cases (show w'=Value.type T from rw')
 exact zjs I ru ty e λtk=>⟨.bl b,H,I.tok tk,rfl,q⟩
end
end L2
namespace HT
open PySem PyProof.Rows
section
open PySem.SeqAt
open PySem.AutoSeq1 (wpAny_loadPart')
open PySem.MeetsSeq PySem.MeetsSeq2 PySem.MeetsSeq3
end
section
variable {prog:AF}{w:A5}{A:AO}{E:Value->Ac->Prop}{s:Ac}
end
end HT
namespace L2
open PySem PySem.Spec PyProof.Rows
section
variable {X:Cx}
end
section
variable {X:Cx}
end
section
variable {X:Cx}{k:Nat}{f:Addr}{fd:BC}{ps:List Str}{sp:Sp}{pins:List (Addr×Obj)}{σ:St}
theorem ziS{H:Hp}{s:Ac}{Q:VK}{us:List Value}{vs:List V}{E:Value -> Ac -> Prop}(F:FnOk X.prog X.w X.K X.mg X.base CX0 k f fd ps sp)(hr:Room (k + 1) X.A)(hb:Binds X.K fd ps [])
  (I:Inv X pins σ H s) (r:Vals vs us) (h:sp vs H Q E0):Ar (Az X.prog X.w) X.A.in1 (call (.ref f) us) (EP X pins σ Q) E s:=by
 have hl:(us++[]).length=ps.length:=by rw[AE,<- r.length];exact F.len _ _ _ _ h
 have hb':=hb s us I.kIn hl;rw[AE]at hb';refine wpAny_call (Db (F.run X.A.in1 X.stack s H ⟨us,[]⟩ us vs Q E0 hr.in1 I.env0.in1 hb' r h) λr s' hq=>?_)
 cases r with
 |error e=>exact Bu hq
 |ok fl =>
  cases fl with
  |ret u=>exact I.after hq
  |next=>exact Bu hq
  |brk=>exact Bu hq
  |cont=>exact Bu hq
theorem Inv.moved{H:Hp}{s:Ac}{b:Addr}{h':Heap}{t':Nat}(I:Inv X pins σ H s)(fb:FpOk X pins H b)(hk:∀c o,c ∉ [b]->s.heap.get? c=some o->h'.get? c=some o):Inv X pins σ H { s with heap:=h',toks:=t' } :=
 I.turned (λc o hc e=>hk c o (λz=>hc (Ak.mp z)) e) fb.1 fb.2.1 fb.2.2.2.1 fb.2.2.2.2.1 fb.2.2.2.2.2
theorem FpOk.again{H H':Hp}{b:Addr}(fb:FpOk X pins H b)(hn:H' b=none):FpOk X pins H' b:=⟨hn,fb.2⟩
structure MK (X:Cx) (pins:List (Addr×Obj)) (σ:St) (H:Hp) (s:Ac) (it st l:Addr) (j:Nat) (vb kb:Value):Prop where
 inv:Inv X pins σ H s
 fi:FpOk X pins H it
 fs:FpOk X pins H st
 ne:st≠it
 iter:s.heap.IsListIter it l j
 hold:∃c,s.heap.get? st=some (BG "list" #[vb,kb] c)
noncomputable def Least(κ:Nat->List Int)(n i:Nat):Prop:=∀j,j<n->HT.lexLt (κ j) (κ i)=false/\(j<i->HT.lexLt (κ i) (κ j)=true)
end
end L2
namespace HT
theorem lexLt_irrefl:∀a:List Int,lexLt a a=false
 |[]=>rfl
 |x::r=>by rw[lexLt_cons,if_pos rfl];exact lexLt_irrefl r
theorem lexLt_trans:∀{a b c:List Int},lexLt a b=true->lexLt b c=true->lexLt a c=true
 |[],[],_,h,_=>by cases h
 |[],_::_,[],_,h=>by cases h
 |[],_::_,_::_,_,_=>rfl
 |_::_,[],_,h,_=>by cases h
 |_::_,_::_,[],_,h=>by cases h
 |x::a,y::b,z::c,h,g=>by
  rw[lexLt_cons]at h g ⊢
  by_cases e1:x=y
  .subst e1;rw[if_pos rfl]at h
   by_cases e2:x=z
   .subst e2;rw[if_pos rfl]at g ⊢;exact lexLt_trans h g
   .rw[if_neg e2]at g ⊢;exact g
  .rw[if_neg e1]at h;have h':x<y:=by simpa using h
   by_cases e2:y=z
   .subst e2;rw[if_neg e1];exact h
   .rw[if_neg e2]at g;have g':y<z:=by simpa using g
    rw[if_neg (by lia)];exact decide_eq_true (by lia)
theorem lexLt_total:∀{a b:List Int},lexLt a b=false->lexLt b a=false->a=b
 |[],[],_,_=>rfl
 |[],_::_,h,_=>by cases h
 |_::_,[],_,h=>by cases h
 |x::a,y::b,h,g=>by
  rw[lexLt_cons]at h g
  by_cases e:x=y
  .subst e;rw[if_pos rfl]at h g;rw[lexLt_total h g]
  .rw[if_neg e]at h;rw[if_neg (Bx e)]at g;have h':¬ x<y:=by simpa using h
   have g':¬ y<x:=by simpa using g
   lia
theorem lexLt_of_not_lt_lt{a b c:List Int}(h:lexLt b a=false)(g:lexLt b c=true):lexLt a c=true:=by
 cases e:lexLt a b with
 |true=>exact lexLt_trans e g
 |false=>rw[lexLt_total e h];exact g
theorem lexLt_asym{a b:List Int}(h:lexLt a b=true):lexLt b a=false:=by
 cases e:lexLt b a with
 |false=>rfl
 |true=>have:=lexLt_trans h e;rw[lexLt_irrefl]at this;cases this
end HT
namespace L2
open PySem PySem.Spec PyProof.Rows
section
variable {X:Cx}{k:Nat}{f:Addr}{fd:BC}{ps:List Str}{sp:Sp}{pins:List (Addr×Obj)}{σ:St}{H0:Hp}{Q:VK}{l it st:Addr}{xs:List V}{κ:Nat->List Int}
noncomputable def MKR(X:Cx)(pins:List (Addr×Obj))(σ:St)(Q:VK):Result->Ac->Prop:=λr s'=>match r with
 |.ok (.ret v)=>EP X pins σ Q v s'
 |.ok _=>False
 |.error e=>X.xe e s'
theorem zcx {xs:Array Value}{c:Nat}:∀v,(BG "list" xs c).data≠.cell v:=λv h=>by cases h
theorem zdS{h:Heap}{it l:Addr}{j:Nat}(hi:h.IsListIter it l j):∃o,h.get? it=some o/\∀v,o.data≠.cell v:=by obtain⟨o,ho,_,hd⟩:=hi;exact⟨o,ho,λv z=>by rw[hd]at z;cases z⟩
theorem zj1{H:Hp}{s:Ac}{Q1:VK}{u:Value}{x:V}{E:Value -> Ac -> Prop}{j:Nat}{vb kb:Value}(F:FnOk X.prog X.w X.K X.mg X.base CX0 k f fd ps sp)(hr:Room (k + 1) X.A)(hb:Binds X.K fd ps [])
    (M:MK X pins σ H s it st l j vb kb) (r:RelV x u) (h:sp [x] H Q1 E0):Ar (Az X.prog X.w) X.A.in1 (call (.ref f) [u]) (λv s'=>∃y H',RelV y v/\Q1 y H'/\MK X pins σ H' s' it st l j vb kb) E s:=by
  obtain⟨c,hc⟩:=M.hold;obtain⟨oi,hoi,ci,di⟩:=id M.iter
  have I1:Inv X (pins ++ zdj [it, st] s.heap) σ H s := M.inv.pinned (λb hb => by
      rcases At.mp hb with rfl |hb
      . exact M.fi
      . rw[Ak.mp hb];exact M.fs) (λb hb=>by
      rcases At.mp hb with rfl |hb
      . exact zdS M.iter
      . rw[Ak.mp hb];exact⟨_,hc,zcx⟩)
  refine Bv (ziS F hr hb I1 (.cons r .nil) h) (λv s' hv=>?_) λ_ _ e=>e
  obtain⟨y,H',I2,ry,q⟩:=hv;have p1:=I2.pin (it,oi) (An _ (An _ (za0 (by simp) hoi)));have p2:=I2.pin (st,BG "list" #[vb,kb] c) (An _ (An _ (za0 (by simp) hc)));exact⟨y,H',ry,q,I2.unpinned,M.fi.again p1.2.1,M.fs.again p2.2.1,M.ne,⟨oi,p1.1,ci,di⟩,c,p2.1⟩
theorem zjh{H:Hp}{s:Ac}{a b:Addr}{ns ms:List Int}{E:Value -> Ac -> Prop}{Q1:Value -> Ac -> Prop}(hu:X.A.units + 1 < cLine)(I:Inv X pins σ H s)(ha:SqT X.K H a (ns.map V.int))(hb:SqT X.K H b (ms.map V.int))(q:Q1 (.bool (HT.lexLt ns ms)) s) :
  Ar (Az X.prog X.w) X.A.in1 (richCompare .Lt (.ref a) (.ref b)) Q1 E s:=by
 obtain⟨its,r1,p1,_⟩:=I.tuple ha;obtain⟨its2,r2,p2,_⟩:=I.tuple hb;exact (HT.lt_tupInts p1 p2 (zew r1) (zew r2) hu q:Ar (Az X.prog X.w) X.A.in1 (BR .Lt (.ref a) (.ref b)) Q1 E s)
theorem MK.set{H:Hp}{s:Ac}{j:Nat}{vb kb v kv:Value}(M:MK X pins σ H s it st l j vb kb):MK X pins σ H { s with heap:=s.heap.update st (Ba λ_=>#[v,kv]) } it st l j v kv:=by obtain⟨c,hc⟩:=M.hold;have sb:=BK s.heap st (Ba λ_=>#[v,kv]);obtain⟨oi,hoi,ci,di⟩:=id M.iter;exact⟨M.inv.moved (t':=s.toks) M.fs (λb o hb e=>(sb.2 b λz=>hb (by simp[z])).trans e),M.fi,M.fs,M.ne,⟨oi,(sb.2 it M.ne.symm).trans hoi,ci,di⟩,_,DV hc λ_=>#[v,kv]⟩
theorem Least.next{n i:Nat}(h:Least κ n i)(e:HT.lexLt (κ n) (κ i)=false)(hi:i<n):Least κ (n+1) i:=λj hj=>by
 by_cases z:j=n
 .subst z;exact⟨e,λq=>absurd q (by lia)⟩
 .exact h j (by lia)
theorem Least.take{n i:Nat}(h:Least κ n i)(e:HT.lexLt (κ n) (κ i)=true)(hi:i<n):Least κ (n+1) n:=λj hj=>by
 by_cases z:j=n
 .subst z;exact⟨HT.lexLt_irrefl _,λq=>absurd q (by lia)⟩
 .have g:=(h j (by lia)).1
  have t:HT.lexLt (κ n) (κ j)=true:=by
   cases q:HT.lexLt (κ i) (κ j) with
   |true=>exact HT.lexLt_trans e q
   |false=>rw[<- HT.lexLt_total q g];exact e
  exact⟨HT.lexLt_asym t,λ_=>t⟩
theorem Room.un1{n:Nat}{A:AO}(r:Room n A):A.units+1<cLine:=by have:=r.units;lia
theorem Same.seqT{K:W.Frag}{H H':Hp}{a:Addr}{xs:List V}(e:Same H H')(h:SqT K H a xs):SqT K H' a xs:=by
 rcases h with (h |⟨o,h⟩) |h
 .exact .inl (.inl (e _ _ h))
 .exact .inl (.inr ⟨o,e _ _ h⟩)
 .exact .inr h
theorem zjf(hh:X.A.handled=none)(F:FnOk X.prog X.w X.K X.mg X.base CX0 k f fd ps sp)(hr:Room (k + 1) X.A)(hb:Binds X.K fd ps [])
  (turn:∀i x H,xs[i]?=some x->Same H0 H->sp [x] H (λv H'=>Same H H'/\∃a,v=.ref a/\SqT X.K H' a ((κ i).map V.int)) E0)
  (hl:SqL X.K H0 l xs) (hli:l≠it) (hQ:∀i x H',xs[i]?=some x->Least κ xs.length i->Same H0 H'->Q x H') :
  ∀(r j i:Nat) (H:Hp) (s:Ac) (vb:Value) (xb:V) (b:Addr),xs.length-(j+1)=r->j+1<=xs.length->Same H0 H->MK X pins σ H s it st l (j+1) vb (.ref b)->xs[i]?=some xb->RelV xb vb->SqT X.K H b ((κ i).map V.int)->i<=j->Least κ (j+1) i ->
   Da (Az X.prog X.w) X.A (.builtin "min.loop" ⟨[.ref it,.ref f,.ref st],[]⟩) (MKR X pins σ Q) s:=by
 have nm:(Dv "min" ++ Dv ".loop" : String) = "min.loop":=by decide
 intro r
 induction r with
 |zero =>
  intro j i H s vb xb b hr0 hj hS M hxb rb kb' hij best;have hend:j+1=xs.length:=by lia
  obtain⟨its,rv,pl,hz⟩:=M.inv.list (hS.seq hl);have hlen:its.length=xs.length:=rv.length.symm;have W:=Walks.list (prog:=X.prog) (w:=X.w) (A:=X.A.in1) hh it l hli its.toArray;obtain⟨c,hc⟩:=M.hold;refine Dh Ce ?_
  rw[Cw A8 _];show Ar _ X.A.in1 (seqItems? (.ref st) >>= _) _ _ _;refine Aa (Dw hc rfl ?_);show Ar _ X.A.in1 (tryCatch (pyNext (.ref it)) _ >>= _) _ _ _;refine Aa (Cf (W.done _ _ _ ⟨by rw[As,hlen,<- hend];exact M.iter,pl.isList⟩ λh1 tk1 hk1=>?_));have I1:=M.inv.moved (t':=tk1) M.fi hk1;have hc1:=hk1 st _ (by simpa using M.ne) hc;have sb:=BK h1 st (Ba λ_=>(#[]:Array Value));show Ar _ X.A.in1 (updateSeq st (λ_=>#[]) >>= _) _ _ _;refine Aa ?_
  refine Di hc1 rfl (Aa (C8 (Ah ?_)));have I2:Inv X pins σ H { s with heap:=h1.update st (Ba λ_=>(#[]:Array Value)),toks:=tk1 }:=I1.moved (s:={ s with heap:=h1,toks:=tk1 }) (t':=tk1) M.fs (λb o hb e=>(sb.2 b λz=>hb (by simp[z])).trans e);exact⟨xb,H,I2,rb,hQ i xb H hxb (by rw[<- hend];exact best) hS⟩
 |succ r ih =>
  intro j i H s vb xb b hr0 hj hS M hxb rb kb' hij best;have hlt:j+1<xs.length:=by lia
  obtain⟨its,rv,pl,hz⟩:=M.inv.list (hS.seq hl);have hlen:its.length=xs.length:=rv.length.symm;have W:=Walks.list (prog:=X.prog) (w:=X.w) (A:=X.A.in1) hh it l hli its.toArray;obtain⟨c,hc⟩:=M.hold;refine Dh Ce ?_
  rw[Cw A8 _];show Ar _ X.A.in1 (seqItems? (.ref st) >>= _) _ _ _;refine Aa (Dw hc rfl ?_);show Ar _ X.A.in1 (tryCatch (pyNext (.ref it)) _ >>= _) _ _ _;refine Aa (Cf (W.item (j+1) _ _ _ (by rw[As,hlen];exact hlt) ⟨M.iter,pl.isList⟩ λv h1 tk1 hP hst1 hk1=>?_));have hv:its[j+1]?=some v:=by simpa using hP
  obtain⟨x,hx⟩:∃x,xs[j+1]?=some x:=⟨_,Ab hlt⟩;obtain⟨v',hv',rx⟩:=rv.get hx;rw[hv]at hv'
  cases hv'
  have M1:MK X pins σ H { s with heap:=h1,toks:=tk1 } it st l (j+1+1) vb (.ref b):=⟨M.inv.moved (t':=tk1) M.fi hk1,M.fi,M.fs,M.ne,hst1.1,c,hk1 st _ (by simpa using M.ne) hc⟩;show Ar _ X.A.in1 (tryCatch (holding [v] (call (.ref f) [v])) _ >>= _) _ _ _;refine Aa (Cf (Bw (Bv (zj1 F hr hb M1 rx (turn (j+1) x H hx hS) (E:=λ_ _=>False)) (λkv s2 he=>?_) λ_ _ hF=>hF.elim)));obtain⟨y,H2,ry,⟨hS2,a2,ey,ka2⟩,M2⟩:=he;subst ey
  cases (show kv=Ao a2 from ry)
  have hS3:=hS.trans hS2;have kb2:SqT X.K H2 b ((κ i).map V.int):=hS2.seqT kb';show Ar _ X.A.in1 (tryCatch (holding [v,.ref a2] (richCompare .Lt (.ref a2) (.ref b) >>= _)) _ >>= _) _ _ _;refine Aa (Cf (Bw (Aa (zjh hr.un1 M2.inv ka2 kb2 ?_))));refine Aa (Bw (BV ?_));refine Aa (C8 (Ah ?_));obtain⟨c2,hc2⟩:=M2.hold
  by_cases hbt:HT.lexLt (κ (j+1)) (κ i)=true
  .simp only[hbt,if_true];refine Aa ?_
   refine Di hc2 rfl (Aa (C8 ?_));rw[nm];exact Ah ⟨C4 A8 _,ih (j+1) (j+1) H2 _ v _ a2 (by lia) hlt hS3 M2.set hx rx ka2 (Aj _) (best.take hbt (by lia))⟩
  .have hbf:HT.lexLt (κ (j+1)) (κ i)=false:=by simpa using hbt
   simp only[hbf,BP,if_false];refine Aa (C8 ?_);rw[nm];exact Ah ⟨C4 A8 _,ih (j+1) i H2 _ vb _ b (by lia) hlt hS3 M2 hxb rb kb2 (by lia) (best.next hbf (by lia))⟩
theorem zje(hh:X.A.handled=none)(hu:X.A.units + 1 < cLine)
  (turn:∀i x,xs[i]?=some x->∃a,x=.ref a/\SqT X.K H0 a ((κ i).map V.int))
  (hl:SqL X.K H0 l xs) (hli:l≠it) (hQ:∀i x H',xs[i]?=some x->Least κ xs.length i->Same H0 H'->Q x H') :
  ∀(r j i:Nat) (H:Hp) (s:Ac) (vb:Value) (xb:V) (b:Addr),xs.length-(j+1)=r->j+1<=xs.length->Same H0 H->MK X pins σ H s it st l (j+1) vb (.ref b)->xs[i]?=some xb->RelV xb vb->SqT X.K H b ((κ i).map V.int)->i<=j->Least κ (j+1) i ->
   Da (Az X.prog X.w) X.A (.builtin "min.loop" ⟨[.ref it,.none,.ref st],[]⟩) (MKR X pins σ Q) s:=by
 have nm:(Dv "min" ++ Dv ".loop" : String) = "min.loop":=by decide
 intro r
 induction r with
 |zero =>
  intro j i H s vb xb b hr0 hj hS M hxb rb kb' hij best;have hend:j+1=xs.length:=by lia
  obtain⟨its,rv,pl,hz⟩:=M.inv.list (hS.seq hl);have hlen:its.length=xs.length:=rv.length.symm;have W:=Walks.list (prog:=X.prog) (w:=X.w) (A:=X.A.in1) hh it l hli its.toArray;obtain⟨c,hc⟩:=M.hold;refine Dh Ce ?_
  rw[Cw A8 _];show Ar _ X.A.in1 (seqItems? (.ref st) >>= _) _ _ _;refine Aa (Dw hc rfl ?_);show Ar _ X.A.in1 (tryCatch (pyNext (.ref it)) _ >>= _) _ _ _;refine Aa (Cf (W.done _ _ _ ⟨by rw[As,hlen,<- hend];exact M.iter,pl.isList⟩ λh1 tk1 hk1=>?_));have I1:=M.inv.moved (t':=tk1) M.fi hk1;have hc1:=hk1 st _ (by simpa using M.ne) hc;have sb:=BK h1 st (Ba λ_=>(#[]:Array Value));show Ar _ X.A.in1 (updateSeq st (λ_=>#[]) >>= _) _ _ _;refine Aa ?_
  refine Di hc1 rfl (Aa (C8 (Ah ?_)));have I2:Inv X pins σ H { s with heap:=h1.update st (Ba λ_=>(#[]:Array Value)),toks:=tk1 }:=I1.moved (s:={ s with heap:=h1,toks:=tk1 }) (t':=tk1) M.fs (λb o hb e=>(sb.2 b λz=>hb (by simp[z])).trans e);exact⟨xb,H,I2,rb,hQ i xb H hxb (by rw[<- hend];exact best) hS⟩
 |succ r ih =>
  intro j i H s vb xb b hr0 hj hS M hxb rb kb' hij best;have hlt:j+1<xs.length:=by lia
  obtain⟨its,rv,pl,hz⟩:=M.inv.list (hS.seq hl);have hlen:its.length=xs.length:=rv.length.symm;have W:=Walks.list (prog:=X.prog) (w:=X.w) (A:=X.A.in1) hh it l hli its.toArray;obtain⟨c,hc⟩:=M.hold;refine Dh Ce ?_
  rw[Cw A8 _];show Ar _ X.A.in1 (seqItems? (.ref st) >>= _) _ _ _;refine Aa (Dw hc rfl ?_);show Ar _ X.A.in1 (tryCatch (pyNext (.ref it)) _ >>= _) _ _ _;refine Aa (Cf (W.item (j+1) _ _ _ (by rw[As,hlen];exact hlt) ⟨M.iter,pl.isList⟩ λv h1 tk1 hP hst1 hk1=>?_));have hv:its[j+1]?=some v:=by simpa using hP
  obtain⟨x,hx⟩:∃x,xs[j+1]?=some x:=⟨_,Ab hlt⟩;obtain⟨v',hv',rx⟩:=rv.get hx;rw[hv]at hv'
  cases hv'
  have M1:MK X pins σ H { s with heap:=h1,toks:=tk1 } it st l (j+1+1) vb (.ref b):=⟨M.inv.moved (t':=tk1) M.fi hk1,M.fi,M.fs,M.ne,hst1.1,c,hk1 st _ (by simpa using M.ne) hc⟩;obtain⟨a2,ex,ka2'⟩:=turn (j+1) x hx;subst ex
  cases (show v=Ao a2 from rx)
  have hS3:=hS;have M2:=M1;have ka2:SqT X.K H a2 ((κ (j+1)).map V.int):=hS.seqT ka2';have kb2:=kb';show Ar _ X.A.in1 (pure (Ao a2) >>= _) _ _ _;refine Aa (Ah ?_);show Ar _ X.A.in1 (tryCatch (holding [.ref a2,.ref a2] (richCompare .Lt (.ref a2) (.ref b) >>= _)) _ >>= _) _ _ _;refine Aa (Cf (Bw (Aa (zjh hu M2.inv ka2 kb2 ?_))));refine Aa (Bw (BV ?_));refine Aa (C8 (Ah ?_));obtain⟨c2,hc2⟩:=M2.hold
  by_cases hbt:HT.lexLt (κ (j+1)) (κ i)=true
  .simp only[hbt,if_true];refine Aa ?_
   refine Di hc2 rfl (Aa (C8 ?_));rw[nm];exact Ah ⟨C4 A8 _,ih (j+1) (j+1) H _ (.ref a2) _ a2 (by lia) hlt hS3 M2.set hx rx ka2 (Aj _) (best.take hbt (by lia))⟩
  .have hbf:HT.lexLt (κ (j+1)) (κ i)=false:=by simpa using hbt
   simp only[hbf,BP,if_false];refine Aa (C8 ?_);rw[nm];exact Ah ⟨C4 A8 _,ih (j+1) i H _ vb _ b (by lia) hlt hS3 M2 hxb rb kb2 (by lia) (best.next hbf (by lia))⟩
end
theorem zjg (a:Value):argsOk "min" ⟨[a],[]⟩:=by unfold argsOk;kernel_rfl
section
variable {X:Cx}{k:Nat}{f:Addr}{fd:BC}{ps:List Str}{sp:Sp}{pins:List (Addr×Obj)}{σ:St}{H0:Hp}{Q:VK}{l it st:Addr}{xs:List V}{κ:Nat->List Int}
structure MK0 (X:Cx) (pins:List (Addr×Obj)) (σ:St) (H:Hp) (s:Ac) (it st l:Addr) (j:Nat):Prop where
 inv:Inv X pins σ H s
 fi:FpOk X pins H it
 fs:FpOk X pins H st
 ne:st≠it
 iter:s.heap.IsListIter it l j
 hold:∃c,s.heap.get? st=some (BG "list" #[] c)
theorem ziT{H:Hp}{s:Ac}{Q1:VK}{u:Value}{x:V}{E:Value -> Ac -> Prop}{j:Nat}(F:FnOk X.prog X.w X.K X.mg X.base CX0 k f fd ps sp)(hr:Room (k + 1) X.A)(hb:Binds X.K fd ps [])
    (M:MK0 X pins σ H s it st l j) (r:RelV x u) (h:sp [x] H Q1 E0):Ar (Az X.prog X.w) X.A.in1 (call (.ref f) [u]) (λv s'=>∃y H',RelV y v/\Q1 y H'/\MK0 X pins σ H' s' it st l j) E s:=by
  obtain⟨c,hc⟩:=M.hold;obtain⟨oi,hoi,ci,di⟩:=id M.iter
  have I1:Inv X (pins ++ zdj [it, st] s.heap) σ H s := M.inv.pinned (λb hb => by
      rcases At.mp hb with rfl |hb
      . exact M.fi
      . rw[Ak.mp hb];exact M.fs) (λb hb=>by
      rcases At.mp hb with rfl |hb
      . exact zdS M.iter
      . rw[Ak.mp hb];exact⟨_,hc,zcx⟩)
  refine Bv (ziS F hr hb I1 (.cons r .nil) h) (λv s' hv=>?_) λ_ _ e=>e
  obtain⟨y,H',I2,ry,q⟩:=hv;have p1:=I2.pin (it,oi) (An _ (An _ (za0 (by simp) hoi)));have p2:=I2.pin (st,BG "list" #[] c) (An _ (An _ (za0 (by simp) hc)));exact⟨y,H',ry,q,I2.unpinned,M.fi.again p1.2.1,M.fs.again p2.2.1,M.ne,⟨oi,p1.1,ci,di⟩,c,p2.1⟩
theorem MK0.set{H:Hp}{s:Ac}{j:Nat}{v kv:Value}(M:MK0 X pins σ H s it st l j):MK X pins σ H { s with heap:=s.heap.update st (Ba λ_=>#[v,kv]) } it st l j v kv:=by obtain⟨c,hc⟩:=M.hold;have sb:=BK s.heap st (Ba λ_=>#[v,kv]);obtain⟨oi,hoi,ci,di⟩:=id M.iter;exact⟨M.inv.moved (t':=s.toks) M.fs (λb o hb e=>(sb.2 b λz=>hb (by simp[z])).trans e),M.fi,M.fs,M.ne,⟨oi,(sb.2 it M.ne.symm).trans hoi,ci,di⟩,_,DV hc λ_=>#[v,kv]⟩
theorem zjN{s:Ac}(hh:X.A.handled=none)(F:FnOk X.prog X.w X.K X.mg X.base CX0 k f fd ps sp)(hr:Room (k + 1) X.A)(hb:Binds X.K fd ps [])
  (turn:∀i x H,xs[i]?=some x->Same H0 H->sp [x] H (λv H'=>Same H H'/\∃a,v=.ref a/\SqT X.K H' a ((κ i).map V.int)) E0)
  (hl:SqL X.K H0 l xs) (hne:0<xs.length) (hQ:∀i x H',xs[i]?=some x->Least κ xs.length i->Same H0 H'->Q x H') (I:Inv X pins σ H0 s) :
  Ar (Az X.prog X.w) X.A (call (.builtin "min") [.ref l] [(Aq "key",.ref f)]) (EP X pins σ Q) X.xe s:=by
 have nm:(Dv "min" ++ Dv ".loop" : String) = "min.loop":=by decide
 obtain⟨its,rv,pl,hz⟩:=I.list hl;have hlen:its.length=xs.length:=rv.length.symm;have hll:l<s.heap.objs.size:=by obtain⟨o,ho,_⟩:=pl.isList;exact Ax ho
 refine kmk_tree PySem.F.kind_min PySem.F.plain_min PySem.F.entry_min (kmk_min_key _ _) ?_
 show Ar _ X.A.in1 (CI "min" ["key","default"] 0 ⟨[],[(Aq "key",.ref f)]⟩ >>= _) _ _ s;refine Aa (wpAny_of_eq (show CI "min" ["key","default"] 0 ⟨[],[(Aq "key",.ref f)]⟩=pure [some (.ref f),none] from rfl) ?_);refine Aa (Ah ?_);refine Aa (Dq pl.isList ?_);refine Aa (wpAny_newList ?_ (A6 _));rw[nm];refine Ah ⟨C4 A8 _,?_⟩;have keep:∀b o,s.heap.get? b=some o->((s.heap.push { cls:=.type "list_iterator",data:=.fields #[.ref l,.int 0 0] }).push (BG "list" #[] 0)).get? b=some o:=λb o e=>Ag _ (Ag _ e)
 have gi:((s.heap.push { cls:=.type "list_iterator",data:=.fields #[.ref l,.int 0 0] }).push (BG "list" #[] 0)).get? s.heap.objs.size=some { cls:=.type "list_iterator",data:=.fields #[.ref l,.int 0 0] }:=Ag _ (AB _ rfl);have hsS:(s.heap.push { cls:=.type "list_iterator",data:=.fields #[.ref l,.int 0 0] }).objs.size=s.heap.objs.size+1:=size_push' ..;have gs:((s.heap.push { cls:=.type "list_iterator",data:=.fields #[.ref l,.int 0 0] }).push (BG "list" #[] 0)).get? (s.heap.objs.size+1)=some (BG "list" #[] 0):=by rw[<- hsS];exact AB _ rfl
 rw[hsS];have I1:Inv X pins σ H0 { s with heap:=(s.heap.push { cls:=.type "list_iterator",data:=.fields #[.ref l,.int 0 0] }).push (BG "list" #[] 0) }:=I.kept (t':=s.toks) keep;have fi:FpOk X pins H0 s.heap.objs.size:=I.fpOk (Aj _) (I.hok.fresh (Aj _));have fs:FpOk X pins H0 (s.heap.objs.size+1):=I.fpOk (B5 _) (I.hok.fresh (B5 _));have M0:MK0 X pins σ H0 _ s.heap.objs.size (s.heap.objs.size+1) l 0:=⟨I1,fi,fs,Cr (Nat.lt_succ_self _),⟨_,gi,rfl,rfl⟩,⟨0,gs⟩⟩;have hli:l≠s.heap.objs.size:=AV hll;have W:=Walks.list (prog:=X.prog) (w:=X.w) (A:=X.A.in1) hh s.heap.objs.size l hli its.toArray;refine Dh Ce ?_
 rw[Cw A8 _];show Ar _ X.A.in1 (seqItems? (.ref _) >>= _) _ _ _;refine Aa (Dw gs rfl ?_);show Ar _ X.A.in1 (tryCatch (pyNext (.ref s.heap.objs.size)) _ >>= _) _ _ _;obtain⟨its2,rv2,pl2,_⟩:=I1.list hl;refine Aa (Cf (W.item 0 _ _ _ (by rw[As,hlen];exact hne) ⟨M0.iter,pl.isList.at λo e=>keep _ _ e⟩ λv h1 tk1 hP hst1 hk1=>?_));have hv:its[0]?=some v:=by simpa using hP
 obtain⟨x,hx⟩:∃x,xs[0]?=some x:=⟨_,Ab hne⟩;obtain⟨v',hv',rx⟩:=rv.get hx;rw[hv]at hv'
 cases hv'
 have M1:MK0 X pins σ H0 { s with heap:=h1,toks:=tk1 } s.heap.objs.size (s.heap.objs.size+1) l 1:=⟨I1.moved (t':=tk1) fi hk1,fi,fs,M0.ne,hst1.1,0,hk1 _ _ (by simp) gs⟩;show Ar _ X.A.in1 (tryCatch (holding [v] (call (.ref f) [v])) _ >>= _) _ _ _;refine Aa (Cf (Bw (Bv (ziT F hr hb M1 rx (turn 0 x H0 hx (Same.refl _)) (E:=λ_ _=>False)) (λkv s2 he=>?_) λ_ _ hF=>hF.elim)));obtain⟨y,H2,ry,⟨hS2,a2,ey,ka2⟩,M2⟩:=he;subst ey
 cases (show kv=Ao a2 from ry)
 obtain⟨c2,hc2⟩:=M2.hold;show Ar _ X.A.in1 (updateSeq (s.heap.objs.size+1) (λ_=>#[v,.ref a2]) >>= _) _ _ _;refine Aa ?_
 refine Di hc2 rfl ?_
 rw[nm];refine Ah ⟨C4 A8 _,?_⟩
 exact Db (zjf hh F hr hb turn hl hli hQ _ 0 0 H2 _ v _ a2 rfl hne hS2 M2.set hx rx ka2 (Aj _) (λj hj=>by
  have e:j=0:=by lia
  subst e;exact⟨HT.lexLt_irrefl _,λz=>absurd z (Ca _)⟩)) λr s' hr'=>hr'
theorem zjM{s:Ac}(hh:X.A.handled=none)(hu:X.A.units + 1 < cLine)
  (turn:∀i x,xs[i]?=some x->∃a,x=.ref a/\SqT X.K H0 a ((κ i).map V.int))
  (hl:SqL X.K H0 l xs) (hne:0<xs.length) (hQ:∀i x H',xs[i]?=some x->Least κ xs.length i->Same H0 H'->Q x H') (I:Inv X pins σ H0 s) :
  Ar (Az X.prog X.w) X.A (call (.builtin "min") [.ref l] []) (EP X pins σ Q) X.xe s:=by
 have nm:(Dv "min" ++ Dv ".loop" : String) = "min.loop":=by decide
 obtain⟨its,rv,pl,hz⟩:=I.list hl;have hlen:its.length=xs.length:=rv.length.symm;have hll:l<s.heap.objs.size:=by obtain⟨o,ho,_⟩:=pl.isList;exact Ax ho
 refine kmk_tree PySem.F.kind_min PySem.F.plain_min PySem.F.entry_min (zjg _) ?_
 show Ar _ X.A.in1 (CI "min" ["key","default"] 0 ⟨[],[]⟩ >>= _) _ _ s;refine Aa (wpAny_of_eq (show CI "min" ["key","default"] 0 ⟨[],[]⟩=pure [none,none] from rfl) ?_);refine Aa (Ah ?_);refine Aa (Dq pl.isList ?_);refine Aa (wpAny_newList ?_ (A6 _));rw[nm];refine Ah ⟨C4 A8 _,?_⟩;have keep:∀b o,s.heap.get? b=some o->((s.heap.push { cls:=.type "list_iterator",data:=.fields #[.ref l,.int 0 0] }).push (BG "list" #[] 0)).get? b=some o:=λb o e=>Ag _ (Ag _ e)
 have gi:((s.heap.push { cls:=.type "list_iterator",data:=.fields #[.ref l,.int 0 0] }).push (BG "list" #[] 0)).get? s.heap.objs.size=some { cls:=.type "list_iterator",data:=.fields #[.ref l,.int 0 0] }:=Ag _ (AB _ rfl);have hsS:(s.heap.push { cls:=.type "list_iterator",data:=.fields #[.ref l,.int 0 0] }).objs.size=s.heap.objs.size+1:=size_push' ..;have gs:((s.heap.push { cls:=.type "list_iterator",data:=.fields #[.ref l,.int 0 0] }).push (BG "list" #[] 0)).get? (s.heap.objs.size+1)=some (BG "list" #[] 0):=by rw[<- hsS];exact AB _ rfl
 rw[hsS];have I1:Inv X pins σ H0 { s with heap:=(s.heap.push { cls:=.type "list_iterator",data:=.fields #[.ref l,.int 0 0] }).push (BG "list" #[] 0) }:=I.kept (t':=s.toks) keep;have fi:FpOk X pins H0 s.heap.objs.size:=I.fpOk (Aj _) (I.hok.fresh (Aj _));have fs:FpOk X pins H0 (s.heap.objs.size+1):=I.fpOk (B5 _) (I.hok.fresh (B5 _));have M0:MK0 X pins σ H0 _ s.heap.objs.size (s.heap.objs.size+1) l 0:=⟨I1,fi,fs,Cr (Nat.lt_succ_self _),⟨_,gi,rfl,rfl⟩,⟨0,gs⟩⟩;have hli:l≠s.heap.objs.size:=AV hll;have W:=Walks.list (prog:=X.prog) (w:=X.w) (A:=X.A.in1) hh s.heap.objs.size l hli its.toArray;refine Dh Ce ?_
 rw[Cw A8 _];show Ar _ X.A.in1 (seqItems? (.ref _) >>= _) _ _ _;refine Aa (Dw gs rfl ?_);show Ar _ X.A.in1 (tryCatch (pyNext (.ref s.heap.objs.size)) _ >>= _) _ _ _;obtain⟨its2,rv2,pl2,_⟩:=I1.list hl;refine Aa (Cf (W.item 0 _ _ _ (by rw[As,hlen];exact hne) ⟨M0.iter,pl.isList.at λo e=>keep _ _ e⟩ λv h1 tk1 hP hst1 hk1=>?_));have hv:its[0]?=some v:=by simpa using hP
 obtain⟨x,hx⟩:∃x,xs[0]?=some x:=⟨_,Ab hne⟩;obtain⟨v',hv',rx⟩:=rv.get hx;rw[hv]at hv'
 cases hv'
 have M1:MK0 X pins σ H0 { s with heap:=h1,toks:=tk1 } s.heap.objs.size (s.heap.objs.size+1) l 1:=⟨I1.moved (t':=tk1) fi hk1,fi,fs,M0.ne,hst1.1,0,hk1 _ _ (by simp) gs⟩;obtain⟨a2,ex,ka2⟩:=turn 0 x hx;subst ex
 cases (show v=Ao a2 from rx)
 have M2:=M1;show Ar _ X.A.in1 (pure (Ao a2) >>= _) _ _ _;refine Aa (Ah ?_);obtain⟨c2,hc2⟩:=M2.hold;show Ar _ X.A.in1 (updateSeq (s.heap.objs.size+1) (λ_=>#[(.ref a2),.ref a2]) >>= _) _ _ _;refine Aa ?_
 refine Di hc2 rfl ?_
 rw[nm];refine Ah ⟨C4 A8 _,?_⟩
 exact Db (zje hh hu turn hl hli hQ _ 0 0 H0 _ (.ref a2) _ a2 rfl hne (Same.refl _) M2.set hx rx ka2 (Aj _) (λj hj=>by
  have e:j=0:=by lia
  subst e;exact⟨HT.lexLt_irrefl _,λz=>absurd z (Ca _)⟩)) λr s' hr'=>hr'
end
end L2
namespace RK
open PySem PySem.W PyProof.Rows
variable {n:Nat}{ans:Nat->Nat->Bool}
noncomputable def Pm(n:Nat)(p:Array Nat):Prop:=p.Perm (List.toArray (BD n))
inductive Col:Value->Value->Int->Int->Prop where
 |int (a:Int) (t:Tok) (b:Int) (u:Tok):Col (.int a t) (.int b u) a b
 |bl (p q:Bool):Col (.bool p) (.bool q) (b2i p) (b2i q)
inductive Cols:List Value->List Value->List Int->List Int->Prop where
 |nil:Cols [] [] [] []
 |cons {u v:Value} {us vs:List Value} {a b:Int} {as bs:List Int}:Col u v a b->Cols us vs as bs->Cols (u::us) (v::vs) (a::as) (b::bs)
section
variable {prog:AF}{w:A5}{A:AO}{s:Ac}{Q:Bool->Ac->Prop}
theorem zld{u v:Value}{a b:Int}(c:Col u v a b){E:Value->Ac->Prop}(h:Q (decide (a=b)) s):Ar (Az prog w) A (eqBool u v) Q E s:=by
 cases c with
 |int _ t _ u =>
  refine wpAny_eqBool_int ?_
  rw[show (a == b)=decide (a=b) from by rw[Bool.beq_eq_decide_eq]];exact h
 |bl p q =>
  refine SeqAt.EqAt.bool_bool p q prog w E Q ?_
  have e:(p == q)=decide (b2i p=b2i q):=by cases p <;> cases q <;> decide
  rw[e];exact h
theorem zmL{u v:Value}{a b:Int}(c:Col u v a b){E:Value->Ac->Prop}(h:Q (decide (a<b)) s):Ar (Az prog w) A (oneLt' false u v) Q E s:=by
 cases c with
 |int _ t _ u=>exact kat_one _ _ (lt_int (show W.BoolBack Q (.bool (decide (a<b))) s from h))
 |bl p q=>exact kat_one _ _ (lt_bool (show W.BoolBack Q (.bool (decide (b2i p<b2i q))) s from h))
theorem zhx{bb:Bool}:∀{us vs:List Value}{as bs:List Int}(i:Nat),Cols us vs as bs->Q (HT.lexLt as bs) s->KatLex prog w A bb false Q (us.zip vs) (i+1) s
 |_,_,_,_,_,.nil,h=>kat_nil h
 |_,_,_,_,i,.cons (a:=a) (b:=b) (as:=as) (bs:=bs) c r,h=>by
  rw[HT.lexLt_cons]at h;refine kat_cons (zld c ?_)
  by_cases e:a=b
  .rw[decide_eq_true e];rw[if_pos e]at h;exact kat_yes (zhx (i+1) r h)
  .rw[decide_eq_false e];rw[if_neg e]at h;refine kat_no ?_
   rw[show (bb && (i+1 == 0))=false by simp];exact zmL c h
theorem kat_cols0{us vs:List Value}{as bs:List Int}{a b:Int}{t u:Tok}(r:Cols us vs as bs)(h:Q (HT.lexLt (a::as) (b::bs)) s):KatLex prog w A true false Q ((DB a t::us).zip (DB b u::vs)) 0 s:=by
 rw[HT.lexLt_cons]at h;refine kat_cons (zld (.int a t b u) ?_)
 by_cases e:a=b
 .rw[decide_eq_true e];rw[if_pos e]at h;exact kat_yes (zhx 0 r h)
 .rw[decide_eq_false e];rw[if_neg e]at h;exact kat_no (oneLt_int h)
end
end RK
namespace L2
open PySem PySem.Spec PyProof.Rows
section
variable {X:Cx}{k:Nat}{f:Addr}{fd:BC}{ps:List Str}{sp:Sp}{pins:List (Addr×Obj)}{σ:St}{H0:Hp}{Q:VK}
theorem Inv.adopt{H:Hp}{s:Ac}{D:Addr}{o:HO}{h':Heap}{t':Nat}(I:Inv X pins σ H s)(fb:FpOk X pins H D)(hk:∀b u, b ≠ D -> s.heap.get? b=some u -> h'.get? b=some u)(heo:∃u, h'.get? D=some u)
  (new:ObjOk X.prog X.w (upd H D o) h' D o):Inv X pins σ (upd H D o) { s with heap:=h',toks:=t' }:=by
 have hn:=fb.1;have nit:∀b u,H b=some u->b≠D:=λb u e z=>by rw[z,hn]at e;cases e
 refine I.step (g':=s.gens) (d':=s.drawn) (ch:=[D]) (λb hb=>?_) (λb u _ _ hc e _=>hk b u (λz=>hc (by simp[z])) e) (λb u _ _ hc e _=>⟨u.slots,hk b u (λz=>hc (by simp[z])) e⟩)
  (λb u hc _ n=>by rw[zai (λz=>hc (by simp[z]))];exact n)
  (λb u hc e=>⟨u,hk b u (λz=>hc (by simp[z])) e⟩) (λb xs e=>by rw[zai (nit _ _ e)];exact e) (λb u xs e=>by rw[zai (nit _ _ e)];exact e) (λb ps e=>⟨#[],by rw[zai (nit _ _ e),e];simp⟩) (λm hm=>?_) (λb u e=>?_) I.bare
 .have e:b=D:=by simpa using hb
  subst e;exact⟨fb.2.2.2.1,fb.2.1,fb.2.2.2.2.1,fb.2.2.2.2.2⟩
 .obtain⟨u,es,ep,ho,r⟩:=hm;exact⟨u,es,ep,hk _ u (Bx fb.2.1) ho,r⟩
 .by_cases hb:b=D
  .subst hb;rw[zaa]at e;cases e;exact new
  .rw[zai hb]at e;refine (I.hok b u e).stay (λc v hc q=>hk c v ?_ q) (λc q=>by rw[zai (nit _ _ q)];exact q) λc xs q=>by rw[zai (nit _ _ q)];exact q
   rcases hc with z |z
   .rw[z];exact nit b u e
   .exact nit c _ z
noncomputable def zhL(X:Cx)(σ:St)(H0:Hp)(f:Addr)(xs:List V)(κV:Nat->List V):Prop:=∀(pins:List (Addr×Obj)) (i:Nat) (x:V) (u:Value) (H:Hp) (s:Ac),xs[i]?=some x->Same H0 H->Inv X pins σ H s->RelV x u ->
 Ar (Az X.prog X.w) X.A.in1.in1 (call (.ref f) [u]) (EP X pins σ λv H'=>Same H H'/\∃a,v=.ref a/\SqT X.K H' a (κV i)) (λ_ _=>False) s
inductive VCol:V->V->Int->Int->Prop where
 |int (a b:Int):VCol (.int a) (.int b) a b
 |bl (p q:Bool):VCol (.bl p) (.bl q) (b2i p) (b2i q)
inductive VCols:List V->List V->List Int->List Int->Prop where
 |nil:VCols [] [] [] []
 |cons {x y:V} {xs ys:List V} {a b:Int} {as bs:List Int}:VCol x y a b->VCols xs ys as bs->VCols (x::xs) (y::ys) (a::as) (b::bs)
theorem VCols.vals:∀{xs ys:List V}{as bs:List Int}{us vs:List Value},VCols xs ys as bs->Vals xs us->Vals ys vs->RK.Cols us vs as bs
  |_,_,_,_,_,_,.nil,.nil,.nil=>.nil
  |_, _, _, _, _, _, .cons c r, .cons h t, .cons g q => .cons (by
      cases c with
      |int a b=>obtain⟨t,rfl⟩:=h;obtain⟨u,rfl⟩:=g;exact .int _ _ _ _
      |bl p q=>cases h;cases g;exact .bl _ _) (r.vals t q)
structure SK (X:Cx) (pins:List (Addr×Obj)) (σ:St) (H:Hp) (s:Ac) (D st:Addr) (e:Nat) (κV:Nat->List V) (ks:List Addr):Prop where
 inv:Inv X pins σ H s
 fd:FpOk X pins H D
 fs:FpOk X pins H st
 ne:st≠D
 hd:s.heap.get? D=some (BG "list" #[] e)
 hs:∃c,s.heap.get? st=some (BG "list" (ks.map Ao).toArray c)
 hk:∀i a,ks[i]?=some a->SqT X.K H a (κV i)
theorem zhD{M:Model}{A:AO}{E:Value -> Ac -> Prop}{body:Value -> PUnit -> Sem (ForInStep PUnit)}{vs:List Value}(P:Nat -> Ac -> Prop)
  (hb:∀i x s,vs[i]?=some x->P i s->Ar M A (body x ⟨⟩) (λr s'=>r=.yield ⟨⟩/\P (i+1) s') E s):∀(r:List Value) (i:Nat) (s:Ac),vs.drop i=r->i<=vs.length->P i s ->
   Ar M A (forIn r PUnit.unit body) (λ_ s'=>P vs.length s') E s
 |[],i,s,hr,hi,h=>by
  rw[List.forIn_nil];have:vs.length<=i:=List.drop_eq_nil_iff.mp hr;exact Ah (by rw[show vs.length=i by lia];exact h)
 |x::r,i,s,hr,hi,h=>by
  have hx:vs[i]?=some x:=by have:=congrArg (·[0]?) hr;simpa using this
  have hlt:i<vs.length:=(Ad.mp hx).1;have hr':vs.drop (i+1)=r:=by rw[<- List.tail_drop,hr];rfl
  rw[List.forIn_cons];refine Aa (Bv (hb i x s hx h) (λq s' hq=>?_) λ_ _ e=>e);obtain⟨rfl,h'⟩:=hq;exact zhD P hb r (i+1) s' hr' hlt h'
end
section
variable {X:Cx}{pins:List (Addr×Obj)}{σ:St}{H:Hp}{s:Ac}{D st:Addr}{e:Nat}{κV:Nat->List V}{ks:List Addr}{E:Value->Ac->Prop}
noncomputable def zhM(X:Cx)(G:Array Nat->Prop)(ks vs:List Value)(E:Value->Ac->Prop)(s:Ac):Prop :=
 Ar (Az X.prog X.w) X.A.in1.in1 (keyKind' ks.toArray) (λκ s0=>s0=s /\
  Ar (Az X.prog X.w) X.A.in1.in1 ((sortRuns').run (SortSt.mk' κ (ks.toArray.zip vs.toArray) #[] 7 none)) (λr s'=>s'=s/\Cy r.2=none/\∃p:Array Nat,G p/\p.size=vs.length/\Ay r.2=p.map (Dx (ks.toArray.zip vs.toArray))) E s) E s
theorem zjq{as:List Addr}(I:Inv X pins σ H s):∀{ks:List Addr}{vs:List (List V)}{ns:List Int}, (∀(i:Nat) (a:Addr), ks[i]? = some a -> ∃n r, ns[i]? = some n /\ SqT X.K H a (.int n :: r)) -> ns.length=ks.length ->
  ∃fs:List Value,W.KatTups s.heap (ks.map Ao) fs/\fs.length=ks.length/\∀v∈fs,∃n t,v=DB n t
 |[],_,_,_,_=>⟨[],.nil,rfl,λ_ h=>nomatch h⟩
 |a::r,vs,[],_,h=>by cases h
 |a::r,vs,n::ns,hk,h=>by
  obtain⟨m,q,e1,hq⟩:=hk 0 a rfl;obtain⟨fs,t,hl,hi⟩:=zjq (as:=as) (vs:=vs) I (ks:=r) (ns:=ns) (λi b hb=>by simpa using hk (i+1) b (by simpa using hb)) (by simpa using h);obtain⟨its,rv,⟨o,ho,hc,c,hd⟩,_⟩:=I.tuple hq
  cases rv with
  |cons rx rr =>
   obtain⟨t1,rfl⟩:=rx;refine⟨DB m t1::fs,.cons ho hc hd (by simp) t,by simp[hl],λv hv=>?_⟩;rcases At.mp hv with rfl |hv
   .exact⟨_,_,rfl⟩
   .exact hi v hv
end
section
variable {X:Cx}{k:Nat}{f:Addr}{fd:BC}{ps:List Str}{sp:Sp}{pins:List (Addr×Obj)}{σ:St}{H0 H:Hp}{s:Ac}{D st l:Addr}{e:Nat}{κV:Nat->List V}{ks:List Addr}{E:Value->Ac->Prop}{G:Array Nat->Prop}{xs:List V}{vs:List Value}{Q:VK}
noncomputable def outV(xs:List V)(p:Array Nat):List V:=p.toList.map λi=>xs.getD i .non
theorem zio{xs:List V}{vs:List Value}(r:Vals xs vs)(i:Nat)(hi:i<xs.length):RelV (xs.getD i .non) (vs.getD i Bk):=by
 have hx:xs[i]?=some xs[i]:=by simp[hi]
 obtain⟨u,hu,ru⟩:=r.get hx;rw[Bh,hx,Bh,hu];exact ru
theorem zgW{xs:List V}{vs:List Value}(r:Vals xs vs):∀(l:List Nat),(∀i∈l,i<xs.length)->Vals (l.map λi=>xs.getD i .non) (l.map λi=>vs.getD i Bk)
 |[],_=>.nil
 |i::t,h=>.cons (zio r i (h i AQ)) (zgW r t λj hj=>h j (AI _ hj))
theorem zgv{p:Array Nat}:(outV xs p).length=p.size:=by unfold outV;simp
theorem zlo{P:PySem.Fin -> Ac -> Prop}{so:AM}{out:List Value}{ys:List V}(K:SK X pins σ H s D st e κV ks)(hks:ks.length <= sizeLine)(ho:(Ay so).map (·.2)=out.toArray)(ry:Vals ys out)(hz:ys.length <= sizeLine)(hf:Cy so=none)
  (h:∀s',Inv X pins σ (upd H D (.lst ys)) s'->P (.done (.ret .none)) s'):Ar (Az X.prog X.w) X.A.in1.in1 (ksk_tail D false e (.ref st) so) P E s:=by
 obtain⟨c,hc⟩:=K.hs;have hzo:out.length<=sizeLine:=by rw[<- ry.length];exact hz
 have s1:=BK s.heap st (Ba λ_=>(#[]:Array Value));have hd1:(s.heap.update st (Ba λ_=>(#[]:Array Value))).get? D=some (BG "list" #[] e):=(s1.2 D K.ne.symm).trans K.hd;have s2:=BK (s.heap.update st (Ba λ_=>(#[]:Array Value))) D (Ba λ_=>out.toArray);obtain⟨c2,hc2⟩:∃c2,((s.heap.update st (Ba λ_=>(#[]:Array Value))).update D (Ba λ_=>out.toArray)).get? D=some (BG "list" out.toArray c2):=⟨_,DV hd1 λ_=>out.toArray⟩;unfold ksk_tail
 try dsimp only
 rw[ho];refine Aa (listUpdate_at hc rfl ?_ (by simpa using hks) (A6 _));refine Aa (C8 ?_);refine Aa (seqEpoch_at hd1 rfl ?_);simp only[BP,if_false];refine Aa (listUpdate_at hd1 rfl ?_ (A6 _) (by simp;lia));rw[hf];simp only[bne_self_eq_false,BP,if_false];refine Ah (h _ ?_);have I1:Inv X pins σ H { s with heap:=s.heap.update st (Ba λ_=>(#[]:Array Value)) }:=K.inv.moved (t':=s.toks) K.fs (λb o hb e=>(s1.2 b λz=>hb (by simp[z])).trans e);exact I1.adopt (t':=s.toks) K.fd (λb u hb q=>(s2.2 b hb).trans q) ⟨_,hc2⟩ ⟨hz,out,c2,ry,hc2⟩
theorem zmb{P:PySem.Fin -> Ac -> Prop}(K:SK X pins σ H s D st e κV ks)(hl:ks.length=vs.length)(r:Vals xs vs)(hz:xs.length <= sizeLine)(hG:∀p, G p -> ∀i ∈ p.toList, i < xs.length)
  (h0:vs.length<2->G (List.toArray (BD vs.length))) (core:2<=vs.length->zhM X G (ks.map Ao) vs E s)
  (h:∀p s',G p->p.size=xs.length->Inv X pins σ (upd H D (.lst (outV xs p))) s'->P (.done (.ret .none)) s'):Ar (Az X.prog X.w) X.A.in1.in1 (ksk_end D false vs.toArray e (.ref st) (ks.map Ao).toArray) P E s:=by
 have hlx:xs.length=vs.length:=r.length;have hl':(ks.map Ao).length=vs.length:=by simp[hl]
 have fin:∀(p:Array Nat) (so:AM),G p->p.size=vs.length->Ay so=p.map (Dx ((ks.map Ao).toArray.zip vs.toArray))->Cy so=none->Ar (Az X.prog X.w) X.A.in1.in1 (ksk_tail D false e (.ref st) so) P E s:=λp so g hp ha hf =>
  zlo K (by lia) (W.kat_snds hl' ha) (ys:=outV xs p) (zgW r _ (hG p g)) (by rw[zgv];lia) hf λs' I'=>h p s' g (by lia) I'
 unfold ksk_end
 try dsimp only
 simp only[BP,if_false]
 by_cases h2:vs.length<2
 .have h2':vs.toArray.size<2:=by simpa using h2
  rw[if_pos h2',if_pos h2'];refine Aa (Ah ?_);show Ar (Az X.prog X.w) X.A.in1.in1 (pure ((),SortSt.mk' general' ((ks.map Ao).toArray.zip vs.toArray) #[] 7 none) >>= _) P E s;refine Aa (Ah ?_)
  try dsimp only
  refine fin (List.toArray (BD vs.length)) _ (h0 h2) (by simp) ?_ rfl;have:=W.kas_range ((ks.map Ao).toArray.zip vs.toArray);rw[show ((ks.map Ao).toArray.zip vs.toArray).size=vs.length by simp[hl]]at this;exact this.symm
 .have h2':¬ vs.toArray.size<2:=by simpa using h2
  rw[if_neg h2',if_neg h2'];refine Aa (Bv (core (by lia)) (λκ s0 hk=>?_) λ_ _ z=>z);obtain⟨rfl,hk⟩:=hk;refine Aa (Bv hk (λr' s' hr=>?_) λ_ _ z=>z);obtain⟨rfl,hf,p,g,hp,ha⟩:=hr;obtain⟨⟨⟩,so⟩:=r'
  try dsimp only
  exact fin p so g hp ha hf
theorem zlp{P:PySem.Fin -> Ac -> Prop}(F:zhL X σ H0 f xs κV)
    (K:SK X pins σ H0 s D st e κV []) (r:Vals xs vs) (hz:xs.length<=sizeLine)
    (h:∀H' s' ks,ks.length=vs.length->Same H0 H'->SK X pins σ H' s' D st e κV ks->Ar (Az X.prog X.w) X.A.in1.in1 (ksk_end D false vs.toArray e (.ref st) (ks.map Ao).toArray) P E s') :
    Ar (Az X.prog X.w) X.A.in1.in1 (ksk_rest D (.ref f) false vs.toArray e (.ref st)) P E s:=by
  have hlx:xs.length=vs.length:=r.length;unfold ksk_rest;refine Aa (Dc ?_);rw[List.forIn_toArray];refine Aa (Bv (zhD (vs:=vs) (λi s'=>∃H' ks,ks.length=i/\Same H0 H'/\SK X pins σ H' s' D st e κV ks) (λi x s1 hx hP=>?_) vs 0 s rfl (A6 _) ⟨H0,[],rfl,Same.refl _,K⟩) (λ_ s' hd=>?_) λ_ _ z=>z)
  . obtain⟨H1,ks,hkl,hS,K1⟩:=hP;have hi:i<xs.length:=by rw[hlx];exact (Ad.mp hx).1
    have hxx:xs[i]?=some xs[i]:=by simp[hi]
    obtain⟨u,hu,ru⟩:=r.get hxx;rw[hx]at hu
    cases hu
    obtain⟨c,hc⟩:=K1.hs
    have I1:Inv X (pins ++ zdj [D, st] s1.heap) σ H1 s1 := K1.inv.pinned (λb hb => by
        rcases At.mp hb with rfl |hb
        . exact K1.fd
        . rw[Ak.mp hb];exact K1.fs) (λb hb=>by
        rcases At.mp hb with rfl |hb
        . exact⟨_,K1.hd,zcx⟩
        . rw[Ak.mp hb];exact⟨_,hc,zcx⟩)
    refine Aa (wpAny_attempt (Bv (F _ i _ _ H1 _ hxx hS I1 ru) (λv s2 hv=>?_) λ_ _ hF=>hF.elim));obtain⟨y,H2,I2,ry,hS2,a,ey,ka⟩:=hv;subst ey
    cases (show v=Ao a from ry)
    have p1:=I2.pin (D,BG "list" #[] e) (An _ (An _ (za0 (by simp) K1.hd)));have p2:=I2.pin (st,BG "list" (ks.map Ao).toArray c) (An _ (An _ (za0 (by simp) hc)));have sb:=BK s2.heap st (Ba (·.push (Ao a)));have ea:(ks.map Ao).toArray.push (Ao a)=((ks++[a]).map Ao).toArray:=by simp
    obtain⟨c2,hc2⟩:∃c2,(s2.heap.update st (Ba (·.push (Ao a)))).get? st=some (BG "list" ((ks++[a]).map Ao).toArray c2):=⟨_,by rw[<- ea];exact DV p2.1 (·.push (Ao a))⟩
    try dsimp only
    refine Aa (listUpdate_at p2.1 rfl ?_ (by simp;lia) (by simp;lia));refine Ah ⟨rfl,H2,ks++[a],by simp[hkl],hS.trans hS2,I2.unpinned.moved (t':=s2.toks) (K1.fs.again p2.2.1) (λb o hb e=>(sb.2 b λz=>hb (by simp[z])).trans e),K1.fd.again p1.2.1,K1.fs.again p2.2.1,K1.ne,(sb.2 D K1.ne.symm).trans p1.1,⟨c2,hc2⟩,λj b hj=>?_⟩;rcases Bi j ks.length with hjl |hjl
    . rw[AK hjl]at hj;exact hS2.seqT (K1.hk j b hj)
    . rw[AW hjl]at hj
      have hj0:j-ks.length=0:=by have:=(Ad.mp hj).1;simp at this;lia
      rw[hj0]at hj
      cases A9 hj
      rw[show j=i by lia];exact ka
  . obtain⟨H',ks,hkl,hS,K'⟩:=hd;obtain⟨c,hc⟩:=K'.hs
    try dsimp only
    refine Aa (listItems_at hc rfl ?_);exact h H' s' ks hkl hS K'
theorem zln{P:PySem.Fin -> Ac -> Prop}{c0:Nat}(F:zhL X σ H0 f xs κV)
  (I:Inv X pins σ H0 s) (fb:FpOk X pins H0 D) (hd:s.heap.get? D=some (BG "list" vs.toArray c0)) (r:Vals xs vs) (hz:xs.length<=sizeLine)
  (h:∀e H' s' ks st,ks.length=vs.length->Same H0 H'->SK X pins σ H' s' D st e κV ks->Ar (Az X.prog X.w) X.A.in1.in1 (ksk_end D false vs.toArray e (.ref st) (ks.map Ao).toArray) P E s') :
  Ar (Az X.prog X.w) X.A.in1.in1 (ksk_tree D (.ref f) false) P E s:=by
 have hlx:xs.length=vs.length:=r.length;have s1:=BK s.heap D (Ba λ_=>(#[]:Array Value));obtain⟨e1,ho1⟩:∃e1,(s.heap.update D (Ba λ_=>(#[]:Array Value))).get? D=some (BG "list" #[] e1):=⟨_,DV hd λ_=>#[]⟩;have hDl:D<s.heap.objs.size:=Ax hd;unfold ksk_tree;refine Aa (listItems_at hd rfl ?_);refine Aa (listUpdate_at hd rfl ?_ (by simp;lia) (A6 _));refine Aa (seqEpoch_at ho1 rfl ?_);refine Aa (wpAny_newTuple ?_ (by simp;lia));refine Aa (wpAny_newList ?_ (A6 _));refine Bw ?_
 have I1:Inv X pins σ H0 { s with heap:=s.heap.update D (Ba λ_=>(#[]:Array Value)) }:=I.moved (t':=s.toks) fb (λb o hb e=>(s1.2 b λz=>hb (by simp[z])).trans e);have keep:∀b o,(s.heap.update D (Ba λ_=>(#[]:Array Value))).get? b=some o->(((s.heap.update D (Ba λ_=>(#[]:Array Value))).push (BG "tuple" vs.toArray.toList.toArray 0)).push (BG "list" #[] 0)).get? b=some o:=λb o q=>Ag _ (Ag _ q)
 have hsz:((s.heap.update D (Ba λ_=>(#[]:Array Value))).push (BG "tuple" vs.toArray.toList.toArray 0)).objs.size=s.heap.objs.size+1:=by rw[size_push',Heap.size_update]
 have I2:Inv X pins σ H0 { s with heap:=((s.heap.update D (Ba λ_=>(#[]:Array Value))).push (BG "tuple" vs.toArray.toList.toArray 0)).push (BG "list" #[] 0) }:=I1.kept (t':=s.toks) keep;show Ar (Az X.prog X.w) X.A.in1.in1 (ksk_rest D (.ref f) false vs.toArray _ (.ref ((s.heap.update D (Ba λ_=>(#[]:Array Value))).push (BG "tuple" vs.toArray.toList.toArray 0)).objs.size)) P E { s with heap:=((s.heap.update D (Ba λ_=>(#[]:Array Value))).push (BG "tuple" vs.toArray.toList.toArray 0)).push (BG "list" #[] 0) };rw[hsz];have hss:(((s.heap.update D (Ba λ_=>(#[]:Array Value))).push (BG "tuple" vs.toArray.toList.toArray 0)).push (BG "list" #[] 0)).get? (s.heap.objs.size+1)=some (BG "list" #[] 0):=by rw[<- hsz];exact AB _ rfl
 exact zlp F ⟨I2,fb,I.fpOk (B5 _) (I.hok.fresh (B5 _)),Cr (Nat.lt_succ_of_lt hDl),keep _ _ ho1,⟨0,by simpa using hss⟩,λi a ha=>by simp at ha⟩ r hz λH' s' ks a b c=>h _ H' s' ks _ a b c
end
section
variable {X:Cx}{k:Nat}{f:Addr}{fd:BC}{ps:List Str}{sp:Sp}{pins:List (Addr×Obj)}{σ:St}{H0:Hp}{s:Ac}{l:Addr}{κV:Nat->List V}{G:Array Nat->Prop}{xs:List V}{Q:VK}
theorem zic(F:zhL X σ H0 f xs κV)
  (hl:SqL X.K H0 l xs) (hG:∀p,G p->∀i∈p.toList,i<xs.length) (h0:xs.length<2->G (List.toArray (BD xs.length)))
  (core:∀{vs:List Value} {ks:List Addr} {H':Hp} {s':Ac} {D st:Addr} {e:Nat},Vals xs vs->SK X pins σ H' s' D st e κV ks->ks.length=vs.length->2<=vs.length->zhM X G (ks.map Ao) vs X.xe s')
  (hQ:∀p D H',G p->p.size=xs.length->H0 D=none->Same H0 H'->H' D=some (.lst (outV xs p))->Q (.ref D) H') (I:Inv X pins σ H0 s) :
  Ar (Az X.prog X.w) X.A (call (.builtin "sorted") [.ref l] [(Aq "key",.ref f)]) (EP X pins σ Q) X.xe s:=by
 obtain⟨vs,r,pl,hz⟩:=I.list hl;have hlx:xs.length=vs.length:=r.length;refine call_function_entry_kw kind_sorted plain_sorted entry_sorted (ksk_s1 _ _) ?_
 unfold Builtin.«sorted»;refine Aa (m:=checkCount "sorted" 1 1 _) (Ah ?_);refine Aa (collect_list pl.isList ?_ (by first |lia | (rw[As];lia) | (simp;lia)));refine Aa (wpAny_newList ?_ (by first |lia | (rw[As];lia) | (simp;lia)));have hsz:((s.heap.push (BG "list" #[] 0)).update s.heap.objs.size (Ba (·++vs.toArray))).objs.size=s.heap.objs.size+1:=by rw[Heap.size_update,size_push']
 have hoL:(((s.heap.push (BG "list" #[] 0)).update s.heap.objs.size (Ba (·++vs.toArray))).push (BG "list" vs.toArray 0)).get? (s.heap.objs.size+1)=some (BG "list" vs.toArray 0):=by rw[<- hsz];exact AB _ rfl
 have keep:∀b o,s.heap.get? b=some o->(((s.heap.push (BG "list" #[] 0)).update s.heap.objs.size (Ba (·++vs.toArray))).push (BG "list" vs.toArray 0)).get? b=some o:=λb o q=>by have hlt:b<s.heap.objs.size:=Ax q;rw[Heap.get?_push_ne _ _ _ (by rw[hsz];exact AV (Nat.lt_succ_of_lt hlt)),Heap.get?_update_ne _ _ _ _ (AV hlt),Heap.get?_push_ne _ _ _ (AV hlt)];exact q
 show Ar _ _ _ _ _ { s with heap:=((s.heap.push (BG "list" #[] 0)).update s.heap.objs.size (Ba (·++vs.toArray))).push (BG "list" vs.toArray 0) };rw[hsz];refine Aa (Bw (wpAny_call_entry_kw slot_list_sort ⟨_,hoL,rfl⟩ entry_list_sort ?body (ksk_l1 _ _)))
 case body =>
  show Ar (Az X.prog X.w) X.A.in1.in1 (Builtin.«list.sort» ⟨[.ref (s.heap.objs.size+1)],[(Aq "key",.ref f)]⟩) _ _ _;rw[ksk_t1];have I1:Inv X pins σ H0 { s with heap:=((s.heap.push (BG "list" #[] 0)).update s.heap.objs.size (Ba (·++vs.toArray))).push (BG "list" vs.toArray 0) }:=I.kept (t':=s.toks) keep;have hDn:H0 (s.heap.objs.size+1)=none:=I.hok.fresh (B5 _);refine zln F I1 (I.fpOk (B5 _) hDn) hoL r hz λe H' s' ks st hks hS K=>?_
  refine zmb K hks r hz hG (λh2=>by rw[<- hlx];exact h0 (by lia)) (core r K hks) λp s2 g hp I2=>⟨_,rfl,?_⟩
  refine Ah ⟨_,rfl,.ref (s.heap.objs.size+1),_,I2,rfl,hQ p _ _ g hp hDn (λb o q=>?_) zaa⟩;rw[zai (zaj q hDn)];exact hS b o q
end
section
variable {X:Cx}{x:Str}{p pos kp kpos:Pos}{e:Expr}{te:TE}{k:Nat}{f:Addr}{fd:BC}{ps:List Str}{sp:Sp}{fn:Str}
noncomputable def tMinK(K:W.Frag)(te:TE)(sp:Sp):TE:=λσ H Q=>te σ H λv H1=>∃l xs,∃ κ:Nat->List Int,[v]=[V.ref l]/\SqL K H1 l xs/\0<xs.length /\
 (∀i x H2,xs[i]?=some x->Same H1 H2->sp [x] H2 (λv H'=>Same H2 H'/\∃a,v=.ref a/\SqT K H' a ((κ i).map V.int)) E0)/\∀i x H',xs[i]?=some x->Least κ xs.length i->Same H1 H'->Q x H'
theorem zly (F:FnOk X.prog X.w X.K X.mg X.base CX0 k f fd ps sp) (hr:Room (k + 1) X.A) (hb:Binds X.K fd ps []) (hg:Gl X "min") (hm:X.mg "min" = none) (hgf:Gl X fn) (hmf:X.mg fn=some (.ref f)) (he:PE X e te)
  (hdb:(fn == ("__debug__" : Str))=false:=by decide) (hse:Bg [e] X.env=[(false,eval e X.env)]:=by rfl) (hh:X.calm=true:=by rfl)
  (hall:(DN pos (CL [⟨some "key",.Name fn kp,kpos⟩] X.env)).all (·.1.isSome)=true:=by rfl) (hkw:(DN pos (CL [⟨some "key",.Name fn kp,kpos⟩] X.env)).any (·.1.isNone)=false:=by rfl)
  (hks:(DN pos (CL [⟨some "key",.Name fn kp,kpos⟩] X.env)).filterMap (·.1)=[Aq "key"]:=by rfl) :
  PE X (.Call (.Name "min" p) [e] [⟨some "key",.Name fn kp,kpos⟩] pos) (tMinK X.K te sp):=by
 intro pins s σ H Q I h;refine Cn (zdX I hg hm boot_min ?_ (by decide) (by decide))
 refine callWith_kw (thn (zag he zab (hs:=hse) pos pins s σ H (λvs H1=>∃l xs,∃ κ:Nat->List Int,vs=[V.ref l]/\SqL X.K H1 l xs/\0<xs.length /\
  (∀i x H2,xs[i]?=some x->Same H1 H2->sp [x] H2 (λv H'=>Same H2 H'/\∃a,v=.ref a/\SqT X.K H' a ((κ i).map V.int)) E0)/\∀i x H',xs[i]?=some x->Least κ xs.length i->Same H1 H'->Q x H') I ?_) λus s1 ⟨vs,H1,I1,r,q⟩=>?_) (by rw[hse];rfl) (by rw[hse];rfl) hall hkw
 .show te σ H _;exact h
 .obtain⟨l,xs,κ,rfl,hq,hne,turn,hQ⟩:=q;obtain⟨u,rfl,ru⟩:=Vals.one r
  cases (show u=Ao l from ru)
  refine thn (zi4 (nm:=some "key") (kpos:=kpos) (zdN (v:=.ref f) hgf hmf rfl hdb) zkV pos pins s1 σ H1 (λzs H2=>zs=[.ref f]/\H2=H1) I1 ⟨rfl,rfl⟩) λws s2 ⟨zs,H2,I2,rz,q2⟩=>?_
  obtain⟨rfl,rfl⟩:=q2;obtain⟨u2,rfl,ru2⟩:=Vals.one rz
  cases (show u2=Ao f from ru2)
  rw[hks];exact zjN (I1.ok.hd hh) F hr hb turn hq hne hQ I2
theorem zf5 (hu:X.A.units + 1 < cLine) (hh:X.calm=true):CallR X (.builtin "min") (λvs H Q => ∃l xs, ∃ κ : Nat -> List Int, vs = [.ref l] /\ SqL X.K H l xs /\ 0 < xs.length /\
  (∀i x,xs[i]?=some x->∃a,x=.ref a/\SqT X.K H a ((κ i).map V.int))/\∀i x H',xs[i]?=some x->Least κ xs.length i->Same H H'->Q x H'):=by
 intro pins s σ H vs us Q I r h;obtain⟨l,xs,κ,rfl,hq,hne,turn,hQ⟩:=h;obtain⟨u,rfl,ru⟩:=Vals.one r
 cases (show u=Ao l from ru)
 exact zjM (I.ok.hd hh) hu turn hq hne hQ I
end
end L2
namespace TS
open PySem PyProof.Rows
noncomputable def zb6:Bool->Keyed->Array Keyed->Nat->Nat->Nat->StateT AM Sem (Option Nat):=sortPriv% PySem.Builtin.gallop
noncomputable def zfa:Array Keyed->Array Keyed->StateT AM Sem (Array Keyed):=sortPriv% PySem.Builtin.mergeLo
noncomputable def zfb:Array Keyed->Array Keyed->StateT AM Sem (Array Keyed):=sortPriv% PySem.Builtin.mergeHi
structure LtOk (M:Model) (A:AO) (E:Value->Ac->Prop) (s:Ac) (kd:CM) (S:Keyed->Prop) (L:Keyed->Keyed->Bool):Prop where
 lt:∀x y,S x->S y->∀(st:AM) (Q:Option Bool->AM->Prop),kindOf st=kd->Q (some (L x y)) st->wpS M A E s (lt' x y) Q st
 tr:∀x y z,S x->S y->S z->L y x=false->L z y=false->L z x=false
 as:∀x y,S x->S y->L x y=true->L y x=false
section
variable {M:Model}{A:AO}{E:Value->Ac->Prop}{s:Ac}{kd:CM}{S:Keyed->Prop}{L:Keyed->Keyed->Bool}
theorem zaC{arr:Array Keyed}{i:Nat}{x:Keyed}{st:AM}{Q:Keyed->AM->Prop}(h:arr[i]?=some x)(q:Q x st):wpS M A E s (elem' arr i) Q st:=by rw[elem'_eq,h];exact Av q
theorem zbr (O : LtOk M A E s kd S L){left : Bool}{key : Keyed}{arr : Array Keyed}{base n hint : Nat}{b : Nat → Bool}{Q : Option Nat → AM → Prop}{st : AM}(hk : kindOf st = kd) (hS : S key)
    (hb:∀ i,i<n→∃ x,arr[base+i]?=some x∧S x∧(if left=true then L x key else !L key x)=b i) (mono:∀ i j,i≤j→j<n→b j=true→b i=true) (hh:hint<n)
    (hQ:∀ k,k≤n→(∀ i,i<k→b i=true)→(∀ i,k≤i→i<n→b i=false)→Q (some k) st):wpS M A E s (zb6 left key arr base n hint) Q st:=by
  have bey : ∀ i, i < n → ∀ (Q' : Option Bool → AM → Prop), Q' (some (b i)) st → wpS M A E s ((λi => do
        let x ← elem' arr (base+i)
        if left=true then lt' x key
          else do
            let r ← lt' key x
            pure (Option.map (λx=>!x) r)) i) Q' st:=λi hi Q' q=>by
    obtain⟨x,e,sx,eb⟩:=hb i hi
    refine Am (zaC e ?_)
    cases left with
    | true =>
      rw[if_pos rfl] at eb ⊢
      exact O.lt x key sx hS st Q' hk (by rw[eb];exact q)
    | false =>
      rw[if_neg (by simp)] at eb ⊢
      refine Am (O.lt key x hS sx st _ hk (Av ?_))
      show Q' (some (!L key x)) st
      rw[eb];exact q
  refine Am (bey hint hh _ ?_)
  dsimp only
  cases hbh:b hint with
  | true =>
    rw[if_pos rfl]
    refine Am (Ck (By (I:=λx c st'=>st'=st∧∃ la of,c=(none,la,of)∧la<n - hint∧la<of∧x+1≤of∧b (hint+la)=true)
      (Q:=λc st'=>st'=st∧∃ la of,c=(none,la,of)∧la<n - hint∧la<of∧b (hint+la)=true∧(of<n - hint→b (hint+of)=false)) ?_ ?_ ⟨rfl,0,1,rfl,by lia,by lia,by lia,hbh⟩) ?_)
    . rintro x c st' _ hx ⟨rfl,la,of,rfl,g1,g2,g3,g4⟩
      dsimp only
      by_cases hge:of ≥ n - hint
      . rw[if_pos hge]
        exact Av ⟨rfl,la,of,rfl,g1,g2,g4,λz=>absurd z (by lia)⟩
      . rw[if_neg hge]
        refine Am (bey (hint+of) (by lia) _ ?_)
        dsimp only
        cases hbo:b (hint+of) with
        | true =>
          rw[if_neg (by simp)]
          exact Av ⟨rfl,of,2*of+1,rfl,by lia,by lia,by lia,hbo⟩
        | false =>
          rw[if_pos (by simp)]
          exact Av ⟨rfl,la,of,rfl,g1,g2,g4,λ_=>hbo⟩
    . rintro c st' ⟨rfl,la,of,rfl,g1,g2,g3,g4⟩
      exact⟨rfl,la,of,rfl,g1,g2,g4,λz=>absurd z (by simp at g3;lia)⟩
    . rintro c st' ⟨rfl,la,of,rfl,g1,g2,g3,g4⟩
      dsimp only
      have hlo:∀ i,i<hint+la+1→b i=true:=λi hi=>mono i (hint+la) (by lia) (by lia) g3
      have hhi:∀ i,hint+min of (n - hint)≤i→i<n→b i=false:=λi h1 h2=>by
        by_cases ho:of<n - hint
        . cases q:b i with
          | false=>rfl
          | true =>
            have:=mono (hint+of) i (by lia) h2 q
            rw[g4 ho] at this;cases this
        . exact absurd h2 (by lia)
      refine Am (Ck (By (I:=λx c z=>z=st'∧∃ lo hi,c=(none,lo,hi)∧lo≤hi∧hi≤n∧(hi - lo)+x≤n∧(∀ i,i<lo→b i=true)∧∀ i,hi≤i→i<n→b i=false)
        (Q:=λc z=>z=st'∧∃ k,c=(none,k,k)∧k≤n∧(∀ i,i<k→b i=true)∧∀ i,k≤i→i<n→b i=false) ?_ ?_ ⟨rfl,hint+la+1,hint+min of (n - hint),rfl,by lia,by lia,by lia,hlo,hhi⟩) ?_)
      . rintro x c st'' _ hx ⟨rfl,lo,hi,rfl,g1,g2,g3,g4,g5⟩
        dsimp only
        by_cases hge:lo ≥ hi
        . rw[if_pos hge]
          have e:lo=hi:=by lia
          subst e
          exact Av ⟨rfl,lo,rfl,g2,g4,g5⟩
        . rw[if_neg hge]
          have hm:lo+(hi - lo) / 2<n:=by lia
          refine Am (bey _ hm _ ?_)
          dsimp only
          cases hbm:b (lo+(hi - lo) / 2) with
          | true =>
            rw[if_pos rfl]
            refine Av ⟨rfl,_,_,rfl,by lia,g2,by lia,λi hi'=>?_,g5⟩
            exact mono i _ (by lia) hm hbm
          | false =>
            rw[if_neg (by simp)]
            refine Av ⟨rfl,_,_,rfl,by lia,by lia,by lia,g4,λi hi1 hi2=>?_⟩
            cases q:b i with
            | false=>rfl
            | true=>rw[mono _ i hi1 hi2 q] at hbm;cases hbm
      . rintro c st'' ⟨rfl,lo,hi,rfl,g1,g2,g3,g4,g5⟩
        have e:lo=hi:=by simp at g3;lia
        subst e
        exact⟨rfl,lo,rfl,g2,g4,g5⟩
      . rintro c st'' ⟨rfl,k,rfl,g1,g2,g3⟩
        exact Av (hQ k g1 g2 g3)
  | false =>
    rw[if_neg (by simp)]
    refine Am (Ck (By (I:=λx c st'=>st'=st∧∃ la of,c=(none,la,of)∧la<hint+1∧la<of∧x+1≤of∧b (hint - la)=false)
      (Q:=λc st'=>st'=st∧∃ la of,c=(none,la,of)∧la<hint+1∧la<of∧b (hint - la)=false∧(of<hint+1→b (hint - of)=true)) ?_ ?_ ⟨rfl,0,1,rfl,by lia,by lia,by lia,hbh⟩) ?_)
    . rintro x c st' _ hx ⟨rfl,la,of,rfl,g1,g2,g3,g4⟩
      dsimp only
      by_cases hge:of ≥ hint+1
      . rw[if_pos hge]
        exact Av ⟨rfl,la,of,rfl,g1,g2,g4,λz=>absurd z (by lia)⟩
      . rw[if_neg hge]
        refine Am (bey (hint - of) (by lia) _ ?_)
        dsimp only
        cases hbo:b (hint - of) with
        | true =>
          rw[if_pos rfl]
          exact Av ⟨rfl,la,of,rfl,g1,g2,g4,λ_=>hbo⟩
        | false =>
          rw[if_neg (by simp)]
          exact Av ⟨rfl,of,2*of+1,rfl,by lia,by lia,by lia,hbo⟩
    . rintro c st' ⟨rfl,la,of,rfl,g1,g2,g3,g4⟩
      exact⟨rfl,la,of,rfl,g1,g2,g4,λz=>absurd z (by simp at g3;lia)⟩
    . rintro c st' ⟨rfl,la,of,rfl,g1,g2,g3,g4⟩
      dsimp only
      have hlo:∀ i,i<hint+1 - min of (hint+1)→b i=true:=λi hi=>by
        by_cases ho:of<hint+1
        . exact mono i (hint - of) (by lia) (by lia) (g4 ho)
        . exact absurd hi (by lia)
      have hhi:∀ i,hint - la≤i→i<n→b i=false:=λi h1 h2=>by
        cases q:b i with
        | false=>rfl
        | true =>
          have:=mono (hint - la) i (by lia) h2 q
          rw[g3] at this;cases this
      refine Am (Ck (By (I:=λx c z=>z=st'∧∃ lo hi,c=(none,lo,hi)∧lo≤hi∧hi≤n∧(hi - lo)+x≤n∧(∀ i,i<lo→b i=true)∧∀ i,hi≤i→i<n→b i=false)
        (Q:=λc z=>z=st'∧∃ k,c=(none,k,k)∧k≤n∧(∀ i,i<k→b i=true)∧∀ i,k≤i→i<n→b i=false) ?_ ?_ ⟨rfl,hint+1 - min of (hint+1),hint - la,rfl,by lia,by lia,by lia,hlo,hhi⟩) ?_)
      . rintro x c st'' _ hx ⟨rfl,lo,hi,rfl,g1,g2,g3,g4,g5⟩
        dsimp only
        by_cases hge:lo ≥ hi
        . rw[if_pos hge]
          have e:lo=hi:=by lia
          subst e
          exact Av ⟨rfl,lo,rfl,g2,g4,g5⟩
        . rw[if_neg hge]
          have hm:lo+(hi - lo) / 2<n:=by lia
          refine Am (bey _ hm _ ?_)
          dsimp only
          cases hbm:b (lo+(hi - lo) / 2) with
          | true =>
            rw[if_pos rfl]
            refine Av ⟨rfl,_,_,rfl,by lia,g2,by lia,λi hi'=>?_,g5⟩
            exact mono i _ (by lia) hm hbm
          | false =>
            rw[if_neg (by simp)]
            refine Av ⟨rfl,_,_,rfl,by lia,by lia,by lia,g4,λi hi1 hi2=>?_⟩
            cases q:b i with
            | false=>rfl
            | true=>rw[mono _ i hi1 hi2 q] at hbm;cases hbm
      . rintro c st'' ⟨rfl,lo,hi,rfl,g1,g2,g3,g4,g5⟩
        have e:lo=hi:=by simp at g3;lia
        subst e
        exact⟨rfl,lo,rfl,g2,g4,g5⟩
      . rintro c st'' ⟨rfl,k,rfl,g1,g2,g3⟩
        exact Av (hQ k g1 g2 g3)
end
end TS
namespace TS
section
variable {α:Type}{le:α->α->Prop}
structure MI (le:α->α->Prop) (a b out:List α) (ia ib:Nat):Prop where
 ha:ia<=a.length
 hb:ib<=b.length
 perm:(out++a.drop ia++b.drop ib).Perm (a++b)
 sorted:out.Pairwise le
 lea:∀x∈out,∀y∈a.drop ia,le x y
 leb:∀x∈out,∀y∈b.drop ib,le x y
theorem zcz(a:List α)(i k:Nat):a.drop i=(a.drop i).take k++a.drop (i+k):=by rw[<- List.drop_drop,List.take_append_drop]
theorem MI.takeA{a b out:List α}{ia ib:Nat}(m:MI le a b out ia ib)(sa:a.Pairwise le)(k:Nat)(hk:ia + k <= a.length)(h:∀x ∈ (a.drop ia).take k, ∀y ∈ b.drop ib, le x y) :
  MI le a b (out++(a.drop ia).take k) (ia+k) ib:=by
 have e:=zcz a ia k;have sd:((a.drop ia).take k++a.drop (ia+k)).Pairwise le:=by rw[<- e];exact sa.sublist (CA _ _)
 obtain⟨s1,s2,s3⟩:=AU.mp sd;refine⟨hk,m.hb,?_,AU.mpr ⟨m.sorted,s1,λx hx y hy=>m.lea x hx y ?_⟩,λx hx y hy=>?_,λx hx y hy=>?_⟩
 .have:=m.perm;rw[e]at this;simpa[AA]using this
 .rw[e];exact Bl _ hy
 .rcases Ap.mp hx with q |q
  .exact m.lea x q y (by rw[e];exact An _ hy)
  .exact s3 x q y hy
 .rcases Ap.mp hx with q |q
  .exact m.leb x q y hy
  .exact h x q y hy
theorem MI.takeB{a b out:List α}{ia ib:Nat}(m:MI le a b out ia ib)(sb:b.Pairwise le)(k:Nat)(hk:ib + k <= b.length)(h:∀x ∈ (b.drop ib).take k, ∀y ∈ a.drop ia, le x y) :
  MI le a b (out++(b.drop ib).take k) ia (ib+k):=by
 have e:=zcz b ib k;have sd:((b.drop ib).take k++b.drop (ib+k)).Pairwise le:=by rw[<- e];exact sb.sublist (CA _ _)
 obtain⟨s1,s2,s3⟩:=AU.mp sd;refine⟨m.ha,hk,?_,AU.mpr ⟨m.sorted,s1,λx hx y hy=>m.leb x hx y ?_⟩,λx hx y hy=>?_,λx hx y hy=>?_⟩
 .have:=m.perm;rw[e]at this;refine List.Perm.trans ?_ this;rw[AA,AA,AA,<- AA ((b.drop ib).take k),<- AA (a.drop ia)];exact List.Perm.append_left _ (List.Perm.append_right _ CP)
 .rw[e];exact Bl _ hy
 .rcases Ap.mp hx with q |q
  .exact m.lea x q y hy
  .exact h x q y hy
 .rcases Ap.mp hx with q |q
  .exact m.leb x q y (by rw[e];exact An _ hy)
  .exact s3 x q y hy
noncomputable def Res(le:α->α->Prop)(a b r:List α):Prop:=r.Perm (a++b)/\r.Pairwise le
theorem MI.done{a b out:List α}{ia ib:Nat}(m:MI le a b out ia ib)(sa:a.Pairwise le)(h:b.length<=ib):Res le a b (out++a.drop ia++b.drop ib):=by refine⟨m.perm,?_⟩;rw[List.drop_of_length_le h,AE];exact AU.mpr ⟨m.sorted,sa.sublist (CA _ _),m.lea⟩
theorem MI.lastA{a b out:List α}{ia ib:Nat}(m:MI le a b out ia ib)(sa:a.Pairwise le)(sb:b.Pairwise le)(h:∀x∈b.drop ib,∀y∈a.drop ia,le x y):Res le a b (out++b.drop ib++a.drop ia):=by
 refine⟨?_,?_⟩
 .refine List.Perm.trans ?_ m.perm;rw[AA,AA];exact List.Perm.append_left _ CP
 .refine AU.mpr ⟨AU.mpr ⟨m.sorted,sb.sublist (CA _ _),m.leb⟩,sa.sublist (CA _ _),λx hx y hy=>?_⟩;rcases Ap.mp hx with q |q
  .exact m.lea x q y hy
  .exact h x q y hy
theorem MI.start{a b:List α}{y:α}(sb:b.Pairwise le)(h0:b[0]?=some y)(h:∀x∈a,le y x):MI le a b [y] 0 1:=by
 cases b with
 |nil=>cases h0
 |cons z r =>
  cases h0
  obtain⟨s1,s2⟩:=List.pairwise_cons.mp sb;refine⟨A6 _,by simp,?_,by simp,λx hx w hw=>?_,λx hx w hw=>?_⟩
  .show ([y]++a++r).Perm (a++y::r);exact List.perm_middle.symm
  .rw[Ak.mp hx];exact h w hw
  .rw[Ak.mp hx];exact s1 w hw
end
end TS
namespace TS
open PySem PyProof.Rows
noncomputable def Like(st st':AM):Prop:=kindOf st'=kindOf st/\Ay st'=Ay st/\AR st'=AR st/\Cy st'=Cy st
theorem Like.refl(st:AM):Like st st:=⟨rfl,rfl,rfl,rfl⟩
noncomputable abbrev leOf(L:Keyed->Keyed->Bool):Keyed->Keyed->Prop:=λx y=>L y x=false
section
variable {M:Model}{A:AO}{E:Value->Ac->Prop}{s:Ac}{kd:CM}{S:Keyed->Prop}{L:Keyed->Keyed->Bool}
theorem LtOk.rf(O:LtOk M A E s kd S L){x:Keyed}(h:S x):L x x=false:=by
 cases q:L x x with
 |false=>rfl
 |true=>rw[O.as x x h h q]at q;cases q
structure Two (S:Keyed->Prop) (L:Keyed->Keyed->Bool) (a b:Array Keyed):Prop where
 sa:a.toList.Pairwise (leOf L)
 sb:b.toList.Pairwise (leOf L)
 Sa:∀x∈a.toList,S x
 Sb:∀x∈b.toList,S x
theorem zav{a:Array Keyed}{i:Nat}{x:Keyed}(h:a[i]?=some x):x∈a.toList:=by
 have:a.toList[i]?=some x:=by simpa using h
 exact Aw this
theorem zbS{a:Array Keyed}{i:Nat}{x:Keyed}(h:a[i]?=some x):a.toList.drop i=x::a.toList.drop (i+1):=by
 have hl:i<a.toList.length:=by have:=(Bb.mp h).1;simpa using this
 rw[List.drop_eq_getElem_cons hl]
 congr 1
 have:=(Bb.mp h).2;simpa using this
theorem zcs{a:Array Keyed}(O:LtOk M A E s kd S L)(sa:a.toList.Pairwise (leOf L))(Sa:∀x∈a.toList,S x){i:Nat}{x y:Keyed}(h:a[i]?=some x)(hy:y∈a.toList.drop i):leOf L x y:=by
 rw[zbS h]at hy;rcases At.mp hy with e |q
 .rw[e];exact O.rf (Sa x (zav h))
 .have:=sa.sublist (CA i _);rw[zbS h]at this;exact (List.pairwise_cons.mp this).1 y q
variable {a b:Array Keyed}{out:Array Keyed}{ia ib:Nat}
theorem one_B(O:LtOk M A E s kd S L)(T:Two S L a b)(m:MI (leOf L) a.toList b.toList out.toList ia ib){x y:Keyed}(hb:b[ib]? = some x)(ha:a[ia]? = some y)(h:L x y=true) :
  MI (leOf L) a.toList b.toList (out.push x).toList ia (ib+1):=by
 have e:(b.toList.drop ib).take 1=[x]:=by rw[zbS hb];rfl
 have hl:ib+1<=b.toList.length:=by have:=(Bb.mp hb).1;rw[AJ];exact this
 have:=m.takeB T.sb 1 hl λz hz w hw=>by rw[e]at hz;rw[Ak.mp hz];have h1:leOf L x y:=O.as x y (T.Sb x (zav hb)) (T.Sa y (zav ha)) h;exact O.tr x y w (T.Sb x (zav hb)) (T.Sa y (zav ha)) (T.Sa w (Bo hw)) h1 (zcs O T.sa T.Sa ha hw)
 rw[e]at this;rw[CY];exact this
theorem one_A(O:LtOk M A E s kd S L)(T:Two S L a b)(m:MI (leOf L) a.toList b.toList out.toList ia ib){x y:Keyed}(hb:b[ib]? = some x)(ha:a[ia]? = some y)(h:L x y=false) :
  MI (leOf L) a.toList b.toList (out.push y).toList (ia+1) ib:=by
 have e:(a.toList.drop ia).take 1=[y]:=by rw[zbS ha];rfl
 have hl:ia+1<=a.toList.length:=by have:=(Bb.mp ha).1;rw[AJ];exact this
 have:=m.takeA T.sa 1 hl λz hz w hw=>by rw[e]at hz;rw[Ak.mp hz];exact O.tr y x w (T.Sa y (zav ha)) (T.Sb x (zav hb)) (T.Sb w (Bo hw)) h (zcs O T.sb T.Sb hb hw)
 rw[e]at this;rw[CY];exact this
theorem zcv(a:Array Keyed)(i k:Nat):(a.extract i (i+k)).toList=(a.toList.drop i).take k:=by rw[CZ,Ci,Nat.add_sub_cancel_left]
theorem zfc{a:Array Keyed}{i k:Nat}{x:Keyed}(h:x∈(a.toList.drop i).take k):∃j,j<k/\a[i+j]?=some x:=by
 obtain⟨j,hj,e⟩:=AZ h
 have hk:j<k:=by have:=hj;rw[AT]at this;lia
 refine⟨j,hk,?_⟩;have h1:((a.toList.drop i).take k)[j]?=some x:=by rw[Ab hj,e]
 rw[List.getElem?_take_of_lt hk,List.getElem?_drop]at h1;simpa using h1
theorem blk_A(O:LtOk M A E s kd S L)(T:Two S L a b)(m:MI (leOf L) a.toList b.toList out.toList ia ib){x:Keyed}(hb:b[ib]? = some x)(k:Nat)(hk:ia + k <= a.size)(h:∀j y, j < k -> a[ia + j]? = some y -> L x y=false) :
  MI (leOf L) a.toList b.toList (out++a.extract ia (ia+k)).toList (ia+k) ib:=by
 rw[Bj,zcv];refine m.takeA T.sa k (by rw[AJ];exact hk) λz hz w hw=>?_
 obtain⟨j,hj,e⟩:=zfc hz;exact O.tr z x w (T.Sa z (zav e)) (T.Sb x (zav hb)) (T.Sb w (Bo hw)) (h j z hj e) (zcs O T.sb T.Sb hb hw)
theorem blk_B(O:LtOk M A E s kd S L)(T:Two S L a b)(m:MI (leOf L) a.toList b.toList out.toList ia ib){y:Keyed}(ha:a[ia]? = some y)(k:Nat)(hk:ib + k <= b.size)(h:∀j x, j < k -> b[ib + j]? = some x -> L x y=true) :
  MI (leOf L) a.toList b.toList (out++b.extract ib (ib+k)).toList ia (ib+k):=by
 rw[Bj,zcv];refine m.takeB T.sb k (by rw[AJ];exact hk) λz hz w hw=>?_
 obtain⟨j,hj,e⟩:=zfc hz;exact O.tr z y w (T.Sb z (zav e)) (T.Sa y (zav ha)) (T.Sa w (Bo hw)) (O.as z y (T.Sb z (zav e)) (T.Sa y (zav ha)) (h j z hj e)) (zcs O T.sa T.Sa ha hw)
theorem zmd(O:LtOk M A E s kd S L)(T:Two S L a b){st:AM}(hk:kindOf st=kd){x:Keyed}(Sx:S x)(hi:ia < a.size){Q:Option Nat -> AM -> Prop}
  (hQ:∀k,ia+k<=a.size->(∀j y,j<k->a[ia+j]?=some y->L x y=false)->(∀j y,k<=j->a[ia+j]?=some y->L x y=true)->Q (some k) st) {hint:Nat} (hh:hint<a.size-ia) :
  wpS M A E s (zb6 false x a ia (a.size-ia) hint) Q st:=by
 have at_:∀i,i<a.size-ia->∃y,a[ia+i]?=some y:=λi h=>⟨a[ia+i],by simp[show ia+i<a.size by lia]⟩
 refine zbr (b:=λi=>!(a[ia+i]?.elim false λy=>L x y)) O hk Sx (λi h=>?_) (λi j hij hj q=>?_) hh λk h1 h2 h3=>?_
 .obtain⟨y,e⟩:=at_ i h;exact⟨y,e,T.Sa y (zav e),by rw[if_neg (by simp),e];rfl⟩
 .obtain⟨y,e⟩:=at_ j hj;obtain⟨z,e2⟩:=at_ i (by lia);rw[e]at q;rw[e2];have q1:L x y=false:=by simpa using q
  have le1:leOf L z y:=zcs O T.sa T.Sa e2 (by
   have:y∈(a.toList.drop (ia+i)).drop (j-i):=by rw[List.drop_drop,show ia+i+(j-i)=ia+j by lia,zbS e];exact AQ
   exact Bo this)
  have:L x z=false:=O.tr z y x (T.Sa z (zav e2)) (T.Sa y (zav e)) Sx le1 q1;simpa using this
 .refine hQ k (by lia) (λj y hj e=>?_) (λj y hj e=>?_)
  .have:=h2 j hj;rw[e]at this;simpa using this
  .have hlt:j < a.size-ia := by have:=(Bb.mp e).1;lia
   have:=h3 j hj hlt;rw[e]at this;simpa using this
theorem zmc(O:LtOk M A E s kd S L)(T:Two S L a b){st:AM}(hk:kindOf st=kd){y:Keyed}(Sy:S y)(hi:ib < b.size){Q:Option Nat -> AM -> Prop}
  (hQ:∀k,ib+k<=b.size->(∀j x,j<k->b[ib+j]?=some x->L x y=true)->(∀j x,k<=j->b[ib+j]?=some x->L x y=false)->Q (some k) st) {hint:Nat} (hh:hint<b.size-ib) :
  wpS M A E s (zb6 true y b ib (b.size-ib) hint) Q st:=by
 have at_:∀i,i<b.size-ib->∃x,b[ib+i]?=some x:=λi h=>⟨b[ib+i],by simp[show ib+i<b.size by lia]⟩
 refine zbr (b:=λi=>b[ib+i]?.elim false λx=>L x y) O hk Sy (λi h=>?_) (λi j hij hj q=>?_) hh λk h1 h2 h3=>?_
 .obtain⟨x,e⟩:=at_ i h;exact⟨x,e,T.Sb x (zav e),by rw[if_pos rfl,e];rfl⟩
 .obtain⟨x,e⟩:=at_ j hj;obtain⟨z,e2⟩:=at_ i (by lia);rw[e]at q;rw[e2];have q1:L x y=true:=q;show L z y=true
  have le1:leOf L z x:=zcs O T.sb T.Sb e2 (by
   have:x∈(b.toList.drop (ib+i)).drop (j-i):=by rw[List.drop_drop,show ib+i+(j-i)=ib+j by lia,zbS e];exact AQ
   exact Bo this)
  cases w:L z y with
  |true=>rfl
  |false =>
   have:L x y=false:=O.tr y z x Sy (T.Sb z (zav e2)) (T.Sb x (zav e)) w le1;rw[this]at q1;cases q1
 .refine hQ k (by lia) (λj x hj e=>?_) (λj x hj e=>?_)
  .have:=h2 j hj;rw[e]at this;exact this
  .have hlt:j < b.size-ib := by have:=(Bb.mp e).1;lia
   have:=h3 j hj hlt;rw[e]at this;exact this
end
end TS
set_option maxHeartbeats 8000000
namespace TS
open PySem PyProof.Rows
section
variable {M:Model}{A:AO}{E:Value->Ac->Prop}{s:Ac}{kd:CM}{S:Keyed->Prop}{L:Keyed->Keyed->Bool}{a b out:Array Keyed}{ia ib:Nat}
theorem zbo(a:Array Keyed)(i:Nat):(a.extract i a.size).toList=a.toList.drop i:=by rw[CZ,Ci,BY (by simp)]
theorem zdy(T:Two S L a b)(m:MI (leOf L) a.toList b.toList out.toList ia ib)(h:b.size<=ib):Res (leOf L) a.toList b.toList (out++a.extract ia a.size++b.extract ib b.size).toList:=by rw[Bj,Bj,zbo,zbo];exact m.done T.sa (by rw[AJ];exact h)
theorem zjB(T:Two S L a b)(m:MI (leOf L) a.toList b.toList out.toList ia ib)(h:a.size<=ia):Res (leOf L) a.toList b.toList (out++a.extract ia a.size++b.extract ib b.size).toList:=by rw[Bj,Bj,zbo,zbo];have e:a.toList.drop ia=[]:=List.drop_of_length_le (by rw[AJ];exact h);refine⟨m.perm,?_⟩;rw[e,AE];exact AU.mpr ⟨m.sorted,T.sb.sublist (CA _ _),m.leb⟩
theorem zdx(T:Two S L a b)(hl:∀z,a[a.size-1]?=some z->∀x∈b.toList,leOf L x z)(m:MI (leOf L) a.toList b.toList out.toList ia ib)(h:ia+1=a.size):Res (leOf L) a.toList b.toList (out++b.extract ib b.size++a.extract ia a.size).toList:=by
 rw[Bj,Bj,zbo,zbo];have hlt:ia<a.size:=by lia
 have e:a[ia]?=some a[ia]:=by simp[hlt]
 refine m.lastA T.sa T.sb λx hx y hy=>?_
 rw[zbS e,List.drop_of_length_le (by rw[AJ];lia)]at hy;rw[Ak.mp hy];exact hl _ (by rw[show a.size-1=ia by lia];exact e) x (Bo hx)
theorem Like.tr{x y z:AM}(h:Like x y)(k:Like y z):Like x z:=⟨k.1.trans h.1,k.2.1.trans h.2.1,k.2.2.1.trans h.2.2.1,k.2.2.2.trans h.2.2.2⟩
noncomputable def zep:Nat->StateT AM Sem Unit:=sortPriv% PySem.Builtin.setMinGallop
noncomputable abbrev LH:=Option (Array Keyed)×Array Keyed×Nat×Nat×Nat×Nat×Nat
noncomputable def loC(a b out:Array Keyed)(ia ib mg ac bc:Nat):StateT AM Sem (ForInStep LH) :=
 elem' a ia >>= λx =>
  if (ia+1+1 == a.size)=true then pure (.done (some (out.push x++b.extract ib b.size++a.extract (ia+1) a.size),out.push x,ia+1,ib,mg,ac,bc))
  else if (decide (ac<7) && decide (bc<7))=true then pure (.done (none,out.push x,ia+1,ib,mg,ac,bc))
  else pure (.yield (none,out.push x,ia+1,ib,mg,ac,bc))
noncomputable def loB(a b out:Array Keyed)(ia ib mg ac bc:Nat):StateT AM Sem (ForInStep LH) :=
 elem' b ib >>= λx =>
  if (ib+1 == b.size)=true then pure (.done (some (out.push x++a.extract ia a.size++b.extract (ib+1) b.size),out.push x,ia,ib+1,mg,ac,bc))
  else elem' a ia >>= λy=>zb6 true y b (ib+1) (b.size-(ib+1)) 0 >>= λw =>
   match w with
   |some k =>
    if k > 0 then
     if (ib+1+k == b.size)=true then pure (.done (some (out.push x++b.extract (ib+1) (ib+1+k)++a.extract ia a.size++b.extract (ib+1+k) b.size),out.push x++b.extract (ib+1) (ib+1+k),ia,ib+1+k,mg,ac,k))
     else loC a b (out.push x++b.extract (ib+1) (ib+1+k)) ia (ib+1+k) mg ac k
    else loC a b (out.push x) ia (ib+1) mg ac k
   |_=>pure (.done (some (out.push x++a.extract ia a.size++b.extract (ib+1) b.size),out.push x,ia,ib+1,mg,ac,bc))
noncomputable def loA(a b out:Array Keyed)(ia ib mg ac bc:Nat):StateT AM Sem (ForInStep LH) :=
 elem' b ib >>= λx=>zb6 false x a ia (a.size-ia) 0 >>= λw =>
  match w with
  |some k =>
   if k > 0 then
    if (ia+k+1 == a.size)=true then pure (.done (some (out++a.extract ia (ia+k)++b.extract ib b.size++a.extract (ia+k) a.size),out++a.extract ia (ia+k),ia+k,ib,mg,k,bc))
    else if (ia+k == a.size)=true then pure (.done (some (out++a.extract ia (ia+k)++a.extract (ia+k) a.size++b.extract ib b.size),out++a.extract ia (ia+k),ia+k,ib,mg,k,bc))
    else loB a b (out++a.extract ia (ia+k)) (ia+k) ib mg k bc
   else loB a b out ia ib mg k bc
  |_=>pure (.done (some (out++a.extract ia a.size++b.extract ib b.size),out,ia,ib,mg,ac,bc))
noncomputable def loG(a b:Array Keyed)(c:LH):StateT AM Sem (ForInStep LH) :=
 if c.2.2.2.2.1 > 1 then zep (c.2.2.2.2.1-1) >>= λ_=>loA a b c.2.1 c.2.2.1 c.2.2.2.1 (c.2.2.2.2.1-1) c.2.2.2.2.2.1 c.2.2.2.2.2.2
 else zep c.2.2.2.2.1 >>= λ_=>loA a b c.2.1 c.2.2.1 c.2.2.2.1 c.2.2.2.2.1 c.2.2.2.2.2.1 c.2.2.2.2.2.2
noncomputable abbrev LI:=Option (Array Keyed)×Array Keyed×Nat×Nat×Nat×Nat
noncomputable def loI(a b:Array Keyed)(mg:Nat)(c:LI):StateT AM Sem (ForInStep LI) :=
 elem' b c.2.2.2.1 >>= λx=>elem' a c.2.2.1 >>= λy=>lt' x y >>= λw =>
  match w with
  |some v =>
   if v=true then elem' b c.2.2.2.1 >>= λx =>
    if (c.2.2.2.1+1 == b.size)=true then pure (.done (some (c.2.1.push x++a.extract c.2.2.1 a.size++b.extract (c.2.2.2.1+1) b.size),c.2.1.push x,c.2.2.1,c.2.2.2.1+1,0,c.2.2.2.2.2+1))
    else if c.2.2.2.2.2+1 ≥ mg then pure (.done (none,c.2.1.push x,c.2.2.1,c.2.2.2.1+1,0,c.2.2.2.2.2+1))
    else pure (.yield (none,c.2.1.push x,c.2.2.1,c.2.2.2.1+1,0,c.2.2.2.2.2+1))
   else elem' a c.2.2.1 >>= λy =>
    if (c.2.2.1+1+1 == a.size)=true then pure (.done (some (c.2.1.push y++b.extract c.2.2.2.1 b.size++a.extract (c.2.2.1+1) a.size),c.2.1.push y,c.2.2.1+1,c.2.2.2.1,c.2.2.2.2.1+1,0))
    else if c.2.2.2.2.1+1 ≥ mg then pure (.done (none,c.2.1.push y,c.2.2.1+1,c.2.2.2.1,c.2.2.2.2.1+1,0))
    else pure (.yield (none,c.2.1.push y,c.2.2.1+1,c.2.2.2.1,c.2.2.2.2.1+1,0))
  |_=>pure (.done (some (c.2.1++a.extract c.2.2.1 a.size++b.extract c.2.2.2.1 b.size),c.2.1,c.2.2.1,c.2.2.2.1,c.2.2.2.2.1,c.2.2.2.2.2))
noncomputable abbrev LO:=Option (Array Keyed)×Array Keyed×Nat×Nat×Nat
noncomputable def loP(a b:Array Keyed)(mg:Nat)(c:LI):StateT AM Sem (ForInStep LO) :=
 CN (λ_=>StateT AM Sem (ForInStep LO)) c.1 (λr=>pure (.done (some r,c.2.1,c.2.2.1,c.2.2.2.1,mg))) λ_=>(liftM (rule "list.sort.gallop"):StateT AM Sem Unit) >>= λ_=>forIn [:a.size+b.size] ((none,c.2.1,c.2.2.1,c.2.2.2.1,mg+1,c.2.2.2.2.1,c.2.2.2.2.2):LH) (λ_ c=>loG a b c) >>= λc =>
  CN (λ_=>StateT AM Sem (ForInStep LO)) c.1 (λr=>pure (.done (some r,c.2.1,c.2.2.1,c.2.2.2.1,c.2.2.2.2.1))) λ_=>zep (c.2.2.2.2.1+1) >>= λ_=>pure (.yield (none,c.2.1,c.2.2.1,c.2.2.2.1,c.2.2.2.2.1+1))
noncomputable def loO(a b:Array Keyed)(c:LO):StateT AM Sem (ForInStep LO) :=
 forIn [:a.size+b.size] ((none,c.2.1,c.2.2.1,c.2.2.2.1,0,0):LI) (λ_ d=>loI a b c.2.2.2.2 d) >>= λd=>loP a b c.2.2.2.2 d
noncomputable def zki(a b:Array Keyed):StateT AM Sem (Array Keyed) :=
 (liftM (rule "list.sort.merge-lo"):StateT AM Sem Unit) >>= λ_=>elem' b 0 >>= λx =>
  if (1 == b.size)=true then pure (#[x]++a.extract 0 a.size++b.extract 1 b.size)
  else if (0+1 == a.size)=true then pure (#[x]++b.extract 1 b.size++a.extract 0 a.size)
  else get >>= λs=>forIn [:a.size+b.size] ((none,#[x],0,1,gallopOf s):LO) (λ_ c=>loO a b c) >>= λc =>
   CN (λ_=>StateT AM Sem (Array Keyed)) c.1 (λr=>pure r) λ_=>unsupported "internal:list.sort.merge-bound"
theorem zh4(a b:Array Keyed):zfa a b=zki a b:=rfl
variable {Q:ForInStep LH->AM->Prop}{z:AM}{N mg ac bc:Nat}{x y:Keyed}
theorem zhs(O:LtOk M A E s kd S L)(T:Two S L a b)(hl:∀z, a[a.size-1]? = some z -> ∀x ∈ b.toList, leOf L x z)(hD:∀r out ia ib mg ac bc, Res (leOf L) a.toList b.toList r.toList -> Q (.done (some r, out, ia, ib, mg, ac, bc)) z)
  (hN:∀out ia ib mg ac bc,MI (leOf L) a.toList b.toList out.toList ia ib->ia+1<a.size->ib<b.size->N<=ia+ib->Q (.done (none,out,ia,ib,mg,ac,bc)) z/\Q (.yield (none,out,ia,ib,mg,ac,bc)) z)
  (m:MI (leOf L) a.toList b.toList out.toList ia ib) (ea:a[ia]?=some y) (eb:b[ib]?=some x) (hw:L x y=false) (g1:ia+1<a.size) (g2:ib<b.size) (g3:N<=ia+ib) :
  wpS M A E s (loC a b out ia ib mg ac bc) Q z:=by
 have n4:=one_A O T m eb ea hw;refine Am (zaC ea ?_)
 by_cases e:ia+1+1=a.size
 .rw[if_pos (by simp[e])];exact Av (hD _ _ _ _ _ _ _ (zdx T hl n4 (by lia)))
 rw[if_neg (by simp[e])];have h:=hN _ _ _ mg ac bc n4 (by lia) g2 (by lia);split
 .exact Av h.1
 .exact Av h.2
theorem zht(O:LtOk M A E s kd S L)(T:Two S L a b)(hk:kindOf z=kd)(hl:∀z, a[a.size-1]? = some z -> ∀x ∈ b.toList, leOf L x z)(hD:∀r out ia ib mg ac bc, Res (leOf L) a.toList b.toList r.toList -> Q (.done (some r, out, ia, ib, mg, ac, bc)) z)
  (hN:∀out ia ib mg ac bc,MI (leOf L) a.toList b.toList out.toList ia ib->ia+1<a.size->ib<b.size->N<=ia+ib->Q (.done (none,out,ia,ib,mg,ac,bc)) z/\Q (.yield (none,out,ia,ib,mg,ac,bc)) z)
  (m:MI (leOf L) a.toList b.toList out.toList ia ib) (ea:a[ia]?=some y) (eb:b[ib]?=some x) (hw:L x y=true) (g1:ia+1<a.size) (g2:ib<b.size) (g3:N<=ia+ib) :
  wpS M A E s (loB a b out ia ib mg ac bc) Q z:=by
 have n2:=one_B O T m eb ea hw;refine Am (zaC eb ?_)
 by_cases e3:ib+1=b.size
 .rw[if_pos (by simp[e3])];exact Av (hD _ _ _ _ _ _ _ (zdy T n2 (by lia)))
 rw[if_neg (by simp[e3])];refine Am (zaC ea ?_);refine Am (zmc O T hk (T.Sa _ (zav ea)) (by lia) (λk r1 r2 r3=>?_) (by lia));dsimp only
 by_cases hk1:k > 0
 .rw[if_pos hk1];have n3:=blk_B O T n2 ea k r1 r2
  by_cases e4:ib+1+k=b.size
  .rw[if_pos (by simp[e4])];exact Av (hD _ _ _ _ _ _ _ (zdy T n3 (by lia)))
  rw[if_neg (by simp[e4])];have hb:ib+1+k<b.size:=by lia
  exact zhs O T hl hD hN n3 ea (by simp[hb]) (r3 k b[ib+1+k] (Aj _) (by simp[hb])) g1 hb (by lia)
 rw[if_neg hk1];have hb:ib+1<b.size:=by lia
 have kz:k=0:=by lia
 subst kz;exact zhs O T hl hD hN n2 ea (by simp[hb]) (r3 0 b[ib+1] (Aj _) (by simp[hb])) g1 hb (by lia)
theorem zko(O:LtOk M A E s kd S L)(T:Two S L a b)(hk:kindOf z=kd)(hl:∀z, a[a.size-1]? = some z -> ∀x ∈ b.toList, leOf L x z)(hD:∀r out ia ib mg ac bc, Res (leOf L) a.toList b.toList r.toList -> Q (.done (some r, out, ia, ib, mg, ac, bc)) z)
  (hN:∀out ia ib mg ac bc,MI (leOf L) a.toList b.toList out.toList ia ib->ia+1<a.size->ib<b.size->N<=ia+ib->Q (.done (none,out,ia,ib,mg,ac,bc)) z/\Q (.yield (none,out,ia,ib,mg,ac,bc)) z)
  (m:MI (leOf L) a.toList b.toList out.toList ia ib) (g1:ia+1<a.size) (g2:ib<b.size) (g3:N<=ia+ib) :
  wpS M A E s (loA a b out ia ib mg ac bc) Q z:=by
 have eb:b[ib]?=some b[ib]:=by simp[g2]
 refine Am (zaC eb ?_);refine Am (zmd O T hk (T.Sb _ (zav eb)) (by lia) (λk q1 q2 q3=>?_) (by lia));dsimp only
 by_cases hk0:k > 0
 .rw[if_pos hk0];have n1:=blk_A O T m eb k q1 q2
  by_cases e1:ia+k+1=a.size
  .rw[if_pos (by simp[e1])];exact Av (hD _ _ _ _ _ _ _ (zdx T hl n1 e1))
  rw[if_neg (by simp[e1])]
  by_cases e2:ia+k=a.size
  .rw[if_pos (by simp[e2])];exact Av (hD _ _ _ _ _ _ _ (zjB T n1 (by lia)))
  rw[if_neg (by simp[e2])];have ha:ia+k<a.size:=by lia
  exact zht O T hk hl hD hN n1 (by simp[ha]) eb (q3 k a[ia+k] (Aj _) (by simp[ha])) (by lia) g2 (by lia)
 rw[if_neg hk0];have ha:ia<a.size:=by lia
 have kz:k=0:=by lia
 subst kz;exact zht O T hk hl hD hN m (by simp[ha]) eb (q3 0 a[ia] (Aj _) (by simp[ha])) g1 g2 g3
theorem zkm{Q:ForInStep LI -> AM -> Prop}(O:LtOk M A E s kd S L)(T:Two S L a b)(hk:kindOf z=kd)(hl:∀z, a[a.size-1]? = some z -> ∀x ∈ b.toList, leOf L x z)(m:MI (leOf L) a.toList b.toList out.toList ia ib)(g1:ia + 1 < a.size)(g2:ib < b.size)
  (hD:∀r out ia ib ac bc,Res (leOf L) a.toList b.toList r.toList->Q (.done (some r,out,ia,ib,ac,bc)) z)
  (hN:∀out ia' ib' ac bc,MI (leOf L) a.toList b.toList out.toList ia' ib'->ia'+1<a.size->ib'<b.size->ia+ib+1<=ia'+ib'->Q (.done (none,out,ia',ib',ac,bc)) z/\Q (.yield (none,out,ia',ib',ac,bc)) z) :
  wpS M A E s (loI a b mg (none,out,ia,ib,ac,bc)) Q z:=by
 obtain⟨xb,eb⟩:∃x,b[ib]?=some x:=⟨b[ib]'(by lia),by simp[g2]⟩;obtain⟨xa,ea⟩:∃x,a[ia]?=some x:=⟨a[ia]'(by lia),by simp[show ia<a.size by lia]⟩;refine Am (zaC eb (Am (zaC ea (Am (O.lt xb xa (T.Sb _ (zav eb)) (T.Sa _ (zav ea)) _ _ hk ?_)))));dsimp only
 cases hw:L xb xa with
 |true =>
  rw[if_pos rfl];have m2:=one_B O T m eb ea hw;refine Am (zaC eb ?_)
  by_cases e:ib+1=b.size
  .rw[if_pos (by simp[e])];exact Av (hD _ _ _ _ _ _ (zdy T m2 (by lia)))
  rw[if_neg (by simp[e])];have h:=hN _ _ _ 0 (bc+1) m2 g1 (by lia) (by lia);split
  .exact Av h.1
  .exact Av h.2
 |false =>
  rw[if_neg (by simp)];have m2:=one_A O T m eb ea hw;refine Am (zaC ea ?_)
  by_cases e:ia+1+1=a.size
  .rw[if_pos (by simp[e])];exact Av (hD _ _ _ _ _ _ (zdx T hl m2 (by lia)))
  rw[if_neg (by simp[e])];have h:=hN _ _ _ (ac+1) 0 m2 (by lia) g2 (by lia);split
  .exact Av h.1
  .exact Av h.2
theorem zkn(O:LtOk M A E s kd S L)(T:Two S L a b)(hk:kindOf z=kd)(hl:∀z, a[a.size-1]? = some z -> ∀x ∈ b.toList, leOf L x z)(hD:∀z', Like z z' -> ∀r out ia ib mg ac bc, Res (leOf L) a.toList b.toList r.toList -> Q (.done (some r, out, ia, ib, mg, ac, bc)) z')
  (hN:∀z',Like z z'->∀out ia ib mg ac bc,MI (leOf L) a.toList b.toList out.toList ia ib->ia+1<a.size->ib<b.size->N<=ia+ib->Q (.done (none,out,ia,ib,mg,ac,bc)) z'/\Q (.yield (none,out,ia,ib,mg,ac,bc)) z')
  (m:MI (leOf L) a.toList b.toList out.toList ia ib) (g1:ia+1<a.size) (g2:ib<b.size) (g3:N<=ia+ib) :
  wpS M A E s (loG a b (none,out,ia,ib,mg,ac,bc)) Q z:=by
 have key:∀z',Like z z'->∀mg,wpS M A E s (loA a b out ia ib mg ac bc) Q z':=λz' h mg=>zko O T (h.1.trans hk) hl (hD z' h) (hN z' h) m g1 g2 g3
 unfold loG;split
 .exact Am (BU (key _ (by exact Like.refl z) _))
 .exact Am (BU (key _ (by exact Like.refl z) _))
theorem zkk{Q:ForInStep LO -> AM -> Prop}(O:LtOk M A E s kd S L)(T:Two S L a b)(hk:kindOf z=kd)(hl:∀z, a[a.size-1]? = some z -> ∀x ∈ b.toList, leOf L x z)(m:MI (leOf L) a.toList b.toList out.toList ia ib)(g1:ia + 1 < a.size)(g2:ib < b.size)(g3:N <= ia + ib)
  (hD:∀z',Like z z'->∀r out ia ib mg,Res (leOf L) a.toList b.toList r.toList->Q (.done (some r,out,ia,ib,mg)) z')
  (hN:∀z',Like z z'->∀out ia ib mg,MI (leOf L) a.toList b.toList out.toList ia ib->ia+1<a.size->ib<b.size->N<=ia+ib->Q (.yield (none,out,ia,ib,mg)) z') :
  wpS M A E s (loP a b mg (none,out,ia,ib,ac,bc)) Q z:=by
 refine Am (wpS_lift (Dc ⟨rfl,?_⟩))
 refine Am (Ck (By (I:=λy c w=>Like z w/\∃out ia ib mg ac bc,c=(none,out,ia,ib,mg,ac,bc)/\MI (leOf L) a.toList b.toList out.toList ia ib/\ia+1<a.size/\ib<b.size/\N<=ia+ib)
  (Q:=λc w=>Like z w/\((∃r,c.1=some r/\Res (leOf L) a.toList b.toList r.toList)∨∃out ia ib mg ac bc,c=(none,out,ia,ib,mg,ac,bc)/\MI (leOf L) a.toList b.toList out.toList ia ib/\ia+1<a.size/\ib<b.size/\N<=ia+ib)) ?_ ?_ ⟨Like.refl _,_,_,_,_,_,_,rfl,m,g1,g2,g3⟩) ?_)
 .rintro y c w _ hy ⟨lk,out,ia,ib,mg,ac,bc,rfl,m,k1,k2,k3⟩;exact zkn O T (lk.1.trans hk) hl (λw' h r _ _ _ _ _ _ e=>⟨Like.tr lk h,.inl ⟨r,rfl,e⟩⟩) (λw' h _ _ _ _ _ _ e u1 u2 u3=>⟨⟨Like.tr lk h,.inr ⟨_,_,_,_,_,_,rfl,e,u1,u2,u3⟩⟩,Like.tr lk h,_,_,_,_,_,_,rfl,e,u1,u2,u3⟩) m k1 k2 k3
 .rintro c w ⟨lk,r⟩;exact⟨lk,.inr r⟩
 .rintro c w ⟨lk,hc⟩;rcases hc with⟨r,e,res⟩ |⟨out,ia,ib,mg,ac,bc,rfl,m,k1,k2,k3⟩
  .rw[e];exact Av (hD w lk _ _ _ _ _ res)
  .exact Am (BU (Av (hN _ (by exact lk) _ _ _ _ m k1 k2 k3)))
theorem zkl{Q:ForInStep LO -> AM -> Prop}(O:LtOk M A E s kd S L)(T:Two S L a b)(hk:kindOf z=kd)(hl:∀z, a[a.size-1]? = some z -> ∀x ∈ b.toList, leOf L x z)(m:MI (leOf L) a.toList b.toList out.toList ia ib)(g1:ia + 1 < a.size)(g2:ib < b.size)
  (hD:∀z',Like z z'->∀r out ia ib mg,Res (leOf L) a.toList b.toList r.toList->Q (.done (some r,out,ia,ib,mg)) z')
  (hN:∀z',Like z z'->∀out ia' ib' mg,MI (leOf L) a.toList b.toList out.toList ia' ib'->ia'+1<a.size->ib'<b.size->ia+ib+1<=ia'+ib'->Q (.yield (none,out,ia',ib',mg)) z') :
  wpS M A E s (loO a b (none,out,ia,ib,mg)) Q z:=by
 refine Am (Ck (By (I:=λy c w=>w=z/\∃out ia' ib' ac bc,c=(none,out,ia',ib',ac,bc)/\MI (leOf L) a.toList b.toList out.toList ia' ib'/\ia'+1<a.size/\ib'<b.size/\ia+ib+y<=ia'+ib')
  (Q:=λc w=>w=z/\((∃r,c.1=some r/\Res (leOf L) a.toList b.toList r.toList)∨∃out ia' ib' ac bc,c=(none,out,ia',ib',ac,bc)/\MI (leOf L) a.toList b.toList out.toList ia' ib'/\ia'+1<a.size/\ib'<b.size/\ia+ib+1<=ia'+ib')) ?_ ?_ ⟨rfl,_,_,_,_,_,rfl,m,g1,g2,by lia⟩) ?_)
 .rintro y c w _ hy ⟨rfl,out',ia',ib',ac,bc,rfl,m',j1,j2,j3⟩;exact zkm O T hk hl m' j1 j2 (λr _ _ _ _ _ e=>⟨rfl,.inl ⟨r,rfl,e⟩⟩) λ_ _ _ _ _ e u1 u2 u3=>⟨⟨rfl,.inr ⟨_,_,_,_,_,rfl,e,u1,u2,by lia⟩⟩,rfl,_,_,_,_,_,rfl,e,u1,u2,by lia⟩
 .rintro c w ⟨rfl,out',ia',ib',ac,bc,rfl,m',j1,j2,j3⟩;exact⟨rfl,.inr ⟨out',ia',ib',ac,bc,rfl,m',j1,j2,by lia⟩⟩
 .rintro c w ⟨rfl,hc⟩;rcases hc with⟨r,e,res⟩ |⟨out',ia',ib',ac,bc,rfl,m',j1,j2,j3⟩
  .unfold loP;rw[e];exact Av (hD _ (Like.refl _) _ _ _ _ _ res)
  .exact zkk (N:=ia'+ib') O T hk hl m' j1 j2 (Aj _) hD λz' h _ _ _ _ e u1 u2 u3=>hN z' h _ _ _ _ e u1 u2 (by lia)
end
section
variable {M:Model}{A:AO}{E:Value->Ac->Prop}{s:Ac}{kd:CM}{S:Keyed->Prop}{L:Keyed->Keyed->Bool}{a b:Array Keyed}
theorem zfN(O:LtOk M A E s kd S L)(T:Two S L a b){st:AM}{Q:Array Keyed -> AM -> Prop}(hk:kindOf st=kd)(ha : 0 < a.size)(hb : 0 < b.size)(h0:∀y, b[0]? = some y -> ∀x ∈ a.toList, leOf L y x)
  (hl:∀z,a[a.size-1]?=some z->∀x∈b.toList,leOf L x z) (hQ:∀r st',Res (leOf L) a.toList b.toList r.toList->Like st st'->Q r st'):wpS M A E s (zfa a b) Q st:=by
 rw[zh4];have atA:∀i,i<a.size->∃x,a[i]?=some x:=λi h=>⟨a[i],by simp[h]⟩
 have atB:∀i,i<b.size->∃x,b[i]?=some x:=λi h=>⟨b[i],by simp[h]⟩
 obtain⟨b0,e0⟩:=atB 0 hb;have m0:MI (leOf L) a.toList b.toList (#[b0]:Array Keyed).toList 0 1:=MI.start T.sb (by simpa using e0) (h0 b0 e0);refine Am (wpS_lift (Dc ⟨rfl,?_⟩));refine Am (zaC e0 ?_)
 by_cases hb1:b.size=1
 .rw[if_pos (by simp[hb1])];exact Av (hQ _ _ (zdy T m0 (by lia)) (Like.refl _))
 rw[if_neg (by simp;lia)]
 by_cases ha1:a.size=1
 .rw[if_pos (by simp[ha1])];exact Av (hQ _ _ (zdx T hl m0 (by lia)) (Like.refl _))
 rw[if_neg (by simp;lia)];refine Am (DW ?_)
 refine Am (Ck (By (I:=λx c st'=>Like st st'/\∃out ia ib mg,c=(none,out,ia,ib,mg)/\MI (leOf L) a.toList b.toList out.toList ia ib/\ia+1<a.size/\ib<b.size/\x+1<=ia+ib)
  (Q:=λc st'=>Like st st'/\∃r,c.1=some r/\Res (leOf L) a.toList b.toList r.toList) ?step ?fin ⟨Like.refl _,_,_,_,_,rfl,m0,by lia,by lia,by lia⟩) ?post)
 case fin =>
  rintro c st' ⟨_,out,ia,ib,mg,rfl,m,g1,g2,g3⟩;exact absurd g3 (by lia)
 case post =>
  rintro c st' ⟨lk,r,e,res⟩;rw[e];exact Av (hQ r st' res lk)
 case step =>
  rintro x c st' _ hx ⟨lk,out,ia,ib,mg,rfl,m,g1,g2,g3⟩;exact zkl O T (lk.1.trans hk) hl m g1 g2 (λz' h r _ _ _ _ e=>⟨Like.tr lk h,r,rfl,e⟩) λz' h _ _ _ _ e u1 u2 u3=>⟨Like.tr lk h,_,_,_,_,rfl,e,u1,u2,by lia⟩
end
end TS
set_option maxHeartbeats 8000000
namespace TS
open PySem PyProof.Rows
section
variable {α:Type}{le:α->α->Prop}
structure MJ (le:α->α->Prop) (a b r:List α) (na nb:Nat):Prop where
 ha:na<=a.length
 hb:nb<=b.length
 perm:(a.take na++b.take nb++r).Perm (a++b)
 sorted:r.Pairwise le
 lea:∀x∈a.take na,∀y∈r,le x y
 leb:∀x∈b.take nb,∀y∈r,le x y
theorem zel(a:List α)(i n:Nat)(h:i<=n):a.take n=a.take i++(a.drop i).take (n-i):=by rw[<- List.take_add,show i+(n-i)=n by lia]
theorem MJ.takeA{a b r:List α}{na nb:Nat}(m:MJ le a b r na nb)(sa:a.Pairwise le)(i:Nat)(hi:i <= na)(h:∀x ∈ b.take nb, ∀y ∈ (a.drop i).take (na-i), le x y) :
  MJ le a b ((a.drop i).take (na-i)++r) i nb:=by
 have e:=zel a i na hi;have sd:(a.take i++(a.drop i).take (na-i)).Pairwise le:=by rw[<- e];exact sa.sublist (Cc _ _)
 obtain⟨s1,s2,s3⟩:=AU.mp sd;refine⟨AN hi m.ha,m.hb,?_,AU.mpr ⟨s2,m.sorted,λx hx y hy=>m.lea x (by rw[e];exact An _ hx) y hy⟩,λx hx y hy=>?_,λx hx y hy=>?_⟩
 .have:=m.perm;rw[e]at this;refine List.Perm.trans ?_ this;rw[AA,AA,AA,<- AA (b.take nb),<- AA ((a.drop i).take (na-i))];exact List.Perm.append_left _ (List.Perm.append_right _ CP)
 .rcases Ap.mp hy with q |q
  .exact s3 x hx y q
  .exact m.lea x (by rw[e];exact Bl _ hx) y q
 .rcases Ap.mp hy with q |q
  .exact h x hx y q
  .exact m.leb x hx y q
theorem MJ.takeB{a b r:List α}{na nb:Nat}(m:MJ le a b r na nb)(sb:b.Pairwise le)(i:Nat)(hi:i <= nb)(h:∀x ∈ a.take na, ∀y ∈ (b.drop i).take (nb-i), le x y) :
  MJ le a b ((b.drop i).take (nb-i)++r) na i:=by
 have e:=zel b i nb hi;have sd:(b.take i++(b.drop i).take (nb-i)).Pairwise le:=by rw[<- e];exact sb.sublist (Cc _ _)
 obtain⟨s1,s2,s3⟩:=AU.mp sd;refine⟨m.ha,AN hi m.hb,?_,AU.mpr ⟨s2,m.sorted,λx hx y hy=>m.leb x (by rw[e];exact An _ hx) y hy⟩,λx hx y hy=>?_,λx hx y hy=>?_⟩
 .have:=m.perm;rw[e]at this;simpa[AA]using this
 .rcases Ap.mp hy with q |q
  .exact h x hx y q
  .exact m.lea x hx y q
 .rcases Ap.mp hy with q |q
  .exact s3 x hx y q
  .exact m.leb x (by rw[e];exact Bl _ hx) y q
theorem MJ.doneB{a b r:List α}{nb:Nat}(m:MJ le a b r 0 nb)(sb:b.Pairwise le):Res le a b (a.take 0++b.take nb++r) :=
 ⟨m.perm,by rw[Dy,List.nil_append];exact AU.mpr ⟨sb.sublist (Cc _ _),m.sorted,m.leb⟩⟩
theorem MJ.doneA{a b r:List α}{na:Nat}(m:MJ le a b r na 0)(sa:a.Pairwise le):Res le a b (a.take na++b.take 0++r) :=
 ⟨m.perm,by rw[Dy,AE];exact AU.mpr ⟨sa.sublist (Cc _ _),m.sorted,m.lea⟩⟩
theorem MJ.firstB{a b r:List α}{na nb:Nat}(m:MJ le a b r na nb)(sa:a.Pairwise le)(sb:b.Pairwise le)(h:∀x∈b.take nb,∀y∈a.take na,le x y):Res le a b (b.take nb++a.take na++r):=by
 refine⟨List.Perm.trans (List.Perm.append_right _ CP) m.perm,?_⟩;refine AU.mpr ⟨AU.mpr ⟨sb.sublist (Cc _ _),sa.sublist (Cc _ _),h⟩,m.sorted,λx hx y hy=>?_⟩;rcases Ap.mp hx with q |q
 .exact m.leb x q y hy
 .exact m.lea x q y hy
end
end TS
set_option maxHeartbeats 8000000
namespace TS
open PySem PyProof.Rows
section
variable {M:Model}{A:AO}{E:Value->Ac->Prop}{s:Ac}{kd:CM}{S:Keyed->Prop}{L:Keyed->Keyed->Bool}{a b out:Array Keyed}{na nb:Nat}
theorem zfe{a:Array Keyed}(O:LtOk M A E s kd S L)(sa:a.toList.Pairwise (leOf L))(Sa:∀x∈a.toList,S x){i:Nat}{x y:Keyed}(h:a[i]?=some x)(hy:y∈a.toList.take (i+1)):leOf L y x:=by
 have hi:i<a.toList.length:=by have:=(Bb.mp h).1;rw[AJ];exact this
 have e:a.toList.take (i+1)=a.toList.take i++[x]:=by
  rw[List.take_succ];have:a.toList[i]?=some x:=by simpa using h
  rw[this];rfl
 rw[e]at hy;rcases Ap.mp hy with q |q
 .have:=sa.sublist (Cc (i+1) _);rw[e]at this;exact (AU.mp this).2.2 y q x AQ
 .rw[Ak.mp q];exact O.rf (Sa x (zav h))
theorem zd4{a:Array Keyed}{i:Nat}{x:Keyed}(h:a[i]?=some x):(a.toList.drop i).take (i+1-i)=[x]:=by rw[zbS h,show i+1-i=1 by lia];rfl
theorem zmy(O:LtOk M A E s kd S L)(T:Two S L a b)(m:MJ (leOf L) a.toList b.toList out.reverse.toList (na + 1) (nb + 1)){x y:Keyed}(hb:b[nb]? = some x)(ha:a[na]? = some y)(h:L x y=true) :
  MJ (leOf L) a.toList b.toList (out.push y).reverse.toList na (nb+1):=by
 have:=m.takeA T.sa na (B5 _) λz hz w hw=>by rw[zd4 ha]at hw;rw[Ak.mp hw];exact O.tr z x y (T.Sb z (Bp hz)) (T.Sb x (zav hb)) (T.Sa y (zav ha)) (zfe O T.sb T.Sb hb hz) (O.as x y (T.Sb x (zav hb)) (T.Sa y (zav ha)) h)
 rw[zd4 ha]at this;simpa using this
theorem zmx(O:LtOk M A E s kd S L)(T:Two S L a b)(m:MJ (leOf L) a.toList b.toList out.reverse.toList (na + 1) (nb + 1)){x y:Keyed}(hb:b[nb]? = some x)(ha:a[na]? = some y)(h:L x y=false) :
  MJ (leOf L) a.toList b.toList (out.push x).reverse.toList (na+1) nb:=by
 have:=m.takeB T.sb nb (B5 _) λz hz w hw=>by rw[zd4 hb]at hw;rw[Ak.mp hw];exact O.tr z y x (T.Sa z (Bp hz)) (T.Sa y (zav ha)) (T.Sb x (zav hb)) (zfe O T.sa T.Sa ha hz) h
 rw[zd4 hb]at this;simpa using this
theorem zmO(O:LtOk M A E s kd S L)(T:Two S L a b)(m:MJ (leOf L) a.toList b.toList out.reverse.toList na (nb + 1)){x:Keyed}(hb:b[nb]? = some x)(i:Nat)(hi:i <= na)(h:∀j y, i <= j -> j < na -> a[j]? = some y -> L x y=true) :
  MJ (leOf L) a.toList b.toList (out++(a.extract i na).reverse).reverse.toList i (nb+1):=by
 have:=m.takeA T.sa i hi λz hz w hw=>by obtain⟨j,hj,e⟩:=zfc hw;exact O.tr z x w (T.Sb z (Bp hz)) (T.Sb x (zav hb)) (T.Sa w (zav e)) (zfe O T.sb T.Sb hb hz) (O.as x w (T.Sb x (zav hb)) (T.Sa w (zav e)) (h (i+j) w (by lia) (by lia) e))
 have e2:(out++(a.extract i na).reverse).reverse.toList=(a.toList.drop i).take (na-i)++out.reverse.toList:=by simp[CZ,Ci]
 rw[e2];exact this
theorem zmN(O:LtOk M A E s kd S L)(T:Two S L a b)(m:MJ (leOf L) a.toList b.toList out.reverse.toList (na + 1) nb){y:Keyed}(ha:a[na]? = some y)(i:Nat)(hi:i <= nb)(h:∀j x, i <= j -> j < nb -> b[j]? = some x -> L x y=false) :
  MJ (leOf L) a.toList b.toList (out++(b.extract i nb).reverse).reverse.toList (na+1) i:=by
 have:=m.takeB T.sb i hi λz hz w hw=>by obtain⟨j,hj,e⟩:=zfc hw;exact O.tr z y w (T.Sa z (Bp hz)) (T.Sa y (zav ha)) (T.Sb w (zav e)) (zfe O T.sa T.Sa ha hz) (h (i+j) w (by lia) (by lia) e)
 have e2:(out++(b.extract i nb).reverse).reverse.toList=(b.toList.drop i).take (nb-i)++out.reverse.toList:=by simp[CZ,Ci]
 rw[e2];exact this
end
end TS
set_option maxHeartbeats 8000000
namespace TS
open PySem PyProof.Rows
section
variable {M:Model}{A:AO}{E:Value->Ac->Prop}{s:Ac}{kd:CM}{S:Keyed->Prop}{L:Keyed->Keyed->Bool}{a b out:Array Keyed}{na nb:Nat}
theorem zmf(O:LtOk M A E s kd S L)(T:Two S L a b){st:AM}(hk:kindOf st=kd){x:Keyed}(Sx:S x){n:Nat}(hn:n <= a.size){Q:Option Nat -> AM -> Prop}
  (hQ:∀k,k<=n->(∀j y,j<k->a[j]?=some y->L x y=false)->(∀j y,k<=j->j<n->a[j]?=some y->L x y=true)->Q (some k) st) {hint:Nat} (hh:hint<n) :
  wpS M A E s (zb6 false x a 0 n hint) Q st:=by
 have at_:∀i,i<n->∃y,a[0+i]?=some y:=λi h=>⟨a[0+i]'(by lia),by simp[show i<a.size by lia]⟩
 refine zbr (b:=λi=>!(a[0+i]?.elim false λy=>L x y)) O hk Sx (λi h=>?_) (λi j hij hj q=>?_) hh λk h1 h2 h3=>?_
 .obtain⟨y,e⟩:=at_ i h;exact⟨y,e,T.Sa y (zav e),by rw[if_neg (by simp),e];rfl⟩
 .obtain⟨y,e⟩:=at_ j hj;obtain⟨z,e2⟩:=at_ i (by lia);rw[e]at q;rw[e2];have q1:L x y=false:=by simpa using q
  have le1:leOf L z y:=zcs O T.sa T.Sa e2 (by
   have:y∈(a.toList.drop (0+i)).drop (j-i):=by rw[List.drop_drop,show 0+i+(j-i)=0+j by lia,zbS e];exact AQ
   exact Bo this)
  have:L x z=false:=O.tr z y x (T.Sa z (zav e2)) (T.Sa y (zav e)) Sx le1 q1;simpa using this
 .refine hQ k h1 (λj y hj e=>?_) (λj y hj hjn e=>?_)
  .have:=h2 j hj;rw[Nat.zero_add,e]at this;simpa using this
  .have:=h3 j hj hjn;rw[Nat.zero_add,e]at this;simpa using this
theorem zme(O:LtOk M A E s kd S L)(T:Two S L a b){st:AM}(hk:kindOf st=kd){y:Keyed}(Sy:S y){n:Nat}(hn:n <= b.size){Q:Option Nat -> AM -> Prop}
  (hQ:∀k,k<=n->(∀j x,j<k->b[j]?=some x->L x y=true)->(∀j x,k<=j->j<n->b[j]?=some x->L x y=false)->Q (some k) st) {hint:Nat} (hh:hint<n) :
  wpS M A E s (zb6 true y b 0 n hint) Q st:=by
 have at_:∀i,i<n->∃x,b[0+i]?=some x:=λi h=>⟨b[0+i]'(by lia),by simp[show i<b.size by lia]⟩
 refine zbr (b:=λi=>b[0+i]?.elim false λx=>L x y) O hk Sy (λi h=>?_) (λi j hij hj q=>?_) hh λk h1 h2 h3=>?_
 .obtain⟨x,e⟩:=at_ i h;exact⟨x,e,T.Sb x (zav e),by rw[if_pos rfl,e];rfl⟩
 .obtain⟨x,e⟩:=at_ j hj;obtain⟨z,e2⟩:=at_ i (by lia);rw[e]at q;rw[e2];have q1:L x y=true:=q;show L z y=true
  have le1:leOf L z x:=zcs O T.sb T.Sb e2 (by
   have:x∈(b.toList.drop (0+i)).drop (j-i):=by rw[List.drop_drop,show 0+i+(j-i)=0+j by lia,zbS e];exact AQ
   exact Bo this)
  cases w:L z y with
  |true=>rfl
  |false =>
   have:L x y=false:=O.tr y z x Sy (T.Sb z (zav e2)) (T.Sb x (zav e)) w le1;rw[this]at q1;cases q1
 .refine hQ k h1 (λj x hj e=>?_) (λj x hj hjn e=>?_)
  .have:=h2 j hj;rw[Nat.zero_add,e]at this;exact this
  .have:=h3 j hj hjn;rw[Nat.zero_add,e]at this;exact this
theorem zbn(a:Array Keyed)(i:Nat):(a.extract 0 i).toList=a.toList.take i:=by rw[CZ,Ci,List.drop_zero,Nat.sub_zero]
theorem end_A(T:Two S L a b)(m:MJ (leOf L) a.toList b.toList out.reverse.toList 0 nb):Res (leOf L) a.toList b.toList (a.extract 0 0++b.extract 0 nb++out.reverse).toList:=by rw[Bj,Bj,zbn,zbn];exact m.doneB T.sb
theorem zmJ(T:Two S L a b)(m:MJ (leOf L) a.toList b.toList out.reverse.toList na 0):Res (leOf L) a.toList b.toList (a.extract 0 na++b.extract 0 0++out.reverse).toList:=by rw[Bj,Bj,zbn,zbn];exact m.doneA T.sa
theorem end_B (T:Two S L a b) (h0:∀ y,b[0]?=some y→∀ x∈a.toList,leOf L y x) (m:MJ (leOf L) a.toList b.toList out.reverse.toList na 1):Res (leOf L) a.toList b.toList (b.extract 0 1++a.extract 0 na++out.reverse).toList:=by
  rw[Bj,Bj,zbn,zbn]
  refine m.firstB T.sa T.sb λx hx y hy=>?_
  cases hb:b.toList with
  | nil=>rw[hb] at hx;cases hx
  | cons z r =>
    rw[hb] at hx
    have e:x=z:=Ak.mp hx
    subst e
    exact h0 x (by have : b.toList[0]? = some x := by rw[hb]; rfl
                   simpa using this) y (Bp hy)
end
end TS
set_option maxHeartbeats 8000000
namespace TS
open PySem PyProof.Rows
section
variable {M:Model}{A:AO}{E:Value->Ac->Prop}{s:Ac}{kd:CM}{S:Keyed->Prop}{L:Keyed->Keyed->Bool}{a b out:Array Keyed}{na nb:Nat}
theorem lastA(O:LtOk M A E s kd S L)(T:Two S L a b)(h1:0<na)(h2:0<nb)(m:MJ (leOf L) a.toList b.toList out.reverse.toList na nb){x y:Keyed}(hb:b[nb-1]?=some x)(ha:a[na-1]?=some y)(h:L x y=true):MJ (leOf L) a.toList b.toList (out.push y).reverse.toList (na-1) nb:=by obtain⟨p,rfl⟩:∃p,na=p+1:=⟨na-1,by lia⟩;obtain⟨q,rfl⟩:∃q,nb=q+1:=⟨nb-1,by lia⟩;exact zmy O T m hb ha h
theorem lastB(O:LtOk M A E s kd S L)(T:Two S L a b)(h1:0<na)(h2:0<nb)(m:MJ (leOf L) a.toList b.toList out.reverse.toList na nb){x y:Keyed}(hb:b[nb-1]?=some x)(ha:a[na-1]?=some y)(h:L x y=false):MJ (leOf L) a.toList b.toList (out.push x).reverse.toList na (nb-1):=by obtain⟨p,rfl⟩:∃p,na=p+1:=⟨na-1,by lia⟩;obtain⟨q,rfl⟩:∃q,nb=q+1:=⟨nb-1,by lia⟩;exact zmx O T m hb ha h
theorem backA(O:LtOk M A E s kd S L)(T:Two S L a b)(h2:0<nb)(m:MJ (leOf L) a.toList b.toList out.reverse.toList na nb){x:Keyed}(hb:b[nb-1]?=some x)(i:Nat)(hi:i<=na)(h:∀j y,i<=j->j<na->a[j]?=some y->L x y=true):MJ (leOf L) a.toList b.toList (out++(a.extract i na).reverse).reverse.toList i nb:=by obtain⟨q,rfl⟩:∃q,nb=q+1:=⟨nb-1,by lia⟩;exact zmO O T m hb i hi h
theorem backB(O:LtOk M A E s kd S L)(T:Two S L a b)(h1:0<na)(m:MJ (leOf L) a.toList b.toList out.reverse.toList na nb){y:Keyed}(ha:a[na-1]?=some y)(i:Nat)(hi:i<=nb)(h:∀j x,i<=j->j<nb->b[j]?=some x->L x y=false):MJ (leOf L) a.toList b.toList (out++(b.extract i nb).reverse).reverse.toList na i:=by obtain⟨p,rfl⟩:∃p,na=p+1:=⟨na-1,by lia⟩;exact zmN O T m ha i hi h
noncomputable abbrev RH:=Option (Array Keyed)×Nat×Nat×Array Keyed×Nat×Nat×Nat
noncomputable def hiC(a b:Array Keyed)(na nb:Nat)(out:Array Keyed)(mg ac bc:Nat):StateT AM Sem (ForInStep RH) :=
 elem' a (na-1) >>= λx =>
  if (na-1 == 0)=true then pure (.done (some (a.extract 0 (na-1)++b.extract 0 nb++(out.push x).reverse),na-1,nb,out.push x,mg,ac,bc))
  else if (decide (ac<7) && decide (bc<7))=true then pure (.done (none,na-1,nb,out.push x,mg,ac,bc))
  else pure (.yield (none,na-1,nb,out.push x,mg,ac,bc))
noncomputable def hiB(a b:Array Keyed)(na nb:Nat)(out:Array Keyed)(mg ac bc:Nat):StateT AM Sem (ForInStep RH) :=
 elem' b (nb-1) >>= λx =>
  if (nb-1 == 1)=true then pure (.done (some (b.extract 0 (nb-1)++a.extract 0 na++(out.push x).reverse),na,nb-1,out.push x,mg,ac,bc))
  else elem' a (na-1) >>= λy=>zb6 true y b 0 (nb-1) (nb-1-1) >>= λw =>
   match w with
   |some t =>
    if nb-1-t > 0 then
     if (t == 1)=true then pure (.done (some (b.extract 0 t++a.extract 0 na++(out.push x++(b.extract t (nb-1)).reverse).reverse),na,t,out.push x++(b.extract t (nb-1)).reverse,mg,ac,nb-1-t))
     else if (t == 0)=true then pure (.done (some (a.extract 0 na++b.extract 0 t++(out.push x++(b.extract t (nb-1)).reverse).reverse),na,t,out.push x++(b.extract t (nb-1)).reverse,mg,ac,nb-1-t))
     else hiC a b na t (out.push x++(b.extract t (nb-1)).reverse) mg ac (nb-1-t)
    else hiC a b na (nb-1) (out.push x) mg ac (nb-1-t)
   |_=>pure (.done (some (a.extract 0 na++b.extract 0 (nb-1)++(out.push x).reverse),na,nb-1,out.push x,mg,ac,bc))
noncomputable def hiA(a b:Array Keyed)(na nb:Nat)(out:Array Keyed)(mg ac bc:Nat):StateT AM Sem (ForInStep RH) :=
 elem' b (nb-1) >>= λx=>zb6 false x a 0 na (na-1) >>= λw =>
  match w with
  |some t =>
   if na-t > 0 then
    if (t == 0)=true then pure (.done (some (a.extract 0 t++b.extract 0 nb++(out++(a.extract t na).reverse).reverse),t,nb,out++(a.extract t na).reverse,mg,na-t,bc))
    else hiB a b t nb (out++(a.extract t na).reverse) mg (na-t) bc
   else hiB a b na nb out mg (na-t) bc
  |_=>pure (.done (some (a.extract 0 na++b.extract 0 nb++out.reverse),na,nb,out,mg,ac,bc))
noncomputable def hiG(a b:Array Keyed)(c:RH):StateT AM Sem (ForInStep RH) :=
 if c.2.2.2.2.1 > 1 then zep (c.2.2.2.2.1-1) >>= λ_=>hiA a b c.2.1 c.2.2.1 c.2.2.2.1 (c.2.2.2.2.1-1) c.2.2.2.2.2.1 c.2.2.2.2.2.2
 else zep c.2.2.2.2.1 >>= λ_=>hiA a b c.2.1 c.2.2.1 c.2.2.2.1 c.2.2.2.2.1 c.2.2.2.2.2.1 c.2.2.2.2.2.2
noncomputable abbrev RI:=Option (Array Keyed)×Nat×Nat×Array Keyed×Nat×Nat
noncomputable def hiI(a b:Array Keyed)(mg:Nat)(c:RI):StateT AM Sem (ForInStep RI) :=
 elem' b (c.2.2.1-1) >>= λx=>elem' a (c.2.1-1) >>= λy=>lt' x y >>= λw =>
  match w with
  |some v =>
   if v=true then elem' a (c.2.1-1) >>= λy =>
    if (c.2.1-1 == 0)=true then pure (.done (some (a.extract 0 (c.2.1-1)++b.extract 0 c.2.2.1++(c.2.2.2.1.push y).reverse),c.2.1-1,c.2.2.1,c.2.2.2.1.push y,c.2.2.2.2.1+1,0))
    else if c.2.2.2.2.1+1 ≥ mg then pure (.done (none,c.2.1-1,c.2.2.1,c.2.2.2.1.push y,c.2.2.2.2.1+1,0))
    else pure (.yield (none,c.2.1-1,c.2.2.1,c.2.2.2.1.push y,c.2.2.2.2.1+1,0))
   else elem' b (c.2.2.1-1) >>= λx =>
    if (c.2.2.1-1 == 1)=true then pure (.done (some (b.extract 0 (c.2.2.1-1)++a.extract 0 c.2.1++(c.2.2.2.1.push x).reverse),c.2.1,c.2.2.1-1,c.2.2.2.1.push x,0,c.2.2.2.2.2+1))
    else if c.2.2.2.2.2+1 ≥ mg then pure (.done (none,c.2.1,c.2.2.1-1,c.2.2.2.1.push x,0,c.2.2.2.2.2+1))
    else pure (.yield (none,c.2.1,c.2.2.1-1,c.2.2.2.1.push x,0,c.2.2.2.2.2+1))
  |_=>pure (.done (some (a.extract 0 c.2.1++b.extract 0 c.2.2.1++c.2.2.2.1.reverse),c.2.1,c.2.2.1,c.2.2.2.1,c.2.2.2.2.1,c.2.2.2.2.2))
noncomputable abbrev RO:=Option (Array Keyed)×Nat×Nat×Array Keyed×Nat
noncomputable def hiP(a b:Array Keyed)(mg:Nat)(c:RI):StateT AM Sem (ForInStep RO) :=
 CN (λ_=>StateT AM Sem (ForInStep RO)) c.1 (λr=>pure (.done (some r,c.2.1,c.2.2.1,c.2.2.2.1,mg))) λ_=>(liftM (rule "list.sort.gallop"):StateT AM Sem Unit) >>= λ_=>forIn [:a.size+b.size] ((none,c.2.1,c.2.2.1,c.2.2.2.1,mg+1,c.2.2.2.2.1,c.2.2.2.2.2):RH) (λ_ c=>hiG a b c) >>= λc =>
  CN (λ_=>StateT AM Sem (ForInStep RO)) c.1 (λr=>pure (.done (some r,c.2.1,c.2.2.1,c.2.2.2.1,c.2.2.2.2.1))) λ_=>zep (c.2.2.2.2.1+1) >>= λ_=>pure (.yield (none,c.2.1,c.2.2.1,c.2.2.2.1,c.2.2.2.2.1+1))
noncomputable def hiO(a b:Array Keyed)(c:RO):StateT AM Sem (ForInStep RO) :=
 forIn [:a.size+b.size] ((none,c.2.1,c.2.2.1,c.2.2.2.1,0,0):RI) (λ_ d=>hiI a b c.2.2.2.2 d) >>= λd=>hiP a b c.2.2.2.2 d
noncomputable def zkj(a b:Array Keyed):StateT AM Sem (Array Keyed) :=
 (liftM (rule "list.sort.merge-hi"):StateT AM Sem Unit) >>= λ_=>elem' a (a.size-1) >>= λx =>
  if (a.size-1 == 0)=true then pure (a.extract 0 (a.size-1)++b.extract 0 b.size++#[x].reverse)
  else if (b.size == 1)=true then pure (b.extract 0 b.size++a.extract 0 (a.size-1)++#[x].reverse)
  else get >>= λs=>forIn [:a.size+b.size] ((none,a.size-1,b.size,#[x],gallopOf s):RO) (λ_ c=>hiO a b c) >>= λc =>
   CN (λ_=>StateT AM Sem (Array Keyed)) c.1 (λr=>pure r) λ_=>unsupported "internal:list.sort.merge-bound"
theorem zh5(a b:Array Keyed):zfb a b=zkj a b:=rfl
variable {Q:ForInStep RH->AM->Prop}{z:AM}{N mg ac bc:Nat}{x y:Keyed}
theorem zhA(O:LtOk M A E s kd S L)(T:Two S L a b)(hD:∀r na nb out mg ac bc, Res (leOf L) a.toList b.toList r.toList -> Q (.done (some r, na, nb, out, mg, ac, bc)) z)
  (hN:∀na nb out mg ac bc,MJ (leOf L) a.toList b.toList out.reverse.toList na nb->0<na->1<nb->na+nb<=N->na<=a.size->nb<=b.size->Q (.done (none,na,nb,out,mg,ac,bc)) z/\Q (.yield (none,na,nb,out,mg,ac,bc)) z)
  (m:MJ (leOf L) a.toList b.toList out.reverse.toList na nb) (ea:a[na-1]?=some y) (eb:b[nb-1]?=some x) (hw:L x y=true) (g1:0<na) (g2:1<nb) (g3:na+nb<=N) (g4:na<=a.size) (g5:nb<=b.size) :
  wpS M A E s (hiC a b na nb out mg ac bc) Q z:=by
 have n4:=lastA O T g1 (by lia) m eb ea hw;refine Am (zaC ea ?_)
 by_cases e:na-1=0
 .rw[if_pos (by simp[e])];rw[e]at n4;rw[e];exact Av (hD _ _ _ _ _ _ _ (end_A T n4))
 rw[if_neg (by simp[e])];have h:=hN _ _ _ mg ac bc n4 (by lia) g2 (by lia) (by lia) g5;split
 .exact Av h.1
 .exact Av h.2
theorem zhB(O:LtOk M A E s kd S L)(T:Two S L a b)(hk:kindOf z=kd)(h0:∀y, b[0]? = some y -> ∀x ∈ a.toList, leOf L y x)(hD:∀r na nb out mg ac bc, Res (leOf L) a.toList b.toList r.toList -> Q (.done (some r, na, nb, out, mg, ac, bc)) z)
  (hN:∀na nb out mg ac bc,MJ (leOf L) a.toList b.toList out.reverse.toList na nb->0<na->1<nb->na+nb<=N->na<=a.size->nb<=b.size->Q (.done (none,na,nb,out,mg,ac,bc)) z/\Q (.yield (none,na,nb,out,mg,ac,bc)) z)
  (m:MJ (leOf L) a.toList b.toList out.reverse.toList na nb) (ea:a[na-1]?=some y) (eb:b[nb-1]?=some x) (hw:L x y=false) (g1:0<na) (g2:1<nb) (g3:na+nb<=N) (g4:na<=a.size) (g5:nb<=b.size) :
  wpS M A E s (hiB a b na nb out mg ac bc) Q z:=by
 have n2:=lastB O T g1 (by lia) m eb ea hw;refine Am (zaC eb ?_)
 by_cases e3:nb-1=1
 .rw[if_pos (by simp[e3])];rw[e3]at n2;rw[e3];exact Av (hD _ _ _ _ _ _ _ (end_B T h0 n2))
 rw[if_neg (by simp[e3])];refine Am (zaC ea ?_);refine Am (zme O T hk (T.Sa _ (zav ea)) (by lia) (λt r1 r2 r3=>?_) (by lia));dsimp only
 by_cases hk1:nb-1-t > 0
 .rw[if_pos hk1];have n3:=backB O T g1 n2 ea t r1 r3
  by_cases e4:t=1
  .rw[if_pos (by simp[e4])];rw[e4]at n3;rw[e4];exact Av (hD _ _ _ _ _ _ _ (end_B T h0 n3))
  rw[if_neg (by simp[e4])]
  by_cases e6:t=0
  .rw[if_pos (by simp[e6])];rw[e6]at n3;rw[e6];exact Av (hD _ _ _ _ _ _ _ (zmJ T n3))
  rw[if_neg (by simp[e6])];have hl:t-1<b.size:=by lia
  exact zhA O T hD hN n3 ea (by simp[hl]) (r2 (t-1) b[t-1] (by lia) (by simp[hl])) g1 (by lia) (by lia) g4 (by lia)
 rw[if_neg hk1];have hl:nb-1-1<b.size:=by lia
 exact zhA O T hD hN n2 ea (by simp[hl]) (r2 (nb-1-1) b[nb-1-1] (by lia) (by simp[hl])) g1 (by lia) (by lia) g4 (by lia)
theorem zkx(O:LtOk M A E s kd S L)(T:Two S L a b)(hk:kindOf z=kd)(h0:∀y, b[0]? = some y -> ∀x ∈ a.toList, leOf L y x)(hD:∀r na nb out mg ac bc, Res (leOf L) a.toList b.toList r.toList -> Q (.done (some r, na, nb, out, mg, ac, bc)) z)
  (hN:∀na nb out mg ac bc,MJ (leOf L) a.toList b.toList out.reverse.toList na nb->0<na->1<nb->na+nb<=N->na<=a.size->nb<=b.size->Q (.done (none,na,nb,out,mg,ac,bc)) z/\Q (.yield (none,na,nb,out,mg,ac,bc)) z)
  (m:MJ (leOf L) a.toList b.toList out.reverse.toList na nb) (g1:0<na) (g2:1<nb) (g3:na+nb<=N) (g4:na<=a.size) (g5:nb<=b.size) :
  wpS M A E s (hiA a b na nb out mg ac bc) Q z:=by
 have hb:nb-1<b.size:=by lia
 have eb:b[nb-1]?=some b[nb-1]:=by simp[hb]
 refine Am (zaC eb ?_);refine Am (zmf O T hk (T.Sb _ (zav eb)) g4 (λt q1 q2 q3=>?_) (by lia));dsimp only
 by_cases hk0:na-t > 0
 .rw[if_pos hk0];have n1:=backA O T (by lia) m eb t q1 q3
  by_cases e1:t=0
  .rw[if_pos (by simp[e1])];rw[e1]at n1;rw[e1];exact Av (hD _ _ _ _ _ _ _ (end_A T n1))
  rw[if_neg (by simp[e1])];have hl:t-1<a.size:=by lia
  exact zhB O T hk h0 hD hN n1 (by simp[hl]) eb (q2 (t-1) a[t-1] (by lia) (by simp[hl])) (by lia) g2 (by lia) (by lia) g5
 rw[if_neg hk0];have hl:na-1<a.size:=by lia
 exact zhB O T hk h0 hD hN m (by simp[hl]) eb (q2 (na-1) a[na-1] (by lia) (by simp[hl])) g1 g2 g3 g4 g5
theorem zkv{Q:ForInStep RI -> AM -> Prop}(O:LtOk M A E s kd S L)(T:Two S L a b)(hk:kindOf z=kd)(h0:∀y, b[0]? = some y -> ∀x ∈ a.toList, leOf L y x)(m:MJ (leOf L) a.toList b.toList out.reverse.toList na nb)(g1 : 0 < na)(g2 : 1 < nb)(g4:na <= a.size)(g5:nb <= b.size)
  (hD:∀r na nb out ac bc,Res (leOf L) a.toList b.toList r.toList->Q (.done (some r,na,nb,out,ac,bc)) z)
  (hN:∀na' nb' out ac bc,MJ (leOf L) a.toList b.toList out.reverse.toList na' nb'->0<na'->1<nb'->na'+nb'+1<=na+nb->na'<=a.size->nb'<=b.size->Q (.done (none,na',nb',out,ac,bc)) z/\Q (.yield (none,na',nb',out,ac,bc)) z) :
  wpS M A E s (hiI a b mg (none,na,nb,out,ac,bc)) Q z:=by
 obtain⟨xb,eb⟩:∃x,b[nb-1]?=some x:=⟨b[nb-1]'(by lia),by simp[show nb-1<b.size by lia]⟩;obtain⟨xa,ea⟩:∃x,a[na-1]?=some x:=⟨a[na-1]'(by lia),by simp[show na-1<a.size by lia]⟩;refine Am (zaC eb (Am (zaC ea (Am (O.lt xb xa (T.Sb _ (zav eb)) (T.Sa _ (zav ea)) _ _ hk ?_)))));dsimp only
 cases hw:L xb xa with
 |true =>
  rw[if_pos rfl];have m2:=lastA O T g1 (by lia) m eb ea hw;refine Am (zaC ea ?_)
  by_cases e:na-1=0
  .rw[if_pos (by simp[e])];rw[e]at m2;rw[e];exact Av (hD _ _ _ _ _ _ (end_A T m2))
  rw[if_neg (by simp[e])];have h:=hN _ _ _ (ac+1) 0 m2 (by lia) g2 (by lia) (by lia) g5;split
  .exact Av h.1
  .exact Av h.2
 |false =>
  rw[if_neg (by simp)];have m2:=lastB O T g1 (by lia) m eb ea hw;refine Am (zaC eb ?_)
  by_cases e:nb-1=1
  .rw[if_pos (by simp[e])];rw[e]at m2;rw[e];exact Av (hD _ _ _ _ _ _ (end_B T h0 m2))
  rw[if_neg (by simp[e])];have h:=hN _ _ _ 0 (bc+1) m2 g1 (by lia) (by lia) g4 (by lia);split
  .exact Av h.1
  .exact Av h.2
theorem zkw(O:LtOk M A E s kd S L)(T:Two S L a b)(hk:kindOf z=kd)(h0:∀y, b[0]? = some y -> ∀x ∈ a.toList, leOf L y x)(hD:∀z', Like z z' -> ∀r na nb out mg ac bc, Res (leOf L) a.toList b.toList r.toList -> Q (.done (some r, na, nb, out, mg, ac, bc)) z')
  (hN:∀z',Like z z'->∀na nb out mg ac bc,MJ (leOf L) a.toList b.toList out.reverse.toList na nb->0<na->1<nb->na+nb<=N->na<=a.size->nb<=b.size->Q (.done (none,na,nb,out,mg,ac,bc)) z'/\Q (.yield (none,na,nb,out,mg,ac,bc)) z')
  (m:MJ (leOf L) a.toList b.toList out.reverse.toList na nb) (g1:0<na) (g2:1<nb) (g3:na+nb<=N) (g4:na<=a.size) (g5:nb<=b.size) :
  wpS M A E s (hiG a b (none,na,nb,out,mg,ac,bc)) Q z:=by
 have key:∀z',Like z z'->∀mg,wpS M A E s (hiA a b na nb out mg ac bc) Q z':=λz' h mg=>zkx O T (h.1.trans hk) h0 (hD z' h) (hN z' h) m g1 g2 g3 g4 g5
 unfold hiG;split
 .exact Am (BU (key _ (by exact Like.refl z) _))
 .exact Am (BU (key _ (by exact Like.refl z) _))
theorem zkt{Q:ForInStep RO -> AM -> Prop}(O:LtOk M A E s kd S L)(T:Two S L a b)(hk:kindOf z=kd)(h0:∀y, b[0]? = some y -> ∀x ∈ a.toList, leOf L y x)(m:MJ (leOf L) a.toList b.toList out.reverse.toList na nb)(g1 : 0 < na)(g2 : 1 < nb)(g3:na + nb <= N)(g4:na <= a.size)(g5:nb <= b.size)
  (hD:∀z',Like z z'->∀r na nb out mg,Res (leOf L) a.toList b.toList r.toList->Q (.done (some r,na,nb,out,mg)) z')
  (hN:∀z',Like z z'->∀na nb out mg,MJ (leOf L) a.toList b.toList out.reverse.toList na nb->0<na->1<nb->na+nb<=N->na<=a.size->nb<=b.size->Q (.yield (none,na,nb,out,mg)) z') :
  wpS M A E s (hiP a b mg (none,na,nb,out,ac,bc)) Q z:=by
 refine Am (wpS_lift (Dc ⟨rfl,?_⟩))
 refine Am (Ck (By (I:=λy c w=>Like z w/\∃na nb out mg ac bc,c=(none,na,nb,out,mg,ac,bc)/\MJ (leOf L) a.toList b.toList out.reverse.toList na nb/\0<na/\1<nb/\na+nb<=N/\na<=a.size/\nb<=b.size)
  (Q:=λc w=>Like z w/\((∃r,c.1=some r/\Res (leOf L) a.toList b.toList r.toList)∨∃na nb out mg ac bc,c=(none,na,nb,out,mg,ac,bc)/\MJ (leOf L) a.toList b.toList out.reverse.toList na nb/\0<na/\1<nb/\na+nb<=N/\na<=a.size/\nb<=b.size)) ?_ ?_ ⟨Like.refl _,_,_,_,_,_,_,rfl,m,g1,g2,g3,g4,g5⟩) ?_)
 .rintro y c w _ hy ⟨lk,na,nb,out,mg,ac,bc,rfl,m,k1,k2,k3,k4,k5⟩;exact zkw O T (lk.1.trans hk) h0 (λw' h r _ _ _ _ _ _ e=>⟨Like.tr lk h,.inl ⟨r,rfl,e⟩⟩) (λw' h _ _ _ _ _ _ e u1 u2 u3 u4 u5=>⟨⟨Like.tr lk h,.inr ⟨_,_,_,_,_,_,rfl,e,u1,u2,u3,u4,u5⟩⟩,Like.tr lk h,_,_,_,_,_,_,rfl,e,u1,u2,u3,u4,u5⟩) m k1 k2 k3 k4 k5
 .rintro c w ⟨lk,r⟩;exact⟨lk,.inr r⟩
 .rintro c w ⟨lk,hc⟩;rcases hc with⟨r,e,res⟩ |⟨na,nb,out,mg,ac,bc,rfl,m,k1,k2,k3,k4,k5⟩
  .rw[e];exact Av (hD w lk _ _ _ _ _ res)
  .exact Am (BU (Av (hN _ (by exact lk) _ _ _ _ m k1 k2 k3 k4 k5)))
theorem zku{Q:ForInStep RO -> AM -> Prop}(O:LtOk M A E s kd S L)(T:Two S L a b)(hk:kindOf z=kd)(h0:∀y, b[0]? = some y -> ∀x ∈ a.toList, leOf L y x)(m:MJ (leOf L) a.toList b.toList out.reverse.toList na nb)(g1 : 0 < na)(g2 : 1 < nb)(g3:na + nb <= a.size + b.size)(g4:na <= a.size)(g5:nb <= b.size)
  (hD:∀z',Like z z'->∀r na nb out mg,Res (leOf L) a.toList b.toList r.toList->Q (.done (some r,na,nb,out,mg)) z')
  (hN:∀z',Like z z'->∀na' nb' out mg,MJ (leOf L) a.toList b.toList out.reverse.toList na' nb'->0<na'->1<nb'->na'+nb'+1<=na+nb->na'<=a.size->nb'<=b.size->Q (.yield (none,na',nb',out,mg)) z') :
  wpS M A E s (hiO a b (none,na,nb,out,mg)) Q z:=by
 refine Am (Ck (By (I:=λy c w=>w=z/\∃na' nb' out ac bc,c=(none,na',nb',out,ac,bc)/\MJ (leOf L) a.toList b.toList out.reverse.toList na' nb'/\0<na'/\1<nb'/\na'+nb'+y<=na+nb/\na'<=a.size/\nb'<=b.size)
  (Q:=λc w=>w=z/\((∃r,c.1=some r/\Res (leOf L) a.toList b.toList r.toList)∨∃na' nb' out ac bc,c=(none,na',nb',out,ac,bc)/\MJ (leOf L) a.toList b.toList out.reverse.toList na' nb'/\0<na'/\1<nb'/\na'+nb'+1<=na+nb/\na'<=a.size/\nb'<=b.size)) ?_ ?_ ⟨rfl,_,_,_,_,_,rfl,m,g1,g2,by lia,g4,g5⟩) ?_)
 .rintro y c w _ hy ⟨rfl,na',nb',out',ac,bc,rfl,m',j1,j2,j3,j4,j5⟩;exact zkv O T hk h0 m' j1 j2 j4 j5 (λr _ _ _ _ _ e=>⟨rfl,.inl ⟨r,rfl,e⟩⟩) λ_ _ _ _ _ e u1 u2 u3 u4 u5=>⟨⟨rfl,.inr ⟨_,_,_,_,_,rfl,e,u1,u2,by lia,u4,u5⟩⟩,rfl,_,_,_,_,_,rfl,e,u1,u2,by lia,u4,u5⟩
 .rintro c w ⟨rfl,na',nb',out',ac,bc,rfl,m',j1,j2,j3,j4,j5⟩;exact⟨rfl,.inr ⟨na',nb',out',ac,bc,rfl,m',j1,j2,by lia,j4,j5⟩⟩
 .rintro c w ⟨rfl,hc⟩;rcases hc with⟨r,e,res⟩ |⟨na',nb',out',ac,bc,rfl,m',j1,j2,j3,j4,j5⟩
  .unfold hiP;rw[e];exact Av (hD _ (Like.refl _) _ _ _ _ _ res)
  .exact zkt (N:=na'+nb') O T hk h0 m' j1 j2 (Aj _) j4 j5 hD λz' h _ _ _ _ e u1 u2 u3 u4 u5=>hN z' h _ _ _ _ e u1 u2 (by lia) u4 u5
end
section
variable {M:Model}{A:AO}{E:Value->Ac->Prop}{s:Ac}{kd:CM}{S:Keyed->Prop}{L:Keyed->Keyed->Bool}{a b:Array Keyed}
theorem zfO(O:LtOk M A E s kd S L)(T:Two S L a b){st:AM}{Q:Array Keyed -> AM -> Prop}(hk:kindOf st=kd)(ha : 0 < a.size)(hb : 0 < b.size)(h0:∀y, b[0]? = some y -> ∀x ∈ a.toList, leOf L y x)
  (hl:∀z,a[a.size-1]?=some z->∀x∈b.toList,leOf L x z) (hQ:∀r st',Res (leOf L) a.toList b.toList r.toList->Like st st'->Q r st'):wpS M A E s (zfb a b) Q st:=by
 rw[zh5];have atA:∀i,i<a.size->∃x,a[i]?=some x:=λi h=>⟨a[i],by simp[h]⟩
 have atB:∀i,i<b.size->∃x,b[i]?=some x:=λi h=>⟨b[i],by simp[h]⟩
 obtain⟨a1,e1⟩:=atA (a.size-1) (by lia);have mS:MJ (leOf L) a.toList b.toList (#[]:Array Keyed).reverse.toList a.size b.size:=⟨by simp,by simp,by rw[BY (by simp),BY (by simp)];simp,by simp,(λ_ _ _ h=>by simp at h),(λ_ _ _ h=>by simp at h)⟩
 have m0:MJ (leOf L) a.toList b.toList (#[a1]:Array Keyed).reverse.toList (a.size-1) b.size:=by
  have hc:=zd4 e1;rw[show a.size-1+1=a.size by lia]at hc
  have:=mS.takeA T.sa (a.size-1) (by lia) λx hx y hy=>by rw[hc]at hy;rw[Ak.mp hy];exact hl a1 e1 x (Bp hx)
  rw[hc]at this;simpa using this
 refine Am (wpS_lift (Dc ⟨rfl,?_⟩));refine Am (zaC e1 ?_)
 by_cases ha1:a.size-1=0
 .rw[if_pos (by simp[ha1])];rw[ha1]at m0;rw[ha1];exact Av (hQ _ _ (end_A T m0) (Like.refl _))
 rw[if_neg (by simp[ha1])]
 by_cases hb1:b.size=1
 .rw[if_pos (by simp[hb1])];rw[hb1]at m0;rw[hb1];exact Av (hQ _ _ (end_B T h0 m0) (Like.refl _))
 rw[if_neg (by simp[hb1])];refine Am (DW ?_)
 refine Am (Ck (By (I:=λx c st'=>Like st st'/\∃na nb out mg,c=(none,na,nb,out,mg)/\MJ (leOf L) a.toList b.toList out.reverse.toList na nb/\0<na/\1<nb/\na+nb+x+1<=a.size+b.size/\na<=a.size/\nb<=b.size)
  (Q:=λc st'=>Like st st'/\∃r,c.1=some r/\Res (leOf L) a.toList b.toList r.toList) ?step ?fin ⟨Like.refl _,_,_,_,_,rfl,m0,by lia,by lia,by lia,by lia,by lia⟩) ?post)
 case fin =>
  rintro c st' ⟨_,na,nb,out,mg,rfl,m,g1,g2,g3,g4,g5⟩;exact absurd g3 (by lia)
 case post =>
  rintro c st' ⟨lk,r,e,res⟩;rw[e];exact Av (hQ r st' res lk)
 case step =>
  rintro x c st' _ hx ⟨lk,na,nb,out,mg,rfl,m,g1,g2,g3,g4,g5⟩;exact zku O T (lk.1.trans hk) h0 m g1 g2 (by lia) g4 g5 (λz' h r _ _ _ _ e=>⟨Like.tr lk h,r,rfl,e⟩) λz' h _ _ _ _ e u1 u2 u3 u4 u5=>⟨Like.tr lk h,_,_,_,_,rfl,e,u1,u2,by lia,u4,u5⟩
end
end TS
namespace TS
open PySem PyProof.Rows
section
variable {M:Model}{A:AO}{E:Value->Ac->Prop}{s:Ac}{kd:CM}{S:Keyed->Prop}{L:Keyed->Keyed->Bool}
noncomputable def Seg(L:Keyed->Keyed->Bool)(a:Array Keyed)(lo n:Nat):Prop:=∀(i j:Nat) x y,i<=j->j<n->a[lo+i]?=some x->a[lo+j]?=some y->L y x=false
noncomputable def Rev(L:Keyed->Keyed->Bool)(a:Array Keyed)(lo n:Nat):Prop:=∀(i j:Nat) x y,i<=j->j<n->a[lo+i]?=some x->a[lo+j]?=some y->L x y=false
structure SB (kd:CM) (S:Keyed->Prop) (st0 st:AM) (lo hi:Nat):Prop where
 kind:kindOf st=kd
 pend:AR st=AR st0
 fail:Cy st=Cy st0
 perm:(Ay st).Perm (Ay st0)
 out:∀k:Nat,k<lo∨hi<=k->(Ay st)[k]?=(Ay st0)[k]?
 all:∀(k:Nat) x,(Ay st)[k]?=some x->S x
theorem SB.size{st0 st:AM}{lo hi:Nat}(h:SB kd S st0 st lo hi):(Ay st).size=(Ay st0).size:=h.perm.size_eq
theorem zej(O:LtOk M A E s kd S L){st:AM}{i j:Nat}{x y:Keyed}{Q:Option Bool->AM->Prop}(hk:kindOf st=kd)(hi:(Ay st)[i]?=some x)(hj:(Ay st)[j]?=some y)(sx:S x)(sy:S y)(q:Q (some (L x y)) st):wpS M A E s (ltAt' i j) Q st:=by rw[ltAt'_eq];refine Am (DW ?_);refine Am (zaC hi ?_);refine Am (zaC hj ?_);exact O.lt x y sx sy st Q hk q
theorem zbj{st:AM}{i:Nat}(h:i<(Ay st).size):∃x,(Ay st)[i]?=some x:=⟨(Ay st)[i],by simp[h]⟩
theorem Seg.more(O:LtOk M A E s kd S L){a:Array Keyed}{lo n:Nat}{x y:Keyed}(hS:∀(k:Nat) x,a[k]?=some x->S x)(h:Seg L a lo (n+1))(hx:a[lo+n]?=some x)(hy:a[lo+(n+1)]?=some y)(hl:L y x=false):Seg L a lo (n+2):=by
 intro i j u v hij hj hu hv;rcases Bi j (n+1) with q |q
 .exact h i j u v hij q hu hv
 .have ej:j=n+1:=by lia
  subst ej;rw[hy]at hv
  cases hv
  rcases Bi i (n+1) with q2 |q2
  .have h1:=h i n u x (by lia) (by lia) hu hx;exact O.tr u x y (hS _ _ hu) (hS _ _ hx) (hS _ _ hy) h1 hl
  .have ei:i=n+1:=by lia
   subst ei;rw[hy]at hu
   cases hu
   exact O.rf (hS _ _ hy)
noncomputable def Blk(L:Keyed->Keyed->Bool)(a:Array Keyed)(lo n q:Nat):Prop:=∀(i j:Nat) x y,n-(q+1)<=i->i<n->n-(q+1)<=j->j<n->a[lo+i]?=some x->a[lo+j]?=some y->L x y=false
theorem SB.refl{st:AM}{lo hi:Nat}(hk:kindOf st=kd)(hS:∀(k:Nat) x,(Ay st)[k]?=some x->S x):SB kd S st st lo hi:=⟨hk,rfl,rfl,Array.Perm.refl _,λ_ _=>rfl,hS⟩
theorem SB.mir{st0 st:AM}{lo hi i j:Nat}(h:SB kd S st0 st lo hi)(h1:lo<=i)(h2:j<=hi)(hz:j<=(Ay st).size):SB kd S st0 (setArr st (mirror (Ay st) i j ((j-i) / 2))) lo hi:=by
 refine⟨h.kind,h.pend,h.fail,(mirror_perm _ _ _ _).trans h.perm,λk hk=>?_,λk x hx=>?_⟩
 .show (mirror (Ay st) i j ((j-i) / 2))[k]?=_;rw[BS hz,if_neg (by lia)];exact h.out k hk
 .have hx':(mirror (Ay st) i j ((j-i) / 2))[k]?=some x:=hx;rw[BS hz]at hx';split at hx'
  .exact h.all _ x hx'
  .exact h.all _ x hx'
theorem Rev.blk{a:Array Keyed}{lo n q:Nat}(h:Rev L a lo n)(hb:Blk L a lo n q)(hq:q<n)(hz:lo+n<=a.size):Rev L (mirror a (lo+n-(q+1)) (lo+n) ((lo+n-(lo+n-(q+1))) / 2)) lo n:=by
 intro i j x y hij hj hx hy;rw[BS hz]at hx hy
 by_cases hi:lo+n-(q+1)<=lo+i/\lo+i<lo+n
 .rw[if_pos hi]at hx;rw[if_pos (by lia)]at hy;rw[show lo+n-(q+1)+(lo+n)-1-(lo+i)=lo+(n-(q+1)+n-1-i) by lia]at hx;rw[show lo+n-(q+1)+(lo+n)-1-(lo+j)=lo+(n-(q+1)+n-1-j) by lia]at hy;exact hb _ _ x y (by lia) (by lia) (by lia) (by lia) hx hy
 .rw[if_neg hi]at hx
  by_cases hj':lo+n-(q+1)<=lo+j/\lo+j<lo+n
  .rw[if_pos hj']at hy;rw[show lo+n-(q+1)+(lo+n)-1-(lo+j)=lo+(n-(q+1)+n-1-j) by lia]at hy;exact h i _ x y (by lia) (by lia) hx hy
  .rw[if_neg hj']at hy;exact h i j x y hij hj hx hy
theorem Rev.flip{a:Array Keyed}{lo n:Nat}(h:Rev L a lo n)(hz:lo+n<=a.size):Seg L (mirror a lo (lo+n) ((lo+n-lo) / 2)) lo n:=by intro i j x y hij hj hx hy;rw[BS hz,if_pos (by lia)]at hx hy;rw[show lo+(lo+n)-1-(lo+i)=lo+(n-1-i) by lia]at hx;rw[show lo+(lo+n)-1-(lo+j)=lo+(n-1-j) by lia]at hy;exact h _ _ y x (by lia) (by lia) hy hx
theorem Rev.more(O:LtOk M A E s kd S L){a:Array Keyed}{lo n:Nat}{x y:Keyed}(hS:∀(k:Nat) x,a[k]?=some x->S x)(h:Rev L a lo (n+1))(hx:a[lo+n]?=some x)(hy:a[lo+(n+1)]?=some y)(hl:L x y=false):Rev L a lo (n+2):=by
 intro i j u v hij hj hu hv;rcases Bi j (n+1) with q |q
 .exact h i j u v hij q hu hv
 .have ej:j=n+1:=by lia
  subst ej;rw[hy]at hv
  cases hv
  rcases Bi i (n+1) with q2 |q2
  .have h1:=h i n u x (by lia) (by lia) hu hx;exact O.tr y x u (hS _ _ hy) (hS _ _ hx) (hS _ _ hu) hl h1
  .have ei:i=n+1:=by lia
   subst ei;rw[hy]at hu
   cases hu
   exact O.rf (hS _ _ hy)
theorem Blk.more(O:LtOk M A E s kd S L){a:Array Keyed}{lo n q:Nat}{x y:Keyed}(hS:∀(k:Nat) x,a[k]?=some x->S x)(h:Blk L a lo (n+1) q)(hq:q<n+1)(hx:a[lo+n]?=some x)(hy:a[lo+(n+1)]?=some y)(h1:L x y=false)(h2:L y x=false):Blk L a lo (n+2) (q+1):=by
 have old:∀(i:Nat) u,n+1-(q+1)<=i->i<n+1->a[lo+i]?=some u->L u y=false/\L y u=false:=λi u a1 a2 hu=>by have e1:=h i n u x a1 a2 (by lia) (by lia) hu hx;have e2:=h n i x u (by lia) (by lia) a1 a2 hx hu;exact⟨O.tr y x u (hS _ _ hy) (hS _ _ hx) (hS _ _ hu) h1 e1,O.tr u x y (hS _ _ hu) (hS _ _ hx) (hS _ _ hy) e2 h2⟩
 intro i j u v a1 a2 b1 b2 hu hv;rcases Bi i (n+1) with ci |ci
 .rcases Bi j (n+1) with cj |cj
  .exact h i j u v (by lia) ci (by lia) cj hu hv
  .have ej:j=n+1:=by lia
   subst ej;rw[hy]at hv;cases hv;exact (old i u (by lia) ci hu).1
 .have ei:i=n+1:=by lia
  subst ei;rw[hy]at hu;cases hu;rcases Bi j (n+1) with cj |cj
  .exact (old j v (by lia) cj hv).2
  .have ej:j=n+1:=by lia
   subst ej;rw[hy]at hv;cases hv;exact O.rf (hS _ _ hy)
theorem Blk.one(O:LtOk M A E s kd S L){a:Array Keyed}{lo n:Nat}(hS:∀(k:Nat) x,a[k]?=some x->S x):Blk L a lo (n+1) 0:=λi j x y a1 a2 b1 b2 hx hy=>by
 have ei:i=n:=by lia
 have ej:j=n:=by lia
 subst ei;subst ej;rw[hx]at hy;cases hy;exact O.rf (hS _ _ hx)
theorem zfw{B:Prop}{D:AM->Prop}(C:AM->Prop)(g:(∀st,D st->C st)->B)(h:∀st,D st->C st):B:=g h
theorem zfl (O : LtOk M A E s kd S L){st : AM}{lo nrem : Nat}{Q : Option Nat → AM → Prop}(h1 : 1 ≤ nrem) (hz : lo + nrem ≤ (Ay st).size) (hk : kindOf st = kd) (hS : ∀ (k : Nat) x, (Ay st)[k]? = some x → S x)
    (hQ:∀ m st',SB kd S st st' lo (lo+nrem)→1≤m→m≤nrem→Seg L (Ay st') lo m→Q (some m) st'):wpS M A E s (countRun' lo nrem) Q st:=by
  rw[countRun'_eq]
  refine Am (Ck (By (I:=λx c st'=>c=(none,x)∧st'=st∧x≤nrem∧Seg L (Ay st) lo x)
    (Q:=λc st'=>∃ m,c=(none,m)∧st'=st∧1≤m∧m≤nrem∧Seg L (Ay st) lo m∧(m<nrem→∃ x y,(Ay st)[lo+m]?=some x∧(Ay st)[lo+m - 1]?=some y∧L x y=true)) ?step ?fin ?init) ?post)
  case init =>
    refine⟨rfl,rfl,h1,λi j x y hij hj hx hy=>?_⟩
    have ei:i=0:=by lia
    have ej:j=0:=by lia
    subst ei;subst ej
    rw[hx] at hy
    cases hy
    exact O.rf (hS _ _ hx)
  case fin =>
    rintro c st' ⟨rfl,rfl,hle,hsg⟩
    exact⟨_,rfl,rfl,by lia,hle,hsg,λh=>absurd h (by lia)⟩
  case step =>
    rintro n c st' hn1 hn2 ⟨rfl,rfl,hle,hsg⟩
    obtain⟨x,hx⟩:=zbj (st:=st') (i:=lo+n) (by lia)
    obtain⟨y,hy⟩:=zbj (st:=st') (i:=lo+n - 1) (by lia)
    refine Am (zej O hk hx hy (hS _ _ hx) (hS _ _ hy) ?_)
    dsimp only
    by_cases hl:L x y=true
    . rw[if_pos hl]
      exact Av ⟨n,rfl,rfl,hn1,hle,hsg,λ_=>⟨x,y,hx,hy,hl⟩⟩
    . rw[if_neg hl]
      refine Av ⟨rfl,rfl,hn2,?_⟩
      obtain⟨p,rfl⟩:∃ p,n=p+1:=⟨n - 1,by lia⟩
      exact hsg.more O hS (by rw[show lo+(p+1) - 1=lo+p by lia] at hy;exact hy) hx (by simpa using hl)
  case post =>
    rintro c st' ⟨m,rfl,rfl,hm1,hm2,hsg,hnx⟩
    dsimp only
    by_cases hmn:(m == nrem)=true
    . rw[if_pos hmn]
      exact Av (hQ m st' (SB.refl hk hS) hm1 hm2 hsg)
    . rw[if_neg hmn]
      have hlt : m < nrem := by have : m ≠ nrem := by simpa using hmn
                                lia
      obtain⟨x0,y0,hx0,hy0,hl0⟩:=hnx hlt
      refine zfw (D:=λst1=>SB kd S st' st1 lo (lo+nrem)∧Rev L (Ay st1) lo m∧(∃ x y,(Ay st1)[lo+m]?=some x∧(Ay st1)[lo+m - 1]?=some y∧L y x=false)) ?C (λshare=>?g) ?h
      case g =>
        by_cases hm:m > 1
        . rw[if_pos hm]
          obtain⟨a,ha⟩:=zbj (st:=st') (i:=lo) (by lia)
          obtain⟨b,hb⟩:=zbj (st:=st') (i:=lo+m - 1) (by lia)
          refine Am (zej O hk ha hb (hS _ _ ha) (hS _ _ hb) ?_)
          dsimp only
          by_cases hr:L a b=true
          . rw[if_pos hr]
            exact Av (hQ m st' (SB.refl hk hS) hm1 hm2 hsg)
          . rw[if_neg hr]
            have hr':L a b=false:=by simpa using hr
            rw[reverseSlice'_eq]
            refine Am (BU ?_)
            have hz2:lo+m≤(Ay st').size:=by lia
            have hb':(Ay st')[lo+(m - 1)]?=some b:=by rw[show lo+(m - 1)=lo+m - 1 by lia];exact hb
            have eqv:Rev L (Ay st') lo m:=λi j x y hij hj hx hy=>by
              have e1:=hsg 0 j a y (by lia) hj (by simpa using ha) hy
              have e2:=hsg i (m - 1) x b (by lia) (by lia) hx hb'
              have e3:=O.tr x b a (hS _ _ hx) (hS _ _ hb) (hS _ _ ha) e2 hr'
              have e4:=hsg j (m - 1) y b (by lia) (by lia) hy hb'
              have e5:=hsg 0 i a x (by lia) (by lia) (by simpa using ha) hx
              exact O.tr y b x (hS _ _ hy) (hS _ _ hb) (hS _ _ hx) e4 (O.tr b a x (hS _ _ hb) (hS _ _ ha) (hS _ _ hx) hr' e5)
            have rv2:Rev L (mirror (Ay st') lo (lo+m) ((lo+m - lo) / 2)) lo m:=λi j x y hij hj hx hy=>by
              rw[BS hz2,if_pos (by lia)] at hx hy
              rw[show lo+(lo+m) - 1 - (lo+i)=lo+(m - 1 - i) by lia] at hx
              rw[show lo+(lo+m) - 1 - (lo+j)=lo+(m - 1 - j) by lia] at hy
              exact hsg _ _ y x (by lia) (by lia) hy hx
            refine share _ ⟨(SB.refl hk hS).mir (Aj _) (by lia) hz2,rv2,x0,a,?_,?_,?_⟩
            . show (mirror (Ay st') lo (lo+m) ((lo+m - lo) / 2))[lo+m]?=_
              rw[BS hz2,if_neg (by lia)];exact hx0
            . show (mirror (Ay st') lo (lo+m) ((lo+m - lo) / 2))[lo+m - 1]?=_
              rw[BS hz2,if_pos (by lia),show lo+(lo+m) - 1 - (lo+m - 1)=lo by lia];exact ha
            . have eb:b=y0:=by rw[hb] at hy0;exact A9 hy0
              subst eb
              exact O.tr x0 b a (hS _ _ hx0) (hS _ _ hb) (hS _ _ ha) (O.as x0 b (hS _ _ hx0) (hS _ _ hb) hl0) hr'
        . rw[if_neg hm]
          have em:m=1:=by lia
          subst em
          refine share _ ⟨SB.refl hk hS,λi j x y hij hj hx hy=>?_,x0,y0,hx0,hy0,O.as x0 y0 (hS _ _ hx0) (hS _ _ hy0) hl0⟩
          have ei:i=0:=by lia
          have ej:j=0:=by lia
          subst ei;subst ej
          rw[hx] at hy;cases hy
          exact O.rf (hS _ _ hx)
      case h =>
        rintro st1 ⟨sb1,rv1,x1,y1,hx1,hy1,hl1⟩
        have hz1:lo+nrem≤(Ay st1).size:=by rw[sb1.size];exact hz
        refine Am (wpS_lift (Dc ⟨rfl,?_⟩))
        obtain⟨p,rfl⟩:∃ p,m=p+1:=⟨m - 1,by lia⟩
        rw[show lo+(p+1) - 1=lo+p by lia] at hy1
        have rv2:Rev L (Ay st1) lo (p+1+1):=rv1.more O sb1.all hy1 hx1 hl1
        refine Am (Ck (By (I:=λx c st2=>∃ q,c=(none,x,q)∧SB kd S st' st2 lo (lo+nrem)∧1≤x∧x≤nrem∧q<x∧Rev L (Ay st2) lo x∧Blk L (Ay st2) lo x q)
          (Q:=λc st2=>∃ x q,c=(none,x,q)∧SB kd S st' st2 lo (lo+nrem)∧1≤x∧x≤nrem∧q<x∧Rev L (Ay st2) lo x∧Blk L (Ay st2) lo x q) ?step ?fin ⟨0,rfl,sb1,by lia,by lia,by lia,rv2,Blk.one O sb1.all⟩) ?post)
        case fin =>
          rintro c st2 ⟨q,rfl,hh⟩
          exact⟨_,q,rfl,hh⟩
        case step =>
          rintro x c st2 hx1' hx2 ⟨q,rfl,sb2,hn1,hn2,hq,rv,bk⟩
          have hz2:lo+nrem≤(Ay st2).size:=by rw[sb2.size];exact hz
          obtain⟨u,hu⟩:=zbj (st:=st2) (i:=lo+x) (by lia)
          obtain⟨v,hv⟩:=zbj (st:=st2) (i:=lo+x - 1) (by lia)
          obtain⟨r,rfl⟩:∃ r,x=r+1:=⟨x - 1,by lia⟩
          rw[show lo+(r+1) - 1=lo+r by lia] at hv
          refine Am (zej O sb2.kind hu (by rw[show lo+(r+1) - 1=lo+r by lia];exact hv) (sb2.all _ _ hu) (sb2.all _ _ hv) ?_)
          dsimp only
          by_cases hl:L u v=true
          . rw[if_pos hl]
            have hvu:=O.as u v (sb2.all _ _ hu) (sb2.all _ _ hv) hl
            by_cases hq0:q > 0
            . rw[if_pos hq0,reverseSlice'_eq]
              refine Am (BU ?_)
              have hzr:lo+(r+1)≤(Ay st2).size:=by lia
              have sb3:=sb2.mir (i:=lo+(r+1) - (q+1)) (j:=lo+(r+1)) (by lia) (by lia) hzr
              have rv3:=rv.blk bk hq hzr
              refine Av ⟨0,rfl,sb3,by lia,by lia,by lia,?_,Blk.one O sb3.all⟩
              have hz3:r<r+1:=by lia
              obtain⟨v2,hv2⟩:=zbj (st:=setArr st2 (mirror (Ay st2) (lo+(r+1) - (q+1)) (lo+(r+1)) ((lo+(r+1) - (lo+(r+1) - (q+1))) / 2))) (i:=lo+r) (by show lo+r<(mirror (Ay st2) _ _ _).size;rw[mirror_size];lia)
              have hv2':(Ay st2)[lo+(r+1 - (q+1)+r - r)]?=some v2:=by
                have h0:(mirror (Ay st2) (lo+(r+1) - (q+1)) (lo+(r+1)) ((lo+(r+1) - (lo+(r+1) - (q+1))) / 2))[lo+r]?=some v2:=hv2
                rw[BS hzr,if_pos (by lia),show lo+(r+1) - (q+1)+(lo+(r+1)) - 1 - (lo+r)=lo+(r+1 - (q+1)+r - r) by lia] at h0
                exact h0
              refine rv3.more O sb3.all hv2 (y:=u) ?_ ?_
              . show (mirror (Ay st2) (lo+(r+1) - (q+1)) (lo+(r+1)) ((lo+(r+1) - (lo+(r+1) - (q+1))) / 2))[lo+(r+1)]?=some u
                rw[BS hzr,if_neg (by lia)];exact hu
              . exact O.tr u v v2 (sb2.all _ _ hu) (sb2.all _ _ hv) (sb2.all _ _ hv2') hvu (rv _ r v2 v (by lia) (by lia) hv2' hv)
            . rw[if_neg hq0]
              exact Av ⟨0,rfl,sb2,by lia,by lia,by lia,rv.more O sb2.all hv hu hvu,Blk.one O sb2.all⟩
          . rw[if_neg hl]
            have hl':L u v=false:=by simpa using hl
            refine Am (zej O sb2.kind (by rw[show lo+(r+1) - 1=lo+r by lia];exact hv) hu (sb2.all _ _ hv) (sb2.all _ _ hu) ?_)
            dsimp only
            by_cases hg:L v u=true
            . rw[if_pos hg]
              exact Av ⟨r+1,q,rfl,sb2,hn1,hn2,hq,rv,bk⟩
            . rw[if_neg hg]
              have hg':L v u=false:=by simpa using hg
              exact Av ⟨q+1,rfl,sb2,by lia,by lia,by lia,rv.more O sb2.all hv hu hg',bk.more O sb2.all hq hv hu hg' hl'⟩
        case post =>
          rintro c st2 ⟨x,q,rfl,sb2,hx1',hx2,hq,rv,bk⟩
          dsimp only
          have hz2:lo+nrem≤(Ay st2).size:=by rw[sb2.size];exact hz
          refine zfw (D:=λst3=>SB kd S st' st3 lo (lo+nrem)∧Rev L (Ay st3) lo x) ?C2 (λshare=>?g2) ?h2
          case g2 =>
            by_cases hq0:q > 0
            . rw[if_pos hq0,reverseSlice'_eq]
              refine Am (BU ?_)
              exact share _ ⟨sb2.mir (by lia) (by lia) (by lia),rv.blk bk hq (by lia)⟩
            . rw[if_neg hq0]
              exact share _ ⟨sb2,rv⟩
          case h2 =>
            rintro st3 ⟨sb3,rv3⟩
            have hz3:lo+nrem≤(Ay st3).size:=by rw[sb3.size];exact hz
            rw[reverseSlice'_eq]
            refine Am (BU ?_)
            have sb4:=sb3.mir (i:=lo) (j:=lo+x) (Aj _) (by lia) (by lia)
            have sg4:=rv3.flip (show lo+x≤(Ay st3).size by lia)
            have sg5:Seg L (Ay (setArr st3 (mirror (Ay st3) lo (lo+x) ((lo+x - lo) / 2)))) lo x:=sg4
            generalize setArr st3 (mirror (Ay st3) lo (lo+x) ((lo+x - lo) / 2))=st4 at sb4 sg5
            have hz4:lo+nrem≤(Ay st4).size:=by rw[sb4.size];exact hz
            refine Am (Ck (By (I:=λn c st5=>c=(none,n)∧st5=st4∧n≤nrem∧Seg L (Ay st4) lo n) (Q:=λc st5=>∃ m,c=(none,m)∧st5=st4∧1≤m∧m≤nrem∧Seg L (Ay st4) lo m) ?step ?fin ⟨rfl,rfl,hx2,sg5⟩) ?post)
            case fin =>
              rintro c st5 ⟨rfl,rfl,hle,hsg⟩
              exact⟨_,rfl,rfl,by lia,hle,hsg⟩
            case step =>
              rintro n c st5 hn1 hn2 ⟨rfl,rfl,hle,hsg⟩
              obtain⟨u,hu⟩:=zbj (st:=st5) (i:=lo+n) (by lia)
              obtain⟨v,hv⟩:=zbj (st:=st5) (i:=lo+n - 1) (by lia)
              refine Am (zej O sb4.kind hu hv (sb4.all _ _ hu) (sb4.all _ _ hv) ?_)
              dsimp only
              by_cases hl:L u v=true
              . rw[if_pos hl]
                exact Av ⟨n,rfl,rfl,by lia,hle,hsg⟩
              . rw[if_neg hl]
                refine Av ⟨rfl,rfl,hn2,?_⟩
                obtain⟨p,rfl⟩:∃ p,n=p+1:=⟨n - 1,by lia⟩
                exact hsg.more O sb4.all (by rw[show lo+(p+1) - 1=lo+p by lia] at hv;exact hv) hu (by simpa using hl)
            case post =>
              rintro c st5 ⟨n,rfl,rfl,h1n,hn2,hsg⟩
              exact Av (hQ n st5 sb4 h1n hn2 hsg)
end
end TS
namespace TS
open PySem PyProof.Rows
section
variable {M:Model}{A:AO}{E:Value->Ac->Prop}{s:Ac}{kd:CM}{S:Keyed->Prop}{L:Keyed->Keyed->Bool}
theorem SB.bub{st0 st:AM}{lo hi i d:Nat}(h:SB kd S st0 st lo hi)(h1:lo<=i-d)(hd:d<=i)(h2:i<hi)(hz:i<(Ay st).size):SB kd S st0 (setArr st (bubble (Ay st) i d)) lo hi:=by
 refine⟨h.kind,h.pend,h.fail,(bubble_perm _ _ _).trans h.perm,λk hk=>?_,λk x hx=>?_⟩
 .show (bubble (Ay st) i d)[k]?=_;rw[getElem?_bubble hz _ hd,if_neg (by lia),if_neg (by lia)];exact h.out k hk
 .have hx':(bubble (Ay st) i d)[k]?=some x:=hx;rw[getElem?_bubble hz _ hd]at hx';split at hx'
  .exact h.all _ x hx'
  .split at hx'
   .exact h.all _ x hx'
   .exact h.all _ x hx'
theorem Seg.ins(O:LtOk M A E s kd S L){a:Array Keyed}{lo k l:Nat}{p:Keyed}(hS:∀(k:Nat) x, a[k]? = some x -> S x)(h:Seg L a lo k)(hlk:l <= k)(hz:lo + k < a.size)(hp:a[lo + k]? = some p)
  (h1:∀(i:Nat) x,i<l->a[lo+i]?=some x->L p x=false) (h2:∀(i:Nat) x,l<=i->i<k->a[lo+i]?=some x->L p x=true):Seg L (bubble a (lo+k) (lo+k-(lo+l))) lo (k+1):=by
 have at':∀(i:Nat) x,i<k+1->(bubble a (lo+k) (lo+k-(lo+l)))[lo+i]?=some x->(i<l/\a[lo+i]?=some x)∨(i=l/\x=p)∨(l<i/\a[lo+(i-1)]?=some x):=λi x hi hx=>by
  rw[getElem?_bubble hz _ (by lia)]at hx
  by_cases e:lo+i=lo+k-(lo+k-(lo+l))
  .rw[if_pos e,hp]at hx;exact .inr (.inl ⟨by lia,(A9 hx).symm⟩)
  .rw[if_neg e]at hx
   by_cases e2:lo+k-(lo+k-(lo+l))<lo+i/\lo+i<=lo+k
   .rw[if_pos e2,show lo+i-1=lo+(i-1) by lia]at hx;exact .inr (.inr ⟨by lia,hx⟩)
   .rw[if_neg e2]at hx;exact .inl ⟨by lia,hx⟩
 intro i j x y hij hj hx hy;have sp:=hS _ _ hp;rcases at' i x (by lia) hx with⟨a1,a2⟩ |⟨a1,a2⟩ |⟨a1,a2⟩
 .rcases at' j y hj hy with⟨b1,b2⟩ |⟨b1,b2⟩ |⟨b1,b2⟩
  .exact h i j x y hij (by lia) a2 b2
  .rw[b2];exact h1 i x a1 a2
  .exact h i (j-1) x y (by lia) (by lia) a2 b2
 .subst a2;rcases at' j y hj hy with⟨b1,b2⟩ |⟨b1,b2⟩ |⟨b1,b2⟩
  .lia
  .rw[b2];exact O.rf sp
  .exact O.as x y sp (hS _ _ b2) (h2 (j-1) y (by lia) (by lia) b2)
 .rcases at' j y hj hy with⟨b1,b2⟩ |⟨b1,b2⟩ |⟨b1,b2⟩
  .lia
  .lia
  .exact h (i-1) (j-1) x y (by lia) (by lia) a2 b2
theorem zd5(O:LtOk M A E s kd S L){st:AM}{lo n ok:Nat}{Q:Bool -> AM -> Prop}(hok : 1 <= ok)(hn:ok <= n)(hz:lo + n <= (Ay st).size)(hk:kindOf st=kd)(hS:∀(k:Nat) x, (Ay st)[k]? = some x -> S x)(hs:Seg L (Ay st) lo ok)
  (hQ:∀st',SB kd S st st' lo (lo+n)->Seg L (Ay st') lo n->Q true st'):wpS M A E s (binarySort' lo n ok) Q st:=by
 rw[binarySort'_eq];have em:max ok 1=ok:=by lia
 rw[em]
 refine Am (Ck (By (I:=λk c st'=>c=(none,())/\SB kd S st st' lo (lo+n)/\k<=n/\Seg L (Ay st') lo k)
  (Q:=λc st'=>c=(none,())/\SB kd S st st' lo (lo+n)/\Seg L (Ay st') lo n) ?step ?fin ⟨rfl,SB.refl hk hS,hn,hs⟩) ?post)
 case post =>
  rintro c st' ⟨rfl,sb,sg⟩;exact Av (hQ st' sb sg)
 case fin =>
  rintro c st' ⟨rfl,sb,hle,sg⟩;rw[show max ok n=n by lia]at sg;exact⟨rfl,sb,sg⟩
 case step =>
  rintro k c st' hk1 hk2 ⟨rfl,sb,hle,sg⟩;have hz':lo+n<=(Ay st').size:=by rw[sb.size];exact hz
  obtain⟨p,hp⟩:=zbj (st:=st') (i:=lo+k) (by lia);dsimp only
  refine Am (Ck (By (I:=λx c st2=>∃l r,c=(none,l,r)/\st2=st'/\l<=r/\r<=k/\r-l<=k-x/\(∀(i:Nat) z,i<l->(Ay st')[lo+i]?=some z->L p z=false)/\(∀(i:Nat) z,r<=i->i<k->(Ay st')[lo+i]?=some z->L p z=true))
   (Q:=λc st2=>∃l,c=(none,l,l)/\st2=st'/\l<=k/\(∀(i:Nat) z,i<l->(Ay st')[lo+i]?=some z->L p z=false)/\(∀(i:Nat) z,l<=i->i<k->(Ay st')[lo+i]?=some z->L p z=true)) ?step2 ?fin2 ⟨0,k,rfl,rfl,A6 _,Aj _,Aj _,(λi z h=>absurd h (Nat.not_lt_zero _)),(λi z h1 h2=>absurd h2 (by lia))⟩) ?post2)
  case fin2 =>
   rintro c st2 ⟨l,r,rfl,rfl,h1,h2,h3,h4,h5⟩;have:l=r:=by lia
   subst this;exact⟨l,rfl,rfl,h2,h4,h5⟩
  case step2 =>
   rintro x c st2 _ hx ⟨l,r,rfl,rfl,h1,h2,h3,h4,h5⟩;dsimp only
   by_cases hlr:l ≥ r
   .rw[if_pos hlr];have:l=r:=by lia
    subst this;exact Av ⟨l,rfl,rfl,h2,h4,h5⟩
   .rw[if_neg hlr];obtain⟨u,hu⟩:=zbj (st:=st2) (i:=lo+(l+r) / 2) (by lia);refine Am (zej O sb.kind hp hu (sb.all _ _ hp) (sb.all _ _ hu) ?_);dsimp only
    by_cases hl:L p u=true
    .rw[if_pos hl];refine Av ⟨l,(l+r) / 2,rfl,rfl,by lia,by lia,by lia,h4,λi z a1 a2 hz2=>?_⟩
     cases q:L p z with
     |true=>rfl
     |false =>
      have e1:=sg ((l+r) / 2) i u z a1 a2 hu hz2;have e2:=O.tr u z p (sb.all _ _ hu) (sb.all _ _ hz2) (sb.all _ _ hp) e1 q;rw[hl]at e2;cases e2
    .rw[if_neg hl];have hl':L p u=false:=by simpa using hl
     refine Av ⟨(l+r) / 2+1,r,rfl,rfl,by lia,by lia,by lia,λi z a1 hz2=>?_,h5⟩;have e1:=sg i ((l+r) / 2) z u (by lia) (by lia) hz2 hu;exact O.tr z u p (sb.all _ _ hz2) (sb.all _ _ hu) (sb.all _ _ hp) e1 hl'
  case post2 =>
   rintro c st2 ⟨l,rfl,rfl,h2,h4,h5⟩;dsimp only;rw[moveDown'_eq];refine Am (BU (Av ⟨rfl,sb.bub (by lia) (by lia) (by lia) (by lia),by lia,?_⟩));exact sg.ins O sb.all h2 (by lia) hp h4 h5
end
end TS
set_option maxHeartbeats 8000000
namespace TS
open PySem PyProof.Rows
noncomputable def wr(a:Array Keyed)(o:Nat)(l:List Keyed)(k:Nat):Array Keyed:=(l.zipIdx k).foldl (λa (p:Keyed×Nat)=>a.setIfInBounds (o+p.2) p.1) a
theorem zim:∀(l:List Keyed) (k:Nat) (a:Array Keyed) (o i:Nat),o+k+l.length<=a.size->(wr a o l k)[i]?=if o+k<=i/\i<o+k+l.length then l[i-(o+k)]? else a[i]?
 |[],k,a,o,i,_=>by
  show a[i]?=_;rw[if_neg (by simp)]
 |x::l,k,a,o,i,hz=>by
  have ih:=zim l (k+1) (a.setIfInBounds (o+k) x) o i (by rw[Array.size_setIfInBounds];simp at hz;lia);unfold wr at ih ⊢;rw[List.zipIdx_cons,List.foldl_cons,ih];simp only[Be]at hz ⊢
  by_cases h1:o+(k+1)<=i/\i<o+(k+1)+l.length
  .rw[if_pos h1,if_pos (by lia),show i-(o+k)=(i-(o+(k+1)))+1 by lia];rfl
  .rw[if_neg h1]
   by_cases h2:i=o+k
   .subst h2;rw[if_pos (by lia),Nat.sub_self];rw[Array.getElem?_setIfInBounds_self_of_lt (by lia)];rfl
   .rw[if_neg (by lia),Array.getElem?_setIfInBounds_ne (Bx h2)]
theorem zlf{a:Array Keyed}{o:Nat}{l:List Keyed}(hz:o+l.length<=a.size):(wr a o l 0).toList=a.toList.take o++l++a.toList.drop (o+l.length):=by
 apply List.ext_getElem?
 intro i;rw[Bt,zim l 0 a o i (by simpa using hz)];have h1:(a.toList.take o).length=o:=by rw[AT,AJ];lia
 by_cases c1:i<o
 .rw[if_neg (by lia),AA,AK (by lia),List.getElem?_take,if_pos c1,Bt]
 .by_cases c2:i<o+l.length
  .rw[if_pos (by lia),AA,AW (by lia),AK (by lia),h1];rfl
  .rw[if_neg (by lia),AW (by simp;lia),List.getElem?_drop,<- Bt]
   congr 1
   simp;lia
section
variable {M:Model}{A:AO}{E:Value->Ac->Prop}{s:Ac}{kd:CM}{S:Keyed->Prop}{L:Keyed->Keyed->Bool}
structure SM (kd:CM) (S:Keyed->Prop) (L:Keyed->Keyed->Bool) (st0 st:AM) (pd:Array (Nat×Nat×Nat)) (lo n:Nat):Prop where
 kind:kindOf st=kd
 pend:AR st=pd
 fail:Cy st=none
 perm:(Ay st).Perm (Ay st0)
 out:∀k:Nat,k<lo∨lo+n<=k->(Ay st)[k]?=(Ay st0)[k]?
 all:∀(k:Nat) x,(Ay st)[k]?=some x->S x
 seg:Seg L (Ay st) lo n
theorem Seg.glue{a:Array Keyed}(O:LtOk M A E s kd S L){lo n m:Nat}(hS:∀(k:Nat) x,a[k]?=some x->S x)(h1:Seg L a lo n)(h2:Seg L a (lo+n) m)(h:∀x y,a[lo+(n-1)]?=some x->a[lo+n]?=some y->L y x=false)(hn:0<n)(hz:lo+n+m<=a.size):Seg L a lo (n+m):=by
 intro i j x y hij hj hx hy;rcases Bi j n with cj |cj
 .exact h1 i j x y hij cj hx hy
 .rw[show lo+j=lo+n+(j-n) by lia]at hy;rcases Bi i n with ci |ci
  .have e1:a[lo+(n-1)]?=some a[lo+(n-1)]:=by rw[BZ (by lia)]
   have e2:a[lo+n]?=some a[lo+n]:=by rw[BZ (by lia)]
   have q1:=h1 i (n-1) x _ (by lia) (by lia) hx e1;have q2:=h _ _ e1 e2;have q3:=h2 0 (j-n) _ y (A6 _) (by lia) e2 hy;exact O.tr x _ y (hS _ _ hx) (hS _ _ e1) (hS _ _ hy) q1 (O.tr _ _ y (hS _ _ e1) (hS _ _ e2) (hS _ _ hy) q2 q3)
  .rw[show lo+i=lo+n+(i-n) by lia]at hx;exact h2 (i-n) (j-n) x y (by lia) (by lia) hx hy
theorem zlg{x:AM}{Q:PUnit->AM->Prop}{st:AM}(h:Q ⟨⟩ x):wpS M A E s (set x:StateT AM Sem PUnit) Q st:=by unfold wpS;rw[StateT.run_set];exact Ah ⟨rfl,h⟩
theorem zfg{a:Array Keyed}{o n i:Nat}(hz:o+n<=a.size):(a.extract o (o+n))[i]?=if i<n then a[o+i]? else none:=by
 rw[Array.getElem?_extract]
 by_cases h:i<n
 .rw[if_pos h,if_pos (by lia)]
 .rw[if_neg h,if_neg (by lia)]
theorem zhb{a:Array Keyed}{o n:Nat}(hz:o+n<=a.size)(h:Seg L a o n):(a.extract o (o+n)).toList.Pairwise (leOf L):=by
 rw[DG];intro i j hi hj hij;rw[AJ,Cp]at hi hj;have e1:(a.extract o (o+n))[i]?=some (a.extract o (o+n)).toList[i]:=by rw[<- Bt,Ab]
 have e2:(a.extract o (o+n))[j]?=some (a.extract o (o+n)).toList[j]:=by rw[<- Bt,Ab]
 rw[zfg hz,if_pos (by lia)]at e1 e2;exact h i j _ _ (by lia) (by lia) e1 e2
theorem zdf{a:Array Keyed}{o n:Nat}{x:Keyed}(hz:o+n<=a.size)(h:x∈(a.extract o (o+n)).toList):∃i,i<n/\a[o+i]?=some x:=by
 obtain⟨i,hi,e⟩:=AZ h;have e1:(a.extract o (o+n))[i]?=some x:=by rw[<- Bt,Ab hi,e]
 rw[AJ,Cp]at hi;refine⟨i,by lia,?_⟩;rw[zfg hz,if_pos (by lia)]at e1;exact e1
theorem SM.write(O:LtOk M A E s kd S L){st0 st:AM}{pd:Array (Nat × Nat × Nat)}{sa na nb k m:Nat}{r:Array Keyed}(hna : 1 <= na)(hk:k < na)(hm0 : 0 < m)(hm:m <= nb)(hz:sa + na + nb <= (Ay st0).size)(hS:∀(k:Nat) x, (Ay st0)[k]? = some x -> S x)
  (sA:Seg L (Ay st0) sa na) (sB:Seg L (Ay st0) (sa+na) nb) (y0 z0:Keyed) (hy0:(Ay st0)[sa+na]?=some y0) (hz0:(Ay st0)[sa+(na-1)]?=some z0)
  (A1:∀(i:Nat) x,i<k->(Ay st0)[sa+i]?=some x->L y0 x=false) (B2:∀(i:Nat) y,m<=i->i<nb->(Ay st0)[sa+na+i]?=some y->L y z0=false)
  (hr:Res (leOf L) ((Ay st0).extract (sa+k) (sa+k+(na-k))).toList ((Ay st0).extract (sa+na) (sa+na+m)).toList r.toList) (hkd:kindOf st=kd) (hp:AR st=pd) (hf:Cy st=none) (ha:Ay st=wr (Ay st0) (sa+k) r.toList 0) :
  SM kd S L st0 st pd sa (na+nb):=by
 obtain⟨hperm,hpair⟩:=hr
 have hrl:r.toList.length=(na-k)+m:=by rw[hperm.length_eq,Af,AJ,AJ,Cp,Cp];lia
 have hz2:sa+k+r.toList.length<=(Ay st0).size:=by lia
 have get':∀i:Nat,(Ay st)[i]?=if sa+k<=i/\i<sa+k+r.toList.length then r.toList[i-(sa+k)]? else (Ay st0)[i]?:=λi=>by rw[ha,zim _ _ _ _ _ (by lia)];simp only[Nat.add_zero]
 have rmem:∀x∈r.toList,(∃i,k<=i/\i<na/\(Ay st0)[sa+i]?=some x)∨(∃i,i<m/\(Ay st0)[sa+na+i]?=some x):=λx hx=>by
  rcases Ap.mp (hperm.mem_iff.mp hx) with q |q
  .obtain⟨i,hi,e⟩:=zdf (by lia) q;exact .inl ⟨k+i,by lia,by lia,by rw[show sa+(k+i)=sa+k+i by lia];exact e⟩
  .obtain⟨i,hi,e⟩:=zdf (by lia) q;exact .inr ⟨i,hi,e⟩
 have y0le:∀(i:Nat) y,i<nb->(Ay st0)[sa+na+i]?=some y->L y y0=false:=λi y hi hy=>sB 0 i y0 y (A6 _) hi (by simpa using hy0) hy
 have lez0:∀(i:Nat) x,i<na->(Ay st0)[sa+i]?=some x->L z0 x=false:=λi x hi hx=>sA i (na-1) x z0 (by lia) (by lia) hx hz0
 refine⟨hkd,hp,hf,?_,λi hi=>?_,λi x hx=>?_,λi j x y hij hj hx hy=>?_⟩
 .rw[ha];refine Array.perm_iff_toList_perm.mpr ?_
  rw[zlf hz2]
  have e:(Ay st0).toList=(Ay st0).toList.take (sa+k)++(((Ay st0).extract (sa+k) (sa+k+(na-k))).toList++((Ay st0).extract (sa+na) (sa+na+m)).toList)++(Ay st0).toList.drop (sa+k+r.toList.length):=by rw[zcv,zcv];have d1:=List.take_append_drop (sa+k) (Ay st0).toList;have d2:=zcz (Ay st0).toList (sa+k) (na-k);have d3:=zcz (Ay st0).toList (sa+na) m;rw[show sa+k+(na-k)=sa+na by lia]at d2;rw[show sa+k+r.toList.length=sa+na+m by lia,AA,AA,<- d3,<- d2,d1]
  conv=>rhs;rw[e]
  exact (hperm.append_left _).append_right _
 .rw[get',if_neg (by lia)]
 .rw[get']at hx;split at hx
  .rcases rmem x (Aw hx) with⟨_,_,_,e⟩ |⟨_,_,e⟩
   .exact hS _ _ e
   .exact hS _ _ e
  .exact hS _ _ hx
 .rw[get']at hx hy
  by_cases ci:sa+k<=sa+i/\sa+i<sa+k+r.toList.length
  .rw[if_pos ci]at hx
   by_cases cj:sa+k<=sa+j/\sa+j<sa+k+r.toList.length
   .rw[if_pos cj]at hy;rcases Bi i j with q |q
    .have h1:sa+i-(sa+k)<r.toList.length:=by lia
     have h2:sa+j-(sa+k)<r.toList.length:=by lia
     rw[Ab h1]at hx;rw[Ab h2]at hy;have:=List.pairwise_iff_getElem.mp hpair _ _ h1 h2 (by lia);rw[A9 hx,A9 hy]at this;exact this
    .have e:i=j:=by lia
     subst e;rw[hx]at hy;cases hy;rcases rmem x (Aw hx) with⟨_,_,_,e⟩ |⟨_,_,e⟩
     .exact O.rf (hS _ _ e)
     .exact O.rf (hS _ _ e)
   .rw[if_neg cj,show sa+j=sa+na+(j-na) by lia]at hy;have q1:=B2 (j-na) y (by lia) (by lia) hy;rcases rmem x (Aw hx) with⟨t,_,h2,e⟩ |⟨t,h2,e⟩
    .exact O.tr x z0 y (hS _ _ e) (hS _ _ hz0) (hS _ _ hy) (lez0 t x h2 e) q1
    .exact sB t (j-na) x y (by lia) (by lia) e hy
  .rw[if_neg ci]at hx
   by_cases cj:sa+k<=sa+j/\sa+j<sa+k+r.toList.length
   .rw[if_pos cj]at hy;rcases rmem y (Aw hy) with⟨t,h1,h2,e⟩ |⟨t,h2,e⟩
    .exact sA i t x y (by lia) h2 hx e
    .exact O.tr x y0 y (hS _ _ hx) (hS _ _ hy0) (hS _ _ e) (A1 i x (by lia) hx) (y0le t y (by lia) e)
   .rw[if_neg cj]at hy;rcases Bi i k with ck |ck
    .rcases Bi j k with cl |cl
     .exact sA i j x y hij (by lia) hx hy
     .rw[show sa+j=sa+na+(j-na) by lia]at hy;exact O.tr x y0 y (hS _ _ hx) (hS _ _ hy0) (hS _ _ hy) (A1 i x ck hx) (y0le (j-na) y (by lia) hy)
    .rw[show sa+i=sa+na+(i-na) by lia]at hx;rw[show sa+j=sa+na+(j-na) by lia]at hy;exact sB (i-na) (j-na) x y (by lia) (by lia) hx hy
theorem zfP (O : LtOk M A E s kd S L){st : AM}{i sa na pw nb pw2 : Nat}{Q : Bool → AM → Prop}(h1 : (AR st)[i]? = some (sa, na, pw)) (h2 : (AR st)[i + 1]? = some (sa + na, nb, pw2)) (hna : 1 ≤ na) (hnb : 1 ≤ nb) (hz : sa + na + nb ≤ (Ay st).size)
    (hk:kindOf st=kd) (hf:Cy st=none) (hS:∀ (k:Nat) x,(Ay st)[k]?=some x→S x) (sA:Seg L (Ay st) sa na) (sB:Seg L (Ay st) (sa+na) nb)
    (hQ:∀ st',SM kd S L st st' (((AR st).setIfInBounds i (sa,na+nb,pw)).eraseIdxIfInBounds (i+1)) sa (na+nb)→Q true st'):wpS M A E s (mergeAt' i) Q st:=by
  refine Am (DW ?_)
  rw[h1,h2]
  dsimp only
  refine Am (zlg ?_)
  obtain⟨y0,hy0⟩:=zbj (st:=st) (i:=sa+na) (by lia)
  obtain⟨z0,hz0⟩:=zbj (st:=st) (i:=sa+(na - 1)) (by lia)
  refine Am (zaC hy0 ?_)
  have Sy:=hS _ _ hy0
  refine Am (zbr O (left:=false) (b:=λi=>match (Ay st)[sa+i]? with | some x=>!L y0 x | none=>false) hk Sy (λi hi=>?_) (λi j hij hj hb=>?_) (by lia) (λk hkn kt kf=>?_))
  . obtain⟨x,hx⟩:=zbj (st:=st) (i:=sa+i) (by lia)
    refine⟨x,hx,hS _ _ hx,?_⟩
    simp only[hx]
    rfl
  . obtain⟨x,hx⟩:=zbj (st:=st) (i:=sa+i) (by lia)
    obtain⟨y,hy⟩:=zbj (st:=st) (i:=sa+j) (by lia)
    simp only[hx,hy] at hb ⊢
    have e1:=sA i j x y hij hj hx hy
    have e2:L y0 y=false:=by simpa using hb
    rw[O.tr x y y0 (hS _ _ hx) (hS _ _ hy) Sy e1 e2];rfl
  have A1:∀ (i:Nat) x,i<k→(Ay st)[sa+i]?=some x→L y0 x=false:=λi x hi hx=>by
    have:=kt i hi
    simp only[hx] at this
    simpa using this
  have A2:∀ (i:Nat) x,k≤i→i<na→(Ay st)[sa+i]?=some x→L y0 x=true:=λi x h3 h4 hx=>by
    have:=kf i h3 h4
    simp only[hx] at this
    simpa using this
  dsimp only
  by_cases hk0:(na - k == 0)=true
  . rw[if_pos hk0]
    have ek : k = na := by have : na - k = 0 := by simpa using hk0
                           lia
    refine Av (hQ _ ⟨hk,rfl,hf,Array.Perm.refl _,λ_ _=>rfl,hS,sA.glue O hS sB (λx y hx hy=>?_) (by lia) hz⟩)
    rw[hy0] at hy;cases hy
    exact A1 (na - 1) x (by lia) hx
  . rw[if_neg hk0]
    have hkl : k < na := by have : na - k ≠ 0 := by simpa using hk0
                            lia
    have hz0':(Ay st)[sa+k+(na - k) - 1]?=some z0:=by rw[show sa+k+(na - k) - 1=sa+(na - 1) by lia];exact hz0
    refine Am (zaC hz0' ?_)
    have Sz:=hS _ _ hz0
    refine Am (zbr O (left:=true) (b:=λi=>match (Ay st)[sa+na+i]? with | some x=>L x z0 | none=>false) hk Sz (λi hi=>?_) (λi j hij hj hb=>?_) (by lia) (λm hmn mt mf=>?_))
    . obtain⟨x,hx⟩:=zbj (st:=st) (i:=sa+na+i) (by lia)
      refine⟨x,hx,hS _ _ hx,?_⟩
      simp only[hx]
      rfl
    . obtain⟨x,hx⟩:=zbj (st:=st) (i:=sa+na+i) (by lia)
      obtain⟨y,hy⟩:=zbj (st:=st) (i:=sa+na+j) (by lia)
      simp only[hx,hy] at hb ⊢
      have e1:=sB i j x y hij hj hx hy
      cases q:L x z0 with
      | true=>rfl
      | false =>
        have:=O.tr z0 x y Sz (hS _ _ hx) (hS _ _ hy) q e1
        rw[hb] at this;cases this
    have B1:∀ (i:Nat) y,i<m→(Ay st)[sa+na+i]?=some y→L y z0=true:=λi y hi hy=>by
      have:=mt i hi
      simp only[hy] at this
      exact this
    have B2:∀ (i:Nat) y,m≤i→i<nb→(Ay st)[sa+na+i]?=some y→L y z0=false:=λi y h3 h4 hy=>by
      have:=mf i h3 h4
      simp only[hy] at this
      exact this
    dsimp only
    have y0z:L y0 z0=true:=A2 (na - 1) z0 (by lia) (by lia) hz0
    have hm0:0<m:=by
      rcases Nat.eq_zero_or_pos m with q | q
      . have:=B2 0 y0 (by lia) (by lia) (by simpa using hy0)
        rw[y0z] at this;cases this
      . exact q
    rw[if_neg (by simp;lia)]
    have exA:sa+na=sa+k+(na - k):=by lia
    have hX:((Ay st).extract (sa+k) (sa+na))=(Ay st).extract (sa+k) (sa+k+(na - k)):=by rw[← exA]
    have sA':Seg L (Ay st) (sa+k) (na - k):=λi j x y hij hj hx hy=>sA (k+i) (k+j) x y (by lia) (by lia) (by rw[show sa+(k+i)=sa+k+i by lia];exact hx) (by rw[show sa+(k+j)=sa+k+j by lia];exact hy)
    have sB':Seg L (Ay st) (sa+na) m:=λi j x y hij hj hx hy=>sB i j x y hij (by lia) hx hy
    have T:Two S L ((Ay st).extract (sa+k) (sa+k+(na - k))) ((Ay st).extract (sa+na) (sa+na+m)):=⟨zhb (by lia) sA',zhb (by lia) sB',(λx hx=>by obtain⟨i,_,e⟩:=zdf (by lia) hx;exact hS _ _ e),(λx hx=>by obtain⟨i,_,e⟩:=zdf (by lia) hx;exact hS _ _ e)⟩
    have zA:0<((Ay st).extract (sa+k) (sa+k+(na - k))).size:=by rw[Cp];lia
    have zB:0<((Ay st).extract (sa+na) (sa+na+m)).size:=by rw[Cp];lia
    have c0:∀ y,((Ay st).extract (sa+na) (sa+na+m))[0]?=some y→∀ x∈((Ay st).extract (sa+k) (sa+k+(na - k))).toList,leOf L y x:=λy hy x hx=>by
      rw[zfg (by lia),if_pos hm0] at hy
      rw[Nat.add_zero,hy0] at hy;cases hy
      obtain⟨i,hi,e⟩:=zdf (by lia) hx
      exact O.as y0 x Sy (hS _ _ e) (A2 (k+i) x (by lia) (by lia) (by rw[show sa+(k+i)=sa+k+i by lia];exact e))
    have c1:∀ z,((Ay st).extract (sa+k) (sa+k+(na - k)))[((Ay st).extract (sa+k) (sa+k+(na - k))).size - 1]?=some z→∀ x∈((Ay st).extract (sa+na) (sa+na+m)).toList,leOf L x z:=λz hz' x hx=>by
      have es:((Ay st).extract (sa+k) (sa+k+(na - k))).size=na - k:=by rw[Cp];lia
      rw[es,zfg (by lia),if_pos (by lia),show sa+k+(na - k - 1)=sa+(na - 1) by lia,hz0] at hz'
      cases hz'
      obtain⟨i,hi,e⟩:=zdf (by lia) hx
      exact O.as x z0 (hS _ _ e) Sz (B1 i x hi e)
    by_cases hle:na - k≤m
    . rw[if_pos hle]
      refine Am ?_
      show wpS M A E s (zfa ((Ay st).extract (sa+k) (sa+na)) ((Ay st).extract (sa+na) (sa+na+m))) _ _
      rw[hX]
      refine zfN O T hk zA zB c0 c1 λr st2 hr hlk=>?_
      refine Am (BU (Am (DW (Av ?_))))
      have hf2:Cy st2=none:=by rw[hlk.2.2.2];exact hf
      have:=hQ (setArr st2 (wr (Ay st) (sa+k) r.toList 0)) (SM.write O hna hkl hm0 hmn hz hS sA sB y0 z0 hy0 hz0 A1 B2 hr (by show kindOf st2=kd;rw[hlk.1];exact hk) (by show AR st2=_;rw[hlk.2.2.1]) hf2 rfl)
      have ea:Ay st2=Ay st:=hlk.2.1
      rw[← ea] at this
      show Q (Cy st2).isNone _
      rw[hf2]
      exact this
    . rw[if_neg hle]
      refine Am ?_
      show wpS M A E s (zfb ((Ay st).extract (sa+k) (sa+na)) ((Ay st).extract (sa+na) (sa+na+m))) _ _
      rw[hX]
      refine zfO O T hk zA zB c0 c1 λr st2 hr hlk=>?_
      refine Am (BU (Am (DW (Av ?_))))
      have hf2:Cy st2=none:=by rw[hlk.2.2.2];exact hf
      have:=hQ (setArr st2 (wr (Ay st) (sa+k) r.toList 0)) (SM.write O hna hkl hm0 hmn hz hS sA sB y0 z0 hy0 hz0 A1 B2 hr (by show kindOf st2=kd;rw[hlk.1];exact hk) (by show AR st2=_;rw[hlk.2.2.1]) hf2 rfl)
      have ea:Ay st2=Ay st:=hlk.2.1
      rw[← ea] at this
      show Q (Cy st2).isNone _
      rw[hf2]
      exact this
end
end TS
set_option maxHeartbeats 8000000
namespace TS
open PySem PyProof.Rows
noncomputable abbrev Run:=Nat×Nat×Nat
section
variable {M:Model}{A:AO}{E:Value->Ac->Prop}{s:Ac}{kd:CM}{S:Keyed->Prop}{L:Keyed->Keyed->Bool}
noncomputable def Runs(L:Keyed->Keyed->Bool)(a:Array Keyed):List Run->Nat->Nat->Prop
 |[],x,y=>x=y
 |r::l,x,y=>r.1=x/\1<=r.2.1/\Seg L a r.1 r.2.1/\Runs L a l (x+r.2.1) y
theorem Runs.le{a:Array Keyed}:∀{l:List Run}{x y:Nat},Runs L a l x y->x+l.length<=y
 |[],x,y,h=>by have:x=y:=h;simp;lia
 |r::l,x,y,h=>by
  have:=Runs.le h.2.2.2;have:=h.2.1;simp only[Be];lia
theorem Seg.cong{a b:Array Keyed}{lo n:Nat}(h:Seg L a lo n)(e:∀k:Nat,lo<=k->k<lo+n->b[k]?=a[k]?):Seg L b lo n:=λi j x y hij hj hx hy =>
 h i j x y hij hj (by rw[<- e _ (by lia) (by lia)];exact hx) (by rw[<- e _ (by lia) (by lia)];exact hy)
theorem Runs.cong{a b:Array Keyed}:∀{l:List Run}{x y:Nat},Runs L a l x y->(∀k:Nat,x<=k->k<y->b[k]?=a[k]?)->Runs L b l x y
 |[],_,_,h,_=>h
 |r::l,x,y,h,e=>by
  have hl:=h.2.2.2.le;have h1:=h.1;exact⟨h.1,h.2.1,h.2.2.1.cong λk h2 h3=>e k (by lia) (by lia),Runs.cong h.2.2.2 λk h2 h3=>e k (by lia) h3⟩
theorem Runs.snoc{a:Array Keyed}:∀{l:List Run}{x y n pw:Nat},Runs L a l x y->1<=n->Seg L a y n->Runs L a (l++[(y,n,pw)]) x (y+n)
 |[],x,y,n,pw,h,hn,hs=>by
  have:x=y:=h;subst this;exact⟨rfl,hn,hs,rfl⟩
 |r::l,x,y,n,pw,h,hn,hs=>⟨h.1,h.2.1,h.2.2.1,Runs.snoc h.2.2.2 hn hs⟩
theorem Runs.pair{a:Array Keyed} : ∀{l:List Run}{x y i sa na pw sb nb pw2:Nat}, Runs L a l x y -> l[i]? = some (sa, na, pw) -> l[i + 1]? = some (sb, nb, pw2) ->
  sb=sa+na/\1<=na/\1<=nb/\x<=sa/\sa+na+nb<=y/\Seg L a sa na/\Seg L a (sa+na) nb /\
  ∀b:Array Keyed,(∀k:Nat,k<sa∨sa+na+nb<=k->b[k]?=a[k]?)->Seg L b sa (na+nb)->Runs L b ((l.set i (sa,na+nb,pw)).eraseIdx (i+1)) x y
 |[],_,_,_,_,_,_,_,_,_,_,h1,_=>by simp at h1
 |[_],_,_,i,_,_,_,_,_,_,_,_,h2=>by simp at h2
 |r::q::l,x,y,0,sa,na,pw,sb,nb,pw2,h,h1,h2=>by
  have e1:r=(sa,na,pw):=A9 h1;have e2:q=(sb,nb,pw2):=A9 h2;subst e1;subst e2;obtain⟨a1,a2,a3,b1,b2,b3,hr⟩:=h;simp only at a1 a2 a3 b1 b2 b3 hr;subst a1;have hl:=hr.le;refine⟨b1,a2,b2,Aj _,by lia,a3,by rw[<- b1];exact b3,λb hb hs=>⟨rfl,by show 1<=na+nb;lia,hs,?_⟩⟩;show Runs L b l (sa+(na+nb)) y;rw[show sa+(na+nb)=sa+na+nb by lia];exact hr.cong λk h3 h4=>hb k (.inr h3)
 |r::q::l,x,y,i+1,sa,na,pw,sb,nb,pw2,h,h1,h2=>by
  obtain⟨a1,a2,a3,hr⟩:=h;obtain⟨c1,c2,c3,c4,c5,c6,c7,c8⟩:=Runs.pair hr (i:=i) (by simpa using h1) (by simpa using h2);refine⟨c1,c2,c3,by lia,c5,c6,c7,λb hb hs=>⟨a1,a2,a3.cong λk h3 h4=>hb k (.inl (by lia)),?_⟩⟩;exact c8 b hb hs
theorem Runs.power{a:Array Keyed}:∀{l:List Run}{x y:Nat}(f:Run->Run) (i:Nat),(∀r,(f r).1=r.1/\(f r).2.1=r.2.1)->Runs L a l x y->Runs L a (l.modify i f) x y
 |[],_,_,f,i,_,h=>by cases i <;> exact h
 |r::l,x,y,f,0,hf,h=>by
  refine⟨by rw[(hf r).1];exact h.1,by rw[(hf r).2];exact h.2.1,by rw[(hf r).1,(hf r).2];exact h.2.2.1,?_⟩;show Runs L a l (x+(f r).2.1) y;rw[(hf r).2];exact h.2.2.2
 |r::l,x,y,f,i+1,hf,h=>⟨h.1,h.2.1,h.2.2.1,Runs.power f i hf h.2.2.2⟩
structure PD (kd:CM) (S:Keyed->Prop) (L:Keyed->Keyed->Bool) (a0:Array Keyed) (st:AM) (lo:Nat):Prop where
 kind:kindOf st=kd
 fail:Cy st=none
 perm:(Ay st).Perm a0
 all:∀(k:Nat) x,(Ay st)[k]?=some x->S x
 runs:Runs L (Ay st) (AR st).toList 0 lo
theorem PD.size{a0:Array Keyed}{st:AM}{lo:Nat}(h:PD kd S L a0 st lo):(Ay st).size=a0.size:=h.perm.size_eq
theorem PD.merge(O:LtOk M A E s kd S L){a0:Array Keyed}{st:AM}{lo i:Nat}{Q:Bool -> AM -> Prop}(h:PD kd S L a0 st lo)(hlo:lo <= a0.size)(hi:i + 1 < (AR st).size)
  (hQ:∀st',PD kd S L a0 st' lo->(AR st').size+1=(AR st).size->(∀k:Nat,lo<=k->(Ay st')[k]?=(Ay st)[k]?)->Q true st'):wpS M A E s (mergeAt' i) Q st:=by
 obtain⟨⟨sa,na,pw⟩,h1⟩:∃r,(AR st)[i]?=some r:=⟨_,BZ (by lia)⟩;obtain⟨⟨sb,nb,pw2⟩,h2⟩:∃r,(AR st)[i+1]?=some r:=⟨_,BZ hi⟩;obtain⟨c1,c2,c3,c4,c5,c6,c7,c8⟩:=h.runs.pair (i:=i) (by rw[Bt];exact h1) (by rw[Bt];exact h2);subst c1;refine zfP O h1 h2 c2 c3 (by rw[h.size];lia) h.kind h.fail h.all c6 c7 λst' sm=>hQ st' ⟨sm.kind,sm.fail,sm.perm.trans h.perm,sm.all,?_⟩ ?_ λk hk=>sm.out k (by lia)
 .rw[sm.pend];have e:(((AR st).setIfInBounds i (sa,na+nb,pw)).eraseIdxIfInBounds (i+1)).toList=((AR st).toList.set i (sa,na+nb,pw)).eraseIdx (i+1):=by simp
  rw[e];exact c8 _ (λk hk=>sm.out k (by lia)) sm.seg
 .rw[sm.pend];have e:(((AR st).setIfInBounds i (sa,na+nb,pw)).eraseIdxIfInBounds (i+1)).toList=((AR st).toList.set i (sa,na+nb,pw)).eraseIdx (i+1):=by simp
  have e2:=congrArg List.length e;rw[List.length_eraseIdx_of_lt (by rw[List.length_set,AJ];exact hi),List.length_set,AJ,AJ]at e2;lia
theorem sortRuns_spec(O:LtOk M A E s kd S L){st:AM}{Q:Unit -> AM -> Prop}(h2 : 2 <= (Ay st).size)(hk:kindOf st=kd)(hp:AR st = #[])(hf:Cy st=none)(hS:∀(k:Nat) x, (Ay st)[k]? = some x -> S x)
  (hQ:∀st',(Ay st').Perm (Ay st)->Cy st'=none->Seg L (Ay st') 0 (Ay st).size->Q () st'):wpS M A E s sortRuns' Q st:=by
 rw[sortRuns'_eq];refine Am (DW ?_);dsimp only;have pd0:PD kd S L (Ay st) st 0:=⟨hk,hf,Array.Perm.refl _,hS,by rw[hp];rfl⟩;generalize ha0:Ay st=a0 at h2 pd0 hQ
 refine Am (Ck (By (I:=λx c st'=>∃lo,c=(none,lo)/\(x<=lo∨a0.size<=lo)/\lo<=a0.size/\PD kd S L a0 st' lo)
  (Q:=λc st'=>c=(none,a0.size)/\PD kd S L a0 st' a0.size) ?step ?fin ⟨0,rfl,.inl (Aj _),A6 _,pd0⟩) ?post)
 case fin =>
  rintro c st' ⟨lo,rfl,h3,h4,pd⟩;have:lo=a0.size:=by lia
  subst this;exact⟨rfl,pd⟩
 case step =>
  rintro x c st' _ hx ⟨lo,rfl,h3,h4,pd⟩;dsimp only
  by_cases hge:lo ≥ a0.size
  .rw[if_pos hge];have:lo=a0.size:=by lia
   subst this;exact Av ⟨rfl,pd⟩
  .rw[if_neg hge];refine Am (zfl O (by lia) (by rw[pd.size];lia) pd.kind pd.all λm st1 sb1 hm1 hm2 sg1=>?_);dsimp only;have pd1:PD kd S L a0 st1 lo:=⟨sb1.kind,by rw[sb1.fail];exact pd.fail,sb1.perm.trans pd.perm,sb1.all,by rw[sb1.pend];exact pd.runs.cong λk _ h5=>sb1.out k (.inl h5)⟩
   by_cases hlt:m<minRun' a0.size a0.size 0
   .rw[if_pos hlt];refine Am (wpS_lift (Dc ⟨rfl,?_⟩));refine Am (zd5 O hm1 (by lia) (by rw[pd1.size];lia) pd1.kind pd1.all sg1 λst2 sb2 sg2=>?_)
    try dsimp only
    rw[if_neg (by decide)];have pdX:PD kd S L a0 st2 lo:=⟨sb2.kind,by rw[sb2.fail];exact pd1.fail,sb2.perm.trans pd1.perm,sb2.all,by rw[sb2.pend];exact pd1.runs.cong λk _ h5=>sb2.out k (.inl h5)⟩;have sgX:=sg2;refine Am (DW ?_)
    cases hb:(AR st2).back? with
    |none =>
     try dsimp only
     refine Am (BU (Av ⟨lo+min (a0.size-lo) (minRun' a0.size a0.size 0),rfl,.inl (by lia),by lia,?_⟩));refine⟨pdX.kind,pdX.fail,pdX.perm,pdX.all,?_⟩;show Runs L (Ay st2) ((AR st2).push (lo,min (a0.size-lo) (minRun' a0.size a0.size 0),0)).toList 0 (lo+min (a0.size-lo) (minRun' a0.size a0.size 0));rw[CY];exact pdX.runs.snoc (by lia) sgX
    |some r =>
     obtain⟨s1,n1,p1⟩:=r
     try dsimp only
     refine Am (Ck (By (I:=λy c st3=>c=(none,())/\PD kd S L a0 st3 lo/\Seg L (Ay st3) lo (min (a0.size-lo) (minRun' a0.size a0.size 0))) (Q:=λc st3=>c=(none,())/\PD kd S L a0 st3 lo/\Seg L (Ay st3) lo (min (a0.size-lo) (minRun' a0.size a0.size 0))) ?stepI ?finI ⟨rfl,pdX,sgX⟩) ?postI)
     case finI =>
      rintro c st3 hh;exact hh
     case stepI =>
      rintro y c st3 _ _ ⟨rfl,pd3,sg3⟩;refine Am (DW ?_)
      by_cases hsz:(AR st3).size > 1
      .rw[if_pos hsz];obtain⟨⟨u1,u2,older⟩,hu⟩:∃r,(AR st3)[(AR st3).size-2]?=some r:=⟨_,BZ (by lia)⟩;rw[hu]
       try dsimp only
       by_cases hol:older<=power' a0.size (2*s1+n1) (2*s1+n1+n1+min (a0.size-lo) (minRun' a0.size a0.size 0)) a0.size
       .rw[if_pos hol];exact Av ⟨rfl,pd3,sg3⟩
       .rw[if_neg hol];refine Am (pd3.merge O (by lia) (by lia) λst4 pd4 _ ho=>?_)
        try dsimp only
        rw[if_neg (by decide)];exact Av ⟨rfl,pd4,sg3.cong λk h5 _=>ho k h5⟩
      .rw[if_neg hsz];exact Av ⟨rfl,pd3,sg3⟩
     case postI =>
      rintro c st3 ⟨rfl,pd3,sg3⟩
      try dsimp only
      refine Am (BU (Am (BU (Av ⟨lo+min (a0.size-lo) (minRun' a0.size a0.size 0),rfl,.inl (by lia),by lia,?_⟩))));refine⟨pd3.kind,pd3.fail,pd3.perm,pd3.all,?_⟩;show Runs L (Ay st3) (((AR st3).modify ((AR st3).size-1) _).push (lo,min (a0.size-lo) (minRun' a0.size a0.size 0),0)).toList 0 (lo+min (a0.size-lo) (minRun' a0.size a0.size 0));rw[CY,Array.toList_modify];refine Runs.snoc (Runs.power _ _ ?_ pd3.runs) (by lia) sg3;exact λr=>⟨rfl,rfl⟩
   .rw[if_neg hlt];have pdX:=pd1;have sgX:=sg1;refine Am (DW ?_)
    cases hb:(AR st1).back? with
    |none =>
     try dsimp only
     refine Am (BU (Av ⟨lo+m,rfl,.inl (by lia),by lia,?_⟩));refine⟨pdX.kind,pdX.fail,pdX.perm,pdX.all,?_⟩;show Runs L (Ay st1) ((AR st1).push (lo,m,0)).toList 0 (lo+m);rw[CY];exact pdX.runs.snoc (by lia) sgX
    |some r =>
     obtain⟨s1,n1,p1⟩:=r
     try dsimp only
     refine Am (Ck (By (I:=λy c st3=>c=(none,())/\PD kd S L a0 st3 lo/\Seg L (Ay st3) lo (m)) (Q:=λc st3=>c=(none,())/\PD kd S L a0 st3 lo/\Seg L (Ay st3) lo (m)) ?stepI ?finI ⟨rfl,pdX,sgX⟩) ?postI)
     case finI =>
      rintro c st3 hh;exact hh
     case stepI =>
      rintro y c st3 _ _ ⟨rfl,pd3,sg3⟩;refine Am (DW ?_)
      by_cases hsz:(AR st3).size > 1
      .rw[if_pos hsz];obtain⟨⟨u1,u2,older⟩,hu⟩:∃r,(AR st3)[(AR st3).size-2]?=some r:=⟨_,BZ (by lia)⟩;rw[hu]
       try dsimp only
       by_cases hol:older<=power' a0.size (2*s1+n1) (2*s1+n1+n1+m) a0.size
       .rw[if_pos hol];exact Av ⟨rfl,pd3,sg3⟩
       .rw[if_neg hol];refine Am (pd3.merge O (by lia) (by lia) λst4 pd4 _ ho=>?_)
        try dsimp only
        rw[if_neg (by decide)];exact Av ⟨rfl,pd4,sg3.cong λk h5 _=>ho k h5⟩
      .rw[if_neg hsz];exact Av ⟨rfl,pd3,sg3⟩
     case postI =>
      rintro c st3 ⟨rfl,pd3,sg3⟩
      try dsimp only
      refine Am (BU (Am (BU (Av ⟨lo+m,rfl,.inl (by lia),by lia,?_⟩))));refine⟨pd3.kind,pd3.fail,pd3.perm,pd3.all,?_⟩;show Runs L (Ay st3) (((AR st3).modify ((AR st3).size-1) _).push (lo,m,0)).toList 0 (lo+m);rw[CY,Array.toList_modify];refine Runs.snoc (Runs.power _ _ ?_ pd3.runs) (by lia) sg3;exact λr=>⟨rfl,rfl⟩
 case post =>
  rintro c st1 ⟨rfl,pd1⟩
  try dsimp only
  have hlen:(AR st1).size<=a0.size:=by have:=pd1.runs.le;rw[AJ]at this;lia
  refine Am (Ck (By (I:=λx c st2=>c=(none,())/\PD kd S L a0 st2 a0.size/\((AR st2).size+x<=a0.size+1))
   (Q:=λc st2=>c=(none,())/\PD kd S L a0 st2 a0.size/\(AR st2).size<=1) ?step ?fin ⟨rfl,pd1,by lia⟩) ?post)
  case fin =>
   rintro c st2 ⟨rfl,pd2,h5⟩;exact⟨rfl,pd2,by lia⟩
  case step =>
   rintro x c st2 _ hx ⟨rfl,pd2,h5⟩;refine Am (DW ?_)
   try dsimp only
   by_cases hle:(AR st2).size<=1
   .rw[if_pos hle];exact Av ⟨rfl,pd2,hle⟩
   .rw[if_neg hle];refine Am (pd2.merge O (Aj _) ?_ λst3 pd3 hs3 _=>?_)
    .have le':∀(c:Prop) [Decidable c] (p q:Nat),(if c then p else q)<=max p q:=λc _ p q=>by split <;> lia
     have:=le' (Option.any (λx=>decide (x<(AR st2)[(AR st2).size-2+1]?.elim 0 λx=>x.snd.fst)) (if (AR st2).size-2 > 0 then Option.map (λx=>x.snd.fst) (AR st2)[(AR st2).size-2-1]? else none)=true) ((AR st2).size-2-1) ((AR st2).size-2);lia
    .try dsimp only
     rw[if_neg (by decide)];exact Av ⟨rfl,pd3,by lia⟩
  case post =>
   rintro c st2 ⟨rfl,pd2,h5⟩;refine Av (hQ st2 pd2.perm pd2.fail ?_);have hr:=pd2.runs
   cases hl:(AR st2).toList with
   |nil =>
    rw[hl]at hr;have:0=a0.size:=hr;lia
   |cons r l =>
    have hll:(AR st2).toList.length<=1:=by rw[AJ];exact h5
    rw[hl]at hll hr;have:l=[]:=List.length_eq_zero_iff.mp (by simp at hll;simpa using hll);subst this;obtain⟨c1,c2,c3,c4⟩:=hr;have c4':0+r.2.1=a0.size:=c4;rw[c1,show r.2.1=a0.size by lia]at c3;exact c3
end
end TS
namespace L2
open PySem PySem.Spec PyProof.Rows
theorem zfF{α β:Type}{f:α->β}{xs ys:List β}(p:ys.Perm xs):∀{l:List α},xs=l.map f->∃l':List α,l'.Perm l/\ys=l'.map f:=by
 induction p with
 |nil=>intro l h;exact⟨l,List.Perm.refl _,h⟩
 |cons v _ ih =>
  intro l h
  match l,h with
  |x::l,h =>
   injection h with h1 h2;obtain⟨l',p',e⟩:=ih h2;exact⟨x::l',p'.cons x,by rw[e,h1];rfl⟩
 |swap a b r =>
  intro l h
  match l,h with
  |x::y::l,h =>
   injection h with h1 h2;injection h2 with h2 h3;exact⟨y::x::l,List.Perm.swap _ _ _,by rw[h1,h2,h3];rfl⟩
 |trans _ _ ih1 ih2 =>
  intro l h;obtain⟨l1,p1,h1⟩:=ih2 h;obtain⟨l2,p2,h2⟩:=ih1 h1;exact⟨l2,p2.trans p1,h2⟩
section
variable {X:Cx}{pins:List (Addr×Obj)}{σ:St}{H:Hp}{s:Ac}{D st:Addr}{e:Nat}{κV:Nat->List V}{ks:List Addr}{E:Value->Ac->Prop}
noncomputable def Ordd(κ:Nat->List Int)(n:Nat)(p:Array Nat):Prop:=RK.Pm n p/\p.toList.Pairwise λi j=>HT.lexLt (κ j) (κ i)=false
noncomputable def zfS(κ:Nat->List Int)(ks:List Addr):Value->List Int
 |.ref a=>κ (ks.idxOf a)
 |_=>[]
theorem zlS{vs:List Value}{κ : Nat -> List Int}(K:SK X pins σ H s D st e κV ks)(hl:ks.length=vs.length)(h2 : 2 <= vs.length)
  (hcol:∀i j,i<ks.length->j<ks.length->∃n m r q rn rm,κV i=.int n::r/\κV j=.int m::q/\VCols r q rn rm/\κ i=n::rn/\κ j=m::rm) :
  zhM X (Ordd κ vs.length) (ks.map Ao) vs E s:=by
 unfold zhM
 obtain⟨fs,kt,hfl,hfi⟩:=zjq (as:=[]) (vs:=[]) K.inv (ks:=ks) (ns:=(BD ks.length).map λi=>((κ i).headD 0)) (λi a ha=>by
  have hi:i<ks.length:=(Ad.mp ha).1;obtain⟨n,m,r,q,rn,rm,e1,_,_,e2,_⟩:=hcol i i hi hi;refine⟨n,r,?_,?_⟩
  .rw[A7,List.getElem?_range hi,DT,e2];rfl
  .rw[<- e1];exact K.hk i a ha) (by simp)
 refine W.kat_kind (T:=.type "int") kt (by lia) (λv hv=>?_) rfl ⟨rfl,?_⟩
 .obtain⟨n,t,rfl⟩:=hfi v hv;exact .now
 have hl':(ks.map Ao).length=vs.length:=by simp[hl]
 have hsz0:((ks.map Ao).toArray.zip vs.toArray).size=vs.length:=by simp[hl]
 generalize hZ:(ks.map Ao).toArray.zip vs.toArray=Z at hsz0;have hsz:Z.size=vs.length:=hsz0
 have kap:∀i (hi:i<ks.length),zfS κ ks (Ao ks[i])=κ i:=λi hi=>by
  have hj:ks.idxOf ks[i]<ks.length:=List.idxOf_lt_length_iff.mpr (BE hi);have ej:ks[ks.idxOf ks[i]]=ks[i]:=List.getElem_idxOf hj;obtain⟨n,m,r,q,rn,rm,e1,e2,vc,e3,e4⟩:=hcol (ks.idxOf ks[i]) i hj hi;have k1:=K.hk (ks.idxOf ks[i]) ks[i] (by rw[Ab hj,ej]);have k2:=K.hk i ks[i] (Ab hi);have eq:=K.inv.tuple_inj k1 k2;show κ (ks.idxOf ks[i])=κ i;rw[e1,e2]at eq;injection eq with q1 q2;injection q1 with q1;subst q1;subst q2;rw[e3,e4]
  congr 1
  have same:∀{xs:List V} {as bs:List Int},VCols xs xs as bs->as=bs:=λ{xs}=>by
   induction xs with
   |nil=>intro as bs h;cases h;rfl
   |cons x xs ih =>
    intro as bs h
    cases h with
    |cons c h=>cases c <;> rw[ih h]
  exact same vc
 have itm:∀i,i<vs.length->Dx Z i=(Ao (ks.getD i 0),vs.getD i Bk):=λi hi=>by
  rw[<- hZ,W.kat_item hl'];have:(ks.map Ao).getD i Bk=Ao (ks.getD i 0):=by simp[show i<ks.length by lia]
  rw[this]
 have O:TS.LtOk (Az X.prog X.w) X.A.in1.in1 E s (tuples' true) (λx=>∃i,i<ks.length/\x.1=Ao (ks.getD i 0)) (λx y=>HT.lexLt (zfS κ ks x.1) (zfS κ ks y.1)):=by
  refine⟨λx y hx hy st' Q hk q=>?_,λx y z _ _ _ h1 h2=>?_,λx y _ _ h=>HT.lexLt_asym h⟩
  .obtain⟨i,hi,ex⟩:=hx;obtain⟨j,hj,ey⟩:=hy;have gi:ks.getD i 0=ks[i]:=by simp[hi]
   have gj:ks.getD j 0=ks[j]:=by simp[hj]
   rw[gi]at ex;rw[gj]at ey;rw[ex,ey,kap i hi,kap j hj]at q;rw[lt'_eq];refine Am (DW ?_);rw[hk,ex,ey];obtain⟨n,m,r,q',rn,rm,e1,e2,vc,e3,e4⟩:=hcol i j hi hj;have k1:=K.hk i ks[i] (Ab hi);have k2:=K.hk j ks[j] (Ab hj);rw[e1]at k1;rw[e2]at k2;obtain⟨its,rv,⟨o,ho,hcl,c,hd⟩,_⟩:=K.inv.tuple k1;obtain⟨its2,rv2,⟨o2,ho2,hcl2,c2,hd2⟩,_⟩:=K.inv.tuple k2;refine Am (wpS_lift (wpAny_attempt (W.kat_lt ho hd ho2 hd2 ?_)))
   cases rv with
   |cons rx rr =>
    cases rv2 with
    |cons rx2 rr2 =>
     obtain⟨t1,rfl⟩:=rx;obtain⟨t2,rfl⟩:=rx2;have cs:=vc.vals rr rr2
     have hlen:∀{us vs:List Value} {as bs:List Int},RK.Cols us vs as bs->us.length=vs.length:=λc=>by induction c with
      |nil=>rfl
      |cons _ _ ih=>simp[ih]
     simp only[As,Be,hlen cs,Ca,decide_false];refine RK.kat_cols0 cs ?_
     rw[e3,e4]at q;exact⟨rfl,Av q⟩
  .cases q:HT.lexLt (zfS κ ks z.1) (zfS κ ks x.1) with
   |false=>rfl
   |true =>
    have:=HT.lexLt_of_not_lt_lt h2 q;rw[h1]at this;cases this
 have run:=TS.sortRuns_spec O (st:=SortSt.mk' (tuples' true) Z #[] 7 none) (Q:=λ_ st'=>Cy st'=none/\∃p:Array Nat,Ordd κ vs.length p/\p.size=vs.length/\Ay st'=p.map (Dx Z))
  (by show 2<=Z.size;lia) rfl rfl rfl (λk x hx=>?_) (λst' hp hf hs=>?_)
 .exact Bv run (λr s' h=>⟨h.1,h.2⟩) λ_ _ z=>z
 .have hk':k<vs.length:=by rw[<- hsz];exact (Bb.mp hx).1
  have hx':Z[k]?=some x:=hx
  have e1:Dx Z k=x:=by unfold Dx;rw[Array.getD_eq_getD_getElem?,hx'];rfl
  rw[itm k hk']at e1;exact⟨k,by lia,by rw[<- e1]⟩
 .refine⟨hf,?_⟩;have hp':(Ay st').Perm Z:=hp;have hrng:=W.kas_range Z;rw[hsz]at hrng;obtain⟨l,pl,el⟩:=zfF (Array.perm_iff_toList_perm.mp hp') (l:=BD vs.length) (f:=Dx Z) (by have:=congrArg Array.toList hrng;simpa using this.symm);have hll:l.length=vs.length:=by rw[pl.length_eq,C0]
  refine⟨l.toArray,⟨?_,?_⟩,by simpa using hll,?_⟩
  .exact Array.perm_iff_toList_perm.mpr (by simpa using pl)
  .rw[DG];intro i j hi hj hij;have hi':i<l.length:=by simpa using hi
   have hj':j<l.length:=by simpa using hj
   have ai:(Ay st')[i]?=some (Dx Z l[i]):=by rw[<- Bt,el,A7,Ab hi'];rfl
   have aj:(Ay st')[j]?=some (Dx Z l[j]):=by rw[<- Bt,el,A7,Ab hj'];rfl
   have li:l[i]<vs.length:=D5.mp (pl.mem_iff.mp (BE hi'));have lj:l[j]<vs.length:=D5.mp (pl.mem_iff.mp (BE hj'));have:=hs i j _ _ (by lia) (by show j<Z.size;lia) (by rw[Nat.zero_add];exact ai) (by rw[Nat.zero_add];exact aj);rw[itm _ li,itm _ lj]at this;have g1:ks.getD l[i] 0=ks[l[i]]'(by lia):=by simp[show l[i]<ks.length by lia]
   have g2:ks.getD l[j] 0=ks[l[j]]'(by lia):=by simp[show l[j]<ks.length by lia]
   simp only[g1,g2]at this;rw[kap _ (by lia),kap _ (by lia)]at this;simpa using this
  .apply Array.toList_inj.mp
   rw[el];simp
end
section
variable {X:Cx}{x:Str}{p pos kp kpos:Pos}{e:Expr}{te:TE}{k:Nat}{f:Addr}{fd:BC}{ps:List Str}{sp:Sp}{fn:Str}
end
section
variable {prog:AF}{w:A5}{A:AO}{R:Result->Ac->Prop}{s:Ac}
end
section
variable {X:Cx}{osc:Scope}{N:List Str}{sc:Scope}{N':List Str}{sel:List (Option Nat)}{pos:Pos}{elt kx vx tg iter tg2 iter2:Expr}{ifs ifs2:List Expr}{wi wi2:TI}{g g2:TG}{tt tt2:TT}{te tk tv:TE}
end
end L2
namespace RP
noncomputable def mv(i:Nat):Int×Int:=([(1,0),(1,1),(0,1),(-1,1),(-1,0),(-1,-1),(0,-1),(1,-1)]:List (Int×Int)).getD i (0,0)
noncomputable abbrev Cell:=Int×Int
noncomputable def go(c:Cell)(i:Nat):Cell:=(c.1+(mv i).1,c.2+(mv i).2)
structure Edge where
 c:Cell
 w:Nat
 deriving DecidableEq
noncomputable def gap(e:Edge):Cell:=go e.c ((2*e.w+6) % 8)
noncomputable def stepB(C:Cell->Bool)(e:Edge):Option Nat :=
 if C (go e.c ((2*e.w+7) % 8))=true then some ((2*e.w+7) % 8) else if C (go e.c (2*e.w))=true then some (2*e.w) else none
noncomputable def slant:Option Nat->Bool
 |none=>false
 |some s=>s % 2 == 1
noncomputable def edgeB(e:Edge):Option Nat->Edge
 |none=>⟨e.c,(e.w+1) % 4⟩
 |some s=>if s % 2=1 then ⟨go e.c s,(e.w+3) % 4⟩ else ⟨go e.c s,e.w⟩
noncomputable def nxt(C:Cell->Bool)(e:Edge):Edge:=edgeB e (stepB C e)
noncomputable def IsE(C:Cell->Bool)(e:Edge):Prop:=e.w<4/\C e.c=true/\C (gap e)=false
noncomputable def prv(C:Cell->Bool)(f:Edge):Edge :=
 if C (go f.c ((2*f.w+5) % 8))=true then ⟨go f.c ((2*f.w+5) % 8),(f.w+1) % 4⟩
 else if C (go f.c ((2*f.w+4) % 8))=true then ⟨go f.c ((2*f.w+4) % 8),f.w⟩ else ⟨f.c,(f.w+3) % 4⟩
theorem way4{w:Nat}(h:w<4):w=0∨w=1∨w=2∨w=3:=by lia
noncomputable def mvAdd(a b d:Nat):Bool:=(mv a).1+(mv b).1 == (mv d).1 && (mv a).2+(mv b).2 == (mv d).2
noncomputable def mvNil(a b:Nat):Bool:=(mv a).1+(mv b).1 == 0 && (mv a).2+(mv b).2 == 0
theorem go_go{c:Cell}{a b d:Nat}(h:mvAdd a b d=true):go (go c a) b=go c d:=by unfold mvAdd at h;simp only[A3,beq_iff_eq]at h;unfold go;exact Prod.ext (by show c.1+(mv a).1+(mv b).1=c.1+(mv d).1;lia) (by show c.2+(mv a).2+(mv b).2=c.2+(mv d).2;lia)
theorem zjw{c:Cell}{a b:Nat}(h:mvNil a b=true):go (go c a) b=c:=by unfold mvNil at h;simp only[A3,beq_iff_eq]at h;unfold go;exact Prod.ext (by show c.1+(mv a).1+(mv b).1=c.1;lia) (by show c.2+(mv a).2+(mv b).2=c.2;lia)
theorem f1:∀w<4,mvAdd ((2*w+7) % 8) ((2*((w+3) % 4)+6) % 8) ((2*w+6) % 8)=true:=by decide
theorem f2:∀w<4,mvAdd (2*w) ((2*w+6) % 8) ((2*w+7) % 8)=true:=by decide
theorem f3:∀w<4,(2*((w+1) % 4)+6) % 8=2*w:=by decide
theorem f4:∀w<4,mvNil ((2*w+7) % 8) ((2*((w+3) % 4)+5) % 8)=true:=by decide
theorem f5:∀w<4,mvAdd (2*w) ((2*w+5) % 8) ((2*w+6) % 8)=true:=by decide
theorem f6:∀w<4,mvNil (2*w) ((2*w+4) % 8)=true:=by decide
theorem f7:∀w<4,(2*((w+1) % 4)+5) % 8=(2*w+7) % 8:=by decide
theorem f8:∀w<4,(2*((w+1) % 4)+4) % 8=(2*w+6) % 8:=by decide
theorem odd7(w:Nat):(2*w+7) % 8 % 2=1:=by lia
theorem zcV{C:Cell -> Bool}{e:Edge}(h:IsE C e) :
  (C (go e.c ((2*e.w+7) % 8))=true/\stepB C e=some ((2*e.w+7) % 8)/\nxt C e=⟨go e.c ((2*e.w+7) % 8),(e.w+3) % 4⟩) ∨
  (C (go e.c ((2*e.w+7) % 8))=false/\C (go e.c (2*e.w))=true/\stepB C e=some (2*e.w)/\nxt C e=⟨go e.c (2*e.w),e.w⟩) ∨
  (C (go e.c ((2*e.w+7) % 8))=false/\C (go e.c (2*e.w))=false/\stepB C e=none/\nxt C e=⟨e.c,(e.w+1) % 4⟩):=by
 unfold nxt stepB
 by_cases h1:C (go e.c ((2*e.w+7) % 8))=true
 .left;rw[if_pos h1];exact⟨h1,rfl,by simp only[edgeB];rw[if_pos (odd7 _)]⟩
 .right;have h1':C (go e.c ((2*e.w+7) % 8))=false:=by simpa using h1
  rw[if_neg h1]
  by_cases h2:C (go e.c (2*e.w))=true
  .left;rw[if_pos h2];exact⟨h1',h2,rfl,by simp only[edgeB];rw[if_neg (by lia)]⟩
  .right;rw[if_neg h2];exact⟨h1',by simpa using h2,rfl,rfl⟩
theorem zk2{C:Cell->Bool}{e:Edge}(h:IsE C e):IsE C (nxt C e):=by
 obtain⟨hw,hc,hg⟩:=id h;rcases zcV h with⟨h1,_,q⟩ |⟨h1,h2,_,q⟩ |⟨h1,h2,_,q⟩ <;> rw[q]
 .refine⟨B4 _ (by decide),h1,?_⟩;unfold gap;rw[go_go (f1 _ hw)];exact hg
 .refine⟨hw,h2,?_⟩;unfold gap;rw[go_go (f2 _ hw)];exact h1
 .refine⟨B4 _ (by decide),hc,?_⟩;unfold gap;simp only;rw[f3 _ hw];exact h2
theorem zi1{C:Cell->Bool}{e:Edge}(h:IsE C e):prv C (nxt C e)=e:=by
 obtain⟨hw,hc,hg⟩:=id h;unfold gap at hg;rcases zcV h with⟨h1,_,q⟩ |⟨h1,h2,_,q⟩ |⟨h1,h2,_,q⟩ <;> rw[q] <;> unfold prv <;> simp only
 .rw[zjw (f4 _ hw),if_pos hc];rw[show ((e.w+3) % 4+1) % 4=e.w by lia]
 .rw[go_go (f5 _ hw),hg,if_neg (by decide),zjw (f6 _ hw),if_pos hc]
 .rw[f7 _ hw,h1,if_neg (by decide),f8 _ hw,hg,if_neg (by decide)];rw[show ((e.w+1) % 4+3) % 4=e.w by lia]
theorem zgG{C:Cell->Bool}{e f:Edge}(he:IsE C e)(hf:IsE C f)(h:nxt C e=nxt C f):e=f:=by rw[<- zi1 he,<- zi1 hf,h]
noncomputable def Chain(C:Cell->Bool)(b:Edge)(es:List Edge):Prop:=es[0]?=some b/\(∀i e f,es[i]?=some e->es[i+1]?=some f->f=nxt C e)/\(∀e∈es,IsE C e)/\es.Nodup
theorem Chain.start{C:Cell->Bool}{b:Edge}(h:IsE C b):Chain C b [b] :=
 ⟨rfl,λi e f _ h2=>by simp at h2,λe he=>by rw[Ak.mp he];exact h,by simp⟩
theorem Chain.more{C:Cell->Bool}{b l:Edge}{es:List Edge}(h:Chain C b (es++[l]))(hn:nxt C l≠b):Chain C b ((es++[l])++[nxt C l]):=by
 obtain⟨h0,hs,hE,hnd⟩:=h;have hl:(es++[l])[es.length]?=some l:=by simp
 have lE:=hE l (by simp);refine⟨?_,λi e f h1 h2=>?_,λe he=>?_,?_⟩
 .rw[AK (by simp)];exact h0
 .rcases Bi (i+1) (es++[l]).length with hi |hi
  .rw[AK (by lia)]at h1;rw[AK hi]at h2;exact hs i e f h1 h2
  .have hi2:=(Ad.mp h2).1;simp at hi2 hi;have hi3:i=es.length:=by lia
   subst hi3;rw[AK (by simp)]at h1;rw[hl]at h1
   cases h1
   rw[AW (by simp)]at h2;simp at h2;exact h2.symm
 .rcases Ap.mp he with he |he
  .exact hE e he
  .rw[Ak.mp he];exact zk2 lE
 .rw[List.nodup_append];refine⟨hnd,by simp,λx hx y hy=>?_⟩;rw[Ak.mp hy];intro e;subst e;obtain⟨i,hi,ei⟩:=AZ hx;rcases Nat.eq_zero_or_pos i with rfl |hp
  .rw[Ab hi,ei]at h0;exact hn (A9 h0)
  .have hi':i-1<(es++[l]).length:=by lia
   have e1:=hs (i-1) ((es++[l])[i-1]) (nxt C l) (Ab hi') (by rw[show i-1+1=i by lia,Ab hi,ei]);have e2:=zgG lE (hE _ (BE hi')) e1;have e3:es.length=i-1:=(List.getElem?_inj (by simp) hnd).mp (by rw[hl,Ab hi',<- e2]);simp at hi;lia
theorem za1{α:Type} [DecidableEq α]:∀{a b:List α},a.Nodup->(∀x∈a,x∈b)->a.length<=b.length
 |[],_,_,_=>A6 _
 |x::a,b,hn,hs=>by
  have hx:x∈b:=hs x AQ
  have h1:=za1 (a:=a) (b:=b.erase x) (CU.mp hn).2 (λy hy=>by refine (List.mem_erase_of_ne ?_).mpr (hs y (AI _ hy));intro e;subst e;exact (CU.mp hn).1 hy)
  rw[List.length_erase_of_mem hx]at h1;have:0<b.length:=CJ hx;simp only[Be];lia
noncomputable def sides(cs:List Cell):List Edge:=cs.flatMap λc=>(BD 4).map λw=>⟨c,w⟩
theorem zce(cs:List Cell):(sides cs).length=4*cs.length:=by
 unfold sides
 induction cs with
 |nil=>rfl
 |cons c r ih=>rw[List.flatMap_cons,Af,ih];simp;lia
theorem zdU{cs:List Cell}{e:Edge}:e∈sides cs ↔ e.c∈cs/\e.w<4:=by
 unfold sides;rw[List.mem_flatMap];constructor
 .rintro⟨c,hc,h⟩;obtain⟨w,hw,rfl⟩:=Bd.mp h;exact⟨hc,D5.mp hw⟩
 .rintro⟨hc,hw⟩;exact⟨e.c,hc,Bd.mpr ⟨e.w,List.mem_range.mpr hw,rfl⟩⟩
noncomputable def isIn(cs:List Cell)(c:Cell):Bool:=decide (c∈cs)
theorem Chain.short{cs:List Cell}{b:Edge}{es:List Edge}(h:Chain (isIn cs) b es):es.length<=4*cs.length:=by rw[<- zce];exact za1 h.2.2.2 λe he=>zdU.mpr ⟨of_decide_eq_true (h.2.2.1 e he).2.1,(h.2.2.1 e he).1⟩
noncomputable def allE(cs:List Cell):List Edge:=(sides cs).filter λe=>!isIn cs (gap e)
theorem zhr{cs:List Cell}{e:Edge}:e∈allE cs ↔ IsE (isIn cs) e:=by
 unfold allE;rw[List.mem_filter,zdU];unfold IsE isIn;constructor
 .rintro⟨⟨h1,h2⟩,h3⟩;exact⟨h2,decide_eq_true h1,by simpa using h3⟩
 .rintro⟨h1,h2,h3⟩;exact⟨⟨of_decide_eq_true h2,h1⟩,by simpa using h3⟩
noncomputable def dx(w:Nat):Int:=if w=0 then 1 else if w=2 then -1 else 0
noncomputable def dy(w:Nat):Int:=if w=1 then 1 else if w=3 then -1 else 0
noncomputable def px(e:Edge):Int:=e.c.1+(if e.w=1∨e.w=2 then 1 else 0)
noncomputable def py(e:Edge):Int:=e.c.2+(if e.w=2∨e.w=3 then 1 else 0)
theorem zkZ{C:Cell->Bool}{e:Edge}(h:IsE C e):px (nxt C e)=px e+dx e.w/\py (nxt C e)=py e+dy e.w:=by
 have hw:=h.1
 rcases zcV h with⟨_,_,q⟩ |⟨_,_,_,q⟩ |⟨_,_,_,q⟩ <;> rw[q] <;> obtain⟨c,w⟩:=e <;> simp only at hw <;>
  rcases way4 hw with rfl |rfl |rfl |rfl <;> simp[px,py,dx,dy,go,mv] <;> lia
theorem zlY{C:Cell->Bool}{e:Edge}(h:IsE C e):(nxt C e).w=(e.w+3) % 4∨(nxt C e).w=e.w∨(nxt C e).w=(e.w+1) % 4:=by
 rcases zcV h with⟨_,_,q⟩ |⟨_,_,_,q⟩ |⟨_,_,_,q⟩ <;> rw[q]
 .exact .inl rfl
 .exact .inr (.inl rfl)
 .exact .inr (.inr rfl)
noncomputable def Closed(C:Cell->Bool)(b:Edge)(es:List Edge):Prop:=Chain C b es/\∃l,es[es.length-1]?=some l/\nxt C l=b
theorem psum{C:Cell->Bool}{b:Edge}{es:List Edge}(h:Chain C b es):∀i e,es[i]?=some e->px e=px b+((es.take i).map λe=>dx e.w).sum/\py e=py b+((es.take i).map λe=>dy e.w).sum
 | 0,e,he=>by
  have h0:=h.1;rw[he]at h0
  cases h0
  simp
 |i+1,e,he=>by
  have hi:i+1<es.length:=(Ad.mp he).1;have h1:es[i]?=some es[i]:=Ab (by lia)
  obtain⟨a,c⟩:=psum h i _ h1;have hn:=h.2.1 i _ e h1 he;obtain⟨p,q⟩:=zkZ (h.2.2.1 _ (BE (show i<es.length by lia)));rw[<- hn]at p q;rw[List.take_succ,h1];simp only[Option.toList_some,AS,BA,List.map_nil,List.sum_append,List.sum_cons,List.sum_nil];lia
theorem Closed.sums{C:Cell->Bool}{b:Edge}{es:List Edge}(h:Closed C b es):(es.map λe=>dx e.w).sum=0/\(es.map λe=>dy e.w).sum=0:=by
 obtain⟨hc,l,hl,hb⟩:=h;have hlt:=(Ad.mp hl).1;obtain⟨a,c⟩:=psum hc _ l hl;have hlm:=(Ad.mp hl).2;obtain⟨p,q⟩:=zkZ (hc.2.2.1 l (by rw[<- hlm];exact BE _));rw[hb]at p q
 have e:es=es.take (es.length-1)++[l]:=by have:=List.take_succ (l:=es) (i:=es.length-1);rw[hl,show es.length-1+1=es.length by lia,A4]at this;simpa using this
 have s1:(es.map λe=>dx e.w).sum=((es.take (es.length-1)).map λe=>dx e.w).sum+dx l.w:=by
  conv=>lhs;rw[e]
  simp
 have s2:(es.map λe=>dy e.w).sum=((es.take (es.length-1)).map λe=>dy e.w).sum+dy l.w:=by
  conv=>lhs;rw[e]
  simp
 lia
theorem zhP{l:List Int}(h:∀x∈l,0<=x):0<=l.sum:=by
 induction l with
 |nil=>simp
 |cons a r ih =>
  have:=h a AQ;have:=ih λx hx=>h x (AI _ hx)
  simp only[List.sum_cons];lia
theorem zg1{l:List Int}(h:∀x∈l,0<=x)(hs:l.sum=0):∀x∈l,x=0:=by
 induction l with
 |nil=>intro x hx;cases hx
 |cons a r ih =>
  have h1:=h a AQ;have h2:=zhP λx hx=>h x (AI _ hx)
  simp only[List.sum_cons]at hs;intro x hx;rcases At.mp hx with rfl |hx
  .lia
  .exact ih (λx hx=>h x (AI _ hx)) (by lia) x hx
theorem zlE(l:List Int):(l.map λx=>-x).sum=-l.sum:=by
 induction l with
 |nil=>rfl
 |cons a r ih=>simp only[BA,List.sum_cons,ih];lia
theorem zjJ(l:List Int)(d:Int)(h:∀x∈l,x=d):l.sum=d*l.length:=by
 induction l with
 |nil=>simp
 |cons a r ih =>
  have h1:=h a AQ;have h2:=ih λx hx=>h x (AI _ hx)
  simp only[List.sum_cons,Be,h1,h2];rw[Int.natCast_add,Int.mul_add];lia
theorem Closed.has{C:Cell->Bool}{b:Edge}{es:List Edge}(h:Closed C b es){k:Nat}(hk:k=0∨k=2):∃e∈es,e.w=k:=by
 apply Classical.byContradiction
 intro hno;have hno':∀e∈es,e.w≠k:=λe he z=>hno ⟨e,he,z⟩
 obtain⟨s1,s2⟩:=h.sums;obtain⟨hc,_⟩:=h
 have hpos:0<es.length:=by have:=hc.1;exact (Ad.mp this).1
 have z:∀e∈es,dx e.w=0:=by
  rcases hk with rfl |rfl
  .have := zg1 (l := (es.map λe => dx e.w).map λx => -x) (λx hx => by obtain⟨y,hy,rfl⟩:=Bd.mp hx;obtain⟨e,he,rfl⟩:=Bd.mp hy;have:=hno' e he;unfold dx;rw[if_neg this];split <;> decide) (by rw[zlE,s1];rfl)
   intro e he;have:=this (-(dx e.w)) (Bd.mpr ⟨_,Bd.mpr ⟨e,he,rfl⟩,rfl⟩);lia
  .have := zg1 (l := es.map λe => dx e.w) (λx hx => by obtain⟨e,he,rfl⟩:=Bd.mp hx;have:=hno' e he;unfold dx;rw[if_neg this];split <;> decide) s1
   intro e he;exact this _ (Bd.mpr ⟨e,he,rfl⟩)
 have odd:∀e∈es,e.w=1∨e.w=3:=λe he=>by
  have h4:=(hc.2.2.1 e he).1;have hz:=z e he;rcases way4 h4 with q |q |q |q
  .rw[q]at hz;exact absurd hz (by decide)
  .exact .inl q
  .rw[q]at hz;exact absurd hz (by decide)
  .exact .inr q
 have same:∀(i:Nat) (e:Edge),es[i]?=some e->e.w=b.w:=by
  intro i
  induction i with
  |zero=>intro e he;have:=hc.1;rw[he]at this;cases this;rfl
  |succ i ih =>
   intro e he;have hi:i+1<es.length:=(Ad.mp he).1;have h1:es[i]?=some es[i]:=Ab (by lia)
   have hn:=hc.2.1 i _ e h1 he;have m1:es[i]∈es:=BE _;have m2:e∈es:=Aw he;have w1:=ih _ h1;have o1:=odd _ m1;have o2:=odd _ m2;have:=zlY (hc.2.2.1 _ m1);rw[<- hn]at this;lia
 have all:∀x∈es.map (λe=>dy e.w),x=dy b.w:=λx hx=>by obtain⟨e,he,rfl⟩:=Bd.mp hx;obtain⟨i,hi,ei⟩:=AZ he;rw[same i e (by rw[Ab hi,ei])]
 have t:=zjJ _ _ all;rw[s2,Ai]at t
 have ob:b.w=1∨b.w=3:=by have:=hc.1;exact odd b (Aw this)
 have d1:dy b.w=1∨dy b.w=-1:=by rcases ob with q |q <;> rw[q] <;> decide
 rcases d1 with q |q <;> rw[q]at t <;> lia
end RP
namespace L2
open PySem PySem.Spec PyProof.Rows
structure Fn (P:AF) (w:A5) (K:W.Frag) (mg:Str->Option Value) (base:Heap) (k:Nat) (x:Str) (ps:List Str) (sp:Sp) where
 f:Addr
 fd:BC
 ok:FnOk P w K mg base CX0 k f fd ps sp
 m:mg x=some (.ref f)
 kp:C5 K (.ref f)=true
 b:Binds K fd ps []
structure Df (K:W.Frag) (mg:Str->Option Value) (x:Str) (st:Stmt) (ps:List Str) where
 f:Addr
 fd:BC
 F:Fun K x x st f fd
 m:mg x=some (.ref f)
 b:Binds K fd ps []
noncomputable def Df.fn{P:AF}{w:A5}{K:W.Frag}{mg:Str->Option Value}{base:Heap}{k:Nat}{x:Str}{st:Stmt}{ps:List Str}{sp:Sp}(d:Df K mg x st ps)(h:FnOk P w K mg base CX0 k d.f d.fd ps sp):Fn P w K mg base k x ps sp :=
 ⟨d.f,d.fd,h,d.m,d.F.kp,d.b⟩
structure Ways (P:AF) (w:A5) (K:W.Frag) (mg:Str->Option Value):Prop where
 ex:∃(B:Addr) (t1 t2 t3 t4:Tok) (n:Nat),mg "BEGIN_WAYS" = some (.ref B)/\K.lookup B=some ⟨.type "dict",none,.dict #[⟨BM w.params "rim",.str "rim" t1,.int 0 t2⟩,⟨BM w.params "hole",.str "hole" t3,.int 2 t4⟩] n,#[]⟩
noncomputable def tWays (ti:TE):TE:=λσ H Q=>ti σ H λy H1=>(y=.str "rim" /\ Q (.int 0) H1)∨(y=.str "hole" /\ Q (.int 2) H1)
theorem zi6 {X:Cx}{i:Expr}{ti:TE}{p pos:Pos}(hg:Gl X "BEGIN_WAYS") (hw:Ways X.prog X.w X.K X.mg) (hi:PE X i ti) (hs:NoSl i:=by exact λ_ _=>rfl):PE X (.Subscript (.Name "BEGIN_WAYS" p) i pos) (tWays ti):=by
 intro pins s σ H Q I h;obtain⟨B,t1,t2,t3,t4,n,hm,hl⟩:=hw.ex;refine zix PySem.F.slot_dict_getitem.lookup hs (thn ((zdN (v:=.ref B) hg hm rfl:PE X (.Name "BEGIN_WAYS" p) _) pins s σ H (λv H1=>v=V.ref B/\H1=H) I ⟨rfl,rfl⟩) λu s1 ⟨x,H1,I1,rx,q1⟩=>?_);obtain⟨rfl,rfl⟩:=q1;obtain rfl:u=Ao B:=rx;refine thn (hi pins s1 σ H1 _ I1 h) λiv s2 ⟨y,H2,I2,ry,q2⟩=>?_
 have ho:s2.heap.get? B=some _:=I2.kIn B _ hl
 have mo:s2.heap.MapOf (zaH X.prog X.w) B (PySem.findBy (zaH X.prog X.w).is #[⟨BM X.w.params "rim",.str "rim" t1,.int 0 t2⟩,⟨BM X.w.params "hole",.str "hole" t3,.int 2 t4⟩]) :=
  ⟨_,_,_,ho,⟨rfl,rfl,rfl⟩,rfl,λe he=>by
   simp only[List.mem_toArray,At,Bf,or_false]at he;rcases he with rfl |rfl
   .exact⟨.inr "rim",za3 _ _ _ _,rfl⟩
   .exact⟨.inr "hole",za3 _ _ _ _,rfl⟩,λ_=>rfl⟩
 refine⟨⟨_,ho,rfl⟩,?_⟩;rcases q2 with⟨rfl,q⟩ |⟨rfl,q⟩
 .exact wpAny_getItem_of (kV_is (k:=.inr "rim") ry) mo (v:=.int 0 t2) rfl ⟨.int 0,H2,I2.tok _,⟨_,rfl⟩,q⟩
 .exact wpAny_getItem_of (kV_is (k:=.inr "hole") ry) mo (v:=.int 2 t4) rfl ⟨.int 2,H2,I2.tok _,⟨_,rfl⟩,q⟩
section
variable {X:Cx}{K:W.Frag}
theorem zcM(hK:X.K=K:=by rfl):IxR X (rIxT K):=by subst hK;exact zbw
theorem zkq(hK:X.K=K:=by rfl):IxR X (rIxL K):=by subst hK;exact zaB
theorem zdM{es:List Expr}{k:Nat}{t:TGs}{n:Nat}{pos:Pos}(hc:X.calm=true)(h:PGs X es t)
  (hn:(CB es X.env).length=n:=by rfl) (hst:(CB es X.env).findIdx? (·.1)=none:=by rfl) (hK:X.K=K:=by rfl):PG X (.Tuple es k pos) (gTup K n t):=by
 subst hK;exact zaW hc h hn hst
end
section
variable {X:Cx}
noncomputable def rSlTW(K:W.Frag):V->Option Int->Option Int->Hp->VK->Prop:=λx lo hi H Q=>∃a xs,x=.ref a/\SqT K H a xs /\
 ((HT.sIx xs.length 0 lo=0/\HT.sIx xs.length xs.length hi=xs.length)->Q (.ref a) H) /\
 (¬ (HT.sIx xs.length 0 lo=0/\HT.sIx xs.length xs.length hi=xs.length)->∀p,H p=none->Q (.ref p) (upd H p (.tup (cutV xs lo hi))))
end
end L2
namespace HT
open PySem PyProof.Rows
variable {prog:AF}{w:A5}{A:AO}{E:Value->Ac->Prop}{s:Ac}
theorem getItem_tuple_all{t sl:Addr}{items:Array Value}{vl vu:Value}{lo hi:Option Int}{Q:Value -> Ac -> Prop}(ht:IsTup s.heap t items)(hs:s.heap.IsSliceOf sl vl vu .none)(pl:IsPart vl lo)(pu:IsPart vu hi)
  (hw:sIx items.size 0 lo=0/\sIx items.size items.size hi=items.size) (h:Q (.ref t) s):Ar (Az prog w) A (getItem (.ref t) (.ref sl)) Q E s:=by
 obtain⟨os,hos,hcs,hds⟩:=id hs;have hTs:s.TypeIs (.ref sl) "slice":=⟨os,hos,hcs⟩;unfold getItem
 try with_reducible refine Bw ?_
 first |refine Aa (Ah ?_) |skip
 refine Aa (wpAny_sequenceKey ht.typeIs (by decide) ?_)
 refine Aa (C6 (name:=Aq "__getitem__") ht.typeIs BJ
  (DC BJ ht.typeIs entry_tuple_getitem ?_ (args_tuple_getitem _ _)))
 show Ar _ _ (Builtin.Tuple.tupleItemsOf (.ref t) >>= _) _ _ s;refine Aa (tupleItemsOf_ ht ?_);refine Aa (wpAny_typeOf hTs ?_);rw[if_pos (by decide)];refine Aa (zb9 hs pl pu ?_)
 have hyes:(((sIx items.size 0 lo:Nat):Int) == 0 && (1:Int) == 1 && (sIx items.size items.size hi-sIx items.size 0 lo) == items.size)=true:=by rw[hw.1,hw.2];simp
 show Ar _ _ (if (((sIx items.size 0 lo:Nat):Int) == 0 && (1:Int) == 1 && (sIx items.size items.size hi-sIx items.size 0 lo) == items.size)=true then _ else _) _ _ s;rw[if_pos hyes];refine Aa ?_
 unfold Builtin.Tuple.tupleIsExact;refine Aa (wpAny_typeOf ht.typeIs (Ah ?_));rw[if_pos (by decide)];exact Aa (Dc (Ah ⟨_,rfl,Ah h⟩))
end HT
namespace L2
open PySem PySem.Spec PyProof.Rows
section
variable {X:Cx}{K:W.Frag}
theorem ziL:SlR X (rSlTW X.K):=by
 intro pins s σ H x v vl vu lo hi sl Q I rx hs pl pu h;obtain⟨a,xs,rfl,hx,q1,q2⟩:=h
 by_cases hw:HT.sIx xs.length 0 lo=0/\HT.sIx xs.length xs.length hi=xs.length
 .cases rx
  obtain⟨its,r,ht,hz⟩:=I.tuple hx;have hlen:its.toArray.size=xs.length:=by rw[As];exact r.length.symm
  refine⟨"tuple",_,BJ.lookup,ht.typeIs,?_⟩;exact HT.getItem_tuple_all ht hs pl pu (by rw[hlen];exact hw) ⟨.ref a,H,I,rfl,q1 hw⟩
 .exact zma pins s σ H _ v vl vu lo hi sl Q I rx hs pl pu ⟨a,xs,rfl,hx,hw,q2 hw⟩
end
section
variable {prog:AF}{w:A5}{K:Type} [DecidableEq K] {knd:HeapKind prog w K}{A:AO}{E:Value->Ac->Prop}{s:Ac}{d a:Addr}{xs:List (K×Addr×Value)}{k:K}{dflt:Value}
theorem zeD{p:Addr×Value}(h:atKey xs k=some p):∃j:Nat,xs[j]?=some (k,p):=by
 unfold atKey at h;obtain⟨x,hx,e⟩:=BQ.mp h;have hm:=List.mem_of_find?_eq_some hx;have hk:=List.find?_some hx;obtain⟨j,hj,ej⟩:=AZ hm;have:x.1=k:=by simpa using hk
 exact⟨j,by rw[Ab hj,ej,<- e,<- this]⟩
theorem zkJ{p:Addr×Value}{j:Nat}(hn:(xs.map λx=>x.1).Nodup)(h:xs[j]?=some (k,p)):atKey xs k=some p:=by
 cases e:atKey xs k with
 |none =>
  exfalso;unfold atKey at e;have:=List.find?_eq_none.mp (D6.mp e) _ (Aw h);simp at this
 |some q =>
  obtain⟨i,hi⟩:=zeD e;have hl:=(Ad.mp hi).1;have:=(List.getElem?_inj (i:=i) (j:=j) (by rw[Ai];exact hl) hn).mp (by rw[A7,A7,hi,h];rfl);subst this;rw[hi]at h
  cases h
  rfl
theorem zdF{Q:Value -> Ac -> Prop}(hr:knd.room A)(hk:knd.is s.heap k a)(hD:Heap.DictOfH knd s.heap d xs)(hsz:xs.length <= sizeLine)
  (h1:∀p,atKey xs k=some p->Q p.2 { s with toks:=s.toks+knd.draws k })
  (h2:atKey xs k=none->∀h',Heap.DictOfH knd h' d (storedH xs k a dflt)->Cq d s.heap h'->Q dflt { s with heap:=h',toks:=s.toks+knd.draws k }) :
  Ar (Az prog w) A (dictSetDefault d (.ref a) dflt) Q E s:=by
 obtain⟨o,es,ep,ho,hx,hd,he,hi,hn⟩:=id hD;unfold dictSetDefault;refine Bw (Aa (knd.pyHash hr hk ?_));refine Aa (wpAny_dictFind_heap (s:={ s with toks:=s.toks+knd.draws k }) hr hk ho hd he hi hn (λhno=>?_) λj p hj=>?_)
 .have hnone:atKey xs k=none := by
   cases e:atKey xs k with
   |none=>rfl
   |some p=>obtain⟨j,hj⟩:=zeD e;exact absurd hj (hno j p)
  refine Aa (Dc ?_);have hes:es.size=xs.length:=by rw[<- AJ,he,Ai]
  refine Aa (wpAny_updateDictKeys ho hd (Ah (h2 hnone _ ?_ ⟨?_,λb hb=>BO _ _ (Bx hb)⟩)) (by lia) (by simp))
  .have hs:Cq d s.heap (s.heap.update d (Obj.mapDictKeys λx=>x.push ⟨knd.hash k,.ref a,dflt⟩)):=⟨?_,λb hb=>BO _ _ (Bx hb)⟩
   .obtain⟨c,dd,dt,sl⟩:=o;simp only at hd;subst hd;refine⟨_,es.push ⟨knd.hash k,.ref a,dflt⟩,ep+1,CQ _ ho rfl,hx,rfl,?_,λx hx'=>?_,?_⟩
    .rw[storedH_new hnone,AS,<- he];simp[entryOfKey]
    .rw[storedH_new hnone]at hx';rcases Ap.mp hx' with m |m
     .exact knd.keeps (hi x m) ho rfl hs
     .rw[Ak.mp m];exact knd.keeps hk ho rfl hs
    .rw[storedH_new hnone,AS,List.nodup_append];refine⟨hn,by simp,λx hx' y hy e=>?_⟩;simp at hy;subst hy e;obtain⟨⟨k',p⟩,hm,ek⟩:=Bd.mp hx';obtain⟨j,hj,ej⟩:=AZ hm;simp only at ek;subst ek;exact hno j p (by rw[Ab hj,ej])
   .show (s.heap.update d _).objs.size=_;unfold Heap.update;simp
  .show (s.heap.update d _).objs.size=_;unfold Heap.update;simp
 .have hlt:=(Ad.mp hj).1;have hes:es.size=xs.length:=by rw[<- AJ,he,Ai]
  have ee:es[j]?=some ⟨knd.hash k,.ref p.1,p.2⟩:=by rw[<- Bt,he,A7,hj];rfl
  refine Aa (wpAny_dictEntries ho hd ?_);simp only[ee];refine Aa (Dc (Ah ?_));exact h1 p (zkJ hn hj)
theorem zde(knd:HeapKind prog w K)(d a:Addr)(hd:(d == Cm)=false)(dflt:Value) :
  MeetsIn prog w (Builtin.«dict.setdefault» ⟨[.ref d,.ref a,dflt],[]⟩) λA R s=>knd.room A.in1/\∃k xs,knd.is s.heap k a/\Heap.DictOfH knd s.heap d xs/\xs.length<=sizeLine /\
   (∀p,atKey xs k=some p->R (.ok (.ret p.2)) { s with toks:=s.toks+knd.draws k }) /\
   (atKey xs k=none->∀h',Heap.DictOfH knd h' d (storedH xs k a dflt)->Cq d s.heap h'->R (.ok (.ret dflt)) { s with heap:=h',toks:=s.toks+knd.draws k }):=by
 intro A R s h;obtain⟨hr,k,xs,hk,hD,hsz,h1,h2⟩:=h;unfold Builtin.«dict.setdefault» Builtin.Dict.keyAndDefault;have ht:s.TypeIs (.ref d) "dict":=hD.typeIs;refine Aa (Aa (wpAny_notOrdered_dict ht ?_));refine Aa ?_
 show Ar (Az prog w) A.in1 (pure ()) _ _ s;refine Ah ?_
 refine Aa ?_
 show Ar (Az prog w) A.in1 (pure (Ao d,[Ao a,dflt])) _ _ s;refine Ah ?_
 show Ar (Az prog w) A.in1 (pure d >>= λx=>pure (x,Ao a,some dflt)) _ _ s;refine Aa (Ah (Ah ?_));simp only;rw[hd];show Ar (Az prog w) A.in1 (dictSetDefault d (.ref a) dflt >>= λx=>ret x) _ _ s;refine Aa (zdF hr hk hD hsz (λp e=>Ah (h1 p e)) λe h' hD' hs=>Ah (h2 e h' hD' hs))
noncomputable def zl5(td ty tx:TE):TE:=λσ H Q=>td σ H λx H1=>∃a,x=.ref a/\IsD H1 a/\ty σ H1 λy H2=>tx σ H2 λz H3=>∃kvs k b,H3 a=some (.dT kvs)/\y=.ref b/\H3 b=some (.tup (k.map kV))/\kvs.length<sizeLine /\
 (∀v,valV kvs k=some v->Q v H3)/\(valV kvs k=none->Q z (upd H3 a (.dT (putK kvs k z))))
end
section
variable {X:Cx}{o e f:Expr}{apos cpos:Pos}{td ty tx:TE}
theorem zhi (hu:X.A.units+1<cLine) (ho:PE X o td) (he:PE X e ty) (hf:PE X f tx) (m:M2 X o "setdefault" apos e f cpos):PE X (.Call (.Attribute o "setdefault" apos) [e,f] [] cpos) (zl5 td ty tx):=by
 intro pins s σ H Q I h;refine wpAny_Call_method m.base m.few m.line PySem.F.plainAttrs_dict PySem.F.slot_dict_setdefault PySem.F.type_dict_setdefault (thn (ho pins s σ H _ I h) λu s1 ⟨x,H1,I1,rx,a,ex,d,q1⟩=>?_);subst ex;obtain rfl:u=Ao a:=rx;obtain⟨t1,t2,_⟩:=zmF I1 d;refine⟨t1,t2,?_⟩;rw[m.trees]
 refine Calls.callWith_builtin rfl (Calls.evalArgs_plain (Calls.spliced_cons (thn (he pins s1 σ H1 _ I1 q1) λiv s2 ⟨y,H2,I2,ry,q2⟩ =>
  Calls.spliced_cons (thn (hf pins s2 σ H2 _ I2 q2) λfv s3 ⟨z,H3,I3,rz,kvs,k,b,eD,ey,eb,hl,k1,k2⟩=>Calls.spliced_nil ?_))))
 subst ey
 cases (show iv=Ao b from ry)
 obtain⟨zz,hd,xs,rel,dd⟩:=dt_of I3.hok eD
 refine call_meetsIn PySem.F.slot_dict_setdefault dd.typeIs PySem.F.entry_dict_setdefault (PySem.F.args_dict_setdefault_3 _ _ _) (zde (tupleKind (zaH X.prog X.w)) a b hd fv)
  ⟨DX hu,k,xs,zfR I3.hok eb,dd,by rw[<- DK rel];exact zz,λp ep=>?_,λen h' dd' hs=>?_⟩
 .have rv:=rel.val k;rw[ep]at rv
  cases hv:valV kvs k with
  |none=>rw[hv]at rv;exact Bu rv
  |some v=>rw[hv]at rv;exact⟨v,H3,I3.tok _,rv,k1 v hv⟩
 .have hn:valV kvs k=none := by
   have rv:=(rel.val k).isSome_eq;rw[en]at rv
   cases hv:valV kvs k with
   |none=>rfl
   |some v=>rw[hv]at rv;exact absurd rv (by simp)
  have hz:(putK kvs k z).length<=sizeLine:=by have:=zbq kvs k z;lia
  obtain⟨q,es,ep,hq,h2,h3,h4,_,h5⟩:=dd';refine⟨z,_,?_,rz,k2 hn⟩;refine zgP I3 (by rw[eD];exact Cb) hs ⟨q,hq⟩ ⟨hz,hd,_,(rel.put k eb rz).keeps λc ys ec=>?_,q,es,ep,hq,h2,h3,h4,h5⟩;rw[zai (ne_of ec eD (λz=>nomatch z))];exact ec
end
structure Two (P:AF) (w:A5) (K:W.Frag) (mg:Str->Option Value) (nm:Str) (a b:Int):Prop where
 ex:∃(B:Addr) (t1 t2 t3 t4:Tok) (n:Nat),mg nm=some (.ref B)/\K.lookup B=some ⟨.type "dict",none,.dict #[⟨BM w.params "rim",.str "rim" t1,.int a t2⟩,⟨BM w.params "hole",.str "hole" t3,.int b t4⟩] n,#[]⟩
noncomputable def tTwo (a b:Int) (ti:TE):TE:=λσ H Q=>ti σ H λy H1=>(y=.str "rim" /\ Q (.int a) H1)∨(y=.str "hole" /\ Q (.int b) H1)
theorem zmp {X:Cx}{nm:Str}{a b:Int}{i:Expr}{ti:TE}{p pos:Pos}(hg:Gl X nm) (hw:Two X.prog X.w X.K X.mg nm a b) (hi:PE X i ti) (hs:NoSl i:=by exact λ_ _=>rfl) (hdb:(nm == ("__debug__" : Str))=false:=by rfl):PE X (.Subscript (.Name nm p) i pos) (tTwo a b ti):=by
 intro pins s σ H Q I h;obtain⟨B,t1,t2,t3,t4,n,hm,hl⟩:=hw.ex;refine zix PySem.F.slot_dict_getitem.lookup hs (thn ((zdN (v:=.ref B) hg hm rfl (hd:=hdb):PE X (.Name nm p) _) pins s σ H (λv H1=>v=V.ref B/\H1=H) I ⟨rfl,rfl⟩) λu s1 ⟨x,H1,I1,rx,q1⟩=>?_);obtain⟨rfl,rfl⟩:=q1;obtain rfl:u=Ao B:=rx;refine thn (hi pins s1 σ H1 _ I1 h) λiv s2 ⟨y,H2,I2,ry,q2⟩=>?_
 have ho:s2.heap.get? B=some _:=I2.kIn B _ hl
 have mo:s2.heap.MapOf (zaH X.prog X.w) B (PySem.findBy (zaH X.prog X.w).is #[⟨BM X.w.params "rim",.str "rim" t1,.int a t2⟩,⟨BM X.w.params "hole",.str "hole" t3,.int b t4⟩]) :=
  ⟨_,_,_,ho,⟨rfl,rfl,rfl⟩,rfl,λe he=>by
   simp only[List.mem_toArray,At,Bf,or_false]at he;rcases he with rfl |rfl
   .exact⟨.inr "rim",za3 _ _ _ _,rfl⟩
   .exact⟨.inr "hole",za3 _ _ _ _,rfl⟩,λ_=>rfl⟩
 refine⟨⟨_,ho,rfl⟩,?_⟩;rcases q2 with⟨rfl,q⟩ |⟨rfl,q⟩
 .exact wpAny_getItem_of (kV_is (k:=.inr "rim") ry) mo (v:=.int a t2) rfl ⟨.int a,H2,I2.tok _,⟨_,rfl⟩,q⟩
 .exact wpAny_getItem_of (kV_is (k:=.inr "hole") ry) mo (v:=.int b t4) rfl ⟨.int b,H2,I2.tok _,⟨_,rfl⟩,q⟩
section
variable {X:Cx}
theorem Inv.turned2{pins:List (Addr × Obj)}{σ : St}{H:Hp}{s:Ac}{h':Heap}{t':Nat}{e it:Addr}(I:Inv X pins σ H s)(k:∀b o, b ≠ e -> b ≠ it -> s.heap.get? b=some o -> h'.get? b=some o)(fe:FpOk X pins H e)(fi:FpOk X pins H it) :
  Inv X pins σ H { s with heap:=h',toks:=t' }:=by
 obtain⟨f0,f1,f2,f3,f4,f5⟩:=fe;obtain⟨g0,g1,g2,g3,g4,g5⟩:=fi;have nb:∀b u,H b=some u->b≠e/\b≠it:=λb u q=>⟨(λz=>by rw[z,f0]at q;cases q),(λz=>by rw[z,g0]at q;cases q)⟩
 have out:∀b,b ∉ [e,it]->b≠e/\b≠it:=λb hc=>⟨λz=>hc (by simp[z]),λz=>hc (by simp[z])⟩
 refine I.step (g':=s.gens) (d':=s.drawn) (ch:=[e,it]) (λb hb=>?_) (λb o _ _ hc q _=>k b o (out b hc).1 (out b hc).2 q) (λb o _ _ hc q _=>⟨o.slots,k b o (out b hc).1 (out b hc).2 q⟩) (λ_ _ _ _ n=>n)
  (λb o hc q=>⟨o,k b o (out b hc).1 (out b hc).2 q⟩) (λ_ _ q=>q) (λ_ _ _ q=>q) (λb ps q=>⟨#[],by rw[q];simp⟩) (λm hm=>?_) (λb u q=>?_) I.bare
 .rcases At.mp hb with z |z
  .subst z;exact⟨f3,f1,f4,f5⟩
  .have z':b=it:=by simpa using z
   subst z';exact⟨g3,g1,g4,g5⟩
 .obtain⟨o,es,ep,ho,r⟩:=hm;exact⟨o,es,ep,k _ o (Bx f1) (Bx g1) ho,r⟩
 .refine (I.hok b u q).stay (λc v hc q'=>?_) (λ_ q=>q) λ_ _ q=>q
  rcases hc with z |z
  .rw[z]at q' ⊢;exact k _ _ (nb b u q).1 (nb b u q).2 q'
  .exact k _ _ (nb c _ z).1 (nb c _ z).2 q'
noncomputable def Ite(K:W.Frag)(a:Addr):It :=
 ⟨λi H=>∃xs x,SqL K H a xs/\xs[i]?=some x,λi H y H'=>∃p x,y=.ref p/\H p=none/\H'=upd H p (.tup [.int i,x])/\∀xs,SqL K H a xs->xs[i]?=some x,λi H=>∃xs,SqL K H a xs/\xs.length<=i⟩
theorem zir{P:AF}{w:A5}{K:W.Frag}{es:List Expr}{x1:Nat}{pos:Pos}(a e it:Addr)(hne:e≠it):Turn P w K (.Tuple es x1 pos) (Ite K a) [e,it] e (λi h=>∃old,IsEnum h e it ((i:Nat):Int) old/\h.IsListIter it a i) where
 mem:=by simp
 obj:=λi h st b hb=>by
  obtain⟨old,h1,o,h2,c,d⟩:=st;rcases At.mp hb with z |z
  .subst z;exact⟨_,h1,λv q=>nomatch q⟩
  .have z':b=it:=by simpa using z
   subst z';exact⟨o,h2,λv q=>by rw[d]at q;cases q⟩
 keep:=λi h h' ⟨old,h1,h2⟩ k=>⟨old,k e (by simp) _ h1,h2.at λo q=>k it (by simp) o q⟩
 item:=by
  intro X hP hw hK hc i pins s σ H E I hf st hg;subst hP hw hK;obtain⟨old,he,hit⟩:=st;obtain⟨xs,x,hq,hx⟩:=hg;obtain⟨its,rv,p,hz⟩:=I.list hq;obtain⟨u,hu,ru⟩:=rv.get hx;have fe:=hf e (by simp);have fi:=hf it (by simp);refine wpAny_pyNext_enum_item he hit p.isList (x:=u) (by simpa using hu) hne λh1 eo it1 tup sz kk=>⟨_,rfl,?_⟩
  refine wpAny_letOwnedTupleGo_enum (s:={ s with heap:=h1,toks:=s.toks+1 }) eo λh2 he2 sb=>?_
  have heS:e<s.heap.objs.size:=Ax he;have hiS:it<s.heap.objs.size:=by obtain⟨o,q,_⟩:=hit;exact Ax q
  have fr:H s.heap.objs.size=none:=I.hok.fresh (Aj _)
  have I1:Inv X pins σ (upd H s.heap.objs.size (.tup [.int i,x])) { s with heap:=s.heap.push { cls:=.type "tuple",data:=.seq #[.int i s.toks,u] },toks:=s.toks } :=
   I.laid (t':=s.toks) (o:=.tup [.int i,x]) (λb ob q=>Ag _ q) (Aj _) ⟨by show 2<=sizeLine;decide,_,.cons ⟨_,rfl⟩ (.cons ru .nil),IsTup.new _ _⟩
  have up:∀{b:Addr},b<s.heap.objs.size->∀o,upd H s.heap.objs.size o b=H b:=λhb o=>zai (AV hb)
  have fe1:FpOk X pins (upd H s.heap.objs.size (.tup [.int i,x])) e:=⟨by rw[up heS];exact fe.1,fe.2⟩;have fi1:FpOk X pins (upd H s.heap.objs.size (.tup [.int i,x])) it:=⟨by rw[up hiS];exact fi.1,fi.2⟩
  have I2:Inv X pins σ (upd H s.heap.objs.size (.tup [.int i,x])) { s with heap:=h2,toks:=s.toks+1 }:=I1.turned2 (λb o hbe hbi q=>by
   refine (sb.2 b hbe).trans ?_
   show h1.get? b=some o;rcases Heap.get?_push_cases q with⟨z,rfl⟩ |q
   .rw[z];exact tup
   .exact kk b o hbe hbi q) fe1 fi1
  refine⟨.ref s.heap.objs.size,_,I2,rfl,⟨_,x,rfl,fr,rfl,λys hy=>by rw[I.list_inj hy hq];exact hx⟩,⟨u,?_,?_⟩,λb hb=>?_⟩
  .exact he2
  .obtain⟨o,q,c,d⟩:=it1;exact⟨o,(sb.2 it (Bx hne)).trans q,c,d⟩
  .rcases At.mp hb with z |z
   .subst z;exact fe1.1
   .have z':b=it:=by simpa using z
    subst z';exact fi1.1
 done:=by intro X hP hw hK hc i pins s σ H E I hf st hg;subst hP hw hK;obtain⟨old,he,hit⟩:=st;obtain⟨xs,hq,hx⟩:=hg;obtain⟨its,rv,p,hz⟩:=I.list hq;obtain⟨f0,f1,f2,f3,f4,f5⟩:=hf it (by simp);have hl:=rv.length;exact wpAny_pyNext_enum_end (I.ok.hd hc) he hit p.isList (by simp;lia) λh' eb=>⟨rfl,I.turned (t':=s.toks) (λb o hb e=>eb b o hb e) f0 f1 f3 f4 f5⟩
 self:=λ_ _ _ _ _ ⟨_,he,_⟩ h=>wpAny_pyIter_enum he h
noncomputable def iEnum(K:W.Frag)(t:TA):TI:=λσ H R=>t σ H λvs H1=>∃a,vs=[.ref a]/\(∃xs,SqL K H1 a xs)/\R (Ite K a) H1
theorem zlx {l:Expr}{t:TA}{es:List Expr}{x1:Nat}{pos pos' p:Pos}(hg:Gl X "enumerate") (hm:X.mg "enumerate" = none) (ha:PA X [l] t)
  (he:Bg [l] X.env=(false,eval l X.env)::Bg [] X.env:=by rfl) (hpl:(DH pos' (Bg [] X.env)).any (·.1)=false:=by rfl) :
  PI X (.Tuple es x1 pos) (.Call (.Name "enumerate" p) [l] [] pos') (iEnum X.K t):=by
 intro pins s σ H R I h;refine Cn (zdX I hg hm (by rfl) ?_ (by decide) (by decide));refine Dr (thn (ha pos' pins s σ H _ I h) λus s1 ⟨vs,H1,I1,r1,q1⟩=>?_) he hpl;obtain⟨a,ex,⟨xs,hq⟩,q⟩:=q1;subst ex;obtain⟨u,rfl,rx⟩:=vals1 r1
 cases rx
 obtain⟨its,rv,pl,hz⟩:=I1.list hq;refine call_enumerate_list pl.isList λh' he hit hsz kp=>?_
 have I2:Inv X pins σ H1 { s1 with heap:=h' }:=I1.kept (t':=s1.toks) kp;refine wpAny_pyIter_enum he ?_
 refine⟨s1.heap.objs.size+1,[s1.heap.objs.size+1,s1.heap.objs.size],_,_,H1,rfl,I2,zir a _ _ (Nat.succ_ne_self _),⟨_,he,hit⟩,λb hb=>?_,q⟩;rcases At.mp hb with z |z
 .subst z;exact I1.fpOk (B5 _) (I1.hok.fresh (B5 _))
 .have z':b=s1.heap.objs.size:=by simpa using z
  subst z';exact I1.fpOk (Aj _) (I1.hok.fresh (Aj _))
theorem zky{K:W.Frag}{a:Addr}{xs:List V}{g:TG}{tb:TS}{D:Ends}{σ : St}{H:Hp}(Pv:Nat -> St -> Hp -> Prop)(h0:Pv 0 σ H)(hl:∀i σ H, i <= xs.length -> Pv i σ H -> SqL K H a xs)
  (hs:∀i x σ H p,xs[i]?=some x->Pv i σ H->H p=none->g (.ref p) σ (upd H p (.tup [.int i,x])) λσ2 H2=>tb { D with nx:=Pv (i+1),ct:=Pv (i+1),bk:=D.nx } σ2 H2) (hd:∀ σ H,Pv xs.length σ H->D.nx σ H) :
  ∃W:Nat->Nat->St->Hp->Prop,(∃m,W 0 m σ H)/\∀i m σ H,W i m σ H ->
   ((Ite K a).stop i H/\D.nx σ H)∨((Ite K a).go i H/\∃N:St->Hp->Prop,(∀ σ' H',N σ' H'->∃m',m'<m/\W (i+1) m' σ' H')/\∀x H',(Ite K a).yld i H x H'->g x σ H' λσ2 H2=>tb { D with nx:=N,ct:=N,bk:=D.nx } σ2 H2):=by
 refine⟨λi m σ H=>m=xs.length-i/\i<=xs.length/\Pv i σ H,⟨xs.length,by simp,A6 _,h0⟩,?_⟩;rintro i m σ H ⟨rfl,hi,p⟩;have q:=hl i σ H hi p
 by_cases hlt:i<xs.length
 .refine .inr ⟨⟨xs,xs[i],q,by simp[hlt]⟩,Pv (i+1),λσ' H' p'=>⟨xs.length-(i+1),by lia,rfl,hlt,p'⟩,λx H' y=>?_⟩;obtain⟨b,z,rfl,hb,rfl,y⟩:=y;exact hs i z σ H b (y xs q) p hb
 .have e:i=xs.length:=by lia
  subst e;exact .inl ⟨⟨xs,q,Aj _⟩,hd σ H p⟩
end
end L2
namespace HT
open PySem PyProof.Rows PySem.Spec
variable {prog:AF}{w:A5}{A:AO}{E:Value->Ac->Prop}{s:Ac}
theorem cat_tup0{t b:Addr}{ws:List Value}{Q:Value->Ac->Prop}(ht:IsTup s.heap t ([]:List Value).toArray)(hb:IsTup s.heap b ws.toArray)(h1:Q (.ref b) s):Ar (Az prog w) A (CV .Add (.ref t) (.ref b)) Q E s:=by
  obtain⟨⟨cls,dd,data,sl⟩,ho,hc,n,hd⟩:=id ht;obtain⟨⟨cls2,dd2,data2,sl2⟩,ho2,hc2,n2,hd2⟩:=id hb;simp only at hc hd hc2 hd2;subst hc hd hc2 hd2
  exact concat_meets ⟨_, ho, rfl⟩ ⟨_, ho2, rfl⟩ noFill_tuple_add seq_tuple_add PySem.F.slot_tuple_add D1 (DP _ _)
      (tuple_addW0 t b _ _ n n2 dd dd2 sl sl2 (by rfl)) ⟨ho,ho2,h1⟩
end HT
namespace L2
open PySem PySem.Spec PyProof.Rows
section
variable {X:Cx}{K:W.Frag}
noncomputable def rCatE(K:W.Frag):R2:=λx y H Q=>∃a b xs ys,x=.ref a/\y=.ref b/\SqT K H a xs/\SqT K H b ys/\xs.length+ys.length<=sizeLine /\
 (xs=[]->Q (.ref b) H)/\(xs≠[]->ys=[]->Q (.ref a) H)/\(xs≠[]->ys≠[]->∀p,H p=none->Q (.ref p) (upd H p (.tup (xs++ys))))
theorem zlA:OpR X (CV .Add) (rCatE X.K):=by
 intro pins s σ H x y v u Q I rx ry h;obtain⟨a,b,xs,ys,rfl,rfl,ha,hb,hz,q0,q1,q2⟩:=h
 by_cases hx:xs=[]
 .subst hx
  cases rx
  cases ry
  obtain⟨its,r1,p1,_⟩:=I.tuple ha;obtain⟨its2,r2,p2,_⟩:=I.tuple hb
  cases r1
  exact HT.cat_tup0 p1 p2 ⟨.ref b,H,I,rfl,q0 rfl⟩
 .exact zeW pins s σ H _ _ v u Q I rx ry ⟨a,b,xs,ys,rfl,rfl,ha,hb,hx,hz,q1 hx,q2 hx⟩
end
end L2
namespace HT
open PySem PyProof.Rows PySem.Spec
end HT
namespace L2
open PySem PySem.Spec PyProof.Rows
section
variable {X:Cx}{K:W.Frag}
end
section
variable {X:Cx}
end
section
variable {X:Cx}{e es:Expr}{te ts:TE}{pos p2:Pos}
end
section
variable {X:Cx}
noncomputable def zlt(K:W.Frag):R2:=λx y H Q=>∃p xs d ds,y=.ref p/\SqL K H p xs/\RD K H x d/\RDs K H xs ds/\Br d=true/\(∀e∈ds,Br e=true)/\Q (.bl (!ds.any λe=>PyData.eqv e d)) H
theorem zi8(hu:X.A.units+65<cLine):OpR X (BR .NotIn) (zlt X.K):=by intro pins s σ H x y v u Q I rx ry h;obtain⟨p,xs,d,ds,rfl,hq,hd,hds,sd,sds,q⟩:=h;obtain⟨as,ra⟩:=I.reads hd rx;obtain⟨bs,rb⟩:=I.reads (.lst hq hds) ry;exact SeqAt.notIn_list_reads rb ra (zdl sds) (SeqAt.canLay_of_shaped sd) (PyProof.Rows.room_in_shaped sd hu) ⟨.bl _,H,I,rfl,q⟩
end
section
variable {prog:AF}{w:A5}{A:AO}{R:Result->Ac->Prop}{I:Addr}{fp wr:List Addr}{n:Nat}{P:Nat->Value->Prop}{St:Nat->Heap->Prop}{dv:Value}
end
section
variable {X:Cx}{pins:List (Addr×Obj)}{σ:St}{H0:Hp}{s:Ac}{l:Addr}{Q:VK}
end
section
variable {X:Cx}{p pos kpos kp:Pos}{e:Expr}{te:TE}{d:Int}{kj:Nat}
end
end L2
namespace HT
open PySem PyProof.Rows
variable {prog:AF}{w:A5}{A:AO}{E:Value->Ac->Prop}{s:Ac}
end HT
namespace L2
open PySem PySem.Spec PyProof.Rows
section
variable {X:Cx}{e es:Expr}{te ts:TE}{pos p2:Pos}
end
end L2
namespace HT
open PySem PyProof.Rows
section
open PySem.SeqAt
open PySem.AutoSeq1 (wpAny_loadPart')
open PySem.MeetsSeq PySem.MeetsSeq2 PySem.MeetsSeq3
end
section
variable {prog:AF}{w:A5}{A:AO}{E:Value->Ac->Prop}{s:Ac}
end
end HT
namespace L2
open PySem PySem.Spec PyProof.Rows
section
variable {X:Cx}{pos:Pos}
noncomputable def zlu:V->List V->Hp->VK->Prop:=λx vs H Q=>∃l,∃os:List (Option Int),x=.ref l/\vs=[.non]/\H l=some (.lst (os.map λo=>o.elim V.non V.int))/\Q (.int (os.countP (·.isNone):Nat)) H
theorem zjd:MtM X "list.count" zlu:=by
 intro pins s σ H x vs v us Q I rx rv h;obtain⟨l,os,rfl,rfl,hH,q⟩:=h
 cases rx
 obtain⟨u,rfl,ru⟩:=rv.one
 cases (show u=Bk from ru)
 obtain⟨z,its,n,r,hl,e⟩:=I.lstM hH
 have hall:∀(os:List (Option Int)) (its:List Value),Vals (os.map λo=>o.elim V.non V.int) its->its.countP (λy=>y == Bk)=os.countP (·.isNone)/\∀y∈its,y=.none∨∃a t,y=.int a t:=by
  intro os
  induction os with
  |nil=>intro its r;cases r;exact⟨rfl,by simp⟩
  |cons o os ih =>
   intro its r
   cases r with
   |cons h t =>
    obtain⟨i1,i2⟩:=ih _ t
    cases o with
    |none =>
     cases (show _=Bk from h)
     refine⟨by rw[List.countP_cons,List.countP_cons,i1];rfl,λy hy=>?_⟩;rcases At.mp hy with rfl |hy
     .exact .inl rfl
     .exact i2 y hy
    |some a =>
     obtain⟨tk,rfl⟩:=(show ∃t,_=DB a t from h);refine⟨by rw[List.countP_cons,List.countP_cons,i1];rfl,λy hy=>?_⟩;rcases At.mp hy with rfl |hy
     .exact .inr ⟨a,tk,rfl⟩
     .exact i2 y hy
 obtain⟨c1,c2⟩:=hall os its r;refine call_meets F.slot_list_count ⟨_,e,rfl⟩ F.entry_list_count (F.args_list_count_2 _ _) (SeqAt.list_countAt l its.toArray n _ _ .none (λy=>y == Bk)) ⟨e,λy hy=>?_,?_⟩
 .have hy':y∈its:=by simpa using hy
  rcases c2 y hy' with rfl |⟨a,t,rfl⟩
  .exact SeqAt.EqAt.same _
  .exact SeqAt.EqAt.int_none a t
 .refine⟨.int _,H,I.tok _,⟨_,rfl⟩,?_⟩;show Q (.int (its.toArray.toList.countP (λy=>y == Bk):Nat)) H;rw[List.toList_toArray,c1];exact q
end
section
variable {prog:AF}{w:A5}{A:AO}{E:Value->Ac->Prop}{s:Ac}{it d:Addr}{i ep:Nat}{es:Array DictEntry}{od:Obj}
theorem zjn{Q:Value -> Ac -> Prop}(lo:(d == Cm)=false)(g:s.heap.get? d=some od)(x:od.ExactDict)(dat:od.data = .dict es ep)
  (k:Q (.ref s.heap.objs.size) { s with heap:=s.heap.push { cls:=.type "dict_keyiterator",data:=.fields #[.ref d,.int 0 0,.int es.size 0,.int ep 0] } }):Ar (Az prog w) A (pyIter (.ref d)) Q E s:=by
 have ty:s.TypeIs (.ref d) "dict":=⟨od,g,x.1⟩;refine wpAny_pyIter_slot ty PySem.F.slot_dict_iter (DC PySem.F.slot_dict_iter ty PySem.F.entry_dict_iter ?_ (PySem.F.args_dict_iter_1 _));unfold Builtin.«dict.__iter__» Builtin.Dict.dictSlotNone;refine Aa (Aa (wpAny_notOrdered_dict ty ?_));show Ar (Az prog w) A.in1 (pure (Ao d)) _ _ s;refine Ah ?_
 show Ar (Az prog w) A.in1 (Builtin.Dict.showsAll d >>= _) _ _ s;unfold Builtin.Dict.showsAll;rw[if_neg (show ¬ (d == Cm)=true by rw[lo];decide)];refine Aa (Ah (Aa (wpAny_dictEntries g dat (Aa (wpAny_dictEpoch g dat (Aa (BW (Ah ⟨_,rfl,"dict_keyiterator",_,⟨_,AB _ rfl,rfl⟩,PySem.F.slot_dict_keyiterator_next.lookup,?_⟩))))))));simpa[CC]using k
theorem zjm{e:DictEntry}{Q:Option Value -> Ac -> Prop}(st:s.heap.IsKeyIter it d i es.size ep)(g:s.heap.get? d=some od)(dat:od.data = .dict es ep)(he:es[i]? = some e)
  (k:∀h',h'.IsKeyIter it d (i+1) es.size ep->Cq it s.heap h'->Q (some e.key) { s with heap:=h' }):Ar (Az prog w) A (pyNext (.ref it)) Q E s:=by
 obtain⟨o,go,oc,odt⟩:=id st;unfold pyNext;refine Aa (wpAny_attempt (C6 (name:=Aq "__next__") st.typeIs B8 (DC B8 st.typeIs DQ ?_ (DI _))));refine Aa (Ah (Aa (Aa ?_)));refine Aa (Cz st.typeIs (Ah (Aa (wpAny_fieldsOf go odt ?_))));simp only[show Builtin.Dict_items.ownsTuple "dict_keyiterator" = false by decide,BP,if_false];show Ar (Az prog w) _ (if (Ao d == Bk)=true then _ else _) _ _ s;rw[if_neg (show ¬ (Ao d == Bk)=true by simp)];refine Aa (Ah (Aa (wpAny_dictEntries g dat ?_)));rw[if_neg (show ¬ ((es.size:Int) != (es.size:Int))=true by simp)];refine Aa (Ah (Aa (wpAny_dictEpoch g dat ?_)));rw[if_neg (show ¬ ((ep:Int) != (ep:Int))=true by simp)];refine Ah ?_
 simp only[show ¬ ((i:Int)<0) by lia,if_false,CW,he];refine Aa (Aa (Cz st.typeIs (Ah ?_)));refine Aa (wpAny_isOneOf_keyiter st.typeIs ?_);show Ar (Az prog w) _ (setField (.ref it) 1 (CC ((i:Int)+1)) >>= _) _ _ s;refine Aa (wpAny_setField go odt (by simp) ?_)
 have st':(s.heap.update it (Dm (·.setIfInBounds 1 (CC ((i:Int)+1))))).IsKeyIter it d (i+1) es.size ep:=by refine⟨_,CQ _ go (Obj.isFreed_of_fields (DY odt _)),(Obj.cls_mapFields ..).trans oc,?_⟩;rw[DY odt];simp[CC]
 refine Aa (Bw (Aa (wpAny_isOneOf_keyiter (s:={ s with heap:=s.heap.update it (Dm (·.setIfInBounds 1 (CC ((i:Int)+1)))) }) st'.typeIs ?_)));show Ar (Az prog w) _ (pure e.key) _ _ _;exact Ah (Ah ⟨_,rfl,Ah (k _ st' (BK ..))⟩)
theorem zkp{Q:Option Value -> Ac -> Prop}(hh:A.handled=none)(st:s.heap.IsKeyIter it d i es.size ep)(g:s.heap.get? d=some od)(dat:od.data = .dict es ep)(he:es.size <= i)
  (k:∀h',Heap.ExtBut it s.heap h'->Q none { s with heap:=h' }):Ar (Az prog w) A (pyNext (.ref it)) Q E s:=by
 obtain⟨o,go,oc,odt⟩:=id st;unfold pyNext;refine Aa (wpAny_attempt (C6 (name:=Aq "__next__") st.typeIs B8 (DC B8 st.typeIs DQ ?_ (DI _))));refine Aa (Ah (Aa (Aa ?_)));refine Aa (Cz st.typeIs (Ah (Aa (wpAny_fieldsOf go odt ?_))));simp only[show Builtin.Dict_items.ownsTuple "dict_keyiterator" = false by decide,BP,if_false];show Ar (Az prog w) _ (if (Ao d == Bk)=true then _ else _) _ _ s;rw[if_neg (show ¬ (Ao d == Bk)=true by simp)];refine Aa (Ah (Aa (wpAny_dictEntries g dat ?_)));rw[if_neg (show ¬ ((es.size:Int) != (es.size:Int))=true by simp)];refine Aa (Ah (Aa (wpAny_dictEpoch g dat ?_)));rw[if_neg (show ¬ ((ep:Int) != (ep:Int))=true by simp)];refine Ah ?_
 simp only[show ¬ ((i:Int)<0) by lia,if_false,CW,Array.getElem?_eq_none he];refine Aa (Aa (Cz st.typeIs (Ah ?_)));show Ar (Az prog w) _ (setField (.ref it) 0 .none >>= _) _ _ s;refine Aa (wpAny_setField go odt (by simp) ?_);show Ar (Az prog w) _ (newExc (.type "StopIteration") [] >>= _) _ _ _;refine Aa ?_
 simp only[newExc,newTuple];refine Aa (BW ?_ (by size_fits));refine Aa (m:=firstArgMember _ _) (wpAny_of_eq (a:=Bk) (by first |rfl | (simp only[firstArgMember];rfl)) (BW ?_ (by size_fits)));simp only[raiseNew];refine Aa (wpAny_handled ?_);rw[show A.in1.handled=none from hh];refine Aa (Ah (wpAny_throw (?_:Ar _ _ _ _ _ _)));exact Aa (wpAny_isInstance (b:=true) (T:="StopIteration") ⟨_,AB _ rfl,rfl⟩ isSubtype_stop (Ah (k _ (((BK ..).extBut.push _).push _))))
end
noncomputable def Itd(a:Addr)(od:Obj):It :=
 ⟨λi H=>∃kvs,H a=some (.frz od (.dT kvs))/\i<kvs.length,λi H x H'=>H'=H/\∀kvs,H a=some (.frz od (.dT kvs))->∃b k v,x=.ref b/\kvs[i]?=some (k,v)/\H b=some (.tup (k.map kV)),λi H=>∃kvs,H a=some (.frz od (.dT kvs))/\kvs.length<=i⟩
theorem Paired.at'{α β:Type}{F:α->β->Prop}:∀{l:List α}{m:List β},Paired F l m->∀{i:Nat}{x:α},l[i]?=some x->∃y,m[i]?=some y/\F x y
 |_,_,.cons r t,0,x,h=>by cases h;exact⟨_,rfl,r⟩
 |_,_,.cons r t,i+1,x,h=>Paired.at' t h
theorem zis{P:AF}{w:A5}{K:W.Frag}{tg:Expr}(a it:Addr)(od:Obj){es:Array DictEntry}{ep:Nat}(dat:od.data=.dict es ep):Turn P w K tg (Itd a od) [it] it (λi h=>h.IsKeyIter it a i es.size ep) where
 mem:=by simp
 obj:=λi h st b hb=>by
  have e:b=it:=by simpa using hb
  subst e;obtain⟨o,e,c,d⟩:=st;exact⟨o,e,λv z=>by rw[d]at z;cases z⟩
 keep:=λi h h' st k=>st.at λo e=>k it (by simp) o e
 item:=by
  intro X hP hw hK hc i pins s σ H E I hf st hg;subst hP hw hK;obtain⟨kvs,e,hi⟩:=hg;obtain⟨g,z,y,xs,r,o,es',ep',h1,h2,h3,h4,h5⟩:=(show ObjOk X.prog X.w H s.heap a (.frz od (.dT kvs)) from I.hok a _ e);rw[g]at h1
  cases h1
  rw[dat]at h3
  cases h3
  obtain⟨q,hq,q1,q2,q3⟩:=Paired.at' r (Ab hi);have he:es[i]?=some (entryOfKey (tupleKind (zaH X.prog X.w)) q):=by rw[entry_at h4,hq];rfl
  obtain⟨f0,f1,f2,f3,f4,f5⟩:=hf it (by simp);refine zjm st g dat he λh' st' sb=>?_
  have I1:Inv X pins σ H { s with heap:=h' }:=I.turned (t':=s.toks) (λb o hb e=>(sb.2 b hb).trans e) f0 f1 f3 f4 f5;obtain⟨o,e',c,dd⟩:=id st';refine⟨_,rfl,go_of (s:={ s with heap:=h' }) e' c dd (by decide) ⟨.ref q.2.1,H,I1,rfl,⟨rfl,λks hk=>?_⟩,st',λb hb=>(hf b hb).1⟩⟩;rw[e]at hk
  cases hk
  exact⟨q.2.1,kvs[i].1,kvs[i].2,rfl,Ab hi,q2⟩
 done:=by
  intro X hP hw hK hc i pins s σ H E I hf st hg;subst hP hw hK;obtain⟨kvs,e,hi⟩:=hg;obtain⟨g,z,y,xs,r,o,es',ep',h1,h2,h3,h4,h5⟩:=(show ObjOk X.prog X.w H s.heap a (.frz od (.dT kvs)) from I.hok a _ e);rw[g]at h1
  cases h1
  rw[dat]at h3
  cases h3
  obtain⟨f0,f1,f2,f3,f4,f5⟩:=hf it (by simp);exact zkp (I.ok.hd hc) st g dat (by rw[size_of_entries h4,<- DK r];exact hi) λh' eb=>⟨rfl,I.turned (t':=s.toks) (λb o hb e=>eb b o hb e) f0 f1 f3 f4 f5⟩
 self:=λ_ _ _ _ _ st h=>wpAny_pyIter_keyiter st h
section
variable {X:Cx}{tg:Expr}
noncomputable def zmH(tl:TE):TI:=λσ H R=>tl σ H λx H1=>∃a kvs,x=.ref a/\H1 a=some (.dT kvs)/\∀od,R (Itd a od) (upd H1 a (.frz od (.dT kvs)))
theorem zka{l:Expr}{tl:TE}(hl:PE X l tl):PI X tg l (zmH tl):=by
 intro pins s σ H R I h;refine thn (hl pins s σ H _ I h) λv s1 ⟨x,H1,I1,r1,q1⟩=>?_
 obtain⟨a,kvs,e,hd,q⟩:=q1;subst e
 cases r1
 obtain⟨z,y,xs,r,od,es,ep,h1,h2,h3,h4,h5⟩:=(show ObjOk X.prog X.w H1 s1.heap a (.dT kvs) from I1.hok a _ hd)
 have I2:Inv X pins σ (upd H1 a (.frz od (.dT kvs))) s1:=I1.write (h':=s1.heap) (t':=s1.toks) (x:=a) (e:=a) (by rw[hd];exact Cb) (.inl rfl) (λb u _ g=>g) ⟨od,h1⟩
  ⟨h1,z,y,xs,KT.keeps r (λc ys ec=>by rw[zai (ne_of ec hd (λz=>nomatch z))];exact ec),od,es,ep,h1,h2,h3,h4,h5⟩
 refine zjn y h1 h2 h3 ?_
 refine⟨s1.heap.objs.size,[s1.heap.objs.size],_,_,_,rfl,I2.kept (t':=s1.toks) λb o e=>Ag _ e,zis a _ od h3,⟨_,AB _ rfl,rfl,rfl⟩,λb hb=>?_,q od⟩;have e:b=s1.heap.objs.size:=by simpa using hb
 subst e;exact I2.fpOk (Aj _) (I2.hok.fresh (Aj _))
end
theorem zkz{a:Addr}{od:Obj}{kvs:List (List Key × V)}{g:TG}{tb:TS}{D:Ends}{σ : St}{H:Hp}(Pv:Nat -> St -> Hp -> Prop)(h0:Pv 0 σ H)(hl:∀i σ H, i <= kvs.length -> Pv i σ H -> H a=some (.frz od (.dT kvs)))
  (hs:∀i b k v σ H,kvs[i]?=some (k,v)->H b=some (.tup (k.map kV))->Pv i σ H->g (.ref b) σ H λσ2 H2=>tb { D with nx:=Pv (i+1),ct:=Pv (i+1),bk:=D.nx } σ2 H2) (hd:∀ σ H,Pv kvs.length σ H->D.nx σ H) :
  ∃W:Nat->Nat->St->Hp->Prop,(∃m,W 0 m σ H)/\∀i m σ H,W i m σ H ->
   ((Itd a od).stop i H/\D.nx σ H)∨((Itd a od).go i H/\∃N:St->Hp->Prop,(∀ σ' H',N σ' H'->∃m',m'<m/\W (i+1) m' σ' H')/\∀x H',(Itd a od).yld i H x H'->g x σ H' λσ2 H2=>tb { D with nx:=N,ct:=N,bk:=D.nx } σ2 H2):=by
 refine⟨λi m σ H=>m=kvs.length-i/\i<=kvs.length/\Pv i σ H,⟨kvs.length,by simp,A6 _,h0⟩,?_⟩;rintro i m σ H ⟨rfl,hi,p⟩;have q:=hl i σ H hi p
 by_cases hlt:i<kvs.length
 .refine .inr ⟨⟨kvs,q,hlt⟩,Pv (i+1),λσ' H' p'=>⟨kvs.length-(i+1),by lia,rfl,hlt,p'⟩,λx H' y=>?_⟩;obtain⟨e,y⟩:=y;subst e;obtain⟨b,k,v,rfl,h1,h2⟩:=y kvs q;exact hs i b k v σ _ h1 h2 p
 .have e:i=kvs.length:=by lia
  subst e;exact .inl ⟨⟨kvs,q,Aj _⟩,hd σ H p⟩
section
variable {prog:AF}{w:A5}{K:Type} [DecidableEq K] {knd:HeapKind prog w K}{A:AO}{E:Value->Ac->Prop}{s:Ac}{d a:Addr}{xs:List (K×Addr×Value)}{k:K}
end
section
variable {X:Cx}{o e f:Expr}{apos cpos:Pos}{td ty tx:TE}
end
end L2
namespace RP
end RP
namespace L2
open PySem PySem.Spec PyProof.Rows
section
variable {X:Cx}
end
end L2
namespace HT
open PySem PyProof.Rows
variable {prog:AF}{w:A5}{A:AO}{E:Value->Ac->Prop}{s:Ac}
end HT
namespace L2
open PySem PySem.Spec PyProof.Rows
section
variable {X:Cx}{e es:Expr}{te ts:TE}{pos p2:Pos}
end
section
variable {prog:AF}{w:A5}{A:AO}{E:Value->Ac->Prop}{s:Ac}
end
section
variable {X:Cx}
end
section
variable {X:Cx}
end
section
variable {prog:AF}{w:A5}{A:AO}{E:Value->Ac->Prop}{s:Ac}
end
section
variable {X:Cx}{pins:List (Addr×Obj)}{σ:St}
end
section
variable {X:Cx}{l m:Expr}{t:TA}{p p2 pos pos2:Pos}
end
section
variable {X:Cx}{a:Expr}{t:TA}{p p2 pos pos2:Pos}
end
section
variable {X:Cx}
end
section
variable {X:Cx}{tg:Expr}
end
section
variable {X:Cx}{pos:Pos}{kx vx:Expr}{tk tv:TE}
end
open AutoSeq1 (wpAny_loadPart')
section
variable {prog:AF}{w:A5}{A:AO}{E:Value->Ac->Prop}{s:Ac}{d:Addr}{ep:Nat}{es:Array DictEntry}{od:Obj}
end
section
variable {X:Cx}
end
section
variable {X:Cx}{es:List Expr}{te:TE}{t:TA}{pos:Pos}
theorem pa_T{l:List Expr}{k:Nat}(ha:PE X (.Tuple l k pos) te)(hr:PA X es t):PA X (.Tuple l k pos::es) (tCons te t):=zag ha hr (by rfl)
theorem pa_C{c:Const}{k:Nat}(ha:PE X (.Constant c k pos) te)(hr:PA X es t):PA X (.Constant c k pos::es) (tCons te t):=zag ha hr (by rfl)
theorem pa_U{o:UnaryOp}{a:Expr}(ha:PE X (.UnaryOp o a pos) te)(hr:PA X es t):PA X (.UnaryOp o a pos::es) (tCons te t):=zag ha hr (by rfl)
theorem pa_B{a b:Expr}{o:Operator}(ha:PE X (.BinOp a o b pos) te)(hr:PA X es t):PA X (.BinOp a o b pos::es) (tCons te t):=zag ha hr (by rfl)
theorem pa_N{x:Str}(ha:PE X (.Name x pos) te)(hr:PA X es t):PA X (.Name x pos::es) (tCons te t):=zag ha hr (by rfl)
end
theorem zaw{i:Nat}{v:V}{σ:St}{H:Hp}{Q:St->Hp->Prop}:gName i v σ H Q=Q (σ.set i (some v)) H:=rfl
theorem zmQ{i:Nat}{v:V}{u:TS}{D:Ends}{σ:St}{H:Hp}:tSeq (tAsg (tC v) (gName i)) u D σ H=u D (σ.set i (some v)) H:=rfl
section
variable {X:Cx}{tg:Expr}
end
inductive IsC:Expr->V->Prop where
 |int {n:Int} {k:Nat} {p:Pos}:IsC (.Constant (.int n) k p) (.int n)
 |bl {b:Bool} {k:Nat} {p:Pos}:IsC (.Constant (.bool b) k p) (.bl b)
 |neg {n:Int} {k:Nat} {p q:Pos}:IsC (.UnaryOp .USub (.Constant (.int n) k p) q) (.int (-n))
inductive IsPs:List Expr->List (V×V)->Prop where
 |nil:IsPs [] []
 |cons {a b:Expr} {x y:V} {k:Nat} {p:Pos} {es:List Expr} {l:List (V×V)}:IsC a x->IsC b y->IsPs es l->IsPs (.Tuple [a,b] k p::es) ((x,y)::l)
inductive RetPs:List Stmt->List (V×V)->Prop where
 |mk {es:List Expr} {l:List (V×V)} {p q:Pos}:IsPs es l->RetPs [.Return (some (.List es p)) q] l
section
variable {X:Cx}
end
section
variable {X:Cx}
end
section
variable {prog:AF}{w:A5}{A:AO}{E:Value->Ac->Prop}{s:Ac}{T:String}{r d:Addr}{n:Nat}{P:Nat->Value->Prop}{OK:Heap->Prop}
end
section
variable {X:Cx}
end
section
variable {X:Cx}{o e f:Expr}{apos cpos:Pos}{td ty tx:TE}
end
section
variable {X:Cx}{tg:Expr}
end
section
variable {prog:AF}{w:A5}{A:AO}{E:Value->Ac->Prop}{s:Ac}{d it v:Addr}{i ep:Nat}{es:Array DictEntry}{od:Obj}{ok ov:Value}
end
section
variable {X:Cx}
end
end L2
namespace RP
noncomputable def bv(w:Nat):Int:=if w=1∨w=2 then 1 else 0
noncomputable def tt(C:Cell->Bool)(e:Edge):Int:=match stepB C e with
 |none=>1
 |some s=>if s % 2=1 then -1 else 0
noncomputable def eL(w:Nat):Int:=(if w=2∨w=3 then 1 else 0)-(if w=1∨w=2 then 1 else 0)+bv w
noncomputable def cr(x1 y1 x2 y2:Int):Int:=if y1=-1/\y2=0/\0<x2 then 1 else if y1=0/\y2=-1/\0<x1 then -1 else 0
section
variable (U V:Nat->Int)
noncomputable def hH(i j:Nat):Int:=cr (U j-U i) (V j-V i) (U (j+1)-U i) (V (j+1)-V i)
noncomputable def gG(i j:Nat):Int:=cr (U j-U i) (V j-V i) (U j-U (i+1)) (V j-V (i+1))
noncomputable def sE:Nat->Int
 | 0=>0
 |i+1=>sE i+hH U V i (i+1)+gG U V i (i+2)
variable {U V}
variable {n:Nat}
end
noncomputable def it(C:Cell->Bool)(b:Edge):Nat->Edge
 | 0=>b
 |k+1=>nxt C (it C b k)
noncomputable def wW(C:Cell->Bool)(b:Edge):Nat->Int
 | 0=>b.w
 |k+1=>wW C b k+tt C (it C b k)
noncomputable def th(C:Cell->Bool)(b:Edge)(k:Nat):Int:=2*wW C b k-1+tt C (it C b k)
theorem Closed.head{C:Cell->Bool}{b a:Edge}{r:List Edge}(h:Closed C b (a::r)):a=b:=by have:=h.1.1;simpa using this
theorem Closed.rot1{C:Cell->Bool}{b c:Edge}{r:List Edge}(h:Closed C b (b::r))(hc:(r++[b])[0]?=some c):Closed C c (r++[b]):=by
 obtain⟨⟨h0,hs,hE,hn⟩,l,hl,hb⟩:=id h;refine⟨⟨hc,λi e f h1 h2=>?_,λe he=>hE e (by rcases Ap.mp he with m |m;exact AI _ m;rw[Ak.mp m];exact AQ),?_⟩,?_⟩
 .have hi:=(Ad.mp h2).1;simp only[Af,Be,Cg]at hi;rw[AK (by lia)]at h1;rcases Bi (i+1) r.length with q |q
  .rw[AK q]at h2;exact hs (i+1) e f (by simpa using h1) (by simpa using h2)
  .have e1:i+1=r.length:=by lia
   rw[AW (by lia),e1]at h2;simp at h2;have e2:(b::r).length-1=i+1:=by simp;lia
   rw[e2]at hl;simp only[D4]at hl;rw[hl]at h1
   cases h1
   rw[hb,h2]
 .rw[List.nodup_append];have:=CU.mp hn;exact⟨this.2,by simp,λx hx y hy e=>by rw[Ak.mp hy]at e;rw[e]at hx;exact this.1 hx⟩
 .refine⟨b,by simp,?_⟩
  cases r with
  |nil =>
   simp at hl hc;subst hc;subst hl;exact hb
  |cons a r =>
   simp at hc;have:=hs 0 b a rfl rfl;rw[<- this,hc]
theorem Closed.rot{C:Cell->Bool}:∀(j:Nat){b e:Edge}{es:List Edge},Closed C b es->es[j]?=some e->Closed C e (es.drop j++es.take j)
 | 0,b,e,es,h,he=>by
  have:=h.1.1;rw[he]at this
  cases this
  simpa using h
 |j+1,b,e,[],h,he=>by simp at he
 |j+1,b,e,a::r,h,he=>by
  have:=h.head;subst this;simp only[D4]at he;have hj:=(Ad.mp he).1;obtain⟨c,hc⟩:∃c,(r++[a])[0]?=some c:=⟨_,Ab (by simp)⟩;have h1:=h.rot1 hc;have h2:=Closed.rot j h1 (by rw[AK hj];exact he);rw[List.drop_append_of_le_length (by lia),C9 (by lia)]at h2;simpa using h2
noncomputable def wc(c:Cell)(e:Edge):Int:=if e.c.2=c.2/\c.1<px e then dy e.w else 0
noncomputable def wd(es:List Edge)(c:Cell):Int:=(es.map (wc c)).sum
inductive Rch (D:Cell->Bool) (S:List Nat) (a:Cell):Cell->Prop where
 |refl:Rch D S a a
 |step {c:Cell} {s:Nat}:Rch D S a c->s∈S->D (go c s)=true->Rch D S a (go c s)
noncomputable abbrev no(C:Cell->Bool):Cell->Bool:=λc=>!C c
structure BoxOf (P:List Cell) (l lo r hi:Int):Prop where
 all:∀c∈P,l<c.1/\c.1<r/\lo<c.2/\c.2<hi
 bot:∃c∈P,c.2=lo+1
noncomputable def inBox(l lo r hi:Int)(c:Cell):Prop:=l<=c.1/\c.1<=r/\lo<=c.2/\c.2<=hi
structure FreeOf (D:Cell->Bool) (P:List Cell) (l lo r hi:Int):Prop where
 iff:∀c,D c=true ↔ (inBox l lo r hi c/\c ∉ P)
section
variable {C D:Cell->Bool}{b:Edge}{es:List Edge}{P:List Cell}{l lo r hi:Int}
end
section
variable {D:Cell->Bool}{P:List Cell}{l lo r hi:Int}
end
section
variable {C D:Cell->Bool}{b:Edge}{es:List Edge}{P:List Cell}{l lo r hi:Int}
end
noncomputable def zaD(s:Nat):Nat:=(s+1) / 2 % 4
noncomputable def wayB(s:Nat):Nat:=(zaD s+4-s % 2) % 4
noncomputable def dgo:Nat->List Nat->List (Option Nat)×Nat
 |w,[]=>([],w)
 |w,s::r=>(Ae ((zaD s+4-w) % 4) none++some s::(dgo (wayB s) r).1,(dgo (wayB s) r).2)
noncomputable def zar(w:Nat)(row:List Nat):Nat:=if row.isEmpty then 4 else (w+4-(dgo w row).2) % 4
noncomputable def deeds(w:Nat)(row:List Nat):List (Option Nat):=(dgo w row).1++Ae (zar w row) none
end RP
namespace L2
open PySem PySem.Spec PyProof.Rows
noncomputable def But1(P:Addr)(H H':Hp):Prop:=∀b o,b≠P->H b=some o->H' b=some o
theorem But1.trans{P:Addr}{H H1 H2:Hp}(a:But1 P H H1)(b:But1 P H1 H2):But1 P H H2:=λc o n h=>b c o n (a c o n h)
theorem Same.but1{P:Addr}{H H':Hp}(h:Same H H'):But1 P H H':=λb o _ e=>h b o e
noncomputable abbrev anyO:HO:=.ext λ_=>True
noncomputable def LamAt(pos:Pos)(qual:Str)(P:Addr)(H:Hp):Prop :=
 ∃ps,H P=some (.tbl ps)/\(ps=#[]∨∃c' oc vs t,ps=#[CC pos.line,CC pos.col,.ref c']/\H c'=some (.frz oc anyO)/\oc.data=.fields vs/\vs[1]?=some (.str qual t))
theorem LamAt.same{pos:Pos}{qual:Str}{P:Addr}{H H':Hp}(h:LamAt pos qual P H)(s:Same H H'):LamAt pos qual P H':=by
 obtain⟨ps,e,h⟩:=h;refine⟨ps,s _ _ e,?_⟩;rcases h with h |⟨c',oc,vs,t,e1,e2,e3⟩
 .exact .inl h
 .exact .inr ⟨c',oc,vs,t,e1,s _ _ e2,e3⟩
theorem LamAt.ne{pos:Pos}{qual:Str}{P a:Addr}{H:Hp}{o:HO}(h:LamAt pos qual P H)(e:H a=some o)(n:∀ps,o≠.tbl ps):a≠P:=by rintro rfl;obtain⟨ps,e',_⟩:=h;rw[e]at e';exact n ps (A9 e')
theorem But1.seq{K:W.Frag}{pos:Pos}{qual:Str}{P a:Addr}{H H':Hp}{xs:List V}(e:But1 P H H')(l:LamAt pos qual P H)(h:SqL K H a xs):SqL K H' a xs:=by
 rcases h with (h |⟨o,h⟩) |h
 .exact .inl (.inl (e _ _ (l.ne h nofun) h))
 .exact .inl (.inr ⟨o,e _ _ (l.ne h nofun) h⟩)
 .exact .inr h
noncomputable def Bm(mg:Str->Option Value)(base:Heap):Prop :=
 ∃bm o,mg "__builtins__" = some (.ref bm)/\bm≠builtinsNs/\bm≠AL/\base.get? bm=some o/\o.cls=.type "module" /\ o.dict=some builtinsNs/\o.data=.plain
section
variable {X:Cx}{pins:List (Addr×Obj)}{σ:St}{H:Hp}{s:Ac}
theorem Inv.lamNew{P c':Addr}{ps more:Array Value}{h1:Heap}{oc fo:Obj}{tk:Nat}(I:Inv X pins σ H s)(hP:H P=some (.tbl ps))(hx:Heap.ExtBut P s.heap h1)(hge:s.heap.objs.size <= c')(hlt:c' < h1.objs.size)
  (hc:h1.get? c'=some oc) (htb:h1.get? P=some (W.tabObj (ps++more))) (hfo:fo.isFreed=false) :
  Inv X pins σ (upd (upd (upd H P (.tbl (ps++more))) c' (.frz oc anyO)) h1.objs.size (.frz fo anyO)) { s with heap:=h1.push fo,toks:=tk }:=by
 have hPs:s.heap.get? P=some (W.tabObj ps):=I.hok P _ hP;have lP:P<s.heap.objs.size:=Ax hPs;have cP:c'≠P:=Cr (AC lP hge);have fP:h1.objs.size≠P:=Cr (Nat.lt_trans (AC lP hge) hlt);have fc:h1.objs.size≠c':=Cr hlt;have k1:∀b o,b≠P->s.heap.get? b=some o->(h1.push fo).get? b=some o:=λb o n e=>Ag _ (hx b o n e)
 have old:∀b o,s.heap.get? b=some o->b≠c'/\b≠h1.objs.size:=λb o e =>
  ⟨AV (AC (Ax e) hge),AV (AC (Ax e) (AN hge (Bc hlt)))⟩
 have val:∀b u,b≠P->H b=some u->upd (upd (upd H P (.tbl (ps++more))) c' (.frz oc anyO)) h1.objs.size (.frz fo anyO) b=some u:=λb u n e=>by have lb:=I.hok.lt e;rw[zai (AV (AC lb (AN hge (Bc hlt)))),zai (AV (AC lb hge)),zai n];exact e
 have vP:upd (upd (upd H P (.tbl (ps++more))) c' (.frz oc anyO)) h1.objs.size (.frz fo anyO) P=some (.tbl (ps++more)):=by rw[zai fP.symm,zai cP.symm,zaa]
 have nP:∀b u,H b=some u->(∀qs,u≠.tbl qs)->b≠P:=λb u e n z=>by rw[z,hP]at e;exact n ps (A9 e).symm
 refine I.un ⟨λb o e n _ _=>?_,λb o e n _ _=>?_,λb o e n _=>?_,λb o e _=>?_,λb xs e=>?_,λb o u e=>?_,λb qs e=>?_⟩ λb u e=>?_
 .exact k1 b o (λz=>by rw[z,hP]at n;cases n) e
 .exact⟨o.slots,k1 b o (λz=>by rw[z,hP]at n;cases n) e⟩
 .obtain⟨n1,n2⟩:=old b o e;rw[zai n2,zai n1,zai (λz=>by rw[z,hP]at n;cases n)];exact n
 .by_cases z:b=P
  .rw[z];exact⟨_,Ag _ htb⟩
  .exact⟨o,k1 b o z e⟩
 .exact val b _ (nP b _ e nofun) e
 .exact val b _ (nP b _ e nofun) e
 .by_cases z:b=P
  .rw[z,hP]at e
   cases e
   exact⟨more,by rw[z];exact vP⟩
  .exact⟨#[],by rw[val b _ z e];simp⟩
 .by_cases hf:b=h1.objs.size
  .rw[hf,zaa]at e
   cases e
   rw[hf];exact⟨AB _ hfo,trivial,⟨fo,AB _ hfo⟩,λ_ _ _ _=>trivial⟩
  .rw[zai hf]at e
   by_cases hb:b=c'
   .rw[hb,zaa]at e
    cases e
    rw[hb];exact⟨Ag _ hc,trivial,⟨oc,Ag _ hc⟩,λ_ _ _ _=>trivial⟩
   .rw[zai hb]at e
    by_cases hz:b=P
    .rw[hz,zaa]at e
     cases e
     rw[hz];exact Ag _ htb
    .rw[zai hz]at e;refine (I.hok b u e).stay (λd v hd q=>k1 d v ?_ q) (λd q=>val d _ (nP d _ q nofun) q) λd xs q=>val d _ (nP d _ q nofun) q
     rcases hd with rfl |hd
     .exact hz
     .exact nP d _ hd nofun
noncomputable def IsLam(qual:Str)(params:Arguments)(body:Expr)(scope:Scope)(f:Addr)(H:Hp):Prop :=
 ∃c' ctv pm oc vs t,H f=some (.frz (W.kla_obj "<lambda>" qual params body scope [] pm c' ctv) anyO)/\H c'=some (.frz oc anyO)/\oc.data=.fields vs/\vs[1]?=some (.str qual t)
theorem IsLam.same{qual:Str}{params:Arguments}{body:Expr}{scope:Scope}{f:Addr}{H H':Hp}(h:IsLam qual params body scope f H)(s:Same H H'):IsLam qual params body scope f H' :=
 let ⟨c',ctv,pm,oc,vs,t,e1,e2,r⟩:=h
 ⟨c',ctv,pm,oc,vs,t,s _ _ e1,s _ _ e2,r⟩
noncomputable def tLam(P:Addr)(pos:Pos)(qual:Str)(params:Arguments)(body:Expr)(scope:Scope):TE:=λ_ H Q =>
 LamAt pos qual P H/\∀f H',But1 P H H'->LamAt pos qual P H'->H f=none->IsLam qual params body scope f H'->Q (.ref f) H'
theorem zl2{pos:Pos}{c:Value}:TriplesOk (#[CC pos.line,CC pos.col,c]:Array Value).toList:=by simp[TriplesOk,CC]
theorem ziu{pos:Pos}{c:Value}:codeAmong pos (#[CC pos.line,CC pos.col,c]:Array Value).toList=some c:=by simp[codeAmong,CC]
theorem zmq {c P:Addr}{params:Arguments}{body:Expr}{scope:Scope}{pos:Pos}{qual:Str}(hcd:X.env.code = .ref c) (hh:Dd X.K c P=true) (hB:Bm X.mg X.base) (hq:X.env.qual ++ "<lambda>" = qual)
  (hfree:∀x∈scope.names,x.2≠.free:=by decide) (hdef:defaultsOf params X.env=([],[]):=by rfl):PE X (.Lambda params body scope pos) (tLam P pos qual params body scope):=by
 intro pins s σ H Q I h;obtain⟨⟨ps,hP,hps⟩,h⟩:=h;have hPs:s.heap.get? P=some (W.tabObj ps):=I.hok P _ hP
 have nb:∀b o,X.base.get? b=some o->b≠P:=λb o e z=>by
  have:=(I.bs b o e).2;rw[z,hP]at this
  cases this
 have hg:s.heap.Ns AL X.mg:=I.mod.glob.keeps I.bk
 have hgP:AL≠P:=by obtain⟨o,es,ep,e,_⟩:=I.mod.glob;exact nb _ o e
 have C:W.CodeHd s.heap c P:=W.codeHd_of_K I.kIn hh
 have hb:s.heap.BuiltinsAt X.mg P:=by obtain⟨bm,o,b1,b2,b3,b4,b5⟩:=hB;exact⟨bm,o,b1,b2,b3,nb _ o b4,I.bk _ _ b4,b5⟩
 have fr:∀b,s.heap.objs.size<=b->H b=none:=λb e=>I.hok.fresh e
 refine W.kla_eval hdef ?_
 rw[hq];rcases hps with rfl |⟨c',oc,vs,t,rfl,hc',hd,hv⟩
 .refine W.kla_makeFunction (mg:=X.mg) (clos:=[]) (closureFor_none hfree) I.ok.glob hg hcd C hPs trivial rfl hgP hb λc' ctv h' tk hx hge hlt hrec htb=>?_
  obtain⟨c2,oc,vs,t,e2,hoc,hd,hv⟩:=hrec
  cases e2
  have lP:P<s.heap.objs.size:=Ax hPs;have cP:c'≠P:=Cr (AC lP hge);have fP:h'.objs.size≠P:=Cr (Nat.lt_trans (AC lP hge) hlt);refine⟨.ref h'.objs.size,_,I.lamNew (more:=#[CC pos.line,CC pos.col,.ref c']) hP hx hge hlt hoc htb rfl,rfl,h _ _ ?_ ?_ (fr _ (AN hge (Bc hlt))) ⟨c',ctv,_,oc,vs,t,zaa,?_,hd,hv⟩⟩
  .intro b o n e;rw[zai (λz=>by rw[z,fr _ (AN hge (Bc hlt))]at e;cases e),zai (λz=>by rw[z,fr _ hge]at e;cases e),zai n];exact e
  .refine⟨#[]++#[CC pos.line,CC pos.col,.ref c'],?_,.inr ⟨c',oc,vs,t,by simp,?_,hd,hv⟩⟩
   .rw[zai fP.symm,zai cP.symm,zaa]
   .rw[zai (AV hlt),zaa]
  .rw[zai (AV hlt),zaa]
 .refine W.kla_makeFunctionHit (mg:=X.mg) (clos:=[]) (cv:=.ref c') (closureFor_none hfree) I.ok.glob hg hcd C hPs zl2 ziu hb λctv h' tk hk hsz=>?_
  have hf:H h'.objs.size=none:=fr _ hsz;refine⟨.ref h'.objs.size,upd H h'.objs.size (.frz (W.kla_obj "<lambda>" qual params body scope [] ((X.mg "__name__").getD .none) c' ctv) anyO),?_,rfl,h _ _ ?_ ?_ hf ⟨c',ctv,(X.mg "__name__").getD .none,oc,vs,t,zaa,?_,hd,hv⟩⟩
  .have I1:Inv X pins σ H { s with heap:=h',toks:=tk }:=I.kept (t':=tk) hk;have I2:=I1.un (h':=h'.push (W.kla_obj "<lambda>" qual params body scope [] ((X.mg "__name__").getD .none) c' ctv)) (t':=tk) (Un.laid (a:=h'.objs.size) (o:=.frz (W.kla_obj "<lambda>" qual params body scope [] ((X.mg "__name__").getD .none) c' ctv) anyO) (λb u e=>Ag _ e) (Aj _) hf) (I1.hok.laid (λb u e=>Ag _ e) (Aj _) ⟨AB _ rfl,trivial,⟨_,AB _ rfl⟩,λ_ _ _ _=>trivial⟩);exact I2
  .intro b o n e;rw[zai (λz=>by rw[z,hf]at e;cases e)];exact e
  .refine⟨_,by rw[zai (zaj hP hf)];exact hP,.inr ⟨c',oc,vs,t,rfl,?_,hd,hv⟩⟩;rw[zai (zaj hc' hf)];exact hc'
  .rw[zai (zaj hc' hf)];exact hc'
end
theorem zmi{P:AF}{w:A5}{K:W.Frag}{mg:Str -> Option Value}{base:Heap}{k:Nat}{f c':Addr}{qual:Str}{params:Arguments}{body:Expr}{scope:Scope}{pm ctv:Value}{oc:Obj}{ws:Array Value}{t:Tok}
  {N ps:List Str} {A:AO} {outer:List Env} {s:Ac} {H:Hp} {us:List Value} {vs:List V} {Q:VK} {te:TE} (hr:Room (k+1) A) (e0:Env0 P w K mg base A outer s H)
  (hf:H f=some (.frz (W.kla_obj "<lambda>" qual params body scope [] pm c' ctv) anyO)) (hc:H c'=some (.frz oc anyO)) (hd:oc.data=.fields ws) (hv:ws[1]?=some (.str qual t)) (S:FnScope N ps scope)
  (hb:DM (W.kla_fn "<lambda>" qual params body scope [] pm (.ref c') ctv) ⟨us,[]⟩=pure (ps.zip us)) (hl:vs.length=ps.length) (r:Vals vs us)
  (hbody:PE (cxOf CX0 P w K mg base N qual scope f (.ref c') A outer s H E0).nox body te) (hq:te (start N vs) H Q) :
  Da (Az P w) A (.call (.ref f) ⟨us,[]⟩) (CR CX0 outer P w H s Q E0) s:=by
 have lim:s.heap.NoLimit:=e0.mod.nolimit.keeps λb o e=>(e0.bs b o e).1
 have hfo:=(e0.hok f _ hf).1;have hco:=(e0.hok c' _ hc).1
 have hkind:∀y∈ps.zip us,scope.names.lookup y.1=some .local∨(scope.names.lookup y.1=some .cell/\((cellsFrom (s.heap.objs.size+1) scope.names []).lookup y.1).isSome=true):=λ⟨n,v⟩ hy=>by
  rcases S.par n (List.of_mem_zip hy).1 with q |q
  .exact .inl q
  .exact .inr ⟨q,W.cellsFrom_some _ _ _ (.inl q)⟩
 refine W.kla_callFunE hr.depth hfo rfl S.co S.gen rfl ⟨c',oc,ws,t,rfl,hco,hd,hv⟩ ?_
 rw[hb];refine Ah ?_
 refine wpAny_newFunctionEnv_cells S.kind hkind λenv he s1 x=>?_
 subst he;refine⟨lim.keeps x.toInCall.keep,W.kla_codeExpr ?_⟩;have I:Inv (cxOf CX0 P w K mg base N qual scope f (.ref c') A outer s H E0) [] (start N vs) H s1:=zfU S hr.hd e0 hl r x;refine Bv (hbody.nox [] s1 (start N vs) H _ I hq) (λu s' hs=>?_) λe s' hs=>hs
 obtain⟨v,H',J,rv,q⟩:=hs;exact⟨v,H',J.os,J.bare,J.base,J.hok,rv,q⟩
section
variable {X:Cx}{f:Addr}{qual:Str}{params:Arguments}{body:Expr}{scope:Scope}{N ps:List Str}{σ:St}{H0:Hp}{k:Nat}{te:TE}{xs:List V}{κV:Nat->List V}
theorem zmD {x:Str}(L:IsLam qual params body scope f H0) (hr:Room (k + 1 + 1 + 1) X.A) (S:FnScope N [x] scope) (hb:∀(pm ctv:Value) (c':Addr) (u:Value), DM (W.kla_fn "<lambda>" qual params body scope [] pm (.ref c') ctv) ⟨[u], []⟩ = pure [(x, u)])
  (hbody:∀(c':Addr) (A:AO) (outer:List Env) (s:Ac) (H:Hp),PE (cxOf CX0 X.prog X.w X.K X.mg X.base N qual scope f (.ref c') A outer s H E0).nox body te)
  (turn:∀i x H,xs[i]?=some x->Same H0 H->te (start N [x]) H (λv H'=>Same H H'/\∃a,v=.ref a/\SqT X.K H' a (κV i))):zhL X σ H0 f xs κV:=by
 intro pins i x u H s hx hS I ru;obtain⟨c',ctv,pm,oc,ws,t,e1,e2,e3,e4⟩:=L.same hS;refine wpAny_call (Db (zmi (k:=k) (vs:=[x]) (us:=[u]) hr.in1.in1 I.env0.in1.in1 e1 e2 e3 e4 S (hb pm ctv c' u) rfl (.cons ru .nil) (hbody c' _ _ _ _) (turn i x H hx hS)) λr s' hq=>?_)
 cases r with
 |error e=>exact Bu hq
 |ok fl =>
  cases fl with
  |ret u=>exact I.after hq
  |next=>exact Bu hq
  |brk=>exact Bu hq
  |cont=>exact Bu hq
end
section
variable {X:Cx}{p pos lpos kpos:Pos}{e body:Expr}{te tb:TE}{k:Nat}{c P:Addr}{params:Arguments}{scope:Scope}{qual x:Str}{N:List Str}
noncomputable def zl4(K:W.Frag)(lpos:Pos)(qual:Str)(P:Addr)(N:List Str)(te tb:TE):TE:=λσ H Q=>te σ H λv H1=>∃l xs,∃ κV:Nat->List V,∃ κ:Nat->List Int,[v]=[V.ref l]/\LamAt lpos qual P H1/\SqL K H1 l xs/\xs.length<=1000 /\
 (∀i x H2,xs[i]?=some x->But1 P H1 H2->tb (start N [x]) H2 (λv H'=>Same H2 H'/\∃a,v=.ref a/\SqT K H' a (κV i))) /\
 (∀i j,i<xs.length->j<xs.length->∃n m r q rn rm,κV i=.int n::r/\κV j=.int m::q/\VCols r q rn rm/\κ i=n::rn/\κ j=m::rm)/\∀(p:List Nat) D H',p.Perm (BD xs.length)->p.Pairwise (λi j=>HT.lexLt (κ j) (κ i)=false)->H1 D=none->But1 P H1 H'->LamAt lpos qual P H'->H' D=some (.lst (p.map λi=>xs.getD i .non))->Q (.ref D) H'
theorem zkb (hr:Room (k + 1 + 1 + 1) X.A) (hg:Gl X "sorted") (hm:X.mg "sorted" = none) (hcd:X.env.code = .ref c) (hh:Dd X.K c P=true) (hB:Bm X.mg X.base) (hq:X.env.qual ++ "<lambda>" = qual)
  (S:FnScope N [x] scope) (hb:∀(pm ctv:Value) (c':Addr) (u:Value),DM (W.kla_fn "<lambda>" qual params body scope [] pm (.ref c') ctv) ⟨[u],[]⟩=pure [(x,u)]) (he:PE X e te)
  (hbody:∀(f c':Addr) (A:AO) (outer:List Env) (s:Ac) (H:Hp),PE (cxOf CX0 X.prog X.w X.K X.mg X.base N qual scope f (.ref c') A outer s H E0).nox body tb)
  (hfree:∀x∈scope.names,x.2≠.free:=by decide) (hdef:defaultsOf params X.env=([],[]):=by rfl)
  (hse:Bg [e] X.env=[(false,eval e X.env)]:=by rfl) (hh':X.calm=true:=by rfl)
  (hall:(DN pos (CL [⟨some "key",.Lambda params body scope lpos,kpos⟩] X.env)).all (·.1.isSome)=true:=by rfl) (hkw:(DN pos (CL [⟨some "key",.Lambda params body scope lpos,kpos⟩] X.env)).any (·.1.isNone)=false:=by rfl)
  (hks:(DN pos (CL [⟨some "key",.Lambda params body scope lpos,kpos⟩] X.env)).filterMap (·.1)=[Aq "key"]:=by rfl) :
  PE X (.Call (.Name "sorted" p) [e] [⟨some "key",.Lambda params body scope lpos,kpos⟩] pos) (zl4 X.K lpos qual P N te tb):=by
 intro pins s σ H Q I h;refine Cn (zdX I hg hm boot_sorted ?_ (by decide) (by decide));refine callWith_kw (thn (zag he zab (hs:=hse) pos pins s σ H (λvs H1=>∃l xs,∃ κV:Nat->List V,∃ κ:Nat->List Int,vs=[V.ref l]/\LamAt lpos qual P H1/\SqL X.K H1 l xs/\xs.length<=1000 /\
 (∀i x H2,xs[i]?=some x->But1 P H1 H2->tb (start N [x]) H2 (λv H'=>Same H2 H'/\∃a,v=.ref a/\SqT X.K H' a (κV i))) /\
 (∀i j,i<xs.length->j<xs.length->∃n m r q rn rm,κV i=.int n::r/\κV j=.int m::q/\VCols r q rn rm/\κ i=n::rn/\κ j=m::rm)/\∀(p:List Nat) D H',p.Perm (BD xs.length)->p.Pairwise (λi j=>HT.lexLt (κ j) (κ i)=false)->H1 D=none->But1 P H1 H'->LamAt lpos qual P H'->H' D=some (.lst (p.map λi=>xs.getD i .non))->Q (.ref D) H') I ?_) λus s1 ⟨vs,H1,I1,r,q⟩=>?_) (by rw[hse];rfl) (by rw[hse];rfl) hall hkw
 .show te σ H _;exact h
 .obtain⟨l,xs,κV,κ,rfl,hL,hsq,h64,turn,hcol,hQ⟩:=q;obtain⟨u,rfl,ru⟩:=Vals.one r
  cases (show u=Ao l from ru)
  refine thn (zi4 (nm:=some "key") (kpos:=kpos) (zmq (pos:=lpos) (body:=body) hcd hh hB hq hfree hdef) zkV pos pins s1 σ H1 (λzs H2=>∃f,zs=[.ref f]/\But1 P H1 H2/\LamAt lpos qual P H2/\IsLam qual params body scope f H2) I1 ⟨hL,λf H' h1 h2 h3 h4=>⟨f,rfl,h1,h2,h4⟩⟩) λws s2 ⟨zs,H2,I2,rz,q2⟩=>?_
  obtain⟨f,rfl,hbut,hL2,hIL⟩:=q2;obtain⟨u2,rfl,ru2⟩:=Vals.one rz
  cases (show u2=Ao f from ru2)
  rw[hks];refine zic (G:=Ordd κ xs.length) (zmD hIL hr S hb (λc' A outer s H=>hbody f c' A outer s H) λi x H hx hS=>turn i x H hx (hbut.trans hS.but1)) (hbut.seq hL hsq) (λp hp i hi=>?_) (λh2=>⟨Array.Perm.refl _,?_⟩) (λ{vs ks H' s' D st e} r' K' hks h2=>?_) (λp D H' g hp hD hS hH=>hQ p.toList D H' ?_ g.2 ?_ (hbut.trans hS.but1) (hL2.same hS) hH) I2
  .have:=hp.1.mem_iff.mp (show i∈p by simpa using hi);simpa using this
  .rw[DG];intro i j hi hj hij;simp at hi hj;lia
  .have hlx:xs.length=vs.length:=r'.length;rw[hlx];exact zlS K' hks h2 λi j hi hj=>hcol i j (by lia) (by lia)
  .have:=Array.perm_iff_toList_perm.mp g.1;simpa using this
  .cases q:H1 D with
   |none=>rfl
   |some o =>
    by_cases hz:D=P
    .obtain⟨ps,e,_⟩:=hL2;rw[hz,e]at hD
     cases hD
    .rw[hbut D o hz q]at hD
     cases hD
end
theorem zjk{P:AF}{w:A5}{K:W.Frag}{mg mb:Str -> Option Value}{CX:CXT}{k:Nat}{fa a:Addr}{fd:BC}{x:Str}{sp:Sp}{s₁ : Ac}{vs:List Value}{ns:List Int}{ts:List Addr}
    (KX:K.In s₁.heap) (hns:s₁.heap.Ns AL mg) (hb:s₁.heap.Ns builtinsNs mb) (hbb:∀x:Str,x ≠ "__name__" -> mb x=bootBuiltins x) (hlim:s₁.heap.NoLimit) (hg:s₁.gens=#[])
    (ha:s₁.heap.get? a=some { cls:=.type "list",data:=.seq vs.toArray }) (hi:IntsAre vs ns) (hl:ns.length<=sizeLine) (hr:Room k callerA)
    (hts:∀P∈ts,s₁.heap.get? P=some (W.tabObj #[])) (hno:∀P∈ts,K.lookup P=none) (hcd:∀P∈ts,∃c,Dd K c P=true) (hBm:Bm mg s₁.heap)
    (F:∀base:Heap,K.In base->base.Ns AL mg->Bm mg base->FnOk P w K mg base CX k fa fd [x] sp) (hbind:∀(s:Ac) (u:Value),BindsTo s fd ⟨[u],[]⟩ [(x,u)])
    (hsp:∀H:Hp,(∀P∈ts,H P=some (.tbl #[]))->SqL K H a (ns.map V.int)->sp [.ref a] H (λv _=>v=.bl true) λ_ _ _=>False)
    (hCX:∀H e s',CX [] H s₁ (λ_ _ _=>False) e s'->False) :
    Da (Az P w) callerA (.call (.ref fa) ⟨[.ref a],[]⟩) (λr s'=>r=.ok (.ret (.bool true))/\OldK s₁.heap s'.heap/\s'.os=s₁.os/\AllBare s'.gens) s₁:=by
  have rv:=zfu hi;have lenV:=hi.length
  have aT:a ∉ ts:=λz=>by
    have:=hts a z;rw[ha]at this
    cases this
  have core:∀H:Hp, (∀b, H b=none ∨ (b ∈ ts /\ H b=some (.tbl #[])) ∨ (b=a /\ K.lookup a=none /\ ∃o xs, H b=some (.frz o (.lst xs)))) -> (∀P ∈ ts, H P=some (.tbl #[])) -> SqL K H a (ns.map V.int) -> HOk P w H s₁.heap ->
      Da (Az P w) callerA (.call (.ref fa) ⟨[.ref a],[]⟩) (λr s'=>r=.ok (.ret (.bool true))/\OldK s₁.heap s'.heap/\s'.os=s₁.os/\AllBare s'.gens) s₁:=by
    intro H hO hT hS hok;have base_of:∀{b:Addr} {o:Obj},s₁.heap.get? b=some o->H b=none->(hidT s₁.heap H).get? b=some o:=λe n=>zks e n
    have noA:∀{b:Addr} {o:Obj},s₁.heap.get? b=some o->(∀x n,o.data≠.seq x n)->(∀x,o.data≠.fields x)->H b=none:=λ{b o} e d1 d2=>by
      rcases hO b with z |⟨z,_⟩ |⟨rfl,_⟩
      . exact z
      . rw[hts b z]at e
        cases e
        exact absurd rfl (d2 _)
      . rw[ha]at e
        cases e
        exact absurd rfl (d1 _ _)
    have nsK:∀{b:Addr} {m:Str->Option Value},s₁.heap.Ns b m->(hidT s₁.heap H).Ns b m:=λ{b m} ⟨o,es,ep,e,d,r⟩=>⟨o,es,ep,base_of e (noA e (λx n z=>by rw[d]at z;cases z) λx z=>by rw[d]at z;cases z),d,r⟩
    have hKb:K.In (hidT s₁.heap H):=λb o e=>base_of (KX b o e) (by
      rcases hO b with z |⟨z,_⟩ |⟨rfl,z,_⟩
      . exact z
      . rw[hno b z]at e;cases e
      . rw[z]at e;cases e)
    have hM:Mod K mg (hidT s₁.heap H):=⟨hKb,nsK hns,⟨mb,nsK hb,hbb⟩,let ⟨mc,h1,h2⟩:=hlim;⟨mc,nsK h1,h2⟩⟩
    have hBb:Bm mg (hidT s₁.heap H):=by obtain⟨bm,o,b1,b2,b3,b4,b5,b6,b7⟩:=hBm;exact⟨bm,o,b1,b2,b3,base_of b4 (noA b4 (λx n z=>by rw[b7]at z;cases z) λx z=>by rw[b7]at z;cases z),b5,b6,b7⟩
    have e0:Env0 P w K mg (hidT s₁.heap H) callerA [] s₁ H:=⟨rfl,hM,λb o e=>zlC e,Nat.le_of_eq (zjt _ _),trivial,λb hb=>absurd (show b∈([]:List Addr) from hb) (by simp),hok,.of_eq hg⟩;refine Db ((F _ hKb (nsK hns) hBb).run callerA [] s₁ H ⟨[.ref a],[]⟩ [.ref a] [.ref a] _ _ hr e0 (hbind s₁ (.ref a)) (.cons rfl .nil) (hsp H hT hS)) λr s' h=>?_
    cases r with
    |error e=>exact (hCX H e s' h).elim
    |ok fl =>
      cases fl with
      |next=>exact Bu h
      |brk=>exact Bu h
      |cont=>exact Bu h
      |ret u =>
        obtain⟨v,H',os,bare,un,hok',r',q⟩:=h;have q':v=.bl true:=q;subst q';obtain rfl:u=Dt true:=r';refine⟨rfl,⟨λb o e=>?_,λb o e=>un.there b o e (by simp)⟩,os,bare⟩;rcases hO b with z |⟨z,z1⟩ |⟨rfl,_,ob,xs,z⟩
        . exact .inl (un.keep b o e z (by intro z;exact absurd (show b∈([]:List Addr) from z) (by simp)) (by simp))
        . have e':=hts b z;rw[e]at e'
          cases e'
          obtain⟨more,z2⟩:=un.tbls b _ z1;obtain⟨c,hc⟩:=hcd b z;obtain⟨oc,ws,_,_,_,_,_,_,_,c1,c2,c3,c4,_⟩:=W.codeHd_of_K KX hc;exact .inr (.inl ⟨⟨c,oc,ws,c1,c2,c3,c4⟩,rfl,#[],more,rfl,hok' b _ z2⟩)
        . have z2:=un.frzs b ob _ z;obtain⟨e1,_⟩:=hok b _ z;obtain⟨e2,_⟩:=hok' b _ z2;rw[e]at e1;cases e1;exact .inl e2
  cases hk:K.lookup a with
  |some o =>
    have e:=KX a o hk;rw[ha]at e
    cases e
    refine core (λb=>if b∈ts then some (.tbl #[]) else none) (λb=>?_) (λP hP=>if_pos hP) (.inr ⟨_,vs.toArray,_,hk,rfl,rfl,rfl,by rw[As,lenV];exact hl,by simpa using rv⟩) λb u z=>?_
    . by_cases hb:b∈ts
      . exact .inr (.inl ⟨hb,if_pos hb⟩)
      . exact .inl (if_neg hb)
    . by_cases hb:b∈ts
      . have z':=(if_pos hb).symm.trans z
        cases z'
        exact hts b hb
      . have z':=(if_neg hb).symm.trans z
        cases z'
  |none =>
    refine core (λb=>if b∈ts then some (.tbl #[]) else if b=a then some (.frz { cls:=.type "list",data:=.seq vs.toArray } (.lst (ns.map V.int))) else none) (λb=>?_) (λP hP=>if_pos hP) (.inl (.inr ⟨{ cls:=.type "list",data:=.seq vs.toArray },(if_neg aT).trans (if_pos rfl)⟩)) λb u z=>?_
    . by_cases hb:b∈ts
      . exact .inr (.inl ⟨hb,if_pos hb⟩)
      . by_cases hb2:b=a
        . exact .inr (.inr ⟨hb2,hk,_,_,(if_neg hb).trans (if_pos hb2)⟩)
        . exact .inl ((if_neg hb).trans (if_neg hb2))
    . by_cases hb:b∈ts
      . have z':=(if_pos hb).symm.trans z
        cases z'
        exact hts b hb
      . have z0:=(if_neg hb).symm.trans z
        by_cases hb2:b=a
        . have z':=(if_pos hb2).symm.trans z0
          cases z'
          subst hb2;exact⟨ha,by rw[Ai];exact hl,vs,_,rv,ha⟩
        . have z':=(if_neg hb2).symm.trans z0
          cases z'
theorem zmw{K:W.Frag}{as:List Addr}(e:as=K.map (·.1)){b:Addr}(h:b ∉ as):K.lookup b=none:=by
 cases q:K.lookup b with
 |none=>rfl
 |some o =>
  subst e;exact absurd (Bd.mpr ⟨(b,o),W.mem_of_lookupK q,rfl⟩:b∈List.map (λx=>x.fst) K) h
theorem km_all{K:Params -> W.Frag}{as:List Addr}{e:∀P, as=(K P).map (·.1)}{ts:List Addr}(d:(ts.all λt => !as.contains t)=true)(w:A5)(h:Heap)(Y:(W.kmHook K as e ts).says w h) :
  (K w.params).In h/\(∀P∈ts,h.get? P=some (W.tabObj #[]))/\∀P∈ts,(K w.params).lookup P=none :=
 ⟨W.km_in_of Y,W.km_tabs_of Y,λP hP=>zmw (e w.params) λz=>by have:=List.all_eq_true.mp d P hP;simp[z]at this⟩
theorem walk_ofL{l:W.OpenLaw}{n k:Nat}{q:AF}{loose:List Str}{XP:(Str -> Option Value) -> Heap -> Prop}{YP:A5 -> Heap -> Prop}{d:DefRec}{K:Params -> W.Frag}{CX:A5 -> CXT}{sp:A5 -> Sp}{x:Str}{ts:List Addr}
  (hn:l.most=some n) (hn2:n<=sizeLine) (hdf:d.params.defaults=[]) (hr:Room k callerA)
  (hY:∀(w:A5) (h:Heap),YP w h->(K w.params).In h/\(∀P∈ts,h.get? P=some (W.tabObj #[]))/\∀P∈ts,(K w.params).lookup P=none)
  (F:∀(w:A5) (mg:Str->Option Value) (fa:Addr) (h:Heap),(K w.params).In h->h.Ns AL mg->mg d.name=some (.ref fa) ->
   ∃fd:BC,(∀(s:Ac) (u:Value),BindsTo s fd ⟨[u],[]⟩ [(x,u)])/\(∀P∈ts,∃c,Dd (K w.params) c P=true) /\
    ∀base:Heap,(K w.params).In base->base.Ns AL mg->Bm mg base->FnOk l.prog w (K w.params) mg base (CX w) k fa fd [x] (sp w))
  (hsp:∀(w:A5) (H:Hp) (a:Addr) (ns:List Int),ns.length<=n->(∀P∈ts,H P=some (.tbl #[]))->SqL (K w.params) H a (ns.map V.int)->sp w [.ref a] H (λv _=>v=.bl true) λ_ _ _=>False)
  (hCX:∀(w:A5) (H:Hp) (s:Ac) (e:Value) (s':Ac),CX w [] H s (λ_ _ _=>False) e s'->False) :
  W.WalkO q loose XP YP l.row.toRowW d [] (λf vs=>PySem.call f vs):=by
 refine Att.attach_call hn hdf λw s₀ s₁ mg mb fa o pm cd doc a vs ns G Y ho hd hcd hmg hobj hints hlen hg=>?_
 obtain⟨KX,hts,hno⟩:=hY w _ Y;obtain⟨fd,hb,hc,hF⟩:=F w mg fa _ KX G.T.g hmg
 have hB:Bm mg s₁.heap:=by obtain⟨bm,ob,b1,b2,b3,b4,b5,b6⟩:=G.T.bmain;refine⟨bm,ob,b1,b2,λq=>?_,b3,b4,b5,b6⟩;obtain⟨o,es,ep,e,hd,_⟩:=G.T.g;rw[q,e]at b3;cases b3;rw[hd]at b6;cases b6
 exact zjk KX G.T.g G.T.b G.T.builtins G.T.nolimit hg hobj hints (AN hlen hn2) hr hts hno hc hB hF hb (λH hT hS=>hsp w H a ns hlen hT hS) λH e s'=>hCX w H s₁ e s'
theorem Fun.okL{P:AF}{w:A5}{K:W.Frag}{mg:Str -> Option Value}{base:Heap}{x qual:Str}{st:Stmt}{f c:Addr}{fd:BC}{N ps:List Str}{k:Nat}{sp:Sp}(F:Fun K x qual st f fd)(hc:fd.code = .ref c)(S:FnScope N ps (zaf st))(len:∀vs H Q E, sp vs H Q E -> vs.length=ps.length)
  (hbody:∀(A:AO) (outer:List Env) (s:Ac) (H:Hp) (vs:List V) (Q:VK) (E:XK),Room k (A.deeper (envOfC qual (zaf st) s.heap.objs.size f (.ref c)))->sp vs H Q E ->
   ∃t,PSs (cxOf CX0 P w K mg base N qual (zaf st) f (.ref c) A outer s H E).nox (zaF st) t/\t { nx:=λ_ H'=>Q .non H',rt:=Q } (start N vs) H):FnOk P w K mg base CX0 (k+1) f fd ps sp:=by
 obtain⟨oc,od,kV,doc,pm,an,cdv,ct,osl,rfl,lk,hcd⟩:=F.ex
 cases (show cdv=.ref c from hc)
 refine fn_of lk hcd S len λA outer s H vs Q E hr hsp=>?_
 obtain⟨t,h,q⟩:=hbody A outer s H vs Q E hr hsp;exact⟨t,h.nox,q⟩
noncomputable def hdOk(vs:Array Value)(c P:Addr):Bool := (match (vs[11]? : Option Value) with |some (.ref P') => P' == P |_ => false) &&
   (match vs.getD 18 .none with |.str _ _=>true |_=>false) && (match vs.getD 7 .none with |.int _ _=>true |_=>false) &&
   (match vs.getD 9 .none with |.bool _=>true |_=>false) && (match vs.getD 10 .none with |.int _ _=>true |_=>false) && c != P
theorem hd_of {K:W.Frag}{c P:Addr}{od:Option Addr}{vs:Array Value}{sl:Array (Option Value)}(l:K.lookup c=some ⟨.type "code",od,.fields vs,sl⟩) (h:hdOk vs c P=true):Dd K c P=true:=by unfold Dd;rw[l];exact h
open PySem
theorem sC{N P:List Str}{sc:Scope}(a:sc.kind = .function := by rfl)(b:sc.isCoroutine=false := by rfl)(c:sc.isGenerator=false := by rfl)(d:N.Nodup := by decide +kernel)(e:N.take P.length=P := by rfl)
  (f:∀x∈P,sc.names.lookup x=some .local∨sc.names.lookup x=some .cell:=by decide +kernel) (g:∀y∈sc.names,y.2≠.free:=by decide +kernel):FnScope N P sc:=⟨a,b,c,d,e,f,g⟩
section
variable {X:Cx}{k j:Nat}{x:Str}{ps:List Str}{sp:Sp}{e:Expr}{es:List Expr}{t:TA}{te:TE}{p pos pos':Pos}
theorem pC (g:Fn X.prog X.w X.K X.mg X.base k x ps sp) (hr:Room j X.A) (ha:PA X (e :: es) t) (hj:k <= j := by decide) (hg:Gl X x := by rfl) (hdb:(x == ("__debug__" : Str))=false := by decide)
  (he:Bg (e::es) X.env=(false,eval e X.env)::Bg es X.env:=by rfl) (hpl:(DH pos (Bg es X.env)).any (·.1)=false:=by rfl):PE X (.Call (.Name x p) (e::es) [] pos) (tCall sp [] E0 t) :=
 zi7 g.ok (hr.mono hj) hg g.m g.kp g.b .nil pass0 ha hdb he hpl
theorem nG(i:Nat)(hN:X.N.Nodup)(hi:X.N[i]?=some x:=by rfl)(hx:Loc X.env.scope x:=by exact Or.inl rfl)(hf:X.fn x=true∨X.env.scope.names.lookup x=some .local:=by first |exact .inl rfl |exact .inr rfl |assumption):PG X (.Name x pos) (gName i) :=
 zcK hN hi hx hf
theorem sE(i:Nat)(hN:X.N.Nodup)(he:PE X e te)(hi:X.N[i]? = some x := by rfl)(hx:Loc X.env.scope x := by exact Or.inl rfl)(hs:swapsWith e (some (.Name x pos')) pos.line X.env=pure false := by rfl)
  (hf:X.fn x=true∨X.env.scope.names.lookup x=some .local:=by first |exact .inl rfl |exact .inr rfl |assumption):PS X (.Assign [.Name x pos'] e pos) (tAsg te (gName i)) :=
 zfC hN hi hx he hs hf
end
theorem bO{osc:Scope}{N:List Str}{sc:Scope}{N':List Str}{sel:List (Option Nat)}(a:sc.kind = .function := by rfl)(b:∀y ∈ sc.names, y.2 ≠ .cell := by decide +kernel)(c:∀y ∈ sc.names, y.2 = .local -> sc.names.lookup y.1=some .local := by decide +kernel)
  (d:∀y∈sc.names,y.2=.free->osc.names.lookup y.1=some .cell∨osc.names.lookup y.1=some .free:=by decide +kernel) (e:sel.length=N'.length:=by rfl) (f:∀p∈sel.zip N',∀i∈p.1,N[i]?=some p.2/\sc.names.lookup p.2=some .free:=by decide +kernel):BlkOk osc N sc N' sel:=⟨a,b,c,d,e,f⟩
section
variable {K:W.Frag}{x qual:Str}{st:Stmt}{f:Addr}{fd:BC}
theorem Fun.b1{p0:Str}(F:Fun K x qual st f fd)(h:∀(kV doc pm:Value) (an:Option Addr) (cdv ct a0:Value),DM (Du x qual (za7 st) (zaF st) (zaf st) .none kV doc pm an cdv ct) ⟨[a0],[]⟩=pure [(p0,a0)]:=by intros;rfl):Binds K fd [p0] [] :=
 F.binds λkV doc pm an cdv ct us hl=>match us,hl with |[a0],_=>h kV doc pm an cdv ct a0
theorem Fun.b2{p0 p1:Str}(F:Fun K x qual st f fd)(h:∀(kV doc pm:Value) (an:Option Addr) (cdv ct a0 a1:Value),DM (Du x qual (za7 st) (zaF st) (zaf st) .none kV doc pm an cdv ct) ⟨[a0,a1],[]⟩=pure [(p0,a0),(p1,a1)]:=by intros;rfl):Binds K fd [p0,p1] [] :=
 F.binds λkV doc pm an cdv ct us hl=>match us,hl with |[a0,a1],_=>h kV doc pm an cdv ct a0 a1
theorem Fun.b3{p0 p1 p2:Str}(F:Fun K x qual st f fd)(h:∀(kV doc pm:Value) (an:Option Addr) (cdv ct a0 a1 a2:Value),DM (Du x qual (za7 st) (zaF st) (zaf st) .none kV doc pm an cdv ct) ⟨[a0,a1,a2],[]⟩=pure [(p0,a0),(p1,a1),(p2,a2)]:=by intros;rfl):Binds K fd [p0,p1,p2] [] :=
 F.binds λkV doc pm an cdv ct us hl=>match us,hl with |[a0,a1,a2],_=>h kV doc pm an cdv ct a0 a1 a2
end
noncomputable def DA(K:W.Frag)(x:Str)(st:Stmt):Prop:=∃(f:Addr) (od an:Option Addr) (sl:Array (Option Value)) (oc kV dc pm cd ct:Value),Ch K AL x=some (some (.ref f)) /\
 K.lookup f=some ⟨oc,od,.func (Du x x (za7 st) (zaF st) (zaf st) .none kV dc pm an cd ct),sl⟩/\W.codeIn K cd x=true/\C5 K (.ref f)=true
section
variable {K:W.Frag}{mg:Str->Option Value}{h:Heap}{x:Str}{st:Stmt}
theorem DA.mk{f:Addr}{od an:Option Addr}{sl:Array (Option Value)}{oc kV dc pm cd ct:Value}(a:Ch K AL x=some (some (.ref f)))
  (l:K.lookup f=some ⟨oc,od,.func (Du x x (za7 st) (zaF st) (zaf st) .none kV dc pm an cd ct),sl⟩) (c:W.codeIn K cd x=true) (k:C5 K (.ref f)=true):DA K x st :=
 ⟨f,od,an,sl,oc,kV,dc,pm,cd,ct,a,l,c,k⟩
theorem DA.d1{p0:Str}(D:DA K x st)(X:K.In h)(G:h.Ns AL mg)(hb:∀(kV doc pm:Value) (an:Option Addr) (cdv ct a0:Value),DM (Du x x (za7 st) (zaF st) (zaf st) .none kV doc pm an cdv ct) ⟨[a0],[]⟩=pure [(p0,a0)]:=by intros;rfl):Nonempty (Df K mg x st [p0]):=by obtain⟨f,od,an,sl,oc,kV,dc,pm,cd,ct,a,l,c,k⟩:=D;exact⟨⟨f,_,zcX l c k,DU X G a,(zcX l c k).b1 hb⟩⟩
theorem DA.d2{p0 p1:Str}(D:DA K x st)(X:K.In h)(G:h.Ns AL mg)(hb:∀(kV doc pm:Value) (an:Option Addr) (cdv ct a0 a1:Value),DM (Du x x (za7 st) (zaF st) (zaf st) .none kV doc pm an cdv ct) ⟨[a0,a1],[]⟩=pure [(p0,a0),(p1,a1)]:=by intros;rfl):Nonempty (Df K mg x st [p0,p1]):=by obtain⟨f,od,an,sl,oc,kV,dc,pm,cd,ct,a,l,c,k⟩:=D;exact⟨⟨f,_,zcX l c k,DU X G a,(zcX l c k).b2 hb⟩⟩
theorem DA.d3{p0 p1 p2:Str}(D:DA K x st)(X:K.In h)(G:h.Ns AL mg)(hb:∀(kV doc pm:Value) (an:Option Addr) (cdv ct a0 a1 a2:Value),DM (Du x x (za7 st) (zaF st) (zaf st) .none kV doc pm an cdv ct) ⟨[a0,a1,a2],[]⟩=pure [(p0,a0),(p1,a1),(p2,a2)]:=by intros;rfl):Nonempty (Df K mg x st [p0,p1,p2]):=by obtain⟨f,od,an,sl,oc,kV,dc,pm,cd,ct,a,l,c,k⟩:=D;exact⟨⟨f,_,zcX l c k,DU X G a,(zcX l c k).b3 hb⟩⟩
end
open PySem PyProof.Rows
section
variable {X:Cx}{pos:Pos}
end
structure Fly (B:Heap) (l:List Env) (e:Addr) (o:Obj) (vs:Array Value) (fl:Value) (h:Heap):Prop where
 stay:B.StaysIn h
 new:B.get? e=none
 fr:h.FunFrames B l
 tb:∃T oT ts,h.get? e=some { o with data:=.fields (vs.setIfInBounds 1 (.ref T)) }/\1<vs.size/\B.get? T=none/\T≠e/\h.get? T=some oT/\oT.data=.fields ts/\ts[3]?=some fl
section
variable {M:Model}{A:AO}{E:Value->Ac->Prop}{s:Ac}{B:Heap}{env:Env}{outer l:List Env}{L e:Addr}{o:Obj}{vs us:Array Value}{fl:Value}{Q:Unit->Ac->Prop}
theorem zeu{h:Heap}{c b:Addr}{u v:Obj}{ts:Array Value}(hc:h.get? c=some u)(hd:u.data=.fields ts)(hb:h.get? b=some v)(hn:∀ws,v.data≠.fields ws):b≠c:=by
 rintro rfl;rw[hc]at hb
 cases hb
 exact hn _ hd
theorem zgH{b c:Addr}{u:Obj}(hb:B.get? b=some u)(hc:B.get? c=none):b≠c:=by
 rintro rfl;rw[hc]at hb
 cases hb
theorem zet{head:Value}{had:Bool}(hfr:A.frames=some (env :: outer))(hl:s.heap.FunFrames B (env :: outer))(hf:env.frame=some L)(he:s.heap.get? e=some { o with data := .fields us })(hkb:B.StaysIn s.heap)(hen:B.get? e=none)
  (hsz:1<us.size) (huv:∀x,us.setIfInBounds 1 x=vs.setIfInBounds 1 x) (h:∀h',Fly B (env::outer) e o vs (CC L) h'->s.heap.UpToSlots h'->Q () { s with heap:=h' }) :
  Ar M A (do let a <- frameOf env;let pl <- entryPlaceOf L had;let b <- EntryCells.newEntry head a .none (CC L) .none pl;setField (.ref e) 1 b) Q E s:=by
 have hes:e ∉ (env::outer).filterMap (·.frame):=λz=>by obtain⟨_,v,hv,hn⟩:=hl.mem z;exact zeu he rfl hv hn rfl
 refine Aa (wpAny_frameOf_fun hfr hl hf λh1 k1=>?_);refine Aa (wpAny_entryPlaceOf λpl hpl=>?_);unfold EntryCells.newEntry newFields;refine Aa (BW ?_ (hpl.sizeOk5 _ _ _ _ _));have e1:h1.get? e=some { o with data:=.fields us }:=(k1.2.1 e hes).trans he;have b1:B.StaysIn h1:=λb u q=>(k1.2.1 b λz=>by rw[(hl.mem z).1]at q;cases q).trans (hkb b u q)
 generalize hT:({ cls:=.type "traceback",data:=.fields ([head,.ref L,.none,CC L,.none]++(if pl.isEmpty then Ae 6 Bk else pl)).toArray }:Obj)=oT;have hTd:oT.data=.fields ([head,.ref L,.none,CC L,.none]++(if pl.isEmpty then Ae 6 Bk else pl)).toArray:=by rw[<- hT]
 have hTf:oT.isFreed=false:=by rw[<- hT];rfl
 have ne:h1.objs.size≠e:=Cr (Ax e1);refine wpAny_setField (Ag _ e1) rfl hsz ?_
 have up:∀b u,b≠e->h1.get? b=some u->((h1.push oT).update e (Dm (·.setIfInBounds 1 (Ao h1.objs.size)))).get? b=some u:=λb u z q=>by rw[BO _ _ (Bx z)];exact Ag _ q
 have sl:∀b u,s.heap.get? b=some u->(∀ws,u.data≠.fields ws)->∃x,((h1.push oT).update e (Dm (·.setIfInBounds 1 (Ao h1.objs.size)))).get? b=some { u with slots:=x }:=λb u q n=>by obtain⟨x,hx⟩:=k1.2.2 b u q;exact⟨x,up b _ (zeu he rfl q n) hx⟩
 refine h _ ⟨λb u q=>up b u (zgH q hen) (b1 b u q),hen,hl.of_keeps λb u q n=>?_,⟨h1.objs.size,oT,_,?_,?_,b1.fresh,ne,?_,hTd,?_⟩⟩ sl
 .obtain⟨x,hx⟩:=sl b u q n;exact⟨_,hx,rfl⟩
 .rw[<- huv];exact CQ _ (Ag _ e1) rfl
 .have:=congrArg Array.size (huv Bk);simp only[Array.size_setIfInBounds]at this;lia
 .exact (BO _ _ (Bx ne)).trans (AB h1 hTf)
 .first | (simp;done) | (rcases hpl with rfl |⟨_,_,_,_,_,_,_,rfl⟩ <;> simp)
theorem zh2(hfr:A.frames=some (env :: outer))(hl:s.heap.FunFrames B (env :: outer))(hf:env.frame=some L)(he:s.heap.get? e=some { o with data := .fields vs })(hkb:B.StaysIn s.heap)(hen:B.get? e=none)(h1:vs[1]? = some .none)
  (h:∀h',Fly B (env::outer) e o vs (CC L) h'->s.heap.UpToSlots h'->Q () { s with heap:=h' }):Ar M A (noteFrame (.ref e) env) Q E s:=by
 unfold noteFrame;simp only[hf];refine Aa (D2 he rfl h1 ?_);rw[if_neg (by decide)];exact zet hfr hl hf he hkb hen (Bb.mp h1).1 (λ_=>rfl) h
theorem zfM(hfr:A.frames=some (env :: outer))(hf:env.frame=some L)(F:Fly B (env :: outer) e o vs .none s.heap)
  (h:∀h',Fly B (env::outer) e o vs (CC L) h'->s.heap.UpToSlots h'->Q () { s with heap:=h' }):Ar M A (noteFrame (.ref e) env) Q E s:=by
 obtain⟨T,oT,ts,he,hz,nT,Te,hT,hd,h3⟩:=F.tb;unfold noteFrame;simp only[hf];refine Aa (D2 he rfl (x:=.ref T) (by simp[hz]) ?_);rw[if_pos (show (Ao T != Bk)=true from by simp)];refine Aa (D2 hT hd h3 ?_);rw[if_neg (by simp[CC])];refine Aa (wpAny_setField hT hd (Bb.mp h3).1 ?_);have ot:∀b,b≠T->(s.heap.update T (Dm (·.setIfInBounds 3 Bk))).get? b=s.heap.get? b:=λb z=>BO _ _ (Bx z)
 refine zet (s:={ s with heap:=s.heap.update T (Dm (·.setIfInBounds 3 Bk)) }) hfr (F.fr.of_keeps λb u q n=>⟨u,(ot b (zeu hT hd q n)).trans q,rfl⟩) hf ((ot e (Bx Te)).trans he)
  (λb u q=>(ot b (zgH q nT)).trans (F.stay b u q)) F.new (by simpa using hz) (λx=>by simp) λh' x1 x2=>h h' x1 λb u q n=>x2 b u ((ot b (zeu hT hd q n)).trans q) n
theorem zcy(F:Fly B l e o vs fl s.heap)(h:∀h',Fly B l e o vs .none h'->s.heap.UpToSlots h'->Q () { s with heap:=h' }):Ar M A (setFlight (.ref e) none) Q E s:=by
 obtain⟨T,oT,ts,he,hz,nT,Te,hT,hd,h3⟩:=F.tb;have z3:3<ts.size:=(Bb.mp h3).1;have ot:∀b,b≠T->(s.heap.update T (Dm (·.setIfInBounds 3 ((none:Option Addr).elim Bk λf=>CC f)))).get? b=s.heap.get? b:=λb z=>BO _ _ (Bx z)
 unfold setFlight;refine Aa (D2 he rfl (x:=.ref T) (by simp[hz]) ?_);rw[if_pos (show (Ao T != Bk)=true from by simp)]
 refine wpAny_setField hT hd z3 (h _ ⟨λb u q=>(ot b (zgH q nT)).trans (F.stay b u q),F.new,F.fr.of_keeps λb u q n=>⟨u,(ot b (zeu hT hd q n)).trans q,rfl⟩,T,_,_,(ot e (Bx Te)).trans he,hz,nT,Te,
  CQ _ hT (Obj.isFreed_of_fields (DY hd _)),DY hd _,by simp[z3]⟩ λb u q n=>⟨u.slots,(ot b (zeu hT hd q n)).trans q⟩)
theorem Fly.out(F:Fly B (env::outer) e o vs fl s.heap):Fly B outer e o vs fl s.heap:=⟨F.stay,F.new,F.fr.2.2,F.tb⟩
theorem zgJ(hfr:A.frames=some (env :: outer))(hl:s.heap.FunFrames B (env :: outer))(hf:env.frame=some L)(he:s.heap.get? e=some { o with data := .fields vs })(hkb:B.StaysIn s.heap)(hen:B.get? e=none)(h1:vs[1]? = some .none)
  (h:∀h',Fly B outer e o vs .none h'->s.heap.UpToSlots h'->Q () { s with heap:=h' }):Ar M A (leaving env (.ref e)) Q E s:=by
 unfold leaving;refine Aa (zh2 hfr hl hf he hkb hen h1 λh' x1 x2=>?_);exact zcy (s:={ s with heap:=h' }) x1 λh2 y1 y2=>h h2 (Fly.out (s:={ s with heap:=h2 }) y1) (x2.trans y2)
theorem zh8(hfr:A.frames=some (env :: outer))(hf:env.frame=some L)(F:Fly B (env :: outer) e o vs .none s.heap)
  (h:∀h',Fly B outer e o vs .none h'->s.heap.UpToSlots h'->Q () { s with heap:=h' }):Ar M A (leaving env (.ref e)) Q E s:=by
 unfold leaving;refine Aa (zfM hfr hf F λh' x1 x2=>?_);exact zcy (s:={ s with heap:=h' }) x1 λh2 y1 y2=>h h2 (Fly.out (s:={ s with heap:=h2 }) y1) (x2.trans y2)
end
noncomputable def CX1(P:AF)(w:A5):CXT:=λouter H s E e s'=>∃(a:Addr) (H':Hp) (B:Heap) (o:Obj) (vs:Array Value),e=.ref a/\s'.os=s.os/\AllBare s'.gens/\Fly B outer a o vs .none s'.heap/\s.heap.get? a=none/\H' a=none /\
 (∀h2,B.StaysIn h2->s'.heap.UpToSlots h2->Un (frs outer) [] H H' s.heap h2/\HOk P w H' h2)/\E o.cls o.dict H'
section
variable {P:AF}{w:A5}{K:W.Frag}{mg:Str->Option Value}{base:Heap}{N:List Str}{qual:Str}{scope:Scope}{f:Addr}{cd:Value}{A:AO}{outer:List Env}{s0:Ac}{H0:Hp}{E:XK}
 {pins:List (Addr×Obj)} {σ:St} {H:Hp} {s:Ac} {e:Addr} {o:Obj} {vs:Array Value}
theorem xe_of(I:Inv (cxOf (CX1 P w) P w K mg base N qual scope f cd A outer s0 H0 E) pins σ H s)(he:s.heap.get? e=some { o with data := .fields vs })(h1:vs[1]? = some .none)(hn:H e=none)(hnew:s0.heap.get? e=none)(h:E o.cls o.dict H) :
  (cxOf (CX1 P w) P w K mg base N qual scope f cd A outer s0 H0 E).xe (.ref e) s:=by
 let X:=cxOf (CX1 P w) P w K mg base N qual scope f cd A outer s0 H0 E
 have hfs:∀b∈frs X.stack,H b=none:=I.stkFree
 have nin:∀b,b<s0.heap.objs.size->b ∉ frs outer->b≠e->b ∉ e::frs X.stack:=λb hb h2 h3 z=>by
  rcases At.mp z with z |z
  .exact h3 z
  .rcases At.mp (show b∈s0.heap.objs.size::frs outer from z) with z |z
   .exact absurd hb (by rw[z];exact Ca _)
   .exact h2 z
 have ne0:∀b u,s0.heap.get? b=some u->b≠e:=λb u q z=>by rw[z,hnew]at q;cases q
 refine zgJ (B:=W.hideAll s.heap (e::frs X.stack)) (show _=some (X.env::outer) from I.ok.frames) (W.funFrames_hide I.stack λen hen a ha=>AI _ (List.mem_filterMap.mpr ⟨en,hen,ha⟩)) rfl he (λb u q=>W.of_hideAll _ q) (W.hideAll_none _ (.head _)) h1 λh' x1 x2=>?_
 refine⟨e,H,_,o,vs,rfl,I.os,I.bare,x1,hnew,hn,λh2 k1 k2=>?_,h⟩;have st:∀b u,s.heap.get? b=some u->b ∉ e::frs X.stack->h2.get? b=some u:=λb u q z=>k1 b u (W.hideAll_get _ q z)
 have sl:∀b u,b∈frs outer->s0.heap.get? b=some u->∃x,h2.get? b=some { u with slots:=x }:=λb u hb q=>by obtain⟨_,v,hv,hd⟩:=I.ok.funs.mem hb;obtain rfl:v=u:=A9 (hv.symm.trans q);obtain⟨x,hx⟩:=I.base.slot b v q (I.ok.frf b hb) hb (by simp[cxOf]);obtain⟨y,hy⟩:=(x2.trans k2) b _ hx hd;exact⟨y,hy⟩
 refine⟨⟨λb u q n hb _=>st b u (I.base.keep b u q n hb (by simp[cxOf])) (nin b (Ax q) hb (ne0 b u q)),λb u q n hb _=>sl b u hb q,λb u q n _=>I.base.free b u q n (by simp[cxOf]),λb u q _=>?_,I.base.tups,I.base.frzs,I.base.tbls⟩,λb u q=>?_⟩
 .by_cases hb:b∈frs outer
  .obtain⟨x,hx⟩:=sl b u hb q;exact⟨_,hx⟩
  .obtain⟨v,hv⟩:=I.base.there b u q (by simp[cxOf]);exact⟨v,st b v hv (nin b (Ax q) hb (ne0 b u q))⟩
 .refine (I.hok b u q).stay (λc v hc r=>st c v r λz=>?_) (λ_ r=>r) λ_ _ r=>r
  have hH:H c≠none:=by
   rcases hc with rfl |hc
   .rw[q];simp
   .rw[hc];simp
  rcases At.mp z with z |z
  .rw[z]at hH;exact hH hn
  .exact hH (hfs c z)
theorem pass1{E1:XK}(hi:∀c d H',E1 c d H'->E c d H'):zd7 (CX1 P w) (cxOf (CX1 P w) P w K mg base N qual scope f cd A outer s0 H0 E) E1:=by
 rintro pins σ H s e s' I ⟨a,H',B,o,vs,rfl,os,bare,F,hnew,hn,st,h⟩;refine zh8 (show _=some (_::outer) from I.ok.frames) rfl F λh' x1 x2=>?_
 have hz:s0.heap.get? a=none:=by
  cases q:s0.heap.get? a with
  |none=>rfl
  |some u =>
   obtain⟨v,hv⟩:=I.base.there a u q (by simp[cxOf]);rw[hnew]at hv
   cases hv
 refine⟨a,H',B,o,vs,rfl,os.trans I.os,bare,x1,hz,hn,λh2 k1 k2=>?_,hi _ _ _ h⟩;obtain⟨un,hok⟩:=st h2 k1 (x2.trans k2);have J:=I.call' (s':={ s' with heap:=h2 }) (ch:=[]) os un hok bare (λb z=>absurd z (by simp));exact⟨J.base,J.hok⟩
end
theorem ObjOk.ex{P:AF}{w:A5}{H:Hp}{h:Heap}{a:Addr}{o:HO}(x:ObjOk P w H h a o):∃u,h.get? a=some u:=by
 cases o with
 |lst xs=>obtain⟨_,_,_,_,e⟩:=x;exact⟨_,e⟩
 |tup xs=>obtain⟨_,_,_,u,e,_⟩:=x;exact⟨_,e⟩
 |dK kvs=>obtain⟨_,_,_,_,o,_,_,e,_⟩:=x;exact⟨_,e⟩
 |dT kvs=>obtain⟨_,_,_,_,o,_,_,e,_⟩:=x;exact⟨_,e⟩
 |set S n=>obtain⟨o,_,_,_,e,_⟩:=x;exact⟨_,e⟩
 |ins C dx fs=>obtain⟨_,_,_,e,_⟩:=x;exact⟨_,e⟩
 |own y=>exact x
 |xd fs=>obtain⟨_,⟨_,_,_,e,_⟩,_⟩:=x;exact⟨_,e⟩
 |rng lo hi=>obtain⟨_,_,_,e⟩:=x;exact⟨_,e⟩
 |frz ob u=>exact⟨_,x.1⟩
 |tbl ps=>exact⟨_,x⟩
 |met f y=>exact⟨_,x⟩
 |ext φ=>exact x.2.1
theorem HOk.gone{P:AF}{w:A5}{H:Hp}{h:Heap}{a:Addr}(x:HOk P w H h)(e:h.get? a=none):H a=none:=by
 cases q:H a with
 |none=>rfl
 |some o =>
  obtain⟨u,hu⟩:=(x a o q).ex;rw[e]at hu
  cases hu
section
variable {P:AF}{w:A5}{K:W.Frag}{mg:Str->Option Value}{base:Heap}{N:List Str}{qual:Str}{scope:Scope}{f:Addr}{cd:Value}{A:AO}{outer:List Env}{s0:Ac}{H0:Hp}{E:XK}
end
noncomputable abbrev Cx.pinned(X:Cx)(pins:List (Addr×Obj)):Cx:={ X with pn:=X.pn++pins }
noncomputable abbrev Cx.tried(X:Cx)(pins:List (Addr×Obj))(E:XK):Cx:={ X with pn:=X.pn++pins,xe:=λe s'=>∃ps σ H s,Inv (X.pinned pins) ps σ H s/\CX1 X.prog X.w X.stack H s E e s' }
noncomputable abbrev Cx.held(X:Cx)(a:Addr):Cx:={ X with A:=X.A.mark (some (.ref a)),calm:=false,xe:=λ_ _=>False }
noncomputable def excO(a:Addr)(c:Value)(d:Option Addr):HO:=.ext λh=>∃u,h.get? a=some u/\u.cls=c/\u.dict=d/\∃vs,u.data=.fields vs
noncomputable def Ends.drop(D:Ends)(i:Nat):Ends:={ nx:=λσ H=>D.nx (σ.set i none) H,rt:=D.rt,bk:=λσ H=>D.bk (σ.set i none) H,ct:=λσ H=>D.ct (σ.set i none) H }
section
variable {X:Cx}{pins:List (Addr×Obj)}{σ:St}{H:Hp}{s:Ac}{E:XK}
theorem Cx.Ok.pinned(ok:X.Ok):(X.pinned pins).Ok:=⟨ok.mod,ok.kind,ok.glob,ok.blt,ok.above,ok.inj,ok.has,ok.cab,ok.hd,ok.frames,ok.stk,ok.exf,ok.bs,ok.bsz,ok.noex,ok.exfs,ok.funs,ok.frf⟩
theorem Cx.Ok.unpinned(ok:(X.pinned pins).Ok):X.Ok:=⟨ok.mod,ok.kind,ok.glob,ok.blt,ok.above,ok.inj,ok.has,ok.cab,ok.hd,ok.frames,ok.stk,ok.exf,ok.bs,ok.bsz,ok.noex,ok.exfs,ok.funs,ok.frf⟩
theorem Inv.unpnd{ps:List (Addr×Obj)}(I:Inv (X.pinned pins) ps σ H s):Inv X pins σ H s:=⟨I.ok.unpinned,I.os,I.bare,I.base,I.loc,I.cell,I.free,I.freeC,λp hp=>I.pin p (Bl _ hp),I.hok,I.len⟩
theorem Inv.tried(I:Inv X pins σ H s):Inv (X.tried pins E) [] σ H s:=⟨I.ok.pinned.wish _,I.os,I.bare,I.base,I.loc,I.cell,I.free,I.freeC,λp hp=>I.pin p (by simpa using hp),I.hok,I.len⟩
theorem Inv.untried{ps:List (Addr×Obj)}(I:Inv (X.tried pins E) ps σ H s):Inv (X.pinned pins) ps σ H s:=Inv.unwish (X:=X.pinned pins) I
theorem SP.untried{D:Ends}{f:Flow}{ps:List (Addr×Obj)}(h:SP (X.tried pins E) ps D f s):SP X pins D f s:=by
 cases f with
 |next=>obtain⟨σ',H',I,q⟩:=h;exact⟨σ',H',I.untried.unpnd,q⟩
 |brk=>obtain⟨σ',H',I,q⟩:=h;exact⟨σ',H',I.untried.unpnd,q⟩
 |cont=>obtain⟨σ',H',I,q⟩:=h;exact⟨σ',H',I.untried.unpnd,q⟩
 |ret u=>obtain⟨v,σ',H',I,r,q⟩:=h;exact⟨v,σ',H',I.untried.unpnd,r,q⟩
theorem passT{E1:XK}(hi:∀c d H',E1 c d H'->E c d H'):zd7 (CX1 X.prog X.w) (X.tried pins E) E1:=by rintro ps σ H s e s' I ⟨a,H',B,o,vs,q1,q2,q3,q4,q5,q6,q7,h⟩;exact⟨ps,σ,H,s,I.untried,a,H',B,o,vs,q1,q2,q3,q4,q5,q6,q7,hi _ _ _ h⟩
theorem Inv.held{a:Addr}(I:Inv X pins σ H s):Inv (X.held a) pins σ H s :=
 ⟨⟨I.ok.mod,I.ok.kind,I.ok.glob,I.ok.blt,I.ok.above,I.ok.inj,I.ok.has,I.ok.cab,(λz=>nomatch z),I.ok.frames,I.ok.stk,I.ok.exf,I.ok.bs,I.ok.bsz,I.ok.noex,I.ok.exfs,I.ok.funs,I.ok.frf⟩,I.os,I.bare,I.base,I.loc,I.cell,I.free,I.freeC,I.pin,I.hok,I.len⟩
theorem Inv.unheld{a:Addr}(ok:X.Ok)(I:Inv (X.held a) pins σ H s):Inv X pins σ H s:=⟨ok,I.os,I.bare,I.base,I.loc,I.cell,I.free,I.freeC,I.pin,I.hok,I.len⟩
theorem Inv.track{a:Addr}{u:HO}{σ2:St}{H2:Hp}{s2:Ac}(I:Inv X pins σ H s)(I2:Inv X pins σ2 H2 s2)(hex:X.ex=[])(hn:H a=none)(h2:s2.heap.get? a=none)(new:ObjOk X.prog X.w (upd H a u) s.heap a u):Inv X pins σ (upd H a u) s:=by
 have na:∀b v,s2.heap.get? b=some v->b≠a:=λb v q z=>by rw[z,h2]at q;cases q
 have n0:∀b v,X.s₀.heap.get? b=some v->b≠a:=λb v q=>by obtain⟨x,hx⟩:=I2.base.there b v q (by rw[hex];simp);exact na b x hx
 have nH:∀b v,H b=some v->b≠a:=λb v q z=>by rw[z,hn]at q;cases q
 have nL:X.env.locals≠a:=by obtain⟨m,⟨v,_,_,q,_⟩,_⟩:=I2.loc;exact na _ v q
 have B:=I.base;refine⟨I.ok,I.os,I.bare,⟨B.keep,B.slot,λb v q z hx=>?_,B.there,λb xs q=>?_,λb v w q=>?_,λb ps q=>?_⟩,I.loc,I.cell,?_,λx c q=>?_,λp hp=>?_,λb v q=>?_,I.len⟩
 .rw[zai (n0 b v q)];exact B.free b v q z hx
 .have:=B.tups b xs q;rw[zai (nH _ _ this)];exact this
 .have:=B.frzs b v w q;rw[zai (nH _ _ this)];exact this
 .obtain⟨more,this⟩:=B.tbls b ps q;exact⟨more,by rw[zai (nH _ _ this)];exact this⟩
 .rw[zai nL];exact I.free
 .obtain⟨_,v,hv,_⟩:=I2.cell x c q;rw[zai (na c v hv)];exact I.freeC x c q
 .obtain⟨q1,q2,q3⟩:=I.pin p hp;refine⟨q1,?_,q3⟩;rw[zai (na _ _ (I2.pin p hp).1)];exact q2
 .by_cases hb:b=a
  .subst hb;rw[zaa]at q;cases q;exact new
  .rw[zai hb]at q;exact (I.hok b v q).stay (λ_ _ _ r=>r) (λc r=>by rw[zai (nH _ _ r)];exact r) λc xs r=>by rw[zai (nH _ _ r)];exact r
end
section
variable {X:Cx}
end
section
variable {prog:AF}{w:A5}{A:AO}{E:Value->Ac->Prop}{s:Ac}{K:W.Frag}{a D:Addr}{u:Obj}{od:Option Obj}
end
structure ExcC (K:W.Frag) (D:Addr):Prop where
 hga:CG K (.ref D) "__getattribute__" = some (some (.builtin "BaseException.__getattribute__"))
 hgb:CG K (.ref D) "__getattr__" = some none
 hb:W.subIn K (.ref D) (.type "BaseException")=some true
 hd:W.hasDictIn K D=true
 ha:CG K (.ref D) "__class__" = some (some (.builtin "object.__class__"))
 hn:W.specialIn K (.builtin "object.__class__") "__get__" = some (some (.builtin "getset_descriptor.__get__"))
 ht:W.takesIn K (.builtin "object.__class__")=some true
 hm:W.mroIn K D (.type "object")=some true
theorem PS.nox{X:Cx}{st:Stmt}{t:TS}(h:PS X.nox st t):PS X st t:=λpins s σ H D I hw=>Bv (h pins s σ H D (I.wish _) hw) (λ_ _ q=>q.unwish) λ_ _ z=>Bu z
section
variable {P:AF}{w:A5}{K:W.Frag}{mg:Str->Option Value}{base:Heap}
structure FnX (P:AF) (w:A5) (K:W.Frag) (mg:Str->Option Value) (base:Heap) (k:Nat) (x:Str) (ps:List Str) (sp:Sp) where
 f:Addr
 fd:BC
 ok:FnOk P w K mg base (CX1 P w) k f fd ps sp
 m:mg x=some (.ref f)
 kp:C5 K (.ref f)=true
 b:Binds K fd ps []
noncomputable def Df.fnX{k:Nat}{x:Str}{st:Stmt}{ps:List Str}{sp:Sp}(d:Df K mg x st ps)(h:FnOk P w K mg base (CX1 P w) k d.f d.fd ps sp):FnX P w K mg base k x ps sp:=⟨d.f,d.fd,h,d.m,d.F.kp,d.b⟩
theorem Fun.okX{x qual:Str}{st:Stmt}{f:Addr}{fd:BC}{N ps:List Str}{k:Nat}{sp:Sp}(F:Fun K x qual st f fd)(S:FnScope N ps (zaf st))(len:∀vs H Q E, sp vs H Q E -> vs.length=ps.length)
  (hb:∀(cdv:Value) (A:AO) (outer:List Env) (s:Ac) (H:Hp) (vs:List V) (Q:VK) (E:XK),Room k (A.deeper (envOfC qual (zaf st) s.heap.objs.size f cdv))->sp vs H Q E ->
   ∃t,PSs (cxOf (CX1 P w) P w K mg base N qual (zaf st) f cdv A outer s H E) (zaF st) t/\t { nx:=λ_ H'=>Q .non H',rt:=Q } (start N vs) H):FnOk P w K mg base (CX1 P w) (k+1) f fd ps sp:=by
 obtain⟨oc,od,kV,doc,pm,an,cdv,ct,osl,rfl,lk,hcd⟩:=F.ex;exact fn_of lk hcd S len λA outer s H vs Q E hr hsp=>hb cdv A outer s H vs Q E hr hsp
end
section
variable {X:Cx}{k j:Nat}{x:Str}{ps:List Str}{sp:Sp}{E:XK}{p pos:Pos}{e:Expr}{es:List Expr}{t:TA}
theorem pCX (g:FnX X.prog X.w X.K X.mg X.base k x ps sp) (hr:Room j X.A) (hx:zd7 (CX1 X.prog X.w) X E) (ha:PA X (e :: es) t) (hj:k <= j := by decide) (hg:Gl X x := by rfl) (hdb:(x == ("__debug__" : Str))=false := by decide)
  (he:Bg (e::es) X.env=(false,eval e X.env)::Bg es X.env:=by rfl) (hpl:(DH pos (Bg es X.env)).any (·.1)=false:=by rfl):PE X (.Call (.Name x p) (e::es) [] pos) (tCall sp [] E t) :=
 zi7 g.ok (hr.mono hj) hg g.m g.kp g.b .nil hx ha hdb he hpl
end
noncomputable abbrev zjD(C t:Addr):Obj:={ cls:=.ref C,data:=.fields #[.ref t,.none,.none,.none,.bool false,.none] }
noncomputable abbrev heapX (h:Heap) (C:Addr) (us:List Value):Heap:=(h.push { cls:=.type "tuple",data:=.seq us.toArray }).push (zjD C h.objs.size)
theorem zbK{h:Heap}{C:Addr}{us:List Value}(b:Addr)(o:Obj)(e:h.get? b=some o):(heapX h C us).get? b=some o:=Ag _ (Ag _ e)
section
variable {prog:AF}{w:A5}{A:AO}{E:Value->Ac->Prop}{h:Heap}{g:Array GenState}{d:Drawn}{t:Nat}{os:OsState}
variable {nm q:Str}{C N f:Addr}{bs bm bmB:List Value}{hdct:Bool}{sn:List Str}{sub:List Value}{ab:Bool}{col:Option Bool}{dd:Option Addr}{k0 k1 k2 k3 k5:Option Value}{B newId initId:String}
theorem ziv(F:ExcBaseFacts B newId initId bmB)(T:OwnTail h bmB bm){mN:Str -> Option Value}{us:List Value}{Q:Fin -> Ac -> Prop}(hC:h.get? C=some (excClassObj nm q C N bs bm hdct sn sub ab col dd k0 k1 k2 k3 k5 newId))(hn:h.Ns N mN)
  (hni:mN "__init__" = some (.ref f)) (hbd:∀self,W.Looks (Az prog w) h (bindSpecial (.ref f) self) (.ref f,[self])) (hus:us.length<=sizeLine)
  (hcall:Ar (Az prog w) A (call (.ref f) (.ref (h.objs.size+1)::us)) (λv s'=>v=.none/\Q (.done (.ret (.ref (h.objs.size+1)))) s') E ⟨heapX h C us,g,d,t,os⟩) :
  Ar (Az prog w) A (Builtin.«type.__call__» ⟨.ref C::us,[]⟩) Q E ⟨h,g,d,t,os⟩:=by
 repeat (first |with_reducible refine Ds hC ?_ |with_reducible refine wpAny_madeBy_exc hC ?_ |wp_step)
 refine codeAny_call_builtin_code (Code.quiet_builtin _ F.quiet) (wpAny_check_new_subT F T hC (codeAny_exc_new_subT F T hC ?_ hus));show Ar _ _ _ _ _ _;have c1:(heapX h C us).get? C=_:=zbK _ _ hC;have n1:(heapX h C us).Ns N mN:=hn.keeps zbK;have g1:(heapX h C us).get? (h.objs.size+1)=some (zjD C h.objs.size):=by heap_get
 have hcC:(Ao C::bm).contains (.ref C)=true:=by simp
 have T1:=T.keeps (h':=heapX h C us) zbK;unfold isInstance
 repeat (first |with_reducible refine Ds g1 ?_ | (with_reducible refine wpAny_isSubtype_exc c1 ?_;rw[hcC]) |wp_step)
 show Ar _ _ (typeLookup (.ref C) _) _ _ _;refine wpAny_typeLookup_tail c1 n1 T1 F.mroIs F.init.lookup ?_
 rw[hni];refine Bw (Aa (((hbd _).keeps zbK).at ?_));refine Aa (Bv hcall (λv s' ⟨hv,hq⟩=>?_) λ_ _ z=>z);subst hv;exact Ah (Ah hq)
theorem zkI(F:ExcBaseFacts B newId initId bmB)(T:OwnTail h bmB bm){mN:Str -> Option Value}{us:List Value}{Q:Value -> Ac -> Prop}(hC:h.get? C=some (excClassObj nm q C N bs bm hdct sn sub ab col dd k0 k1 k2 k3 k5 newId))(hn:h.Ns N mN)
  (hni:mN "__init__" = some (.ref f)) (hbd:∀self,W.Looks (Az prog w) h (bindSpecial (.ref f) self) (.ref f,[self])) (hus:us.length<=sizeLine)
  (hcall:Ar (Az prog w) (A.under (.builtin "type.__call__" ⟨.ref C::us,[]⟩)) (call (.ref f) (.ref (h.objs.size+1)::us)) (λv s'=>v=.none/\Q (.ref (h.objs.size+1)) s') E ⟨heapX h C us,g,d,t,os⟩) :
  Ar (Az prog w) A (call (.ref C) us) Q E ⟨h,g,d,t,os⟩:=by
 have f1:=tc_lookup;have f2:=tc_bind (.ref C);have hT:(⟨h,g,d,t,os⟩:Ac).TypeIs (.ref C) "type":=⟨_,hC,rfl⟩;refine wpAny_call (codeAny_of_tree ?_);show Ar _ _ (callAny (.ref C) _) _ _ _
 repeat (any_goals (first |assumption |with_reducible refine Ds hC ?_ |wp_step))
 refine⟨rfl,codeAny_call_builtin_at (Code.quiet_builtin _ (by decide +kernel)) entry_typeCall (wpAny_check_type_call_sub hC (ziv F T hC hn hni hbd hus ?_))⟩;exact hcall
end
noncomputable def overX(bm:List Value):List Value->Bool
 |.ref _::r=>overX bm r
 |l=>l == bm
noncomputable abbrev bmV:List Value:=[.type "ValueError",.type "Exception",.type "BaseException",.type "object"]
theorem zhk (self:Value):∀{l:List Value},overX bmV l=true->PySem.refuseLoop self "__setattr__" l=pure ()
 |.ref c::r,e=>by rw[PySem.refuseLoop_ref];exact zhk self (by unfold overX at e;exact e)
 |[],e=>by cases e
 |.none::r,e=>by cases e
 |.type n::r,e=>by
  have:(Value.type n::r)=bmV:=eq_of_beq (by unfold overX at e;exact e);rw[this];exact PySem.F.store_ValueError.passes self
section
variable {prog:AF}{w:A5}{A:AO}{R:Result->Ac->Prop}{E:Value->Ac->Prop}{s:Ac}{K:W.Frag}{x C:Addr}{ox:Obj}{od:Option Obj}
theorem osaX {name:Str}{tk:Tok}{v:Value}{cd:ClassData}(X:K.In s.heap) (I:W.InstAt s.heap x ox C od) (hc:W.clsIn K C=some cd) (hp:overX bmV cd.mro=true) (hm:W.mroIn K C (.type "object")=some true) (hn:CG K (.ref C) name=some none)
  (h:Ar (Az prog w) A.in1 (PySem.Builtin.ObjectAttr.storeInOwnDict (.ref x) (.ref C) (.str name tk) name v false)
   (λfin s'=>match fin with |.done f=>R (.ok f) s' |.again c'=>c'.quiet=true/\Da (Az prog w) A c' R s') (λe s'=>R (.error e) s') s) :
  Da (Az prog w) A (.call (.builtin "object.__setattr__") ⟨[.ref x,.str name tk,v],[]⟩) R s:=by
 have SF:=PySem.F.store_object;have sub:W.Looks (Az prog w) s.heap (isInstance (.ref x) (.type "object")) true:=I.type.andThen (W.looks_mroIn X hm);refine codeAny_call_builtin SF.slot.plain SF.entry (W.check_slot (M:=Az prog w) (s:=s) (i:="object.__setattr__") (owner:="object") (n:="__setattr__") (self:=.ref x) (rest:=[.str name tk,v]) (kw:=[]) SF.kind SF.split sub (SF.args (.ref x) (.str name tk) v) ?_);have hmr:W.Looks (Az prog w) s.heap (mroOf (.ref C)) cd.mro:=(W.looks_clsIn X hc).andThen .now;rw[W.osa_eq,refuse_eq];refine Aa (Aa (I.type.here (Aa (hmr.here ?_))));rw[zhk _ hp];refine Ah (Aa (I.type.here (Aa ((W.looks_findIn X hn).here (Aa (Ah h))))))
theorem zlO{name:Str}{v:Value}{cd:ClassData}{vs:Array Value}{sl:Array (Option Value)}{Q:Unit -> Ac -> Prop}(X:K.In s.heap)(hx:s.heap.get? x=some ⟨.ref C, none, .fields vs, sl⟩)(hc:W.clsIn K C=some cd)(hd:cd.hasDict=true)(hp:overX bmV cd.mro=true)
  (hm:W.mroIn K C (.type "object")=some true) (hn:CG K (.ref C) name=some none) (hs:CG K (.ref C) "__setattr__" = some (some (.builtin "object.__setattr__")))
  (h:∀h' dx,s.heap.get? dx=none->dx≠x->h'.get? x=some ⟨.ref C,some dx,.fields vs,sl⟩->h'.Ns1 dx (λy=>if y=name then some v else none)->(∀b o,b≠x->s.heap.get? b=some o->h'.get? b=some o)->Q () { s with heap:=h',toks:=s.toks+2 }) :
  Ar (Az prog w) A (setAttr (.ref x) name v) Q E s:=by
 have I:W.InstAt s.heap x ⟨.ref C,none,.fields vs,sl⟩ C none:=⟨hx,rfl,rfl,trivial⟩;refine W.set_plain X I hs (osaX (s:={ s with toks:=s.toks+1 }) X I hc hp hm hn ?_);refine Aa (Ah (Aa (Aa (wpAny_loadPart hx (Aa (W.Looks.here (s:={ s with toks:=s.toks+1 }) (W.looks_clsIn X hc) ?_))))));rw[hd];have e0:(s.heap.push W.emptyDict).get? s.heap.objs.size=some W.emptyDict:=AB s.heap rfl;have ne:s.heap.objs.size≠x:=Cr (Ax hx);have hx1:=Ag W.emptyDict hx;refine Aa (wpAny_alloc (o:=W.emptyDict) (s:={ s with toks:=s.toks+1 }) ?_);refine Aa (wpAny_update hx1 ?_);refine Ah (Aa (Ah (Aa ?_)));have up:∀b,b≠x->((s.heap.push W.emptyDict).update x λo=>{ o with dict:=some s.heap.objs.size }).get? b=(s.heap.push W.emptyDict).get? b:=λb z=>BO _ _ (Bx z)
 have n1:((s.heap.push W.emptyDict).update x λo=>{ o with dict:=some s.heap.objs.size }).Ns1 s.heap.objs.size (λ_=>none) :=
  (Heap.Ns1.of_empty (h:=s.heap.push W.emptyDict) ⟨W.emptyDict,#[],_,e0,rfl,(λe he=>absurd he (by simp)),λ_=>rfl⟩).at λo q=>(up _ ne).trans q
 refine wpAny_nsSet1 (s:={ s with heap:=_,toks:=s.toks+1 }) n1 λh' hn2 hs2=>?_
 obtain⟨oD,esD,epD,hoD,hdD,hcD⟩:=hn2.count (PySem.Within.cons name v (ns:=[]) λ_ z=>absurd rfl z);refine Aa (wpAny_lookBehind hoD (by rw[hdD];exact pastItsLine_dict (AN hcD (by rw[Cj,sizeLine_eq];decide))) ?_);refine Ah (h _ s.heap.objs.size (by cases q:s.heap.get? s.heap.objs.size with |none=>rfl |some u=>exact absurd (Ax q) (Ca _)) ne ?_ hn2 λb o z q=>?_)
 .exact (hs2.2 _ (Bx ne)).trans (CQ _ hx1 rfl)
 .exact (hs2.2 _ (AV (Ax q))).trans ((up b z).trans (Ag _ q))
end
section
variable {prog:AF}{w:A5}{A:AO}{E:Value->Ac->Prop}{s:Ac}{K:W.Frag}{x C dx:Addr}
theorem zkA{name:Str}{v:Value}{cd:ClassData}{vs:Array Value}{sl:Array (Option Value)}{mA:Str -> Option Value}{ns:List Str}{Q:Unit -> Ac -> Prop}(X:K.In s.heap)(hx:s.heap.get? x=some ⟨.ref C, some dx, .fields vs, sl⟩)(hn1:s.heap.Ns1 dx mA)(hc:W.clsIn K C=some cd)(hd:cd.hasDict=true)(hp:overX bmV cd.mro=true)
  (hm:W.mroIn K C (.type "object")=some true) (hn:CG K (.ref C) name=some none) (hs:CG K (.ref C) "__setattr__" = some (some (.builtin "object.__setattr__")))
  (hw:PySem.Within mA ns) (hsz:ns.length<=sizeLine)
  (h:∀h',h'.Ns1 dx (λy=>if y=name then some v else mA y)->Cq dx s.heap h'->Q () { s with heap:=h',toks:=s.toks+2 }) :
  Ar (Az prog w) A (setAttr (.ref x) name v) Q E s:=by
 obtain⟨od,ho,hl⟩:=zfQ hn1;have I:W.InstAt s.heap x ⟨.ref C,some dx,.fields vs,sl⟩ C (some od):=⟨hx,rfl,rfl,ho⟩;refine W.set_plain X I hs (osaX (s:={ s with toks:=s.toks+1 }) X I hc hp hm hn ?_);refine Aa (Ah (Aa (Aa (wpAny_loadPart hx (Aa (W.Looks.here (s:={ s with toks:=s.toks+1 }) (W.looks_clsIn X hc) ?_))))));rw[hd];refine Ah (a:=some dx) (Aa (Ah (Aa ?_)));refine wpAny_nsSet1 (s:={ s with toks:=s.toks+1 }) hn1 λh' hn2 hs2=>?_
 obtain⟨oD,esD,epD,hoD,hdD,hcD⟩:=hn2.count (PySem.Within.cons name v hw);refine Aa (wpAny_lookBehind hoD (by rw[hdD];exact pastItsLine_dict (AN hcD (by rw[Be];lia))) ?_);exact Ah (h _ hn2 hs2)
end
noncomputable def xdO(d:Addr)(fs:List (Str×V)):HO:=.ext λh=>∃mA,h.Ns1 d mA/\(∀f,RelO (fs.lookup f) (mA f))/\PySem.Within mA (fs.map (·.1))
noncomputable def exN(e C t:Addr)(d:Option Addr):HO:=.ext λh=>h.get? e=some { cls:=.ref C,dict:=d,data:=.fields #[.ref t,.none,.none,.none,.bool false,.none] }
theorem zkK{P:AF}{w:A5}{H:Hp}{h:Heap}{d:Addr}{fs:List (Str×V)}{mA:Str->Option Value}(a:h.Ns1 d mA)(b:∀f,RelO (fs.lookup f) (mA f))(c:PySem.Within mA (fs.map (·.1))):ObjOk P w H h d (xdO d fs) :=
 ⟨⟨mA,a,b,c⟩,let ⟨o,_,_,e,_⟩:=a;⟨o,e⟩,λh1 h2 ⟨mA,a,b,c⟩ k=>⟨mA,a.at k,b,c⟩⟩
theorem zk9{P:AF}{w:A5}{H:Hp}{h:Heap}{e C t:Addr}{d:Option Addr}(a:h.get? e=some { cls:=.ref C,dict:=d,data:=.fields #[.ref t,.none,.none,.none,.bool false,.none] }):ObjOk P w H h e (exN e C t d) :=
 ⟨a,⟨_,a⟩,λh1 h2 q k=>k _ q⟩
structure ExS (K:W.Frag) (C:Addr):Prop where
 cl:(W.clsIn K C).any (λcd=>cd.hasDict && overX bmV cd.mro)=true
 m:W.mroIn K C (.type "object")=some true
 s:CG K (.ref C) "__setattr__" = some (some (.builtin "object.__setattr__"))
noncomputable def sFldX(K:W.Frag)(ta tv:TE)(f:Str):TS:=λD σ H=>tv σ H λy H1=>ta σ H1 λx H2=>∃a C t,x=.ref a/\ExS K C/\zhJ K C f /\
 ((H2 a=some (exN a C t none)/\∀d,H2 d=none->d≠a->D.nx σ (upd (upd H2 a (exN a C t (some d))) d (xdO d [(f,y)]))) ∨
  (∃d fs,H2 a=some (exN a C t (some d))/\H2 d=some (xdO d fs)/\fs.length<1000/\D.nx σ (upd H2 d (xdO d (putF f y fs)))))
section
variable {X:Cx}{pins:List (Addr×Obj)}{σ:St}{H:Hp}{s:Ac}{a C t:Addr}{f:Str}{A:AO}{E:Value->Ac->Prop}
theorem zlq{y:V}{u:Value}{Q:Unit -> Ac -> Prop}(hex:X.ex = [])(I:Inv X pins σ H s)(c:ExS X.K C)(n:zhJ X.K C f)(e:H a=some (exN a C t none))(ry:RelV y u)
  (h:∀s' d,H d=none->d≠a->Inv X pins σ (upd (upd H a (exN a C t (some d))) d (xdO d [(f,y)])) s'->Q () s'):Ar (Az X.prog X.w) A (setAttr (.ref a) f u) Q E s:=by
 obtain⟨e1,_⟩:=I.hok a _ e;obtain⟨cd,hc,q⟩:=W.any_some c.cl;rw[A3]at q;refine zlO I.kIn e1 hc q.1 q.2 c.m n c.s λh' d hd ne g1 g2 k=>?_
 have hn:=I.hok.gone hd;have I1:=I.write (x:=a) (e:=a) (o:=exN a C t (some d)) (h':=h') (t':=s.toks+2) (by rw[e];exact Cb) (.inl rfl) k ⟨_,g1⟩ (zk9 g1);refine h _ d hn ne (I1.track I hex (by rw[zai ne];exact hn) hd (zkK g2 (λg=>?_) λg hg=>?_))
 .rw[Bq]
  by_cases q:g=f
  .subst q;simp;exact ry
  .rw[if_neg q,show (g == f)=false from beq_eq_false_iff_ne.mpr q];exact Cb
 .by_cases q:g=f
  .simp[q]
  .exact absurd (show (if g=f then some u else none)=none by rw[if_neg q]) hg
theorem zjZ{y:V}{u:Value}{d:Addr}{fs:List (Str × V)}{Q:Unit -> Ac -> Prop}(I:Inv X pins σ H s)(c:ExS X.K C)(n:zhJ X.K C f)(e:H a=some (exN a C t (some d)))(ed:H d=some (xdO d fs))(hl:fs.length < 1000)(ry:RelV y u)
  (h:∀s',Inv X pins σ (upd H d (xdO d (putF f y fs))) s'->Q () s'):Ar (Az X.prog X.w) A (setAttr (.ref a) f u) Q E s:=by
 obtain⟨e1,_⟩:=I.hok a _ e;obtain⟨⟨mA,m1,r,wi⟩,_⟩:=I.hok d _ ed;obtain⟨cd,hc,q⟩:=W.any_some c.cl;rw[A3]at q;have hz:(fs.map (·.1)).length<=sizeLine:=by rw[Ai,sizeLine_eq];lia
 refine zkA I.kIn e1 m1 hc q.1 q.2 c.m n c.s wi hz λh' g2 k=>h _ ?_
 refine I.write (x:=d) (e:=d) (by rw[ed];exact Cb) (.inl rfl) (λb q hb z=>(k.2 b hb).trans z) (let ⟨o,_,_,e',_⟩:=g2;⟨o,e'⟩) (zkK g2 (λg=>?_) λg hg=>?_)
 .rw[zdV]
  by_cases q:g=f
  .rw[if_pos q,if_pos q];exact ry
  .rw[if_neg q,if_neg q];exact r g
 .by_cases q:g=f
  .rw[q];exact (zdY f y fs).1
  .refine (zdY f y fs).2 g (wi g λz=>hg ?_);show (if g=f then some u else mA g)=none;rw[if_neg q];exact z
end
section
variable {X:Cx}{o value:Expr}{f:Str}{pos pos':Pos}{ta tv:TE}
theorem zlw(hex:X.ex=[])(ha:PE X o ta)(hv:PE X value tv)(hs:swapsWith value (some (.Attribute o f pos')) pos.line X.env=pure false):PS X (.Assign [.Attribute o f pos'] value pos) (sFldX X.K ta tv f):=by
 intro pins s σ H D I h;refine plainObj_wpAny_Assign_Attribute (thn (hv pins s σ H _ I h) λu s1 ⟨y,H1,I1,ry,q⟩=>thn (ha pins s1 σ H1 _ I1 q) λov s2 ⟨x,H2,I2,rx,a,C,t,ex,c,n,q2⟩=>?_) hs;subst ex;obtain rfl:ov=Ao a:=rx;rcases q2 with⟨e,q2⟩ |⟨d,fs,e,ed,l,q2⟩
 .exact zlq hex I2 c n e ry λs3 d hd ne I3=>⟨σ,_,I3,q2 d hd ne⟩
 .exact zjZ I2 c n e ed l ry λs3 I3=>⟨σ,_,I3,q2⟩
end
noncomputable def zhF(K:W.Frag)(C:Addr)(bB:List Value)(nw:String)(f:Addr):Bool:=match K.lookup C with
 |some ⟨.type "type",_,.cls c,⟨[_,_,_,_,k4,_]⟩⟩=>k4 == some (.builtin nw) && !c.hasDel && c.mro.head? == some (.ref C) && W.tailIn K bB c.mro.tail && W.nsOkIn K c.ns && Ch K c.ns "__init__" == some (some (.ref f))
 |_=>false
theorem zlD{K:W.Frag}{h:Heap}{N:Addr}{mg:Str->Option Value}{n:Str}{v:Value}(X:K.In h)(G:h.Ns N mg)(e:Ch K N n=some (some v)):mg n=some v:=by
 obtain⟨o,es,ep,ho,hd,_,hf⟩:=G;unfold Ch at e;split at e
 .rename_i c d es' n' sl q
  have:=X _ _ q;rw[ho]at this
  cases this
  cases hd
  split at e
  .rename_i en he
   cases e
   rw[<- hf];unfold nsFind findBy;rw[<- Array.find?_toList,he];rfl
  .split at e <;> cases e
 .cases e
theorem zjC{K:W.Frag}{h:Heap}{C f:Addr}{bB:List Value}{nw:String}(X:K.In h)(q:zhF K C bB nw f=true) :
  ∃bm N nm qn bs hd sn sub ab col dd k0 k1 k2 k3 k5 mN,h.get? C=some (excClassObj nm qn C N bs bm hd sn sub ab col dd k0 k1 k2 k3 k5 nw)/\h.Ns N mN/\mN "__init__" = some (.ref f)/\OwnTail h bB bm:=by
 unfold zhF at q;split at q
 .rename_i dd c k0 k1 k2 k3 k4 k5 ho
  simp only[A3,beq_iff_eq,Bool.not_eq_true']at q;obtain⟨⟨⟨⟨⟨q1,q2⟩,q3⟩,q4⟩,q5⟩,q6⟩:=q;have h0:=X _ _ ho
  cases c with
  |mk nm bs mro ns qn hd sn sub ab col del =>
   cases q2
   subst q1
   cases mro with
   |nil=>cases q3
   |cons b bm =>
    cases q3
    exact⟨bm,ns,nm,qn,bs,hd,sn,sub,ab,col,dd,k0,k1,k2,k3,k5,_,h0,.of_isNs (W.isNs_of_in X q5),zlD X (.of_isNs (W.isNs_of_in X q5)) q6,W.tail_of_in X q4⟩
 .cases q
structure MkX (K:W.Frag) (C f:Addr) (bB:List Value) (nw:String):Prop where
 ex:zhF K C bB nw f=true
 fn:W.isFn K (.ref f)=true
 kp:C5 K (.ref C)=true
section
variable {X:Cx}{C f:Addr}{k:Nat}{fd:BC}{ps:List Str}{sp:Sp}{E:XK}{Bn nw it:String}{bB:List Value}{CX:CXT}{x:Str}{p pos:Pos}{e:Expr}{es:List Expr}{t:TA}
theorem Inv.madeX{pins:List (Addr×Obj)}{σ:St}{H:Hp}{s:Ac}{us:List Value}(I:Inv X pins σ H s):Inv X pins σ (upd H (s.heap.objs.size+1) (exN (s.heap.objs.size+1) C s.heap.objs.size none)) { s with heap:=heapX s.heap C us } :=
 I.laid (t':=s.toks) zbK (B5 _) (zk9 (by
  have:=AB (s.heap.push { cls:=.type "tuple",data:=.seq us.toArray }) (o:=zjD C s.heap.objs.size) rfl
  rwa [Heap.size_push]at this))
theorem ziR{pins:List (Addr × Obj)}{σ : St}{H:Hp}{s:Ac}{Q:VK}{us:List Value}{vs:List V}(FB:ExcBaseFacts Bn nw it bB)(M:MkX X.K C f bB nw)(F:FnOk X.prog X.w X.K X.mg X.base CX k f fd ps sp)(hr:Room (k + 1) X.A)(hb:Binds X.K fd ps [])
  (hx:zd7 CX X E) (I:Inv X pins σ H s) (r:Vals vs us) (hl:vs.length<=1000)
  (h:∀x tp,H x=none->X.s₀.heap.get? x=none->sp (.ref x::vs) (upd H x (exN x C tp none)) (λv H2=>v=.non/\Q (.ref x) H2) E) :
  Ar (Az X.prog X.w) X.A (call (.ref C) us) (EP X pins σ Q) X.xe s:=by
 have hq:=h (s.heap.objs.size+1) s.heap.objs.size (I.hok.fresh (B5 _)) (by
  cases q:X.s₀.heap.get? (s.heap.objs.size+1) with
  |none=>rfl
  |some u=>exact absurd (AC (Ax q) I.sz) (by lia))
 have I2:=Inv.madeX (C:=C) (us:=us) I;have r2:Vals (V.ref (s.heap.objs.size+1)::vs) (Ao (s.heap.objs.size+1)::us):=.cons rfl r
 have hl2:(Ao (s.heap.objs.size+1)::us++[]).length=ps.length:=by have e:=r2.length;rw[F.len _ _ _ _ hq]at e;rw[AE];exact e.symm
 obtain⟨bm,ns,nm,qn,bs,hdd,sn,sub,ab,col,dd,k0,k1,k2,k3,k5,mN,hC,hN,hni,T⟩:=zjC I.kIn M.ex
 have fin:=F.run _ X.stack _ _ ⟨Ao (s.heap.objs.size+1)::us,[]⟩ (Ao (s.heap.objs.size+1)::us) _ _ E (hr.make C us []) (I2.env0.make C us []) (by
  have:=hb _ (Ao (s.heap.objs.size+1)::us) I2.kIn hl2
  rwa [AE]at this) r2 hq
 obtain⟨hh,g,d,tk,os⟩:=s;refine zkI FB T hC hN hni (λself=>W.bind_fn I.kIn self (beq_iff_eq.mp M.fn)) (by have e:=r.length;rw[sizeLine_eq];lia) (wpAny_call (Db fin λr s' hq'=>?_))
 cases r with
 |error e=>exact hx pins σ _ _ e s' I2 hq'
 |ok fl =>
  cases fl with
  |ret u =>
   obtain⟨v,H',I3,rv,ev,q3⟩:=I2.after hq';subst ev;exact⟨rv,⟨V.ref (hh.objs.size+1),H',I3,rfl,q3⟩⟩
  |next=>exact Bu hq'
  |brk=>exact Bu hq'
  |cont=>exact Bu hq'
end
noncomputable def drop(H:Hp)(a:Addr):Hp:=λb=>if b=a then none else H b
theorem zfj{H:Hp}{a b:Addr}(h:b≠a):drop H a b=H b:=by unfold drop;rw[if_neg h]
theorem zcZ{H:Hp}{a:Addr}:drop H a a=none:=by unfold drop;rw[if_pos rfl]
theorem zkF{H:Hp}{a d:Addr}{o u:HO}(hn:H a=none)(ne:d≠a):drop (upd (upd H a o) d u) a=upd H d u:=by
 funext b
 by_cases q:b=a
 .subst q;rw[zcZ,zai (Bx ne)];exact hn.symm
 .rw[zfj q]
  by_cases z:b=d
  .subst z;rw[zaa,zaa]
  .rw[zai z,zai z,zai q]
section
variable {M:Model}{A:AO}{E:Value->Ac->Prop}{s:Ac}{env:Env}
variable {nm q:Str}{C N:Addr}{bs bm:List Value}{hdct:Bool}{sn:List Str}{sub:List Value}{ab:Bool}{col:Option Bool}{dd:Option Addr}{k0 k1 k2 k3 k5:Option Value}{newId:String}
theorem zhT{x:Sem Value}{Q:Flow -> Ac -> Prop}(hh:A.handled=none)
  (h:Ar M A x (λv s₁=>∃e t dx C N nm q bs bm hdct sn sub ab col dd k0 k1 k2 k3 k5 newId,v=.ref e/\bm.contains (.type "BaseException")=true/\s₁.heap.get? C=some (excClassObj nm q C N bs bm hdct sn sub ab col dd k0 k1 k2 k3 k5 newId) /\
   s₁.heap.get? e=some { cls:=.ref C,dict:=dx,data:=.fields #[.ref t,.none,.none,.none,.bool false,.none] }/\E (.ref e) s₁) E s) :
  Ar M A (raiseStmt env (some x) none) Q E s:=by
 unfold raiseStmt;refine Aa (Bv h (λv s₁ h₁=>?_) λ_ _ x=>x);obtain⟨e,t,dx,C,N,nm,q,bs,bm,hdct,sn,sub,ab,col,dd,k0,k1,k2,k3,k5,newId,rfl,hbase,hC,he,hE⟩:=h₁;have hcB:(Ao C::bm).contains (.type "BaseException")=true:=by rw[List.contains_cons,hbase,Bool.or_true]
 obtain⟨hp,g,d,tk,os⟩:=s₁
 repeat (first |with_reducible refine Ds he ?_ |with_reducible refine Ds hC ?_ | (with_reducible refine wpAny_isSubtype_exc hC ?_;rw[hcB]) |wp_step)
 exact wpAny_raiseNew_none hh hE
end
section
variable {X:Cx}{pins:List (Addr×Obj)}{σ:St}{H:Hp}{s:Ac}
theorem Inv.forget{a:Addr}{φ:Heap->Prop}(I:Inv X pins σ H s)(e:H a=some (.ext φ)):Inv X pins σ (drop H a) s:=by
 have sub:∀b u,drop H a b=some u->H b=some u:=λb u q=>by
  by_cases z:b=a
  .subst z;rw[zcZ]at q;cases q
  .rwa [zfj z]at q
 have non:∀b,H b=none->drop H a b=none:=λb q=>by
  by_cases z:b=a
  .subst z;exact zcZ
  .rw[zfj z];exact q
 have oth:∀b u,H b=some u->(∀ φ,u≠.ext φ)->drop H a b=some u:=λb u q n=>by
  by_cases z:b=a
  .subst z;rw[e]at q;cases q;exact absurd rfl (n φ)
  .rw[zfj z];exact q
 have B:=I.base;refine⟨I.ok,I.os,I.bare,⟨B.keep,B.slot,λb v q z hx=>non _ (B.free b v q z hx),B.there,λb xs q=>oth _ _ (B.tups b xs q) (λ_ z=>nomatch z),λb v w q=>oth _ _ (B.frzs b v w q) (λ_ z=>nomatch z),λb ps q=>?_⟩,I.loc,I.cell,non _ I.free,λx c q=>non _ (I.freeC x c q),λp hp=>?_,λb v q=>?_,I.len⟩
 .obtain⟨more,this⟩:=B.tbls b ps q;exact⟨more,oth _ _ this (λ_ z=>nomatch z)⟩
 .obtain⟨q1,q2,q3⟩:=I.pin p hp;exact⟨q1,non _ q2,q3⟩
 .exact (I.hok b v (sub b v q)).stay (λ_ _ _ r=>r) (λc r=>oth _ _ r (λ_ z=>nomatch z)) λc xs r=>oth _ _ r (λ_ z=>nomatch z)
end
section
variable {P:AF}{w:A5}{K:W.Frag}{mg:Str->Option Value}{base:Heap}{N:List Str}{qual:Str}{scope:Scope}{f:Addr}{cd:Value}{A:AO}{outer:List Env}{s0:Ac}{H0:Hp}{E:XK}
theorem zmm{C fI:Addr}{bB:List Value}{nw Bn it:String}{ex:Expr}{pos:Pos}{pins:List (Addr × Obj)}{σ : St}{H:Hp}{s:Ac}{Q:Flow -> Ac -> Prop}(FB:ExcBaseFacts Bn nw it bB)(M:MkX K C fI bB nw)(I:Inv (cxOf (CX1 P w) P w K mg base N qual scope f cd A outer s0 H0 E) pins σ H s)
  (he:Ar (Az P w) (cxOf (CX1 P w) P w K mg base N qual scope f cd A outer s0 H0 E).A (eval ex (cxOf (CX1 P w) P w K mg base N qual scope f cd A outer s0 H0 E).env) (EP (cxOf (CX1 P w) P w K mg base N qual scope f cd A outer s0 H0 E) pins σ λv H2=>∃a t d,v=.ref a/\s0.heap.get? a=none/\H2 a=some (exN a C t d)/\E (.ref C) d (drop H2 a)) (cxOf (CX1 P w) P w K mg base N qual scope f cd A outer s0 H0 E).xe s) :
  Ar (Az P w) (cxOf (CX1 P w) P w K mg base N qual scope f cd A outer s0 H0 E).A (exec (.Raise (some ex) none pos) (cxOf (CX1 P w) P w K mg base N qual scope f cd A outer s0 H0 E).env) Q (cxOf (CX1 P w) P w K mg base N qual scope f cd A outer s0 H0 E).xe s:=by
 rw[arm_exec_Raise];refine Aa (DO (zhT (I.ok.hd rfl) (Aa (Bv he (λv s1 ⟨x,H2,I1,rx,a,t,d,ex,hnew,ea,q⟩=>Aa (DO (Ah ?_))) λ_ _ z=>z))));subst ex;obtain rfl:v=Ao a:=rx;obtain⟨bm,ns,nm,qn,bs,hdd,sn,sub,ab,col,dd,k0,k1,k2,k3,k5,mN,hC,hN,hni,T⟩:=zjC I1.kIn M.ex;obtain⟨e1,_⟩:=I1.hok a _ ea;exact⟨a,t,d,C,_,_,_,_,_,_,_,_,_,_,_,_,_,_,_,_,_,rfl,T.hasType FB.hasBase,hC,e1,xe_of (o:={ cls:=.ref C,dict:=d,data:=.fields #[.ref t,.none,.none,.none,.bool false,.none] }) (I1.forget ea) e1 rfl zcZ hnew q⟩
theorem ziZ{C fI:Addr}{bB:List Value}{nw Bn it:String}{k:Nat}{fd:BC}{ps:List Str}{sp:Sp}{x:Str}{np cpos pos:Pos}{e:Expr}{es:List Expr}{t:TA}{R:List V -> Hp -> Prop}(FB:ExcBaseFacts Bn nw it bB)(M:MkX K C fI bB nw)(F:FnOk P w K mg base (CX1 P w) k fI fd ps sp)
  (hR:∀vs H1,R vs H1->vs.length<=1000/\∀x tp,H1 x=none->sp (.ref x::vs) (upd H1 x (exN x C tp none)) (λv H2=>v=.non/\∃t d,H2 x=some (exN x C t d)/\E (.ref C) d (drop H2 x)) (λ_ _ _=>False))
  (hm':∀vs H Q Q' E,(∀v H',Q v H'->Q' v H')->sp vs H Q E->sp vs H Q' E) (hr:Room (k+1) (cxOf (CX1 P w) P w K mg base N qual scope f cd A outer s0 H0 E).A) (hb:Binds K fd ps []) (hg:Gl (cxOf (CX1 P w) P w K mg base N qual scope f cd A outer s0 H0 E) x) (hm:mg x=some (.ref C))
  (ha:PA (cxOf (CX1 P w) P w K mg base N qual scope f cd A outer s0 H0 E) (e::es) t) (hdb:(x == ("__debug__" : Str))=false:=by decide)
  (he:Bg (e::es) (cxOf (CX1 P w) P w K mg base N qual scope f cd A outer s0 H0 E).env=(false,eval e (cxOf (CX1 P w) P w K mg base N qual scope f cd A outer s0 H0 E).env)::Bg es (cxOf (CX1 P w) P w K mg base N qual scope f cd A outer s0 H0 E).env:=by rfl)
  (hpl:(DH cpos (Bg es (cxOf (CX1 P w) P w K mg base N qual scope f cd A outer s0 H0 E).env)).any (·.1)=false:=by rfl) :
  PS (cxOf (CX1 P w) P w K mg base N qual scope f cd A outer s0 H0 E) (.Raise (some (.Call (.Name x np) (e::es) [] cpos)) none pos) (λ_ σ H=>t σ H R):=by
 intro pins s σ H D I h;refine zmm FB M I (Cn (zff I hg hm ?_ hdb));refine W.callWith_K (h₀:=base) I.ok.mod.kin M.kp (thn (ha cpos pins s σ H _ I h) λus s1 ⟨vs,H1,I1,r,q⟩=>⟨I1.kIn,?_⟩) he hpl;have q:=hR _ _ q;refine ziR FB M F hr hb (pass1 λ_ _ _ z=>z.elim) I1 r q.1 λy tp hy hn=>hm' _ _ _ _ _ (λv H2 z=>⟨z.1,y,?_⟩) (q.2 y tp hy)
 obtain⟨_,t,d,q1,q2⟩:=z;exact⟨t,d,rfl,hn,q1,q2⟩
end
noncomputable def spI(C:Addr)(fs:List Str):Sp:=λvs H Q _=>∃x t ws,vs=.ref x::ws/\ws.length=fs.length/\H x=some (exN x C t none)/\∀d,H d=none->d≠x->Q .non (upd (upd H x (exN x C t (some d))) d (xdO d (fs.zip ws)))
structure ExA (P:AF) (w:A5) (K:W.Frag) (mg:Str->Option Value) (base:Heap) (x:Str) (C:Addr) (fs:List Str) where
 f:Addr
 fd:BC
 ps:List Str
 B:String
 nw:String
 it:String
 bB:List Value
 FB:ExcBaseFacts B nw it bB
 M:MkX K C f bB nw
 ok:FnOk P w K mg base (CX1 P w) 1 f fd ps (spI C fs)
 b:Binds K fd ps []
 m:mg x=some (.ref C)
 z:fs.length<=1000
noncomputable def zlj(C:Addr)(fs:List Str)(t:TA)(E:XK):TS:=λ_ σ H=>t σ H λvs H1=>vs.length=fs.length/\∀d,H1 d=none->E (.ref C) (some d) (upd H1 d (xdO d (fs.zip vs)))
section
variable {P:AF}{w:A5}{K:W.Frag}{mg:Str->Option Value}{base:Heap}{N:List Str}{qual:Str}{scope:Scope}{f:Addr}{cd:Value}{A:AO}{outer:List Env}{s0:Ac}{H0:Hp}{E:XK}
theorem zfD{C:Addr}{fs:List Str}{k:Nat}{x:Str}{np cpos pos:Pos}{e:Expr}{es:List Expr}{t:TA}(g:ExA P w K mg base x C fs)(hr:Room k (cxOf (CX1 P w) P w K mg base N qual scope f cd A outer s0 H0 E).A)
  (ha:PA (cxOf (CX1 P w) P w K mg base N qual scope f cd A outer s0 H0 E) (e::es) t) (hk:2<=k:=by decide) (hg:Gl (cxOf (CX1 P w) P w K mg base N qual scope f cd A outer s0 H0 E) x:=by rfl) (hdb:(x == ("__debug__" : Str))=false:=by decide)
  (he:Bg (e::es) (cxOf (CX1 P w) P w K mg base N qual scope f cd A outer s0 H0 E).env=(false,eval e (cxOf (CX1 P w) P w K mg base N qual scope f cd A outer s0 H0 E).env)::Bg es (cxOf (CX1 P w) P w K mg base N qual scope f cd A outer s0 H0 E).env:=by rfl)
  (hpl:(DH cpos (Bg es (cxOf (CX1 P w) P w K mg base N qual scope f cd A outer s0 H0 E).env)).any (·.1)=false:=by rfl) :
  PS (cxOf (CX1 P w) P w K mg base N qual scope f cd A outer s0 H0 E) (.Raise (some (.Call (.Name x np) (e::es) [] cpos)) none pos) (zlj C fs t E):=by
 refine ziZ g.FB g.M g.ok (λvs H1 ⟨q1,q2⟩=>⟨q1 ▸ g.z,λx tp hx=>⟨x,tp,vs,rfl,q1,zaa,λd hd ne=>⟨rfl,tp,some d,?_,?_⟩⟩⟩) (λvs H Q Q' E' hi ⟨x,t,ws,q1,q2,q3,q4⟩=>⟨x,t,ws,q1,q2,q3,λd hd ne=>hi _ _ (q4 d hd ne)⟩) (hr.mono hk) g.b hg g.m ha hdb he hpl
 .rw[zai (Bx ne),zaa]
 .rw[zai ne]at hd;rw[zlh,zkF hx ne];exact q2 d hd
end
section
variable {prog:AF}{w:A5}{A:AO}{E:Value->Ac->Prop}{s:Ac}{K:W.Frag}{a D d:Addr}{u:Obj}{od:Option Obj}
end
section
variable {X:Cx}{pins:List (Addr×Obj)}{σ:St}{H:Hp}{s:Ac}{a D d:Addr}{fs:List (Str×V)}
end
section
variable {X:Cx}{pins:List (Addr×Obj)}{B:Heap}{a:Addr}{o:Obj}{vs:Array Value}{s5 s2:Ac}{σ' σ2:St}{H' H2:Hp}{body suite:List Stmt}{b0:Stmt}{n tn:Str}{i:Nat}{T:Addr}{E:XK}{tb ts:TS}{np hpos pos:Pos}{D:Ends}{rest:List ExceptHandler}{b:Bool}
theorem zju(ok:X.Ok)(hex:X.ex = [])(F5:Fly B (X.env :: X.outer) a o vs .none s5.heap)(at5:∀h', B.StaysIn h' -> s5.heap.UpToSlots h' -> Inv X pins σ' H' { s5 with heap := h' })(J:Inv X pins σ2 H2 s2)(hnew:s2.heap.get? a=none)(hn:H' a=none)
  (hs:∀a,PSs (X.held a) (b0::suite) ts) (hg:Gl X tn) (hm:X.mg tn=some (.ref T)) (hE:W.exmOne X.K o.cls (.ref T)=some b)
  (yes:b=true->ts D σ' (upd H' a (excO a o.cls o.dict))) (no:b=false->Ar (Az X.prog X.w) X.A (handleBy (.ref a) X.env rest) (SP X pins D) X.xe s5) (hdb:(tn == ("__debug__" : Str))=false:=by decide) :
  Ar (Az X.prog X.w) X.A (handleBy (.ref a) X.env (.ExceptHandler (some (.Name tn np)) none (b0::suite) hpos::rest)) (SP X pins D) X.xe s5:=by
 have J5:=at5 s5.heap F5.stay λb u q _=>⟨u.slots,q⟩
 obtain⟨T5,_,_,e5,_⟩:=id F5.tb;refine wpAny_handleBy_cons (codeAny_handlers_test (zff (X:=X.held a) J5.held hg hm ?_ hdb)) (by intro q;cases q);refine (W.exm_one J5.kIn ((W.Looks.ld e5).andThen .now) hE).here ?_
 cases b with
 |false=>exact no rfl
 |true =>
 refine codeAny_handlers_suite ?_
 refine zcy (s:=s5) F5 λh6 F6 k6=>?_
 have J6:=at5 h6 F6.stay k6;obtain⟨T6,_,_,e6,_⟩:=id F6.tb
 have J6':Inv (X.held a) pins σ' (upd H' a (excO a o.cls o.dict)) { s5 with heap:=h6 } :=
  (J6.track (u:=excO a o.cls o.dict) J hex hn hnew ⟨⟨_,e6,rfl,rfl,_,rfl⟩,⟨_,e6⟩,λh1 h2 ⟨u,hu,q⟩ k=>⟨u,k u hu,q⟩⟩).held
 refine Bv (hs a pins _ _ _ D J6' (yes rfl)) (λfl s8 q=>?_) (λ_ _ z=>Bu z)
 cases fl with
 |next=>obtain⟨σ2,H2,I8,q⟩:=q;exact⟨_,_,Inv.unheld ok I8,q⟩
 |brk=>obtain⟨σ2,H2,I8,q⟩:=q;exact⟨_,_,Inv.unheld ok I8,q⟩
 |cont=>obtain⟨σ2,H2,I8,q⟩:=q;exact⟨_,_,Inv.unheld ok I8,q⟩
 |ret u=>obtain⟨v,σ2,H2,I8,r,q⟩:=q;exact⟨v,_,_,Inv.unheld ok I8,r,q⟩
theorem zl0{h0:ExceptHandler}{hs:List ExceptHandler}{H:Hp}{s:Ac}{σ : St}(hst:X.stack=X.env :: X.outer)(hfm:X.env.frame=some X.env.locals)(hb:∀pins, PSs (X.tried pins E) body tb)(I:Inv X pins σ H s)(hb0:tb D σ H)
  (k:∀(B:Heap) (a:Addr) (o:Obj) (vs:Array Value) (s5 s2:Ac) (σ':St) (H1 H':Hp),Fly B (X.env::X.outer) a o vs .none s5.heap->(∀h',B.StaysIn h'->s5.heap.UpToSlots h'->Inv X pins σ' H' { s5 with heap:=h' })->Inv X pins σ' H1 s2->s2.heap.get? a=none->H' a=none->E o.cls o.dict H' ->
   Ar (Az X.prog X.w) X.A (handleBy (.ref a) X.env (h0::hs)) (SP X pins D) X.xe s5) :
  Ar (Az X.prog X.w) X.A (exec (.Try body (h0::hs) [] [] pos) X.env) (SP X pins D) X.xe s:=by
 refine wpAny_Try_except (Bv (hb pins [] s σ H D I.tried hb0) (λf s1 q=>?_) ?_)
 .cases f with
  |next=>exact DR q.untried
  |_=>exact q.untried
 rintro e s1 ⟨ps,σ',H1,s2,I1,a,H',B,o,vs,rfl,os,bare,F,hnew,hn,st,hE0⟩;rw[hst]at F;have J:=I1.unpnd;refine zfM (by rw[<- hst];exact I.ok.frames) hfm F λh4 F4 k4=>?_
 refine zcy (s:={ s1 with heap:=h4 }) F4 λh5 F5 k5=>?_
 refine k B a o vs _ s2 σ' H1 H' F5 (λh6 z1 z2=>?_) J hnew hn hE0;obtain⟨un,hok⟩:=st h6 z1 ((k4.trans k5).trans z2);exact J.call' (s':={ s1 with heap:=h6 }) (ch:=[]) os un hok bare (λb z=>absurd z (by simp))
end
noncomputable def tTryU(k:Nat)(E:XK)(tb ts:TS):TS:=λD σ H=>tb D σ H/\∀(c:Value) (d:Option Addr) (H':Hp) (a:Addr) (σ':St),E c d H'->H' a=none->σ'.length=k->ts D σ' (upd H' a (excO a c d))
section
variable {X:Cx}{body suite suite2:List Stmt}{b0 b1:Stmt}{n tn tn2:Str}{i:Nat}{T T2:Addr}{E:XK}{tb ts t2:TS}{np np2 hpos hpos2 pos:Pos}
theorem zlv(hex:X.ex = [])(hst:X.stack=X.env :: X.outer)(hfm:X.env.frame=some X.env.locals)(hb:∀pins, PSs (X.tried pins E) body tb)(hs:∀a, PSs (X.held a) (b0 :: suite) ts)
  (hg:Gl X tn) (hm:X.mg tn=some (.ref T)) (hE:∀c d H,E c d H->W.exmOne X.K c (.ref T)=some true) (hdb:(tn == ("__debug__" : Str))=false:=by decide) :
  PS X (.Try body [.ExceptHandler (some (.Name tn np)) none (b0::suite) hpos] [] [] pos) (tTryU X.N.length E tb ts):=by
 rintro pins s σ H D I ⟨hb0,hs0⟩;refine zl0 hst hfm hb I hb0 λB a o vs s5 s2 σ' H1 H' F5 at5 J hnew hn hE0=>?_
 exact zju I.ok hex F5 at5 J hnew hn hs hg hm (hE _ _ _ hE0) (λ_=>hs0 _ _ _ a σ' hE0 hn J.len) (λz=>nomatch z) hdb
end
section
variable {X:Cx}{pins:List (Addr×Obj)}{σ:St}{H:Hp}{s:Ac}
theorem zid (hg:X.A.guards=some []) (hu:X.A.units+70<cLine):CallR X (.builtin "repr") (λxs H Q=>∃a d,xs=[.ref a]/\RD X.K H (.ref a) d/\d.showable=true/\Br d=true/\d.shown.length<=sizeLine/\Q (.str d.shown) H):=by
 intro pins s σ H xs us Q I r h;obtain⟨a,d,rfl,hd,hs,hsh,hz,q⟩:=h;obtain⟨u,rfl,rx⟩:=vals1 r
 cases (show u=Ao a from rx)
 obtain⟨as,ra⟩:=I.reads hd rfl;unfold Br at hsh;rw[A3,decide_eq_true_iff]at hsh;exact repr_of_reads' ra hs (PyData.noDict_hsm (PyData.hasDict_of_canLay d hsh.1)) hg (by have:=hsh.2;lia) (λb o e=>e) (λh' t tk hk=>⟨.str d.shown,H,I.kept hk,⟨t,rfl⟩,q⟩) hz
end
section
variable {X:Cx}{pins:List (Addr×Obj)}{σ:St}{H:Hp}{s:Ac}
theorem zeC (hg:X.A.guards=some []) (hu:X.A.units+70<cLine):CallR X (.builtin "repr") (λxs H Q=>∃x d,xs=[x]/\RD X.K H x d/\d.showable=true/\Br d=true/\d.shown.length<=sizeLine/\Q (.str d.shown) H):=by
 intro pins s σ H xs us Q I r h;obtain⟨x,d,rfl,hd,hs,hsh,hz,q⟩:=h
 by_cases hx:∃a,x=.ref a
 .obtain⟨a,rfl⟩:=hx;exact zid hg hu pins s σ H _ us Q I r ⟨a,d,rfl,hd,hs,hsh,hz,q⟩
 obtain⟨u,rfl,rx⟩:=vals1 r
 cases hd with
 |non =>
  cases (show u=Bk from rx)
  exact P.repr_of_none ⟨.str "None",H,I.tok _,⟨_,rfl⟩,q⟩
 |bl b =>
  cases (show u=Dt b from rx)
  exact P.repr_of_bool ⟨.str (if b then "True" else "False"),H,I.tok _,⟨_,rfl⟩,q⟩
 |int i =>
  obtain⟨t,rfl⟩:=(show ∃t,u=DB i t from rx);exact P.repr_of_int (of_decide_eq_true hs) ⟨.str (Dv i),H,I.tok _,⟨_,rfl⟩,q⟩
 |str y =>
  obtain⟨t,rfl⟩:=(show ∃t,u=Value.str y t from rx);exact P.repr_of_str ⟨.str (reprText y),H,I.tok _,⟨_,rfl⟩,q⟩ hz
 |lst _ _=>exact absurd ⟨_,rfl⟩ hx
 |tup _ _=>exact absurd ⟨_,rfl⟩ hx
theorem zak{n:Nat}(h:n<=2000):n<sizeLine:=B7 h (by decide)
noncomputable def zjV (ti:TE):TE:=λσ H Q=>ti σ H λy H1=>∃x:Str,y=.str x/\Q (.bl (decide (x = "rim") ||decide (x = "hole"))) H1
theorem zhV {i:Expr}{ti:TE}{p:Pos}(hg:Gl X "BEGIN_WAYS") (hw:Ways X.prog X.w X.K X.mg) (hsy:∀B,X.mg "BEGIN_WAYS" = some (.ref B)->(B == PySem.sysModules)=false) (hi:PE X i ti):PC X .In i (.Name "BEGIN_WAYS" p) (zjV ti):=by
 intro pins s σ H Q I h;obtain⟨B,t1,t2,t3,t4,n,hm,hl⟩:=hw.ex;refine thn (hi pins s σ H _ I h) λiv s1 ⟨y,H1,I1,ry,hy⟩=>thn ((zdN (v:=.ref B) hg hm rfl:PE X (.Name "BEGIN_WAYS" p) _) pins s1 σ H1 (λv H2=>v=V.ref B/\H2=H1) I1 ⟨rfl,rfl⟩) λu s2 ⟨x,H2,I2,rx,q2⟩=>?_
 obtain⟨rfl,rfl⟩:=q2;obtain rfl:u=Ao B:=rx;obtain⟨z,rfl,q⟩:=hy;have ho:s2.heap.get? B=some _:=I2.kIn B _ hl
 have mo:s2.heap.MapOf (zaH X.prog X.w) B (PySem.findBy (zaH X.prog X.w).is #[⟨BM X.w.params "rim",.str "rim" t1,.int 0 t2⟩,⟨BM X.w.params "hole",.str "hole" t3,.int 2 t4⟩]) :=
  ⟨_,_,_,ho,⟨rfl,rfl,rfl⟩,rfl,λe he=>by
   simp only[List.mem_toArray,At,Bf,or_false]at he;rcases he with rfl |rfl
   .exact⟨.inr "rim",za3 _ _ _ _,rfl⟩
   .exact⟨.inr "hole",za3 _ _ _ _,rfl⟩,λ_=>rfl⟩
 refine wpAny_in_of (kV_is (k:=.inr z) ry) (hsy B hm) mo ⟨.bl (decide (z = "rim") ||decide (z = "hole")),_,I2.tok _,?_,q⟩;show Dt _=Dt _
 congr 1
 have e1:∀(y:Str) (t:Tok),(zaH X.prog X.w).is (.inr z) (.str y t)=decide (z=y):=λy t=>by
  by_cases hzy:z=y
  .subst hzy;rw[za3,decide_eq_true rfl]
  .rw[decide_eq_false hzy,zh3];exact BX.mpr λh=>hzy (by obtain⟨t',e⟩:=Value.isStrOf_shape (x:=z) (v:=.str y t) h;injection e with e1 e2;exact e1.symm)
 unfold PySem.findBy;rw[Option.isSome_map,List.find?_toArray,CD,e1]
 cases h1:decide (z=(Aq "rim")) with
 |true=>rfl
 |false =>
  simp only[CD,e1,List.find?_nil,Bool.false_or]
  cases h2:decide (z=(Aq "hole")) <;> rfl
end
end L2
namespace HT
open PySem PyProof.Rows PySem.Spec
end HT
namespace L2
open PySem PySem.Spec PyProof.Rows
section
variable {X:Cx}{K:W.Frag}
theorem samU{H:Hp}{p:Addr}{o:HO}(h:H p=none):Same H (upd H p o):=λb u e=>by rw[zai (λz=>by rw[z,h]at e;cases e)];exact e
noncomputable def rCatS(K:W.Frag):R2:=λx y H Q=>∃a b xs ys,x=.ref a/\y=.ref b/\H a=some (.tup xs)/\H b=some (.tup ys)/\xs.length+ys.length<=sizeLine /\
 ∀p H',Same H H'->H' p=some (.tup (xs++ys))->Q (.ref p) H'
theorem zeX:OpR X (CV .Add) (rCatS X.K):=by
 intro pins s σ H x y v u Q I rx ry h;obtain⟨a,b,xs,ys,rfl,rfl,ha,hb,hz,q⟩:=h;refine zlA pins s σ H _ _ v u Q I rx ry ⟨a,b,xs,ys,rfl,rfl,SqT.of ha,SqT.of hb,hz,λz=>?_,λ_ z=>?_,λ_ _ p hp=>q p _ (samU hp) zaa⟩
 .subst z;exact q b H (Same.refl _) hb
 .subst z;exact q a H (Same.refl _) (by rw[AE];exact ha)
noncomputable def rSlS(K:W.Frag):V->Option Int->Option Int->Hp->VK->Prop:=λx lo hi H Q=>∃a xs,x=.ref a/\H a=some (.tup xs)/\∀p H',Same H H'->H' p=some (.tup (cutV xs lo hi))->Q (.ref p) H'
theorem zkG{xs:List V}{lo hi:Option Int}(h:HT.sIx xs.length 0 lo=0/\HT.sIx xs.length xs.length hi=xs.length):cutV xs lo hi=xs:=by unfold cutV;rw[h.1,h.2,List.drop_zero,Nat.sub_zero,A4]
theorem zc5:SlR X (rSlS X.K):=by intro pins s σ H x v vl vu lo hi sl Q I rx hs pl pu h;obtain⟨a,xs,rfl,ha,q⟩:=h;exact ziL pins s σ H _ v vl vu lo hi sl Q I rx hs pl pu ⟨a,xs,rfl,SqT.of ha,λz=>q a H (Same.refl _) (by rw[zkG z];exact ha),λ_ p hp=>q p _ (samU hp) zaa⟩
end
end L2
namespace RR
open PySem L2
noncomputable def top(i:Nat):Stmt:=PySem.Challenge.pw_rimsteps_k10_any_thing_as_a_round.main.body.getD i (.Pass ⟨0,0,0,0⟩)
noncomputable abbrev zck:Stmt:=top 5
noncomputable abbrev zgg:List Str:=["cell"]
theorem zeS:FnScope zgg ["cell"] (zaf zck):=sC
noncomputable abbrev ziQ:Stmt:=top 6
noncomputable abbrev zmP:List Str:=["x","y","step","right","up"]
theorem zgq:FnScope zmP ["x","y","step"] (zaf ziQ):=sC
noncomputable abbrev zci:Stmt:=top 8
noncomputable abbrev zge:List Str:=["edge","x","y","way"]
theorem zbz:FnScope zge ["edge"] (zaf zci):=sC
noncomputable abbrev zbE:Stmt:=top 9
noncomputable abbrev zd8:List Str:=["way"]
theorem zdp:FnScope zd8 ["way"] (zaf zbE):=sC
noncomputable abbrev zch:Stmt:=top 10
noncomputable abbrev zgd:List Str:=["way"]
theorem zeR:FnScope zgd ["way"] (zaf zch):=sC
noncomputable abbrev zc7:Stmt:=top 11
noncomputable abbrev zig:List Str:=["step"]
theorem zgo:FnScope zig ["step"] (zaf zc7):=sC
noncomputable abbrev zb1:Stmt:=top 12
noncomputable abbrev zfp:List Str:=["edge","step","x","y","way","new_x","new_y"]
theorem zaX:FnScope zfp ["edge","step"] (zaf zb1):=sC
noncomputable abbrev zaO:Stmt:=top 15
noncomputable abbrev zbl:List Str:=["walk","lefts","slants"]
theorem zbb:FnScope zbl ["walk"] (zaf zaO):=sC
noncomputable abbrev zbd:Stmt:=top 16
noncomputable abbrev zcQ:List Str:=["walk","lefts","slants"]
theorem za5:FnScope zcQ ["walk"] (zaf zbd):=sC
noncomputable abbrev zcw:Stmt:=top 17
noncomputable abbrev zeE:List Str:=["walk","sort"]
theorem zgr:FnScope zeE ["walk","sort"] (zaf zcw):=sC
noncomputable abbrev zcl:Stmt:=top 20
noncomputable abbrev zgh:List Str:=["one","sort","x","y","row"]
theorem zbh:FnScope zgh ["one"] (zaf zcl):=sC
noncomputable abbrev zdH:Stmt:=top 21
noncomputable abbrev zjQ:List Str:=["step"]
theorem zhS:FnScope zjQ ["step"] (zaf zdH):=sC
noncomputable abbrev zb2:Stmt:=top 22
noncomputable abbrev zfq:List Str:=["begin_way","row","way","deeds","step","lefts"]
theorem zaY:FnScope zfq ["begin_way","row"] (zaf zb2):=sC
noncomputable abbrev zdJ:Stmt:=top 23
noncomputable abbrev zjS:List Str:=["begin","deeds","walk","edge","deed"]
theorem zbT:FnScope zjS ["begin","deeds"] (zaf zdJ):=sC
noncomputable abbrev zcg:Stmt:=top 24
noncomputable abbrev zgc:List Str:=["begin","row"]
theorem zeQ:FnScope zgc ["begin","row"] (zaf zcg):=sC
noncomputable abbrev zbO:Stmt:=top 25
noncomputable abbrev zeh:List Str:=["edge","step","x","y","way","behind","seen"]
theorem zaQ:FnScope zeh ["edge","step"] (zaf zbO):=sC
noncomputable abbrev zb0:Stmt:=top 26
noncomputable abbrev zfo:List Str:=["walk","known","steps_gone","edge","step","cell","inside"]
theorem zaI:FnScope zfo ["walk"] (zaf zb0):=sC
noncomputable abbrev zcj:Stmt:=top 27
noncomputable abbrev zgf:List Str:=["walk","edge","step"]
theorem zbZ:FnScope zgf ["walk"] (zaf zcj):=sC
noncomputable abbrev zcH:Stmt:=top 28
noncomputable abbrev zgQ:List Str:=["walk","sort"]
theorem zfA:FnScope zgQ ["walk","sort"] (zaf zcH):=sC
noncomputable abbrev zdI:Stmt:=top 29
noncomputable abbrev zjR:List Str:=["one","sort","x","y","row","begin","walk","at"]
theorem zbg:FnScope zjR ["one"] (zaf zdI):=sC
noncomputable abbrev zcI:Stmt:=top 30
noncomputable abbrev zgR:List Str:=["one"]
theorem zfB:FnScope zgR ["one"] (zaf zcI):=sC
noncomputable abbrev zc6:Stmt:=top 31
noncomputable abbrev zif:List Str:=["thing"]
theorem zgn:FnScope zif ["thing"] (zaf zc6):=sC
noncomputable abbrev zdu:Stmt:=top 32
noncomputable abbrev zhK:List Str:=["thing"]
theorem ziP:FnScope zhK ["thing"] (zaf zdu):=sC
noncomputable abbrev zda:Stmt:=top 33
noncomputable abbrev zii:List Str:=["thing","sort","x","y","row"]
theorem zbD:FnScope zii ["thing"] (zaf zda):=sC
noncomputable abbrev zc8:Stmt:=top 34
noncomputable abbrev zih:List Str:=["thing"]
theorem zgp:FnScope zih ["thing"] (zaf zc8):=sC
noncomputable abbrev zbP:Stmt:=top 36
noncomputable abbrev zei:List Str:=["_law_script","_law_k"]
theorem zdG:FnScope zei ["_law_script","_law_k"] (zaf zbP):=sC
noncomputable abbrev zdc:Stmt:=top 37
noncomputable abbrev zik:List Str:=["_law_cell","_law_many","_law_base","_law_found","_law_left","_law_number","_law_k"]
theorem zbc:FnScope zik ["_law_cell","_law_many","_law_base"] (zaf zdc):=sC
noncomputable abbrev zbs:Stmt:=top 38
noncomputable abbrev zcF:List Str:=["_law_script","_law_start","_law_wide","_law_high","_law_share","_law_left","_law_low","_law_way","_law_far","_law_found","_law_y","_law_row_here"]
theorem zat:FnScope zcF ["_law_script","_law_start"] (zaf zbs):=sC
noncomputable abbrev zcJ:Stmt:=top 39
noncomputable abbrev zgS:List Str:=["_law_x","_law_y","_law_step","_law_dx","_law_dy"]
theorem zcf:FnScope zgS ["_law_x","_law_y","_law_step"] (zaf zcJ):=sC
noncomputable abbrev zdd:Stmt:=top 40
noncomputable abbrev zil:List Str:=["_law_cells","_law_there","_law_cell"]
theorem zcG:FnScope zil ["_law_cells"] (zaf zdd):=sC
noncomputable abbrev zb4:Stmt:=top 41
noncomputable abbrev zft:List Str:=["_law_there","_law_edge","_law_x","_law_y","_law_way","_law_right","_law_ahead"]
theorem zaZ:FnScope zft ["_law_there","_law_edge"] (zaf zb4):=sC
noncomputable abbrev zbM:Stmt:=top 42
noncomputable abbrev zdn:List Str:=["_law_there","_law_found","_law_x","_law_y"]
theorem zbB:FnScope zdn ["_law_there"] (zaf zbM):=sC
noncomputable abbrev zb3:Stmt:=top 43
noncomputable abbrev zfr:List Str:=["_law_there","_law_first","_law_edges_here","_law_steps","_law_step","_law_edge"]
theorem zaP:FnScope zfr ["_law_there","_law_first"] (zaf zb3):=sC
noncomputable abbrev zbp:Stmt:=top 44
noncomputable abbrev zb8:List Str:=["_law_edges_here","_law_steps","_law_swung","_law_way","_law_at","_law_row_here"]
theorem zbu:FnScope zb8 ["_law_edges_here","_law_steps"] (zaf zbp):=sC
noncomputable abbrev zaT:Stmt:=top 45
noncomputable abbrev zfs:List Str:=["_law_cells","_law_there","_law_seen","_law_found","_law_edge","_law_edges_here","_law_steps","_law_one"]
theorem zaJ:FnScope zfs ["_law_cells"] (zaf zaT):=sC
noncomputable abbrev zdb:Stmt:=top 46
noncomputable abbrev zij:List Str:=["_law_seen","_law_cell","_law_told_here"]
theorem zgs:FnScope zij ["_law_seen","_law_cell","_law_told_here"] (zaf zdb):=sC
noncomputable abbrev zcn:Stmt:=top 47
noncomputable abbrev zgj:List Str:=["_law_seen","_law_edge","_law_x","_law_y","_law_way"]
theorem zbA:FnScope zgj ["_law_seen","_law_edge"] (zaf zcn):=sC
noncomputable abbrev zbU:Stmt:=top 48
noncomputable abbrev zdi:List Str:=["_law_one","_law_sort","_law_x","_law_y","_law_row_here","_law_begin","_law_seen","_law_edges_here","_law_fine","_law_swung","_law_at","_law_goal","_law_way","_law_firsts"]
theorem zam:FnScope zdi ["_law_one"] (zaf zbU):=sC
noncomputable abbrev zcm:Stmt:=top 49
noncomputable abbrev zgi:List Str:=["_law_found"]
theorem zeT:FnScope zgi ["_law_found"] (zaf zcm):=sC
noncomputable abbrev zaR:Stmt:=top 50
noncomputable abbrev zeF:List Str:=["_law_one","_law_draws","_law_way","_law_at","_law_what","_law_more","_law_some","_law_thing","_law_sort","_law_x","_law_y","_law_row_here","_law_here"]
theorem zaE:FnScope zeF ["_law_one","_law_draws"] (zaf zaR):=sC
noncomputable abbrev zbF:Stmt:=top 51
noncomputable abbrev zd9:List Str:=["_law_thing","_law_sort","_law_x","_law_y","_law_row_here"]
theorem zbv:FnScope zd9 ["_law_thing"] (zaf zbF):=sC
noncomputable abbrev s_law:Stmt:=top 52
noncomputable abbrev N_law:List Str:=["_law_script","_law_some","_law_k","_law_draws","_law_thing","_law_kept","_law_found","_law_due_here"]
theorem zcC:FnScope N_law ["_law_script"] (zaf s_law):=sC
open PySem L2 RP
noncomputable def cellT(c:Cell):List V:=[.int c.1,.int c.2]
noncomputable def edgeT(e:Edge):List V:=[.int e.c.1,.int e.c.2,.int e.w]
noncomputable def sv:Option Nat->V
 |none=>.non
 |some s=>.int s
theorem Same.up{H:Hp}{p:Addr}{o:HO}(h:H p=none):Same H (upd H p o):=λb u e=>by rw[zai (zaj e h)];exact e
structure Txt (P:AF) (w:A5) (K:W.Frag) (mg:Str->Option Value):Prop where
 moves:∃M,mg "MOVES" = some (.ref M)/\∀H,∃ms:List Addr,SqT K H M (ms.map V.ref)/\ms.length=8/\∀(i:Nat) a,ms[i]?=some a->SqT K H a [.int (mv i).1,.int (mv i).2]
 ways:Ways P w K mg
 more:Two P w K mg "MORE_LEFTS" 4 (-4)
 nsys:∀B,mg "BEGIN_WAYS" = some (.ref B)->(B == PySem.sysModules)=false
 nValueError:mg "ValueError" = none
 nrepr:mg "repr" = none
 nrange:mg "range" = none
 nlen:mg "len" = none
 nmin:mg "min" = none
 nsorted:mg "sorted" = none
 ntuple:mg "tuple" = none
 nint:mg "int" = none
 nbool:mg "bool" = none
 nstr:mg "str" = none
 nall:mg "all" = none
 nisinstance:mg "isinstance" = none
 nlist:mg "list" = none
 nsum:mg "sum" = none
 nenumerate:mg "enumerate" = none
 nzip:mg "zip" = none
 nmax:mg "max" = none
theorem two:2<=sizeLine:=by decide
theorem three:3<=sizeLine:=by decide
section
variable {P:AF}{w:A5}{K:W.Frag}{mg:Str->Option Value}{base:Heap}
noncomputable def ziC(K:W.Frag):Sp:=λvs H Q _=>∃(a:Addr) (x y:Int) (r:List V),vs=[.ref a]/\SqT K H a (.int x::.int y::r)/\∀(p:Addr) (H':Hp),H p=none->Same H H'->H' p=some (.tup [.int y,.int x])->Q (.ref p) H'
theorem ze6 (d:Df K mg "cell_order" zck ["cell"]):FnOk P w K mg base CX0 1 d.f d.fd ["cell"] (ziC K):=by
 refine d.F.ok zeS (λvs H Q E h=>?_) (λcdv A outer s H vs Q E hr h=>?_)
 .obtain⟨a,x,y,r,rfl,_⟩:=h;rfl
 .obtain⟨a,x,y,r,rfl,hq,k⟩:=h;refine⟨_,(zah (zal (zao (zag (pe_ix zbw (pv 0) zad (λ_ _=>rfl)) (zag (pe_ix zbw (pv 0) zad (λ_ _=>rfl)) zab))))),?_⟩;refine⟨_,rfl,a,_,_,_,rfl,rfl,hq,zaz (j:=1) rfl,_,rfl,a,_,_,_,rfl,rfl,hq,zaz (j:=0) rfl,two,λp hp=>?_⟩;exact k p _ hp (Same.up hp) zaa
noncomputable def zcd:Sp:=λvs H Q _=>∃(c:Cell) (i:Nat),vs=[.int c.1,.int c.2,.int i]/\i<8/\∀(p:Addr) (H':Hp),H p=none->Same H H'->H' p=some (.tup (cellT (go c i)))->Q (.ref p) H'
theorem zlB (T:Txt P w K mg) (d:Df K mg "gone" ziQ ["x","y","step"]):FnOk P w K mg base CX0 1 d.f d.fd ["x","y","step"] zcd:=by
 refine d.F.ok zgq (λvs H Q E h=>?_) (λcdv A outer s H vs Q E hr h=>?_)
 .obtain⟨c,i,rfl,_⟩:=h;rfl
 .obtain⟨c,i,rfl,hi,k⟩:=h;obtain⟨M,hM,hms⟩:=T.moves;obtain⟨ms,hq,hl,hm⟩:=hms H
  refine⟨_,(zac (za2 (pe_ix zbw (zdN (v:=.ref M) rfl hM rfl) (pv 2) (λ_ _=>rfl)) (zaW (by rfl) (zae (nG 3 zgq.nd) (zae (nG 4 zgq.nd) zay))))
   (zah (zal (zao (pa_B (pe_op zaG (pv 0) (pv 3)) (pa_B (pe_op zaG (pv 1) (pv 4)) zab)))))),?_⟩
  have hi':i<ms.length:=by lia
  have e1:ms[i]?=some ms[i]:=by simp[hi']
  refine⟨_,rfl,M,_,(i:Int),.ref ms[i],rfl,rfl,hq,zaz (by simp[hi']),ms[i],_,rfl,hm i _ e1,rfl,_,_,rfl,_,_,rfl,rfl,?_⟩;refine⟨_,rfl,_,rfl,_,_,rfl,rfl,_,rfl,_,rfl,_,_,rfl,rfl,two,λp hp=>?_⟩;exact k p _ hp (Same.up hp) zaa
noncomputable def zen:Sp:=λvs H Q _=>∃w:Nat,vs=[.int w]/\w<4/\Q (.int (2*w:Nat)) H
theorem zdq (d:Df K mg "straight_step" zbE ["way"]):FnOk P w K mg base CX0 1 d.f d.fd ["way"] zen:=by
 refine d.F.ok zdp (λvs H Q E h=>?_) (λcdv A outer s H vs Q E hr h=>?_)
 .obtain⟨w,rfl,_⟩:=h;rfl
 .obtain⟨w,rfl,hw,k⟩:=h;refine⟨_,(zah (zal (pe_op zbm zad (pv 0)))),?_⟩;refine⟨_,rfl,_,_,rfl,rfl,.inl ⟨by decide,by decide⟩,?_⟩;have e:(2*(w:Int))=((2*w:Nat):Int):=by lia
  show Q (.int (2*(w:Int))) H;rw[e];exact k
noncomputable def ziA:Sp:=λvs H Q _=>∃w:Nat,vs=[.int w]/\w<4/\Q (.int ((2*w+7) % 8:Nat)) H
theorem zeZ (d:Df K mg "slant_step" zch ["way"]):FnOk P w K mg base CX0 1 d.f d.fd ["way"] ziA:=by
 refine d.F.ok zeR (λvs H Q E h=>?_) (λcdv A outer s H vs Q E hr h=>?_)
 .obtain⟨w,rfl,_⟩:=h;rfl
 .obtain⟨w,rfl,hw,k⟩:=h;refine⟨_,(zah (zal (pe_op zau (pe_op zaG (pe_op zbm zad (pv 0)) zad) zad))),?_⟩;refine⟨_,rfl,_,_,rfl,rfl,.inl ⟨by decide,by decide⟩,_,_,rfl,rfl,_,_,rfl,rfl,(by show (0:Int)<8;decide),?_⟩;have e:(2*(w:Int)+7) % 8=(((2*w+7) % 8:Nat):Int):=by lia
  show Q (.int ((2*(w:Int)+7) % 8)) H;rw[e];exact k
noncomputable def zcR:Sp:=λvs H Q _=>∃o:Option Nat,vs=[sv o]/\Q (.bl (slant o)) H
theorem zgC (d:Df K mg "is_slant" zc7 ["step"]):FnOk P w K mg base CX0 1 d.f d.fd ["step"] zcR:=by
 refine d.F.ok zgo (λvs H Q E h=>?_) (λcdv A outer s H vs Q E hr h=>?_)
 .obtain⟨o,rfl,_⟩:=h;rfl
 .obtain⟨o,rfl,k⟩:=h;refine⟨_,(zah (zal (zcb (zbG zdP (pv 0) zby (zas _)) (zcU (zbG op_eq (pe_op zau (pv 0) zad) zad (zas _)))))),?_⟩
  cases o with
  |none=>exact⟨_,rfl,rfl,false,rfl,iteF k⟩
  |some n =>
   refine⟨_,rfl,rfl,true,rfl,iteT ⟨_,rfl,_,_,rfl,rfl,(by show (0:Int)<2;decide),rfl,?_⟩⟩
   have e:decide (V.int ((n:Int) % 2)=V.int 1)=slant (some n):=by
    show _=(n % 2 == 1)
    by_cases q:n % 2=1
    .rw[decide_eq_true (by rw[show (n:Int) % 2=1 by lia]),q];rfl
    .rw[decide_eq_false (λz=>by injection z with z;lia)];simp[q]
   rw[<- e]at k;exact k
noncomputable def spGap(K:W.Frag):Sp:=λvs H Q _=>∃(a:Addr) (e:Edge),vs=[.ref a]/\SqT K H a (edgeT e)/\e.w<4/\∀(p:Addr) (H':Hp),H p=none->Same H H'->H' p=some (.tup (cellT (gap e)))->Q (.ref p) H'
theorem ze5 (g_gone:Fn P w K mg base 1 "gone" ["x","y","step"] zcd) (d:Df K mg "gap_beside" zci ["edge"]):FnOk P w K mg base CX0 2 d.f d.fd ["edge"] (spGap K):=by
 refine d.F.ok zbz (λvs H Q E h=>?_) (λcdv A outer s H vs Q E hr h=>?_)
 .obtain⟨a,e,rfl,_⟩:=h;rfl
 .obtain⟨a,e,rfl,hq,hw,k⟩:=h
  refine⟨_,(zac (za2 (pv 0) (zaW (by rfl) (zae (nG 1 zbz.nd) (zae (nG 2 zbz.nd) (zae (nG 3 zbz.nd) zay)))))
   (zah (zal (pC g_gone hr (pa_N (pv 1) (pa_N (pv 2) (pa_B (pe_op zau (pe_op zaG (pe_op zbm zad (pv 3)) zad) zad) zab))))))),?_⟩
  refine⟨_,rfl,a,_,rfl,hq,rfl,_,_,rfl,_,_,rfl,_,_,rfl,rfl,?_⟩;have e6:(2*(e.w:Int)+6) % 8=(((2*e.w+6) % 8:Nat):Int):=by lia
  refine⟨_,rfl,_,rfl,_,rfl,_,_,rfl,rfl,.inl ⟨by decide,by decide⟩,_,_,rfl,rfl,_,_,rfl,rfl,(by show (0:Int)<8;decide),e.c,(2*e.w+6) % 8,(by rw[<- e6];rfl),by lia,λp H' hp hS hH=>k p H' hp hS hH⟩
theorem iteN{b:Bool}{A B:Prop}(h:b=false)(q:B):if b=true then A else B:=by subst h;exact iteF q
theorem iteY{b:Bool}{A B:Prop}(h:b=true)(q:A):if b=true then A else B:=by subst h;exact iteT q
theorem zjW{tb:TS}{D:Ends}{σ:St}{H:Hp}(h:tb D σ H):tIfs (λ_ H Q=>Q true H) tb D σ H:=by
 show if true=true then tb D σ H else D.nx σ H
 exact iteT h
theorem gN{j:Nat}{v:V}{σ:St}{H:Hp}{tb:TS}{D:Ends}(h:tb D (σ.set j (some v)) H):gName j v σ H λσ2 H2=>tIfs (λ_ H Q=>Q true H) tb D σ2 H2:=zjW h
noncomputable def LR{α:Type}(K:W.Frag)(H:Hp)(a:Addr)(l:List α)(R:α->V->Hp->Prop):Prop:=∃vs:List V,SqL K H a vs/\vs.length=l.length/\∀(i:Nat) x v,l[i]?=some x->vs[i]?=some v->R x v H
noncomputable def cR(c:Cell)(v:V)(H:Hp):Prop:=∃b,v=.ref b/\H b=some (.tup (cellT c))
noncomputable def eR(e:Edge)(v:V)(H:Hp):Prop:=∃b,v=.ref b/\H b=some (.tup (edgeT e))
noncomputable def wR(q:Edge×Option Nat)(v:V)(H:Hp):Prop:=∃A b,v=.ref A/\H A=some (.tup [.ref b,sv q.2])/\H b=some (.tup (edgeT q.1))
theorem eR.same{c:Edge}{v:V}{H H':Hp}(h:eR c v H)(s:Same H H'):eR c v H':=let ⟨b,e,q⟩:=h;⟨b,e,s _ _ q⟩
theorem wR.same{c:Edge×Option Nat}{v:V}{H H':Hp}(h:wR c v H)(s:Same H H'):wR c v H':=let ⟨A,b,e,q,r⟩:=h;⟨A,b,e,s _ _ q,s _ _ r⟩
theorem LR.same{α:Type}{K:W.Frag}{H H':Hp}{a:Addr}{l:List α}{R:α->V->Hp->Prop}(h:LR K H a l R)(s:Same H H')(m:∀x v,R x v H->R x v H'):LR K H' a l R :=
 let ⟨vs,q,n,r⟩:=h;⟨vs,s.seq q,n,λi x v h1 h2=>m x v (r i x v h1 h2)⟩
theorem zcr{α:Type}{l:List α}{i:Nat}{x c:α}(h:l[i]?=some x):c∈l.take (i+1) ↔ c∈l.take i∨c=x:=by rw[List.take_succ,h,Ap];exact⟨λz=>z.elim .inl λz=>.inr (Ak.mp z),λz=>z.elim .inl λz=>.inr (List.mem_singleton.mpr z)⟩
noncomputable def InOrd(cs:List Cell):Prop:=∀(i:Nat) c d,cs[i]?=some c->cs[i+1]?=some d->HT.lexLt [c.2,c.1] [d.2,d.1]=true
noncomputable def kC(c:Cell):List Key:=[Dz c.1,Dz c.2]
theorem zhy{c d:Cell}:kC c=kC d ↔ c=d:=by
 constructor
 .intro h;unfold kC at h;injection h with h1 h2;injection h2 with h2 _;exact Prod.ext (Sum.inl.inj h1) (Sum.inl.inj h2)
 .rintro rfl;rfl
noncomputable def zeN(K:W.Frag):Sp:=λvs H Q _=>∃(a:Addr) (e:Edge) (o:Option Nat),vs=[.ref a,sv o]/\SqT K H a (edgeT e)/\e.w<4/\(∀s,o=some s->s<8)/\∀(p:Addr) (H':Hp),H p=none->Same H H'->H' p=some (.tup (edgeT (edgeB e o)))->Q (.ref p) H'
theorem zec (g_gone:Fn P w K mg base 1 "gone" ["x", "y", "step"] zcd) (g_is_slant:Fn P w K mg base 1 "is_slant" ["step"] zcR)
  (d:Df K mg "edge_behind" zb1 ["edge","step"]):FnOk P w K mg base CX0 2 d.f d.fd ["edge","step"] (zeN K):=by
 refine d.F.ok zaX (λvs H Q E h=>?_) (λcdv A outer s H vs Q E hr h=>?_)
 .obtain⟨a,e,o,rfl,_⟩:=h;rfl
 .obtain⟨a,e,o,rfl,hq,hw,ho,k⟩:=h
  refine⟨_,(zac (za2 (pv 0) (zaW (by rfl) (zae (nG 2 zaX.nd) (zae (nG 3 zaX.nd) (zae (nG 4 zaX.nd) zay)))))
   (zac (ps_if (zaq zhn (pv 1) zby (zas _))
   (zah (zal (zao (pa_N (pv 2) (pa_N (pv 3) (pa_B (pe_op zau (pe_op zaG (pv 4) zad) zad) zab))))))
   zaA)
   (zac (za2 (pC g_gone hr (pa_N (pv 2) (pa_N (pv 3) (pa_N (pv 1) zab)))) (zaW (by rfl) (zae (nG 5 zaX.nd) (zae (nG 6 zaX.nd) zay))))
   (zac (ps_if (zbV (pC g_is_slant hr (pa_N (pv 1) zab)))
   (zah (zal (zao (pa_N (pv 5) (pa_N (pv 6) (pa_B (pe_op zau (pe_op zaG (pv 4) zad) zad) zab))))))
   zaA)
   (zah (zal (zao (pa_N (pv 5) (pa_N (pv 6) (pa_N (pv 4) zab)))))))))),?_⟩
  refine⟨_,rfl,a,_,rfl,hq,rfl,_,_,rfl,_,_,rfl,_,_,rfl,rfl,?_⟩
  cases o with
  |none =>
   refine⟨_,rfl,rfl,true,rfl,iteT ?_⟩;refine⟨_,rfl,_,rfl,_,rfl,_,_,rfl,rfl,_,_,rfl,rfl,(by show (0:Int)<4;decide),three,λp hp=>k p _ hp (Same.up hp) ?_⟩;rw[zaa];have e1:((e.w:Int)+1) % 4=(((e.w+1) % 4:Nat):Int):=by lia
   show some (HO.tup [.int e.c.1,.int e.c.2,.int (((e.w:Int)+1) % 4)])=_;rw[e1];rfl
  |some n =>
   refine⟨_,rfl,rfl,false,rfl,iteF ?_⟩;refine⟨_,rfl,_,rfl,_,rfl,e.c,n,rfl,ho n rfl,λp1 H1 hp1 s1 f1=>?_⟩;refine⟨p1,_,rfl,SqT.of f1,rfl,_,_,rfl,_,_,rfl,rfl,?_⟩;refine⟨_,rfl,some n,rfl,_,rfl,?_⟩;refine ite2 (λhs=>?_) (λhs=>?_)
   .refine⟨_,rfl,_,rfl,_,rfl,_,_,rfl,rfl,_,_,rfl,rfl,(by show (0:Int)<4;decide),three,λp hp=>k p _ (s1.free hp) (s1.trans (Same.up hp)) ?_⟩;rw[zaa];have e1:((e.w:Int)+3) % 4=(((e.w+3) % 4:Nat):Int):=by lia
    have hn:n % 2=1:=by simpa[slant]using hs
    show some (HO.tup [.int (go e.c n).1,.int (go e.c n).2,.int (((e.w:Int)+3) % 4)])=_;rw[e1];unfold edgeB;simp only[if_pos hn];rfl
   .refine⟨_,rfl,_,rfl,_,rfl,three,λp hp=>k p _ (s1.free hp) (s1.trans (Same.up hp)) ?_⟩;rw[zaa];have hn:¬ n % 2=1:=by simpa[slant]using hs
    unfold edgeB;simp only[if_neg hn];rfl
noncomputable def KT(H H':Hp):Prop:=∀b xs,H b=some (.tup xs)->H' b=some (.tup xs)
theorem KT.refl(H:Hp):KT H H:=λ_ _ h=>h
theorem KT.trans{H H1 H2:Hp}(a:KT H H1)(b:KT H1 H2):KT H H2:=λc o h=>b c o (a c o h)
theorem KT.of{H H':Hp}(s:Same H H'):KT H H':=λb xs e=>s b _ e
theorem KT.up{H:Hp}{p:Addr}{o:HO}(h:H p=none):KT H (upd H p o):=KT.of (Same.up h)
theorem KT.lst{H:Hp}{p:Addr}{xs:List V}{o:HO}(h:H p=some (.lst xs)):KT H (upd H p o):=λb ys e=>by rw[zai (ne_of e h (λz=>nomatch z))];exact e
theorem KT.dct{H:Hp}{p:Addr}{xs:List (List Key×V)}{o:HO}(h:H p=some (.dT xs)):KT H (upd H p o):=λb ys e=>by rw[zai (ne_of e h (λz=>nomatch z))];exact e
theorem cR.kt{c:Cell}{v:V}{H H':Hp}(h:cR c v H)(s:KT H H'):cR c v H':=let ⟨b,e,q⟩:=h;⟨b,e,s _ _ q⟩
theorem eR.kt{c:Edge}{v:V}{H H':Hp}(h:eR c v H)(s:KT H H'):eR c v H':=let ⟨b,e,q⟩:=h;⟨b,e,s _ _ q⟩
theorem wR.kt{c:Edge×Option Nat}{v:V}{H H':Hp}(h:wR c v H)(s:KT H H'):wR c v H':=let ⟨A,b,e,q,r⟩:=h;⟨A,b,e,s _ _ q,s _ _ r⟩
noncomputable def VR{α:Type}(vs:List V)(l:List α)(R:α->V->Hp->Prop)(H:Hp):Prop:=vs.length=l.length/\∀(i:Nat) x v,l[i]?=some x->vs[i]?=some v->R x v H
theorem VR.nil{α:Type}{R:α->V->Hp->Prop}{H:Hp}:VR [] ([]:List α) R H:=⟨rfl,λi x v h=>by simp at h⟩
theorem VR.snoc{α:Type}{vs:List V}{l:List α}{R:α->V->Hp->Prop}{H H':Hp}{x:α}{v:V}(h:VR vs l R H)(m:∀x v,R x v H->R x v H')(hx:R x v H'):VR (vs++[v]) (l++[x]) R H':=by
 refine⟨by simp[h.1],λi y u h1 h2=>?_⟩;rcases Bi i l.length with hi |hi
 .rw[AK hi]at h1;rw[AK (by rw[h.1];exact hi)]at h2;exact m _ _ (h.2 i y u h1 h2)
 .rw[AW hi]at h1;rw[AW (by rw[h.1];exact hi)]at h2
  have hz:i-l.length=0:=by have:=(Ad.mp h1).1;simp at this;lia
  rw[hz]at h1;rw[h.1,hz]at h2
  cases h1;cases h2
  exact hx
theorem VR.mono{α:Type}{vs:List V}{l:List α}{R:α->V->Hp->Prop}{H H':Hp}(h:VR vs l R H)(m:∀x v,R x v H->R x v H'):VR vs l R H':=⟨h.1,λi x v h1 h2=>m _ _ (h.2 i x v h1 h2)⟩
theorem VR.at{α:Type}{vs:List V}{l:List α}{R:α->V->Hp->Prop}{H:Hp}(h:VR vs l R H){i:Nat}{v:V}(hv:vs[i]?=some v):∃x,l[i]?=some x/\R x v H:=by
 have hi:i<l.length:=by rw[<- h.1];exact (Ad.mp hv).1
 exact⟨l[i],Ab hi,h.2 i _ v (Ab hi) hv⟩
theorem zax{H H2:Hp}{p:Addr}{o:HO}(hp:H p=none)(s:Same H H2):Same H (upd H2 p o):=λz u e=>by rw[zai (zaj e hp)];exact s z u e
theorem zhR(cs:List Cell)(c:Cell):sides (cs++[c])=sides cs++(BD 4).map λw=>⟨c,w⟩:=by unfold sides;simp[List.flatMap_append]
theorem zaN{α:Type}{l:List α}{i:Nat}{x:α}(h:l[i]?=some x):l.take (i+1)=l.take i++[x]:=by rw[List.take_succ,h];rfl
theorem zcN{α:Type}(p:α->Bool)(l:List α)(x:α):(l++[x]).filter p=l.filter p++(if p x=true then [x] else []):=by rw[B9];congr 1;simp[List.filter_cons]
noncomputable def eI(e:Edge):List Int:=[e.c.1,e.c.2,(e.w:Int)]
theorem zeA{e f:Edge}:eI e=eI f ↔ e=f:=by
 constructor
 .intro h;obtain⟨⟨x,y⟩,w⟩:=e;obtain⟨⟨x',y'⟩,w'⟩:=f;unfold eI at h;injection h with h1 h2;injection h2 with h2 h3;injection h3 with h3 _;simp only at h1 h2 h3;have:w=w':=by lia
  subst h1 h2 this;rfl
 .rintro rfl;rfl
theorem zco{K:W.Frag}{H:Hp}{b:Addr}{e:Edge}(h:H b=some (.tup (edgeT e))):RD K H (.ref b) (tI (eI e)):=.tup (SqT.of h) (RDs.ints (eI e))
theorem zjY{C:Cell->Bool}{e:Edge}(hw:e.w<4):∀s,stepB C e=some s->s<8:=by
 intro s h;unfold stepB at h;split at h
 .cases h;lia
 .split at h
  .cases h;lia
  .cases h
noncomputable def wk(C:Cell->Bool)(es:List Edge):List (Edge×Option Nat):=es.map λe=>(e,stepB C e)
noncomputable def zjj:Option HO->Nat
 |some (.lst ws)=>ws.length
 |_=>0
noncomputable abbrev Wk:=List (Edge×Option Nat)
noncomputable def nL(W:Wk):Nat:=(W.filter λq=>q.2.isNone).length
noncomputable def nS(W:Wk):Nat:=(W.filter λq=>slant q.2).length
theorem zkN(o:Option Nat):decide (sv o=V.non)=o.isNone:=by cases o <;> simp[sv]
theorem zb7{α:Type}{p:α->Bool}{l:List α}{i:Nat}{x:α}(h:l[i]?=some x):((l.take (i+1)).filter p)=(l.take i).filter p++(if p x=true then [x] else []):=by rw[zaN h,zcN]
theorem LR.vr{α:Type}{K:W.Frag}{H:Hp}{a:Addr}{l:List α}{R:α->V->Hp->Prop}(h:LR K H a l R):∃vs,SqL K H a vs/\VR vs l R H:=let ⟨vs,q,n,r⟩:=h;⟨vs,q,n,r⟩
theorem LR.of{α:Type}{K:W.Frag}{H:Hp}{a:Addr}{vs:List V}{l:List α}{R:α->V->Hp->Prop}(e:H a=some (.lst vs))(h:VR vs l R H):LR K H a l R:=⟨vs,SqL.of e,h.1,h.2⟩
noncomputable def ziD(K:W.Frag):Sp:=λvs H Q _=>∃(a:Addr) (W:Wk),vs=[.ref a]/\LR K H a W wR/\W.length<=2000/\∀p H',H p=none->Same H H'->H' p=some (.tup [.int (nL W),.int (nS W)])->Q (.ref p) H'
theorem zcL (T:Txt P w K mg) (g_is_slant:Fn P w K mg base 1 "is_slant" ["step"] zcR) (d:Df K mg "lefts_and_slants" zaO ["walk"]):FnOk P w K mg base CX0 2 d.f d.fd ["walk"] (ziD K):=by
 refine d.F.ok zbb (λvs H Q E h=>?_) (λcdv A outer s H vs Q E hr h=>?_)
 .obtain⟨a,W,rfl,_⟩:=h;rfl
 .obtain⟨a,W,rfl,hLR,hlen,k⟩:=h;obtain⟨ws,hq,hv⟩:=hLR.vr;have nb0:(["edge","step"]:List Str).Nodup:=by decide +kernel
  have nb1:(["edge","step"]:List Str).Nodup:=by decide +kernel
  refine⟨_,(zac (sE 1 zbb.nd (zan zap (by rfl) T.nlen (by rfl) (zag (zbt (osc:=zaf zaO) (N:=zbl) (N':=["edge","step"]) (sel:=[none,none]) bO (zbx (pv 0)) (λ_ _ _ _ _=>(zdM (K:=K) (n:=2) (by rfl) (zae (nG 0 nb0) (zae (nG 1 nb0) zay)))) (λ_ _ _ _ _=>zb5 (zaq zhn (pv 1) zby (zas _))) (λ_ _ _ _ _=>(pv 1))) zab)))
   (zac (sE 2 zbb.nd (zan zap (by rfl) T.nlen (by rfl) (zag (zbt (osc:=zaf zaO) (N:=zbl) (N':=["edge","step"]) (sel:=[none,none]) bO (zbx (pv 0)) (λ_ _ _ _ _=>(zdM (K:=K) (n:=2) (by rfl) (zae (nG 0 nb1) (zae (nG 1 nb1) zay)))) (λ_ _ _ _ _=>zb5 (zbV (pC g_is_slant hr (pa_N (pv 1) zab)))) (λ_ _ _ _ _=>(pv 1))) zab)))
   (zah (zal (zao (pa_N (pv 1) (pa_N (pv 2) zab))))))),?_⟩
  refine⟨_,rfl,a,rfl,⟨_,hq⟩,λp hp=>?_⟩
  refine zba (K:=K) (a:=a) (xs:=ws) (λi σ H2=>∃o1 o2,σ=[o1,o2]/\Same H H2/\∃ss:List V,H2 p=some (.lst ss)/\ss.length=((W.take i).filter λq=>q.2.isNone).length)
   ⟨_,_,rfl,Same.up hp,[],zaa,rfl⟩ (λi σ H2 _ ⟨_,_,_,s2,_⟩=>s2.seq hq) ?_ ?_
  .rintro i v σ H2 hi ⟨o1,o2,rfl,s2,ss,e2,hl⟩;obtain⟨⟨e,st⟩,he,B,b,rfl,q1,q2⟩:=hv.at hi
   have hl2:ss.length<=2000:=by have:=Bz (λq:Edge×Option Nat=>q.2.isNone) (W.take i);rw[AT]at this;lia
   refine⟨B,_,rfl,SqT.of (s2 _ _ q1),rfl,_,_,rfl,_,_,rfl,rfl,?_⟩;refine⟨_,rfl,rfl,_,rfl,?_⟩;rw[zkN];rw[zb7 he]at *;refine ite2 (λhy=>?_) (λhn=>?_)
   .refine⟨_,rfl,ss,e2,zak hl2,_,_,rfl,zax hp s2,_,zaa,?_⟩;rw[if_pos hy,Af,Af,hl];rfl
   .exact⟨_,_,rfl,s2,ss,e2,by rw[if_neg hn,AE];exact hl⟩
  .rintro σ H2 ⟨o1,o2,rfl,s2,ss,e2,hl⟩;refine⟨p,_,rfl,.inl (SqL.of e2),?_⟩;refine⟨_,rfl,a,rfl,⟨_,s2.seq hq⟩,λp2 hp2=>?_⟩
   refine zba (K:=K) (a:=a) (xs:=ws) (λi σ H3=>∃o1 o2,σ=[o1,o2]/\Same H2 H3/\∃s3:List V,H3 p2=some (.lst s3)/\s3.length=((W.take i).filter λq=>slant q.2).length)
    ⟨_,_,rfl,Same.up hp2,[],zaa,rfl⟩ (λi σ H3 _ ⟨_,_,_,s3,_⟩=>(s2.trans s3).seq hq) ?_ ?_
   .rintro i v σ H3 hi ⟨o1,o2,rfl,s3,ss3,e3,hl3⟩;obtain⟨⟨e,st⟩,he,B,b,rfl,q1,q2⟩:=hv.at hi
    have hl2:ss3.length<=2000:=by have:=Bz (λq:Edge×Option Nat=>slant q.2) (W.take i);rw[AT]at this;lia
    refine⟨B,_,rfl,SqT.of ((s2.trans s3) _ _ q1),rfl,_,_,rfl,_,_,rfl,rfl,?_⟩;refine⟨_,rfl,st,rfl,_,rfl,?_⟩;rw[zb7 he]at *;refine ite2 (λhy=>?_) (λhn=>?_)
    .refine⟨_,rfl,ss3,e3,zak hl2,_,_,rfl,zax hp2 s3,_,zaa,?_⟩;rw[if_pos hy,Af,Af,hl3];rfl
    .exact⟨_,_,rfl,s3,ss3,e3,by rw[if_neg hn,AE];exact hl3⟩
   .rintro σ H3 ⟨o1,o2,rfl,s3,ss3,e3,hl3⟩;refine⟨p2,_,rfl,.inl (SqL.of e3),?_⟩;refine⟨_,rfl,_,rfl,two,λp4 hp4=>k p4 _ (s2.free (s3.free hp4)) ((s2.trans s3).trans (Same.up hp4)) ?_⟩;rw[hv.1,A4]at hl hl3;rw[zaa,hl,hl3];rfl
noncomputable def zkR(K:W.Frag):Sp:=λvs H Q _=>∃(a:Addr) (W:Wk),vs=[.ref a]/\LR K H a W wR/\W.length<=2000/\∀H',Same H H'->Q (.int ((nL W:Int)-nS W)) H'
theorem zcB (g_lefts_and_slants:Fn P w K mg base 2 "lefts_and_slants" ["walk"] (ziD K)) (d:Df K mg "lefts_less_slants" zbd ["walk"]):FnOk P w K mg base CX0 3 d.f d.fd ["walk"] (zkR K):=by
 refine d.F.ok za5 (λvs H Q E h=>?_) (λcdv A outer s H vs Q E hr h=>?_)
 .obtain⟨a,W,rfl,_⟩:=h;rfl
 .obtain⟨a,W,rfl,hLR,hlen,k⟩:=h
  refine⟨_,(zac (za2 (pC g_lefts_and_slants hr (pa_N (pv 0) zab)) (zaW (by rfl) (zae (nG 1 za5.nd) (zae (nG 2 za5.nd) zay))))
   (zah (zal (pe_op zcD (pv 1) (pv 2))))),?_⟩
  refine⟨_,rfl,a,W,rfl,hLR,hlen,λp H1 hp s1 f1=>?_⟩;refine⟨p,_,rfl,SqT.of f1,rfl,_,_,rfl,_,_,rfl,rfl,?_⟩;exact⟨_,rfl,_,rfl,_,_,rfl,rfl,k H1 s1⟩
noncomputable def sortS (W:Wk):Str:=if nS W<nL W then "rim" else "hole"
noncomputable def kOf (s:Str):Nat:=if s = "rim" then 0 else 2
noncomputable def zbL(W:Wk)(s:Str)(e:Edge):Prop:=e∈W.map (·.1)/\e.w=kOf s/\∀f∈W.map (·.1),f.w=kOf s->HT.lexLt [f.c.2,f.c.1] [e.c.2,e.c.1]=false
noncomputable def ziJ (K:W.Frag):Sp:=λvs H Q _=>∃(a:Addr) (W:Wk) (s:Str),vs=[.ref a,.str s]/\(s = "rim" ∨ s = "hole")/\LR K H a W wR/\W.length<=2000/\(∃e∈W.map (·.1),e.w=kOf s) /\
 ∀b e H',Same H H'->H' b=some (.tup (edgeT e))->zbL W s e->Q (.ref b) H'
theorem zgE (T:Txt P w K mg) (g_cell_order:Fn P w K mg base 1 "cell_order" ["cell"] (ziC K)) (d:Df K mg "begin_of" zcw ["walk","sort"]):FnOk P w K mg base CX0 3 d.f d.fd ["walk","sort"] (ziJ K):=by
  refine d.F.ok zgr (λvs H Q E h=>?_) (λcdv A outer s H vs Q E hr h=>?_)
  . obtain⟨a,W,s,rfl,_⟩:=h;rfl
  . obtain⟨a,W,so,rfl,hso,hLR,hlen,hex,k⟩:=h;obtain⟨ws,hq,hv⟩:=hLR.vr;have nb0:(["edge","step","sort"]:List Str).Nodup:=by decide +kernel
    refine⟨_,(zah (zal (zly g_cell_order.ok (hr.mono (by decide)) g_cell_order.b (by rfl) T.nmin (by rfl) g_cell_order.m (zbt (osc:=zaf zcw) (N:=zeE) (N':=["edge","step","sort"]) (sel:=[none,none,some 1]) bO (zbx (pv 0)) (λ_ _ _ _ _=>(zdM (K:=K) (n:=2) (by rfl) (zae (nG 0 nb0) (zae (nG 1 nb0) zay)))) (λ_ _ _ _ _=>zb5 (zaq op_eq (pe_ix (zcM (K:=K)) (pv 0) zad (λ_ _=>rfl)) (zi6 (by rfl) T.ways (pv 2)) (zas _))) (λ_ _ _ _ _=>(pv 0)))))),?_⟩;refine⟨_,rfl,a,rfl,⟨_,hq⟩,λp hp=>?_⟩
    refine zba (K:=K) (a:=a) (xs:=ws) (λi σ H2=>∃o1 o2,σ=[o1,o2,some (.str so)]/\Same H H2/\∃es:List V,H2 p=some (.lst es)/\VR es (((W.take i).filter λq=>q.1.w == kOf so).map (·.1)) eR H2)
      ⟨_,_,rfl,Same.up hp,[],zaa,VR.nil⟩ (λi σ H2 _ ⟨_,_,_,s2,_⟩=>s2.seq hq) ?_ ?_
    . rintro i v σ H2 hi ⟨o1,o2,rfl,s2,es,e2,hl⟩;obtain⟨⟨e,st⟩,he,B,b,rfl,q1,q2⟩:=hv.at hi
      have hl2:es.length<=2000:=by have:=Bz (λq:Edge×Option Nat=>q.1.w == kOf so) (W.take i);rw[hl.1,Ai];rw[AT]at this;lia
      have fin:∀kk:Int, kk=(kOf so:Int) -> (if decide (V.int (e.w:Int)=V.int kk)=true then zdB p (tVar 0) { nx := λσ H2 => ∃o1 o2, σ = [o1, o2, some (V.str so)] /\ Same H H2 /\ ∃es, H2 p=some (.lst es) /\ VR es (List.map (λx => x.fst) (List.filter (λq => q.1.w == kOf so) (List.take (i + 1) W))) eR H2, rt := λ_ _ => False } [some (.ref b), some (sv st), some (.str so)] H2
          else (∃o1 o2,[some (.ref b),some (sv st),some (V.str so)]=[o1,o2,some (V.str so)]/\Same H H2/\∃es,H2 p=some (.lst es)/\VR es (List.map (λx=>x.fst) (List.filter (λq=>q.1.w == kOf so) (List.take (i+1) W))) eR H2)):=λkk hk=>by
        have hd:decide (V.int (e.w:Int)=V.int kk)=(e.w == kOf so):=by
          subst hk
          by_cases q:e.w=kOf so
          . rw[q];simp
          . rw[decide_eq_false (λz=>q (by injection z with z;lia))];simp[q]
        rw[hd,zb7 he];refine ite2 (λhy=>?_) (λhn=>?_)
        . refine⟨_,rfl,es,e2,zak hl2,_,_,rfl,zax hp s2,_,zaa,?_⟩;rw[if_pos hy,AS];have k2:KT H2 (upd H2 p (.lst (es++[.ref b]))):=KT.lst e2;exact hl.snoc (λx v hx=>hx.kt k2) ⟨b,rfl,k2 _ _ (s2 _ _ q2)⟩
        . exact⟨_,_,rfl,s2,es,e2,by rw[if_neg hn,AE];exact hl⟩
      refine⟨B,_,rfl,SqT.of (s2 _ _ q1),rfl,_,_,rfl,_,_,rfl,rfl,?_⟩;rcases hso with z |z
      . have f0:=fin 0 (by rw[z];rfl);exact⟨_,rfl,b,_,_,_,rfl,rfl,SqT.of (s2 _ _ q2),zaz (j:=2) rfl,_,rfl,.inl ⟨by rw[z],rfl,_,rfl,f0⟩⟩
      . have f2:=fin 2 (by rw[z];rfl);exact⟨_,rfl,b,_,_,_,rfl,rfl,SqT.of (s2 _ _ q2),zaz (j:=2) rfl,_,rfl,.inr ⟨by rw[z],rfl,_,rfl,f2⟩⟩
    . rintro σ H2 ⟨o1,o2,rfl,s2,es,e2,hl⟩;rw[hv.1,A4]at hl;obtain⟨L,hL⟩:∃L,L=((W.filter λq=>q.1.w == kOf so).map (·.1)):=⟨_,rfl⟩;rw[<- hL]at hl
      have memL:∀f,f∈L ↔ f∈W.map (·.1)/\f.w=kOf so:=λf=>by
        rw[hL];constructor
        . intro h;obtain⟨q,hq1,rfl⟩:=Bd.mp h;obtain⟨h1,h2⟩:=D7.mp hq1;exact⟨Bd.mpr ⟨q,h1,rfl⟩,by simpa using h2⟩
        . rintro⟨h1,h2⟩;obtain⟨q,hq1,rfl⟩:=Bd.mp h1;exact Bd.mpr ⟨q,List.mem_filter.mpr ⟨hq1,by simpa using h2⟩,rfl⟩
      have hpos:0<es.length:=by obtain⟨f,h1,h2⟩:=hex;rw[hl.1];exact CJ ((memL f).mpr ⟨h1,h2⟩)
      have kap:∀(i:Nat) e,L[i]?=some e->(λi=>(L[i]?.map λe:Edge=>[e.c.2,e.c.1]).getD []) i=[e.c.2,e.c.1]:=λi e h=>by simp only[h];rfl
      refine⟨p,es,λi=>(L[i]?.map λe:Edge=>[e.c.2,e.c.1]).getD [],rfl,SqL.of e2,hpos,λi x H3 hx s3=>?_,λi x H3 hx hle s3=>?_⟩
      . obtain⟨e,he,b,rfl,q⟩:=hl.at hx;refine⟨b,e.c.1,e.c.2,_,rfl,SqT.of (s3 _ _ q),λp4 H4 hp4 s4 f4=>⟨s4,p4,rfl,SqT.of ?_⟩⟩;rw[kap i e he];exact f4
      . obtain⟨e,he,b,rfl,q⟩:=hl.at hx;have hm:=(memL e).mp (Aw he);refine k b e H3 (s2.trans s3) (s3 _ _ q) ⟨hm.1,hm.2,λf h1 h2=>?_⟩;obtain⟨j,hj,ej⟩:=AZ ((memL f).mpr ⟨h1,h2⟩);have hj':L[j]?=some f:=by rw[Ab hj,ej]
        have:=(hle j (by rw[hl.1];exact hj)).1;rw[kap j f hj',kap i e he]at this;exact this
theorem sIx_nat(n d j:Nat):HT.sIx n d (some (j:Int))=min j n:=by show (if (j:Int)<0 then ((j:Int)+(n:Int)).toNat else min (j:Int).toNat n)=min j n;rw[if_neg (by lia),CW]
theorem zhH(xs:List V){j:Nat}(h:j<=xs.length):cutV xs (some (j:Int)) none=xs.drop j:=by unfold cutV;rw[sIx_nat,Nat.min_eq_left h];exact BY (by rw[Co];exact Aj _)
theorem zjI(xs:List V){j:Nat}(h:j<=xs.length):cutV xs none (some (j:Int))=xs.take j:=by unfold cutV;rw[sIx_nat,Nat.min_eq_left h];rfl
structure Rnd where
 so:Str
 x:Int
 y:Int
 row:List Nat
 deriving DecidableEq
noncomputable def rowV(row:List Nat):List V:=row.map λn:Nat=>V.int (n:Int)
noncomputable def rR(r:Rnd)(v:V)(H:Hp):Prop:=∃a b,v=.ref a/\H a=some (.tup [.str r.so,.int r.x,.int r.y,.ref b])/\H b=some (.tup (rowV r.row))
theorem rR.kt{r:Rnd}{v:V}{H H':Hp}(h:rR r v H)(s:KT H H'):rR r v H':=let ⟨a,b,e,q1,q2⟩:=h;⟨a,b,e,s _ _ q1,s _ _ q2⟩
noncomputable def IsRnd(W:Wk)(r:Rnd):Prop:=r.so=sortS W/\∃(j:Nat) (e:Edge),(W.map (·.1))[j]?=some e/\zbL W (sortS W) e/\r.x=e.c.1/\r.y=e.c.2/\r.row=(W.drop j++W.take j).filterMap (·.2)
theorem zha (W:Wk):sortS W = "rim" ∨ sortS W = "hole":=by unfold sortS;split <;> simp
noncomputable def keyV (r:Rnd):List V:=[.int r.y,.int r.x,.bl (decide (V.str r.so=V.str "hole"))]
theorem VR.cons{α:Type}{v:V}{vs:List V}{x:α}{l:List α}{R:α->V->Hp->Prop}{H:Hp}:VR (v::vs) (x::l) R H ↔ R x v H/\VR vs l R H:=by
 constructor
 .intro h;exact⟨h.2 0 x v rfl rfl,by simpa using h.1,λi y u h1 h2=>h.2 (i+1) y u (by simpa using h1) (by simpa using h2)⟩
 .rintro⟨h1,h2⟩;refine⟨by simp[h2.1],λi y u e1 e2=>?_⟩
  match i,e1,e2 with
  | 0,e1,e2=>cases e1;cases e2;exact h1
  |i+1,e1,e2=>exact h2.2 i y u (by simpa using e1) (by simpa using e2)
noncomputable def kE(e:Edge):List Key:=[Dz e.c.1,Dz e.c.2,Dz (e.w:Int)]
theorem zk7{e f:Edge}:kE e=kE f ↔ e=f:=by
 constructor
 .intro h;refine zeA.mp ?_
  unfold kE at h;injection h with h1 h2;injection h2 with h2 h3;injection h3 with h3 _;unfold eI;rw[Sum.inl.inj h1,Sum.inl.inj h2,Sum.inl.inj h3]
 .rintro rfl;rfl
theorem _root_.RP.Closed.back{C:Cell->Bool}{b x:Edge}{es:List Edge}(h:Closed C b es)(hx:IsE C x)(hm:nxt C x∈es):x∈es:=by
 obtain⟨⟨h0,hs,hE,hnd⟩,l,hl,hb⟩:=h;obtain⟨i,hi,ei⟩:=AZ hm;have hlm:l∈es:=Aw hl;rcases Nat.eq_zero_or_pos i with rfl |hp
 .rw[Ab hi,ei]at h0;have e:=A9 h0;rw[<- hb]at e;rw[zgG hx (hE l hlm) e];exact hlm
 .have hi':i-1<es.length:=by lia
  have e1:=hs (i-1) es[i-1] (nxt C x) (Ab hi') (by rw[show i-1+1=i by lia,Ab hi,ei]);rw[zgG hx (hE _ (BE hi')) e1];exact BE hi'
theorem _root_.RP.Closed.apart{C:Cell->Bool}{b:Edge}{es done:List Edge}(h:Closed C b es)(hd:∀x,IsE C x->nxt C x∈done->x∈done)(hb:b ∉ done):∀e∈es,e ∉ done:=by
 obtain⟨⟨h0,hs,hE,hnd⟩,_⟩:=h
 have key:∀(i:Nat) e,es[i]?=some e->e ∉ done:=by
  intro i
  induction i with
  |zero=>intro e he;rw[he]at h0;cases h0;exact hb
  |succ i ih =>
   intro e he hm;have hi:i+1<es.length:=(Ad.mp he).1;have h1:es[i]?=some es[i]:=Ab (by lia)
   have hn:=hs i _ e h1 he;rw[hn]at hm;exact ih _ h1 (hd _ (hE _ (BE _)) hm)
 intro e he;obtain⟨i,hi,ei⟩:=AZ he;exact key i e (by rw[Ab hi,ei])
structure Part (C:Cell->Bool) (ESS:List (List Edge)) (R:List Rnd):Prop where
 len:R.length=ESS.length
 each:∀(i:Nat) es r,ESS[i]?=some es->R[i]?=some r->(∃b,Closed C b es)/\IsRnd (wk C es) r
 nd:ESS.flatten.Nodup
theorem Part.closed{C:Cell->Bool}{ESS:List (List Edge)}{R:List Rnd}(h:Part C ESS R):∀es∈ESS,∃b,Closed C b es:=λes he=>by
 obtain⟨i,hi,ei⟩:=AZ he;have hr:i<R.length:=by rw[h.len];exact hi
 exact (h.each i es R[i] (by rw[Ab hi,ei]) (Ab hr)).1
theorem Part.isE{C:Cell->Bool}{ESS:List (List Edge)}{R:List Rnd}(h:Part C ESS R):∀e∈ESS.flatten,IsE C e:=λe he=>by obtain⟨es,h1,h2⟩:=List.mem_flatten.mp he;obtain⟨b,hc⟩:=h.closed es h1;exact hc.1.2.2.1 e h2
theorem Part.back{C:Cell->Bool}{ESS:List (List Edge)}{R:List Rnd}(h:Part C ESS R):∀x,IsE C x->nxt C x∈ESS.flatten->x∈ESS.flatten:=λx hx hm=>by obtain⟨es,h1,h2⟩:=List.mem_flatten.mp hm;obtain⟨b,hc⟩:=h.closed es h1;exact List.mem_flatten.mpr ⟨es,h1,hc.back hx h2⟩
theorem Part.nil{C:Cell->Bool}:Part C [] []:=⟨rfl,λi es r h=>by simp at h,by simp⟩
theorem Part.snoc{C:Cell->Bool}{ESS:List (List Edge)}{R:List Rnd}{b:Edge}{es:List Edge}{r:Rnd}(h:Part C ESS R)(hc:Closed C b es)(hr:IsRnd (wk C es) r)(hb:b ∉ ESS.flatten):Part C (ESS++[es]) (R++[r]):=by
 refine⟨by simp[h.len],λi fs q h1 h2=>?_,?_⟩
 .rcases Bi i ESS.length with hi |hi
  .rw[AK hi]at h1;rw[AK (by rw[h.len];exact hi)]at h2;exact h.each i fs q h1 h2
  .rw[AW hi]at h1;rw[AW (by rw[h.len];exact hi)]at h2
   have hz:i-ESS.length=0:=by have:=(Ad.mp h1).1;simp at this;lia
   rw[hz]at h1;rw[h.len,hz]at h2
   cases h1;cases h2
   exact⟨⟨b,hc⟩,hr⟩
 .have ap:=hc.apart h.back hb;rw[DJ,List.nodup_append];refine⟨h.nd,by simpa using hc.1.2.2.2,λx hx y hy e=>?_⟩;subst e;exact ap x (by simpa using hy) hx
theorem zhv{p:Edge->Bool}:∀(ESS:List (List Edge)),(∀es∈ESS,∃e∈es,p e=true)->ESS.length<=(ESS.flatten.filter p).length
 |[],_=>A6 _
 |es::r,h=>by
  have ih:=zhv r λes he=>h es (AI _ he)
  obtain⟨e,he,hp⟩:=h es AQ;rw[BN,B9,Af,Be];have:0<(es.filter p).length:=CJ (List.mem_filter.mpr ⟨he,hp⟩);lia
theorem Part.few{cs:List Cell}{ESS:List (List Edge)}{R:List Rnd}(h:Part (isIn cs) ESS R):R.length<=cs.length:=by
 rw[h.len];refine AN (zhv (p:=λe=>e.w == 0) ESS λes he=>?_) ?_
 .obtain⟨b,hc⟩:=h.closed es he;obtain⟨e,h1,h2⟩:=hc.has (k:=0) (.inl rfl);exact⟨e,h1,by simpa using h2⟩
 .rw[<- Ai (f:=λc:Cell=>(⟨c,0⟩:Edge)) (as:=cs)];refine za1 (List.Pairwise.filter _ h.nd) λe he=>?_
  obtain⟨h1,h2⟩:=D7.mp he;have hE:=h.isE e h1;refine Bd.mpr ⟨e.c,of_decide_eq_true hE.2.1,?_⟩;obtain⟨c,w⟩:=e;simp only at h2 ⊢;have:w=0:=by simpa using h2
  rw[this]
theorem Part.small{cs:List Cell}{ESS:List (List Edge)}{R:List Rnd}(h:Part (isIn cs) ESS R):ESS.flatten.length<=4*cs.length:=by rw[<- zce];exact za1 h.nd λe he=>zdU.mpr ⟨of_decide_eq_true (h.isE e he).2.1,(h.isE e he).1⟩
noncomputable def keyI (r:Rnd):List Int:=[r.y,r.x,PyProof.Rows.b2i (decide (V.str r.so=V.str "hole"))]
noncomputable def Whole(cs:List Cell)(R:List Rnd):Prop:=∃ESS,Part (isIn cs) ESS R/\∀e,e∈ESS.flatten ↔ IsE (isIn cs) e
theorem zj2{α:Type}(l:List α)(j:Nat):(l.drop j++l.take j).Perm l:=by have:=CP (l₁:=l.drop j) (l₂:=l.take j);rw[List.take_append_drop]at this;exact this
theorem zdA{C:Cell->Bool}(es:List Edge):(wk C es).map (·.1)=es:=by unfold wk;rw[List.map_map];exact List.map_id' _
theorem zhQ{C:Cell->Bool}{es fs:List Edge}(p:es.Perm fs):sortS (wk C es)=sortS (wk C fs):=by have q:(wk C es).Perm (wk C fs):=p.map _;unfold sortS nL nS;have a:=(q.filter λq=>q.2.isNone).length_eq;have b:=(q.filter λq=>slant q.2).length_eq;rw[a,b]
theorem lex2{a b c d:Int}(h1:HT.lexLt [a,b] [c,d]=false)(h2:HT.lexLt [c,d] [a,b]=false):a=c/\b=d:=by have:=HT.lexLt_total h1 h2;simpa using this
theorem zbL.one{W W':Wk}{s:Str}{e f:Edge}(p:(W.map (·.1)).Perm (W'.map (·.1)))(h:zbL W s e)(k:zbL W' s f):e=f:=by obtain⟨h1,h2,h3⟩:=h;obtain⟨k1,k2,k3⟩:=k;have a:=h3 f (p.mem_iff.mpr k1) k2;have b:=k3 e (p.mem_iff.mp h1) h2;obtain⟨q1,q2⟩:=lex2 a b;obtain⟨⟨x,y⟩,w⟩:=e;obtain⟨⟨x',y'⟩,w'⟩:=f;simp only at q1 q2 h2 k2;rw[h2,k2,q1,q2]
noncomputable def begE(r:Rnd):Edge:=⟨(r.x,r.y),kOf r.so⟩
theorem zfk(s:Nat):∀(l:List Nat) (w:Nat),dgo w (l++[s])=((dgo w l).1++(Ae ((zaD s+4-(dgo w l).2) % 4) none++[some s]),wayB s)
 |[],w=>by simp[dgo]
 |a::l,w=>by
  have ih:=zfk s l (wayB a);show (Ae ((zaD a+4-w) % 4) none++some a::(dgo (wayB a) (l++[s])).1,(dgo (wayB a) (l++[s])).2)=_;rw[ih];show _=((Ae ((zaD a+4-w) % 4) none++some a::(dgo (wayB a) l).1)++_,_);simp;rfl
theorem zdg:∀(l:List Nat) (w:Nat),(dgo w l).1.length<=4*l.length
 |[],w=>by simp[dgo]
 |a::l,w=>by
  have ih:=zdg l (wayB a);show (Ae ((zaD a+4-w) % 4) none++some a::(dgo (wayB a) l).1).length<=_;have:(zaD a+4-w) % 4<4:=B4 _ (by decide);simp only[Af,Bs,Be];lia
theorem zgN:∀(l:List Nat) (w:Nat),w<4->(dgo w l).2<4
 |[],w,h=>h
 |a::l,w,h=>zgN l (wayB a) (B4 _ (by decide))
theorem zcc(s:Nat):zaD s<4:=B4 _ (by decide)
theorem zhE(n:Nat):(Ae n [V.non]).flatten=(Ae n (none:Option Nat)).map sv:=by
 induction n with
 |zero=>rfl
 |succ n ih=>rw[B3,BN,ih];rfl
theorem zbf{n:Nat}(h:n<=5000):n<sizeLine:=B7 h (by decide)
theorem zdQ:1<=sizeLine:=by decide
noncomputable def zfy:Sp:=λvs H Q _=>∃(v:V) (r:Rnd),vs=[v]/\rR r v H/\(r.so = "rim" ∨ r.so = "hole")/\∀p H',H p=none->Same H H'->H' p=some (.tup (edgeT (begE r)))->Q (.ref p) H'
theorem ze7 (T:Txt P w K mg) (d:Df K mg "begin_edge" zcl ["one"]):FnOk P w K mg base CX0 1 d.f d.fd ["one"] zfy:=by
 refine d.F.ok zbh (λvs H Q E h=>?_) (λcdv A outer s H vs Q E hr h=>?_)
 .obtain⟨v,r,rfl,_⟩:=h;rfl
 .obtain⟨v,r,rfl,⟨a,b,rfl,q1,q2⟩,hso,k⟩:=h
  refine⟨_,(zac (za2 (pv 0) (zaW (by rfl) (zae (nG 1 zbh.nd) (zae (nG 2 zbh.nd) (zae (nG 3 zbh.nd) (zae (nG 4 zbh.nd) zay))))))
   (zah (zal (zao (pa_N (pv 2) (pa_N (pv 3) (zag (zi6 (by rfl) T.ways (pv 1)) zab))))))),?_⟩
  refine⟨_,rfl,a,_,rfl,SqT.of q1,rfl,_,_,rfl,_,_,rfl,_,_,rfl,_,_,rfl,rfl,?_⟩;refine⟨_,rfl,_,rfl,_,rfl,?_⟩;rcases hso with e |e
  .refine .inl ⟨by rw[e],three,λp hp=>k p _ hp (Same.up hp) ?_⟩;rw[zaa];unfold begE edgeT kOf;simp only[e];rfl
  .refine .inr ⟨by rw[e],three,λp hp=>k p _ hp (Same.up hp) ?_⟩;rw[zaa];unfold begE edgeT kOf;simp only[e];rfl
noncomputable def zg3:Sp:=λvs H Q _=>∃s:Nat,vs=[.int s]/\Q (.int (zaD s:Nat)) H
theorem zhW (d:Df K mg "way_for" zdH ["step"]):FnOk P w K mg base CX0 1 d.f d.fd ["step"] zg3:=by
 refine d.F.ok zhS (λvs H Q E h=>?_) (λcdv A outer s H vs Q E hr h=>?_)
 .obtain⟨s,rfl,_⟩:=h;rfl
 .obtain⟨t,rfl,k⟩:=h;refine⟨_,(zah (zal (pe_op zau (pe_op zeV (pe_op zaG (pv 0) zad) zad) zad))),?_⟩;refine⟨_,rfl,_,_,rfl,rfl,_,_,rfl,rfl,⟨by decide,by decide⟩,_,_,rfl,rfl,(by show (0:Int)<4;decide),?_⟩;have e:((t:Int)+1) / 2 % 4=(zaD t:Nat):=by unfold zaD;lia
  show Q (V.int (((t:Int)+1) / 2 % 4)) H;rw[e];exact k
noncomputable def ziI(K:W.Frag):Sp:=λvs H Q _=>∃(wn:Nat) (b:Addr) (row:List Nat),vs=[.int (wn:Int),.ref b]/\wn<4/\SqT K H b (rowV row)/\row.length<=500 /\
 ∀p H',H p=none->Same H H'->H' p=some (.lst ((deeds wn row).map sv))->Q (.ref p) H'
theorem zed (g_way_for:Fn P w K mg base 1 "way_for" ["step"] zg3) (d:Df K mg "deeds_along" zb2 ["begin_way","row"]):FnOk P w K mg base CX0 2 d.f d.fd ["begin_way","row"] (ziI K):=by
 refine d.F.ok zaY (λvs H Q E h=>?_) (λcdv A outer s H vs Q E hr h=>?_)
 .obtain⟨wn,b,row,rfl,_⟩:=h;rfl
 .obtain⟨wn,b,row,rfl,hw,hq,hlen,k⟩:=h
  refine⟨_,(zac (sE 2 zaY.nd (pv 0))
   (zac (sE 3 zaY.nd (zaL zab))
   (zac (zca BF rfl (zi5 (pv 1)) (nG 4 zaY.nd)
   (zac (zaS (pe_bm AG Ct Cu zcq (pv 3) (pa_B (pe_op zk0 (zaL (pa_C zby zab)) (pe_op zau (pe_op zcD (pC g_way_for hr (pa_N (pv 4) zab)) (pv 2)) zad)) zab)))
   (zac (zaS (pe_bm AG AX AY zaM (pv 3) (pa_N (pv 4) zab)))
   (zah (sE 2 zaY.nd (pe_op zau (pe_op zcD (pC g_way_for hr (pa_N (pv 4) zab)) (pe_op zau (pv 4) zad)) zad))))))
   (zac (sE 5 zaY.nd (zkc (zj6 (pv 1) (λ_=>rfl)) (pe_op zau (pe_op zcD (pv 0) (pv 2)) zad) zad))
   (zah (zal (pe_op zfH (pv 3) (pe_op zk0 (zaL (pa_C zby zab)) (pv 5))))))))),?_⟩
  refine⟨_,rfl,(by show 0<=sizeLine;decide),λp hp=>?_⟩;have s0:Same H (upd H p (.lst [])):=Same.up hp;have e0:upd H p (.lst []) p=some (.lst []):=zaa;generalize upd H p (.lst [])=H0 at s0 e0;refine⟨_,rfl,b,rfl,⟨_,s0.seqT hq⟩,?_⟩;have hrl:(rowV row).length=row.length:=by unfold rowV;exact Ai _
  refine zgL (K:=K) (a:=b) (xs:=rowV row) (λi σ H1=>∃o4 o5,σ=[some (.int (wn:Int)),some (.ref b),some (.int ((dgo wn (row.take i)).2:Nat)),some (.ref p),o4,o5]/\Same H H1/\H1 p=some (.lst ((dgo wn (row.take i)).1.map sv)))
   ⟨_,_,rfl,s0,e0⟩ (λi σ H1 _ ⟨_,_,_,s1,_⟩=>s1.seqT hq) ?_ ?_
  .rintro i v σ H1 hi ⟨o4,o5,rfl,s1,e1⟩;have hi':i<row.length:=by rw[<- hrl];exact (Ad.mp hi).1
   unfold rowV at hi;rw[A7,Ab hi']at hi
   cases hi
   have hdl:=zdg (row.take i) wn;rw[AT]at hdl;have hdw:=zgN (row.take i) wn hw;have hwf:=zcc row[i];have hn:=zfk row[i] (row.take i) wn;rw[<- zaN (Ab hi')]at hn;refine⟨_,rfl,.inl ⟨rfl,_,SqL.of e1⟩,zdQ,λl hl=>?_⟩;have s2:Same H1 (upd H1 l (.lst [.non])):=Same.up hl;have e2:upd H1 l (.lst [.non]) l=some (.lst [.non]):=zaa;generalize upd H1 l (.lst [.non])=H2 at s2 e2;refine⟨_,rfl,row[i],rfl,?_⟩;refine⟨_,rfl,_,_,rfl,rfl,_,_,rfl,rfl,(by show (0:Int)<4;decide),?_⟩;have ek:(((zaD row[i]:Nat):Int)-((dgo wn (row.take i)).2:Nat)) % 4=(((zaD row[i]+4-(dgo wn (row.take i)).2) % 4:Nat):Int):=by lia
   have k4:(zaD row[i]+4-(dgo wn (row.take i)).2) % 4<4:=B4 _ (by decide);generalize hk:(zaD row[i]+4-(dgo wn (row.take i)).2) % 4=kk at *;refine⟨l,(kk:Int),_,rfl,congrArg V.int ek,e2,by lia,by lia,(Bc (zak (by simp;lia))),λq hq'=>?_⟩;rw[CW,zhE];have s3:Same H2 (upd H2 q (.lst ((Ae kk (none:Option Nat)).map sv))):=Same.up hq';have e3:upd H2 q (.lst ((Ae kk (none:Option Nat)).map sv)) q=some (.lst ((Ae kk (none:Option Nat)).map sv)):=zaa;have hpq:p≠q:=λz=>by subst z;rw[s2 _ _ e1]at hq';cases hq'
   generalize upd H2 q (.lst ((Ae kk (none:Option Nat)).map sv))=H3 at s3 e3;have e13:=s3 _ _ (s2 _ _ e1);refine⟨p,q,_,_,rfl,rfl,e13,e3,?_,?_⟩
   .simp only[Ai,Bs];exact Bc (zbf (by lia))
   have hp2:H p=none:=hp;have s4:Same H (upd H3 p (.lst ((dgo wn (row.take i)).1.map sv++(Ae kk (none:Option Nat)).map sv))):=zax hp2 (s1.trans (s2.trans s3));have e4:upd H3 p (.lst ((dgo wn (row.take i)).1.map sv++(Ae kk (none:Option Nat)).map sv)) p=some (.lst ((dgo wn (row.take i)).1.map sv++(Ae kk (none:Option Nat)).map sv)):=zaa;generalize upd H3 p (.lst ((dgo wn (row.take i)).1.map sv++(Ae kk (none:Option Nat)).map sv))=H4 at s4 e4;refine⟨_,rfl,.inl ⟨rfl,_,SqL.of e4⟩,_,rfl,p,_,_,rfl,rfl,e4,?_,?_⟩
   .simp only[Af,Ai,Bs];exact zbf (by lia)
   have s5:Same H (upd H4 p (.lst (((dgo wn (row.take i)).1.map sv++(Ae kk (none:Option Nat)).map sv)++[V.int (row[i]:Nat)]))):=zax hp2 s4
   have e5:upd H4 p (.lst (((dgo wn (row.take i)).1.map sv++(Ae kk (none:Option Nat)).map sv)++[V.int (row[i]:Nat)])) p=some (.lst ((dgo wn (row.take (i+1))).1.map sv)):=by rw[zaa,hn];simp[sv]
   generalize upd H4 p (.lst (((dgo wn (row.take i)).1.map sv++(Ae kk (none:Option Nat)).map sv)++[V.int (row[i]:Nat)]))=H5 at s5 e5;refine⟨_,rfl,row[i],rfl,?_⟩;refine⟨_,rfl,_,_,rfl,rfl,(by show (0:Int)<2;decide),_,_,rfl,rfl,_,_,rfl,rfl,(by show (0:Int)<4;decide),?_⟩
   have ew:(((zaD row[i]:Nat):Int)-(row[i]:Int) % 2) % 4=((dgo wn (row.take (i+1))).2:Nat):=by rw[hn];show _=((wayB row[i]:Nat):Int);unfold wayB;lia
   refine⟨some (V.int (row[i]:Nat)),o5,?_,s5,e5⟩;exact congrArg (λz:Int=>[some (V.int (wn:Int)),some (V.ref b),some (V.int z),some (V.ref p),some (V.int (row[i]:Nat)),o5]) ew
  .rintro σ H1 ⟨o4,o5,rfl,s1,e1⟩;rw[hrl,A4]at e1;rw[hrl,A4];have hdl:=zdg row wn;have hdw:=zgN row wn hw
   have fin:∀z:Int,z=(zar wn row:Nat)->tRet (tOp rCat (tVar 3) (tOp rRep (tLst (tCons (tC .non) tNil)) (tVar 5))) { nx:=λ_ H'=>Q .non H',rt:=Q } [some (.int (wn:Int)),some (.ref b),some (.int ((dgo wn row).2:Nat)),some (.ref p),o4,some (.int z)] H1:=λz hz=>by
    have hll:zar wn row<=4:=by
     unfold zar;split
     .decide
     .exact Bc (B4 _ (by decide))
    refine⟨_,rfl,zdQ,λl hl=>?_⟩;have s2:Same H1 (upd H1 l (.lst [.non])):=Same.up hl;have e2:upd H1 l (.lst [.non]) l=some (.lst [.non]):=zaa;generalize upd H1 l (.lst [.non])=H2 at s2 e2;subst hz;refine⟨_,rfl,l,_,_,rfl,rfl,e2,by lia,by lia,(Bc (zak (by simp;lia))),λq hq'=>?_⟩;rw[CW,zhE];have s3:Same H2 (upd H2 q (.lst ((Ae (zar wn row) (none:Option Nat)).map sv))):=Same.up hq';have e3:upd H2 q (.lst ((Ae (zar wn row) (none:Option Nat)).map sv)) q=some (.lst ((Ae (zar wn row) (none:Option Nat)).map sv)):=zaa;generalize upd H2 q (.lst ((Ae (zar wn row) (none:Option Nat)).map sv))=H3 at s3 e3;refine⟨p,q,_,_,rfl,rfl,s3 _ _ (s2 _ _ e1),e3,?_,λx hx=>?_⟩
    .simp only[Ai,Bs];exact Bc (zbf (by lia))
    .have s13:=s1.trans (s2.trans s3);refine k x _ (s13.free hx) (s13.trans (Same.up hx)) ?_
     rw[zaa];unfold deeds;rw[AS]
   refine⟨_,rfl,_,.inr (.inl ⟨_,s1.seqT hq,rfl⟩),?_⟩
   by_cases he:row=[]
   .exact iteN (by rw[he];rfl) (fin 4 (by rw[he];rfl))
   .refine iteY (by cases row with |nil=>exact absurd rfl he |cons x r=>rfl) ⟨_,rfl,_,rfl,_,_,rfl,rfl,_,_,rfl,rfl,(by show (0:Int)<4;decide),fin _ ?_⟩
    have hl:zar wn row=(wn+4-(dgo wn row).2) % 4:=by unfold zar;rw[if_neg (by simpa using he)]
    rw[hl];lia
noncomputable def wby:Edge->List (Option Nat)->List (Edge×Option Nat)
 |_,[]=>[]
 |e,d::r=>(e,d)::wby (edgeB e d) r
noncomputable def eAt:Edge->List (Option Nat)->Edge
 |e,[]=>e
 |e,d::r=>eAt (edgeB e d) r
theorem zfh(d:Option Nat):∀(l:List (Option Nat)) (e:Edge),eAt e (l++[d])=edgeB (eAt e l) d
 |[],_=>rfl
 |_::l,e=>zfh d l _
theorem zeG(d:Option Nat):∀(l:List (Option Nat)) (e:Edge),wby e (l++[d])=wby e l++[(eAt e l,d)]
 |[],_=>rfl
 |a::l,e=>by
  show (e,a)::wby (edgeB e a) (l++[d])=_;rw[zeG d l];rfl
theorem zbe:∀(l:List (Option Nat)) (e:Edge),(wby e l).length=l.length
 |[],_=>rfl
 |a::l,e=>by show (wby (edgeB e a) l).length+1=_;rw[zbe l];rfl
theorem zdz{e:Edge}{o:Option Nat}(h:e.w<4):(edgeB e o).w<4:=by
 unfold edgeB
 cases o with
 |none=>exact B4 _ (by decide)
 |some s=>simp only;split <;> simp only <;> lia
theorem zeB:∀(l:List (Option Nat)){e:Edge},e.w<4->(eAt e l).w<4
 |[],_,h=>h
 |_::l,_,h=>zeB l (zdz h)
noncomputable def zg5(K:W.Frag):Sp:=λvs H Q _=>∃(a l:Addr) (b:Edge) (ds:List (Option Nat)),vs=[.ref a,.ref l]/\H a=some (.tup (edgeT b))/\b.w<4/\H l=some (.lst (ds.map sv))/\(∀s,some s∈ds->s<8)/\ds.length<=3000 /\
 ∀p H' ws,H p=none->Same H H'->H' p=some (.lst ws)->VR ws (wby b ds) wR H'->Q (.ref p) H'
theorem zhX (g_edge_behind:Fn P w K mg base 2 "edge_behind" ["edge","step"] (zeN K)) (d:Df K mg "walk_by" zdJ ["begin","deeds"]):FnOk P w K mg base CX0 3 d.f d.fd ["begin","deeds"] (zg5 K):=by
 refine d.F.ok zbT (λvs H Q E h=>?_) (λcdv A outer s H vs Q E hr h=>?_)
 .obtain⟨a,l,b,ds,rfl,_⟩:=h;rfl
 .obtain⟨a,l,b,ds,rfl,ha,hb,hl,h8,hlen,k⟩:=h
  refine⟨_,(zac (sE 2 zbT.nd (zaL zab))
   (zac (sE 3 zbT.nd (pv 0))
   (zac (zca BF rfl (zbx (pv 1)) (nG 4 zbT.nd)
   (zac (zaS (pe_bm AG AX AY zaM (pv 2) (pa_T (zao (pa_N (pv 3) (pa_N (pv 4) zab))) zab)))
   (zah (sE 3 zbT.nd (pC g_edge_behind hr (pa_N (pv 3) (pa_N (pv 4) zab)))))))
   (zah (zal (pv 2)))))),?_⟩
  refine⟨(by show 0<=sizeLine;decide),λp hp=>?_⟩;have s0:Same H (upd H p (.lst [])):=Same.up hp;have e0:upd H p (.lst []) p=some (.lst []):=zaa;generalize upd H p (.lst [])=H0 at s0 e0;refine⟨_,rfl,_,rfl,l,rfl,⟨_,SqL.of (s0 _ _ hl)⟩,?_⟩
  refine zba (K:=K) (a:=l) (xs:=ds.map sv) (λi σ H1=>∃(c:Addr) (o4:Option V) (ws:List V),σ=[some (.ref a),some (.ref l),some (.ref p),some (.ref c),o4]/\Same H H1/\H1 c=some (.tup (edgeT (eAt b (ds.take i))))/\H1 p=some (.lst ws)/\VR ws (wby b (ds.take i)) wR H1)
   ⟨a,_,[],rfl,s0,s0 _ _ ha,e0,VR.nil⟩ (λi σ H1 _ ⟨_,_,_,_,s1,_⟩=>SqL.of (s1 _ _ hl)) ?_ ?_
  .rintro i v σ H1 hi ⟨c,o4,ws,rfl,s1,hc,e1,hv⟩;have hi':i<ds.length:=by have:=(Ad.mp hi).1;rwa [Ai]at this
   rw[A7,Ab hi']at hi
   cases hi
   have tk:=zaN (Ab hi');have wl:ws.length<=3000:=by rw[hv.1,zbe,AT];lia
   refine⟨_,rfl,.inl ⟨rfl,_,SqL.of e1⟩,_,rfl,_,rfl,two,λt ht=>?_⟩;have s2:Same H1 (upd H1 t (.tup [.ref c,sv ds[i]])):=Same.up ht;have e2:upd H1 t (.tup [.ref c,sv ds[i]]) t=some (.tup [.ref c,sv ds[i]]):=zaa;generalize upd H1 t (.tup [.ref c,sv ds[i]])=H2 at s2 e2;have e12:=s2 _ _ e1;refine⟨p,ws,_,rfl,rfl,e12,zbf (by lia),?_⟩;have kt3:KT H2 (upd H2 p (.lst (ws++[.ref t]))):=KT.lst e12;have s3:Same H (upd H2 p (.lst (ws++[.ref t]))):=zax hp (s1.trans s2);have e3:upd H2 p (.lst (ws++[.ref t])) p=some (.lst (ws++[.ref t])):=zaa;generalize upd H2 p (.lst (ws++[.ref t]))=H3 at kt3 s3 e3;have hc3:=kt3 _ _ (s2 _ _ hc);refine⟨_,rfl,_,rfl,c,eAt b (ds.take i),ds[i],rfl,SqT.of hc3,zeB _ hb,λz hz=>h8 z (hz ▸ BE _),λq H4 hq s4 e4=>?_⟩;refine⟨q,_,ws++[.ref t],rfl,s3.trans s4,?_,s4 _ _ e3,?_⟩
   .rw[tk,zfh];exact e4
   .rw[tk,zeG];exact hv.snoc (λx v h=>((h.kt (KT.of s2)).kt kt3).kt (KT.of s4)) ⟨t,c,rfl,s4 _ _ (kt3 _ _ e2),s4 _ _ hc3⟩
  .rintro σ H1 ⟨c,o4,ws,rfl,s1,hc,e1,hv⟩;rw[Ai,A4]at hv;exact⟨_,rfl,k p H1 ws hp s1 e1 hv⟩
noncomputable def zdC(K:W.Frag):Sp:=λvs H Q _=>∃(a b:Addr) (e:Edge) (row:List Nat),vs=[.ref a,.ref b]/\H a=some (.tup (edgeT e))/\e.w<4/\SqT K H b (rowV row)/\row.length<=500/\(∀s,some s∈deeds e.w row->s<8) /\
 ∀p H' ws,H p=none->Same H H'->H' p=some (.lst ws)->VR ws (wby e (deeds e.w row)) wR H'->Q (.ref p) H'
theorem zeY (g_walk_by:Fn P w K mg base 3 "walk_by" ["begin","deeds"] (zg5 K)) (g_deeds_along:Fn P w K mg base 2 "deeds_along" ["begin_way","row"] (ziI K)) (d:Df K mg "walk_along" zcg ["begin","row"]):FnOk P w K mg base CX0 4 d.f d.fd ["begin","row"] (zdC K):=by
 refine d.F.ok zeQ (λvs H Q E h=>?_) (λcdv A outer s H vs Q E hr h=>?_)
 .obtain⟨a,b,e,row,rfl,_⟩:=h;rfl
 .obtain⟨a,b,e,row,rfl,ha,hw,hq,hlen,h8,k⟩:=h;refine⟨_,(zah (zal (pC g_walk_by hr (pa_N (pv 0) (zag (pC g_deeds_along hr (zag (pe_ix zbw (pv 0) zad (λ_ _=>rfl)) (pa_N (pv 1) zab))) zab))))),?_⟩;refine⟨_,rfl,_,rfl,a,_,_,_,rfl,rfl,SqT.of ha,zaz (j:=2) rfl,_,rfl,e.w,b,row,rfl,hw,hq,hlen,λp H1 hp s1 e1=>?_⟩
  have hd:(deeds e.w row).length<=3000:=by
   unfold deeds;have:=zdg row e.w
   have:zar e.w row<=4:=by
    unfold zar;split
    .decide
    .exact Bc (B4 _ (by decide))
   simp only[Af,Bs];lia
  exact⟨a,p,e,_,rfl,s1 _ _ ha,hw,e1,h8,hd,λq H2 ws hq2 s2 e2 hv=>k q H2 ws (s1.free hq2) (s1.trans s2) e2 hv⟩
noncomputable def sR(q:Cell×Bool)(v:V)(H:Hp):Prop:=∃A b,v=.ref A/\H A=some (.tup [.ref b,.bl q.2])/\H b=some (.tup (cellT q.1))
theorem sR.kt{q:Cell×Bool}{v:V}{H H':Hp}(h:sR q v H)(s:KT H H'):sR q v H':=let ⟨A,b,e,q1,q2⟩:=h;⟨A,b,e,s _ _ q1,s _ _ q2⟩
theorem zlP{e:Edge}{o:Option Nat}(h:e.w<4):(edgeB e o).w<4:=by
 cases o with
 |none=>exact B4 _ (by decide)
 |some s =>
  show (if s % 2=1 then (⟨go e.c s,(e.w+3) % 4⟩:Edge) else ⟨go e.c s,e.w⟩).w<4
  by_cases q:s % 2=1
  .rw[if_pos q];exact B4 _ (by decide)
  .rw[if_neg q];exact h
noncomputable def seen0(e:Edge)(o:Option Nat):List (Cell×Bool):=[(e.c,true),(gap e,false),((edgeB e o).c,true),(gap (edgeB e o),false)]
noncomputable def seenL(e:Edge)(o:Option Nat):List (Cell×Bool):=(seen0 e o++if slant o=true then [] else [(go e.c ((2*e.w+7) % 8),false)])++if o=none then [(go e.c (2*e.w),false)] else []
theorem ziM(e:Edge)(o:Option Nat):(seenL e o).length<=6:=by unfold seenL seen0;split <;> split <;> simp
noncomputable def ziB(K:W.Frag):Sp:=λvs H Q _=>∃(a:Addr) (e:Edge) (o:Option Nat),vs=[.ref a,sv o]/\H a=some (.tup (edgeT e))/\e.w<4/\(∀s,o=some s->s<8) /\
 ∀p H' ss,H p=none->Same H H'->H' p=some (.lst ss)->VR ss (seenL e o) sR H'->Q (.ref p) H'
theorem zdr (g_edge_behind:Fn P w K mg base 2 "edge_behind" ["edge", "step"] (zeN K)) (g_gap_beside:Fn P w K mg base 2 "gap_beside" ["edge"] (spGap K)) (g_is_slant:Fn P w K mg base 1 "is_slant" ["step"] zcR)
  (g_gone:Fn P w K mg base 1 "gone" ["x","y","step"] zcd) (g_slant_step:Fn P w K mg base 1 "slant_step" ["way"] ziA) (g_straight_step:Fn P w K mg base 1 "straight_step" ["way"] zen)
  (d:Df K mg "seen_between" zbO ["edge","step"]):FnOk P w K mg base CX0 3 d.f d.fd ["edge","step"] (ziB K):=by
 refine d.F.ok zaQ (λvs H Q E h=>?_) (λcdv A outer s H vs Q E hr h=>?_)
 .obtain⟨a,e,o,rfl,_⟩:=h;rfl
 .obtain⟨a,e,o,rfl,ha,hw,ho,k⟩:=h
  refine⟨_,(zac (za2 (pv 0) (zaW (by rfl) (zae (nG 2 zaQ.nd) (zae (nG 3 zaQ.nd) (zae (nG 4 zaQ.nd) zay)))))
   (zac (sE 5 zaQ.nd (pC g_edge_behind hr (pa_N (pv 0) (pa_N (pv 1) zab))))
   (zac (sE 6 zaQ.nd (zaL (pa_T (zao (pa_T (zao (pa_N (pv 2) (pa_N (pv 3) zab))) (pa_C pe_bl zab))) (pa_T (zao (zag (pC g_gap_beside hr (pa_N (pv 0) zab)) (pa_C pe_bl zab))) (pa_T (zao (zag (za9 ziL (pv 5) zbQ (zbi zad)) (pa_C pe_bl zab))) (pa_T (zao (zag (pC g_gap_beside hr (pa_N (pv 5) zab)) (pa_C pe_bl zab))) zab))))))
   (zac (ps_if (zcS (zbV (pC g_is_slant hr (pa_N (pv 1) zab))))
   (zah (zaS (pe_bm AG AX AY zaM (pv 6) (pa_T (zao (zag (pC g_gone hr (pa_N (pv 2) (pa_N (pv 3) (zag (pC g_slant_step hr (pa_N (pv 4) zab)) zab)))) (pa_C pe_bl zab))) zab))))
   zaA)
   (zac (ps_if (zaq zhn (pv 1) zby (zas _))
   (zah (zaS (pe_bm AG AX AY zaM (pv 6) (pa_T (zao (zag (pC g_gone hr (pa_N (pv 2) (pa_N (pv 3) (zag (pC g_straight_step hr (pa_N (pv 4) zab)) zab)))) (pa_C pe_bl zab))) zab))))
   zaA)
   (zah (zal (pv 6)))))))),?_⟩
  have hN:(edgeB e o).w<4:=zlP hw;refine⟨_,rfl,a,_,rfl,SqT.of ha,rfl,_,_,rfl,_,_,rfl,_,_,rfl,rfl,?_⟩;refine⟨_,rfl,_,rfl,a,e,o,rfl,SqT.of ha,hw,ho,λp1 H1 hp1 s1 e1=>?_⟩;change H1 p1=some (.tup (edgeT (edgeB e o))) at e1;refine⟨_,rfl,_,rfl,two,λt1 ht1=>⟨two,λt2 ht2=>?_⟩⟩;have s2:Same H1 (upd (upd H1 t1 (.tup [.int e.c.1,.int e.c.2])) t2 (.tup [.ref t1,.bl true])):=(Same.up ht1).trans (Same.up ht2);have r1:sR (e.c,true) (.ref t2) (upd (upd H1 t1 (.tup [.int e.c.1,.int e.c.2])) t2 (.tup [.ref t1,.bl true])):=⟨t2,t1,rfl,zaa,by rw[zai (λz=>by subst z;rw[zaa]at ht2;cases ht2),zaa];rfl⟩;generalize upd (upd H1 t1 (.tup [.int e.c.1,.int e.c.2])) t2 (.tup [.ref t1,.bl true])=H2 at s2 r1;refine⟨_,rfl,a,e,rfl,SqT.of ((s1.trans s2) _ _ ha),hw,λp3 H3 hp3 s3 e3=>⟨two,λt3 ht3=>?_⟩⟩;have s4:Same H3 (upd H3 t3 (.tup [.ref p3,.bl false])):=Same.up ht3;have r2:sR (gap e,false) (.ref t3) (upd H3 t3 (.tup [.ref p3,.bl false])):=⟨t3,p3,rfl,zaa,s4 _ _ e3⟩;generalize upd H3 t3 (.tup [.ref p3,.bl false])=H4 at s4 r2;have s14:=s2.trans (s3.trans s4);have e14:=s14 _ _ e1;have hs1:HT.sIx 3 3 (some 2)=2:=by decide
  refine⟨_,rfl,_,rfl,p1,_,rfl,SqT.of e14,λhx=>absurd (show (3:Nat)=2 from hx.2.symm.trans hs1) (by decide),λ_ t5 ht5=>⟨two,λt6 ht6=>?_⟩⟩;have ec:cutV (edgeT (edgeB e o)) none (some 2)=cellT (edgeB e o).c:=rfl;have s6:Same H4 (upd (upd H4 t5 (.tup (cutV (edgeT (edgeB e o)) none (some 2)))) t6 (.tup [.ref t5,.bl true])):=(Same.up ht5).trans (Same.up ht6);have r3:sR ((edgeB e o).c,true) (.ref t6) (upd (upd H4 t5 (.tup (cutV (edgeT (edgeB e o)) none (some 2)))) t6 (.tup [.ref t5,.bl true])):=⟨t6,t5,rfl,zaa,by rw[zai (λz=>by subst z;rw[zaa]at ht6;cases ht6),zaa,ec]⟩;generalize upd (upd H4 t5 (.tup (cutV (edgeT (edgeB e o)) none (some 2)))) t6 (.tup [.ref t5,.bl true])=H6 at s6 r3;refine⟨_,rfl,p1,edgeB e o,rfl,SqT.of (s6 _ _ e14),hN,λp7 H7 hp7 s7 e7=>⟨two,λt7 ht7=>?_⟩⟩;have s8:Same H7 (upd H7 t7 (.tup [.ref p7,.bl false])):=Same.up ht7;have r4:sR (gap (edgeB e o),false) (.ref t7) (upd H7 t7 (.tup [.ref p7,.bl false])):=⟨t7,p7,rfl,zaa,s8 _ _ e7⟩;generalize upd H7 t7 (.tup [.ref p7,.bl false])=H8 at s8 r4;refine⟨(by show 4<=sizeLine;decide),λl hl=>?_⟩;have s48:=s6.trans (s7.trans s8);have s28:=s3.trans (s4.trans s48);have s08:=s1.trans (s2.trans s28);have kl:KT H8 (upd H8 l (.lst [.ref t2,.ref t3,.ref t6,.ref t7])):=KT.up hl;have sl:Same H (upd H8 l (.lst [.ref t2,.ref t3,.ref t6,.ref t7])):=s08.trans (Same.up hl);have el:upd H8 l (.lst [.ref t2,.ref t3,.ref t6,.ref t7]) l=some (.lst [.ref t2,.ref t3,.ref t6,.ref t7]):=zaa;have hl0:H l=none:=s08.free hl
  have hv:VR [.ref t2,.ref t3,.ref t6,.ref t7] [(e.c,true),(gap e,false),((edgeB e o).c,true),(gap (edgeB e o),false)] sR (upd H8 l (.lst [.ref t2,.ref t3,.ref t6,.ref t7])) :=
   VR.cons.mpr ⟨(r1.kt (KT.of s28)).kt kl,VR.cons.mpr ⟨(r2.kt (KT.of s48)).kt kl,VR.cons.mpr ⟨(r3.kt (KT.of (s7.trans s8))).kt kl,VR.cons.mpr ⟨r4.kt kl,VR.nil⟩⟩⟩⟩
  generalize upd H8 l (.lst [.ref t2,.ref t3,.ref t6,.ref t7])=H9 at kl sl el hv;rcases o with _ |z
  rotate_left
  by_cases hz:slant (some z)=true
  .refine⟨_,rfl,some z,rfl,_,rfl,?_⟩;rw[hz];refine iteF ?_
   refine⟨_,rfl,rfl,_,rfl,iteF ?_⟩;refine⟨_,rfl,k l H9 _ hl0 sl el ?_⟩;unfold seenL;rw[if_pos hz,if_neg (λq=>nomatch q),AE,AE];exact hv
  .have hz:=BX.mpr hz;refine⟨_,rfl,some z,rfl,_,rfl,?_⟩;rw[hz];refine iteT ?_
   refine⟨_,rfl,.inl ⟨rfl,_,SqL.of el⟩,_,rfl,_,rfl,_,rfl,e.w,rfl,hw,e.c,(2*e.w+7) % 8,rfl,B4 _ (by decide),λp10 H10 hp10 s10 e10=>⟨two,λt11 ht11=>?_⟩⟩;have s11:Same H10 (upd H10 t11 (.tup [.ref p10,.bl false])):=Same.up ht11;have r5:sR (go e.c ((2*e.w+7) % 8),false) (.ref t11) (upd H10 t11 (.tup [.ref p10,.bl false])):=⟨t11,p10,rfl,zaa,s11 _ _ e10⟩;generalize upd H10 t11 (.tup [.ref p10,.bl false])=H11 at s11 r5;have el11:=(s10.trans s11) _ _ el;refine⟨l,_,_,rfl,rfl,el11,zbf (by show 4<=5000;decide),?_⟩;have kt12:KT H11 (upd H11 l (.lst ([.ref t2,.ref t3,.ref t6,.ref t7]++[.ref t11]))):=KT.lst el11;have s12:Same H (upd H11 l (.lst ([.ref t2,.ref t3,.ref t6,.ref t7]++[.ref t11]))):=zax hl0 (sl.trans (s10.trans s11));have e12:upd H11 l (.lst ([.ref t2,.ref t3,.ref t6,.ref t7]++[.ref t11])) l=some (.lst ([.ref t2,.ref t3,.ref t6,.ref t7]++[.ref t11])):=zaa;have hv12:=hv.snoc (λx v h=>(h.kt (KT.of (s10.trans s11))).kt kt12) (r5.kt kt12);generalize upd H11 l (.lst ([.ref t2,.ref t3,.ref t6,.ref t7]++[.ref t11]))=H12 at kt12 s12 e12 hv12;refine⟨_,rfl,rfl,_,rfl,iteF ?_⟩;refine⟨_,rfl,k l H12 _ hl0 s12 e12 ?_⟩;unfold seenL;rw[if_neg (by rw[hz];decide),if_neg (λq=>nomatch q),AE];exact hv12
  .refine⟨_,rfl,none,rfl,_,rfl,iteT ?_⟩;refine⟨_,rfl,.inl ⟨rfl,_,SqL.of el⟩,_,rfl,_,rfl,_,rfl,e.w,rfl,hw,e.c,(2*e.w+7) % 8,rfl,B4 _ (by decide),λp10 H10 hp10 s10 e10=>⟨two,λt11 ht11=>?_⟩⟩;have s11:Same H10 (upd H10 t11 (.tup [.ref p10,.bl false])):=Same.up ht11;have r5:sR (go e.c ((2*e.w+7) % 8),false) (.ref t11) (upd H10 t11 (.tup [.ref p10,.bl false])):=⟨t11,p10,rfl,zaa,s11 _ _ e10⟩;generalize upd H10 t11 (.tup [.ref p10,.bl false])=H11 at s11 r5;have el11:=(s10.trans s11) _ _ el;refine⟨l,_,_,rfl,rfl,el11,zbf (by show 4<=5000;decide),?_⟩;have kt12:KT H11 (upd H11 l (.lst ([.ref t2,.ref t3,.ref t6,.ref t7]++[.ref t11]))):=KT.lst el11;have s12:Same H (upd H11 l (.lst ([.ref t2,.ref t3,.ref t6,.ref t7]++[.ref t11]))):=zax hl0 (sl.trans (s10.trans s11));have e12:upd H11 l (.lst ([.ref t2,.ref t3,.ref t6,.ref t7]++[.ref t11])) l=some (.lst ([.ref t2,.ref t3,.ref t6,.ref t7]++[.ref t11])):=zaa;have hv12:=hv.snoc (λx v h=>(h.kt (KT.of (s10.trans s11))).kt kt12) (r5.kt kt12);generalize upd H11 l (.lst ([.ref t2,.ref t3,.ref t6,.ref t7]++[.ref t11]))=H12 at kt12 s12 e12 hv12;refine⟨_,rfl,rfl,_,rfl,iteT ?_⟩;refine⟨_,rfl,.inl ⟨rfl,_,SqL.of e12⟩,_,rfl,_,rfl,_,rfl,e.w,rfl,hw,e.c,2*e.w,rfl,by lia,λp13 H13 hp13 s13 e13=>⟨two,λt14 ht14=>?_⟩⟩;have s14':Same H13 (upd H13 t14 (.tup [.ref p13,.bl false])):=Same.up ht14;have r6:sR (go e.c (2*e.w),false) (.ref t14) (upd H13 t14 (.tup [.ref p13,.bl false])):=⟨t14,p13,rfl,zaa,s14' _ _ e13⟩;generalize upd H13 t14 (.tup [.ref p13,.bl false])=H14 at s14' r6;have e14':=(s13.trans s14') _ _ e12;refine⟨l,_,_,rfl,rfl,e14',zbf (by show 5<=5000;decide),?_⟩;have kt15:KT H14 (upd H14 l (.lst (([.ref t2,.ref t3,.ref t6,.ref t7]++[.ref t11])++[.ref t14]))):=KT.lst e14';have s15:Same H (upd H14 l (.lst (([.ref t2,.ref t3,.ref t6,.ref t7]++[.ref t11])++[.ref t14]))):=zax hl0 (s12.trans (s13.trans s14'));have e15:upd H14 l (.lst (([.ref t2,.ref t3,.ref t6,.ref t7]++[.ref t11])++[.ref t14])) l=some (.lst (([.ref t2,.ref t3,.ref t6,.ref t7]++[.ref t11])++[.ref t14])):=zaa;have hv15:=hv12.snoc (λx v h=>(h.kt (KT.of (s13.trans s14'))).kt kt15) (r6.kt kt15);refine⟨_,rfl,k l _ _ hl0 s15 e15 ?_⟩;unfold seenL;rw[if_neg (by decide),if_pos rfl];exact hv15
noncomputable def obs(W:Wk):List (Cell×Bool):=W.flatMap λq=>seenL q.1 q.2
noncomputable def Con(L:List (Cell×Bool)):Prop:=∃c,(c,true)∈L/\(c,false)∈L
noncomputable def nSt(W:Wk):Nat:=(W.filterMap (·.2)).length
theorem zho{W:Wk}{i:Nat}{q:Edge×Option Nat}(h:W[i]?=some q):obs (W.take (i+1))=obs (W.take i)++seenL q.1 q.2:=by rw[zaN h];unfold obs;rw[List.flatMap_append];simp
theorem zkh{W:Wk}{i:Nat}{q:Edge×Option Nat}(h:W[i]?=some q):nSt (W.take (i+1))=nSt (W.take i)+if q.2.isSome then 1 else 0:=by
 rw[zaN h];unfold nSt;rw[Do,Af]
 cases hq:q.2 <;> simp[hq]
theorem Con.mono{L M:List (Cell×Bool)}(h:Con L)(s:∀q∈L,q∈M):Con M:=let ⟨c,a,b⟩:=h;⟨c,s _ a,s _ b⟩
noncomputable def Kn(kvs:List (List Key×V))(L:List (Cell×Bool)):Prop:=∀c v,valV kvs (kC c)=some v ↔ ∃b,v=.bl b/\(c,b)∈L
noncomputable def zd6(W:Wk):Prop:=∀q∈W,q.1.w<4/\∀s,q.2=some s->s<8
noncomputable def ziF(K:W.Frag):Sp:=λvs H Q _=>∃(a:Addr) (W:Wk),vs=[.ref a]/\LR K H a W wR/\zd6 W/\W.length<=2000 /\
 (∀(i:Nat) H',i<W.length->Con (obs (W.take (i+1)))->¬ Con (obs (W.take i))->Same H H'->Q (.int ((nSt (W.take i):Nat):Int)) H')/\(∀H',¬ Con (obs W)->Same H H'->Q .non H')
theorem zdR (g_seen_between:Fn P w K mg base 3 "seen_between" ["edge","step"] (ziB K)) (d:Df K mg "gainsaid_at" zb0 ["walk"]):FnOk P w K mg base CX0 4 d.f d.fd ["walk"] (ziF K):=by
 refine d.F.ok zaI (λvs H Q E h=>?_) (λcdv A outer s H vs Q E hr h=>?_)
 .obtain⟨a,W,rfl,_⟩:=h;rfl
 .obtain⟨a,W,rfl,hLR,hok,hlen,kc,kn⟩:=h;have hu1:=hu_of hr
  refine⟨_,(zac (sE 1 zaI.nd zdv)
   (zac (sE 2 zaI.nd zad)
   (zac (zca BF rfl (zbx (pv 0)) (zaW (by rfl) (zae (nG 3 zaI.nd) (zae (nG 4 zaI.nd) zay)))
   (zac (zca BF rfl (zbx (pC g_seen_between hr (pa_N (pv 3) (pa_N (pv 4) zab)))) (zaW (by rfl) (zae (nG 5 zaI.nd) (zae (nG 6 zaI.nd) zay)))
   (zah (ps_if (zaq op_ne (zhi hu1 (pv 1) (pv 5) (pv 6) ⟨rfl,rfl,rfl,rfl⟩) (pv 6) (zas _))
   (zah (zal (pv 2)))
   zaA)))
   (zah (ps_if (zaq zdP (pv 4) zby (zas _))
   (zah (zmn (i:=2) zaI.nd (by rfl) (Or.inl rfl) zad zmG))
   zaA))))
   (zah (zal zby))))),?_⟩
  obtain⟨ws,hq,hv⟩:=hLR.vr;have hwl:ws.length=W.length:=hv.1;refine λdd hdd=>?_
  have s0:Same H (upd H dd (.dT [])):=Same.up hdd;have d0:upd H dd (.dT []) dd=some (.dT []):=zaa;generalize upd H dd (.dT [])=H0 at s0 d0;refine⟨_,rfl,a,rfl,⟨_,s0.seq hq⟩,?_⟩
  refine zba (K:=K) (a:=a) (xs:=ws) (λi σ H1=>∃(o3 o4 o5 o6:Option V) (kvs:List (List Key×V)),σ=[some (.ref a),some (.ref dd),some (.int ((nSt (W.take i):Nat):Int)),o3,o4,o5,o6]/\Same H H1/\H1 dd=some (.dT kvs)/\Kn kvs (obs (W.take i))/\¬ Con (obs (W.take i))/\kvs.length<=6*i)
   ⟨_,_,_,_,[],rfl,s0,d0,(λc v=>⟨(λh=>by cases h),(λ⟨_,_,h⟩=>by cases h)⟩),(λ⟨_,h,_⟩=>by cases h),A6 _⟩ (λi σ H1 _ ⟨_,_,_,_,_,_,s1,_⟩=>s1.seq hq) ?_ ?_
  .rintro i v σ H1 hi ⟨o3,o4,o5,o6,kvs,rfl,s1,d1,hk,hnc,hkl⟩;obtain⟨⟨e,st⟩,he,B,b,rfl,q1,q2⟩:=hv.at hi;have hi':i<W.length:=by rw[<- hwl];exact (Ad.mp hi).1
   have hEe:=hok _ (Aw he);refine⟨B,_,rfl,SqT.of (s1 _ _ q1),rfl,_,_,rfl,_,_,rfl,rfl,?_⟩;refine⟨_,rfl,_,rfl,b,e,st,rfl,s1 _ _ q2,hEe.1,hEe.2,λp H2 ss hp s2 e2 hs2=>?_⟩;have hpd:p≠dd:=λz=>by subst z;rw[d1]at hp;cases hp
   have d2:=s2 _ _ d1;have hL6:=ziM e st;refine⟨p,rfl,⟨_,SqL.of e2⟩,?_⟩
   refine zba (K:=K) (a:=p) (xs:=ss) (λj σ H3=>∃(o5 o6:Option V) (kv3:List (List Key×V)),σ=[some (.ref a),some (.ref dd),some (.int ((nSt (W.take i):Nat):Int)),some (.ref b),some (sv st),o5,o6]/\(∀z o,z≠dd->H2 z=some o->H3 z=some o)/\H3 dd=some (.dT kv3)/\Kn kv3 (obs (W.take i)++(seenL e st).take j)/\¬ Con (obs (W.take i)++(seenL e st).take j)/\kv3.length<=6*i+j)
    ⟨_,_,kvs,rfl,(λz o _ h=>h),d2,by rw[Dy,AE];exact hk,by rw[Dy,AE];exact hnc,by lia⟩ (λj σ H3 _ ⟨_,_,_,_,k3,_⟩=>SqL.of (k3 _ _ hpd e2)) ?_ ?_
   .rintro j u σ H3 hj ⟨o5,o6,kv3,rfl,k3,d3,hk3,hn3,hl3⟩;obtain⟨⟨c,t⟩,hq',A2,b2,rfl,r1,r2⟩:=hs2.at hj;have hjl:j<(seenL e st).length:=by rw[<- hs2.1];exact (Ad.mp hj).1
    have nA:A2≠dd:=ne_of r1 d2 (λz=>nomatch z);have nb:b2≠dd:=ne_of r2 d2 (λz=>nomatch z);have hsn:(seenL e st).take (j+1)=(seenL e st).take j++[(c,t)]:=zaN hq';have hob:obs (W.take (i+1))=obs (W.take i)++seenL e st:=zho he;rw[hsn,<- AA];refine⟨A2,_,rfl,SqT.of (k3 _ _ nA r1),rfl,_,_,rfl,_,_,rfl,rfl,?_⟩;refine⟨_,rfl,dd,rfl,.inr ⟨_,Rd.of d3⟩,_,rfl,_,rfl,kv3,kC c,b2,d3,rfl,k3 _ _ nb r2,B7 (show kv3.length<=14000 by lia) (by decide),λv hv'=>?_,λhn=>?_⟩
    .obtain⟨bb,rfl,hm⟩:=(hk3 c v).mp hv'
     by_cases hbt:bb=t
     .subst hbt;refine⟨_,rfl,rfl,_,rfl,iteN (by simp) ?_⟩
      have hm':∀q,q∈(obs (W.take i)++(seenL e st).take j)++[(c,bb)] ↔ q∈obs (W.take i)++(seenL e st).take j:=λq=>by rw[Ap,Ak];exact⟨λh=>h.elim id λh=>h ▸ hm,.inl⟩
      exact⟨_,_,kv3,rfl,k3,d3,λc' v'=>by rw[hk3 c' v'];simp only[hm'],λhc=>hn3 (hc.mono λq=>(hm' q).mp),by lia⟩
     .refine⟨_,rfl,rfl,_,rfl,iteY (by simp[hbt]) ?_⟩;have s3:Same H H3:=λz o h=>k3 z o (zaj h hdd) (s2 _ _ (s1 _ _ h))
      refine⟨_,rfl,kc i H3 hi' ?_ hnc s3⟩;rw[hob]
      have m1:(c,bb)∈obs (W.take i)++seenL e st:=by
       rcases Ap.mp hm with m |m
       .exact Bl _ m
       .exact An _ (Bp m)
      have m2:(c,t)∈obs (W.take i)++seenL e st:=An _ (Aw hq')
      cases bb <;> cases t
      .exact absurd rfl hbt
      .exact⟨c,m2,m1⟩
      .exact⟨c,m1,m2⟩
      .exact absurd rfl hbt
    .refine⟨_,rfl,rfl,_,rfl,iteN (by simp) ?_⟩
     have hno:∀bb,(c,bb) ∉ obs (W.take i)++(seenL e st).take j:=λbb hm=>by
      rw[(hk3 c (.bl bb)).mpr ⟨bb,rfl,hm⟩]at hn
      cases hn
     refine⟨_,_,putK kv3 (kC c) (.bl t),rfl,(λz o hz h=>by rw[zai hz];exact k3 z o hz h),zaa,(λc' v'=>?_),(λ⟨c',h1,h2⟩=>?_),AN (zbq _ _ _) (by lia)⟩
     .rw[zeI]
      by_cases ec:c'=c
      .subst ec;rw[if_pos rfl];constructor
       .intro h;cases h;exact⟨t,rfl,An _ (by simp)⟩
       .rintro⟨bb,rfl,hm⟩;rcases Ap.mp hm with m |m
        .exact absurd m (hno bb)
        .rw[Ak]at m;cases m;rfl
      .rw[if_neg (λz=>ec (zhy.mp z)),hk3 c' v'];constructor
       .rintro⟨bb,rfl,hm⟩;exact⟨bb,rfl,Bl _ hm⟩
       .rintro⟨bb,rfl,hm⟩;rcases Ap.mp hm with m |m
        .exact⟨bb,rfl,m⟩
        .rw[Ak]at m;cases m;exact absurd rfl ec
     .rcases Ap.mp h1 with m |m <;> rcases Ap.mp h2 with m' |m'
      .exact hn3 ⟨c',m,m'⟩
      .rw[Ak]at m';cases m';exact hno _ m
      .rw[Ak]at m;cases m;exact hno _ m'
      .rw[Ak]at m m';cases m;cases m'
   .rintro σ H3 ⟨o5,o6,kv3,rfl,k3,d3,hk3,hn3,hl3⟩;have s3:Same H H3:=λz o h=>k3 z o (zaj h hdd) (s2 _ _ (s1 _ _ h))
    have hsl:=hs2.1;have hl4:kv3.length<=6*(i+1):=by lia
    have hob:obs (W.take (i+1))=obs (W.take i)++(seenL e st).take ss.length:=by rw[hsl,A4];exact zho he
    rw[<- hob]at hk3 hn3;have hns:=zkh he
    cases st with
    |none =>
     refine⟨_,rfl,rfl,_,rfl,iteF ?_⟩;have hns':nSt (W.take (i+1))=nSt (W.take i):=hns;exact⟨_,_,_,_,kv3,by rw[hns'],s3,d3,hk3,hn3,hl4⟩
    |some z =>
     refine⟨_,rfl,rfl,_,rfl,iteT ?_⟩;refine⟨_,rfl,_,_,rfl,rfl,?_⟩;have hns':nSt (W.take (i+1))=nSt (W.take i)+1:=hns;exact⟨_,_,_,_,kv3,by rw[hns'];rfl,s3,d3,hk3,hn3,hl4⟩
  .rintro σ H1 ⟨o3,o4,o5,o6,kvs,rfl,s1,d1,hk,hnc,hkl⟩;rw[hwl,A4]at hnc;exact kn H1 hnc s1
theorem zcA{α:Type}{xs:List α}(h:0<xs.length):atI xs (-1)=xs[xs.length-1]?:=by unfold atI ixN;rw[if_neg (by decide),if_pos (by lia)];show xs[((-1:Int)+xs.length).toNat]?=_;rw[show ((-1:Int)+xs.length).toNat=xs.length-1 by lia]
theorem zin(s:Nat):wayB s<4:=B4 _ (by decide)
theorem zf2(w:Nat)(row:List Nat):(deeds w row).length<=4*row.length+4:=by
 unfold deeds zar;rw[Af,Bs];have:=zdg row w;split
 .lia
 .have:(w+4-(dgo w row).2) % 4<4:=B4 _ (by decide);lia
theorem zhG:∀(row:List Nat) (w s:Nat),some s∈(dgo w row).1->s∈row
 |[],_,_,h=>by cases h
 |t::r,w,s,h=>by
  have h:some s∈Ae ((zaD t+4-w) % 4) none++some t::(dgo (wayB t) r).1:=h;rcases Ap.mp h with m |m
  .have:=(List.mem_replicate.mp m).2;cases this
  .rcases At.mp m with m |m
   .cases m;exact .head _
   .exact .tail _ (zhG r _ s m)
theorem zia{w s:Nat}{row:List Nat}(h:some s∈deeds w row):s∈row:=by
 unfold deeds at h;rcases Ap.mp h with m |m
 .exact zhG row w s m
 .have:=(List.mem_replicate.mp m).2;cases this
theorem zbY(w:Nat)(row:List Nat):0<(deeds w row).length:=by
 cases row with
 |nil=>show 0<(Ae 4 (none:Option Nat)).length;decide
 |cons s r =>
  unfold deeds;show 0<((Ae ((zaD s+4-w) % 4) none++some s::(dgo (wayB s) r).1)++_).length;simp only[Af,Be];lia
noncomputable def rw_(r:Rnd):Wk:=wby (begE r) (deeds (begE r).w r.row)
theorem zkL:∀(l:List (Option Nat)){e:Edge},e.w<4->(∀s,some s∈l->s<8)->zd6 (wby e l)
 |[],_,_,_=>λ_ h=>by cases h
 |d::l,e,he,hl=>λq h=>by
  rcases At.mp h with rfl |h
  .exact⟨he,λs hs=>hl s (by rw[<- hs];exact .head _)⟩
  .exact zkL l (zdz he) (λs hs=>hl s (.tail _ hs)) q h
theorem zcu(r:Rnd):(begE r).w<4:=by show kOf r.so<4;unfold kOf;split <;> decide
theorem zeH:∀(l:List (Option Nat)) (e:Edge),0<l.length->∃d,(wby e l)[0]?=some (e,d)
 |[],_,h=>absurd h (by simp)
 |d::l,e,_=>⟨d,rfl⟩
theorem vint(a b:Int):decide (V.int a=V.int b)=decide (a=b):=decide_eq_decide.mpr ⟨V.int.inj,congrArg V.int⟩
noncomputable def moreL (s:Str):Int:=if s = "rim" then 4 else -4
noncomputable def Fine(r:Rnd):Prop:=(∀f l,(rw_ r)[0]?=some f->(rw_ r)[(rw_ r).length-1]?=some l->edgeB l.1 l.2=f.1)/\(nL (rw_ r):Int)-nS (rw_ r)=moreL r.so/\zbL (rw_ r) r.so (begE r)
noncomputable def Due(r:Rnd)(n:Nat):Prop:=(∃i,i<(rw_ r).length/\Con (obs ((rw_ r).take (i+1)))/\¬ Con (obs ((rw_ r).take i))/\n=nSt ((rw_ r).take i))∨(¬ Con (obs (rw_ r))/\¬ Fine r/\n=r.row.length)
noncomputable def Good(r:Rnd):Prop:=¬ Con (obs (rw_ r))/\Fine r
noncomputable def zg8(K:W.Frag):Sp:=λvs H Q _=>∃(a:Addr) (W:Wk) (f l:Edge×Option Nat),vs=[.ref a]/\LR K H a W wR/\zd6 W/\W[0]?=some f/\W[W.length-1]?=some l/\∀H',Same H H'->Q (.bl (decide (eI (edgeB l.1 l.2)=eI f.1))) H'
theorem zee (g_edge_behind:Fn P w K mg base 2 "edge_behind" ["edge","step"] (zeN K)) (d:Df K mg "comes_back" zcj ["walk"]):FnOk P w K mg base CX0 3 d.f d.fd ["walk"] (zg8 K):=by
 refine d.F.ok zbZ (λvs H Q E h=>?_) (λcdv A outer s H vs Q E hr h=>?_)
 .obtain⟨a,W,f,l,rfl,_⟩:=h;rfl
 .obtain⟨a,W,f,l,rfl,hLR,hok,hf,hl,k⟩:=h;have hu64:=hr.units
  refine⟨_,(zac (za2 (pe_ix zaB (pv 0) (pe_un zbC zad) (λ_ _=>rfl)) (zaW (by rfl) (zae (nG 1 zbZ.nd) (zae (nG 2 zbZ.nd) zay))))
   (zah (zal (zbG (zk1 hu64) (pC g_edge_behind hr (pa_N (pv 1) (pa_N (pv 2) zab))) (pe_ix zbw (pe_ix zaB (pv 0) zad (λ_ _=>rfl)) zad (λ_ _=>rfl)) (zas _))))),?_⟩
  obtain⟨ws,hq,hv⟩:=hLR.vr;have hwl:ws.length=W.length:=hv.1;have hp:0<W.length:=(Ad.mp hf).1;obtain⟨v1,hv1⟩:∃v,ws[ws.length-1]?=some v:=⟨_,Ab (by lia)⟩;obtain⟨⟨e1,st1⟩,he1,B1,b1,rfl,q1,q2⟩:=hv.at hv1;obtain⟨v0,hv0⟩:∃v,ws[0]?=some v:=⟨_,Ab (by lia)⟩;obtain⟨⟨e0,st0⟩,he0,B0,b0,rfl,r1,r2⟩:=hv.at hv0;rw[hwl,hl]at he1
  cases he1
  rw[hf]at he0
  cases he0
  have hEl:=hok _ (Aw hl);refine⟨_,rfl,_,rfl,a,ws,_,_,rfl,rfl,hq,(zcA (by lia)).trans hv1,?_⟩;refine⟨B1,_,rfl,SqT.of q1,rfl,_,_,rfl,_,_,rfl,rfl,?_⟩;refine⟨_,rfl,_,rfl,b1,e1,st1,rfl,SqT.of q2,hEl.1,hEl.2,λp H1 hp1 s1 f1=>?_⟩;refine⟨_,rfl,a,ws,_,_,rfl,rfl,s1.seq hq,(zaz (j:=0) hv0),B0,_,_,_,rfl,rfl,SqT.of (s1 _ _ r1),zaz (j:=0) rfl,?_⟩;refine⟨_,_,zco f1,zco (s1 _ _ r2),zaV _,zaV _,?_⟩;rw[zez];exact k H1 s1
noncomputable def zdD (K:W.Frag):Sp:=λvs H Q _=>∃(a:Addr) (W:Wk) (f l:Edge×Option Nat) (so:Str),vs=[.ref a,.str so]/\(so = "rim" ∨ so = "hole")/\LR K H a W wR/\zd6 W/\W.length<=2000/\W[0]?=some f/\W[W.length-1]?=some l /\
 ∀H',Same H H'->Q (.bl (decide (eI (edgeB l.1 l.2)=eI f.1) && decide ((nL W:Int)-nS W=moreL so))) H'
theorem ze4 (T:Txt P w K mg) (g_comes_back:Fn P w K mg base 3 "comes_back" ["walk"] (zg8 K)) (g_lefts_less_slants:Fn P w K mg base 3 "lefts_less_slants" ["walk"] (zkR K)) (d:Df K mg "is_closed" zcH ["walk","sort"]):FnOk P w K mg base CX0 4 d.f d.fd ["walk","sort"] (zdD K):=by
 refine d.F.ok zfA (λvs H Q E h=>?_) (λcdv A outer s H vs Q E hr h=>?_)
 .obtain⟨a,W,f,l,so,rfl,_⟩:=h;rfl
 .obtain⟨a,W,f,l,so,rfl,hso,hLR,hok,hlen,hf,hl,k⟩:=h;refine⟨_,(zah (zal (zcb (pC g_comes_back hr (pa_N (pv 0) zab)) (zcU (zbG op_eq (pC g_lefts_less_slants hr (pa_N (pv 0) zab)) (zmp (by rfl) T.more (pv 1)) (zas _)))))),?_⟩;refine⟨_,rfl,a,W,f,l,rfl,hLR,hok,hf,hl,λH1 s1=>⟨_,rfl,?_⟩⟩
  by_cases hc:eI (edgeB l.1 l.2)=eI f.1
  .rw[decide_eq_true hc]at k ⊢;refine iteT ?_
   refine⟨_,rfl,a,W,rfl,hLR.same s1 (λx v h=>h.same s1),hlen,λH2 s2=>⟨_,rfl,?_⟩⟩;have kk:=k H2 (s1.trans s2);rw[BI]at kk;rcases hso with rfl |rfl
   .exact .inl ⟨rfl,rfl,by show Q _ H2;rw[vint];exact kk⟩
   .exact .inr ⟨rfl,rfl,by show Q _ H2;rw[vint];exact kk⟩
  .rw[decide_eq_false hc]at k ⊢;exact iteF (k H1 s1)
noncomputable def atO (n:Nat) (d:Addr):HO:=xdO d [("at",.int (n:Int))]
noncomputable def ziy (K:W.Frag) (cN:Addr):Sp:=λvs H Q E=>∃(v:V) (r:Rnd),vs=[v]/\rR r v H/\(r.so = "rim" ∨ r.so = "hole")/\r.row.length<=490/\(∀s∈r.row,s<8) /\
 (∀n d H',Due r n->Same H H'->H' d=none->E (.ref cN) (some d) (upd H' d (atO n d)))/\(∀p H' ws,Good r->H p=none->Same H H'->H' p=some (.lst ws)->VR ws (rw_ r) wR H'->Q (.ref p) H')
theorem zgw (T:Txt P w K mg){cN:Addr}(g_NoRound:ExA P w K mg base "NoRound" cN ["at"]) (g_begin_edge:Fn P w K mg base 1 "begin_edge" ["one"] zfy) (g_walk_along:Fn P w K mg base 4 "walk_along" ["begin", "row"] (zdC K)) (g_gainsaid_at:Fn P w K mg base 4 "gainsaid_at" ["walk"] (ziF K))
  (g_is_closed:Fn P w K mg base 4 "is_closed" ["walk","sort"] (zdD K)) (g_begin_of:Fn P w K mg base 3 "begin_of" ["walk","sort"] (ziJ K)) (d:Df K mg "walk_of" zdI ["one"]):FnOk P w K mg base (CX1 P w) 5 d.f d.fd ["one"] (ziy K cN):=by
 refine d.F.okX zbg (λvs H Q E h=>?_) (λcdv A outer s H vs Q E hr h=>?_)
 .obtain⟨v,r,rfl,_⟩:=h;rfl
 .obtain⟨v,r,rfl,hv,so2,hrl,hr8,kd,kg⟩:=h;have hu64:=hr.units
  refine⟨_,(zac (PS.nox (za2 (pv 0) (zaW (by rfl) (zae (nG 1 zbg.nd) (zae (nG 2 zbg.nd) (zae (nG 3 zbg.nd) (zae (nG 4 zbg.nd) zay)))))))
   (zac (PS.nox (sE 5 zbg.nd (pC g_begin_edge hr (pa_N (pv 0) zab))))
   (zac (PS.nox (sE 6 zbg.nd (pC g_walk_along hr (pa_N (pv 5) (pa_N (pv 4) zab)))))
   (zac (PS.nox (sE 7 zbg.nd (pC g_gainsaid_at hr (pa_N (pv 6) zab))))
   (zac (ps_if (PT.nox (zaq zdP (pv 7) zby (zas _))) (zah (zfD g_NoRound hr (pa_N (pv 7) zab))) zaA)
   (zac (ps_if (PT.nox (pw_or (zcS (zbV (pC g_is_closed hr (pa_N (pv 6) (pa_N (pv 1) zab))))) (zdL (zaq (zhm hu64) (pC g_begin_of hr (pa_N (pv 6) (pa_N (pv 1) zab))) (pv 5) (zas _)))).pt) (zah (zfD g_NoRound hr (zag (zan zap (by rfl) T.nlen (by rfl) (pa_N (pv 4) zab)) zab))) zaA)
   (zah (PS.nox (zal (pv 6)))))))))),?_⟩
  obtain⟨a,b,rfl,q1,q2⟩:=id hv;have hd8:∀z,some z∈deeds (begE r).w r.row->z<8:=λz hz=>hr8 z (zia hz)
  have hlen:(rw_ r).length<=2000:=by have:=zf2 (begE r).w r.row;unfold rw_;rw[zbe];lia
  have hpos:0<(rw_ r).length:=by unfold rw_;rw[zbe];exact zbY _ _
  have hok:zd6 (rw_ r):=zkL _ (zcu r) hd8;obtain⟨f2,hf⟩:∃f2,(rw_ r)[0]?=some (begE r,f2):=zeH _ _ (zbY _ _);obtain⟨l,hl⟩:∃l,(rw_ r)[(rw_ r).length-1]?=some l:=⟨_,Ab (by lia)⟩;refine⟨_,rfl,a,_,rfl,SqT.of q1,rfl,_,_,rfl,_,_,rfl,_,_,rfl,_,_,rfl,rfl,?_⟩;refine⟨_,rfl,.ref a,r,rfl,hv,so2,λp1 H1 hp1 s1 e1=>?_⟩;refine⟨_,rfl,_,rfl,p1,b,begE r,r.row,rfl,e1,zcu r,SqT.of (s1 _ _ q2),by lia,hd8,λp H2 ws hp s2 e2 hw=>?_⟩;have lr:LR K H2 p (rw_ r) wR:=LR.of e2 hw;refine⟨_,rfl,p,rw_ r,rfl,lr,hok,hlen,λi H3 hi hc hn s3=>?_,λH3 hn s3=>?_⟩
  .refine⟨_,rfl,rfl,_,rfl,iteT ?_⟩;refine⟨_,rfl,rfl,λdx hdx=>kd _ dx H3 (.inl ⟨i,hi,hc,hn,rfl⟩) (s1.trans (s2.trans s3)) hdx⟩
  .refine⟨_,rfl,rfl,_,rfl,iteF ?_⟩;have lr3:=lr.same s3 (λx v h=>h.same s3);have rowT:∀H',Same H3 H'->SqT K H' b (rowV r.row):=λH' s=>SqT.of ((s1.trans (s2.trans (s3.trans s))) _ _ q2)
   refine⟨_,rfl,_,rfl,p,rw_ r,(begE r,f2),l,r.so,rfl,so2,lr3,hok,hlen,hf,hl,λH4 s4=>⟨_,rfl,?_⟩⟩;have lr4:=lr3.same s4 (λx v h=>h.same s4);have hrv:(rowV r.row).length=r.row.length:=Ai ..
   have kr:∀H',¬ Fine r->Same H3 H'->∀dx,H' dx=none->E (.ref cN) (some dx) (upd H' dx (atO (rowV r.row).length dx)):=λH' hnf s dx hdx=>by rw[hrv];exact kd _ dx H' (.inr ⟨hn,hnf,rfl⟩) (s1.trans (s2.trans (s3.trans s))) hdx
   cases hb:(decide (eI (edgeB l.1 l.2)=eI (begE r)) && decide ((nL (rw_ r):Int)-nS (rw_ r)=moreL r.so)) with
   |false =>
    refine iteT (iteT ?_);refine⟨_,rfl,b,_,rfl,.inr (rowT _ s4),rfl,λdx hdx=>kr H4 (λ⟨h1,h2,_⟩=>?_) s4 dx hdx⟩;have h1:=h1 _ _ hf hl;simp only at h1;rw[h1,decide_eq_true rfl,decide_eq_true h2]at hb
    cases hb
   |true =>
    refine iteF ?_
    refine⟨_,rfl,_,rfl,p,rw_ r,r.so,rfl,so2,lr4,hlen,⟨begE r,Bd.mpr ⟨_,Aw hf,rfl⟩,rfl⟩,λb5 e5 H5 s5 f5 ib=>?_⟩;have s25:=s3.trans (s4.trans s5);refine⟨_,rfl,_,_,zco f5,zco ((s2.trans s25) _ _ e1),zaV _,zaV _,_,rfl,?_⟩;rw[zez]
    by_cases hee:e5=begE r
    .subst hee;refine iteN (by rw[decide_eq_true rfl];rfl) ?_
     refine⟨_,rfl,kg p H5 ws ⟨hn,?_⟩ (s1.free hp) (s1.trans (s2.trans s25)) (s25 _ _ e2) (hw.mono λx v h=>h.same s25)⟩;rw[A3]at hb;refine⟨λf l' h1 h2=>?_,of_decide_eq_true hb.2,ib⟩;rw[hf]at h1;rw[hl]at h2
     cases h1
     cases h2
     exact zeA.mp (of_decide_eq_true hb.1)
    .refine iteY (by rw[decide_eq_false (λz=>hee (zeA.mp z))];rfl) ?_
     exact⟨_,rfl,b,_,rfl,.inr (rowT _ (s4.trans s5)),rfl,λdx hdx=>kr H5 (λ⟨_,_,h3⟩=>hee (ib.one (List.Perm.refl _) h3)) (s4.trans s5) dx hdx⟩
mutual
inductive DD (H:Hp):V->PyData->Prop where
 |non:DD H .non .none
 |bl (b:Bool):DD H (.bl b) (.bool b)
 |int (i:Int):DD H (.int i) (.int i)
 |str (x:Str):DD H (.str x) (.str x)
 |lst {a:Addr} {xs:List V} {ds:List PyData}:H a=some (.lst xs)->DDs H xs ds->DD H (.ref a) (.list ds)
 |tup {a:Addr} {xs:List V} {ds:List PyData}:H a=some (.tup xs)->DDs H xs ds->DD H (.ref a) (.tuple ds)
inductive DDs (H:Hp):List V->List PyData->Prop where
 |nil:DDs H [] []
 |cons {x:V} {xs:List V} {d:PyData} {ds:List PyData}:DD H x d->DDs H xs ds->DDs H (x::xs) (d::ds)
end
mutual
theorem DD.rd{K:W.Frag}{H:Hp}:∀{v:V}{d:PyData},DD H v d->RD K H v d
 |_,_,.non=>.non
 |_,_,.bl b=>.bl b
 |_,_,.int i=>.int i
 |_,_,.str x=>.str x
 |_,_,.lst e h=>.lst (SqL.of e) h.rds
 |_,_,.tup e h=>.tup (SqT.of e) h.rds
theorem DDs.rds{K:W.Frag}{H:Hp}:∀{vs:List V}{ds:List PyData},DDs H vs ds->RDs K H vs ds
 |_,_,.nil=>.nil
 |_,_,.cons h t=>.cons h.rd t.rds
end
mutual
theorem DD.same{H H':Hp}(s:Same H H'):∀{v:V}{d:PyData},DD H v d->DD H' v d
 |_,_,.non=>.non
 |_,_,.bl b=>.bl b
 |_,_,.int i=>.int i
 |_,_,.str x=>.str x
 |_,_,.lst e h=>.lst (s _ _ e) (h.same s)
 |_,_,.tup e h=>.tup (s _ _ e) (h.same s)
theorem DDs.same{H H':Hp}(s:Same H H'):∀{vs:List V}{ds:List PyData},DDs H vs ds->DDs H' vs ds
 |_,_,.nil=>.nil
 |_,_,.cons h t=>.cons (h.same s) (t.same s)
end
theorem DDs.len{H:Hp}:∀{vs:List V}{ds:List PyData},DDs H vs ds->vs.length=ds.length
 |_,_,.nil=>rfl
 |_,_,.cons _ t=>by simp[t.len]
theorem DDs.at{H:Hp}:∀{vs:List V}{ds:List PyData},DDs H vs ds->∀{i:Nat}{v:V},vs[i]?=some v->∃d,ds[i]?=some d/\DD H v d
 |_,_,.nil,i,v,h=>by simp at h
 |_,_,.cons h t,0,v,e=>by simp at e;subst e;exact⟨_,rfl,h⟩
 |_,_,.cons h t,i+1,v,e=>by
  obtain⟨d,h1,h2⟩:=t.at (i:=i) (v:=v) (by simpa using e);exact⟨d,by simpa using h1,h2⟩
theorem DDs.app{H:Hp}:∀{vs ws:List V}{ds es:List PyData},DDs H vs ds->DDs H ws es->DDs H (vs++ws) (ds++es)
 |_,_,_,_,.nil,h=>h
 |_,_,_,_,.cons h t,k=>.cons h (t.app k)
theorem DDs.take{H:Hp}:∀{vs:List V}{ds:List PyData}(n:Nat),DDs H vs ds->DDs H (vs.take n) (ds.take n)
 |_,_,0,_=>.nil
 |_,_,n+1,.nil=>.nil
 |_,_,n+1,.cons h t=>.cons h (t.take n)
theorem DDs.drop{H:Hp}:∀{vs:List V}{ds:List PyData}(n:Nat),DDs H vs ds->DDs H (vs.drop n) (ds.drop n)
 |_,_,0,h=>h
 |_,_,n+1,.nil=>.nil
 |_,_,n+1,.cons h t=>t.drop n
theorem DDs.row{H:Hp}:∀(ks:List Nat),DDs H (rowV ks) (ks.map λn:Nat=>A0 n)
 |[]=>.nil
 |k::ks=>.cons (.int k) (DDs.row ks)
noncomputable def isI:PyData->Bool
 |.int _=>true
 |_=>false
noncomputable def iv:PyData->Int
 |.int i=>i
 |_=>0
noncomputable def isL:PyData->Bool
 |.list _=>true
 |_=>false
noncomputable def isB:PyData->Bool
 |.bool _=>true
 |_=>false
noncomputable def isIB:PyData->Bool
 |.int _=>true
 |.bool _=>true
 |_=>false
theorem DD.ty {K:W.Frag}{H:Hp}{v:V}{d:PyData}(h:DD H v d):∃t,TyOf K H v t/\W.kitOne K t (.type "list")=some (isL d)/\W.kitOne K t (.type "int")=some (isIB d)/\W.kitOne K t (.type "bool")=some (isB d):=by
 cases h with
 |non=>exact⟨_,.non,rfl,rfl,rfl⟩
 |bl b=>exact⟨_,.bl b,rfl,rfl,rfl⟩
 |int i=>exact⟨_,.int i,rfl,rfl,rfl⟩
 |str x=>exact⟨_,.str x,rfl,rfl,rfl⟩
 |lst e _=>exact⟨_,.lst e,rfl,rfl,rfl⟩
 |tup e _=>exact⟨_,.tup e,rfl,rfl,rfl⟩
theorem zk8(d:PyData):isI d=(isIB d && !isB d):=by cases d <;> rfl
noncomputable def lenOk:PyData->Prop
 |.list ds=>ds.length<=900
 |.tuple ds=>ds.length<=900
 |_=>True
structure Nc (d:PyData) (w k:Nat):Prop where
 ls:d.leavesShort 120=true
 sh:d.showable=true
 cl:d.canLay0=true
 dp:d.depth<=k
 wt:d.weight<=w
theorem Nc.le{d:PyData}{w w' k k':Nat}(h:Nc d w k)(hw:w<=w')(hk:k<=k'):Nc d w' k':=⟨h.ls,h.sh,h.cl,AN h.dp hk,AN h.wt hw⟩
structure Ncs (ds:List PyData) (w k:Nat):Prop where
 ls:Dp 120 ds=true
 sh:DZ ds=true
 cl:Cd ds=true
 dp:Dg ds<=k
 wt:C7 ds<=w
theorem Ncs.of{k w:Nat}:∀{ds:List PyData},(∀d∈ds,Nc d w k)->Ncs ds (ds.length*(w+1)) k
 |[],_=>⟨rfl,rfl,rfl,A6 _,A6 _⟩
 |d::ds,h=>by
  have h1:=h d AQ;have h2:=Ncs.of (ds:=ds) λx hx=>h x (AI _ hx)
  refine⟨?_,?_,?_,?_,?_⟩
  .simp only[Dp,h1.ls,h2.ls,BI]
  .simp only[DZ,h1.sh,h2.sh,BI]
  .simp only[Cd,h1.cl,h2.cl,BI]
  .have:=h1.dp;have:=h2.dp;simp only[Dg];lia
  .have:=h1.wt;have:=h2.wt;simp only[C7,Be,Nat.succ_mul];lia
theorem Ncs.list{ds:List PyData}{w k:Nat}(h:Ncs ds w k):Nc (.list ds) (w+1) (k+1):=by
 refine⟨?_,?_,?_,?_,?_⟩
 .simp only[D0,h.ls]
 .simp only[PyData.showable,h.sh]
 .simp only[PyData.canLay0,h.cl]
 .have:=h.dp;simp only[PyData.depth];lia
 .have:=h.wt;simp only[PyData.weight];lia
theorem Ncs.tuple{ds:List PyData}{w k:Nat}(h:Ncs ds w k):Nc (.tuple ds) (w+1) (k+1):=by
 refine⟨?_,?_,?_,?_,?_⟩
 .simp only[D0,h.ls]
 .simp only[PyData.showable,h.sh]
 .simp only[PyData.canLay0,h.cl]
 .have:=h.dp;simp only[PyData.depth];lia
 .have:=h.wt;simp only[PyData.weight];lia
theorem zjc{i:Int}{m:Nat}(h:i.natAbs.log2<m)(hm:m<=110):Nc (.int i) m 0:=by
 refine⟨?_,?_,rfl,Aj _,?_⟩
 .simp only[D0,decide_eq_true_eq];have h1:=int_text_length_le (a:=i) (k:=110) (by decide) (by lia);have h2:(Aq (Dv i)).length=(Dv i).length:=ofString_length _;show (Aq (Dv i)).length<=120;lia
 .simp only[PyData.showable];exact decide_eq_true (by lia)
 .simp only[PyData.weight];split <;> lia
theorem zk3{n:Nat}(h:n<=1000):Nc (.int (n:Int)) 10 0:=zjc (by
 show (n:Int).natAbs.log2<10
 by_cases z:n=0
 .subst z;decide
 .exact (Nat.log2_lt (by simpa using z)).mpr (by simp;lia)) (by decide)
theorem zjb(ks:List Nat)(h:∀k∈ks,k<=1000):∀d∈ks.map (λk:Nat=>A0 k),Nc d 10 1:=λd hd=>by obtain⟨k,hk,rfl⟩:=Bd.mp hd;exact (zk3 (h k hk)).le (Aj _) (by decide)
theorem zlF:Nc .none 10 1:=⟨rfl,rfl,rfl,by decide,by decide⟩
theorem ze9(b:Bool):Nc (.bool b) 10 1:=⟨rfl,rfl,rfl,by simp[PyData.depth],by simp[PyData.weight]⟩
theorem Nc.shaped{d:PyData}{w k:Nat}(h:Nc d w k)(hk:k<=64):Br d=true:=by unfold Br;rw[h.cl,BI];exact decide_eq_true (AN h.dp hk)
theorem Nc.shown{d:PyData}{w k:Nat}(h:Nc d w k)(hw:w<=100000):d.shown.length<=sizeLine:=by have h1:=PyData.shown_le 120 (by decide) d h.ls;have h2:=h.wt;have h3:(120+2)*d.weight<=(120+2)*100000:=Nat.mul_le_mul_left _ (AN h2 hw);have h4:sizeLine=2 ^ 24:=rfl;lia
theorem Ncs.nil{k:Nat}:Ncs [] 0 k:=⟨rfl,rfl,rfl,A6 _,A6 _⟩
theorem Ncs.cons{d:PyData}{ds:List PyData}{w w' k:Nat}(h1:Nc d w k)(h2:Ncs ds w' k):Ncs (d::ds) (w+w'+1) k:=by
 refine⟨?_,?_,?_,?_,?_⟩
 .simp only[Dp,h1.ls,h2.ls,BI]
 .simp only[DZ,h1.sh,h2.sh,BI]
 .simp only[Cd,h1.cl,h2.cl,BI]
 .have:=h1.dp;have:=h2.dp;simp only[Dg];lia
 .have:=h1.wt;have:=h2.wt;simp only[C7];lia
noncomputable def isT:PyData->Bool
 |.tuple _=>true
 |_=>false
noncomputable def isS:PyData->Bool
 |.str _=>true
 |_=>false
theorem DD.ty2 {K:W.Frag}{H:Hp}{v:V}{d:PyData}(h:DD H v d):∃t,TyOf K H v t/\W.kitOne K t (.type "tuple")=some (isT d)/\W.kitOne K t (.type "str")=some (isS d):=by
 cases h with
 |non=>exact⟨_,.non,rfl,rfl⟩
 |bl b=>exact⟨_,.bl b,rfl,rfl⟩
 |int i=>exact⟨_,.int i,rfl,rfl⟩
 |str x=>exact⟨_,.str x,rfl,rfl⟩
 |lst e _=>exact⟨_,.lst e,rfl,rfl⟩
 |tup e _=>exact⟨_,.tup e,rfl,rfl⟩
noncomputable def stpD:PyData->Bool
 |.int i=>decide (0<=i) && decide (i<=7)
 |_=>false
noncomputable def rowD:PyData->Bool
 |.tuple ds=>ds.all stpD
 |_=>false
noncomputable def soD:PyData->Bool
 |.str x=>decide (x = "rim") ||decide (x = "hole")
 |_=>false
noncomputable def formD:PyData->Bool
 |.tuple [a,b,c,d]=>soD a && (isI b && (isI c && rowD d))
 |_=>false
noncomputable def kids:PyData->List PyData
 |.tuple ds=>ds
 |.list ds=>ds
 |_=>[]
noncomputable def lenN(n:Nat):PyData->Prop
 |.list ds=>ds.length<=n
 |.tuple ds=>ds.length<=n
 |_=>True
theorem lenN.ok{n:Nat}{d:PyData}(h:lenN n d)(hn:n<=900):lenOk d:=by
 cases d with
 |list ds=>exact AN h hn
 |tuple ds=>exact AN h hn
 |_=>trivial
noncomputable def rdD(r:Rnd):PyData:=.tuple [.str r.so,.int r.x,.int r.y,.tuple (r.row.map λk:Nat=>A0 k)]
theorem zhd{d:PyData}:rowD d=true ↔ ∃row:List Nat,d=.tuple (row.map λk:Nat=>A0 k)/\∀s∈row,s<8:=by
 constructor
 .intro h
  cases d with
  |tuple ds =>
   suffices hh:∀ds:List PyData,ds.all stpD=true->∃row:List Nat,ds=(row.map λk:Nat=>A0 k)/\∀s∈row,s<8 by obtain⟨row,rfl,h8⟩:=hh ds h;exact⟨row,rfl,h8⟩
   intro ds
   induction ds with
   |nil=>exact λ_=>⟨[],rfl,λ_ h=>by cases h⟩
   |cons d ds ih =>
    intro hh;rw[List.all_cons,A3]at hh;obtain⟨row,rfl,h8⟩:=ih hh.2
    cases d with
    |int i =>
     have h1:=hh.1;simp only[stpD,A3,decide_eq_true_iff]at h1;refine⟨i.toNat::row,?_,?_⟩
     .rw[BA,Int.toNat_of_nonneg h1.1]
     .intro s hs;rcases At.mp hs with rfl |hs
      .lia
      .exact h8 s hs
    |_=>exact absurd hh.1 Au
  |_=>exact absurd h Au
 .rintro⟨row,rfl,h8⟩;simp only[rowD];rw[List.all_eq_true];intro d hd;obtain⟨k,hk,rfl⟩:=Bd.mp hd;have:=h8 k hk;simp only[stpD,A3,decide_eq_true_iff];lia
noncomputable def FormU (r:Rnd):Prop:=(r.so = "rim" ∨ r.so = "hole")/\∀s∈r.row,s<8
theorem zcY{d:PyData}:formD d=true ↔ ∃r:Rnd,d=rdD r/\FormU r:=by
 constructor
 .intro h;unfold formD at h;split at h
  .rename_i a b c e
   rw[A3,A3,A3]at h;obtain⟨h1,h2,h3,h4⟩:=h
   cases a with
   |str x =>
    cases b with
    |int y =>
     cases c with
     |int z =>
      obtain⟨row,rfl,h8⟩:=zhd.mp h4;simp only[soD,Bool.or_eq_true,decide_eq_true_iff]at h1;exact⟨⟨x,y,z,row⟩,rfl,h1,h8⟩
     |_=>exact absurd h3 Au
    |_=>exact absurd h2 Au
   |_=>exact absurd h1 Au
  .exact absurd h Au
 .rintro⟨r,rfl,h1,h8⟩;show (soD (.str r.so) && (isI (.int r.x) && (isI (.int r.y) && rowD _)))=true;rw[zhd.mpr ⟨r.row,rfl,h8⟩];rcases h1 with z |z <;> rw[z] <;> rfl
theorem zhz:∀{k l:List Nat},(k.map λk:Nat=>A0 k)=(l.map λk:Nat=>A0 k)->k=l
 |[],[],_=>rfl
 |[],_::_,h=>by cases h
 |_::_,[],h=>by cases h
 |a::k,b::l,h=>by
  rw[BA,BA]at h;injection h with h1 h2;injection h1 with h1;have:a=b:=by lia
  rw[this,zhz h2]
theorem ziV{r s:Rnd}(h:rdD r=rdD s):r=s:=by
 unfold rdD at h;injection h with h;injection h with h1 h;injection h with h2 h;injection h with h3 h;injection h with h4 h;injection h1 with h1;injection h2 with h2;injection h3 with h3;injection h4 with h4
 cases r
 cases s
 simp only at h1 h2 h3 h4;rw[h1,h2,h3,zhz h4]
theorem DDs.rowV{H:Hp}:∀{row:List Nat}{xs:List V},DDs H xs (row.map λk:Nat=>A0 k)->xs=RR.rowV row
 |[],_,h=>by cases h;rfl
 |k::row,_,h=>by
  rw[BA]at h
  cases h with
  |cons h1 h2 =>
   cases h1
   rw[DDs.rowV h2];rfl
theorem DD.rnd{H:Hp}{v:V}{r:Rnd}(h:DD H v (rdD r)):rR r v H:=by
 unfold rdD at h
 cases h with
 |tup e h =>
  cases h with
  |cons h1 h =>
  cases h with
  |cons h2 h =>
  cases h with
  |cons h3 h =>
  cases h with
  |cons h4 h =>
  cases h
  cases h1
  cases h2
  cases h3
  cases h4 with
  |tup e4 h4 =>
   have:=DDs.rowV h4;subst this;exact⟨_,_,rfl,e,e4⟩
noncomputable def Form (r:Rnd):Prop:=(r.so = "rim" ∨ r.so = "hole")/\r.row.length<=490/\∀s∈r.row,s<8
noncomputable def zkS(cN:Addr):Sp:=λvs H Q E=>∃(v:V) (r:Rnd),vs=[v]/\rR r v H/\Form r /\
 (∀n d H',Due r n->Same H H'->H' d=none->E (.ref cN) (some d) (upd H' d (atO n d)))/\(∀H',Good r->Same H H'->Q (.bl true) H')
theorem ze8 {cN:Addr}(g_walk_of:FnX P w K mg base 5 "walk_of" ["one"] (ziy K cN)) (d:Df K mg "ask_round" zcI ["one"]):FnOk P w K mg base (CX1 P w) 6 d.f d.fd ["one"] (zkS cN):=by
 refine d.F.okX zfB (λvs H Q E h=>?_) (λcdv A outer s H vs Q E hr h=>?_)
 .obtain⟨v,r,rfl,_⟩:=h;rfl
 .obtain⟨v,r,rfl,hx,⟨f1,f2,f3⟩,kd,kg⟩:=h
  refine⟨_,(zac (zaS (pCX g_walk_of hr (pass1 (λ_ _ _ h=>h)) (pa_N (pv 0) zab)))
   (zah (PS.nox (zal pe_bl)))),?_⟩
  exact⟨_,rfl,v,r,rfl,hx,f1,f2,f3,kd,λp H' ws hg _ s' _ _=>kg H' hg s'⟩
noncomputable def spWhl:Sp:=λvs H Q _=>∃(v:V) (d:PyData),vs=[v]/\DD H v d/\Q (.bl (isI d)) H
theorem zgB (T:Txt P w K mg) (d:Df K mg "is_whole" zc6 ["thing"]):FnOk P w K mg base CX0 1 d.f d.fd ["thing"] spWhl:=by
 refine d.F.ok zgn (λvs H Q E h=>?_) (λcdv A outer s H vs Q E hr h=>?_)
 .obtain⟨v,d,rfl,_⟩:=h;rfl
 .obtain⟨v,dt,rfl,hd,k⟩:=h;obtain⟨t,ty,k1,k2,k3⟩:=hd.ty (K:=K);refine⟨_,(zah (zal (zcb (zan zbk (by rfl) T.nisinstance (by rfl) (pa_N (pv 0) (pa_N (zbI (v:=.ty "int") (by rfl) T.nint (by rfl) rfl) zab))) (zcU (zkX (zan zbk (by rfl) T.nisinstance (by rfl) (pa_N (pv 0) (pa_N (zbI (v:=.ty "bool") (by rfl) T.nbool (by rfl) rfl) zab)))))))),?_⟩;refine⟨_,rfl,_,_,_,_,rfl,ty,k2,_,rfl,?_⟩;rw[zk8]at k;refine ite2 (λhy=>?_) (λhn=>?_)
  .rw[hy]at k;exact⟨_,rfl,_,_,_,_,rfl,ty,k3,_,rfl,k⟩
  .have:isIB dt=false:=by simpa using hn
   rw[this]at k;exact k
theorem ze0 (T:Txt P w K mg) (d:Df K mg "_law_whole" zcm ["_law_found"]):FnOk P w K mg base CX0 1 d.f d.fd ["_law_found"] spWhl:=by
 refine d.F.ok zeT (λvs H Q E h=>?_) (λcdv A outer s H vs Q E hr h=>?_)
 .obtain⟨v,d,rfl,_⟩:=h;rfl
 .obtain⟨v,dt,rfl,hd,k⟩:=h;obtain⟨t,ty,k1,k2,k3⟩:=hd.ty (K:=K);refine⟨_,(zah (zal (zcb (zan zbk (by rfl) T.nisinstance (by rfl) (pa_N (pv 0) (pa_N (zbI (v:=.ty "int") (by rfl) T.nint (by rfl) rfl) zab))) (zcU (zkX (zan zbk (by rfl) T.nisinstance (by rfl) (pa_N (pv 0) (pa_N (zbI (v:=.ty "bool") (by rfl) T.nbool (by rfl) rfl) zab)))))))),?_⟩;refine⟨_,rfl,_,_,_,_,rfl,ty,k2,_,rfl,?_⟩;rw[zk8]at k;refine ite2 (λhy=>?_) (λhn=>?_)
  .rw[hy]at k;exact⟨_,rfl,_,_,_,_,rfl,ty,k3,_,rfl,k⟩
  .have:isIB dt=false:=by simpa using hn
   rw[this]at k;exact k
noncomputable def zkP:Sp:=λvs H Q _=>∃(v:V) (d:PyData),vs=[v]/\DD H v d/\lenOk d/\∀H',Same H H'->Q (.bl (rowD d)) H'
theorem zi9 (T:Txt P w K mg) (g_is_whole:Fn P w K mg base 1 "is_whole" ["thing"] spWhl) (d:Df K mg "is_row" zdu ["thing"]):FnOk P w K mg base CX0 2 d.f d.fd ["thing"] zkP:=by
 refine d.F.ok ziP (λvs H Q E h=>?_) (λcdv A outer s H vs Q E hr h=>?_)
 .obtain⟨v,dt,rfl,_⟩:=h;rfl
 .obtain⟨v,dt,rfl,hd,hlo,k⟩:=h;have nb0:(["step"]:List Str).Nodup:=by decide +kernel
  refine⟨_,(zah (zal (zcb (zan zbk (by rfl) T.nisinstance (by rfl) (pa_N (pv 0) (pa_N (zbI (v:=.ty "tuple") (by rfl) T.ntuple (by rfl) rfl) zab))) (zcU (zan (zf6 rfl) (by rfl) T.nall (by rfl) (zag (zbt (osc:=zaf zdu) (N:=zhK) (N':=["step"]) (sel:=[none]) bO (zi5 (pv 0)) (λ_ _ _ _ _=>(nG 0 nb0)) (λ_ _ _ _ _=>ziY) (λ_ _ _ _ _=>(zcb (pC g_is_whole hr (pa_N (pv 0) zab)) (zcU (zhj op_le op_le zad (pv 0) zad))))) zab)))))),?_⟩;obtain⟨t,ty,kt,ks⟩:=hd.ty2 (K:=K);refine⟨_,rfl,_,_,_,_,rfl,ty,kt,_,rfl,?_⟩;refine ite2 (λhy=>?_) (λhn=>?_)
  rotate_left
  .have hf:rowD dt=false := by
    cases dt with
    |tuple ds=>exact absurd rfl hn
    |_=>rfl
   have:=k H (Same.refl _);rw[hf]at this;exact this
  cases hd with
  |@tup c xs ds e hds=>?_
  |_=>exact absurd hy Au
  have hxl:=hds.len;have hdl:ds.length<=900:=hlo;refine⟨_,rfl,c,rfl,⟨_,SqT.of e⟩,λq hq=>?_⟩
  refine zgL (K:=K) (a:=c) (xs:=xs) (λj σ H9=>∃o,σ=[o]/\Same H H9/\H9 q=some (.lst (((ds.take j).map stpD).map V.bl)))
   ⟨_,rfl,Same.up hq,zaa⟩ (λj σ H9 _ ⟨_,_,s9,_⟩=>SqT.of (s9 _ _ e)) ?_ ?_
  .rintro j v σ H9 hj ⟨o,rfl,s9,e9⟩;obtain⟨dq,hdq,hy⟩:=hds.at hj;have hjl:j<xs.length:=(Ad.mp hj).1
   have hfin:∀bb,bb=stpD dq->(upd H9 q (.lst (((ds.take j).map stpD).map V.bl++[V.bl bb]))) q=some (.lst (((ds.take (j+1)).map stpD).map V.bl)):=λbb h=>by rw[zaa,zaN hdq,AS,AS,h];rfl
   refine gN ?_
   refine⟨_,rfl,v,dq,rfl,hy.same s9,_,rfl,?_⟩;refine ite2 (λhI=>?_) (λhI=>?_)
   .cases hy with
    |int i =>
     refine⟨_,rfl,_,_,rfl,rfl,_,rfl,?_⟩;refine ite2 (λh0=>?_) (λh0=>?_)
     .refine⟨_,_,rfl,rfl,_,e9,zak (by simp;lia),_,rfl,zax hq s9,hfin _ ?_⟩;show decide (i<=7)=(decide (0<=i) && decide (i<=7));rw[h0,BI]
     .refine⟨_,e9,zak (by simp;lia),_,rfl,zax hq s9,hfin _ ?_⟩;show false=(decide (0<=i) && decide (i<=7));have:decide (0<=i)=false:=BX.mpr h0;rw[this,Cv]
    |_=>exact absurd hI Au
   .refine⟨_,e9,zak (by simp;lia),_,rfl,zax hq s9,hfin _ ?_⟩
    cases dq with
    |int i=>exact absurd rfl hI
    |_=>rfl
  .rintro σ H9 ⟨o,rfl,s9,e9⟩;rw[hxl,A4]at e9;refine⟨q,_,rfl,SqL.of e9,?_⟩;have hall:(ds.map stpD).all id=ds.all stpD:=by rw[List.all_map];rfl
   rw[hall];exact k H9 s9
noncomputable def ziG:Sp:=λvs H Q _=>∃(v:V) (d:PyData),vs=[v]/\DD H v d/\(∀e∈kids d,lenOk e)/\∀H',Same H H'->Q (.bl (formD d)) H'
theorem zfW{ds:List PyData}(h:ds.length≠4):formD (.tuple ds)=false:=by
 match ds,h with
 |[],_=>rfl
 |[_],_=>rfl
 |[_,_],_=>rfl
 |[_,_,_],_=>rfl
 |[_,_,_,_],h=>exact absurd rfl h
 |_::_::_::_::_::_,_=>rfl
theorem zgD (T:Txt P w K mg) (g_is_whole:Fn P w K mg base 1 "is_whole" ["thing"] spWhl) (g_is_row:Fn P w K mg base 2 "is_row" ["thing"] zkP) (d:Df K mg "has_form" zda ["thing"]):FnOk P w K mg base CX0 3 d.f d.fd ["thing"] ziG:=by
 refine d.F.ok zbD (λvs H Q E h=>?_) (λcdv A outer s H vs Q E hr h=>?_)
 .obtain⟨v,dt,rfl,_⟩:=h;rfl
 .obtain⟨v,dt,rfl,hd,hlo,k⟩:=h
  refine⟨_,(zac (ps_if (pw_or (zcS (zbV (zan zbk (by rfl) T.nisinstance (by rfl) (pa_N (pv 0) (pa_N (zbI (v:=.ty "tuple") (by rfl) T.ntuple (by rfl) rfl) zab))))) (zdL (zaq op_ne (zan zap (by rfl) T.nlen (by rfl) (pa_N (pv 0) zab)) zad (zas _)))).pt
   (zah (zal pe_bl))
   zaA)
   (zac (za2 (pv 0) (zaW (by rfl) (zae (nG 1 zbD.nd) (zae (nG 2 zbD.nd) (zae (nG 3 zbD.nd) (zae (nG 4 zbD.nd) zay))))))
   (zah (zal (zcb (zan zbk (by rfl) T.nisinstance (by rfl) (pa_N (pv 1) (pa_N (zbI (v:=.ty "str") (by rfl) T.nstr (by rfl) rfl) zab))) (zcb (zms (zhV (by rfl) T.ways T.nsys (pv 1))) (zcb (pC g_is_whole hr (pa_N (pv 2) zab)) (zcb (pC g_is_whole hr (pa_N (pv 3) zab)) (zcU (pC g_is_row hr (pa_N (pv 4) zab))))))))))),?_⟩
  obtain⟨t,ty,kt,ks⟩:=hd.ty2 (K:=K);refine⟨_,rfl,_,_,_,_,rfl,ty,kt,_,rfl,?_⟩;have k0:formD dt=false->∀H',Same H H'->Q (.bl false) H':=λh H' s=>by have:=k H' s;rw[h]at this;exact this
  refine ite2 (λhy=>?_) (λhn=>?_)
  .refine k0 ?_ H (Same.refl _)
   cases dt with
   |tuple ds=>simp[isT]at hy
   |_=>rfl
  have hT:isT dt=true:=by simpa using hn
  cases hd with
  |@tup c xs ds e hds=>?_
  |_=>exact absurd hT Au
  have hxl:=hds.len;refine⟨_,rfl,c,_,rfl,.inr (SqT.of e),?_⟩;refine⟨rfl,_,rfl,?_⟩;refine ite2 (λhy=>?_) (λhn4=>?_)
  .refine k0 (zfW λz=>?_) H (Same.refl _);rw[hxl,z]at hy;exact absurd hy (by decide)
  have h4:xs.length=4:=by
   by_cases z:xs.length=4
   .exact z
   .refine absurd ?_ hn4;rw[decide_eq_false (λq=>z (by injection q with q;lia))];rfl
  match xs,ds,h4,hds with
  |[v1,v2,v3,v4],_,_,.cons (d:=d1) h1 (.cons (d:=d2) h2 (.cons (d:=d3) h3 (.cons (d:=d4) h4 .nil))) =>
  have hk:∀H',Same H H'->Q (.bl (soD d1 && (isI d2 && (isI d3 && rowD d4)))) H':=k;refine⟨_,rfl,c,_,rfl,SqT.of e,rfl,_,_,rfl,_,_,rfl,_,_,rfl,_,_,rfl,rfl,?_⟩;obtain⟨t1,ty1,kt1,ks1⟩:=h1.ty2 (K:=K);have kf:∀H',Same H H'->(soD d1 && (isI d2 && (isI d3 && rowD d4)))=false->Q (.bl false) H':=λH' s h=>by have:=hk H' s;rw[h]at this;exact this
  refine⟨_,rfl,_,_,_,_,rfl,ty1,ks1,_,rfl,?_⟩;refine ite2 (λhS=>?_) (λhS=>?_)
  rotate_left
  .refine kf H (Same.refl _) ?_
   cases d1 with
   |str x=>exact absurd rfl hS
   |_=>rfl
  cases h1 with
  |str x=>?_
  |_=>exact absurd hS Au
  refine⟨_,rfl,x,rfl,_,rfl,?_⟩;refine ite2 (λhso=>?_) (λhso=>?_)
  rotate_left
  .refine kf H (Same.refl _) ?_
   show ((decide (x=Aq "rim") ||decide (x=Aq "hole")) && _)=false;rw[BX.mpr hso,Cv]
  have hso':soD (.str x)=true:=hso;rw[hso',BI]at hk kf;refine⟨_,rfl,_,_,rfl,h2,_,rfl,?_⟩;refine ite2 (λhx=>?_) (λhx=>?_)
  rotate_left
  .refine kf H (Same.refl _) ?_
   rw[BX.mpr hx,Cv]
  rw[hx,BI]at hk kf;refine⟨_,rfl,_,_,rfl,h3,_,rfl,?_⟩;refine ite2 (λhz=>?_) (λhz=>?_)
  rotate_left
  .refine kf H (Same.refl _) ?_
   rw[BX.mpr hz,Cv]
  rw[hz,BI]at hk;exact⟨_,rfl,_,_,rfl,h4,hlo d4 (.tail _ (.tail _ (.tail _ (.head _)))),hk⟩
noncomputable def ziE:Sp:=λvs H Q _=>∃(v:V) (dt:PyData),vs=[v]/\DD H v dt/\(∀e∈kids dt,lenN 490 e)/\(∀H',Same H H'->formD dt=false->Q (.bl false) H') /\
 (∀r n H',dt=rdD r->Form r->Due r n->Same H H'->Q (.bl false) H')/\(∀r H',dt=rdD r->Form r->Good r->Same H H'->Q (.bl true) H')
theorem zjy{dt:PyData}(hl:∀e∈kids dt,lenN 490 e)(h:formD dt=true):∃r,dt=rdD r/\Form r:=by obtain⟨r,rfl,h1,h2⟩:=zcY.mp h;have h3:=hl _ (.tail _ (.tail _ (.tail _ (.head _))));have h4:(r.row.map λk:Nat=>A0 k).length<=490:=h3;rw[Ai]at h4;exact⟨r,rfl,h1,h4,h2⟩
theorem zfK {cN:Addr}(m_NoRound:mg "NoRound" = some (.ref cN)) (hxx:W.exmOne K (.ref cN) (.ref cN)=some true) (g_has_form:Fn P w K mg base 3 "has_form" ["thing"] ziG) (g_ask_round:FnX P w K mg base 6 "ask_round" ["one"] (zkS cN)) (d:Df K mg "is_round" zc8 ["thing"]):FnOk P w K mg base CX0 7 d.f d.fd ["thing"] ziE:=by
 refine d.F.ok zgp (λvs H Q E h=>?_) (λcdv A outer s H vs Q E hr h=>?_)
 .obtain⟨v,dt,rfl,_⟩:=h;rfl
 .obtain⟨v,dt,rfl,hd,hl,kn,kd,kg⟩:=h
  let ex:XK:=λc o H'=>c=.ref cN/\∃r n d H1,dt=rdD r/\Form r/\o=some d/\Due r n/\Same H H1/\H1 d=none/\H'=upd H1 d (atO n d)
  have hex:∀c d H,ex c d H->W.exmOne K c (.ref cN)=some true:=λc d H h=>by rw[h.1];exact hxx
  refine⟨_,(zac (ps_if (zcS (zbV (pC g_has_form hr (pa_N (pv 0) zab))))
   (zah (zal pe_bl))
   zaA)
   (zah (zlv (E:=ex) rfl rfl rfl (λpins=>(zah (zal (pCX g_ask_round hr (passT (λ_ _ _ h=>h)) (pa_N (pv 0) zab)))))
   (λa=>(zah (zal pe_bl))) (by rfl) m_NoRound hex))),?_⟩
  refine⟨_,rfl,v,dt,rfl,hd,(λe he=>(hl e he).ok (by decide)),λH1 s1=>⟨_,rfl,?_⟩⟩;refine ite2 (λhy=>?_) (λhn=>?_)
  .exact kn H1 s1 (by simpa using hy)
  have hf:formD dt=true:=by simpa using hn
  obtain⟨r,rfl,hF⟩:=zjy hl hf;refine⟨⟨_,rfl,v,r,rfl,rR.kt hd.rnd (KT.of s1),hF,λn d H2 hd s2 hdx=>⟨rfl,r,n,d,H2,rfl,hF,rfl,hd,s1.trans s2,hdx,rfl⟩,λH2 hg s2=>kg r H2 rfl hF hg (s1.trans s2)⟩,?_⟩;rintro c o H2 a σ' ⟨rfl,r',n,d,H3,hr',hF',rfl,hd,s3,hdx,rfl⟩ hn hσ;exact kd r' n _ hr' hF' hd ((s3.trans (Same.up hdx)).trans (Same.up hn))
noncomputable def mem(s:Stmt)(j:Nat):Stmt:=match s with
 |.ClassDef _ _ _ body _ _ _ _ _ _ _=>body.getD j (.Pass ⟨0,0,0,0⟩)
 |_=>.Pass ⟨0,0,0,0⟩
noncomputable abbrev zc9:Stmt:=mem (top 2) 0
theorem zj0:FnScope ["self","at"] ["self","at"] (zaf zc9):=sC
theorem zke {f C:Addr}{fd:BC}(F:Fun K "__init__" "NoRound.__init__" zc9 f fd) (xs:ExS K C) (na:zhJ K C "at"):FnOk P w K mg base (CX1 P w) 1 f fd ["self","at"] (spI C ["at"]):=by
 refine F.okX zj0 (λvs H Q E h=>?_) (λcdv A outer s H vs Q E hr h=>?_)
 .obtain⟨x,t,ws,rfl,hl,_⟩:=h;show ws.length+1=2;rw[hl];rfl
 .obtain⟨x,t,ws,rfl,hl,hx,k⟩:=h;obtain⟨v,rfl⟩:∃v,ws=[v]:=List.length_eq_one_iff.mp hl;refine⟨_,(zah (zlw rfl (pv 0) (pv 1) rfl)),?_⟩;exact⟨_,rfl,_,rfl,x,C,t,rfl,xs,na,.inl ⟨hx,λd hd ne=>k d hd ne⟩⟩
noncomputable def fst1(L:List (Cell×Bool))(c:Cell):Option Bool:=(L.find? λq=>decide (q.1=c)).map (·.2)
noncomputable def agree(L:List (Cell×Bool))(c:Cell)(t:Bool):Bool:=match fst1 L c with
 |none=>true
 |some v=>v == t
noncomputable def Kf(kvs:List (List Key×V))(L:List (Cell×Bool)):Prop:=∀c,valV kvs (kC c)=(fst1 L c).map V.bl
theorem zfV(L:List (Cell×Bool))(c d:Cell)(t:Bool):fst1 (L++[(c,t)]) d=match fst1 L d with |some v=>some v |none=>if c=d then some t else none:=by
 unfold fst1;rw[List.find?_append]
 cases h:L.find? λq=>decide (q.1=d) with
 |some q=>rfl
 |none =>
  by_cases e:c=d
  .simp[e]
  .simp[e]
theorem zhC{L:List (Cell×Bool)}{c:Cell}{b:Bool}(h:fst1 L c=some b):(c,b)∈L:=by
 unfold fst1 at h;obtain⟨q,hq,e⟩:=BQ.mp h;have h1:=List.find?_some hq;have h2:=List.mem_of_find?_eq_some hq;obtain⟨c',b'⟩:=q;simp only[decide_eq_true_eq]at h1;subst h1
 cases e
 exact h2
theorem zjx{L:List (Cell×Bool)}{c:Cell}(h:fst1 L c=none)(b:Bool):(c,b) ∉ L:=λm=>by unfold fst1 at h;have h:=List.find?_eq_none.mp (D6.mp h) _ m;simp at h
theorem zc1{L:List (Cell×Bool)}{c:Cell}{t:Bool}:Con (L++[(c,t)]) ↔ Con L∨agree L c t=false:=by
 constructor
 .rintro⟨d,h1,h2⟩
  cases hf:fst1 L c with
  |none =>
   have n1:=zjx hf;rcases Ap.mp h1 with m1 |m1 <;> rcases Ap.mp h2 with m2 |m2
   .exact .inl ⟨d,m1,m2⟩
   .rw[Ak]at m2;cases m2;exact absurd m1 (n1 _)
   .rw[Ak]at m1;cases m1;exact absurd m2 (n1 _)
   .rw[Ak]at m1 m2;cases m1;cases m2
  |some v =>
   have mv:=zhC hf
   by_cases hv:v=t
   .subst hv
    have sub:∀q∈L++[(c,v)],q∈L:=λq hq=>by
     rcases Ap.mp hq with m |m
     .exact m
     .rw[Ak.mp m];exact mv
    exact .inl ⟨d,sub _ h1,sub _ h2⟩
   .refine .inr ?_
    unfold agree;rw[hf];exact beq_eq_false_iff_ne.mpr hv
 .rintro (h |h)
  .exact h.mono λq hq=>Bl _ hq
  .unfold agree at h
   cases hf:fst1 L c with
   |none=>rw[hf]at h;cases h
   |some v =>
    rw[hf]at h;have hv:=beq_eq_false_iff_ne.mp h;have mv:(c,v)∈L++[(c,t)]:=Bl _ (zhC hf);have mt:(c,t)∈L++[(c,t)]:=An _ (by simp)
    cases v <;> cases t
    .exact absurd rfl hv
    .exact⟨c,mt,mv⟩
    .exact⟨c,mv,mt⟩
    .exact absurd rfl hv
noncomputable def spSee:Sp:=λvs H Q _=>∃(dd b:Addr) (c:Cell) (t:Bool) (L:List (Cell×Bool)) (kvs:List (List Key×V)),vs=[.ref dd,.ref b,.bl t]/\H dd=some (.dT kvs)/\Kf kvs L/\H b=some (.tup (cellT c))/\kvs.length<=19000 /\
 ∀H' kvs',H' dd=some (.dT kvs')->(∀z o,z≠dd->H z=some o->H' z=some o)->(∀z,H' z=none->H z=none)->Kf kvs' (L++[(c,t)])->kvs'.length<=kvs.length+1->Q (.bl (agree L c t)) H'
theorem zhY (d:Df K mg "_law_see" zdb ["_law_seen","_law_cell","_law_told_here"]):FnOk P w K mg base CX0 1 d.f d.fd ["_law_seen","_law_cell","_law_told_here"] spSee:=by
 refine d.F.ok zgs (λvs H Q E h=>?_) (λcdv A outer s H vs Q E hr h=>?_)
 .obtain⟨dd,b,c,t,L,kvs,rfl,_⟩:=h;rfl
 .obtain⟨dd,b,c,t,L,kvs,rfl,hd,hk,hb,hl,k⟩:=h;have hu1:=hu_of hr;refine⟨_,(zah (zal (zbG op_eq (zhi hu1 (pv 0) (pv 1) (pv 2) ⟨rfl,rfl,rfl,rfl⟩) (pv 2) (zas _)))),?_⟩;refine⟨_,rfl,dd,rfl,.inr ⟨_,Rd.of hd⟩,_,rfl,_,rfl,kvs,kC c,b,hd,rfl,hb,B7 hl (by decide),λv hv=>?_,λhn=>?_⟩
  .have hkc:=hk c;rw[hv]at hkc;obtain⟨b0,hf,rfl⟩:=BQ.mp hkc.symm;refine⟨_,rfl,rfl,?_⟩
   have ha:decide (V.bl b0=V.bl t)=agree L c t:=by
    unfold agree;rw[hf]
    cases b0 <;> cases t <;> rfl
   rw[ha];refine k H kvs hd (λ_ _ _ h=>h) (λ_ h=>h) (λc'=>?_) (B5 _);rw[hk c',zfV]
   cases hf':fst1 L c' with
   |some v=>rfl
   |none =>
    by_cases e:c=c'
    .subst e;rw[hf]at hf';cases hf'
    .simp[e]
  .have hkc:=hk c;rw[hn]at hkc;have hf:fst1 L c=none:=D6.mp hkc.symm;refine⟨_,rfl,rfl,?_⟩;have ha:decide (V.bl t=V.bl t)=agree L c t:=by unfold agree;rw[hf];exact decide_eq_true rfl
   rw[ha];refine k _ (putK kvs (kC c) (.bl t)) zaa (λz o hz h=>by rw[zai hz];exact h) (λz h=>?_) (λc'=>?_) (zbq _ _ _)
   .by_cases e:z=dd
    .subst e;rw[zaa]at h;cases h
    .rwa [zai e]at h
   .rw[zeI,zfV]
    by_cases e:c'=c
    .subst e;rw[if_pos rfl,hf];simp
    .rw[if_neg (λz=>e (zhy.mp z)),hk c']
     cases hf':fst1 L c' with
     |some v=>rfl
     |none=>simp[Bx e]
noncomputable def std(e:Edge):List (Cell×Bool):=[(e.c,true),(gap e,false)]
noncomputable def zgm(K:W.Frag):Sp:=λvs H Q _=>∃(dd a:Addr) (e:Edge) (L:List (Cell×Bool)) (kvs:List (List Key×V)),vs=[.ref dd,.ref a]/\H dd=some (.dT kvs)/\Kf kvs L/\H a=some (.tup (edgeT e))/\e.w<4/\kvs.length<=16000 /\
 ∀p H' kvs' b1 b2,H p=none->H' p=some (.lst [.bl b1,.bl b2])->H' dd=some (.dT kvs')->(∀z o,z≠dd->H z=some o->H' z=some o)->Kf kvs' (L++std e)->kvs'.length<=kvs.length+2->(Con (L++std e) ↔ Con L∨b1=false∨b2=false)->Q (.ref p) H'
theorem zfI (g__law_see:Fn P w K mg base 1 "_law_see" ["_law_seen","_law_cell","_law_told_here"] spSee) (g__law_gone:Fn P w K mg base 1 "_law_gone" ["_law_x","_law_y","_law_step"] zcd) (d:Df K mg "_law_stood" zcn ["_law_seen","_law_edge"]):FnOk P w K mg base CX0 2 d.f d.fd ["_law_seen","_law_edge"] (zgm K):=by
 refine d.F.ok zbA (λvs H Q E h=>?_) (λcdv A outer s H vs Q E hr h=>?_)
 .obtain⟨dd,a,e,L,kvs,rfl,_⟩:=h;rfl
 .obtain⟨dd,a,e,L,kvs,rfl,hd,hk,ha,hw,hl,k⟩:=h
  refine⟨_,(zac (za2 (pv 1) (zaW (by rfl) (zae (nG 2 zbA.nd) (zae (nG 3 zbA.nd) (zae (nG 4 zbA.nd) zay)))))
   (zah (zal (zaL (zag (pC g__law_see hr (pa_N (pv 0) (pa_T (zao (pa_N (pv 2) (pa_N (pv 3) zab))) (pa_C pe_bl zab)))) (zag (pC g__law_see hr (pa_N (pv 0) (zag (pC g__law_gone hr (pa_N (pv 2) (pa_N (pv 3) (pa_B (pe_op zau (pe_op zaG (pe_op zbm zad (pv 4)) zad) zad) zab)))) (pa_C pe_bl zab)))) zab)))))),?_⟩
  refine⟨_,rfl,a,_,rfl,SqT.of ha,rfl,_,_,rfl,_,_,rfl,_,_,rfl,rfl,?_⟩;have e6:(2*(e.w:Int)+6) % 8=(((2*e.w+6) % 8:Nat):Int):=by lia
  refine⟨_,rfl,_,rfl,_,rfl,two,λp1 hp1=>?_⟩;have n1:dd≠p1:=λz=>by rw[z,hp1]at hd;cases hd
  have s1:Same H (upd H p1 (.tup [.int e.c.1,.int e.c.2])):=Same.up hp1;refine⟨dd,p1,e.c,true,L,kvs,rfl,s1 _ _ hd,hk,zaa,by lia,λH2 kv2 d2 k2 f2 hk2 l2=>?_⟩;refine⟨_,rfl,_,rfl,_,rfl,_,rfl,_,_,rfl,rfl,.inl ⟨by decide,by decide⟩,_,_,rfl,rfl,_,_,rfl,rfl,(by show (0:Int)<8;decide),e.c,(2*e.w+6) % 8,(by rw[<- e6];rfl),by lia,λp3 H3 hp3 s3 e3=>?_⟩;refine⟨dd,p3,gap e,false,L++[(e.c,true)],kv2,rfl,s3 _ _ d2,hk2,e3,by lia,λH4 kv4 d4 k4 f4 hk4 l4=>?_⟩;refine⟨two,λp5 hp5=>?_⟩;have n5:dd≠p5:=λz=>by rw[z,hp5]at d4;cases d4
  have keep:∀z o,z≠dd->H z=some o->H4 z=some o:=λz o hz h=>k4 z o hz (s3 _ _ (k2 z o hz (s1 _ _ h)))
  have hp50:H p5=none:=s1.free (f2 _ (s3.free (f4 _ hp5)));have eL:L++std e=(L++[(e.c,true)])++[(gap e,false)]:=by rw[AA];rfl
  refine k p5 _ kv4 _ _ hp50 zaa (by rw[zai n5];exact d4) (λz o hz h=>by rw[zai (λq=>by rw[q,hp50]at h;cases h)];exact keep z o hz h) (by rw[eL];exact hk4) (by lia) ?_
  rw[eL,zc1,zc1,or_assoc]
noncomputable def lob(e:Edge):Option Nat->List (Cell×Bool)
 |none=>[(go e.c (2*e.w),false),(go e.c ((2*e.w+7) % 8),false)]++std (edgeB e none)
 |some s=>(if s % 2=0 then [(go e.c ((2*e.w+7) % 8),false)] else [])++std (edgeB e (some s))
noncomputable def lobs:Edge->List (Option Nat)->List (Cell×Bool)
 |_,[]=>[]
 |e,d::r=>lob e d++lobs (edgeB e d) r
theorem zdW(d:Option Nat):∀(l:List (Option Nat)) (e:Edge),lobs e (l++[d])=lobs e l++lob (eAt e l) d
 |[],_=>by show lob _ d++[]=_;rw[AE];rfl
 |a::l,e=>by
  show lob e a++lobs (edgeB e a) (l++[d])=_;rw[zdW d l];show _=(lob e a++lobs (edgeB e a) l)++_;rw[AA];rfl
theorem zhc(e:Edge)(d:Option Nat)(q:Cell×Bool):q∈seenL e d ↔ q∈std e∨q∈lob e d:=by
 cases d with
 |none =>
  show q∈(seen0 e none++_)++_ ↔ _;rw[if_neg (by decide),if_pos rfl];simp only[seen0,std,lob,Ap,At,Bf,or_false];constructor
  .rintro (((h |h |h |h) |h) |h) <;> simp[h]
  .rintro ((h |h) | (h |h) |h |h) <;> simp[h]
 |some s =>
  show q∈(seen0 e (some s)++_)++_ ↔ _;rw[if_neg (show ¬ (some s=none) from λz=>nomatch z)];have h2:slant (some s)=true ↔ s % 2=1:=by show (s % 2 == 1)=true ↔ _;simp
  by_cases hs:s % 2=1
  .rw[if_pos (h2.mpr hs)];simp only[seen0,std,lob,if_neg (show ¬ s % 2=0 by lia),Ap,At,Bf,or_false];constructor
   .rintro (h |h |h |h) <;> simp[h]
   .rintro ((h |h) | (h | (h |h))) <;> first | (cases h;done) |simp[h]
  .rw[if_neg (λz=>hs (h2.mp z))];simp only[seen0,std,lob,if_pos (show s % 2=0 by lia),Ap,At,Bf,or_false];constructor
   .rintro ((h |h |h |h) |h) <;> simp[h]
   .rintro ((h |h) |h |h |h) <;> simp[h]
theorem zlG(e:Edge)(d:Option Nat)(q:Cell×Bool)(h:q∈std (edgeB e d)):q∈lob e d:=by
 cases d with
 |none=>exact An _ h
 |some s=>exact An _ h
theorem zgF:∀(l:List (Option Nat)) (e:Edge) (q:Cell×Bool),q∈std e++lobs e l ↔ q∈std e∨q∈obs (wby e l)
 |[],e,q=>by
  show q∈std e++[] ↔ q∈std e∨q∈[];simp
 |d::l,e,q=>by
  have ih:=zgF l (edgeB e d) q;have hs:=zhc e d q;have hl:=zlG e d q;have e1:obs (wby e (d::l))=seenL e d++obs (wby (edgeB e d) l):=rfl;have e2:lobs e (d::l)=lob e d++lobs (edgeB e d) l:=rfl;rw[e1,e2];simp only[Ap]at ih ⊢;rw[hs];constructor
  .rintro (h |h |h)
   .exact .inl h
   .exact .inr (.inl (.inr h))
   .rcases ih.mp (.inr h) with z |z
    .exact .inr (.inl (.inr (hl z)))
    .exact .inr (.inr z)
  .rintro (h | (h |h) |h)
   .exact .inl h
   .exact .inl h
   .exact .inr (.inl h)
   .rcases ih.mpr (.inr h) with z |z
    .exact .inr (.inl (hl z))
    .exact .inr (.inr z)
theorem zfm{e:Edge}{l:List (Option Nat)}(h:l≠[]):Con (std e++lobs e l) ↔ Con (obs (wby e l)):=by
 have sub:∀q∈std e,q∈obs (wby e l):=λq hq=>by
  cases l with
  |nil=>exact absurd rfl h
  |cons d l=>exact Bl _ ((zhc e d q).mpr (.inl hq))
 exact⟨λz=>z.mono λq hq=>((zgF l e q).mp hq).elim (sub q) id,λz=>z.mono λq hq=>(zgF l e q).mpr (.inr hq)⟩
theorem zgU:∀(i:Nat) (l:List (Option Nat)) (e:Edge),(wby e l).take i=wby e (l.take i)
 | 0,_,_=>rfl
 |_+1,[],_=>rfl
 |i+1,d::l,e=>by
  show (e,d)::(wby (edgeB e d) l).take i=(e,d)::wby (edgeB e d) (l.take i);rw[zgU i l]
theorem zgk:∀(l:List (Option Nat)) (e:Edge),(wby e l).filterMap (·.2)=l.filterMap id
 |[],_=>rfl
 |d::l,e=>by
  show ((e,d)::wby (edgeB e d) l).filterMap _=_
  cases d with
  |none=>simp[CF,zgk l]
  |some s=>simp[CF,zgk l]
theorem zd0(n:Nat):(Ae n (none:Option Nat)).filterMap id=[]:=by
 induction n with
 |zero=>rfl
 |succ n ih=>rw[B3,List.filterMap_cons_none rfl,ih]
theorem zf1:∀(l:List Nat) (w:Nat),(dgo w l).1.filterMap id=l
 |[],_=>rfl
 |s::l,w=>by
  show (Ae _ none++some s::(dgo (wayB s) l).1).filterMap id=_;rw[Do,zd0,List.nil_append];simp[CF,zf1 l]
theorem zgO(l:List Nat)(w i:Nat):∃r,(dgo w l).1=(dgo w (l.take i)).1++r:=by
 induction l generalizing w i with
 |nil=>exact⟨[],by rw[List.take_nil];rfl⟩
 |cons s l ih =>
  cases i with
  |zero=>exact⟨_,rfl⟩
  |succ i =>
   obtain⟨r,hr⟩:=ih (wayB s) i;refine⟨r,?_⟩;show Ae _ none++some s::(dgo (wayB s) l).1=(Ae _ none++some s::(dgo (wayB s) (l.take i)).1)++r;rw[hr,AA];rfl
theorem zlc{W:Wk}:∀(n i:Nat),¬ Con (obs (W.take i))->Con (obs (W.take (i+n)))->∃j,i<=j/\j<i+n/\¬ Con (obs (W.take j))/\Con (obs (W.take (j+1)))
 | 0,i,h,h'=>absurd h' h
 |n+1,i,h,h'=>by
  by_cases c:Con (obs (W.take (i+1)))
  .exact⟨i,Aj _,by lia,h,c⟩
  .obtain⟨j,q1,q2,q3,q4⟩:=zlc n (i+1) c (by rw[show i+1+n=i+(n+1) by lia];exact h');exact⟨j,by lia,by lia,q3,q4⟩
theorem zla{r:Rnd}{p x:List (Option Nat)}{t at_:Nat}{o:List (Option Nat)}(hd:deeds (begE r).w r.row=p ++ (Ae t none ++ o) ++ x)(ho:o = [] ∨ ∃s, o = [some s])(hp:(p.filterMap id).length=at_)(h0:p ≠ [] -> ¬ Con (std (begE r) ++ lobs (begE r) p))
  (h1:Con (std (begE r)++lobs (begE r) (p++(Ae t none++o)))) (hne:p++(Ae t none++o)≠[]):Due r at_:=by
 have tk:∀i,i<=(p++(Ae t none++o)).length->(rw_ r).take i=wby (begE r) ((p++(Ae t none++o)).take i):=λi hi=>by unfold rw_;rw[zgU,hd,C9 hi]
 have e0:(rw_ r).take p.length=wby (begE r) p:=by rw[tk _ (by simp),List.take_left]
 have e1:(rw_ r).take (p++(Ae t none++o)).length=wby (begE r) (p++(Ae t none++o)):=by rw[tk _ (Aj _),A4]
 have c0:¬ Con (obs ((rw_ r).take p.length)):=by
  rw[e0]
  by_cases hpe:p=[]
  .subst hpe;exact λ⟨_,z,_⟩=>by cases z
  .exact λz=>h0 hpe ((zfm hpe).mpr z)
 have c1:Con (obs ((rw_ r).take (p.length+(Ae t none++o).length))):=by rw[<- Af,e1];exact (zfm hne).mp h1
 obtain⟨j,j1,j2,j3,j4⟩:=zlc _ _ c0 c1;refine .inl ⟨j,?_,j4,j3,?_⟩
 .unfold rw_;rw[zbe,hd,Af,Af];lia
 .have hj:j<=(p++(Ae t none++o)).length:=by rw[Af];lia
  unfold nSt;rw[tk j hj,zgk];obtain⟨m,rfl⟩:∃m,j=p.length+m:=⟨j-p.length,by lia⟩
  have hm:m<=t:=by
   rw[Af,Bs]at j2;rcases ho with rfl |⟨s,rfl⟩
   .simp at j2;lia
   .simp at j2;lia
  rw[List.take_length_add_append,Do,Af,hp,C9 (by rw[Bs];exact hm),List.take_replicate,zd0];rfl
noncomputable def za6(e:Edge)(l:List (Option Nat)):List Edge:=(wby e l).map (·.1)++[eAt e l]
theorem zdk(e:Edge)(l:List (Option Nat))(d:Option Nat):za6 e (l++[d])=za6 e l++[edgeB (eAt e l) d]:=by unfold za6;rw[zeG,zfh,AS];rfl
theorem zd3(e:Edge)(l:List (Option Nat)):(za6 e l).length=l.length+1:=by unfold za6;rw[Af,Ai,zbe];rfl
theorem zfZ(e:Edge)(l:List (Option Nat)):(za6 e l)[l.length]?=some (eAt e l):=by unfold za6;rw[AW (by rw[Ai,zbe];exact Aj _),Ai,zbe,Nat.sub_self];rfl
noncomputable def swg(l:List (Option Nat)):Int:=((l.filter λd=>d.isNone).length:Int)-(l.filter λd=>slant d).length
structure DSt (H:Hp) (e0:Edge) (dd E F:Addr) (l:List (Option Nat)) (H1:Hp):Prop where
 same:Same H H1
 ne:E≠F
 dct:∃kvs,H1 dd=some (.dT kvs)/\Kf kvs (std e0++lobs e0 l)/\kvs.length<=2+4*l.length
 edg:∃es,H1 E=some (.lst es)/\VR es (za6 e0 l) eR H1
 fin:∃bs:List Bool,H1 F=some (.lst (bs.map V.bl))/\(false∈bs ↔ Con (std e0++lobs e0 l))/\bs.length<=2+4*l.length
theorem zfi:∀(l m:List (Option Nat)) (e:Edge),eAt e (l++m)=eAt (eAt e l) m
 |[],_,_=>rfl
 |_::l,m,_=>zfi l m _
theorem zdt:∀(j:Nat) (e:Edge),e.w<4->(eAt e (Ae j none)).w=(e.w+j) % 4/\(eAt e (Ae j none)).c=e.c
 | 0,e,h=>⟨(Nat.mod_eq_of_lt h).symm,rfl⟩
 |j+1,e,h=>by
  have:=zdt j (edgeB e none) (zdz h);rw[B3];show (eAt (edgeB e none) (Ae j none)).w=_/\(eAt (edgeB e none) (Ae j none)).c=_;rw[this.1,this.2];refine⟨?_,rfl⟩;show ((e.w+1) % 4+j) % 4=_;lia
theorem zkO{e:Edge}{s:Nat}(hs:s<8)(h:e.w=zaD s):(edgeB e (some s)).w=wayB s/\(edgeB e (some s)).c=go e.c s:=by
 have:(edgeB e (some s))=if s % 2=1 then ⟨go e.c s,(e.w+3) % 4⟩ else ⟨go e.c s,e.w⟩:=rfl
 rw[this];rcases e with⟨c,w⟩;simp only at h;subst h;unfold wayB
 by_cases q:s % 2=1
 .rw[if_pos q,q];exact⟨by simp only;have:=zcc s;lia,rfl⟩
 .rw[if_neg q,show s % 2=0 by lia];exact⟨by simp only;have:=zcc s;lia,rfl⟩
theorem zgM:∀(row:List Nat) (e:Edge),e.w<4->(∀s∈row,s<8)->(eAt e (dgo e.w row).1).w=(dgo e.w row).2/\(dgo e.w row).2<4
 |[],e,h,_=>⟨rfl,h⟩
 |s::row,e,h,h8=>by
  show (eAt e (Ae ((zaD s+4-e.w) % 4) none++some s::(dgo (wayB s) row).1)).w=(dgo (wayB s) row).2/\_;rw[zfi];show (eAt (edgeB (eAt e (Ae ((zaD s+4-e.w) % 4) none)) (some s)) (dgo (wayB s) row).1).w=_/\_;have t:=zdt ((zaD s+4-e.w) % 4) e h;have hw:(eAt e (Ae ((zaD s+4-e.w) % 4) none)).w=zaD s:=by rw[t.1];have:=zcc s;lia
  have st:=zkO (h8 s (.head _)) hw;have ih:=zgM row (edgeB (eAt e (Ae ((zaD s+4-e.w) % 4) none)) (some s)) (by rw[st.1];exact zin s) (λz hz=>h8 z (.tail _ hz));rw[st.1]at ih;exact ih
theorem zc3{w g j:Nat}(hw:w<4)(hg:g<4)(hj:j<=(g+4-w) % 4):(w+j) % 4=g ↔ j=(g+4-w) % 4:=by lia
theorem zg0(l:List (Option Nat))(d:Option Nat):swg (l++[d])=swg l+(match d with |none=>1 |some s=>-((s % 2:Nat):Int)):=by
 unfold swg;rw[B9,B9,Af,Af]
 cases d with
 |none =>
  have h1:([none]:List (Option Nat)).filter (λd=>d.isNone)=[none]:=rfl;have h2:([none]:List (Option Nat)).filter (λd=>slant d)=[]:=rfl;rw[h1,h2];simp;lia
 |some s =>
  have h1:([some s]:List (Option Nat)).filter (λd=>d.isNone)=[]:=rfl;rw[h1]
  by_cases q:s % 2=1
  .have h2:([some s] : List (Option Nat)).filter (λd => slant d) = [some s] := by rw[List.filter_cons_of_pos (by show (s % 2 == 1)=true;simp[q])];rfl
   rw[h2];simp;lia
  .have h2:([some s] : List (Option Nat)).filter (λd => slant d) = [] := by rw[List.filter_cons_of_neg (by show ¬ (s % 2 == 1)=true;simp[q])];rfl
   rw[h2];simp;lia
theorem ziw:∀(l:List (Option Nat)) (e:Edge),(nL (wby e l):Int)-nS (wby e l)=swg l
 |[],_=>rfl
 |d::l,e=>by
  have ih:=ziw l (edgeB e d);unfold nL nS swg at *;show ((((e,d)::wby (edgeB e d) l).filter λq=>q.2.isNone).length:Int)-(((e,d)::wby (edgeB e d) l).filter λq=>slant q.2).length=_;simp only[List.filter_cons]
  cases d.isNone <;> cases slant d <;> simp <;> lia
theorem zgV:∀(l:List (Option Nat)) (e:Edge) (q:Edge×Option Nat),(wby e l)[(wby e l).length-1]?=some q->edgeB q.1 q.2=eAt e l
 |[],_,_,h=>by cases h
 |[d],e,q,h=>by cases h;rfl
 |d::d'::l,e,q,h=>by
  refine zgV (d'::l) (edgeB e d) q ?_
  rw[<- h];show _=((e,d)::wby (edgeB e d) (d'::l))[(wby (edgeB e d) (d'::l)).length+1-1]?;rw[Nat.add_sub_cancel];obtain⟨m,hm⟩:∃m,(wby (edgeB e d) (d'::l)).length=m+1:=⟨_,rfl⟩;rw[hm,D4];rfl
theorem zdw{r:Rnd}:Fine r ↔ eAt (begE r) (deeds (begE r).w r.row)=begE r/\swg (deeds (begE r).w r.row)=moreL r.so/\zbL (rw_ r) r.so (begE r):=by
 have hs:(nL (rw_ r):Int)-nS (rw_ r)=swg (deeds (begE r).w r.row):=ziw _ _;obtain⟨f2,hf⟩:∃f2,(rw_ r)[0]?=some (begE r,f2):=zeH _ _ (zbY _ _);have hp:0<(rw_ r).length:=(Ad.mp hf).1;obtain⟨l,hl⟩:∃l,(rw_ r)[(rw_ r).length-1]?=some l:=⟨_,Ab (by lia)⟩;have hb:=zgV _ _ _ hl;unfold Fine;rw[hs];constructor
 .rintro⟨h1,h2,h3⟩;exact⟨hb.symm.trans (h1 _ _ hf hl),h2,h3⟩
 .rintro⟨h1,h2,h3⟩;refine⟨λf l' q1 q2=>?_,h2,h3⟩;rw[hf]at q1;rw[hl]at q2
  cases q1
  cases q2
  exact hb.trans h1
noncomputable def tLast(K:W.Frag):TE:=tOp (rIxL K) (tVar 7) (tUn (rU λi=>V.int (-i)) (tC (V.int 1)))
noncomputable def tSeeB (K:W.Frag) (ts:TE):TS:=tDrop (tBM K "list" zgt (tVar 8) (tCons (tCall spSee [] E0 (tCons (tVar 6) (tCons (tCall zcd [] E0 (tCons (tVar 2) (tCons (tVar 3) (tCons ts tNil)))) (tCons (tC (V.bl false)) tNil)))) tNil))
noncomputable def zgl (K:W.Frag):TS:=tDrop (tBM K "list" ziW (tVar 8) (tCons (tCall (zgm K) [] E0 (tCons (tVar 6) (tCons (tLast K) tNil))) tNil))
theorem ziN{K:W.Frag}{ts:TE}{D:Ends}{σ : St}{H6:Hp}{dd Fl:Addr}{x y:Int}{n:Nat}{bs:List Bool}{kvs:List (List Key × V)}{L:List (Cell × Bool)}(h2 : σ[2]? = some (some (.int x)))(h3 : σ[3]? = some (some (.int y)))(h6 : σ[6]? = some (some (.ref dd)))(h8 : σ[8]? = some (some (.ref Fl)))
  (hd:H6 dd=some (.dT kvs)) (hf:H6 Fl=some (.lst (bs.map V.bl))) (hk:Kf kvs L) (hl:kvs.length<=16000) (hb:bs.length<=16000) (hn:n<8) (ht:∀Q:VK,Q (.int (n:Int)) H6->ts σ H6 Q)
  (k:∀H7 kv7,H7 dd=some (.dT kv7)->Kf kv7 (L++[(go (x,y) n,false)])->kv7.length<=kvs.length+1->H7 Fl=some (.lst ((bs++[agree L (go (x,y) n) false]).map V.bl))->(∀z o,z≠dd->z≠Fl->H6 z=some o->H7 z=some o)->D.nx σ H7) :
  tSeeB K ts D σ H6:=by
 have hFd:Fl≠dd:=ne_of hf hd (λz=>nomatch z);refine⟨_,h8,.inl ⟨rfl,_,SqL.of hf⟩,_,h6,_,h2,_,h3,ht _ ⟨(x,y),n,rfl,hn,λp1 H7 hp1 s7 e7=>?_⟩⟩;refine⟨dd,p1,go (x,y) n,false,L,kvs,rfl,s7 _ _ hd,hk,e7,by lia,λH8 kv8 d8 k8 f8 hk8 l8=>?_⟩;have hf8:=k8 _ _ hFd (s7 _ _ hf);refine⟨Fl,_,_,rfl,rfl,hf8,B7 (show (bs.map V.bl).length<=16000 by rw[Ai];exact hb) (by decide),?_⟩;refine k _ kv8 (by rw[zai (Bx hFd)];exact d8) hk8 l8 (by rw[zaa,AS];rfl) λz o z1 z2 h=>?_
 rw[zai z2];exact k8 z o z1 (s7 _ _ h)
theorem zg2{K:W.Frag}{D:Ends}{σ : St}{H6:Hp}{dd El Fl bb:Addr}{e:Edge}{es:List V}{bs:List Bool}{kvs:List (List Key × V)}{L:List (Cell × Bool)}(h6 : σ[6]? = some (some (.ref dd)))(h7 : σ[7]? = some (some (.ref El)))(h8 : σ[8]? = some (some (.ref Fl)))
  (hd:H6 dd=some (.dT kvs)) (he:H6 El=some (.lst es)) (hlast:es[es.length-1]?=some (.ref bb)) (hbb:H6 bb=some (.tup (edgeT e))) (hw:e.w<4) (hf:H6 Fl=some (.lst (bs.map V.bl))) (hk:Kf kvs L) (hl:kvs.length<=16000) (hb:bs.length<=16000)
  (k:∀H7 kv7 b1 b2,H7 dd=some (.dT kv7)->Kf kv7 (L++std e)->kv7.length<=kvs.length+2->H7 Fl=some (.lst ((bs++[b1,b2]).map V.bl))->(Con (L++std e) ↔ Con L∨b1=false∨b2=false)->(∀z o,z≠dd->z≠Fl->H6 z=some o->H7 z=some o)->D.nx σ H7) :
  zgl K D σ H6:=by
 have hFd:Fl≠dd:=ne_of hf hd (λz=>nomatch z)
 have hp:0<es.length:=by have:=(Ad.mp hlast).1;lia
 refine⟨_,h8,.inl ⟨rfl,_,SqL.of hf⟩,_,h6,_,h7,_,rfl,El,es,_,_,rfl,rfl,SqL.of he,(zcA hp).trans hlast,dd,bb,e,L,kvs,rfl,hd,hk,hbb,hw,hl,λp H7 kv7 b1 b2 hpn f7 d7 k7 hk7 l7 hc=>?_⟩;have hf7:=k7 _ _ hFd hf;have hpF:p≠Fl:=λz=>by rw[z,hf]at hpn;cases hpn
 refine⟨Fl,p,_,_,rfl,rfl,hf7,f7,(by rw[Ai];exact AN (show bs.length+2<=16002 by lia) (by decide)),?_⟩;refine k _ kv7 b1 b2 (by rw[zai (Bx hFd)];exact d7) hk7 l7 (by rw[zaa,AS];rfl) hc λz o z1 z2 h=>?_
 rw[zai z2];exact k7 z o z1 h
noncomputable def tPutB (K:W.Frag) (te:TE):TS:=tDrop (tBM K "list" zgt (tVar 7) (tCons te tNil))
noncomputable def turnB(K:W.Frag):TS:=tSeq (tAsg (tLast K) (gTup K 3 (gCons (gName 2) (gCons (gName 3) (gCons (gName 12) gNil)))))
 (tSeq (tSeeB K (tOp (rI CMul λi j=>V.int (i*j)) (tC (V.int 2)) (tVar 12)))
 (tSeq (tSeeB K (tOp (rI (λx j=>0<j) λi j=>V.int (i % j)) (tOp (rI0 λi j=>V.int (i+j)) (tOp (rI CMul λi j=>V.int (i*j)) (tC (V.int 2)) (tVar 12)) (tC (V.int 7))) (tC (V.int 8))))
 (tSeq (tPutB K (tTup (tCons (tVar 2) (tCons (tVar 3) (tCons (tOp (rI (λx j=>0<j) λi j=>V.int (i % j)) (tOp (rI0 λi j=>V.int (i+j)) (tVar 12) (tC (V.int 1))) (tC (V.int 4))) tNil)))))
 (tSeq (zgl K) (tAsg (tOp (rI0 λi j=>V.int (i+j)) (tVar 9) (tC (V.int 1))) (gName 9))))))
theorem DSt.last{H:Hp}{e0:Edge}{dd E F:Addr}{l:List (Option Nat)}{H1:Hp}(st:DSt H e0 dd E F l H1):∃es bb,H1 E=some (.lst es)/\VR es (za6 e0 l) eR H1/\es.length=l.length+1/\es[es.length-1]?=some (.ref bb)/\H1 bb=some (.tup (edgeT (eAt e0 l))):=by
 obtain⟨es,he,hv⟩:=st.edg;have hl:es.length=l.length+1:=by rw[hv.1,zd3]
 obtain⟨v,hv1⟩:∃v,es[l.length]?=some v:=⟨_,Ab (by lia)⟩;obtain⟨x,hx,bb,rfl,q⟩:=hv.at hv1;rw[zfZ]at hx
 cases hx
 exact⟨es,bb,he,hv,hl,by rw[hl,Nat.add_sub_cancel];exact hv1,q⟩
theorem zli{K:W.Frag}{D:Ends}{H H6:Hp}{e0:Edge}{dd El Fl:Addr}{l:List (Option Nat)}{a so b kk at_ gl o2 o3 o12 o13:Option V}{sw:Int}(hd0:H dd=none)(hE0:H El=none)(hF0:H Fl=none)(st:DSt H e0 dd El Fl l H6)(hl:l.length <= 2000)(hw0:e0.w < 4)
  (k:∀H7 x y w,DSt H e0 dd El Fl (l++[none]) H7->D.nx [a,so,x,y,b,kk,some (.ref dd),some (.ref El),some (.ref Fl),some (.int (sw+1)),at_,gl,w,o13] H7) :
  turnB K D [a,so,o2,o3,b,kk,some (.ref dd),some (.ref El),some (.ref Fl),some (.int sw),at_,gl,o12,o13] H6:=by
 obtain⟨es,bb,he,hv,hel,hlast,hbb⟩:=st.last;obtain⟨kvs,hd,hk,hkl⟩:=st.dct;obtain⟨bs,hf,hbs,hbl⟩:=st.fin;have hw:(eAt e0 l).w<4:=zeB l hw0;have hEd:El≠dd:=ne_of he hd (λz=>nomatch z);have hFd:Fl≠dd:=ne_of hf hd (λz=>nomatch z);have hEF:=st.ne;have hp:0<es.length:=by lia
 refine⟨_,rfl,_,rfl,El,es,_,_,rfl,rfl,SqL.of he,(zcA hp).trans hlast,bb,_,rfl,SqT.of hbb,rfl,_,_,rfl,_,_,rfl,_,_,rfl,rfl,?_⟩;simp only[zaw,AH,AD];have m2:(2:Int)*((eAt e0 l).w:Int)=((2*(eAt e0 l).w:Nat):Int):=by lia
 have m7:(2*((eAt e0 l).w:Int)+7) % 8=(((2*(eAt e0 l).w+7) % 8:Nat):Int):=by lia
 have m4:(((eAt e0 l).w:Int)+1) % 4=((((eAt e0 l).w+1) % 4:Nat):Int):=by lia
 refine ziN (n:=2*(eAt e0 l).w) rfl rfl rfl rfl hd hf hk (by lia) (by lia) (by lia) (λQ q=>⟨_,rfl,_,_,rfl,rfl,.inl ⟨by decide,by decide⟩,by show Q (.int (2*((eAt e0 l).w:Int))) _;rw[m2];exact q⟩) λH7 kv7 d7 hk7 l7 f7 k7=>?_
 refine ziN (n:=(2*(eAt e0 l).w+7) % 8) rfl rfl rfl rfl d7 f7 hk7 (by lia) (by rw[Af];simp;lia) (by lia) (λQ q=>⟨_,rfl,_,_,rfl,rfl,.inl ⟨by decide,by decide⟩,_,_,rfl,rfl,_,_,rfl,rfl,(by show (0:Int)<8;decide),by show Q (.int ((2*((eAt e0 l).w:Int)+7) % 8)) _;rw[m7];exact q⟩) λH8 kv8 d8 hk8 l8 f8 k8=>?_
 have he8:=k8 _ _ hEd hEF (k7 _ _ hEd hEF he);refine⟨_,rfl,.inl ⟨rfl,_,SqL.of he8⟩,_,rfl,_,rfl,_,rfl,_,_,rfl,rfl,_,_,rfl,rfl,(by show (0:Int)<4;decide),(by show 3<=sizeLine;decide),λt9 ht9=>?_⟩;have s9:Same H8 (upd H8 t9 (.tup [.int (eAt e0 l).c.1,.int (eAt e0 l).c.2,.int ((((eAt e0 l).w:Int)+1) % 4)])):=Same.up ht9;have e9:upd H8 t9 (.tup [.int (eAt e0 l).c.1,.int (eAt e0 l).c.2,.int ((((eAt e0 l).w:Int)+1) % 4)]) t9=some (.tup (edgeT (edgeB (eAt e0 l) none))):=by rw[zaa,m4];rfl
 generalize upd H8 t9 (.tup [.int (eAt e0 l).c.1,.int (eAt e0 l).c.2,.int ((((eAt e0 l).w:Int)+1) % 4)])=H9 at s9 e9;have he9:=s9 _ _ he8;refine⟨El,_,_,rfl,rfl,he9,B7 (show es.length<=16000 by lia) (by decide),?_⟩;have d10:upd H9 El (.lst (es++[.ref t9])) dd=some (.dT kv8):=by rw[zai (Bx hEd)];exact s9 _ _ d8
 have f10:=(show upd H9 El (.lst (es++[.ref t9])) Fl=H9 Fl from zai (Bx hEF)).trans (s9 _ _ f8);have e10:upd H9 El (.lst (es++[.ref t9])) El=some (.lst (es++[.ref t9])):=zaa;have t10:upd H9 El (.lst (es++[.ref t9])) t9=some (.tup (edgeT (edgeB (eAt e0 l) none))):=KT.lst he9 _ _ e9
 have k10:∀z o,z≠dd->z≠Fl->z≠El->H6 z=some o->upd H9 El (.lst (es++[.ref t9])) z=some o:=λz o z1 z2 z3 h=>by rw[zai z3];exact s9 _ _ (k8 _ _ z1 z2 (k7 _ _ z1 z2 h))
 generalize upd H9 El (.lst (es++[.ref t9]))=H10 at d10 f10 e10 t10 k10;refine zg2 (bb:=t9) (e:=edgeB (eAt e0 l) none) rfl rfl rfl d10 e10 (by rw[Af];simp) t10 (zdz hw) f10 hk8 (by lia) (by simp only[Af,Be,Cg];lia) λH11 kv11 b1 b2 d11 hk11 l11 f11 hc11 k11=>?_
 refine⟨_,rfl,_,_,rfl,rfl,?_⟩;simp only[zaw,AH,AD]
 have eL:std e0++lobs e0 (l++[none])=(((std e0++lobs e0 l)++[(go ((eAt e0 l).c.1,(eAt e0 l).c.2) (2*(eAt e0 l).w),false)])++[(go ((eAt e0 l).c.1,(eAt e0 l).c.2) ((2*(eAt e0 l).w+7) % 8),false)])++std (edgeB (eAt e0 l) none):=by rw[zdW];simp[lob,AA]
 have kt:KT H6 H11:=λz xs h=>k11 _ _ (ne_of h hd (λq=>nomatch q)) (ne_of h hf (λq=>nomatch q)) (k10 _ _ (ne_of h hd (λq=>nomatch q)) (ne_of h hf (λq=>nomatch q)) (ne_of h he (λq=>nomatch q)) h)
 refine k H11 _ _ _ ⟨λz o h=>?_,hEF,⟨kv11,d11,?_,?_⟩,⟨es++[.ref t9],k11 _ _ hEd hEF e10,?_⟩,⟨_,f11,?_,?_⟩⟩
 .exact k11 _ _ (zaj h hd0) (zaj h hF0) (k10 _ _ (zaj h hd0) (zaj h hF0) (zaj h hE0) (st.same _ _ h))
 .rw[eL];exact hk11
 .rw[Af];simp;lia
 .rw[zdk];exact hv.snoc (λx v h=>h.kt kt) ⟨t9,rfl,k11 _ _ (ne_of t10 d10 (λq=>nomatch q)) (ne_of t10 f10 (λq=>nomatch q)) t10⟩
 .rw[eL,hc11,zc1,zc1,<- hbs];simp only[Ap,At,Bf,or_false];constructor
  .rintro (((h |h) |h) |h |h)
   .exact .inl (.inl (.inl h))
   .exact .inl (.inl (.inr h.symm))
   .exact .inl (.inr h.symm)
   .exact .inr (.inl h.symm)
   .exact .inr (.inr h.symm)
  .rintro (((h |h) |h) |h |h)
   .exact .inl (.inl (.inl h))
   .exact .inl (.inl (.inr h.symm))
   .exact .inl (.inr h.symm)
   .exact .inr (.inl h.symm)
   .exact .inr (.inr h.symm)
 .simp only[Af,Be,Cg];lia
noncomputable def ixRow(K:W.Frag):TE:=tOp (rIxT K) (tVar 4) (tVar 10)
noncomputable def ways8:List V:=[.int 0,.int 0,.int 1,.int 1,.int 2,.int 2,.int 3,.int 3]
noncomputable def zl3(K:W.Frag):TE:=tOp (rIxL K) (tLst (tCons (tC (V.int 0)) (tCons (tC (V.int 0)) (tCons (tC (V.int 1)) (tCons (tC (V.int 1)) (tCons (tC (V.int 2)) (tCons (tC (V.int 2)) (tCons (tC (V.int 3)) (tCons (tC (V.int 3)) tNil))))))))) (ixRow K)
noncomputable def stepR(K:W.Frag):TS:=tSeq (tPutB K (tOp (rCatT K) (tCall zcd [] E0 (tCons (tVar 2) (tCons (tVar 3) (tCons (ixRow K) tNil)))) (tTup (tCons (zl3 K) tNil))))
 (tSeq (zgl K) (tAsg (tOp (rI0 λi j=>V.int (i-j)) (tVar 9) (tOp (rI (λx j=>0<j) λi j=>V.int (i % j)) (ixRow K) (tC (V.int 2)))) (gName 9)))
theorem zjU{s:Nat}(h:s<8):atI ways8 (s:Int)=some (.int ((wayB s:Nat):Int)):=by
 match s,h with
 | 0,_=>rfl
 | 1,_=>rfl
 | 2,_=>rfl
 | 3,_=>rfl
 | 4,_=>rfl
 | 5,_=>rfl
 | 6,_=>rfl
 | 7,_=>rfl
theorem zcW{K:W.Frag}{σ:St}{H6:Hp}{b:Addr}{row:List Nat}{i s:Nat}{Q:VK}(h4:σ[4]?=some (some (.ref b)))(h10:σ[10]?=some (some (.int (i:Int))))(hb:H6 b=some (.tup (rowV row)))(hs:row[i]?=some s)(q:Q (.int (s:Int)) H6):ixRow K σ H6 Q :=
 ⟨_,h4,_,h10,b,_,_,_,rfl,rfl,SqT.of hb,zaz (j:=i) (by unfold rowV;rw[A7,hs];rfl),q⟩
theorem zjX{K:W.Frag}{D:Ends}{H6:Hp}{e:Edge}{dd El Fl b:Addr}{a so kk gl x12 o13:Option V}{sw:Int}{es:List V}{row:List Nat}{i s:Nat}{bs:List Bool}{kvs:List (List Key × V)}{L:List (Cell × Bool)}
  (hd:H6 dd=some (.dT kvs)) (he:H6 El=some (.lst es)) (hEF:El≠Fl) (hf:H6 Fl=some (.lst (bs.map V.bl))) (hb:H6 b=some (.tup (rowV row))) (hs:row[i]?=some s) (h8:s<8) (hw:e.w=zaD s) (hk:Kf kvs L) (hl:kvs.length<=14000) (hbl:bs.length<=14000) (hel:es.length<=14000)
  (k:∀H7 kv7 b1 b2 t9,H7 dd=some (.dT kv7)->Kf kv7 (L++std (edgeB e (some s)))->kv7.length<=kvs.length+2->H7 Fl=some (.lst ((bs++[b1,b2]).map V.bl))->(Con (L++std (edgeB e (some s))) ↔ Con L∨b1=false∨b2=false)->H7 El=some (.lst (es++[.ref t9]))->H7 t9=some (.tup (edgeT (edgeB e (some s)))) ->
   (∀z o,z≠dd->z≠Fl->z≠El->H6 z=some o->H7 z=some o)->D.nx [a,so,some (.int e.c.1),some (.int e.c.2),some (.ref b),kk,some (.ref dd),some (.ref El),some (.ref Fl),some (.int (sw-((s:Int) % 2))),some (.int (i:Int)),gl,x12,o13] H7) :
  stepR K D [a,so,some (.int e.c.1),some (.int e.c.2),some (.ref b),kk,some (.ref dd),some (.ref El),some (.ref Fl),some (.int sw),some (.int (i:Int)),gl,x12,o13] H6:=by
 have hEd:El≠dd:=ne_of he hd (λz=>nomatch z);have hFd:Fl≠dd:=ne_of hf hd (λz=>nomatch z);have st:=zkO h8 hw;have hw':(edgeB e (some s)).w<4:=by rw[st.1];exact zin s
 refine⟨_,rfl,.inl ⟨rfl,_,SqL.of he⟩,_,rfl,_,rfl,zcW rfl rfl hb hs ⟨e.c,s,rfl,h8,λp1 H7 hp1 s7 e7=>?_⟩⟩;refine⟨(by show 8<=sizeLine;decide),λp2 hp2=>?_⟩;have s8:Same H7 (upd H7 p2 (.lst ways8)):=Same.up hp2;have e8:upd H7 p2 (.lst ways8) p2=some (.lst ways8):=zaa;generalize hH8:upd H7 p2 (.lst ways8)=H8 at s8 e8;have hH8':upd H7 p2 (.lst [V.int 0,V.int 0,V.int 1,V.int 1,V.int 2,V.int 2,V.int 3,V.int 3])=H8:=hH8;show ixRow K _ (upd H7 p2 (.lst [V.int 0,V.int 0,V.int 1,V.int 1,V.int 2,V.int 2,V.int 3,V.int 3])) _;rw[hH8'];have s78:=s7.trans s8;refine zcW rfl rfl (s78 _ _ hb) hs ⟨p2,_,_,_,rfl,rfl,SqL.of e8,zjU h8,?_⟩;refine⟨zdQ,λp3 hp3=>?_⟩;have s9:Same H8 (upd H8 p3 (.tup [.int ((wayB s:Nat):Int)])):=Same.up hp3;have e9:upd H8 p3 (.tup [.int ((wayB s:Nat):Int)]) p3=some (.tup [.int ((wayB s:Nat):Int)]):=zaa;generalize upd H8 p3 (.tup [.int ((wayB s:Nat):Int)])=H9 at s9 e9;have e79:=(s8.trans s9) _ _ e7;refine⟨p1,p3,_,_,rfl,rfl,SqT.of e79,SqT.of e9,(λz=>nomatch z),(by show 3<=sizeLine;decide),(λz=>nomatch z),λ_ p4 hp4=>?_⟩
 have et:cellT (go e.c s)++[.int ((wayB s:Nat):Int)]=edgeT (edgeB e (some s)):=by have:edgeT (edgeB e (some s))=[.int (edgeB e (some s)).c.1,.int (edgeB e (some s)).c.2,.int ((edgeB e (some s)).w:Int)]:=rfl;rw[this,st.1,st.2];rfl
 rw[et];have s10:Same H9 (upd H9 p4 (.tup (edgeT (edgeB e (some s))))):=Same.up hp4;have e10:upd H9 p4 (.tup (edgeT (edgeB e (some s)))) p4=some (.tup (edgeT (edgeB e (some s)))):=zaa;generalize upd H9 p4 (.tup (edgeT (edgeB e (some s))))=H10 at s10 e10;have s610:Same H6 H10:=s78.trans (s9.trans s10);have he10:=s610 _ _ he;refine⟨El,_,_,rfl,rfl,he10,B7 hel (by decide),?_⟩;have d11:upd H10 El (.lst (es++[.ref p4])) dd=some (.dT kvs):=by rw[zai (Bx hEd)];exact s610 _ _ hd
 have f11:upd H10 El (.lst (es++[.ref p4])) Fl=some (.lst (bs.map V.bl)):=by rw[zai (Bx hEF)];exact s610 _ _ hf
 have e11:upd H10 El (.lst (es++[.ref p4])) El=some (.lst (es++[.ref p4])):=zaa;have t11:upd H10 El (.lst (es++[.ref p4])) p4=some (.tup (edgeT (edgeB e (some s)))):=KT.lst he10 _ _ e10
 have k11:∀z o,z≠El->H6 z=some o->upd H10 El (.lst (es++[.ref p4])) z=some o:=λz o z3 h=>by rw[zai z3];exact s610 _ _ h
 generalize upd H10 El (.lst (es++[.ref p4]))=H11 at d11 f11 e11 t11 k11;refine zg2 (bb:=p4) (e:=edgeB e (some s)) rfl rfl rfl d11 e11 (by rw[Af];simp) t11 hw' f11 hk (by lia) (by lia) λH12 kv12 b1 b2 d12 hk12 l12 f12 hc12 k12=>?_
 have hb12:H12 b=some (.tup (rowV row)):=k12 _ _ (ne_of hb hd (λq=>nomatch q)) (ne_of hb hf (λq=>nomatch q)) (k11 _ _ (ne_of hb he (λq=>nomatch q)) hb);refine⟨_,rfl,zcW rfl rfl hb12 hs ⟨_,_,rfl,rfl,(by show (0:Int)<2;decide),_,_,rfl,rfl,?_⟩⟩;simp only[zaw,AH,AD];exact k H12 kv12 b1 b2 p4 d12 hk12 l12 f12 hc12 (k12 _ _ hEd hEF e11) (k12 _ _ (ne_of t11 d11 (λq=>nomatch q)) (ne_of t11 f11 (λq=>nomatch q)) t11) (λz o z1 z2 z3 h=>k12 _ _ z1 z2 (k11 _ _ z3 h))
noncomputable def stepT(K:W.Frag):TS:=tSeq (tAsg (tLast K) (gTup K 3 (gCons (gName 2) (gCons (gName 3) (gCons (gName 12) gNil)))))
 (tSeq (tIfS (tTest (tOp rEq (tOp (rI (λx j=>0<j) λi j=>V.int (i % j)) (ixRow K) (tC (V.int 2))) (tC (V.int 0))))
  (tSeeB K (tOp (rI (λx j=>0<j) λi j=>V.int (i % j)) (tOp (rI0 λi j=>V.int (i+j)) (tOp (rI CMul λi j=>V.int (i*j)) (tC (V.int 2)) (tVar 12)) (tC (V.int 7))) (tC (V.int 8)))) tNext) (stepR K))
theorem zlm{K:W.Frag}{D:Ends}{H H6:Hp}{e0:Edge}{dd El Fl b:Addr}{l:List (Option Nat)}{a so kk gl o2 o3 o12 o13:Option V}{sw:Int}{row:List Nat}{i s:Nat}(hd0:H dd=none)(hE0:H El=none)(hF0:H Fl=none)(hb0:H b=some (.tup (rowV row)))(hs:row[i]? = some s)(h8:s < 8)
    (st:DSt H e0 dd El Fl l H6) (hl:l.length<=2000) (hw0:e0.w<4) (hw:(eAt e0 l).w=zaD s)
    (k:∀H7 x y w,DSt H e0 dd El Fl (l++[some s]) H7->D.nx [a,so,x,y,some (.ref b),kk,some (.ref dd),some (.ref El),some (.ref Fl),some (.int (sw-((s:Int) % 2))),some (.int (i:Int)),gl,w,o13] H7) :
    stepT K D [a,so,o2,o3,some (.ref b),kk,some (.ref dd),some (.ref El),some (.ref Fl),some (.int sw),some (.int (i:Int)),gl,o12,o13] H6:=by
  obtain⟨es,bb,he,hv,hel,hlast,hbb⟩:=st.last;obtain⟨kvs,hd,hk,hkl⟩:=st.dct;obtain⟨bs,hf,hbs,hbl⟩:=st.fin;have hEd:El≠dd:=ne_of he hd (λz=>nomatch z);have hFd:Fl≠dd:=ne_of hf hd (λz=>nomatch z);have hEF:=st.ne;have hp:0<es.length:=by lia
  have hb:=st.same _ _ hb0;have hw4:(eAt e0 l).w<4:=zeB l hw0;have m7:(2*((eAt e0 l).w:Int)+7) % 8=(((2*(eAt e0 l).w+7) % 8:Nat):Int):=by lia
  refine⟨_,rfl,_,rfl,El,es,_,_,rfl,rfl,SqL.of he,(zcA hp).trans hlast,bb,_,rfl,SqT.of hbb,rfl,_,_,rfl,_,_,rfl,_,_,rfl,rfl,?_⟩;simp only[zaw,AH,AD]
  have rest:∀(more:List (Cell × Bool)) (mb:List Bool) (H7:Hp) (kv7:List (List Key × V)), lob (eAt e0 l) (some s)=more ++ std (edgeB (eAt e0 l) (some s)) -> mb.length <= 2 -> H7 dd=some (.dT kv7) -> Kf kv7 ((std e0 ++ lobs e0 l) ++ more) -> kv7.length <= kvs.length + 1 -> H7 Fl=some (.lst ((bs ++ mb).map V.bl)) ->
      (false∈bs++mb ↔ Con ((std e0++lobs e0 l)++more))->(∀z o,z≠dd->z≠Fl->H6 z=some o->H7 z=some o) ->
      stepR K D [a,so,some (.int (eAt e0 l).c.1),some (.int (eAt e0 l).c.2),some (.ref b),kk,some (.ref dd),some (.ref El),some (.ref Fl),some (.int sw),some (.int (i:Int)),gl,some (.int ((eAt e0 l).w:Int)),o13] H7:=λmore mb H7 kv7 hm hmb d7 hk7 l7 f7 hc7 k7=>by
    have he7:=k7 _ _ hEd hEF he;have hb7:=k7 _ _ (ne_of hb hd (λq=>nomatch q)) (ne_of hb hf (λq=>nomatch q)) hb;refine zjX (e:=eAt e0 l) (K:=K) d7 he7 hEF f7 hb7 hs h8 hw hk7 (by lia) (by rw[Af];lia) (by lia) λH8 kv8 b1 b2 t9 d8 hk8 l8 f8 hc8 e8 t8 k8=>?_
    have eL:std e0++lobs e0 (l++[some s])=((std e0++lobs e0 l)++more)++std (edgeB (eAt e0 l) (some s)):=by rw[zdW,hm];simp[AA]
    have kt:KT H6 H8:=λz xs h=>k8 _ _ (ne_of h hd (λq=>nomatch q)) (ne_of h hf (λq=>nomatch q)) (ne_of h he (λq=>nomatch q)) (k7 _ _ (ne_of h hd (λq=>nomatch q)) (ne_of h hf (λq=>nomatch q)) h)
    refine k H8 _ _ _ ⟨λz o h=>?_,hEF,⟨kv8,d8,?_,?_⟩,⟨_,e8,?_⟩,⟨_,f8,?_,?_⟩⟩
    . exact k8 _ _ (zaj h hd0) (zaj h hF0) (zaj h hE0) (k7 _ _ (zaj h hd0) (zaj h hF0) (st.same _ _ h))
    . rw[eL];exact hk8
    . rw[Af];simp;lia
    . rw[zdk];exact hv.snoc (λx v h=>h.kt kt) ⟨t9,rfl,t8⟩
    . rw[eL,hc8,<- hc7];simp only[Ap,At,Bf,or_false];constructor
      . rintro (h |h |h)
        . exact .inl h
        . exact .inr (.inl h.symm)
        . exact .inr (.inr h.symm)
      . rintro (h |h |h)
        . exact .inl h
        . exact .inr (.inl h.symm)
        . exact .inr (.inr h.symm)
    . simp only[Af,Be,Cg];lia
  refine zcW rfl rfl hb hs ⟨_,_,rfl,rfl,(by show (0:Int)<2;decide),rfl,_,rfl,?_⟩
  by_cases h2:s % 2=0
  . refine iteY (decide_eq_true (congrArg V.int (by lia))) ?_
    refine ziN (n:=(2*(eAt e0 l).w+7) % 8) rfl rfl rfl rfl hd hf hk (by lia) (by lia) (by lia) (λQ q=>⟨_,rfl,_,_,rfl,rfl,.inl ⟨by decide,by decide⟩,_,_,rfl,rfl,_,_,rfl,rfl,(by show (0:Int)<8;decide),by show Q (.int ((2*((eAt e0 l).w:Int)+7) % 8)) _;rw[m7];exact q⟩) λH7 kv7 d7 hk7 l7 f7 k7=>?_
    refine rest [(go ((eAt e0 l).c.1,(eAt e0 l).c.2) ((2*(eAt e0 l).w+7) % 8),false)] _ H7 kv7 (by show (if s % 2=0 then _ else _)++_=_;rw[if_pos h2]) (by simp) d7 hk7 l7 f7 ?_ k7;rw[zc1,<- hbs];simp only[Ap,At,Bf,or_false];constructor
    . rintro (h |h)
      . exact .inl h
      . exact .inr h.symm
    . rintro (h |h)
      . exact .inl h
      . exact .inr h.symm
  . refine iteN (decide_eq_false (λz=>h2 (by have:=V.int.inj z;lia))) ?_
    refine rest [] [] H6 kvs (by show (if s % 2=0 then _ else _)++_=_;rw[if_neg h2]) (by simp) hd (by rw[AE];exact hk) (by lia) (by rw[AE];exact hf) (by rw[AE,AE];exact hbs) (λ_ _ _ _ h=>h)
noncomputable def lenR(K:W.Frag):List V->Hp->VK->Prop:=λxs H Q=>∃p ys,xs=[V.ref p]/\(SqL K H p ys∨SqT K H p ys)/\Q (V.int ↑ys.length) H
noncomputable def turnC(K:W.Frag):TT:=tOr (tTest (tOp rNe (tOp (rIxT K) (tLast K) (tC (V.int 2))) (tVar 11)))
 (tAnd (tTest (tOp (rEqD K) (tVar 4) (tTup tNil))) (tTest (tOp (rI0 λi j=>V.bl (decide (i<j))) (tCB (lenR K) (tCons (tVar 7) tNil)) (tC (V.int 5)))))
theorem zmk{K:W.Frag}{H:Hp}{b:Addr}{row:List Nat}(h:H b=some (.tup (rowV row))):RD K H (.ref b) (tI (row.map λn:Nat=>(n:Int))):=.tup (SqT.of (by rw[List.map_map];exact h)) (RDs.ints _)
theorem zml{K:W.Frag}{H:Hp}{b:Addr}(h:H b=some (.tup [])):RD K H (.ref b) (tI []):=.tup (SqT.of h) (RDs.ints [])
theorem DSt.up{H:Hp}{e0:Edge}{dd E F:Addr}{l:List (Option Nat)}{H1 H2:Hp}(st:DSt H e0 dd E F l H1)(s:Same H1 H2):DSt H e0 dd E F l H2 :=
 ⟨st.same.trans s,st.ne,let ⟨k,a,b,c⟩:=st.dct;⟨k,s _ _ a,b,c⟩,let ⟨es,a,b⟩:=st.edg;⟨es,s _ _ a,b.mono λx v h=>h.same s⟩,let ⟨bs,a,b,c⟩:=st.fin;⟨bs,s _ _ a,b,c⟩⟩
theorem zgT{K:W.Frag}{D:Ends}{H H6:Hp}{e0:Edge}{dd El Fl b:Addr}{l0:List (Option Nat)}{a so kk at_ o2 o3 o12 o13:Option V}{row:List Nat}{t gl:Nat}(hd0:H dd=none)(hE0:H El=none)(hF0:H Fl=none)(hb0:H b=some (.tup (rowV row)))
    (st:DSt H e0 dd El Fl l0 H6) (hl:l0.length+t<=2000) (hw0:e0.w<4) (hcond:∀j,j<=t->((((eAt e0 l0).w+j) % 4≠gl∨(row=[]/\l0.length+j+1<5)) ↔ j<t))
    (k:∀H7 x y w,DSt H e0 dd El Fl (l0++Ae t none) H7->D.nx [a,so,x,y,some (.ref b),kk,some (.ref dd),some (.ref El),some (.ref Fl),some (.int (swg (l0++Ae t none))),at_,some (.int (gl:Int)),w,o13] H7) :
    zgZ (turnC K) (turnB K) D [a,so,o2,o3,some (.ref b),kk,some (.ref dd),some (.ref El),some (.ref Fl),some (.int (swg l0)),at_,some (.int (gl:Int)),o12,o13] H6:=by
  refine⟨λm σ H7=>m<=t/\∃x y w,σ=[a,so,x,y,some (.ref b),kk,some (.ref dd),some (.ref El),some (.ref Fl),some (.int (swg (l0++Ae (t-m) none))),at_,some (.int (gl:Int)),w,o13]/\DSt H e0 dd El Fl (l0++Ae (t-m) none) H7,
    ⟨t,Aj _,o2,o3,o12,by rw[Nat.sub_self];simp,by rw[Nat.sub_self];simpa using st⟩,?_⟩
  rintro m σ H7 ⟨hm,x,y,w,rfl,st7⟩;obtain⟨es,bb,he,hv,hel,hlast,hbb⟩:=st7.last;have hp:0<es.length:=by lia
  have hway:(eAt e0 (l0++Ae (t-m) none)).w=((eAt e0 l0).w+(t-m)) % 4:=by rw[zfi];exact (zdt _ _ (zeB l0 hw0)).1
  have hc:=hcond (t-m) (by lia);have hll:(l0++Ae (t-m) none).length=l0.length+(t-m):=by rw[Af,Bs]
  have go1:∀H8, t-m < t -> DSt H e0 dd El Fl (l0 ++ Ae (t-m) none) H8 -> ∃N:St -> Hp -> Prop, (∀ σ' H', N σ' H' -> ∃m', m' < m /\ (m' <= t /\ ∃x y w, σ' = [a, so, x, y, some (.ref b), kk, some (.ref dd), some (.ref El), some (.ref Fl), some (.int (swg (l0 ++ Ae (t-m') none))), at_, some (.int (gl:Int)), w, o13] /\ DSt H e0 dd El Fl (l0 ++ Ae (t-m') none) H')) /\
      turnB K { D with nx:=N,ct:=N,bk:=D.nx } [a,so,x,y,some (.ref b),kk,some (.ref dd),some (.ref El),some (.ref Fl),some (.int (swg (l0++Ae (t-m) none))),at_,some (.int (gl:Int)),w,o13] H8:=λH8 hlt st8=>by
    obtain⟨m',rfl⟩:∃m',m=m'+1:=⟨m-1,by lia⟩
    have er:l0++Ae (t-(m'+1)) (none:Option Nat)++[none]=l0++Ae (t-m') none:=by rw[AA,show t-m'=(t-(m'+1))+1 by lia,List.replicate_succ']
    refine⟨λσ' H'=>∃x y w,σ'=[a,so,x,y,some (.ref b),kk,some (.ref dd),some (.ref El),some (.ref Fl),some (.int (swg (l0++Ae (t-m') none))),at_,some (.int (gl:Int)),w,o13]/\DSt H e0 dd El Fl (l0++Ae (t-m') none) H',λσ' H' h=>⟨m',Nat.lt_succ_self _,by lia,h⟩,?_⟩;refine zli hd0 hE0 hF0 st8 (by lia) hw0 λH9 x y w st9=>⟨x,y,w,?_,by rw[<- er];exact st9⟩
    rw[<- er,zg0]
  refine⟨_,rfl,_,rfl,El,es,_,_,rfl,rfl,SqL.of he,(zcA hp).trans hlast,bb,_,_,_,rfl,rfl,SqT.of hbb,zaz (j:=2) rfl,_,rfl,rfl,_,rfl,?_⟩
  by_cases h1:((eAt e0 l0).w+(t-m)) % 4=gl
  . refine iteN (by simp[hway,h1]) ?_
    refine⟨_,rfl,A6 _,λp hpn=>?_⟩;have s8:Same H7 (upd H7 p (.tup [])):=Same.up hpn;have e8:upd H7 p (.tup []) p=some (.tup []):=zaa;generalize upd H7 p (.tup [])=H8 at s8 e8;have hb8:=(st7.up s8).same _ _ hb0;refine⟨_,_,zmk hb8,zml e8,zaV _,zaV _,_,rfl,?_⟩;rw[zez]
    by_cases h2:row=[]
    . refine iteY (decide_eq_true (by rw[h2];rfl)) ?_
      refine⟨_,rfl,El,_,rfl,.inl (SqL.of (s8 _ _ he)),_,_,rfl,rfl,_,rfl,?_⟩
      by_cases h3:l0.length+(t-m)+1<5
      . exact iteY (decide_eq_true (by lia)) (go1 H8 (hc.mp (.inr ⟨h2,h3⟩)) (st7.up s8))
      . refine iteN (decide_eq_false (by lia)) ?_
        have hmt:t-m=t:=by
          rcases Bi (t-m) t with q |q
          . rcases hc.mpr q with z |z
            . exact absurd h1 z
            . exact absurd z.2 h3
          . lia
        have:=k H8 x y w (by have:=st7.up s8;rwa [hmt]at this)
        rwa [<- hmt]at this
    . refine iteN (decide_eq_false (λz=>h2 (List.map_eq_nil_iff.mp z))) ?_
      refine iteF ?_
      have hmt:t-m=t:=by
        rcases Bi (t-m) t with q |q
        . rcases hc.mpr q with z |z
          . exact absurd h1 z
          . exact absurd z.1 h2
        . lia
      have:=k H8 x y w (by have:=st7.up s8;rwa [hmt]at this)
      rwa [<- hmt]at this
  . refine iteY (by simp[hway];lia) ?_
    exact iteT (go1 H7 (hc.mp (.inl h1)) st7)
theorem RDs.bools{K:W.Frag}{H:Hp}:∀(bs:List Bool),RDs K H (bs.map V.bl) (bs.map PyData.bool)
 |[]=>.nil
 |b::r=>.cons (.bl b) (RDs.bools r)
theorem zjP(bs:List Bool):((bs.map PyData.bool).any λe=>PyData.eqv e (.bool false))=bs.contains false:=by
 induction bs with
 |nil=>rfl
 |cons b r ih =>
  rw[BA,List.any_cons,ih,List.contains_cons]
  cases b <;> rfl
noncomputable def zey:List V:=[.int 0,.int 1,.int 1,.int 2,.int 2,.int 3,.int 3,.int 0]
theorem zjv{s:Nat}(h:s<8):atI zey (s:Int)=some (.int ((zaD s:Nat):Int)):=by
 match s,h with
 | 0,_=>rfl
 | 1,_=>rfl
 | 2,_=>rfl
 | 3,_=>rfl
 | 4,_=>rfl
 | 5,_=>rfl
 | 6,_=>rfl
 | 7,_=>rfl
noncomputable def inRow(K:W.Frag):TT:=tTest (tOp (rI0 λi j=>V.bl (decide (i<j))) (tVar 10) (tCB (lenR K) (tCons (tVar 4) tNil)))
noncomputable def goalT(K:W.Frag):TS:=tAsg (tOp (rIxL K) (tLst (tCons (tC (V.int 0)) (tCons (tC (V.int 1)) (tCons (tC (V.int 1)) (tCons (tC (V.int 2)) (tCons (tC (V.int 2)) (tCons (tC (V.int 3)) (tCons (tC (V.int 3)) (tCons (tC (V.int 0)) tNil))))))))) (ixRow K)) (gName 11)
noncomputable def lastT(K:W.Frag):TS:=tIfS (tTest (tOp (rInD K) (tC (V.bl false)) (tVar 8))) (tRet (tVar 10)) tNext
noncomputable def iterT(K:W.Frag):TS:=tSeq (tIfS (inRow K) (goalT K) tNext) (tSeq (zgZ (turnC K) (turnB K)) (tSeq (tIfS (inRow K) (stepT K) tNext) (lastT K)))
theorem zjl{K:W.Frag}{D:Ends}{H H6:Hp}{e0:Edge}{dd El Fl:Addr}{l:List (Option Nat)}{σ : St}{i:Int}(h8 : σ[8]? = some (some (.ref Fl)))(h10 : σ[10]? = some (some (.int i)))(st:DSt H e0 dd El Fl l H6)
  (kr:Con (std e0++lobs e0 l)->D.rt (.int i) H6) (kn:¬ Con (std e0++lobs e0 l)->D.nx σ H6):lastT K D σ H6:=by
 obtain⟨bs,hf,hbs,hbl⟩:=st.fin;refine⟨_,h8,Fl,_,_,_,rfl,SqL.of hf,.bl false,RDs.bools bs,rfl,(λe he=>?_),_,rfl,?_⟩
 .obtain⟨b,_,rfl⟩:=Bd.mp he;rfl
 .rw[zjP]
  by_cases h:false∈bs
  .exact iteY (by simpa using h) ⟨_,h10,kr (hbs.mp h)⟩
  .exact iteN (by simpa using h) (kn λz=>h (hbs.mpr z))
theorem zjr{K:W.Frag}{D:Ends}{H H6:Hp}{e0:Edge}{dd El Fl b:Addr}{l0:List (Option Nat)}{a so kk gl0 o2 o3 o12 o13:Option V}{row:List Nat}{i s:Nat}(hd0:H dd=none)(hE0:H El=none)(hF0:H Fl=none)(hb0:H b=some (.tup (rowV row)))
  (st:DSt H e0 dd El Fl l0 H6) (hl:l0.length<=1990) (hw0:e0.w<4) (hs:row[i]?=some s) (h8:s<8)
  (kr:Con (std e0++lobs e0 (l0++(Ae ((zaD s+4-(eAt e0 l0).w) % 4) none++[some s])))->∀H7,Same H H7->D.rt (.int (i:Int)) H7)
  (kn:¬ Con (std e0++lobs e0 (l0++(Ae ((zaD s+4-(eAt e0 l0).w) % 4) none++[some s])))->∀H7 x y g w,DSt H e0 dd El Fl (l0++(Ae ((zaD s+4-(eAt e0 l0).w) % 4) none++[some s])) H7 ->
   D.nx [a,so,x,y,some (.ref b),kk,some (.ref dd),some (.ref El),some (.ref Fl),some (.int (swg (l0++(Ae ((zaD s+4-(eAt e0 l0).w) % 4) none++[some s])))),some (.int (i:Int)),g,w,o13] H7) :
  iterT K D [a,so,o2,o3,some (.ref b),kk,some (.ref dd),some (.ref El),some (.ref Fl),some (.int (swg l0)),some (.int (i:Int)),gl0,o12,o13] H6:=by
 have hil:i<row.length:=(Ad.mp hs).1;have hrv:(rowV row).length=row.length:=Ai ..;have hb:=st.same _ _ hb0;have hwl:=zeB l0 hw0;have hg4:=zcc s;have hne:row≠[]:=λz=>by rw[z]at hs;cases hs
 refine⟨_,rfl,_,rfl,b,_,rfl,.inr (SqT.of hb),_,_,rfl,rfl,_,rfl,iteY (decide_eq_true (by rw[hrv];lia)) ?_⟩;refine⟨(by show 8<=sizeLine;decide),λp2 hp2=>?_⟩;have s8:Same H6 (upd H6 p2 (.lst zey)):=Same.up hp2;have e8:upd H6 p2 (.lst zey) p2=some (.lst zey):=zaa;show ixRow K _ (upd H6 p2 (.lst zey)) _;generalize upd H6 p2 (.lst zey)=H8 at s8 e8;refine zcW rfl rfl (s8 _ _ hb) hs ⟨p2,_,_,_,rfl,rfl,SqL.of e8,zjv h8,?_⟩;simp only[zaw,AH,AD];refine zgT (row:=row) (t:=(zaD s+4-(eAt e0 l0).w) % 4) hd0 hE0 hF0 hb0 (st.up s8) (by lia) hw0 (λj hj=>?_) λH9 x y w st9=>?_
 .constructor
  .rintro (z |z)
   .rcases Bi j ((zaD s+4-(eAt e0 l0).w) % 4) with q |q
    .exact q
    .exact absurd ((zc3 hwl hg4 hj).mpr (by lia)) z
   .exact absurd z.1 hne
  .intro q;exact .inl λz=>by have:=(zc3 hwl hg4 hj).mp z;lia
 have hb9:=st9.same _ _ hb0
 have hw9:(eAt e0 (l0++Ae ((zaD s+4-(eAt e0 l0).w) % 4) none)).w=zaD s:=by rw[zfi,(zdt _ _ hwl).1];lia
 refine⟨_,rfl,_,rfl,b,_,rfl,.inr (SqT.of hb9),_,_,rfl,rfl,_,rfl,iteY (decide_eq_true (by rw[hrv];lia)) ?_⟩;refine zlm hd0 hE0 hF0 hb0 hs h8 st9 (by rw[Af,Bs];lia) hw0 hw9 λH10 x y w st10=>?_
 rw[AA]at st10;refine zjl rfl rfl st10 (λz=>kr z _ st10.same) λz=>?_
 have:=kn z H10 x y (some (.int ((zaD s:Nat):Int))) w st10;rw[<- AA,zg0]at this;simpa[Int.sub_eq_add_neg]using this
theorem zkr{K:W.Frag}{D:Ends}{H H6:Hp}{e0:Edge}{dd El Fl b:Addr}{l0:List (Option Nat)}{a so kk o2 o3 o12 o13:Option V}{row:List Nat}{t gl:Nat}(hd0:H dd=none)(hE0:H El=none)(hF0:H Fl=none)(hb0:H b=some (.tup (rowV row)))
  (st:DSt H e0 dd El Fl l0 H6) (hl:l0.length+t<=2000) (hw0:e0.w<4) (hcond:∀j,j<=t->((((eAt e0 l0).w+j) % 4≠gl∨(row=[]/\l0.length+j+1<5)) ↔ j<t))
  (kr:Con (std e0++lobs e0 (l0++Ae t none))->∀H7,Same H H7->D.rt (.int (row.length:Int)) H7)
  (kn:¬ Con (std e0++lobs e0 (l0++Ae t none))->∀H7 x y g w,DSt H e0 dd El Fl (l0++Ae t none) H7 ->
   D.nx [a,so,x,y,some (.ref b),kk,some (.ref dd),some (.ref El),some (.ref Fl),some (.int (swg (l0++Ae t none))),some (.int (row.length:Int)),g,w,o13] H7) :
  iterT K D [a,so,o2,o3,some (.ref b),kk,some (.ref dd),some (.ref El),some (.ref Fl),some (.int (swg l0)),some (.int (row.length:Int)),some (.int (gl:Int)),o12,o13] H6:=by
 have hrv:(rowV row).length=row.length:=Ai ..;have hb:=st.same _ _ hb0;refine⟨_,rfl,_,rfl,b,_,rfl,.inr (SqT.of hb),_,_,rfl,rfl,_,rfl,iteN (decide_eq_false (by rw[hrv];lia)) ?_⟩;refine zgT (row:=row) (t:=t) hd0 hE0 hF0 hb0 st hl hw0 hcond λH9 x y w st9=>?_
 have hb9:=st9.same _ _ hb0;refine⟨_,rfl,_,rfl,b,_,rfl,.inr (SqT.of hb9),_,_,rfl,rfl,_,rfl,iteN (decide_eq_false (by rw[hrv];lia)) ?_⟩;exact zjl rfl rfl st9 (λz=>kr z _ st9.same) λz=>kn z H9 x y _ w st9
noncomputable def preD(w:Nat)(row:List Nat)(i:Nat):List (Option Nat):=if i<=row.length then (dgo w (row.take i)).1 else deeds w row
theorem zcp{w:Nat}{row:List Nat}{i:Nat}(h:i<=row.length):preD w row i=(dgo w (row.take i)).1:=if_pos h
theorem zeU{w:Nat}{row:List Nat}:preD w row (row.length+1)=deeds w row:=if_neg (by lia)
theorem zcT{w:Nat}{row:List Nat}:preD w row 0=[]:=by rw[zcp (A6 _),Dy];rfl
theorem zhg{e:Edge}{row:List Nat}(hw:e.w<4)(h8:∀s∈row,s<8){i:Nat}(h:i<=row.length):(eAt e (preD e.w row i)).w=(dgo e.w (row.take i)).2:=by rw[zcp h];exact (zgM (row.take i) e hw λs hs=>h8 s (Bp hs)).1
theorem zfE{e:Edge}{row:List Nat}(hw:e.w < 4)(h8:∀s ∈ row, s < 8){i s:Nat}(hs:row[i]? = some s) :
  preD e.w row (i+1)=preD e.w row i++(Ae ((zaD s+4-(eAt e (preD e.w row i)).w) % 4) none++[some s]):=by
 have hi:i<row.length:=(Ad.mp hs).1;rw[zhg hw h8 (by lia),zcp (by lia),zcp (show i<=row.length by lia),zaN hs,zfk]
theorem zhh{w:Nat}{row:List Nat}:preD w row (row.length+1)=preD w row row.length++Ae (zar w row) none:=by rw[zeU,zcp (Aj _),A4];rfl
theorem zi2{w:Nat}{row:List Nat}{i:Nat}(h:i<=row.length):∃x,deeds w row=preD w row i++x:=by obtain⟨x,hx⟩:=zgO row w i;refine⟨x++Ae (zar w row) none,?_⟩;rw[zcp h,<- AA,<- hx];rfl
theorem zeq{w:Nat}{row:List Nat}{i:Nat}(h:i<=row.length):((preD w row i).filterMap id).length=i:=by rw[zcp h,zf1,AT];lia
theorem zj8{w:Nat}{row:List Nat}{i:Nat}(h:i<=row.length):(preD w row i).length<=4*row.length:=by rw[zcp h];have:=zdg (row.take i) w;rw[AT]at this;lia
theorem zkC{e:Edge}{row:List Nat}(hw:e.w<4)(h8:∀s∈row,s<8):∀j,j<=zar e.w row->((((eAt e (preD e.w row row.length)).w+j) % 4≠e.w∨(row=[]/\(preD e.w row row.length).length+j+1<5)) ↔ j<zar e.w row):=by
 intro j hj;rw[zhg hw h8 (Aj _),A4]
 cases row with
 |nil =>
  have h4:zar e.w []=4:=rfl;have h0:(dgo e.w []).2=e.w:=rfl;have hp:preD e.w [] ([]:List Nat).length=[]:=zcT;rw[h4]at hj ⊢;rw[h0,hp];simp only[Cg];constructor
  .rintro (z |z)
   .rcases Bi j 4 with q |q
    .exact q
    .exact absurd (by lia) z
   .lia
  .intro q;exact .inr ⟨Cb,by lia⟩
 |cons s r =>
  have hl:zar e.w (s::r)=(e.w+4-(dgo e.w (s::r)).2) % 4:=rfl;have hd:(dgo e.w (s::r)).2<4:=(zgM (s::r) e hw h8).2;rw[hl]at hj ⊢;have ht:=zc3 hd hw hj;constructor
  .rintro (z |z)
   .rcases Bi j ((e.w+4-(dgo e.w (s::r)).2) % 4) with q |q
    .exact q
    .exact absurd (ht.mpr (by lia)) z
   .exact absurd z.1 (λq=>nomatch q)
  .intro q;exact .inl λz=>by have:=ht.mp z;lia
theorem zkD{r:Rnd}(h8:∀s ∈ r.row, s < 8){i s:Nat}(hs:r.row[i]? = some s)(h0:preD (begE r).w r.row i ≠ [] -> ¬ Con (std (begE r) ++ lobs (begE r) (preD (begE r).w r.row i)))
  (h1:Con (std (begE r)++lobs (begE r) (preD (begE r).w r.row i++(Ae ((zaD s+4-(eAt (begE r) (preD (begE r).w r.row i)).w) % 4) none++[some s])))):Due r i:=by
 have hi:i<r.row.length:=(Ad.mp hs).1;obtain⟨x,hx⟩:=zi2 (w:=(begE r).w) (row:=r.row) (i:=i+1) (by lia);rw[zfE (zcu r) h8 hs]at hx;exact zla hx (.inr ⟨s,rfl⟩) (zeq (by lia)) h0 h1 (by simp)
theorem zlQ{r:Rnd}(h0:preD (begE r).w r.row r.row.length ≠ [] -> ¬ Con (std (begE r) ++ lobs (begE r) (preD (begE r).w r.row r.row.length)))
  (h1:Con (std (begE r)++lobs (begE r) (preD (begE r).w r.row r.row.length++Ae (zar (begE r).w r.row) none))):Due r r.row.length:=by
 have hx:deeds (begE r).w r.row=preD (begE r).w r.row r.row.length++(Ae (zar (begE r).w r.row) none++[])++[]:=by rw[<- zeU,zhh,AE,AE]
 refine zla hx (.inl rfl) (zeq (Aj _)) h0 (by rw[AE];exact h1) λz=>?_
 have:=zbY (begE r).w r.row;rw[hx,z]at this;simp at this
noncomputable def yxR(e:Edge)(v:V)(H:Hp):Prop:=∃b,v=.ref b/\H b=some (.tup [.int e.c.2,.int e.c.1])
theorem yxR.kt{c:Edge}{v:V}{H H':Hp}(h:yxR c v H)(s:KT H H'):yxR c v H':=let ⟨b,e,q⟩:=h;⟨b,e,s _ _ q⟩
noncomputable def zjA(K:W.Frag):TS:=zkT (iList K (tVar 7)) [none,some 5] (gName 0) (tTest (tOp rEq (tOp (rIxT K) (tVar 0) (tC (V.int 2))) (tVar 1))) (tTup (tCons (tOp (rIxT K) (tVar 0) (tC (V.int 1))) (tCons (tOp (rIxT K) (tVar 0) (tC (V.int 0))) tNil))) 13
theorem zjz{K:W.Frag}{D:Ends}{H6:Hp}{El:Addr}{es:List V}{ed:List Edge}{a so b o2 o3 dd Fl sw x10 x11 x12 x13:Option V}{kk:Nat}(he:H6 El=some (.lst es))(hv:VR es ed eR H6)(hl:ed.length <= 2000)
  (k:∀g H7 zs,H6 g=none->Same H6 H7->H7 g=some (.lst zs)->VR zs (ed.filter λe=>decide (e.w=kk)) yxR H7->D.nx [a,so,o2,o3,b,some (.int (kk:Int)),dd,some (.ref El),Fl,sw,x10,x11,x12,some (.ref g)] H7) :
  zjA K D [a,so,o2,o3,b,some (.int (kk:Int)),dd,some (.ref El),Fl,sw,x10,x11,x12,x13] H6:=by
 refine⟨_,rfl,El,rfl,⟨_,SqL.of he⟩,λg hg=>?_⟩
 refine zba (K:=K) (a:=El) (xs:=es) (λj σ H7=>∃o0,σ=[o0,some (.int (kk:Int))]/\Same H6 H7/\∃zs,H7 g=some (.lst zs)/\VR zs ((ed.take j).filter λe=>decide (e.w=kk)) yxR H7)
  ⟨_,rfl,Same.up hg,[],zaa,VR.nil⟩ (λj σ H7 _ ⟨_,_,s7,_⟩=>SqL.of (s7 _ _ he)) ?_ ?_
 .rintro j u σ H7 hj ⟨o0,rfl,s7,zs,e7,hz⟩;obtain⟨e,hee,bb,rfl,q⟩:=hv.at hj
  have hlz:zs.length<=2000:=by rw[hz.1];exact AN (Bz _ _) (by rw[AT];lia)
  have q7:=s7 _ _ q;simp only[zaw,AD];refine⟨_,rfl,bb,_,_,_,rfl,rfl,SqT.of q7,zaz (j:=2) rfl,_,rfl,rfl,_,rfl,?_⟩
  by_cases hk:e.w=kk
  .refine iteY (decide_eq_true (by rw[hk])) ?_
   refine⟨_,rfl,bb,_,_,_,rfl,rfl,SqT.of q7,zaz (j:=1) rfl,_,rfl,bb,_,_,_,rfl,rfl,SqT.of q7,zaz (j:=0) rfl,two,λt ht=>?_⟩;have s8:Same H7 (upd H7 t (.tup [.int e.c.2,.int e.c.1])):=Same.up ht;have e8:upd H7 t (.tup [.int e.c.2,.int e.c.1]) t=some (.tup [.int e.c.2,.int e.c.1]):=zaa;generalize upd H7 t (.tup [.int e.c.2,.int e.c.1])=H8 at s8 e8;have g8:=s8 _ _ e7;refine⟨zs,g8,zbf (by lia),_,rfl,zax hg (s7.trans s8),_,zaa,?_⟩;rw[zaN hee,B9,List.filter_cons_of_pos (by simp[hk])];exact hz.snoc (λx v h=>(h.kt (KT.of s8)).kt (KT.lst g8)) ⟨t,rfl,KT.lst g8 _ _ e8⟩
  .refine iteN (decide_eq_false (λz=>hk (by have:=V.int.inj z;lia))) ?_
   refine⟨_,rfl,s7,zs,e7,?_⟩;rw[zaN hee,B9,List.filter_cons_of_neg (by simp[hk]),List.filter_nil,AE];exact hz
 .rintro σ H7 ⟨o0,rfl,s7,zs,e7,hz⟩;rw[hv.1,A4]at hz;exact k g H7 zs hg s7 e7 hz
theorem zd2{e:Edge}{l:List (Option Nat)}(hl:0<l.length)(hc:eAt e l=e){f:Edge}:f∈za6 e l ↔ f∈(wby e l).map (·.1):=by
 unfold za6;rw[Ap,hc];constructor
 .rintro (h |h)
  .exact h
  .obtain⟨d,hd⟩:=zeH l e hl;rw[Ak.mp h];exact Bd.mpr ⟨_,Aw hd,rfl⟩
 .exact .inl
theorem zct{e:Edge}{l:List (Option Nat)}:(za6 e l)[0]?=some e:=by
 cases l with
 |nil=>rfl
 |cons d l=>rfl
theorem zgK{r:Rnd}(hc:eAt (begE r) (deeds (begE r).w r.row)=begE r){e:Edge}(he:e ∈ (za6 (begE r) (deeds (begE r).w r.row)).filter λf => decide (f.w=kOf r.so))
  (hle:∀f∈(za6 (begE r) (deeds (begE r).w r.row)).filter (λf=>decide (f.w=kOf r.so)),HT.lexLt [f.c.2,f.c.1] [e.c.2,e.c.1]=false):(e.c.2=r.y/\e.c.1=r.x) ↔ zbL (rw_ r) r.so (begE r):=by
 have hp:=zbY (begE r).w r.row
 have mem:∀f,f∈(za6 (begE r) (deeds (begE r).w r.row)).filter (λf=>decide (f.w=kOf r.so)) ↔ f∈(rw_ r).map (·.1)/\f.w=kOf r.so:=λf=>by rw[List.mem_filter,zd2 hp hc,decide_eq_true_iff];rfl
 have hb:begE r∈(rw_ r).map (·.1):=(zd2 hp hc).mp (Aw zct);constructor
 .rintro⟨h1,h2⟩;refine⟨hb,rfl,λf f1 f2=>?_⟩;have:=hle f ((mem f).mpr ⟨f1,f2⟩);rw[h1,h2]at this;exact this
 .rintro⟨_,_,h3⟩;have h4:=(mem e).mp he;have q1:=h3 e h4.1 h4.2;have q2:=hle (begE r) ((mem _).mpr ⟨hb,rfl⟩);have:=HT.lexLt_total q1 q2;injection this with z1 z2;injection z2 with z2 _;exact⟨z1,z2⟩
noncomputable def minR(K:W.Frag):List V -> Hp -> VK -> Prop := λvs H Q => ∃l xs, ∃ κ : Nat -> List Int, vs = [.ref l] /\ SqL K H l xs /\ 0 < xs.length /\
  (∀i x,xs[i]?=some x->∃a,x=.ref a/\SqT K H a ((κ i).map V.int))/\∀i x H',xs[i]?=some x->Least κ xs.length i->Same H H'->Q x H'
noncomputable def intR:List V->Hp->VK->Prop:=λxs H Q=>(∃i,xs=[.int i]/\Q (.int i) H)∨∃k,xs=[.bl k]/\Q (.int (if k then 1 else 0)) H
noncomputable def endT(K:W.Frag):TS:=tSeq (zjA K) (tSeq (tIfS (tOr (tTest (tOp (rNeD K) (tOp (rIxL K) (tVar 7) (tC (V.int 0))) (tLast K)))
 (tOr (tTest (tOp rNe (tVar 9) (tOp (rIxL K) (tLst (tCons (tUn (rU λi=>V.int (-i)) (tC (V.int 4))) (tCons (tC (V.int 4)) tNil))) (tCB intR (tCons (tOp rEq (tVar 1) (tC (V.str "rim"))) tNil)))))
  (tTest (tOp (rNeD K) (tCB (minR K) (tCons (tVar 13) tNil)) (tTup (tCons (tOp (rIxT K) (tVar 0) (tC (V.int 2))) (tCons (tOp (rIxT K) (tVar 0) (tC (V.int 1))) tNil)))))))
  (tRet (tCB (lenR K) (tCons (tVar 4) tNil))) tNext) (tRet (tC V.non)))
theorem zmI{K:W.Frag}{D:Ends}{H H6:Hp}{r:Rnd}{dd El Fl a b:Addr}{o2 o3 x10 x11 x12 x13:Option V}(hF:Form r)(st:DSt H (begE r) dd El Fl (deeds (begE r).w r.row) H6)
  (ha:H a=some (.tup [.str r.so,.int r.x,.int r.y,.ref b])) (hb:H b=some (.tup (rowV r.row)))
  (kd:∀H7,¬ Fine r->Same H H7->D.rt (.int ((r.row.length:Nat):Int)) H7) (kg:∀H7,Fine r->Same H H7->D.rt .non H7) :
  endT K D [some (.ref a),some (.str r.so),o2,o3,some (.ref b),some (.int ((kOf r.so:Nat):Int)),some (.ref dd),some (.ref El),some (.ref Fl),some (.int (swg (deeds (begE r).w r.row))),x10,x11,x12,x13] H6:=by
 obtain⟨hso,hrl,hr8⟩:=hF;obtain⟨es,bb,he,hv,hel,hlast,hbb⟩:=st.last;have hdl:=zf2 (begE r).w r.row;have hpos:0<es.length:=by lia
 refine zjz (kk:=kOf r.so) he hv (by rw[zd3];lia) λg H7 zs hg s7 e7 hz=>?_
 obtain⟨v0,hv0⟩:∃v,es[0]?=some v:=⟨_,Ab hpos⟩;obtain⟨x0,hx0,b0,rfl,q0⟩:=hv.at hv0;rw[zct]at hx0
 cases hx0
 have he7:=s7 _ _ he;have hrv:(rowV r.row).length=r.row.length:=Ai ..
 have ret:∀H8,¬ Fine r->Same H7 H8->tRet (tCB (lenR K) (tCons (tVar 4) tNil)) D [some (.ref a),some (.str r.so),o2,o3,some (.ref b),some (.int ((kOf r.so:Nat):Int)),some (.ref dd),some (.ref El),some (.ref Fl),some (.int (swg (deeds (begE r).w r.row))),x10,x11,x12,some (.ref g)] H8:=λH8 nf s8 =>
  have hb8:=(st.same.trans (s7.trans s8)) _ _ hb
  ⟨_,rfl,b,_,rfl,.inr (SqT.of hb8),by rw[hrv];exact kd H8 nf (st.same.trans (s7.trans s8))⟩
 refine⟨_,rfl,El,es,_,_,rfl,rfl,SqL.of he7,zaz (j:=0) hv0,_,rfl,_,rfl,El,es,_,_,rfl,rfl,SqL.of he7,(zcA hpos).trans hlast,?_⟩;refine⟨_,_,zco (s7 _ _ q0),zco (s7 _ _ hbb),zaV _,zaV _,_,rfl,?_⟩;rw[zez]
 by_cases hc:eAt (begE r) (deeds (begE r).w r.row)=begE r
 .refine iteN (by rw[hc];simp) ?_
  refine⟨_,rfl,_,rfl,two,λl1 hl1=>?_⟩;have s8:Same H7 (upd H7 l1 (.lst [.int (-4),.int 4])):=Same.up hl1;have e8:upd H7 l1 (.lst [.int (-4),.int 4]) l1=some (.lst [.int (-4),.int 4]):=zaa;generalize upd H7 l1 (.lst [.int (-4),.int 4])=H8 at s8 e8
  have hbg:atI ([.int (-4),.int 4]:List V) (if decide (V.str r.so=V.str "rim")=true then 1 else 0)=some (.int (moreL r.so)):=by rcases hso with z |z <;> rw[z] <;> rfl
  refine⟨_,rfl,rfl,.inr ⟨_,rfl,l1,_,_,_,rfl,rfl,SqL.of e8,hbg,rfl,_,rfl,?_⟩⟩
  by_cases hm:swg (deeds (begE r).w r.row)=moreL r.so
  .refine iteN (by rw[hm];simp) ?_
   have hzp:0<zs.length:=by
    rw[hz.1];refine CJ (a:=begE r) ?_
    rw[List.mem_filter];exact⟨Aw zct,decide_eq_true rfl⟩
   have hz8:=hz.mono λx v h=>yxR.kt h (KT.of s8)
   obtain⟨F,hF⟩:∃F,F=(za6 (begE r) (deeds (begE r).w r.row)).filter λf=>decide (f.w=kOf r.so):=⟨_,rfl⟩
   rw[<- hF]at hz8 hz;refine⟨_,rfl,g,zs,λi=>match F[i]? with |some f=>[f.c.2,f.c.1] |none=>[],rfl,SqL.of (s8 _ _ e7),hzp,λi x hx=>?_,λi x H9 hx hle s9=>?_⟩
   .obtain⟨f,hf,p,rfl,q⟩:=hz8.at hx;refine⟨p,rfl,SqT.of ?_⟩;simp only[hf];exact q
   .obtain⟨f,hf,p,rfl,q⟩:=hz8.at hx;have q9:=s9 _ _ q;have a9:=(st.same.trans (s7.trans (s8.trans s9))) _ _ ha;refine⟨_,rfl,a,_,_,_,rfl,rfl,SqT.of a9,zaz (j:=2) rfl,_,rfl,a,_,_,_,rfl,rfl,SqT.of a9,zaz (j:=1) rfl,two,λt ht=>?_⟩;have s10:Same H9 (upd H9 t (.tup [.int r.y,.int r.x])):=Same.up ht;have e10:upd H9 t (.tup [.int r.y,.int r.x]) t=some (.tup [.int r.y,.int r.x]):=zaa;generalize upd H9 t (.tup [.int r.y,.int r.x])=H10 at s10 e10;have d1:RD K H10 (.ref p) (tI [f.c.2,f.c.1]):=.tup (SqT.of (s10 _ _ q9)) (RDs.ints [f.c.2,f.c.1]);have d2:RD K H10 (.ref t) (tI [r.y,r.x]):=.tup (SqT.of e10) (RDs.ints [r.y,r.x]);refine⟨_,_,d1,d2,zaV _,zaV _,_,rfl,?_⟩;rw[zez]
    have hb':=zgK (r:=r) hc (e:=f) (by rw[<- hF];exact Aw hf) λf' hf'=>by rw[<- hF]at hf';obtain⟨n,hn,en⟩:=AZ hf';have:=(hle n (by rw[hz8.1];exact hn)).1;simp only[hf,Ab hn,en]at this;exact this
    by_cases hq:f.c.2=r.y/\f.c.1=r.x
    .refine iteN (by rw[hq.1,hq.2];simp) ?_
     exact kg H10 (zdw.mpr ⟨hc,hm,hb'.mp hq⟩) (st.same.trans (s7.trans (s8.trans (s9.trans s10))))
    .refine iteY (by rw[decide_eq_false (λz=>hq (by injection z with z1 z2;injection z2 with z2;exact⟨z1,z2⟩))];rfl) ?_
     exact ret H10 (λz=>hq (hb'.mpr (zdw.mp z).2.2)) (s8.trans (s9.trans s10))
  .refine iteY (by simpa using hm) ?_
   exact iteT (ret H8 (λz=>hm (zdw.mp z).2.1) s8)
 .refine iteY (by rw[decide_eq_false (λz=>hc (zeA.mp z).symm)];rfl) ?_
  exact iteT (ret H7 (λz=>hc (zdw.mp z).1) (λ_ _ z=>z))
noncomputable def DueV(r:Rnd)(du:V):Prop:=(∃n:Nat,du=.int (n:Int)/\Due r n)∨(du=.non/\Good r)
noncomputable def zg7:Sp:=λvs H Q _=>∃(v:V) (r:Rnd),vs=[v]/\rR r v H/\Form r/\∀du H',Same H H'->DueV r du->Q du H'
theorem zgA (T:Txt P w K mg) (g__law_see:Fn P w K mg base 1 "_law_see" ["_law_seen", "_law_cell", "_law_told_here"] spSee) (g__law_gone:Fn P w K mg base 1 "_law_gone" ["_law_x", "_law_y", "_law_step"] zcd) (g__law_stood:Fn P w K mg base 2 "_law_stood" ["_law_seen", "_law_edge"] (zgm K))
  (d:Df K mg "_law_due" zbU ["_law_one"]):FnOk P w K mg base CX0 3 d.f d.fd ["_law_one"] zg7:=by
 refine d.F.ok zam (λvs H Q E h=>?_) (λcdv A outer s H vs Q E hr h=>?_)
 .obtain⟨v,r,rfl,_⟩:=h;rfl
 .obtain⟨v,r,rfl,hv,⟨hso,hrl,hr8⟩,kk⟩:=h;have kd:∀n H',Due r n->Same H H'->Q (.int ((n:Nat):Int)) H':=λn H' z s=>kk _ H' s (.inl ⟨n,rfl,z⟩)
  have kg:∀H',Good r->Same H H'->Q .non H':=λH' z s=>kk _ H' s (.inr ⟨rfl,z⟩)
  have hu1:=hu_of hr;have hu64:=hr.units;have hu65:(A.deeper (PyProof.Rows.envOfC (Aq "_law_due") (zaf zbU) s.heap.objs.size d.f cdv)).units+65<cLine:=by have:=hr.un;lia
  have nb0:(["_law_there","_law_begin"]:List Str).Nodup:=by decide +kernel
  refine⟨_,(zac (za2 (pv 0) (zaW (by rfl) (zae (nG 1 zam.nd) (zae (nG 2 zam.nd) (zae (nG 3 zam.nd) (zae (nG 4 zam.nd) zay))))))
   (zac (zfC (i:=5) zam.nd (by rfl) (Or.inr rfl) (pe_ix zaB (zaL (pa_C zad (pa_C zad zab))) (zbH zc2 (by rfl) T.nint (by rfl) (zag (zbG op_eq (pv 1) zbN (zas _)) zab)) (λ_ _=>rfl)))
   (zac (sE 6 zam.nd zdv)
   (zac (sE 7 zam.nd (zaL (pa_T (zao (pa_N (pv 2) (pa_N (pv 3) (pa_N (pv 5) zab)))) zab)))
   (zac (sE 8 zam.nd (pC g__law_stood hr (pa_N (pv 6) (zag (pe_ix zaB (pv 7) zad (λ_ _=>rfl)) zab))))
   (zac (sE 9 zam.nd zad)
   (zac (zca BF rfl (zbW (by rfl) T.nrange (pa_B (pe_op zaG (zan zap (by rfl) T.nlen (by rfl) (pa_N (pv 4) zab)) zad) zab)) (nG 10 zam.nd)
   (zac (sE 11 zam.nd (pv 5))
   (zac (ps_if (zaq op_lt (pv 10) (zan zap (by rfl) T.nlen (by rfl) (pa_N (pv 4) zab)) (zas _))
   (zah (sE 11 zam.nd (pe_ix zaB (zaL (pa_C zad (pa_C zad (pa_C zad (pa_C zad (pa_C zad (pa_C zad (pa_C zad (pa_C zad zab))))))))) (pe_ix zbw (pv 4) (pv 10) (λ_ _=>rfl)) (λ_ _=>rfl))))
   zaA)
   (zac (zhf BF (pw_or (zaq op_ne (pe_ix zbw (pe_ix zaB (pv 7) (pe_un zbC zad) (λ_ _=>rfl)) zad (λ_ _=>rfl)) (pv 11) (zas _)) (zdL (ziX (zaq (zk1 hu64) (pv 4) (zao zab) (zas _)) (zgu (zaq op_lt (zan zap (by rfl) T.nlen (by rfl) (pa_N (pv 7) zab)) zad (zas _)))).pt)).pt
   (zac (za2 (pe_ix zaB (pv 7) (pe_un zbC zad) (λ_ _=>rfl)) (zaW (by rfl) (zae (nG 2 zam.nd) (zae (nG 3 zam.nd) (zae (nG 12 zam.nd) zay)))))
   (zac (zaS (pe_bm AG AX AY zaM (pv 8) (zag (pC g__law_see hr (pa_N (pv 6) (zag (pC g__law_gone hr (pa_N (pv 2) (pa_N (pv 3) (pa_B (pe_op zbm zad (pv 12)) zab)))) (pa_C pe_bl zab)))) zab)))
   (zac (zaS (pe_bm AG AX AY zaM (pv 8) (zag (pC g__law_see hr (pa_N (pv 6) (zag (pC g__law_gone hr (pa_N (pv 2) (pa_N (pv 3) (pa_B (pe_op zau (pe_op zaG (pe_op zbm zad (pv 12)) zad) zad) zab)))) (pa_C pe_bl zab)))) zab)))
   (zac (zaS (pe_bm AG AX AY zaM (pv 7) (pa_T (zao (pa_N (pv 2) (pa_N (pv 3) (pa_B (pe_op zau (pe_op zaG (pv 12) zad) zad) zab)))) zab)))
   (zac (zaS (pe_bm AG Ct Cu zcq (pv 8) (zag (pC g__law_stood hr (pa_N (pv 6) (zag (pe_ix zaB (pv 7) (pe_un zbC zad) (λ_ _=>rfl)) zab))) zab)))
   (zah (sE 9 zam.nd (pe_op zaG (pv 9) zad)))))))))
   (zac (ps_if (zaq op_lt (pv 10) (zan zap (by rfl) T.nlen (by rfl) (pa_N (pv 4) zab)) (zas _))
   (zac (za2 (pe_ix zaB (pv 7) (pe_un zbC zad) (λ_ _=>rfl)) (zaW (by rfl) (zae (nG 2 zam.nd) (zae (nG 3 zam.nd) (zae (nG 12 zam.nd) zay)))))
   (zac (ps_if (zaq op_eq (pe_op zau (pe_ix zbw (pv 4) (pv 10) (λ_ _=>rfl)) zad) zad (zas _))
   (zah (zaS (pe_bm AG AX AY zaM (pv 8) (zag (pC g__law_see hr (pa_N (pv 6) (zag (pC g__law_gone hr (pa_N (pv 2) (pa_N (pv 3) (pa_B (pe_op zau (pe_op zaG (pe_op zbm zad (pv 12)) zad) zad) zab)))) (pa_C pe_bl zab)))) zab))))
   zaA)
   (zac (zaS (pe_bm AG AX AY zaM (pv 7) (pa_B (pe_op zeW (pC g__law_gone hr (pa_N (pv 2) (pa_N (pv 3) (zag (pe_ix zbw (pv 4) (pv 10) (λ_ _=>rfl)) zab)))) (zao (zag (pe_ix zaB (zaL (pa_C zad (pa_C zad (pa_C zad (pa_C zad (pa_C zad (pa_C zad (pa_C zad (pa_C zad zab))))))))) (pe_ix zbw (pv 4) (pv 10) (λ_ _=>rfl)) (λ_ _=>rfl)) zab))) zab)))
   (zac (zaS (pe_bm AG Ct Cu zcq (pv 8) (zag (pC g__law_stood hr (pa_N (pv 6) (zag (pe_ix zaB (pv 7) (pe_un zbC zad) (λ_ _=>rfl)) zab))) zab)))
   (zah (sE 9 zam.nd (pe_op zcD (pv 9) (pe_op zau (pe_ix zbw (pv 4) (pv 10) (λ_ _=>rfl)) zad))))))))
   zaA)
   (zah (ps_if (zaq (zmu hu65) pe_bl (pv 8) rfl)
   (zah (zal (pv 10)))
   zaA)))))))
   (zac (zj7 (i:=13) (osc:=zaf zbU) (N:=zdi) (N':=["_law_there","_law_begin"]) (sel:=[none,some 5]) bO zam.nd (by rfl) (Or.inl rfl) (zbx (pv 7)) (λ_ _ _ _ _=>(nG 0 nb0)) (λ_ _ _ _ _=>zb5 (zaq op_eq (pe_ix (zcM (K:=K)) (pv 0) zad (λ_ _=>rfl)) (pv 1) (zas _))) (λ_ _ _ _ _=>(zao (zag (pe_ix (zcM (K:=K)) (pv 0) zad (λ_ _=>rfl)) (zag (pe_ix (zcM (K:=K)) (pv 0) zad (λ_ _=>rfl)) zab)))))
   (zac (ps_if (pw_or (zaq (zhm hu64) (pe_ix zaB (pv 7) zad (λ_ _=>rfl)) (pe_ix zaB (pv 7) (pe_un zbC zad) (λ_ _=>rfl)) (zas _)) (pw_or (zaq op_ne (pv 9) (pe_ix zaB (zaL (pa_U (pe_un zbC zad) (pa_C zad zab))) (zbH zc2 (by rfl) T.nint (by rfl) (zag (zbG op_eq (pv 1) zbN (zas _)) zab)) (λ_ _=>rfl)) (zas _)) (zdL (zaq (zhm hu64) (zan (zf5 hu1 rfl) (by rfl) T.nmin (by rfl) (pa_N (pv 13) zab)) (zao (zag (pe_ix zbw (pv 0) zad (λ_ _=>rfl)) (zag (pe_ix zbw (pv 0) zad (λ_ _=>rfl)) zab))) (zas _))))).pt
   (zah (zal (zan zap (by rfl) T.nlen (by rfl) (pa_N (pv 4) zab))))
   zaA)
   (zah (zal zby))))))))))),?_⟩
  have hσ:L2.start zdi [v]=[some v,none,none,none,none,none,none,none,none,none,none,none,none,none]:=rfl;rw[hσ];obtain⟨a,b,rfl,q1,q2⟩:=id hv;refine⟨_,rfl,a,_,rfl,SqT.of q1,rfl,_,_,rfl,_,_,rfl,_,_,rfl,_,_,rfl,rfl,?_⟩;simp only[zaw,AH,AD];refine⟨two,λl1 hl1=>?_⟩;have s1:Same H (upd H l1 (.lst [.int 2,.int 0])):=Same.up hl1;have e1:upd H l1 (.lst [.int 2,.int 0]) l1=some (.lst [.int 2,.int 0]):=zaa;generalize upd H l1 (.lst [.int 2,.int 0])=H1 at s1 e1
  have hbg:atI ([.int 2,.int 0]:List V) (if decide (V.str r.so=V.str "rim")=true then 1 else 0)=some (.int ((kOf r.so:Nat):Int)):=by rcases hso with z |z <;> rw[z] <;> rfl
  refine⟨_,rfl,rfl,.inr ⟨_,rfl,l1,_,_,_,rfl,rfl,SqL.of e1,hbg,?_⟩⟩;simp only[zaw,AH,AD];refine λdd hdd=>?_
  have s2:Same H1 (upd H1 dd (.dT [])):=Same.up hdd;have d2:upd H1 dd (.dT []) dd=some (.dT []):=zaa;generalize upd H1 dd (.dT [])=H2 at s2 d2;simp only[zaw,AH,AD];refine⟨_,rfl,_,rfl,_,rfl,(by show 3<=sizeLine;decide),λt3 ht3=>⟨zdQ,λEl hEl=>?_⟩⟩;have s3:Same H2 (upd H2 t3 (.tup [.int r.x,.int r.y,.int ((kOf r.so:Nat):Int)])):=Same.up ht3;have e3:upd H2 t3 (.tup [.int r.x,.int r.y,.int ((kOf r.so:Nat):Int)]) t3=some (.tup (edgeT (begE r))):=zaa;generalize upd H2 t3 (.tup [.int r.x,.int r.y,.int ((kOf r.so:Nat):Int)])=H3 at s3 e3 hEl;have s4:Same H3 (upd H3 El (.lst [.ref t3])):=Same.up hEl;have e4:upd H3 El (.lst [.ref t3]) El=some (.lst [.ref t3]):=zaa;have hE0:H El=none:=s1.free (s2.free (s3.free hEl));have hd0:H dd=none:=s1.free hdd;generalize upd H3 El (.lst [.ref t3])=H4 at s4 e4;have d4:=(s3.trans s4) _ _ d2;have e34:=s4 _ _ e3;simp only[zaw,AH,AD];refine⟨_,rfl,_,rfl,El,_,_,_,rfl,rfl,SqL.of e4,zaz (j:=0) rfl,dd,t3,begE r,[],[],rfl,d4,(λ_=>rfl),e34,zcu r,(by decide),λFl H5 kv5 b1 b2 hFl f5 d5 k5 hk5 hl5 hc5=>?_⟩;simp only[zaw,AH,AD];have hEd:El≠dd:=ne_of e4 d4 (λz=>nomatch z);have htd:t3≠dd:=ne_of e34 d4 (λz=>nomatch z)
  have st0:DSt H (begE r) dd El Fl [] H5:=by
   refine⟨λz o h=>k5 z o (zaj h hd0) ((s1.trans (s2.trans (s3.trans s4))) _ _ h),(λz=>by rw[<- z,e4]at hFl;cases hFl),⟨kv5,d5,hk5,hl5⟩,⟨[.ref t3],k5 _ _ hEd e4,?_⟩,⟨[b1,b2],f5,?_,Aj _⟩⟩
   .exact VR.cons.mpr ⟨⟨t3,rfl,k5 _ _ htd e34⟩,VR.nil⟩
   .rw[List.nil_append]at hc5;show _ ↔ Con (std (begE r)++[]);rw[AE,hc5]
    cases b1 <;> cases b2 <;> simp[Con]
  have hF0:H Fl=none:=(s1.trans (s2.trans (s3.trans s4))).free hFl;have hrv:(rowV r.row).length=r.row.length:=Ai ..;have hn:(((rowV r.row).length:Int)+1).toNat=r.row.length+1:=by lia
  refine⟨_,rfl,b,_,rfl,.inr (SqT.of (st0.same _ _ q2)),_,_,rfl,rfl,_,rfl,(by lia),(by rw[hrv];lia),?_⟩
  refine zbX (lo:=0) (n:=(((rowV r.row).length:Int)+1).toNat) (λi σ H6=>∃o2 o3 o10 o11 o12,σ=[some (.ref a),some (.str r.so),o2,o3,some (.ref b),some (.int ((kOf r.so:Nat):Int)),some (.ref dd),some (.ref El),some (.ref Fl),some (.int (swg (preD (begE r).w r.row i))),o10,o11,o12,none]/\DSt H (begE r) dd El Fl (preD (begE r).w r.row i) H6/\(preD (begE r).w r.row i≠[]->¬ Con (std (begE r)++lobs (begE r) (preD (begE r).w r.row i))))
   ⟨_,_,_,_,_,(by rw[zcT];rfl),(by rw[zcT];exact st0),(λz=>absurd zcT z)⟩ ?_ ?_
  .rintro i σ H6 hi ⟨o2,o3,o10,o11,o12,rfl,st,hnc⟩;rw[hn]at hi;simp only[zaw,AH,AD,DE];refine⟨_,rfl,?_⟩;simp only[zaw,AH,AD];have hpl4:=zj8 (w:=(begE r).w) (row:=r.row) (i:=i) (by lia)
   by_cases hil:i<r.row.length
   .obtain⟨s,hs⟩:∃s,r.row[i]?=some s:=⟨_,Ab hil⟩;refine zjr (K:=K) hd0 hE0 hF0 q2 st (by lia) (zcu r) hs (hr8 s (Aw hs)) (λz H7 s7=>kd i H7 (zkD hr8 hs hnc z) s7) λz H7 x y g w st7=>?_
    rw[<- zfE (zcu r) hr8 hs]at z st7 ⊢;exact⟨_,_,_,_,_,rfl,st7,λ_=>z⟩
   .obtain rfl:i=r.row.length:=by lia
    refine zkr (K:=K) (t:=zar (begE r).w r.row) hd0 hE0 hF0 q2 st (by have:zar (begE r).w r.row<=4:=(by unfold zar;split <;> lia);lia) (zcu r) (zkC (zcu r) hr8) (λz H7 s7=>kd _ H7 (zlQ hnc z) s7) λz H7 x y g w st7=>?_
    rw[<- zhh]at z st7 ⊢;exact⟨_,_,_,_,_,rfl,st7,λ_=>z⟩
  .rintro σ H6 ⟨o2,o3,o10,o11,o12,rfl,st,hnc⟩;rw[hn,zeU]at st hnc ⊢;have hne:deeds (begE r).w r.row≠[]:=λz=>by have:=zbY (begE r).w r.row;rw[z]at this;cases this
   refine zmI (K:=K) ⟨hso,hrl,hr8⟩ st q1 q2 (λH7 nf s7=>kd _ H7 (.inr ⟨λz=>hnc (hne) ((zfm hne).mpr z),nf,rfl⟩) s7) λH7 f s7=>kg H7 ⟨λz=>hnc hne ((zfm hne).mpr z),f⟩ s7
theorem nL_wk(C:Cell->Bool)(es:List Edge):nL (wk C es)=(es.filter λe=>(stepB C e).isNone).length:=by unfold nL wk;rw[List.filter_map,Ai];rfl
theorem nS_wk(C:Cell->Bool)(es:List Edge):nS (wk C es)=(es.filter λe=>slant (stepB C e)).length:=by unfold nS wk;rw[List.filter_map,Ai];rfl
theorem IsRnd.walk{C:Cell -> Bool}{b:Edge}{es:List Edge}{r:Rnd}(h:Closed C b es)(k:IsRnd (wk C es) r) :
  ∃es',Closed C (begE r) es'/\es'.Perm es/\r.row=(es'.map (stepB C)).filterMap id/\zbL (wk C es') r.so (begE r)/\r.so=sortS (wk C es')/\IsRnd (wk C es') r:=by
 obtain⟨r0,j,f,rf,⟨rb,rw',rl⟩,rx,ry,rr⟩:=id k;rw[zdA]at rf rb rl
 have ef:begE r=f:=by obtain⟨⟨x,y⟩,w⟩:=f;unfold begE;rw[rx,ry,r0];simp only at rw' ⊢;rw[rw']
 have h1:=h.rot j rf;have pm:=zj2 es j;have ss:=zhQ (C:=C) pm
 have hrow:r.row=((es.drop j++es.take j).map (stepB C)).filterMap id:=by rw[rr];unfold wk;rw[<- List.map_drop,<- List.map_take,<- AS,B6,B6];rfl
 have hb:zbL (wk C (es.drop j++es.take j)) r.so f:=⟨by rw[zdA];exact pm.mem_iff.mpr rb,by rw[rw',r0],λg hg hw=>by rw[zdA]at hg;exact rl g (pm.mem_iff.mp hg) (by rw[hw,r0])⟩
 rw[ef];refine⟨_,h1,pm,hrow,hb,by rw[r0,ss],by rw[r0,ss],0,f,by rw[zdA];exact h1.1.1,by rw[ss,<- r0];exact hb,rx,ry,?_⟩;rw[hrow,List.drop_zero,Dy,AE];unfold wk;rw[B6,B6];rfl
noncomputable def rowI(row:List Nat):List Int:=row.map λn:Nat=>(n:Int)
noncomputable def dR(r:Rnd):PyData:=.tuple [.str r.so,.int r.x,.int r.y,tI (rowI r.row)]
theorem Whole.few{cs:List Cell}{R:List Rnd}(h:Whole cs R):R.length<=cs.length:=let ⟨_,hP,_⟩:=h;hP.few
structure Can (C:Cell->Bool) (es:List Edge) (r:Rnd):Prop where
 cl:Closed C (begE r) es
 row:r.row=(es.map (stepB C)).filterMap id
 bg:zbL (wk C es) r.so (begE r)
 so:r.so=sortS (wk C es)
inductive Al {α β:Type} (P:α->β->Prop):List α->List β->Prop where
 |nil:Al P [] []
 |cons {a:α} {b:β} {l:List α} {m:List β}:P a b->Al P l m->Al P (a::l) (b::m)
theorem Al.of{α β:Type}{P:α->β->Prop}:∀{l:List α}{m:List β},l.length=m.length->(∀(i:Nat) a b,m[i]?=some b->l[i]?=some a->P a b)->Al P l m
 |[],[],_,_=>.nil
 |[],_::_,h,_=>by cases h
 |_::_,[],h,_=>by cases h
 |a::l,b::m,h,q=>.cons (q 0 a b rfl rfl) (Al.of (by simpa using h) λi x y h1 h2=>q (i+1) x y (by simpa using h1) (by simpa using h2))
theorem Al.length{α β:Type}{P:α->β->Prop}{l:List α}{m:List β}(h:Al P l m):l.length=m.length:=by
 induction h with
 |nil=>rfl
 |cons _ _ ih=>simp[ih]
theorem Al.at{α β:Type}{P:α->β->Prop}{l:List α}{m:List β}(h:Al P l m):∀{i:Nat}{a:α}{b:β},m[i]?=some b->l[i]?=some a->P a b:=by
 induction h with
 |nil=>intro i a b h1;simp at h1
 |cons p _ ih =>
  intro i a b h1 h2
  cases i with
  |zero=>simp at h1 h2;subst h1 h2;exact p
  |succ i=>exact ih (by simpa using h1) (by simpa using h2)
theorem Al.perm{α β:Type}{P:α->β->Prop}{l' l:List α}(p:l'.Perm l):∀{m:List β},Al P l m->∃m',m'.Perm m/\Al P l' m':=by
 induction p with
 |nil=>intro m h;exact⟨m,.refl _,h⟩
 |cons a _ ih =>
  intro m h
  cases h with
  |cons p t =>
   obtain⟨m',q,r⟩:=ih t;exact⟨_::m',q.cons _,.cons p r⟩
 |swap a b l =>
  intro m h
  cases h with
  |cons p t =>
   cases t with
   |cons p2 t2=>exact⟨_::_::_,.swap _ _ _,.cons p2 (.cons p t2)⟩
 |trans _ _ ih1 ih2 =>
  intro m h;obtain⟨m1,q1,r1⟩:=ih2 h;obtain⟨m2,q2,r2⟩:=ih1 r1;exact⟨m2,q2.trans q1,r2⟩
theorem Al.bind{α γ:Type}{P Q:α->List γ->Prop}(f:∀a b,P a b->∃c,Q a c/\c.Perm b){l:List α}{m:List (List γ)}(h:Al P l m):∃m',Al Q l m'/\m'.flatten.Perm m.flatten:=by
 induction h with
 |nil=>exact⟨[],.nil,.refl _⟩
 |cons p _ ih =>
  obtain⟨c,q1,q2⟩:=f _ _ p;obtain⟨m',r1,r2⟩:=ih;exact⟨c::m',.cons q1 r1,by rw[BN,BN];exact q2.append r2⟩
theorem zfY{γ:Type}{a b:List (List γ)}(p:a.Perm b):a.flatten.Perm b.flatten:=by
 induction p with
 |nil=>exact .refl _
 |cons x _ ih=>rw[BN,BN];exact ih.append_left _
 |swap x y l =>
  simp only[BN];rw[<- AA,<- AA];exact List.perm_append_comm.append_right _
 |trans _ _ i1 i2=>exact i1.trans i2
structure Cans (C:Cell->Bool) (ESS:List (List Edge)) (R:List Rnd):Prop where
 al:Al (λr es=>Can C es r) R ESS
 nd:ESS.flatten.Nodup
 all:∀e,e∈ESS.flatten ↔ IsE C e
theorem Whole.cans{cs:List Cell}{R R0:List Rnd}(p:R.Perm R0)(h:Whole cs R0):∃ESS,Cans (isIn cs) ESS R:=by
 obtain⟨E,h1,h2⟩:=h;have a1:Al (λr es=>(∃b,Closed (isIn cs) b es)/\IsRnd (wk (isIn cs) es) r) R0 E:=Al.of h1.len λi r es e1 e2=>h1.each i es r e1 e2
 obtain⟨F,q1,a2⟩:=a1.perm p
 obtain⟨G,a3,q2⟩:=Al.bind (Q:=λr es=>Can (isIn cs) es r) (λr es ⟨⟨b,hb⟩,hr⟩=>by obtain⟨es',k1,k2,k3,k4,k5,_⟩:=IsRnd.walk hb hr;exact⟨es',⟨k1,k3,k4,k5⟩,k2⟩) a2
 have pm:=q2.trans (zfY q1);exact⟨G,a3,pm.nodup_iff.mpr h1.nd,λe=>by rw[pm.mem_iff];exact h2 e⟩
theorem Cans.so{C:Cell->Bool}{ESS:List (List Edge)}{R:List Rnd}(h:Cans C ESS R){i:Nat}{r:Rnd}(hr:R[i]?=some r):∃es,ESS[i]?=some es/\Can C es r:=by have hi:=(Ad.mp hr).1;rw[h.al.length]at hi;exact⟨_,Ab hi,h.al.at (Ab hi) hr⟩
inductive Lnk (C:Cell->Bool):Edge->List Edge->Prop where
 |one (e:Edge):Lnk C e []
 |more {e:Edge} {es:List Edge}:Lnk C (nxt C e) es->Lnk C e (nxt C e::es)
structure Box where
 (a b c d:Int)
theorem VR.app{α:Type}{vs ws:List V}{l m:List α}{R:α->V->Hp->Prop}{H:Hp}(h:VR vs l R H)(k:VR ws m R H):VR (vs++ws) (l++m) R H:=by
 refine⟨by rw[Af,Af,h.1,k.1],λi x v h1 h2=>?_⟩
 by_cases hi:i<l.length
 .rw[AK hi]at h1;rw[AK (by rw[h.1];exact hi)]at h2;exact h.2 i x v h1 h2
 .rw[AW (by lia)]at h1;rw[AW (by rw[h.1];lia),h.1]at h2;exact k.2 _ x v h1 h2
noncomputable abbrev Bfr(a b:Cell):Prop:=HT.lexLt [a.2,a.1] [b.2,b.1]=true
theorem cpow{i j:Int}(h:0<=j/\j<=1000000/\i.natAbs<2 ^ 64):CPow i j:=h
theorem ziK{b:Int}(h0:0<b)(h:b<=6000):b.natAbs.log2<9000:=by refine (Nat.log2_lt (by lia)).mpr (AC (show b.natAbs<2 ^ 13 by lia) (Nat.pow_le_pow_right (by decide) (by decide)))
theorem zmt{cs:List Cell}(h:cs.Pairwise Bfr):InOrd cs:=by intro i c d h1 h2;have hi:=(Ad.mp h1).1;have hj:=(Ad.mp h2).1;have e1:=(Ad.mp h1).2;have e2:=(Ad.mp h2).2;have a:=List.pairwise_iff_getElem.mp h i (i+1) hi hj (by lia);rw[e1,e2]at a;exact a
theorem zlV{a b y:Int}(h:a<b):Bfr (a,y) (b,y):=by show HT.lexLt [y,a] [y,b]=true;rw[HT.lexLt_cons,if_pos rfl,HT.lexLt_cons,if_neg (by lia)];exact decide_eq_true h
theorem zmM{a b:Cell}(h:a.2<b.2):Bfr a b:=by show HT.lexLt [a.2,a.1] [b.2,b.1]=true;rw[HT.lexLt_cons,if_neg (by lia)];exact decide_eq_true h
noncomputable def zeO(K:W.Frag):Sp:=λvs H Q _=>∃(a:Addr) (ns:List Int) (k:Nat),vs=[.ref a,.int k]/\SqL K H a (ns.map V.int)/\∀n,Q (.int n) H
theorem zeb (T:Txt P w K mg) (d:Df K mg "_law_cell_at" zbP ["_law_script","_law_k"]):FnOk P w K mg base CX0 1 d.f d.fd ["_law_script","_law_k"] (zeO K):=by
 refine d.F.ok zdG (λvs H Q E h=>?_) (λcdv A outer s H vs Q E hr h=>?_)
 .obtain⟨a,ns,k,rfl,_⟩:=h;rfl
 .obtain⟨a,ns,i,rfl,hq,k⟩:=h
  refine⟨_,(zac (ps_if (zaq op_lt (pv 1) (zan zap (by rfl) T.nlen (by rfl) (pa_N (pv 0) zab)) (zas _))
   (zah (zal (pe_ix zaB (pv 0) (pv 1) (λ_ _=>rfl))))
   zaA)
   (zah (zal zad))),?_⟩
  refine⟨_,rfl,_,rfl,a,_,rfl,.inl hq,_,_,rfl,rfl,_,rfl,?_⟩;refine ite2 (λhy=>?_) (λhn=>k 0)
  have hlt:i<ns.length:=by have:=of_decide_eq_true hy;rw[Ai]at this;lia
  exact⟨_,rfl,_,rfl,a,_,_,_,rfl,rfl,hq,zaz (v:=.int ns[i]) (by simp[hlt]),k _⟩
noncomputable def spRow:Sp:=λvs H Q _=>∃(c b:Int) (m:Nat),vs=[.int c,.int m,.int b]/\m<=60/\0<b/\b<=6000/\∀p H' (ns:List Int),H p=none->Same H H'->H' p=some (.lst (ns.map V.int))->ns.length=m->(∀n∈ns,0<=n/\n<b)->Q (.ref p) H'
theorem zhZ (T:Txt P w K mg) (d:Df K mg "_law_row" zdc ["_law_cell","_law_many","_law_base"]):FnOk P w K mg base CX0 1 d.f d.fd ["_law_cell","_law_many","_law_base"] spRow:=by
 refine d.F.ok zbc (λvs H Q E h=>?_) (λcdv A outer s H vs Q E hr h=>?_)
 .obtain⟨c,b,m,rfl,_⟩:=h;rfl
 .obtain⟨c,b,m,rfl,hm,hb,hb2,k⟩:=h
  refine⟨_,(zac (sE 3 zbc.nd (zaL zab))
   (zac (sE 4 zbc.nd (pe_op zcD (pv 0) (pe_op zhl zad zad)))
   (zac (sE 5 zbc.nd (pe_op zau (pv 0) zad))
   (zac (zca BF rfl (zbW (by rfl) T.nrange (pa_N (pv 1) zab)) (nG 6 zbc.nd)
   (zah (ps_if (zaq op_ge (pv 0) (pe_op zhl zad zad) (zas _))
   (zac (zaS (pe_bm AG AX AY zaM (pv 3) (pa_B (pe_op zau (pv 4) (pv 2)) zab)))
   (zah (sE 4 zbc.nd (pe_op zkd (pv 4) (pv 2)))))
   (zac (sE 5 zbc.nd (pe_op zau (pe_op zaG (pe_op zaG (pe_op zbm (pv 5) zad) (pe_op zbm (pe_op zbm (pv 6) (pv 6)) zad)) zad) zad))
   (zah (zaS (pe_bm AG AX AY zaM (pv 3) (pa_B (pe_op zau (pe_op zeV (pe_op zau (pe_op zbm (pv 5) (pv 5)) zad) zad) (pv 2)) zab))))))))
   (zah (zal (pv 3))))))),?_⟩
  have hmod:∀z:Int,0<=z % b/\z % b<b:=λz=>⟨Dj _ (by lia),CO _ hb⟩
  have hnum:∀z:Int,0<=z % 2147483629/\z % 2147483629<2147483629:=λz=>⟨Dj _ (by decide),CO _ (by decide)⟩
  refine⟨(by show 0<=sizeLine;decide),λp hp=>?_⟩;have s1:Same H (upd H p (.lst [])):=Same.up hp;have e1:upd H p (.lst []) p=some (.lst []):=zaa;generalize upd H p (.lst [])=H1 at s1 e1;refine⟨_,rfl,_,_,rfl,rfl,(by refine cpow ?_;decide),_,_,rfl,rfl,?_⟩;refine⟨_,rfl,_,_,rfl,rfl,(by show (0:Int)<2147483629;decide),?_⟩;refine⟨_,rfl,_,rfl,(by lia),(by lia),?_⟩
  refine zbX (lo:=0) (n:=m) (λi σ H2=>∃(l q:Int) (o:Option V) (ns:List Int),σ=[some (.int c),some (.int m),some (.int b),some (.ref p),some (.int l),some (.int q),o]/\0<=q/\q<2147483629/\Same H H2/\H2 p=some (.lst (ns.map V.int))/\ns.length=i/\∀n∈ns,0<=n/\n<b)
   ⟨_,_,_,[],rfl,(hnum c).1,(hnum c).2,s1,e1,rfl,by simp⟩ ?_ ?_
  .rintro i σ H2 hi ⟨l,q,o,ns,rfl,q0,q1,s2,e2,hl,hall⟩
   have snoc:∀z:Int,0<=z->z<b->(ns++[z]).length=i+1/\∀n∈ns++[z],0<=n/\n<b:=λz z0 z1=>⟨by rw[Af,hl];rfl,λn hn=>by
    rcases Ap.mp hn with h |h
    .exact hall n h
    .rw[Ak.mp h];exact⟨z0,z1⟩⟩
   refine⟨_,rfl,_,_,rfl,rfl,(by refine cpow ?_;decide),_,_,rfl,rfl,_,rfl,?_⟩;refine ite2 (λ_=>?_) (λ_=>?_)
   .refine⟨_,rfl,.inl ⟨rfl,_,SqL.of e2⟩,_,rfl,_,rfl,_,_,rfl,rfl,hb,p,_,_,rfl,rfl,e2,zak (by rw[Ai];lia),?_⟩;refine⟨_,rfl,_,rfl,_,_,rfl,rfl,⟨hb,ziK hb hb2⟩,?_⟩;obtain⟨z1,z2⟩:=snoc (l % b) (hmod l).1 (hmod l).2;exact⟨_,q,_,ns++[l % b],rfl,q0,q1,zax hp s2,by rw[zaa,AS];rfl,z1,z2⟩
   .refine⟨_,rfl,_,_,rfl,rfl,.inr ⟨by decide,by decide⟩,_,rfl,_,rfl,_,_,rfl,rfl,.inl ⟨by lia,by lia⟩,_,_,rfl,rfl,.inr ⟨by decide,by decide⟩,_,_,rfl,rfl,_,_,rfl,rfl,_,_,rfl,rfl,(by show (0:Int)<2147483629;decide),?_⟩;obtain⟨n0,n1⟩:=hnum (q*48271+(0+(i:Int))*(0+(i:Int))*69621+11);refine⟨_,rfl,.inl ⟨rfl,_,SqL.of e2⟩,_,rfl,_,rfl,_,_,rfl,rfl,.inl ⟨by lia,by lia⟩,_,_,rfl,rfl,(by show (0:Int)<2147483647;decide),_,_,rfl,rfl,⟨by decide,by decide⟩,_,rfl,_,_,rfl,rfl,hb,p,_,_,rfl,rfl,e2,zak (by rw[Ai];lia),?_⟩;obtain⟨z1,z2⟩:=snoc (((q*48271+(0+(i:Int))*(0+(i:Int))*69621+11) % 2147483629)*((q*48271+(0+(i:Int))*(0+(i:Int))*69621+11) % 2147483629) % 2147483647 / 64 % b) (hmod _).1 (hmod _).2;exact⟨l,((q*48271+(0+(i:Int))*(0+(i:Int))*69621+11) % 2147483629),_,ns++[((q*48271+(0+(i:Int))*(0+(i:Int))*69621+11) % 2147483629)*((q*48271+(0+(i:Int))*(0+(i:Int))*69621+11) % 2147483629) % 2147483647 / 64 % b],rfl,n0,n1,zax hp s2,by rw[zaa,AS];rfl,z1,z2⟩
  .rintro σ H2 ⟨l,q,o,ns,rfl,q0,q1,s2,e2,hl,hall⟩;exact⟨_,rfl,k p H2 ns hp s2 e2 hl hall⟩
noncomputable def rowX(ns:List Int)(sh dx y:Int)(n:Nat):List Cell:=((BD n).filter λx=>decide (ns.getD x 0<=sh)).map λx:Nat=>((x:Int)+dx,y)
theorem ziU(ns:List Int)(sh dx y:Int)(n:Nat):rowX ns sh dx y (n+1)=rowX ns sh dx y n++(if ns.getD n 0<=sh then [((n:Int)+dx,y)] else []):=by
 unfold rowX;rw[List.range_succ,B9,AS]
 congr 1
 by_cases h:ns.getD n 0<=sh
 .rw[if_pos h]
  have e:(List.filter (λx=>decide (ns.getD x 0<=sh)) [n])=[n]:=by show (match decide (ns.getD n 0<=sh) with |true=>[n] |false=>[])=[n];rw[decide_eq_true h]
  rw[e];rfl
 .rw[if_neg h]
  have e:(List.filter (λx=>decide (ns.getD x 0<=sh)) [n])=[]:=by show (match decide (ns.getD n 0<=sh) with |true=>[n] |false=>[])=[];rw[decide_eq_false h]
  rw[e];rfl
theorem zdK(ns:List Int)(sh dx y:Int)(n:Nat):(rowX ns sh dx y n).length<=n:=by
 unfold rowX;rw[Ai];refine AN (Bz _ _) ?_
 rw[C0];exact Aj _
theorem zlr(ns:List Int)(sh dx y:Int)(n:Nat):(rowX ns sh dx y n).Pairwise Bfr:=by unfold rowX;rw[List.pairwise_map];refine (List.pairwise_lt_range.filter _).imp λ{a b} h=>zlV (by lia)
theorem zkU{ns:List Int}{sh dx y:Int}{n:Nat}{c:Cell}(h:c∈rowX ns sh dx y n):c.2=y:=by obtain⟨x,_,rfl⟩:=Bd.mp h;rfl
theorem zmj{ns:List Int}{sh dx y:Int}{n:Nat}{c:Cell}(h:c∈rowX ns sh dx y n):dx<=c.1/\c.1<dx+n:=by obtain⟨x,hx,rfl⟩:=Bd.mp h;have:=D5.mp (D7.mp hx).1;show dx<=(x:Int)+dx/\(x:Int)+dx<dx+n;lia
noncomputable def zkQ(K:W.Frag):Sp:=λvs H Q _=>∃(a:Addr) (ns:List Int) (st:Nat),vs=[.ref a,.int st]/\SqL K H a (ns.map V.int)/\∀p H' vs cs,H p=none->Same H H'->H' p=some (.lst vs)->VR vs cs cR H'->cs.Pairwise Bfr->cs.length<=120->(∃l lo:Int,(l.natAbs<2 ^ 100/\lo.natAbs<2 ^ 100)/\∀c∈cs,l<=c.1/\c.1<l+12/\lo<=c.2/\c.2<lo+10)->Q (.ref p) H'
theorem six{α:Type}{l:List α}(h:l.length=6):∃a b c d e f,l=[a,b,c,d,e,f]:=by
 match l,h with
 |[a,b,c,d,e,f],_=>exact⟨a,b,c,d,e,f,rfl⟩
theorem zea (T:Txt P w K mg) (g__law_cell_at:Fn P w K mg base 1 "_law_cell_at" ["_law_script", "_law_k"] (zeO K)) (g__law_row:Fn P w K mg base 1 "_law_row" ["_law_cell", "_law_many", "_law_base"] spRow)
    (d:Df K mg "_law_picture" zbs ["_law_script","_law_start"]):FnOk P w K mg base CX0 2 d.f d.fd ["_law_script","_law_start"] (zkQ K):=by
  refine d.F.ok zat (λvs H Q E h=>?_) (λcdv A outer s H vs Q E hr h=>?_)
  . obtain⟨a,ns,st,rfl,_⟩:=h;rfl
  . obtain⟨a,ns,st,rfl,hS,k⟩:=h;have nb0:(["_law_x","_law_y","_law_far","_law_row_here","_law_share","_law_left","_law_low"]:List Str).Nodup:=by decide +kernel
    refine⟨_,(zac (za2 (pC g__law_row hr (zag (pC g__law_cell_at hr (pa_N (pv 0) (pa_N (pv 1) zab))) (pa_C zad (pa_C zad zab)))) (zkW (by rfl) (zae (nG 2 zat.nd) (zae (nG 3 zat.nd) (zae (zcK (i:=4) zat.nd (by rfl) (Or.inr rfl)) (zae (zcK (i:=5) zat.nd (by rfl) (Or.inr rfl)) (zae (zcK (i:=6) zat.nd (by rfl) (Or.inr rfl)) (zae (nG 7 zat.nd) zay))))))))
      (zac (zfC (i:=8) zat.nd (by rfl) (Or.inr rfl) (pe_ix zaB (zaL (pa_C zad (pa_B (pe_op zhl zad zad) zab))) (pe_op zeV (pv 7) zad) (λ_ _=>rfl)))
      (zac (sE 9 zat.nd (zaL zab))
      (zac (zca BF rfl (zbW (by rfl) T.nrange (pa_B (pe_op zaG zad (pe_op zau (pv 3) zad)) zab)) (zcK (i:=10) zat.nd (by rfl) (Or.inr rfl))
      (zac (zfC (i:=11) zat.nd (by rfl) (Or.inr rfl) (pC g__law_row hr (pa_B (pe_op zaG (pC g__law_cell_at hr (pa_N (pv 0) (pa_B (pe_op zaG (pe_op zaG (pv 1) zad) (pv 10)) zab))) (pv 10)) (pa_B (pe_op zaG zad (pe_op zau (pv 2) zad)) (pa_C zad zab)))))
      (zah (zaS (pe_bm AG Ct Cu zcq (pv 9) (zag (zbt (osc:=zaf zbs) (N:=zcF) (N':=["_law_x","_law_y","_law_far","_law_row_here","_law_share","_law_left","_law_low"]) (sel:=[none,some 10,some 8,some 11,some 4,some 5,some 6]) bO (zbW (by rfl) T.nrange (zag (zan zap (by rfl) T.nlen (by rfl) (pa_N (pv 11) zab)) zab)) (λ_ _ _ _ _=>(nG 0 nb0)) (λ_ _ _ _ _=>zb5 (zaq op_le (pe_ix (zkq (K:=K)) (pv 3) (pv 0) (λ_ _=>rfl)) (pe_op zau (pv 4) zad) (zas _))) (λ_ _ _ _ _=>(zao (pa_B (pe_op zaG (pv 0) (pe_op zbm (pe_op zcD (pv 5) zad) (pv 2))) (pa_B (pe_op zaG (pv 1) (pe_op zbm (pe_op zcD (pv 6) zad) (pv 2))) zab))))) zab))))))
      (zah (zal (pv 9))))))),?_⟩
    refine⟨_,rfl,_,rfl,a,ns,st,rfl,hS,λc0=>⟨c0,60,6,rfl,by decide,by decide,by decide,λp1 H1 ms hp1 s1 e1 hl1 hb1=>?_⟩⟩;obtain⟨wd,hg,sh,lf,lw,wy,rfl⟩:=six hl1;have bw:=hb1 wd (by simp);have bh:=hb1 hg (by simp);have bl:=hb1 lf (by simp);have bo:=hb1 lw (by simp);have by':=hb1 wy (by simp);refine⟨p1,_,rfl,SqL.of e1,rfl,_,_,rfl,_,_,rfl,_,_,rfl,_,_,rfl,_,_,rfl,_,_,rfl,rfl,?_⟩;refine⟨_,_,rfl,rfl,(by refine cpow ?_;decide),two,λl2 hl2=>?_⟩;have s2:Same H1 (upd H1 l2 (.lst [.int 1,.int (10 ^ (28:Int).toNat)])):=Same.up hl2;have e2:upd H1 l2 (.lst [.int 1,.int (10 ^ (28:Int).toNat)]) l2=some (.lst [.int 1,.int (10 ^ (28:Int).toNat)]):=zaa;generalize upd H1 l2 (.lst [.int 1,.int (10 ^ (28:Int).toNat)])=H2 at s2 e2
    obtain⟨far,hfar,hfb⟩:∃far:Int,atI [V.int 1,V.int (10 ^ (28:Int).toNat)] (wy / 50)=some (.int far)/\(far=1∨far=10 ^ 28):=by
      have:wy / 50=0∨wy / 50=1:=by lia
      rcases this with z |z <;> rw[z]
      . exact⟨_,rfl,.inl rfl⟩
      . exact⟨_,rfl,.inr rfl⟩
    refine⟨_,rfl,_,_,rfl,rfl,⟨by decide,by decide⟩,l2,_,_,_,rfl,rfl,SqL.of e2,hfar,?_⟩;refine⟨(by show 0<=sizeLine;decide),λf hf=>?_⟩;have s3:Same H2 (upd H2 f (.lst [])):=Same.up hf;have e3:upd H2 f (.lst []) f=some (.lst []):=zaa;generalize upd H2 f (.lst [])=H3 at s3 e3;have s02:=s1.trans s2;have hf0:H f=none:=s02.free hf;have s03:=s02.trans s3;have hh0:=Dj hg (show (10:Int)≠0 by decide);have hh1:=CO hg (show (0:Int)<10 by decide);have hw0:=Dj wd (show (12:Int)≠0 by decide);have hw1:=CO wd (show (0:Int)<12 by decide);refine⟨_,rfl,_,_,rfl,rfl,(by show (0:Int)<10;decide),_,_,rfl,rfl,_,rfl,(by show -(2 ^ 62)<=1+hg % 10;lia),(by show 1+hg % 10<2 ^ 62;lia),?_⟩
    refine zbX (lo := 0) (n := (1 + hg % 10).toNat) (λi σ H4 => ∃o10 o11, σ = [some (.ref a), some (.int st), some (.int wd), some (.int hg), some (.int sh), some (.int lf), some (.int lw), some (.int wy), some (.int far), some (.ref f), o10, o11] /\ Same H H4 /\
        ∃vs cs,H4 f=some (.lst vs)/\VR vs cs cR H4/\cs.Pairwise Bfr/\(∀c∈cs,c.2<(i:Int)+(lw-30)*far/\(lw-30)*far<=c.2/\(lf-30)*far<=c.1/\c.1<(lf-30)*far+12)/\cs.length<=12*i)
      ⟨_,_,rfl,s03,[],[],e3,VR.nil,.nil,by simp,A6 _⟩ ?_ ?_
    . rintro i σ H4 hi ⟨o10,o11,rfl,s4,vs,cs,e4,hv4,hpw,hup,hcl⟩;have hi10:i<10:=by lia
      refine⟨_,rfl,_,rfl,_,_,rfl,rfl,_,rfl,_,_,rfl,rfl,a,ns,st+1+i,(by rw[DE];rfl),s4.seq hS,λc1=>⟨_,rfl,_,_,rfl,rfl,?_⟩⟩;refine⟨_,rfl,_,_,rfl,rfl,(by show (0:Int)<12;decide),_,_,rfl,rfl,_,4,(1+wd % 12).toNat,(by rw[Int.toNat_of_nonneg (by lia)];rfl),by lia,by decide,by decide,λp5 H5 rs hp5 s5 e5 hl5 _=>?_⟩;have e45:=s5 _ _ e4;refine⟨_,rfl,.inl ⟨rfl,_,SqL.of e45⟩,_,rfl,p5,_,rfl,.inl (SqL.of e5),_,rfl,(by rw[Ai];lia),(by rw[Ai];lia),λg hg5=>?_⟩;rw[show ((((rs.map V.int).length:Nat):Int)).toNat=rs.length by rw[Ai];rfl];have hrl:rs.length<=12:=by lia
      refine zbX (lo:=0) (n:=rs.length) (λj σ H6=>∃o0,σ=[o0,some (.int (0+(i:Int))),some (.int far),some (.ref p5),some (.int sh),some (.int lf),some (.int lw)]/\Same H5 H6/\∃zs,H6 g=some (.lst zs)/\VR zs (rowX rs (sh % 3) ((lf-30)*far) ((i:Int)+(lw-30)*far) j) cR H6)
        ⟨_,rfl,Same.up hg5,[],zaa,VR.nil⟩ ?_ ?_
      . rintro j σ H6 hj ⟨o0,rfl,s6,zs,e6,hz6⟩;have hzl:zs.length<=12:=by rw[hz6.1];have:=zdK rs (sh % 3) ((lf-30)*far) ((i:Int)+(lw-30)*far) j;lia
        have hget:(rs.map V.int)[j]?=some (.int (rs.getD j 0)):=by rw[A7,Bh,Ab hj];rfl
        refine⟨_,rfl,_,rfl,p5,_,_,_,rfl,rfl,SqL.of (s6 _ _ e5),(by rw[DE];exact zaz hget),_,rfl,_,_,rfl,rfl,(by show (0:Int)<3;decide),_,_,rfl,rfl,_,rfl,?_⟩;rw[ziU];refine ite2 (λhy=>?_) (λhn=>?_)
        . rw[if_pos (of_decide_eq_true hy)];refine⟨_,rfl,_,rfl,_,_,rfl,rfl,_,rfl,_,_,rfl,rfl,.inl ⟨by lia,by lia⟩,_,_,rfl,rfl,?_⟩;refine⟨_,rfl,_,rfl,_,_,rfl,rfl,_,rfl,_,_,rfl,rfl,.inl ⟨by lia,by lia⟩,_,_,rfl,rfl,two,λt ht=>?_⟩;have s7:Same H6 (upd H6 t (.tup [.int (0+(j:Int)+(lf-30)*far),.int (0+(i:Int)+(lw-30)*far)])):=Same.up ht;have r7:cR ((j:Int)+(lf-30)*far,(i:Int)+(lw-30)*far) (.ref t) (upd H6 t (.tup [.int (0+(j:Int)+(lf-30)*far),.int (0+(i:Int)+(lw-30)*far)])):=⟨t,rfl,by rw[zaa,DE,DE];rfl⟩;generalize upd H6 t (.tup [.int (0+(j:Int)+(lf-30)*far),.int (0+(i:Int)+(lw-30)*far)])=H7 at s7 r7;have e7:=s7 _ _ e6;refine⟨zs,e7,zak (by lia),_,rfl,zax hg5 (s6.trans s7),_,zaa,?_⟩;exact hz6.snoc (λx v h=>(h.kt (KT.of s7)).kt (KT.lst e7)) (r7.kt (KT.lst e7))
        . rw[if_neg (by simpa using hn)];exact⟨_,rfl,s6,zs,e6,by rw[AE];exact hz6⟩
      . rintro σ H6 ⟨o0,rfl,s6,zs,e6,hz6⟩;have hrx:=zdK rs (sh % 3) ((lf-30)*far) ((i:Int)+(lw-30)*far) rs.length;have hzl:zs.length<=12:=by rw[hz6.1];lia
        have hvl:vs.length<=120:=by rw[hv4.1];lia
        have e46:=s6 _ _ e45;refine⟨f,g,_,_,rfl,rfl,e46,e6,Bc (zak (by lia)),?_⟩;have k7:KT H6 (upd H6 f (.lst (vs++zs))):=KT.lst e46;refine⟨_,_,rfl,zax hf0 (s4.trans (s5.trans s6)),_,_,zaa,(hv4.mono λx v h=>(h.kt (KT.of (s5.trans s6))).kt k7).app (hz6.mono λx v h=>h.kt k7),?_,?_,?_⟩
        . refine AU.mpr ⟨hpw,zlr _ _ _ _ _,λx hx y hy=>zmM ?_⟩;have:=(hup x hx).1;rw[zkU hy];exact this
        . intro c hc;rcases Ap.mp hc with h |h
          . have:=hup c h;lia
          . have e1:=zkU h;have e2:=zmj h;lia
        . rw[Af];lia
    . rintro σ H4 ⟨o10,o11,rfl,s4,vs,cs,e4,hv4,hpw,hup,hcl⟩;exact⟨_,rfl,k f H4 vs cs hf0 s4 e4 hv4 hpw (by lia) ⟨(lf-30)*far,(lw-30)*far,(by rcases hfb with rfl |rfl <;> lia),λc hc=>by have:=hup c hc;lia⟩⟩
noncomputable def keyR(k:List Key)(v:V)(H:Hp):Prop:=∃b,v=.ref b/\H b=some (.tup (k.map kV))
noncomputable def tru(ks:List (List Key)):List (List Key×V):=ks.map λk=>(k,V.bl true)
theorem zj5{ks:List (List Key)}{k:List Key}(h:k ∉ ks):putK (tru ks) k (.bl true)=tru (ks++[k]):=by
 unfold putK tru;rw[if_neg (λz=>?_),AS]
 .rfl
 .obtain⟨x,hx,e⟩:=List.any_eq_true.mp z;obtain⟨y,hy,rfl⟩:=Bd.mp hx;exact h (by rw[<- of_decide_eq_true e];exact hy)
theorem zit:∀{ks:List (List Key)}{k:List Key},k ∉ ks->valV (tru ks) k=none
 |[],_,_=>rfl
 |x::xs,k,h=>by
  show valV ((x,V.bl true)::tru xs) k=none;rw[za4 (λe=>h (by rw[<- e];exact AQ))];exact zit λm=>h (AI _ m)
theorem zkM:∀{ks:List (List Key)}{k:List Key},k∈ks->valV (tru ks) k=some (.bl true)
 |x::xs,k,h=>by
  show valV ((x,V.bl true)::tru xs) k=some (V.bl true)
  by_cases e:x=k
  .rw[za8 e]
  .rw[za4 e];exact zkM ((At.mp h).resolve_left λz=>e z.symm)
noncomputable def spLot(K:W.Frag):Sp:=λvs H Q _=>∃(a:Addr) (us:List V) (ks:List (List Key)),vs=[.ref a]/\SqL K H a us/\VR us ks keyR H/\ks.Nodup/\ks.length<=2000/\∀t H',H t=none->Same H H'->H' t=some (.dT (tru ks))->Q (.ref t) H'
theorem zh0 (d:Df K mg "_law_lot" zdd ["_law_cells"]):FnOk P w K mg base CX0 1 d.f d.fd ["_law_cells"] (spLot K):=by
 refine d.F.ok zcG (λvs H Q E h=>?_) (λcdv A outer s H vs Q E hr h=>?_)
 .obtain⟨a,us,ks,rfl,_⟩:=h;rfl
 .obtain⟨a,us,ks,rfl,hq,hv,hnd,hlen,k⟩:=h;have hu1:=hu_of hr
  refine⟨_,(zac (sE 1 zcG.nd zdv)
   (zac (zca BF rfl (zbx (pv 0)) (nG 2 zcG.nd)
   (zah (zi0 hu1 (pv 1) (pv 2) pe_bl rfl)))
   (zah (zal (pv 1))))),?_⟩
  refine λp hp=>?_
  refine⟨_,rfl,a,rfl,⟨_,(Same.up hp).seq hq⟩,?_⟩
  refine zba (K:=K) (a:=a) (xs:=us) (λi σ H2=>∃o,σ=[some (.ref a),some (.ref p),o]/\Same H H2/\H2 p=some (.dT (tru (ks.take i))))
   ⟨_,rfl,Same.up hp,zaa⟩ (λi σ H2 _ ⟨_,_,s2,_⟩=>s2.seq hq) ?_ ?_
  .rintro i v σ H2 hi ⟨o,rfl,s2,e2⟩;obtain⟨x,hx,b,rfl,q⟩:=hv.at hi;have hil:i<ks.length:=(Ad.mp hx).1
   have hn:x ∉ ks.take i:=λhm=>by
    obtain⟨j,hj,ej⟩:=AZ hm;rw[AT]at hj;have h1:ks[j]?=some x:=by rw[<- ej,List.getElem_take];exact Ab (by lia)
    have:=(List.getElem?_inj (i:=j) (j:=i) (by lia) hnd).mp (by rw[h1,hx]);lia
   refine⟨_,rfl,_,rfl,p,_,rfl,.inr ⟨tru (ks.take i),x,b,e2,rfl,s2 _ _ q,zak (by unfold tru;rw[Ai,AT];lia),rfl⟩,?_⟩;refine⟨_,rfl,λz o e=>?_,?_⟩
   .rw[zai (zaj e hp)];exact s2 z o e
   .rw[zaa,zj5 hn,zaN hx]
  .rintro σ H2 ⟨o,rfl,s2,e2⟩;rw[hv.1,A4]at e2;exact⟨_,rfl,k p H2 hp s2 e2⟩
noncomputable def TabR(H:Hp)(t:Addr)(C:Cell->Bool):Prop:=∃kvs:List (List Key×V),Rd H t (.dT kvs)/\∀c:Cell,(valV kvs [Dz c.1,Dz c.2]).isSome=C c
theorem Same.rd{H H':Hp}{a:Addr}{o:HO}(s:Same H H')(h:Rd H a o):Rd H' a o:=h.elim (λe=>.inl (s _ _ e)) λ⟨x,e⟩=>.inr ⟨x,s _ _ e⟩
theorem TabR.same{H H':Hp}{t:Addr}{C:Cell->Bool}(h:TabR H t C)(s:Same H H'):TabR H' t C:=let ⟨kvs,e,q⟩:=h;⟨kvs,Same.rd s e,q⟩
theorem zgY(cs:List Cell)(c:Cell):(valV (tru (cs.map kC)) (kC c)).isSome=isIn cs c:=by
 show _=decide (c∈cs)
 by_cases m:c∈cs
 .rw[zkM (Bd.mpr ⟨c,m,rfl⟩),decide_eq_true m];rfl
 .rw[zit (λz=>by obtain⟨x,hx,e⟩:=Bd.mp z;exact m ((zhy.mp e) ▸ hx)),decide_eq_false m];rfl
theorem TabR.of{H:Hp}{t:Addr}{cs:List Cell}(h:Rd H t (.dT (tru (cs.map kC)))):TabR H t (isIn cs):=⟨_,h,zgY cs⟩
noncomputable def zg9(K:W.Frag):Sp:=λvs H Q _=>∃(t a:Addr) (C:Cell->Bool) (e:Edge),vs=[.ref t,.ref a]/\TabR H t C/\SqT K H a (edgeT e)/\e.w<4/\∀p q H',Same H H'->H' p=some (.tup [sv (stepB C e),.ref q])->H' q=some (.tup (edgeT (nxt C e)))->Q (.ref p) H'
theorem ze3 (g__law_gone:Fn P w K mg base 1 "_law_gone" ["_law_x","_law_y","_law_step"] zcd) (d:Df K mg "_law_behind" zb4 ["_law_there","_law_edge"]):FnOk P w K mg base CX0 2 d.f d.fd ["_law_there","_law_edge"] (zg9 K):=by
 refine d.F.ok zaZ (λvs H Q E h=>?_) (λcdv A outer s H vs Q E hr h=>?_)
 .obtain⟨t,a,C,e,rfl,_⟩:=h;rfl
 .obtain⟨t,a,C,e,rfl,tab,hq,hw,k⟩:=h;have hu1:=hu_of hr
  refine⟨_,(zac (za2 (pv 1) (zaW (by rfl) (zae (nG 2 zaZ.nd) (zae (nG 3 zaZ.nd) (zae (nG 4 zaZ.nd) zay)))))
   (zac (sE 5 zaZ.nd (pC g__law_gone hr (pa_N (pv 2) (pa_N (pv 3) (pa_B (pe_op zau (pe_op zaG (pe_op zbm zad (pv 4)) zad) zad) zab)))))
   (zac (sE 6 zaZ.nd (pC g__law_gone hr (pa_N (pv 2) (pa_N (pv 3) (pa_B (pe_op zbm zad (pv 4)) zab)))))
   (zac (ps_if (zhe (zkY hu1 (pv 5) (pv 0)))
   (zah (zal (zao (pa_B (pe_op zau (pe_op zaG (pe_op zbm zad (pv 4)) zad) zad) (pa_B (pe_op zeW (pv 5) (zao (pa_B (pe_op zau (pe_op zaG (pv 4) zad) zad) zab))) zab)))))
   zaA)
   (zac (ps_if (zhe (zkY hu1 (pv 6) (pv 0)))
   (zah (zal (zao (pa_B (pe_op zbm zad (pv 4)) (pa_B (pe_op zeW (pv 6) (zao (pa_N (pv 4) zab))) zab)))))
   zaA)
   (zah (zal (zao (pa_C zby (pa_T (zao (pa_N (pv 2) (pa_N (pv 3) (pa_B (pe_op zau (pe_op zaG (pv 4) zad) zad) zab)))) zab)))))))))),?_⟩
  refine⟨_,rfl,a,_,rfl,hq,rfl,_,_,rfl,_,_,rfl,_,_,rfl,rfl,?_⟩;have m7:(2*(e.w:Int)+7) % 8=(((2*e.w+7) % 8:Nat):Int):=by lia
  have m2:2*(e.w:Int)=((2*e.w:Nat):Int):=by lia
  refine⟨_,rfl,_,rfl,_,rfl,_,_,rfl,rfl,.inl ⟨by decide,by decide⟩,_,_,rfl,rfl,_,_,rfl,rfl,(by show (0:Int)<8;decide),e.c,(2*e.w+7) % 8,(by rw[<- m7];rfl),B4 _ (by decide),λp1 H1 hp1 s1 e1=>?_⟩;refine⟨_,rfl,_,rfl,_,rfl,_,_,rfl,rfl,.inl ⟨by decide,by decide⟩,e.c,2*e.w,(by rw[<- m2];rfl),by lia,λp2 H2 hp2 s2 e2=>?_⟩;have s12:=s1.trans s2;obtain⟨kvs,et,hC⟩:=tab;have e12:=s2 _ _ e1;refine⟨_,rfl,_,rfl,t,_,rfl,.inr ⟨kvs,kC (go e.c ((2*e.w+7) % 8)),p1,(Same.rd s12 et),rfl,e12,rfl⟩,_,rfl,?_⟩;have hc1:=hC (go e.c ((2*e.w+7) % 8));change (valV kvs (kC (go e.c ((2*e.w+7) % 8)))).isSome=_ at hc1;rw[hc1]
  cases c1:C (go e.c ((2*e.w+7) % 8)) with
  |true =>
   refine iteT ?_
   have hs:stepB C e=some ((2*e.w+7) % 8):=by unfold stepB;rw[c1,if_pos rfl]
   refine⟨_,rfl,_,_,rfl,rfl,.inl ⟨by decide,by decide⟩,_,_,rfl,rfl,_,_,rfl,rfl,(by show (0:Int)<8;decide),?_⟩;refine⟨_,rfl,_,rfl,_,_,rfl,rfl,_,_,rfl,rfl,(by show (0:Int)<4;decide),(by show 1<=sizeLine;decide),λt3 h3=>?_⟩;have s3:=Same.up (o:=.tup [.int (((e.w:Int)+3) % 4)]) h3;have f3:upd H2 t3 (.tup [.int (((e.w:Int)+3) % 4)]) t3=some (.tup [.int (((e.w:Int)+3) % 4)]):=zaa;generalize upd H2 t3 (.tup [.int (((e.w:Int)+3) % 4)])=H3 at s3 f3;refine⟨p1,t3,_,_,rfl,rfl,SqT.of (s3 _ _ e12),SqT.of f3,(by simp[cellT]),three,(λz=>by cases z),λ_ q hq'=>?_⟩;have s4:=Same.up (o:=.tup (cellT (go e.c ((2*e.w+7) % 8))++[.int (((e.w:Int)+3) % 4)])) hq';have f4:upd H3 q (.tup (cellT (go e.c ((2*e.w+7) % 8))++[.int (((e.w:Int)+3) % 4)])) q=some (.tup (cellT (go e.c ((2*e.w+7) % 8))++[.int (((e.w:Int)+3) % 4)])):=zaa;generalize upd H3 q (.tup (cellT (go e.c ((2*e.w+7) % 8))++[.int (((e.w:Int)+3) % 4)]))=H4 at s4 f4;refine⟨two,λp5 h5=>?_⟩;refine k p5 q _ (s12.trans (s3.trans (s4.trans (Same.up h5)))) ?_ ?_
   .rw[zaa,hs];show some (HO.tup [.int ((2*(e.w:Int)+7) % 8),.ref q])=some (HO.tup [.int (((2*e.w+7) % 8:Nat):Int),.ref q]);rw[m7]
   .rw[Same.up h5 _ _ f4];unfold nxt;rw[hs];show _=some (HO.tup (edgeT (if (2*e.w+7) % 8 % 2=1 then ⟨go e.c ((2*e.w+7) % 8),(e.w+3) % 4⟩ else ⟨go e.c ((2*e.w+7) % 8),e.w⟩)));rw[if_pos (by lia)];show some (HO.tup [.int _,.int _,.int (((e.w:Int)+3) % 4)])=some (HO.tup [.int _,.int _,.int (((e.w+3) % 4:Nat):Int)]);rw[show ((e.w:Int)+3) % 4=(((e.w+3) % 4:Nat):Int) by lia]
  |false =>
   refine iteF ?_
   refine⟨_,rfl,_,rfl,t,_,rfl,.inr ⟨kvs,kC (go e.c (2*e.w)),p2,(Same.rd s12 et),rfl,e2,rfl⟩,_,rfl,?_⟩;have hc2:=hC (go e.c (2*e.w));change (valV kvs (kC (go e.c (2*e.w)))).isSome=_ at hc2;rw[hc2]
   cases c2:C (go e.c (2*e.w)) with
   |true =>
    refine iteT ?_
    have hs:stepB C e=some (2*e.w):=by unfold stepB;rw[c1,if_neg (by simp),c2,if_pos rfl]
    refine⟨_,rfl,_,_,rfl,rfl,.inl ⟨by decide,by decide⟩,?_⟩;refine⟨_,rfl,_,rfl,(by show 1<=sizeLine;decide),λt3 h3=>?_⟩;have s3:=Same.up (o:=.tup [.int (e.w:Int)]) h3;have f3:upd H2 t3 (.tup [.int (e.w:Int)]) t3=some (.tup [.int (e.w:Int)]):=zaa;generalize upd H2 t3 (.tup [.int (e.w:Int)])=H3 at s3 f3;refine⟨p2,t3,_,_,rfl,rfl,SqT.of (s3 _ _ e2),SqT.of f3,(by simp[cellT]),three,(λz=>by cases z),λ_ q hq'=>?_⟩;have s4:=Same.up (o:=.tup (cellT (go e.c (2*e.w))++[.int (e.w:Int)])) hq';have f4:upd H3 q (.tup (cellT (go e.c (2*e.w))++[.int (e.w:Int)])) q=some (.tup (cellT (go e.c (2*e.w))++[.int (e.w:Int)])):=zaa;generalize upd H3 q (.tup (cellT (go e.c (2*e.w))++[.int (e.w:Int)]))=H4 at s4 f4;refine⟨two,λp5 h5=>?_⟩;refine k p5 q _ (s12.trans (s3.trans (s4.trans (Same.up h5)))) ?_ ?_
    .rw[zaa,hs];show some (HO.tup [.int (2*(e.w:Int)),.ref q])=some (HO.tup [.int ((2*e.w:Nat):Int),.ref q]);rw[m2]
    .rw[Same.up h5 _ _ f4];unfold nxt;rw[hs];show _=some (HO.tup (edgeT (if 2*e.w % 2=1 then ⟨go e.c (2*e.w),(e.w+3) % 4⟩ else ⟨go e.c (2*e.w),e.w⟩)));rw[if_neg (by lia)];rfl
   |false =>
    refine iteF ?_
    have hs:stepB C e=none:=by unfold stepB;rw[c1,if_neg (by simp),c2,if_neg (by simp)]
    refine⟨_,rfl,_,rfl,_,rfl,_,_,rfl,rfl,_,_,rfl,rfl,(by show (0:Int)<4;decide),three,λq hq'=>?_⟩;have s4:=Same.up (o:=.tup [.int e.c.1,.int e.c.2,.int (((e.w:Int)+1) % 4)]) hq';have f4:upd H2 q (.tup [.int e.c.1,.int e.c.2,.int (((e.w:Int)+1) % 4)]) q=some (.tup [.int e.c.1,.int e.c.2,.int (((e.w:Int)+1) % 4)]):=zaa;generalize upd H2 q (.tup [.int e.c.1,.int e.c.2,.int (((e.w:Int)+1) % 4)])=H4 at s4 f4;refine⟨two,λp5 h5=>?_⟩;refine k p5 q _ (s12.trans (s4.trans (Same.up h5))) ?_ ?_
    .rw[zaa,hs];rfl
    .rw[Same.up h5 _ _ f4];unfold nxt;rw[hs];show some (HO.tup [.int _,.int _,.int (((e.w:Int)+1) % 4)])=some (HO.tup [.int _,.int _,.int (((e.w+1) % 4:Nat):Int)]);rw[show ((e.w:Int)+1) % 4=(((e.w+1) % 4:Nat):Int) by lia];rfl
noncomputable def zg4(K:W.Frag):Sp:=λvs H Q _=>∃(t a:Addr) (cs:List Cell) (b:Edge),vs=[.ref t,.ref a]/\TabR H t (isIn cs)/\H a=some (.tup (edgeT b))/\IsE (isIn cs) b/\cs.length<=120 /\
 ∀p pe pq H' us es,Same H H'->H' p=some (.tup [.ref pe,.ref pq])->H' pe=some (.lst us)->VR us es eR H'->H' pq=some (.lst ((es.map (stepB (isIn cs))).map sv))->Closed (isIn cs) b es->Q (.ref p) H'
theorem ze1 (g__law_behind:Fn P w K mg base 2 "_law_behind" ["_law_there","_law_edge"] (zg9 K)) (d:Df K mg "_law_walked" zb3 ["_law_there","_law_first"]):FnOk P w K mg base CX0 3 d.f d.fd ["_law_there","_law_first"] (zg4 K):=by
 refine d.F.ok zaP (λvs H Q E h=>?_) (λcdv A outer s H vs Q E hr h=>?_)
 .obtain⟨t,a,cs,b,rfl,_⟩:=h;rfl
 .obtain⟨t,a,cs,b,rfl,tab,ha,hb,hlen,k⟩:=h;have hu64:=hr.units
  refine⟨_,(zac (sE 2 zaP.nd (zaL (pa_N (pv 1) zab)))
   (zac (sE 3 zaP.nd (zaL zab))
   (zac (za2 (pC g__law_behind hr (pa_N (pv 0) (pa_N (pv 1) zab))) (zaW (by rfl) (zae (nG 4 zaP.nd) (zae (nG 5 zaP.nd) zay))))
   (zac (zhf BF (zaq (zhm hu64) (pv 5) (pv 1) (zas _))
   (zac (zaS (pe_bm AG AX AY zaM (pv 2) (pa_N (pv 5) zab)))
   (zac (zaS (pe_bm AG AX AY zaM (pv 3) (pa_N (pv 4) zab)))
   (zah (za2 (pC g__law_behind hr (pa_N (pv 0) (pa_N (pv 5) zab))) (zaW (by rfl) (zae (nG 4 zaP.nd) (zae (nG 5 zaP.nd) zay))))))))
   (zah (zal (zao (pa_N (pv 2) (pa_B (pe_op zfH (pv 3) (zaL (pa_N (pv 4) zab))) zab))))))))),?_⟩
  refine⟨_,rfl,(by show 1<=sizeLine;decide),λpe hpe=>?_⟩;have s1:=Same.up (o:=.lst [.ref a]) hpe;have e1:upd H pe (.lst [.ref a]) pe=some (.lst [.ref a]):=zaa;generalize upd H pe (.lst [.ref a])=H1 at s1 e1;refine⟨(by show 0<=sizeLine;decide),λps hps=>?_⟩;have s2:=Same.up (o:=.lst []) hps;have e2:upd H1 ps (.lst []) ps=some (.lst []):=zaa;generalize upd H1 ps (.lst [])=H2 at s2 e2;have s02:=s1.trans s2;have hps0:H ps=none:=s1.free hps;have hne:pe≠ps:=zaj e1 hps;refine⟨_,rfl,_,rfl,t,a,isIn cs,b,rfl,tab.same s02,SqT.of (s02 _ _ ha),hb.1,λp3 q3 H3 s3 f3 g3=>?_⟩;refine⟨p3,_,rfl,SqT.of f3,rfl,_,_,rfl,_,_,rfl,rfl,?_⟩;have s03:=s02.trans s3
  refine zjT (λσ H4=>∃us es l re,σ=[some (.ref t),some (.ref a),some (.ref pe),some (.ref ps),some (sv (stepB (isIn cs) l)),some (.ref re)]/\Same H H4/\H4 pe=some (.lst us)/\VR us (es++[l]) eR H4/\H4 ps=some (.lst ((es.map (stepB (isIn cs))).map sv))/\Chain (isIn cs) b (es++[l])/\H4 re=some (.tup (edgeT (nxt (isIn cs) l))))
   (λ_ H4=>4*cs.length+1-zjj (H4 pe)) ?_ ?_ ?_
  .refine⟨[.ref a],[],b,q3,rfl,s03,(s2.trans s3) _ _ e1,⟨rfl,λi x v h1 h2=>?_⟩,s3 _ _ e2,Chain.start hb,g3⟩
   match i,h1,h2 with
   | 0,h1,h2 =>
    cases h1;cases h2
    exact⟨a,rfl,s03 _ _ ha⟩
   |i+1,h1,h2=>simp at h2
  .rintro σ H4 ⟨us,es,l,re,rfl,s4,e4,hv,q4,hch,er⟩;have hw4:(nxt (isIn cs) l).w<4:=(zk2 (hch.2.2.1 l (by simp))).1;have hl4:us.length=(es++[l]).length:=hv.1;have hsh0:=hch.short;refine⟨_,rfl,_,rfl,_,_,zco er,zco (s4 _ _ ha),zaV _,zaV _,_,rfl,?_⟩;rw[zez]
   by_cases hnb:nxt (isIn cs) l=b
   .rw[decide_eq_true (zeA.mpr hnb)];refine iteF ?_
    refine⟨_,rfl,_,rfl,_,rfl,(by show 1<=sizeLine;decide),λl5 h5=>?_⟩;have s5:=Same.up (o:=.lst [sv (stepB (isIn cs) l)]) h5;have e5:upd H4 l5 (.lst [sv (stepB (isIn cs) l)]) l5=some (.lst [sv (stepB (isIn cs) l)]):=zaa;generalize upd H4 l5 (.lst [sv (stepB (isIn cs) l)])=H5 at s5 e5;rw[Af,Cj]at hsh0;refine⟨ps,l5,_,_,rfl,rfl,s5 _ _ q4,e5,Bc (zak (by simp;lia)),λl6 h6=>?_⟩;have em:(es.map (stepB (isIn cs))).map sv++[sv (stepB (isIn cs) l)]=((es++[l]).map (stepB (isIn cs))).map sv:=by rw[AS,AS];rfl
    rw[em];have s6:=Same.up (o:=.lst (((es++[l]).map (stepB (isIn cs))).map sv)) h6;have e6:upd H5 l6 (.lst (((es++[l]).map (stepB (isIn cs))).map sv)) l6=some (.lst (((es++[l]).map (stepB (isIn cs))).map sv)):=zaa;generalize upd H5 l6 (.lst (((es++[l]).map (stepB (isIn cs))).map sv))=H6 at s6 e6;refine⟨two,λp7 h7=>?_⟩;have s7:=Same.up (o:=.tup [.ref pe,.ref l6]) h7;have s47:=s5.trans (s6.trans s7);exact k p7 pe l6 _ us (es++[l]) (s4.trans s47) zaa (s47 _ _ e4) (hv.mono λx v h=>h.kt (KT.of s47)) (s7 _ _ e6) ⟨hch,l,by simp,hnb⟩
   .rw[decide_eq_false (λz=>hnb (zeA.mp z))];refine iteT ?_
    have hch2:=hch.more hnb;have hsh:=hch2.short;have hl5:us.length+1<=4*cs.length:=by rw[hl4];rw[Af,Cj]at hsh;exact hsh
    refine⟨_,rfl,.inl ⟨rfl,_,SqL.of e4⟩,_,rfl,pe,us,_,rfl,rfl,e4,zak (by lia),?_⟩;have k5:KT H4 (upd H4 pe (.lst (us++[.ref re]))):=KT.lst e4;have e5:upd H4 pe (.lst (us++[.ref re])) pe=some (.lst (us++[.ref re])):=zaa;have s5:Same H (upd H4 pe (.lst (us++[.ref re]))):=zax hpe s4;have q5:upd H4 pe (.lst (us++[.ref re])) ps=some (.lst ((es.map (stepB (isIn cs))).map sv)):=by rw[zai (Bx hne)];exact q4
    generalize upd H4 pe (.lst (us++[.ref re]))=H5 at k5 e5 s5 q5;have hel:es.length<=480:=by rw[Af,Af]at hsh;lia
    refine⟨_,rfl,.inl ⟨rfl,_,SqL.of q5⟩,_,rfl,ps,_,_,rfl,rfl,q5,zak (by simp;lia),?_⟩;have em:(es.map (stepB (isIn cs))).map sv++[sv (stepB (isIn cs) l)]=((es++[l]).map (stepB (isIn cs))).map sv:=by rw[AS,AS];rfl
    rw[em];have k6:KT H5 (upd H5 ps (.lst (((es++[l]).map (stepB (isIn cs))).map sv))):=KT.lst q5;have q6:upd H5 ps (.lst (((es++[l]).map (stepB (isIn cs))).map sv)) ps=some (.lst (((es++[l]).map (stepB (isIn cs))).map sv)):=zaa;have s6:Same H (upd H5 ps (.lst (((es++[l]).map (stepB (isIn cs))).map sv))):=zax hps0 s5;have e6:upd H5 ps (.lst (((es++[l]).map (stepB (isIn cs))).map sv)) pe=some (.lst (us++[.ref re])):=by rw[zai hne];exact e5
    generalize upd H5 ps (.lst (((es++[l]).map (stepB (isIn cs))).map sv))=H6 at k6 q6 s6 e6;have kt:=k5.trans k6;have r6:=kt _ _ er;refine⟨_,rfl,_,rfl,t,re,isIn cs,nxt (isIn cs) l,rfl,tab.same s6,SqT.of r6,hw4,λp7 q7 H7 s7 f7 g7=>?_⟩;refine⟨p7,_,rfl,SqT.of f7,rfl,_,_,rfl,_,_,rfl,rfl,?_⟩;have e7:=s7 _ _ e6;refine⟨⟨us++[.ref re],es++[l],nxt (isIn cs) l,q7,rfl,s6.trans s7,e7,?_,s7 _ _ q6,hch2,g7⟩,?_⟩
    .exact hv.snoc (λx v hx=>(hx.kt kt).kt (KT.of s7)) ⟨re,rfl,s7 _ _ r6⟩
    .show 4*cs.length+1-zjj (H7 pe)<4*cs.length+1-zjj (H4 pe);rw[e7,e4];show 4*cs.length+1-(us++[V.ref re]).length<4*cs.length+1-us.length;rw[Af,Cj];lia
  .rintro σ H4 Q1 Q2 hQ ⟨v,h1,v2,h2,dd,ee,r1,r2,x1,x2,kk,h3,q⟩;exact⟨v,h1,v2,h2,dd,ee,r1,r2,x1,x2,kk,h3,hQ _ _ q⟩
noncomputable def Frz(t:Addr)(kvs:List (List Key×V))(H H':Hp):Prop:=(∀b o,b≠t->H b=some o->H' b=some o)/\∃od,H' t=some (.frz od (.dT kvs))
noncomputable def ziH(K:W.Frag):Sp:=λvs H Q _=>∃(t:Addr) (cs:List Cell),vs=[.ref t]/\H t=some (.dT (tru (cs.map kC)))/\cs.length<=120/\∀p H' us,H p=none->Frz t (tru (cs.map kC)) H H'->H' p=some (.lst us)->VR us (allE cs) eR H'->Q (.ref p) H'
theorem zfJ (T:Txt P w K mg) (g__law_gone:Fn P w K mg base 1 "_law_gone" ["_law_x","_law_y","_law_step"] zcd) (d:Df K mg "_law_edges" zbM ["_law_there"]):FnOk P w K mg base CX0 2 d.f d.fd ["_law_there"] (ziH K):=by
 refine d.F.ok zbB (λvs H Q E h=>?_) (λcdv A outer s H vs Q E hr h=>?_)
 .obtain⟨t,cs,rfl,_⟩:=h;rfl
 .obtain⟨t,cs,rfl,ht,hlen,k⟩:=h;have hu1:=hu_of hr;have nb0:(["_law_way","_law_x","_law_y","_law_there"]:List Str).Nodup:=by decide +kernel
  refine⟨_,(zac (sE 1 zbB.nd (zaL zab))
   (zac (zca BF rfl (zka (pv 0)) (zaW (by rfl) (zae (zcK (i:=2) zbB.nd (by rfl) (Or.inr rfl)) (zae (zcK (i:=3) zbB.nd (by rfl) (Or.inr rfl)) zay)))
   (zah (zaS (pe_bm AG Ct Cu zcq (pv 1) (zag (zbt (osc:=zaf zbM) (N:=zdn) (N':=["_law_way","_law_x","_law_y","_law_there"]) (sel:=[none,some 2,some 3,some 0]) bO (zbW (by rfl) T.nrange (pa_C zad zab)) (λ_ _ _ _ _=>(nG 0 nb0)) (λ_ _ _ _ _=>zb5 (zhe (zfG hu1 (pC g__law_gone hr (pa_N (pv 1) (pa_N (pv 2) (pa_B (pe_op zau (pe_op zaG (pe_op zbm zad (pv 0)) zad) zad) zab)))) (pv 3)))) (λ_ _ _ _ _=>(zao (pa_N (pv 1) (pa_N (pv 2) (pa_N (pv 0) zab)))))) zab)))))
   (zah (zal (pv 1))))),?_⟩
  refine⟨(by show 0<=sizeLine;decide),λp hp=>?_⟩;have s1:=Same.up (o:=.lst []) hp;have e1:upd H p (.lst []) p=some (.lst []):=zaa;generalize upd H p (.lst [])=H1 at s1 e1;have ht1:=s1 _ _ ht;have hpt:p≠t:=ne_of e1 ht1 (λz=>nomatch z);refine⟨_,rfl,t,_,rfl,ht1,λod=>?_⟩;have kt2:KT H1 (upd H1 t (.frz od (.dT (tru (cs.map kC))))):=KT.dct ht1;have sb2:∀b o,b≠t->H1 b=some o->upd H1 t (.frz od (.dT (tru (cs.map kC)))) b=some o:=λb o hb e=>by rw[zai hb];exact e
  have e2:upd H1 t (.frz od (.dT (tru (cs.map kC)))) t=some (.frz od (.dT (tru (cs.map kC)))):=zaa;have hp2:upd H1 t (.frz od (.dT (tru (cs.map kC)))) p=some (.lst []):=by rw[zai hpt];exact e1
  generalize upd H1 t (.frz od (.dT (tru (cs.map kC))))=H2 at kt2 sb2 e2 hp2
  refine zkz (a:=t) (od:=od) (kvs:=tru (cs.map kC)) (λi σ H3=>∃o2 o3,σ=[some (.ref t),some (.ref p),o2,o3]/\(∀b o,b≠p->H2 b=some o->H3 b=some o)/\∃us,H3 p=some (.lst us)/\VR us ((sides (cs.take i)).filter λe=>!isIn cs (gap e)) eR H3)
   ⟨_,_,rfl,λ_ _ _ e=>e,[],hp2,VR.nil⟩ (λi σ H3 _ ⟨_,_,_,s3,_⟩=>s3 _ _ (Bx hpt) e2) ?_ ?_
  .rintro i b kk v σ H3 hi hb ⟨o2,o3,rfl,s3,us,e3,hv3⟩;have hil:i<cs.length:=by have:=(Ad.mp hi).1;unfold tru at this;simpa using this
   have ci:cs[i]?=some cs[i]:=Ab hil
   have hk:kk=kC cs[i]:=by
    unfold tru at hi;rw[A7,A7,ci]at hi
    cases hi;rfl
   subst hk;have t3:=s3 _ _ (Bx hpt) e2;refine⟨b,_,rfl,SqT.of hb,rfl,_,_,rfl,_,_,rfl,rfl,?_⟩;refine⟨_,rfl,.inl ⟨rfl,_,SqL.of e3⟩,4,rfl,by decide,by decide,λg hg=>?_⟩
   refine zbX (lo:=0) (n:=4) (λj σ H4=>∃o,σ=[o,some (.int cs[i].1),some (.int cs[i].2),some (.ref t)]/\Same H3 H4/\∃zs,H4 g=some (.lst zs)/\VR zs (((BD j).map λw=>(⟨cs[i],w⟩:Edge)).filter λe=>!isIn cs (gap e)) eR H4)
    ⟨_,rfl,Same.up hg,[],zaa,VR.nil⟩ ?_ ?_
   .rintro j σ H4 hj ⟨o,rfl,s4,zs,e4,hz⟩;have m6:(2*(0+(j:Int))+6) % 8=(((2*j+6) % 8:Nat):Int):=by lia
    have hzl:zs.length<=4:=by rw[hz.1];have:=Bz (λe=>!isIn cs (gap e)) ((BD j).map λw=>(⟨cs[i],w⟩:Edge));rw[Ai,C0]at this;lia
    refine⟨_,rfl,_,rfl,_,rfl,_,_,rfl,rfl,.inl ⟨by decide,by decide⟩,_,_,rfl,rfl,_,_,rfl,rfl,(by show (0:Int)<8;decide),cs[i],(2*j+6) % 8,(by rw[<- m6];rfl),B4 _ (by decide),λp5 H5 hp5 s5 e5=>?_⟩;have t5:=(s4.trans s5) _ _ t3;refine⟨_,rfl,t,_,rfl,.inr ⟨tru (cs.map kC),kC (gap ⟨cs[i],j⟩),p5,.inr ⟨od,t5⟩,rfl,e5,rfl⟩,_,rfl,?_⟩;rw[zgY,List.range_succ,AS,List.map_singleton,zcN];refine ite2 (λhy=>?_) (λhn'=>?_)
    .rw[if_pos hy];refine⟨_,rfl,_,rfl,_,rfl,three,λq hq'=>?_⟩;have s6:=Same.up (o:=.tup [.int cs[i].1,.int cs[i].2,.int (0+(j:Int))]) hq';have r6:eR ⟨cs[i],j⟩ (.ref q) (upd H5 q (.tup [.int cs[i].1,.int cs[i].2,.int (0+(j:Int))])):=⟨q,rfl,by rw[zaa,DE];rfl⟩;generalize upd H5 q (.tup [.int cs[i].1,.int cs[i].2,.int (0+(j:Int))])=H6 at s6 r6;have e6:=(s5.trans s6) _ _ e4;refine⟨zs,e6,zak (by lia),_,rfl,zax hg (s4.trans (s5.trans s6)),_,zaa,?_⟩;exact hz.snoc (λx v h=>(h.kt (KT.of (s5.trans s6))).kt (KT.lst e6)) (r6.kt (KT.lst e6))
    .rw[if_neg hn',AE];exact⟨_,rfl,s4.trans s5,zs,s5 _ _ e4,hz.mono λx v h=>h.kt (KT.of s5)⟩
   .rintro σ H4 ⟨o,rfl,s4,zs,e4,hz⟩
    have hzl:zs.length<=4:=by rw[hz.1];have:=Bz (λe=>!isIn cs (gap e)) ((BD 4).map λw=>(⟨cs[i],w⟩:Edge));rw[Ai,C0]at this;exact this
    have hul:us.length<=480:=by rw[hv3.1];have:=Bz (λe=>!isIn cs (gap e)) (sides (cs.take i));rw[zce,AT]at this;lia
    have e34:=s4 _ _ e3;refine⟨p,g,_,_,rfl,rfl,e34,e4,Bc (zak (by lia)),?_⟩;have k7:KT H4 (upd H4 p (.lst (us++zs))):=KT.lst e34;refine⟨_,_,rfl,λb o hb e=>?_,_,zaa,?_⟩
    .rw[zai hb];exact s4 _ _ (s3 _ _ hb e)
    .rw[zaN ci,zhR,B9];exact (hv3.mono λx v h=>(h.kt (KT.of s4)).kt k7).app (hz.mono λx v h=>h.kt k7)
  .rintro σ H3 ⟨o2,o3,rfl,s3,us,e3,hv3⟩;rw[show (tru (cs.map kC)).length=cs.length by unfold tru;rw[Ai,Ai],A4]at hv3;refine⟨_,rfl,k p H3 us hp ⟨λb o hb e=>?_,od,s3 _ _ (Bx hpt) e2⟩ e3 hv3⟩;exact s3 _ _ (zaj e hp) (sb2 _ _ hb (s1 _ _ e))
noncomputable def stI(o:Option Nat):Option Int:=o.map λn:Nat=>(n:Int)
theorem zl9(o:Option Nat):(stI o).elim V.non V.int=sv o:=by cases o <;> rfl
theorem zib(C:Cell->Bool)(es:List Edge):((es.map (stepB C)).map stI).countP (·.isNone)=nL (wk C es):=by
 rw[nL_wk,List.countP_map,List.countP_map,List.countP_eq_length_filter]
 congr 1
 apply List.filter_congr
 intro e _;show (stI (stepB C e)).isNone=(stepB C e).isNone
 cases stepB C e <;> rfl
noncomputable def plR(es:List Edge)(k:Nat)(v:V)(H:Hp):Prop:=∃e p,es[k]?=some e/\v=.ref p/\H p=some (.tup [.int e.c.2,.int e.c.1,.int (k:Int)])
theorem plR.kt{es:List Edge}{k:Nat}{v:V}{H H':Hp}(h:plR es k v H)(s:KT H H'):plR es k v H':=let ⟨e,p,a,b,c⟩:=h;⟨e,p,a,b,s _ _ c⟩
noncomputable def keyP(es:List Edge)(k:Nat):List Int:=match es[k]? with |some e=>[e.c.2,e.c.1,(k:Int)] |none=>[]
theorem lex3{a b c d x y:Int}(h:HT.lexLt [a,b] [c,d]=true):HT.lexLt [a,b,x] [c,d,y]=true:=by
 simp only[HT.lexLt]at h ⊢
 by_cases e:a=c
 .rw[if_pos e]at h ⊢
  by_cases f:b=d
  .rw[if_pos f]at h;cases h
  .rw[if_neg f]at h ⊢;exact h
 .rw[if_neg e]at h ⊢;exact h
noncomputable def ziz(K:W.Frag):Sp:=λvs H Q _=>∃(pe pq:Addr) (us:List V) (C:Cell->Bool) (es:List Edge),vs=[.ref pe,.ref pq]/\H pe=some (.lst us)/\VR us es eR H/\H pq=some (.lst ((es.map (stepB C)).map sv))/\es.length<=480 /\
 (∃e∈es,e.w=0)/\(∃e∈es,e.w=2)/\∀v H' r,Same H H'->rR r v H'->IsRnd (wk C es) r->Q v H'
theorem zgx (T:Txt P w K mg) (d:Df K mg "_law_told" zbp ["_law_edges_here","_law_steps"]):FnOk P w K mg base CX0 2 d.f d.fd ["_law_edges_here","_law_steps"] (ziz K):=by
 refine d.F.ok zbu (λvs H Q E h=>?_) (λcdv A outer s H vs Q E hr h=>?_)
 .obtain⟨pe,pq,us,C,es,rfl,_⟩:=h;rfl
 .obtain⟨pe,pq,us,C,es,rfl,e10,hv10,q10,hel,hw0,hw2,k⟩:=h;have hu1:=hu_of hr;have nb0:(["_law_step"]:List Str).Nodup:=by decide +kernel
  have nb1:(["_law_k","_law_x","_law_y","_law_here","_law_way"]:List Str).Nodup:=by decide +kernel
  have nb2:(["_law_step"]:List Str).Nodup:=by decide +kernel
  refine⟨_,(zac (sE 2 zbu.nd (pe_op zcD (pe_bm AG PySem.F.slot_list_count PySem.F.type_list_count zjd (pv 1) (pa_C zby zab)) (zan zap (by rfl) T.nlen (by rfl) (zag (zbt (osc:=zaf zbp) (N:=zb8) (N':=["_law_step"]) (sel:=[none]) bO (zbx (pv 1)) (λ_ _ _ _ _=>(nG 0 nb0)) (λ_ _ _ _ _=>zb5 (ziX (zaq zdP (pv 0) zby (zas _)) (zgu (zaq op_eq (pe_op zau (pv 0) zad) zad (zas _)))).pt) (λ_ _ _ _ _=>(pv 0))) zab))))
   (zac (zfC (i:=3) zbu.nd (by rfl) (Or.inr rfl) (pe_ix zaB (zaL (pa_C zad (pa_C zad zab))) (zbH zc2 (by rfl) T.nint (by rfl) (zag (zbG op_gt (pv 2) zad (zas _)) zab)) (λ_ _=>rfl)))
   (zac (sE 4 zbu.nd (pe_ix zbw (zan (zf5 hu1 rfl) (by rfl) T.nmin (by rfl) (zag (zbt (osc:=zaf zbp) (N:=zb8) (N':=["_law_k","_law_x","_law_y","_law_here","_law_way"]) (sel:=[none,none,none,none,some 3]) bO (zlx (by rfl) T.nenumerate (pa_N (pv 0) zab)) (λ_ _ _ _ _=>(zdM (K:=K) (n:=2) (by rfl) (zae (nG 0 nb1) (zae (zdM (K:=K) (n:=3) (by rfl) (zae (nG 1 nb1) (zae (nG 2 nb1) (zae (nG 3 nb1) zay)))) zay)))) (λ_ _ _ _ _=>zb5 (zaq op_eq (pv 3) (pv 4) (zas _))) (λ_ _ _ _ _=>(zao (pa_N (pv 2) (pa_N (pv 1) (pa_N (pv 0) zab)))))) zab)) zad (λ_ _=>rfl)))
   (zac (sE 5 zbu.nd (zbH zfn (by rfl) T.ntuple (by rfl) (zag (zbt (osc:=zaf zbp) (N:=zb8) (N':=["_law_step"]) (sel:=[none]) bO (zbx (pe_op zfH (za9 zdE (pv 1) (zbi (pv 4)) zbQ) (za9 zdE (pv 1) zbQ (zbi (pv 4))))) (λ_ _ _ _ _=>(nG 0 nb2)) (λ_ _ _ _ _=>zb5 (zaq zdP (pv 0) zby (zas _))) (λ_ _ _ _ _=>(pv 0))) zab)))
   (zah (zal (zao (zag (pe_ix zaB (zaL (pa_C zbN (pa_C zbN zab))) (zbH zc2 (by rfl) T.nint (by rfl) (zag (zbG op_gt (pv 2) zad (zas _)) zab)) (λ_ _=>rfl)) (zag (pe_ix zbw (pe_ix zaB (pv 0) (pv 4) (λ_ _=>rfl)) zad (λ_ _=>rfl)) (zag (pe_ix zbw (pe_ix zaB (pv 0) (pv 4) (λ_ _=>rfl)) zad (λ_ _=>rfl)) (pa_N (pv 5) zab))))))))))),?_⟩
  have qs:H pq=some (.lst (((es.map (stepB C)).map stI).map λo=>o.elim V.non V.int)):=by
   rw[q10]
   congr 2
   simp only[List.map_map]
   apply List.map_congr_left
   intro o _;exact (zl9 _).symm
  refine⟨_,rfl,.inl ⟨rfl,_,SqL.of q10⟩,pq,_,rfl,rfl,qs,?_⟩;rw[zib];refine⟨_,rfl,pq,rfl,⟨_,SqL.of q10⟩,λg hg=>?_⟩
  refine zba (K:=K) (a:=pq) (xs:=(es.map (stepB C)).map sv) (λi σ H1=>∃o,σ=[o]/\Same H H1/\∃zs:List V,H1 g=some (.lst zs)/\zs.length=((es.take i).filter λe=>slant (stepB C e)).length)
   ⟨_,rfl,Same.up hg,[],zaa,rfl⟩ (λi σ H1 _ ⟨_,_,s1,_⟩=>SqL.of (s1 _ _ q10)) ?_ ?_
  .rintro i u σ H1 hi ⟨o,rfl,s1,zs,e1,hz⟩;rw[A7,A7]at hi;obtain⟨so,hso',rfl⟩:=BQ.mp hi;obtain⟨f,hf,rfl⟩:=BQ.mp hso';have hil:i<es.length:=(Ad.mp hf).1
   have hzl:zs.length<=480:=by have:=Bz (λe=>slant (stepB C e)) (es.take i);rw[AT]at this;lia
   rw[zb7 hf]
   cases hst:stepB C f with
   |none=>exact⟨_,rfl,rfl,_,rfl,iteF ⟨_,rfl,s1,zs,e1,by rw[if_neg (by decide),AE];exact hz⟩⟩
   |some n =>
    have hd:decide (V.int ((n:Int) % 2)=V.int 1)=slant (some n):=by
     show _=(n % 2 == 1)
     by_cases q:n % 2=1
     .rw[decide_eq_true (by rw[show (n:Int) % 2=1 by lia]),q];rfl
     .rw[decide_eq_false (λz=>q (by injection z with z;lia))];simp[q]
    refine⟨_,rfl,rfl,_,rfl,iteT ⟨_,rfl,_,_,rfl,rfl,(by show (0:Int)<2;decide),rfl,_,rfl,?_⟩⟩;rw[hd];refine ite2 (λhy=>?_) (λhn=>?_)
    .refine⟨_,rfl,zs,e1,zak (by lia),_,rfl,zax hg s1,_,zaa,?_⟩;rw[if_pos hy,Af,Af,hz];rfl
    .exact⟨_,rfl,s1,zs,e1,by rw[if_neg hn,AE];exact hz⟩
  .rintro σ H1 ⟨o,rfl,s1,zs,e1,hz⟩;rw[BY (by rw[Ai,Ai];exact Aj _),<- nS_wk]at hz;refine⟨g,zs,rfl,.inl (SqL.of e1),?_⟩;rw[hz];obtain⟨kk,hkk⟩:∃kk:Nat,kk=kOf (sortS (wk C es)):=⟨_,rfl⟩;have hgt:decide ((0:Int)<(nL (wk C es):Int)-(nS (wk C es):Int))=decide (nS (wk C es)<nL (wk C es)):=decide_eq_decide.mpr (by lia)
   have way:atI [V.int 2,V.int 0] (if decide (nS (wk C es)<nL (wk C es))=true then 1 else 0)=some (.int (kk:Int)):=by
    rw[hkk];unfold kOf sortS
    by_cases z:nS (wk C es)<nL (wk C es)
    .rw[if_pos z,decide_eq_true z];rfl
    .rw[if_neg z,decide_eq_false z];rfl
   have sor:atI [V.str "hole",V.str "rim"] (if decide (nS (wk C es)<nL (wk C es))=true then 1 else 0)=some (.str (sortS (wk C es))):=by
    unfold sortS
    by_cases z:nS (wk C es)<nL (wk C es)
    .rw[if_pos z,decide_eq_true z];rfl
    .rw[if_neg z,decide_eq_false z];rfl
   refine⟨_,_,rfl,rfl,two,λl2 h2=>?_⟩;have s2:=Same.up (o:=.lst [.int 2,.int 0]) h2;have e2:upd H1 l2 (.lst [.int 2,.int 0]) l2=some (.lst [.int 2,.int 0]):=zaa;generalize upd H1 l2 (.lst [.int 2,.int 0])=H2 at s2 e2;refine⟨_,rfl,_,_,rfl,rfl,.inr ⟨_,rfl,l2,_,_,_,rfl,rfl,SqL.of e2,(by rw[hgt];exact way),?_⟩⟩;have s12:=s1.trans s2;have pe2:=s12 _ _ e10;have pq2:=s12 _ _ q10;have hv2:=hv10.mono λx v h=>h.kt (KT.of s12)
   have hul:us.length=es.length:=hv10.1;refine⟨_,rfl,pe,rfl,⟨_,SqL.of pe2⟩,λg2 hg2=>?_⟩
   refine zky (K:=K) (a:=pe) (xs:=us) (λi σ H3=>∃o0 o1 o2 o3,σ=[o0,o1,o2,o3,some (.int (kk:Int))]/\Same H2 H3/\∃zs,H3 g2=some (.lst zs)/\VR zs ((BD i).filter λk=>(es[k]?).any (·.w == kk)) (plR es) H3)
    ⟨_,_,_,_,rfl,Same.up hg2,[],zaa,VR.nil⟩ (λi σ H3 _ ⟨_,_,_,_,_,s3,_⟩=>SqL.of (s3 _ _ pe2)) ?_ ?_
   .rintro i u σ H3 p hi ⟨o0,o1,o2,o3,rfl,s3,zs3,e3,hz3⟩ hp;obtain⟨f,hf,bf,rfl,qf⟩:=hv2.at hi;have s4:=Same.up (o:=.tup [.int i,.ref bf]) hp;have e4:upd H3 p (.tup [.int i,.ref bf]) p=some (.tup [.int i,.ref bf]):=zaa;generalize upd H3 p (.tup [.int i,.ref bf])=H4 at s4 e4;have qf4:=(s3.trans s4) _ _ qf;have hil:i<es.length:=(Ad.mp hf).1
    have hzl:zs3.length<=480:=by rw[hz3.1];have:=Bz (λk=>(es[k]?).any (·.w == kk)) (BD i);rw[C0]at this;lia
    have hd:decide (V.int (f.w:Int)=V.int (kk:Int))=(es[i]?).any (·.w == kk):=by
     rw[hf];show _=(f.w == kk)
     by_cases q:f.w=kk
     .rw[q];simp
     .rw[decide_eq_false (λz=>q (by injection z with z;lia))];simp[q]
    refine⟨p,_,rfl,SqT.of e4,rfl,_,_,rfl,_,_,rfl,bf,_,rfl,SqT.of qf4,rfl,_,_,rfl,_,_,rfl,_,_,rfl,rfl,rfl,_,rfl,_,rfl,rfl,_,rfl,?_⟩;rw[hd,List.range_succ,zcN];refine ite2 (λhy=>?_) (λhn=>?_)
    .rw[if_pos hy];refine⟨_,rfl,_,rfl,_,rfl,three,λq hq=>?_⟩;have s5:=Same.up (o:=.tup [.int f.c.2,.int f.c.1,.int (i:Int)]) hq;have r5:plR es i (.ref q) (upd H4 q (.tup [.int f.c.2,.int f.c.1,.int (i:Int)])):=⟨f,q,hf,rfl,zaa⟩;generalize upd H4 q (.tup [.int f.c.2,.int f.c.1,.int (i:Int)])=H5 at s5 r5;have e5:=(s4.trans s5) _ _ e3;refine⟨zs3,e5,zak (by lia),_,_,_,_,rfl,zax hg2 (s3.trans (s4.trans s5)),_,zaa,?_⟩;exact hz3.snoc (λx v h=>(h.kt (KT.of (s4.trans s5))).kt (KT.lst e5)) (r5.kt (KT.lst e5))
    .rw[if_neg hn,AE];exact⟨_,_,_,_,rfl,s3.trans s4,zs3,s4 _ _ e3,hz3.mono λx v h=>h.kt (KT.of s4)⟩
   .rintro σ H3 ⟨o0,o1,o2,o3,rfl,s3,zs3,e3,hz3⟩;rw[hul]at hz3;obtain⟨L,hL⟩:∃L,L=(BD es.length).filter λk=>(es[k]?).any (·.w == kk):=⟨_,rfl⟩
    rw[<- hL]at hz3
    have memL:∀j,j∈L ↔ ∃e,es[j]?=some e/\e.w=kk:=λj=>by
     rw[hL,List.mem_filter,List.mem_range];constructor
     .rintro⟨h1,h2⟩;rw[Ab h1]at h2;exact⟨es[j],Ab h1,by simpa using h2⟩
     .rintro⟨e,h1,h2⟩;exact⟨(Ad.mp h1).1,by rw[h1];simpa using h2⟩
    have hex:∃e∈es,e.w=kk:=by
     rw[hkk];rcases zha (wk C es) with z |z <;> rw[z]
     .exact hw0
     .exact hw2
    have hpos:0<zs3.length:=by obtain⟨e,h1,h2⟩:=hex;obtain⟨j,hj,ej⟩:=AZ h1;rw[hz3.1];exact CJ ((memL j).mpr ⟨e,by rw[Ab hj,ej],h2⟩)
    refine⟨g2,zs3,λi=>keyP es (L.getD i 0),rfl,SqL.of e3,hpos,λi x hx=>?_,λi x H4 hx hle s4=>?_⟩
    .obtain⟨j,hj,e,p,he,rfl,q⟩:=hz3.at hx;refine⟨p,rfl,SqT.of ?_⟩;show H3 p=some (HO.tup ((keyP es (L.getD i 0)).map V.int));rw[Bh,hj,Option.getD_some];unfold keyP;rw[he,q];rfl
    .obtain⟨j,hj,e,p,he,rfl,q⟩:=hz3.at hx;have q4:=s4 _ _ q;have hjl:j<es.length:=(Ad.mp he).1
     have hwj:e.w=kk:=by obtain⟨e',h1,h2⟩:=(memL j).mp (Aw hj);rw[he]at h1;cases h1;exact h2
     obtain⟨ws,hws⟩:∃ws,ws=(es.map (stepB C)).map sv:=⟨_,rfl⟩;have hwl:ws.length=es.length:=by rw[hws,Ai,Ai]
     have pq4:=(s3.trans s4) _ _ pq2;have pe4:=(s3.trans s4) _ _ pe2;rw[<- hws]at pq4;refine⟨p,_,_,_,rfl,rfl,SqT.of q4,zaz (j:=2) rfl,?_⟩;refine⟨_,rfl,_,rfl,_,rfl,pq,ws,rfl,SqL.of pq4,λp5 hp5=>?_⟩;rw[zhH ws (by lia:j<=ws.length)];have s5:=Same.up (o:=.lst (ws.drop j)) hp5;refine⟨_,rfl,_,rfl,_,rfl,pq,ws,rfl,SqL.of (s5 _ _ pq4),λp6 hp6=>?_⟩;rw[zjI ws (by lia:j<=ws.length)];have s6:=Same.up (o:=.lst (ws.take j)) hp6;refine⟨p5,p6,_,_,rfl,rfl,s6 _ _ zaa,zaa,Bc (zak (by simp;lia)),λp7 hp7=>?_⟩;have s7:=Same.up (o:=.lst (ws.drop j++ws.take j)) hp7;have s47:=s5.trans (s6.trans s7);have e7:upd (upd (upd H4 p5 (.lst (ws.drop j))) p6 (.lst (ws.take j))) p7 (.lst (ws.drop j++ws.take j)) p7=some (.lst (ws.drop j++ws.take j)):=zaa;generalize upd (upd (upd H4 p5 (.lst (ws.drop j))) p6 (.lst (ws.take j))) p7 (.lst (ws.drop j++ws.take j))=H7 at s47 e7 ⊢;obtain⟨os,hos⟩:∃os:List (Option Nat),os=(es.map (stepB C)).drop j++(es.map (stepB C)).take j:=⟨_,rfl⟩;have hwo:ws.drop j++ws.take j=os.map sv:=by rw[hws,hos,AS,List.map_drop,List.map_take]
     have hol:os.length<=480:=by rw[hos];simp;lia
     rw[hwo]at e7;refine⟨p7,rfl,⟨_,SqL.of e7⟩,λg8 hg8=>?_⟩
     refine zba (K:=K) (a:=p7) (xs:=os.map sv) (λi σ H8=>∃o,σ=[o]/\Same H7 H8/\H8 g8=some (.lst (rowV ((os.take i).filterMap id))))
      ⟨_,rfl,Same.up hg8,zaa⟩ (λi σ H8 _ ⟨_,_,s8,_⟩=>SqL.of (s8 _ _ e7)) ?_ ?_
     .rintro i u σ H8 hi ⟨o,rfl,s8,e8⟩;rw[A7]at hi;obtain⟨so,hso,rfl⟩:=BQ.mp hi
      have hl2:(rowV ((os.take i).filterMap id)).length<=2000:=by unfold rowV;rw[Ai];have:=List.length_filterMap_le id (os.take i);rw[AT]at this;lia
      refine⟨_,rfl,rfl,_,rfl,?_⟩;rw[zkN,zaN hso,Do]
      cases so with
      |none=>exact iteF ⟨_,rfl,s8,by simpa using e8⟩
      |some n =>
       refine iteT ⟨_,rfl,_,e8,zak hl2,_,rfl,zax hg8 s8,?_⟩;rw[zaa];simp[rowV,sv]
     .rintro σ H8 ⟨o,rfl,s8,e8⟩;rw[Ai,A4]at e8;refine⟨g8,_,rfl,.inl ⟨SqL.of e8,λp9 hp9=>?_⟩⟩;have s9:=Same.up (o:=.tup (rowV (os.filterMap id))) hp9;have e9:upd H8 p9 (.tup (rowV (os.filterMap id))) p9=some (.tup (rowV (os.filterMap id))):=zaa;generalize upd H8 p9 (.tup (rowV (os.filterMap id)))=H9 at s9 e9;refine⟨two,λl10 h10=>?_⟩;have s10:=Same.up (o:=.lst [.str "hole",.str "rim"]) h10;have e10':upd H9 l10 (.lst [.str "hole",.str "rim"]) l10=some (.lst [.str "hole",.str "rim"]):=zaa;generalize upd H9 l10 (.lst [.str "hole",.str "rim"])=H10 at s10 e10';have s210:=(s3.trans s4).trans (s47.trans (s8.trans (s9.trans s10)));have pe10:=s210 _ _ pe2;have huj:us[j]?=some us[j]:=Ab (by lia)
      obtain⟨e',he',bf,ebf,qf⟩:=hv2.at huj;rw[he]at he'
      cases he'
      have qf10:=s210 _ _ qf;have hat:atI us (j:Int)=some (.ref bf):=zaz (by rw[huj,ebf]);refine⟨_,rfl,_,_,rfl,rfl,.inr ⟨_,rfl,l10,_,_,_,rfl,rfl,SqL.of e10',(by rw[hgt];exact sor),?_⟩⟩;refine⟨_,rfl,_,rfl,pe,_,_,_,rfl,rfl,SqL.of pe10,hat,bf,_,_,_,rfl,rfl,SqT.of qf10,zaz (j:=0) rfl,?_⟩;refine⟨_,rfl,_,rfl,pe,_,_,_,rfl,rfl,SqL.of pe10,hat,bf,_,_,_,rfl,rfl,SqT.of qf10,zaz (j:=1) rfl,?_⟩;refine⟨_,rfl,(by show 4<=sizeLine;decide),λp11 hp11=>?_⟩;refine k _ _ ⟨sortS (wk C es),e.c.1,e.c.2,os.filterMap id⟩ (s12.trans (s210.trans (Same.up hp11))) ⟨p11,p9,rfl,zaa,Same.up hp11 _ _ (s10 _ _ e9)⟩ ⟨rfl,j,e,?_,⟨?_,?_,λf h1 h2=>?_⟩,rfl,rfl,?_⟩
      .rw[zdA];exact he
      .rw[zdA];exact Aw he
      .rw[hwj,hkk]
      .rw[zdA]at h1;obtain⟨m,hm,em⟩:=AZ h1;have hmL:=(memL m).mpr ⟨f,by rw[Ab hm,em],by rw[h2,hkk]⟩;obtain⟨n,hn,en⟩:=AZ hmL;have hnl:n<zs3.length:=by rw[hz3.1];exact hn
       have:=(hle n hnl).1
       have kn:keyP es (L.getD n 0)=[f.c.2,f.c.1,(m:Int)]:=by rw[Bh,Ab hn,en,Option.getD_some];unfold keyP;rw[Ab hm,em]
       have ki:keyP es (L.getD i 0)=[e.c.2,e.c.1,(j:Int)]:=by rw[Bh,hj,Option.getD_some];unfold keyP;rw[he]
       simp only[kn,ki]at this
       cases q':HT.lexLt [f.c.2,f.c.1] [e.c.2,e.c.1] with
       |false=>rfl
       |true=>rw[lex3 q']at this;cases this
      .rw[hos];unfold wk;rw[<- List.map_drop,<- List.map_take,<- AS,<- List.map_drop,<- List.map_take,<- AS,B6,B6];rfl
theorem InOrd.pw{cs:List Cell}(h:InOrd cs):cs.Pairwise λa b=>HT.lexLt [a.2,a.1] [b.2,b.1]=true:=by
 induction cs with
 |nil=>exact .nil
 |cons a r ih =>
  have ih':=ih λi c d h1 h2=>h (i+1) c d (by simpa using h1) (by simpa using h2)
  refine List.pairwise_cons.mpr ⟨λb hb=>?_,ih'⟩
  cases r with
  |nil=>cases hb
  |cons c r =>
   have h0:HT.lexLt [a.2,a.1] [c.2,c.1]=true:=h 0 a c rfl rfl;rcases At.mp hb with rfl |hb
   .exact h0
   .exact HT.lexLt_trans h0 ((List.pairwise_cons.mp ih').1 b hb)
theorem InOrd.nodup{cs:List Cell}(h:InOrd cs):cs.Nodup:=h.pw.imp λ{a b} q e=>by subst e;rw[HT.lexLt_irrefl]at q;cases q
theorem cR.key{c:Cell}{v:V}{H:Hp}(h:cR c v H):keyR (kC c) v H:=let ⟨b,e1,q⟩:=h;⟨b,e1,q⟩
theorem VR.keys{α:Type}{vs:List V}{l:List α}{R:α->V->Hp->Prop}{H:Hp}{f:α->List Key}(h:VR vs l R H)(m:∀x v,R x v H->keyR (f x) v H):VR vs (l.map f) keyR H:=by refine⟨by rw[Ai];exact h.1,λi x v h1 h2=>?_⟩;rw[A7]at h1;obtain⟨y,hy,rfl⟩:=BQ.mp h1;exact m y v (h.2 i y v hy h2)
theorem _root_.L2.But1.kt{pos:Pos}{qual:Str}{P:Addr}{H H':Hp}(b:But1 P H H')(l:LamAt pos qual P H):KT H H':=λz xs e=>b z _ (l.ne e nofun) e
noncomputable def lamQ (f:Str):Str:=f ++ ".<locals>." ++ "<lambda>"
noncomputable abbrev lpT:Pos:=(⟨194,34,194,100⟩:Pos)
noncomputable abbrev LamT (P:Addr) (H:Hp):Prop:=LamAt lpT (lamQ "_law_traced") P H
noncomputable def zg6(K:W.Frag)(L:Addr):Sp:=λvs H Q _=>∃(a:Addr) (us:List V) (cs:List Cell),vs=[.ref a]/\H a=some (.lst us)/\VR us cs cR H/\InOrd cs/\cs.length<=120/\LamT L H /\
 ∀p H' rs R R0,H p=none->But1 L H H'->LamT L H'->H' p=some (.lst rs)->VR rs R rR H'->R.Perm R0->R.Pairwise (λr q=>HT.lexLt (keyI q) (keyI r)=false)->Whole cs R0->Q (.ref p) H'
theorem ze2 {L c:Addr}(T:Txt P w K mg) (hB:Bm mg base) (hh:Dd K c L=true) (g__law_lot:Fn P w K mg base 1 "_law_lot" ["_law_cells"] (spLot K)) (g__law_edges:Fn P w K mg base 2 "_law_edges" ["_law_there"] (ziH K))
    (g__law_walked:Fn P w K mg base 3 "_law_walked" ["_law_there","_law_first"] (zg4 K)) (g__law_told:Fn P w K mg base 2 "_law_told" ["_law_edges_here","_law_steps"] (ziz K))
    (d:Df K mg "_law_traced" zaT ["_law_cells"]) (hc:d.fd.code=.ref c):FnOk P w K mg base CX0 5 d.f d.fd ["_law_cells"] (zg6 K L):=by
  refine d.F.okL hc zaJ (λvs H Q E h=>?_) (λA outer s H vs Q E hr h=>?_)
  . obtain⟨a,us,cs,rfl,_⟩:=h;rfl
  . obtain⟨a,us,cs,rfl,ea,hva,hord,hlen,hlam,k⟩:=h;have hu1:=hu_of hr
    refine⟨_,(zac (sE 1 zaJ.nd (pC g__law_lot hr (pa_N (pv 0) zab)))
      (zac (sE 2 zaJ.nd zdv)
      (zac (sE 3 zaJ.nd (zaL zab))
      (zac (zca BF rfl (zbx (pC g__law_edges hr (pa_N (pv 1) zab))) (nG 4 zaJ.nd)
      (zah (ps_if (zhe (zfG hu1 (pv 4) (pv 2)))
      (zac (za2 (pC g__law_walked hr (pa_N (pv 1) (pa_N (pv 4) zab))) (zaW (by rfl) (zae (nG 5 zaJ.nd) (zae (nG 6 zaJ.nd) zay))))
      (zac (zca BF rfl (zbx (pv 5)) (nG 7 zaJ.nd)
      (zah (zi0 hu1 (pv 2) (pv 7) pe_bl rfl)))
      (zah (zaS (pe_bm AG AX AY zaM (pv 3) (zag (pC g__law_told hr (pa_N (pv 5) (pa_N (pv 6) zab))) zab))))))
      zaA)))
      (zah (zal (zkb (k:=0) (N:=["_law_one"]) (hr.mono (by decide)) (by rfl) T.nsorted rfl hh hB (by rfl) ⟨rfl,rfl,rfl,by decide +kernel,rfl,by decide +kernel,by decide +kernel⟩ (λ_ _ _ _=>rfl) (pv 3) (λ_ _ _ _ _ _=>(zao (zag (pe_ix (zcM (K:=K)) (pv 0) zad (λ_ _=>rfl)) (zag (pe_ix (zcM (K:=K)) (pv 0) zad (λ_ _=>rfl)) (zag (zbG op_eq (pe_ix (zcM (K:=K)) (pv 0) zad (λ_ _=>rfl)) zbN (zas _)) zab)))))))))))),?_⟩
    have hnd:=hord.nodup;have hcn:(cs.map kC).Nodup:=List.Pairwise.map _ (λa b hab e=>hab (zhy.mp e)) hnd;refine⟨_,rfl,a,us,cs.map kC,rfl,SqL.of ea,hva.keys (f:=kC) λx v h=>h.key,hcn,by rw[Ai];lia,λt H1 ht s1 e1=>?_⟩;refine λdd hdd=>⟨(by show 0<=sizeLine;decide),λp hp=>?_⟩
    have hpd:p≠dd:=λz=>by subst z;rw[zaa]at hp;cases hp
    have s4:Same H1 (upd (upd H1 dd (.dT [])) p (.lst [])):=(Same.up hdd).trans (Same.up hp);have d4:upd (upd H1 dd (.dT [])) p (.lst []) dd=some (.dT []):=by rw[zai (Bx hpd),zaa]
    have p4:upd (upd H1 dd (.dT [])) p (.lst []) p=some (.lst []):=zaa;have n2:H1 dd=none:=hdd;have n2p:H1 p=none:=by rw[zai hpd]at hp;exact hp
    generalize upd (upd H1 dd (.dT [])) p (.lst [])=H4 at s4 d4 p4;have t4:=s4 _ _ e1;have a4:=(s1.trans s4) _ _ ea;have s14:=s1.trans s4;refine⟨_,rfl,t,cs,rfl,t4,hlen,λpe H5 es hpe f5 e5 hvE=>?_⟩;obtain⟨f5,od,t5⟩:=f5;have kt5:KT H4 H5:=λb xs e=>f5 b _ (ne_of e t4 (λz=>nomatch z)) e
    have s15:Same H H5:=λb o e=>f5 b o (zaj e ht) (s14 _ _ e)
    have d5:H5 dd=some (.dT []):=f5 _ _ (zaj e1 n2).symm d4;have p5:H5 p=some (.lst []):=f5 _ _ (zaj e1 n2p).symm p4;have hped:pe≠dd:=(zaj d4 hpe).symm;have hpep:pe≠p:=(zaj p4 hpe).symm;have htd:t≠dd:=zaj e1 n2;have htp:t≠p:=zaj e1 n2p;have nHd:H dd=none:=s1.free n2;have nHp:H p=none:=s1.free n2p;refine⟨pe,rfl,⟨_,SqL.of e5⟩,?_⟩
    refine zba (K := K) (a := pe) (xs := es) (λi σ H6 => ∃o4 o5 o6 o7, σ = [some (.ref a), some (.ref t), some (.ref dd), some (.ref p), o4, o5, o6, o7] /\ Same H H6 /\ H6 t=some (.frz od (.dT (tru (cs.map kC)))) /\ H6 pe=some (.lst es) /\ KT H5 H6 /\
        ∃kvs rs ESS R,H6 dd=some (.dT kvs)/\H6 p=some (.lst rs)/\VR rs R rR H6/\Part (isIn cs) ESS R/\(∀e,(valV kvs (kE e)).isSome=decide (e∈ESS.flatten))/\kvs.length<=ESS.flatten.length/\∀e∈(allE cs).take i,e∈ESS.flatten)
      ⟨_,_,_,_,rfl,s15,t5,e5,KT.refl _,[],[],[],[],d5,p5,VR.nil,Part.nil,(λe=>by simp[valV]),Aj _,(λe he=>by simp at he)⟩ (λi σ H6 _ ⟨_,_,_,_,_,_,_,e6,_⟩=>SqL.of e6) ?_ ?_
    . rintro i v σ H6 hi ⟨o4,o5,o6,o7,rfl,s6,t6,e6,kt6,kvs,rs,ESS,R,d6,p6,hR,hP,hkv,hkl,hall⟩;obtain⟨e,he,b,rfl,qb⟩:=hvE.at hi;have hE:IsE (isIn cs) e:=zhr.mp (Aw he);have qb6:=kt6 _ _ qb;refine⟨_,rfl,_,rfl,dd,_,rfl,.inr ⟨kvs,kE e,b,Rd.of d6,rfl,qb6,rfl⟩,_,rfl,?_⟩;rw[hkv]
      by_cases hin:e∈ESS.flatten
      . rw[decide_eq_true hin];refine iteF ⟨_,_,_,_,rfl,s6,t6,e6,kt6,kvs,rs,ESS,R,d6,p6,hR,hP,hkv,hkl,λf hf=>?_⟩;rcases (zcr he).mp hf with z |z
        . exact hall f z
        . rw[z];exact hin
      . rw[decide_eq_false hin];refine iteT ?_
        have tab6:TabR H6 t (isIn cs):=TabR.of (.inr ⟨od,t6⟩);refine⟨_,rfl,_,rfl,t,b,cs,e,rfl,tab6,qb6,hE,hlen,λpw pu pq H7 ws fs s7 f7 e7 hv7 q7 hcl=>?_⟩;have hfs:fs.length<=4*cs.length:=hcl.1.short;have hap:=hcl.apart hP.back hin;have d7:=s7 _ _ d6;have hud:pu≠dd:=ne_of e7 d7 (λz=>nomatch z);have hws:ws.length=fs.length:=hv7.1;refine⟨pw,_,rfl,SqT.of f7,rfl,_,_,rfl,_,_,rfl,rfl,?_⟩;refine⟨_,rfl,pu,rfl,⟨_,SqL.of e7⟩,?_⟩
        refine zba (K := K) (a := pu) (xs := ws) (λj σ H8 => ∃o7, σ = [some (.ref a), some (.ref t), some (.ref dd), some (.ref p), some (.ref b), some (.ref pu), some (.ref pq), o7] /\ (∀z o, z ≠ dd -> H7 z=some o -> H8 z=some o) /\
            ∃kv8,H8 dd=some (.dT kv8)/\(∀f,(valV kv8 (kE f)).isSome=decide (f∈ESS.flatten∨f∈fs.take j))/\kv8.length<=ESS.flatten.length+j)
          ⟨_,rfl,(λz o _ h=>h),kvs,d7,(λf=>by rw[hkv];simp),by lia⟩ (λj σ H8 _ ⟨_,_,k8,_⟩=>SqL.of (k8 _ _ hud e7)) ?_ ?_
        . rintro j u σ H8 hj ⟨o7,rfl,k8,kv8,d8,hk8,hl8⟩;obtain⟨f,hf',bb,rfl,q2⟩:=hv7.at hj;have nb:bb≠dd:=ne_of q2 d7 (λz=>nomatch z);have hjl:j<fs.length:=by rw[<- hws];exact (Ad.mp hj).1
          have hsm:=hP.small;refine⟨_,rfl,_,rfl,dd,_,rfl,.inr ⟨kv8,kE f,bb,d8,rfl,k8 _ _ nb q2,zak (by lia),rfl⟩,?_⟩;refine⟨_,rfl,(λz o hz h=>by rw[zai hz];exact k8 z o hz h),_,zaa,(λg=>?_),AN (zbq _ _ _) (by lia)⟩;rw[zeI]
          by_cases eg:g=f
          . rw[if_pos (zk7.mpr eg),decide_eq_true (.inr ((zcr hf').mpr (.inr eg)))];rfl
          . rw[if_neg (λz=>eg (zk7.mp z)),hk8];refine decide_eq_decide.mpr ⟨λz=>z.imp id λq=>(zcr hf').mpr (.inl q),λz=>z.imp id λq=>((zcr hf').mp q).resolve_right eg⟩
        . rintro σ H8 ⟨o7,rfl,k8,kv8,d8,hk8,hl8⟩;rw[hws,A4]at hk8;have p8:=k8 _ _ hpd (s7 _ _ p6);have kt8:KT H7 H8:=λz xs h=>k8 z _ (ne_of h d7 (λq=>nomatch q)) h
          have u8:H8 pu=some (.lst ws):=k8 _ _ hud e7;have q8:H8 pq=some (.lst ((fs.map (stepB (isIn cs))).map sv)):=k8 _ _ (ne_of q7 d7 (λz=>nomatch z)) q7;have hrl:rs.length<=120:=by rw[hR.1];exact AN hP.few hlen
          refine⟨_,rfl,.inl ⟨rfl,_,SqL.of p8⟩,_,rfl,_,rfl,pu,pq,ws,isIn cs,fs,rfl,u8,hv7.mono (λx v hx=>hx.kt kt8),q8,by lia,hcl.has (.inl rfl),hcl.has (.inr rfl),λvr H9 r s9 hr9 hrn=>?_⟩;have p9:=s9 _ _ p8;refine⟨p,rs,_,rfl,rfl,p9,zak (by lia),?_⟩;have kt9:KT H9 (upd H9 p (.lst (rs++[vr]))):=KT.lst p9;have ktA:KT H6 (upd H9 p (.lst (rs++[vr]))):=(KT.of s7).trans (kt8.trans ((KT.of s9).trans kt9));refine⟨_,_,_,_,rfl,(λz o h=>?_),?_,?_,kt6.trans ktA,kv8,rs++[vr],ESS++[fs],R++[r],?_,zaa,hR.snoc (λx v hx=>hx.kt ktA) (hr9.kt kt9),hP.snoc hcl hrn hin,(λf=>?_),?_,(λf hf=>?_)⟩
          . rw[zai (zaj h nHp)];exact s9 _ _ (k8 _ _ (zaj h nHd) (s7 _ _ (s6 _ _ h)))
          . rw[zai htp];exact s9 _ _ (k8 _ _ htd (s7 _ _ t6))
          . rw[zai hpep];exact s9 _ _ (k8 _ _ hped (s7 _ _ e6))
          . rw[zai (Bx hpd)];exact s9 _ _ d8
          . rw[hk8];refine decide_eq_decide.mpr ?_
            rw[DJ,Ap];simp
          . rw[DJ,Af,show [fs].flatten=fs by simp];lia
          . rw[DJ,Ap];rcases (zcr he).mp hf with z |z
            . exact .inl (hall f z)
            . rw[z];refine .inr ?_
              have:=hcl.1.1;simpa using Aw this
    . rintro σ H6 ⟨o4,o5,o6,o7,rfl,s6,t6,e6,kt6,kvs,rs,ESS,R,d6,p6,hR,hP,hkv,hkl,hall⟩;rw[hvE.1,A4]at hall;have hrl:rs.length<=120:=by rw[hR.1];exact AN hP.few hlen
      have ge:∀(i:Nat) r,R[i]?=some r->R.getD i ⟨"",0,0,[]⟩=r:=λi r h=>by simp only[Bh,h,Option.getD_some]
      have lam6:LamT L H6:=hlam.same s6
      refine⟨_,rfl,p,rs,λi=>keyV (R.getD i ⟨"",0,0,[]⟩),λi=>keyI (R.getD i ⟨"",0,0,[]⟩),rfl,lam6,SqL.of p6,by lia,λi x H7 hx b7=>?_,
        λi j hi hj=>⟨_,_,_,_,_,_,rfl,rfl,.cons (.int _ _) (.cons (.bl _ _) .nil),rfl,rfl⟩,λpp D H7 hpm hpo hD b7 l7 f7=>?_⟩
      . obtain⟨r,hr',x1,x2,rfl,q1,q2⟩:=hR.at hx;have q7:=b7.kt lam6 _ _ q1;refine⟨_,rfl,x1,_,_,_,rfl,rfl,SqT.of q7,zaz (j:=2) rfl,_,rfl,x1,_,_,_,rfl,rfl,SqT.of q7,zaz (j:=1) rfl,_,rfl,x1,_,_,_,rfl,rfl,SqT.of q7,zaz (j:=0) rfl,rfl,three,λq hq=>⟨Same.up hq,q,rfl,SqT.of ?_⟩⟩;show upd H7 q _ q=some (HO.tup (keyV (R.getD i ⟨"",0,0,[]⟩)));rw[ge i r hr',zaa];rfl
      . have kt7:=b7.kt lam6;have hpl:pp.length=R.length:=by rw[hpm.length_eq,C0,hR.1]
        have hlt:∀i∈pp,i<R.length:=λi hi=>by have:=D5.mp (hpm.mem_iff.mp hi);rw[hR.1]at this;exact this
        have hRR:(pp.map λi=>R.getD i ⟨"",0,0,[]⟩).Perm R:=by
          have h1:=hpm.map λi=>R.getD i (⟨"",0,0,[]⟩:Rnd)
          rw[hR.1]at h1
          have h2:((BD R.length).map λi=>R.getD i (⟨"",0,0,[]⟩:Rnd))=R:=by
            apply List.ext_getElem
            . simp
            . intro i a b;simp[show i<R.length by simpa using a]
          rw[h2]at h1;exact h1
        have vR:VR (pp.map λi=>rs.getD i V.non) (pp.map λi=>R.getD i ⟨"",0,0,[]⟩) rR H7:=by
          refine⟨by simp,λi r v h1 h2=>?_⟩;rw[A7]at h1 h2;obtain⟨a,ha,rfl⟩:=BQ.mp h1;rw[ha]at h2
          cases h2
          have hal:=hlt a (Aw ha);have hal2:a<rs.length:=by rw[hR.1];exact hal
          have e1:R.getD a ⟨"",0,0,[]⟩=R[a]:=by simp[hal]
          have e2:rs.getD a V.non=rs[a]:=by simp[hal2]
          rw[e1];show rR R[a] (rs.getD a V.non) H7;rw[e2];exact (hR.2 a _ _ (Ab hal) (Ab hal2)).kt kt7
        refine k D H7 _ _ R (s6.free hD) (s6.but1.trans b7) l7 f7 vR hRR ?_ ⟨ESS,hP,λe=>⟨hP.isE e,λh=>hall e (zhr.mpr h)⟩⟩
        rw[List.pairwise_map];exact hpo
theorem mv8{i:Nat}(h:i < 8){t0 t1 t2 t3 t4 t5 t6 t7:Addr}{H:Hp}(f0:H t0=some (.tup [.int 1, .int 0]))(f1:H t1=some (.tup [.int 1, .int 1]))(f2:H t2=some (.tup [.int 0, .int 1]))(f3:H t3=some (.tup [.int (-1), .int 1]))
  (f4:H t4=some (.tup [.int (-1),.int 0])) (f5:H t5=some (.tup [.int (-1),.int (-1)])) (f6:H t6=some (.tup [.int 0,.int (-1)])) (f7:H t7=some (.tup [.int 1,.int (-1)])) :
  ∃t,([V.ref t0,.ref t1,.ref t2,.ref t3,.ref t4,.ref t5,.ref t6,.ref t7]:List V)[i]?=some (.ref t)/\H t=some (.tup [.int (mv i).1,.int (mv i).2]):=by
 have:i=0∨i=1∨i=2∨i=3∨i=4∨i=5∨i=6∨i=7:=by lia
 rcases this with rfl |rfl |rfl |rfl |rfl |rfl |rfl |rfl
 .exact⟨_,rfl,f0⟩
 .exact⟨_,rfl,f1⟩
 .exact⟨_,rfl,f2⟩
 .exact⟨_,rfl,f3⟩
 .exact⟨_,rfl,f4⟩
 .exact⟨_,rfl,f5⟩
 .exact⟨_,rfl,f6⟩
 .exact⟨_,rfl,f7⟩
theorem zgy (d:Df K mg "_law_gone" zcJ ["_law_x","_law_y","_law_step"]):FnOk P w K mg base CX0 1 d.f d.fd ["_law_x","_law_y","_law_step"] zcd:=by
 refine d.F.ok zcf (λvs H Q E h=>?_) (λcdv A outer s H vs Q E hr h=>?_)
 .obtain⟨c,i,rfl,_⟩:=h;rfl
 .obtain⟨c,i,rfl,hi,k⟩:=h
  refine⟨_,(zac (za2 (pe_ix zaB (zaL (zag (zao (zag zad (zag zad zab))) (zag (zao (zag zad (zag zad zab))) (zag (zao (zag zad (zag zad zab))) (zag (zao (zag (pe_un zbC zad) (zag zad zab))) (zag (zao (zag (pe_un zbC zad) (zag zad zab))) (zag (zao (zag (pe_un zbC zad) (zag (pe_un zbC zad) zab))) (zag (zao (zag zad (zag (pe_un zbC zad) zab))) (zag (zao (zag zad (zag (pe_un zbC zad) zab))) zab))))))))) (pv 2) (λ_ _=>rfl)) (zaW (by rfl) (zae (nG 3 zcf.nd) (zae (nG 4 zcf.nd) zay))))
   (zah (zal (zao (zag (pe_op zaG (pv 0) (pv 3)) (zag (pe_op zaG (pv 1) (pv 4)) zab)))))),?_⟩
  refine⟨two,λt0 h0=>?_⟩;have s0:=Same.up (o:=.tup [.int 1,.int 0]) h0;have f0:upd H t0 (.tup [.int 1,.int 0]) t0=some (.tup [.int 1,.int 0]):=zaa;generalize upd H t0 (.tup [.int 1,.int 0])=H0 at s0 f0;refine⟨two,λt1 h1=>?_⟩;have s1:=Same.up (o:=.tup [.int 1,.int 1]) h1;have f1:upd H0 t1 (.tup [.int 1,.int 1]) t1=some (.tup [.int 1,.int 1]):=zaa;generalize upd H0 t1 (.tup [.int 1,.int 1])=H1 at s1 f1;refine⟨two,λt2 h2=>?_⟩;have s2:=Same.up (o:=.tup [.int 0,.int 1]) h2;have f2:upd H1 t2 (.tup [.int 0,.int 1]) t2=some (.tup [.int 0,.int 1]):=zaa;generalize upd H1 t2 (.tup [.int 0,.int 1])=H2 at s2 f2;refine⟨_,rfl,two,λt3 h3=>?_⟩;have s3:=Same.up (o:=.tup [.int (-1),.int 1]) h3;have f3:upd H2 t3 (.tup [.int (-1),.int 1]) t3=some (.tup [.int (-1),.int 1]):=zaa;generalize upd H2 t3 (.tup [.int (-1),.int 1])=H3 at s3 f3;refine⟨_,rfl,two,λt4 h4=>?_⟩;have s4:=Same.up (o:=.tup [.int (-1),.int 0]) h4;have f4:upd H3 t4 (.tup [.int (-1),.int 0]) t4=some (.tup [.int (-1),.int 0]):=zaa;generalize upd H3 t4 (.tup [.int (-1),.int 0])=H4 at s4 f4;refine⟨_,rfl,_,rfl,two,λt5 h5=>?_⟩;have s5:=Same.up (o:=.tup [.int (-1),.int (-1)]) h5;have f5:upd H4 t5 (.tup [.int (-1),.int (-1)]) t5=some (.tup [.int (-1),.int (-1)]):=zaa;generalize upd H4 t5 (.tup [.int (-1),.int (-1)])=H5 at s5 f5;refine⟨_,rfl,two,λt6 h6=>?_⟩;have s6:=Same.up (o:=.tup [.int 0,.int (-1)]) h6;have f6:upd H5 t6 (.tup [.int 0,.int (-1)]) t6=some (.tup [.int 0,.int (-1)]):=zaa;generalize upd H5 t6 (.tup [.int 0,.int (-1)])=H6 at s6 f6;refine⟨_,rfl,two,λt7 h7=>?_⟩;have s7:=Same.up (o:=.tup [.int 1,.int (-1)]) h7;have f7:upd H6 t7 (.tup [.int 1,.int (-1)]) t7=some (.tup [.int 1,.int (-1)]):=zaa;generalize upd H6 t7 (.tup [.int 1,.int (-1)])=H7 at s7 f7;refine⟨(by show 8<=sizeLine;decide),λl hl=>?_⟩;have s8:=Same.up (o:=.lst [.ref t0,.ref t1,.ref t2,.ref t3,.ref t4,.ref t5,.ref t6,.ref t7]) hl;have f8:upd H7 l (.lst [.ref t0,.ref t1,.ref t2,.ref t3,.ref t4,.ref t5,.ref t6,.ref t7]) l=some (.lst [.ref t0,.ref t1,.ref t2,.ref t3,.ref t4,.ref t5,.ref t6,.ref t7]):=zaa;generalize upd H7 l (.lst [.ref t0,.ref t1,.ref t2,.ref t3,.ref t4,.ref t5,.ref t6,.ref t7])=H8 at s8 f8;have s67:=s7.trans s8;have s57:=s6.trans s67;have s47:=s5.trans s57;have s37:=s4.trans s47;have s27:=s3.trans s37;have s17:=s2.trans s27;have s07:=s1.trans s17;obtain⟨t,ht,ft⟩:=mv8 hi (s07 _ _ f0) (s17 _ _ f1) (s27 _ _ f2) (s37 _ _ f3) (s47 _ _ f4) (s57 _ _ f5) (s67 _ _ f6) (s8 _ _ f7);refine⟨_,rfl,l,_,_,_,rfl,rfl,SqL.of f8,zaz ht,t,_,rfl,SqT.of ft,rfl,_,_,rfl,_,_,rfl,rfl,?_⟩;refine⟨_,rfl,_,rfl,_,_,rfl,rfl,_,rfl,_,rfl,_,_,rfl,rfl,two,λp hp=>?_⟩;have s08:=s0.trans s07;exact k p _ (s08.free hp) (s08.trans (Same.up hp)) zaa
theorem zkH{W:Wk}{i j:Nat}(h:i<=j)(c:Con (obs (W.take i))):Con (obs (W.take j)):=by
 obtain⟨x,h1,h2⟩:=c
 have sub:∀q,q∈obs (W.take i)->q∈obs (W.take j):=λq hq=>by
  obtain⟨e,he,hm⟩:=List.mem_flatMap.mp hq;refine List.mem_flatMap.mpr ⟨e,?_,hm⟩;have:W.take i=(W.take j).take i:=by rw[List.take_take,Nat.min_eq_left h]
  rw[this]at he;exact Bp he
 exact⟨x,sub _ h1,sub _ h2⟩
theorem zlT{W:Wk}{i:Nat}(c:Con (obs (W.take i))):Con (obs W):=by
 rcases Bi W.length i with h |h
 .rwa [BY (by lia)]at c
 .have:=zkH h c
  rwa [A4]at this
theorem Due.bad{r:Rnd}{n:Nat}(h:Due r n):¬ Good r:=by
 rintro⟨g1,g2⟩;rcases h with⟨i,hi,c1,c2,rfl⟩ |⟨h1,h2,rfl⟩
 .exact g1 (zlT c1)
 .exact h2 g2
noncomputable def zeM:Sp:=λvs H Q _=>∃(v:V) (d:PyData),vs=[v]/\DD H v d/\(∀e∈kids d,lenOk e)/\(∀e∈kids d,Br e=true)/\∀H',Same H H'->Q (.bl (formD d)) H'
theorem zgz (T:Txt P w K mg) (g__law_whole:Fn P w K mg base 1 "_law_whole" ["_law_found"] spWhl) (d:Df K mg "_law_form" zbF ["_law_thing"]):FnOk P w K mg base CX0 2 d.f d.fd ["_law_thing"] zeM:=by
 refine d.F.ok zbv (λvs H Q E h=>?_) (λcdv A outer s H vs Q E hr h=>?_)
 .obtain⟨v,dt,rfl,_⟩:=h;rfl
 .obtain⟨v,dt,rfl,hd,hlo,hsp,k⟩:=h;have hu64:=hr.units;have hu65:(A.deeper (PyProof.Rows.envOfC (Aq "_law_form") (zaf zbF) s.heap.objs.size d.f cdv)).units+65<cLine:=by have:=hr.un;lia
  have nb0:(["_law_step"]:List Str).Nodup:=by decide +kernel
  refine⟨_,(zac (ps_if (pw_or (zcS (zbV (zan zbk (by rfl) T.nisinstance (by rfl) (pa_N (pv 0) (pa_N (zbI (v:=.ty "tuple") (by rfl) T.ntuple (by rfl) rfl) zab))))) (zdL (zaq op_ne (zan zap (by rfl) T.nlen (by rfl) (pa_N (pv 0) zab)) zad (zas _)))).pt
   (zah (zal pe_bl))
   zaA)
   (zac (za2 (pv 0) (zaW (by rfl) (zae (nG 1 zbv.nd) (zae (nG 2 zbv.nd) (zae (nG 3 zbv.nd) (zae (nG 4 zbv.nd) zay))))))
   (zac (ps_if (pw_or (zcS (zbV (zan zbk (by rfl) T.nisinstance (by rfl) (pa_N (pv 1) (pa_N (zbI (v:=.ty "str") (by rfl) T.nstr (by rfl) rfl) zab))))) (pw_or (zaq (zi8 hu65) (pv 1) (zaL (pa_C zbN (pa_C zbN zab))) rfl) (pw_or (zcS (zbV (pC g__law_whole hr (pa_N (pv 2) zab)))) (zdL (zcS (zbV (pC g__law_whole hr (pa_N (pv 3) zab)))))))).pt
   (zah (zal pe_bl))
   zaA)
   (zah (zal (zcb (zan zbk (by rfl) T.nisinstance (by rfl) (pa_N (pv 4) (pa_N (zbI (v:=.ty "tuple") (by rfl) T.ntuple (by rfl) rfl) zab))) (zcU (zan (zf6 rfl) (by rfl) T.nall (by rfl) (zag (zbt (osc:=zaf zbF) (N:=zd9) (N':=["_law_step"]) (sel:=[none]) bO (zi5 (pv 4)) (λ_ _ _ _ _=>(nG 0 nb0)) (λ_ _ _ _ _=>ziY) (λ_ _ _ _ _=>(zcb (pC g__law_whole hr (pa_N (pv 0) zab)) (zcU (zhj op_le op_le zad (pv 0) zad))))) zab))))))))),?_⟩
  obtain⟨t,ty,kt,ks⟩:=hd.ty2 (K:=K);refine⟨_,rfl,_,_,_,_,rfl,ty,kt,_,rfl,?_⟩;have k0:formD dt=false->∀H',Same H H'->Q (.bl false) H':=λh H' s=>by have:=k H' s;rw[h]at this;exact this
  refine ite2 (λhy=>?_) (λhn=>?_)
  .refine k0 ?_ H (Same.refl _)
   cases dt with
   |tuple ds=>simp[isT]at hy
   |_=>rfl
  have hT:isT dt=true:=by simpa using hn
  cases hd with
  |@tup c xs ds e hds=>?_
  |_=>exact absurd hT Au
  have hxl:=hds.len;refine⟨_,rfl,c,_,rfl,.inr (SqT.of e),?_⟩;refine⟨rfl,_,rfl,?_⟩;refine ite2 (λhy=>?_) (λhn4=>?_)
  .refine k0 (zfW λz=>?_) H (Same.refl _);rw[hxl,z]at hy;exact absurd hy (by decide)
  have h4:xs.length=4:=by
   by_cases z:xs.length=4
   .exact z
   .refine absurd ?_ hn4;rw[decide_eq_false (λq=>z (by injection q with q;lia))];rfl
  match xs,ds,h4,hds with
  |[v1,v2,v3,v4],_,_,.cons (d:=d1) h1 (.cons (d:=d2) h2 (.cons (d:=d3) h3 (.cons (d:=d4) h4 .nil))) =>
  have hk:∀H',Same H H'->Q (.bl (soD d1 && (isI d2 && (isI d3 && rowD d4)))) H':=k;refine⟨_,rfl,c,_,rfl,SqT.of e,rfl,_,_,rfl,_,_,rfl,_,_,rfl,_,_,rfl,rfl,?_⟩;obtain⟨t1,ty1,kt1,ks1⟩:=h1.ty2 (K:=K);have kf:∀H',Same H H'->(soD d1 && (isI d2 && (isI d3 && rowD d4)))=false->Q (.bl false) H':=λH' s h=>by have:=hk H' s;rw[h]at this;exact this
  refine⟨_,rfl,_,_,_,_,rfl,ty1,ks1,_,rfl,?_⟩;refine ite2 (λhS=>?_) (λhS=>?_)
  .refine kf H (Same.refl _) ?_
   cases d1 with
   |str x=>simp[isS]at hS
   |_=>rfl
  have hS':isS d1=true:=by simpa using hS
  cases h1 with
  |str x=>?_
  |_=>exact absurd hS' Au
  have hany:(![PyData.str (Aq "rim"),.str (Aq "hole")].any λe=>e.eqv (.str x))=!soD (.str x):=by
   have hb:∀a b:Str,(a == b)=decide (b=a):=λa b=>by
    by_cases z:a=b
    .subst z;simp
    .rw[beq_eq_false_iff_ne.mpr z,decide_eq_false (Bx z)]
   simp only[List.any_cons,List.any_nil,Bool.or_false,PyData.eqv,soD,hb]
  refine⟨_,rfl,two,λp5 hp5=>⟨p5,_,.str x,[.str (Aq "rim"),.str (Aq "hole")],rfl,SqL.of zaa,.str x,.cons (.str _) (.cons (.str _) .nil),hsp _ (.head _),?_,_,rfl,?_⟩⟩
  .intro e he;simp only[At,Bf,or_false]at he;rcases he with rfl |rfl <;> decide +kernel
  have s5:=Same.up (o:=.lst [V.str (Aq "rim"),.str (Aq "hole")]) hp5;generalize upd H p5 (.lst [V.str (Aq "rim"),.str (Aq "hole")])=H5 at s5 ⊢;refine ite2 (λhso=>?_) (λhso=>?_)
  .refine kf H5 s5 ?_
   rw[hany]at hso;have:soD (.str x)=false:=by simpa using hso
   rw[this,Cv]
  have hso':soD (.str x)=true:=by rw[hany]at hso;simpa using hso
  rw[hso',BI]at hk kf;refine⟨_,rfl,_,_,rfl,h2.same s5,_,rfl,?_⟩;refine ite2 (λhx=>?_) (λhx=>?_)
  .refine kf H5 s5 ?_
   have:isI d2=false:=by simpa using hx
   rw[this,Cv]
  have hx':isI d2=true:=by simpa using hx
  rw[hx',BI]at hk kf;refine⟨_,rfl,_,_,rfl,h3.same s5,_,rfl,?_⟩;refine ite2 (λhz=>?_) (λhz=>?_)
  .refine kf H5 s5 ?_
   have:isI d3=false:=by simpa using hz
   rw[this,Cv]
  have hz':isI d3=true:=by simpa using hz
  rw[hz',BI]at hk kf;have hd4:=h4.same s5;have hlo4:=hlo d4 (.tail _ (.tail _ (.tail _ (.head _))));obtain⟨t4,ty4,kt4,ks4⟩:=hd4.ty2 (K:=K);refine⟨_,rfl,_,_,_,_,rfl,ty4,kt4,_,rfl,?_⟩;refine ite2 (λhy=>?_) (λhn=>?_)
  rotate_left
  .refine kf H5 s5 ?_
   cases d4 with
   |tuple ds=>exact absurd rfl hn
   |_=>rfl
  cases hd4 with
  |@tup c4 xs ds e4 hds=>?_
  |_=>exact absurd hy Au
  have hxl:=hds.len;have hdl:ds.length<=900:=hlo4;refine⟨_,rfl,c4,rfl,⟨_,SqT.of e4⟩,λq hq=>?_⟩
  refine zgL (K:=K) (a:=c4) (xs:=xs) (λj σ H9=>∃o,σ=[o]/\Same H5 H9/\H9 q=some (.lst (((ds.take j).map stpD).map V.bl)))
   ⟨_,rfl,Same.up hq,zaa⟩ (λj σ H9 _ ⟨_,_,s9,_⟩=>SqT.of (s9 _ _ e4)) ?_ ?_
  .rintro j v σ H9 hj ⟨o,rfl,s9,e9⟩;obtain⟨dq,hdq,hy⟩:=hds.at hj;have hjl:j<xs.length:=(Ad.mp hj).1
   have hfin:∀bb,bb=stpD dq->(upd H9 q (.lst (((ds.take j).map stpD).map V.bl++[V.bl bb]))) q=some (.lst (((ds.take (j+1)).map stpD).map V.bl)):=λbb h=>by rw[zaa,zaN hdq,AS,AS,h];rfl
   refine gN ?_
   refine⟨_,rfl,v,dq,rfl,hy.same s9,_,rfl,?_⟩;refine ite2 (λhI=>?_) (λhI=>?_)
   .cases hy with
    |int i =>
     refine⟨_,rfl,_,_,rfl,rfl,_,rfl,?_⟩;refine ite2 (λh0=>?_) (λh0=>?_)
     .refine⟨_,_,rfl,rfl,_,e9,zak (by simp;lia),_,rfl,zax hq s9,hfin _ ?_⟩;show decide (i<=7)=(decide (0<=i) && decide (i<=7));rw[h0,BI]
     .refine⟨_,e9,zak (by simp;lia),_,rfl,zax hq s9,hfin _ ?_⟩;show false=(decide (0<=i) && decide (i<=7));have:decide (0<=i)=false:=BX.mpr h0;rw[this,Cv]
    |_=>exact absurd hI Au
   .refine⟨_,e9,zak (by simp;lia),_,rfl,zax hq s9,hfin _ ?_⟩
    cases dq with
    |int i=>exact absurd rfl hI
    |_=>rfl
  .rintro σ H9 ⟨o,rfl,s9,e9⟩;rw[hxl,A4]at e9;refine⟨q,_,rfl,SqL.of e9,?_⟩;have hall:(ds.map stpD).all id=ds.all stpD:=by rw[List.all_map];rfl
   rw[hall];exact hk H9 (s5.trans s9)
mutual
inductive IsD:Expr->PyData->Prop where
 |non {j:Nat} {p:Pos}:IsD (.Constant .none j p) .none
 |bl {b:Bool} {j:Nat} {p:Pos}:IsD (.Constant (.bool b) j p) (.bool b)
 |int {i:Int} {j:Nat} {p:Pos}:IsD (.Constant (.int i) j p) (.int i)
 |str {x:Str} {j:Nat} {p:Pos}:IsD (.Constant (.str x) j p) (.str x)
 |neg {i:Int} {j:Nat} {p q:Pos}:IsD (.UnaryOp .USub (.Constant (.int i) j p) q) (.int (-i))
 |pow {i m:Int} {j j':Nat} {p p' q:Pos}:CPow i m->IsD (.BinOp (.Constant (.int i) j p) .Pow (.Constant (.int m) j' p') q) (.int (i ^ m.toNat))
 |lst {es:List Expr} {ds:List PyData} {p:Pos}:IsDs es ds->ds.length<=2000->IsD (.List es p) (.list ds)
 |tup {es:List Expr} {ds:List PyData} {j:Nat} {p:Pos}:IsDs es ds->ds.length<=2000->IsD (.Tuple es j p) (.tuple ds)
inductive IsDs:List Expr->List PyData->Prop where
 |nil:IsDs [] []
 |cons {e:Expr} {es:List Expr} {d:PyData} {ds:List PyData}:IsD e d->IsDs es ds->IsDs (e::es) (d::ds)
end
noncomputable def tDat(d:PyData):TE:=λ_ H Q=>∀v H',Same H H'->DD H' v d->Q v H'
noncomputable def tDats(ds:List PyData):TA:=λ_ H Q=>∀vs H',Same H H'->DDs H' vs ds->Q vs H'
theorem PE.imp{X:Cx}{e:Expr}{t t':TE}(h:PE X e t)(k:∀ σ H Q,t' σ H Q->t σ H Q):PE X e t':=λpins s σ H Q I q=>h pins s σ H Q I (k σ H Q q)
theorem PA.imp{X:Cx}{e:List Expr}{t t':TA}(h:PA X e t)(k:∀ σ H Q,t' σ H Q->t σ H Q):PA X e t':=λpos pins s σ H Q I q=>h pos pins s σ H Q I (k σ H Q q)
mutual
theorem zmr{X:Cx}:∀{e:Expr}{d:PyData},IsD e d->PE X e (tDat d)
 |_,_,.non=>PE.imp zby λσ H Q q=>q _ H (Same.refl _) .non
 |_,_,.bl=>PE.imp pe_bl λσ H Q q=>q _ H (Same.refl _) (.bl _)
 |_,_,.int=>PE.imp zad λσ H Q q=>q _ H (Same.refl _) (.int _)
 |_,_,.str=>PE.imp zbN λσ H Q q=>q _ H (Same.refl _) (.str _)
 |_,_,.neg=>PE.imp (pe_un zbC zad) λσ H Q q=>⟨_,rfl,q _ H (Same.refl _) (.int _)⟩
 |_,_,.pow hc=>PE.imp (pe_op zhl zad zad) λσ H Q q=>⟨_,_,rfl,rfl,hc,q _ H (Same.refl _) (.int _)⟩
 |_,_,.lst h hl=>PE.imp (zaL (zdO h)) λσ H Q q vs H1 s1 d1=>⟨Bc (zak (by rw[d1.len];exact hl)),λp hp=>q _ _ (s1.trans (Same.up hp)) (.lst zaa (d1.same (Same.up hp)))⟩
 |_,_,.tup h hl=>PE.imp (zao (zdO h)) λσ H Q q vs H1 s1 d1=>⟨Bc (zak (by rw[d1.len];exact hl)),λp hp=>q _ _ (s1.trans (Same.up hp)) (.tup zaa (d1.same (Same.up hp)))⟩
theorem zdO{X:Cx}:∀{es:List Expr}{ds:List PyData},IsDs es ds->PA X es (tDats ds)
 |_,_,.nil=>PA.imp zab λσ H Q q=>q _ H (Same.refl _) .nil
 |_,_,.cons h t=>PA.imp (zag (zmr h) (zdO t) (by cases h <;> rfl)) λσ H Q q v H1 s1 d1 vs H2 s2 d2=>q _ H2 (s1.trans s2) (.cons (d1.same s2) d2)
end
theorem Ncs.app{w w' k:Nat}:∀{a b:List PyData},Ncs a w k->Ncs b w' k->Ncs (a++b) (w+w') k
 |[],b,h,h'=>⟨h'.ls,h'.sh,h'.cl,h'.dp,by have:=h'.wt;show C7 b<=_;lia⟩
 |d::a,b,h,h'=>by
  have l1:=h.ls;have l2:=h.sh;have l3:=h.cl;have l4:=h.dp;have l5:=h.wt;simp only[Dp,A3]at l1;simp only[DZ,A3]at l2;simp only[Cd,A3]at l3;simp only[Dg]at l4;simp only[C7]at l5;have hd:Nc d d.weight k:=⟨l1.1,l2.1,l3.1,by lia,Aj _⟩;have ha:Ncs a (C7 a) k:=⟨l1.2,l2.2,l3.2,by lia,Aj _⟩;have:=Ncs.cons hd (Ncs.app ha h');exact⟨this.ls,this.sh,this.cl,this.dp,AN this.wt (by lia)⟩
noncomputable def Kd(m n:Nat)(e:PyData):Prop:=Nc e 7000 4/\lenN n e/\∀i,e=.int i->i.natAbs<2 ^ m
structure Tg (m n:Nat) (d:PyData):Prop where
 nc:Nc d 50000 5
 kd:∀e∈kids d,Kd m n e
theorem lenN.le{n n':Nat}{d:PyData}(h:lenN n d)(hn:n<=n'):lenN n' d:=by
 cases d with
 |list ds=>exact AN h hn
 |tuple ds=>exact AN h hn
 |_=>trivial
theorem Kd.le{m m' n n':Nat}{e:PyData}(h:Kd m n e)(hm:m<=m')(hn:n<=n'):Kd m' n' e:=⟨h.1,h.2.1.le hn,λi hi=>AC (h.2.2 i hi) (Nat.pow_le_pow_right (by decide) hm)⟩
theorem Tg.tup{m n:Nat}{ds:List PyData}(hl:ds.length<=7)(h:∀e∈ds,Kd m n e):Tg m n (.tuple ds) :=
 ⟨((Ncs.of λe he=>(h e he).1).tuple).le (by have:ds.length*(7000+1)<=7*(7000+1):=Nat.mul_le_mul_right _ hl;lia) (by decide),h⟩
theorem Tg.lst{m n:Nat}{ds:List PyData}(hl:ds.length<=7)(h:∀e∈ds,Kd m n e):Tg m n (.list ds) :=
 ⟨((Ncs.of λe he=>(h e he).1).list).le (by have:ds.length*(7000+1)<=7*(7000+1):=Nat.mul_le_mul_right _ hl;lia) (by decide),h⟩
noncomputable def Rok(m n:Nat)(r:Rnd):Prop:=FormU r/\r.row.length<=n/\r.x.natAbs<2 ^ m/\r.y.natAbs<2 ^ m
theorem zk4{i:Int}{m:Nat}(h:i.natAbs<2 ^ m)(hm:1<=m):i.natAbs.log2<m:=by
 by_cases z:i.natAbs=0
 .rw[z];exact hm
 .exact (Nat.log2_lt z).mpr h
theorem zhw{m n:Nat}{i:Int}(h:i.natAbs<2 ^ m)(h1:1<=m)(hm:m<=110):Kd m n (.int i):=⟨(zjc (zk4 h h1) hm).le (by lia) (by decide),trivial,λj e=>by injection e with e;rw[<- e];exact h⟩
theorem zk6{m n:Nat}{row:List Nat}(h8:∀s∈row,s<8)(hl:row.length<=n)(hn:n<=600):Kd m n (.tuple (row.map λk:Nat=>A0 k)):=by have h1:=(Ncs.of (zjb row λk hk=>by have:=h8 k hk;lia)).tuple;rw[Ai]at h1;exact⟨h1.le (by lia) (by decide),by show (row.map λk:Nat=>A0 k).length<=n;rw[Ai];exact hl,λi e=>nomatch e⟩
theorem zlJ{m n:Nat}{row:List Nat}(h8:∀s∈row,s<8)(hl:row.length<=n)(hn:n<=600):Kd m n (.list (row.map λk:Nat=>A0 k)):=by have h1:=(Ncs.of (zjb row λk hk=>by have:=h8 k hk;lia)).list;rw[Ai]at h1;exact⟨h1.le (by lia) (by decide),by show (row.map λk:Nat=>A0 k).length<=n;rw[Ai];exact hl,λi e=>nomatch e⟩
theorem zdT{x:Str}(h:(D0 120 (.str x) && (PyData.canLay0 (.str x) && decide (PyData.weight (.str x)<=200)))=true):Nc (.str x) 200 2:=by rw[A3,A3]at h;exact⟨h.1,rfl,h.2.1,by simp[PyData.depth],of_decide_eq_true h.2.2⟩
theorem zk5{m n:Nat}{x:Str}(h:Nc (.str x) 200 2):Kd m n (.str x):=⟨h.le (by decide) (by decide),trivial,λi e=>nomatch e⟩
theorem kd_so {m n:Nat}{x:Str}(h:x = "rim" ∨ x = "hole"):Kd m n (.str x):=by rcases h with rfl |rfl <;> exact zk5 (zdT (by decide +kernel))
theorem Tg.rok{m n:Nat}{d:PyData}(h:Tg m n d)(hf:formD d=true):∃r,d=rdD r/\Rok m n r:=by obtain⟨r,rfl,hU⟩:=zcY.mp hf;have hx:=(h.kd _ (.tail _ (.head _))).2.2 r.x rfl;have hy:=(h.kd _ (.tail _ (.tail _ (.head _)))).2.2 r.y rfl;have hl:=(h.kd _ (.tail _ (.tail _ (.tail _ (.head _))))).2.1;have hl':(r.row.map λk:Nat=>A0 k).length<=n:=hl;rw[Ai]at hl';exact⟨r,rfl,hU,hl',hx,hy⟩
noncomputable def odds1:List PyData:=[.none,.bool true,.bool false,.str "",.str "rim",.str "holes",.int 0,.int 1,.int (-1),.int 7,.int 8,.int (10 ^ (29:Int).toNat),.tuple [],.list [],.list [.int 0],.tuple [.int 0],.str "0",.tuple [.bool true],.tuple [.tuple []]]
noncomputable def odds2:List PyData:=[.str "hole ",.str " hole",.str "rim ",.str " rim",.str "HOLE",.str "hole\n"]
structure Od (d:PyData):Prop where
 nc:Nc d 200 2
 ln:lenN 1 d
 it:∀i,d=.int i->i.natAbs<2 ^ 100
 kd:∀e∈kids d,Kd 100 1 e
theorem Od.tg{m n:Nat}{d:PyData}(h:Od d)(hm:100<=m)(hn:1<=n):Tg m n d:=⟨h.nc.le (by decide) (by decide),λe he=>(h.kd e he).le hm hn⟩
theorem Od.kk{m n:Nat}{d:PyData}(h:Od d)(hm:100<=m)(hn:1<=n):Kd m n d:=⟨h.nc.le (by decide) (by decide),h.ln.le hn,λi e=>AC (h.it i e) (Nat.pow_le_pow_right (by decide) hm)⟩
theorem zfL{x:Str}(h:Nc (.str x) 200 2):Od (.str x):=⟨h,trivial,λi e=>(nomatch e),λe he=>by cases he⟩
theorem zes{i:Int}(h:i.natAbs<2 ^ 100):Od (.int i):=⟨(zjc (zk4 h (by decide)) (by decide)).le (by decide) (by decide),trivial,λj e=>by injection e with e;rw[<- e];exact h,λe he=>by cases he⟩
theorem zer{ds:List PyData}(hl:ds.length<=1)(h:∀e∈ds,Nc e 10 1/\Kd 100 1 e):Od (.list ds)/\Od (.tuple ds):=by
 have h1:=Ncs.of λe he=>(h e he).1
 exact⟨⟨h1.list.le (by lia) (by decide),hl,λi e=>(nomatch e),λe he=>(h e he).2⟩,⟨h1.tuple.le (by lia) (by decide),hl,λi e=>(nomatch e),λe he=>(h e he).2⟩⟩
theorem zkg:∀d∈odds1,Od d:=by
 have k0:Nc (.int 0) 10 1/\Kd 100 1 (.int 0):=⟨(zk3 (n:=0) (by decide)).le (by decide) (by decide),zhw (by decide) (by decide) (by decide)⟩;have kt:Nc (.bool true) 10 1/\Kd 100 1 (.bool true):=⟨ze9 _,(ze9 _).le (by decide) (by decide),trivial,λi e=>nomatch e⟩;have ke:Nc (.tuple []) 10 1/\Kd 100 1 (.tuple []):=⟨(Ncs.nil (k:=0)).tuple.le (by decide) (by decide),(Ncs.nil (k:=0)).tuple.le (by decide) (by decide),A6 _,λi e=>nomatch e⟩;intro d hd;unfold odds1 at hd;simp only[At,Bf,or_false]at hd;rcases hd with rfl |rfl |rfl |rfl |rfl |rfl |rfl |rfl |rfl |rfl |rfl |rfl |rfl |rfl |rfl |rfl |rfl |rfl |rfl
 .exact⟨zlF.le (by decide) (by decide),trivial,λi e=>(nomatch e),λe he=>by cases he⟩
 .exact⟨(ze9 _).le (by decide) (by decide),trivial,λi e=>(nomatch e),λe he=>by cases he⟩
 .exact⟨(ze9 _).le (by decide) (by decide),trivial,λi e=>(nomatch e),λe he=>by cases he⟩
 .exact zfL (zdT (by decide +kernel))
 .exact zfL (zdT (by decide +kernel))
 .exact zfL (zdT (by decide +kernel))
 .exact zes (by decide)
 .exact zes (by decide)
 .exact zes (by decide)
 .exact zes (by decide)
 .exact zes (by decide)
 .exact zes (by decide)
 .exact (zer (ds:=[]) (by decide) (λe he=>by cases he)).2
 .exact (zer (ds:=[]) (by decide) (λe he=>by cases he)).1
 .exact (zer (ds:=[.int 0]) (by decide) (λe he=>by rw[Ak.mp he];exact k0)).1
 .exact (zer (ds:=[.int 0]) (by decide) (λe he=>by rw[Ak.mp he];exact k0)).2
 .exact zfL (zdT (by decide +kernel))
 .exact (zer (ds:=[.bool true]) (by decide) (λe he=>by rw[Ak.mp he];exact kt)).2
 .exact (zer (ds:=[.tuple []]) (by decide) (λe he=>by rw[Ak.mp he];exact ke)).2
theorem zkf:∀d∈odds2,Od d:=by intro d hd;unfold odds2 at hd;simp only[At,Bf,or_false]at hd;rcases hd with rfl |rfl |rfl |rfl |rfl |rfl <;> exact zfL (zdT (by decide +kernel))
theorem zf3(xs:List V)(j:Nat):cutV xs (some (j:Int)) none=xs.drop j:=by
 rcases Bi xs.length j with h |h
 .rw[show xs.drop j=[] from List.drop_eq_nil_of_le (by lia)]
  apply List.eq_nil_of_length_eq_zero
  unfold cutV;rw[HT.sIx_nat,Nat.min_eq_right (by lia)];simp
 .exact zhH xs h
theorem zgb{xs:List V}{i:Int}{k:Nat}(hk:xs.length=k)(h0:0<k):∃v,atI xs (i % (k:Int))=some v/\v∈xs:=by
 have h1:=Dj i (show (k:Int)≠0 by lia);have h2:=CO i (show (0:Int)<(k:Int) by lia);obtain⟨q,hq⟩:∃q:Nat,i % (k:Int)=(q:Int):=⟨(i % (k:Int)).toNat,by lia⟩;have hql:q<xs.length:=by lia
 rw[hq];exact⟨xs[q],zaz (Ab hql),BE hql⟩
noncomputable def TgV(m n:Nat)(H:Hp)(u:V):Prop:=∃d,DD H u d/\Tg m n d
theorem TgV.same{m n:Nat}{H H':Hp}{u:V}(h:TgV m n H u)(s:Same H H'):TgV m n H' u:=let ⟨d,h1,h2⟩:=h;⟨d,h1.same s,h2⟩
theorem zmE{m n:Nat}{row:List Nat}{dt:PyData}{a b:Nat}(h8:∀s ∈ row, s < 8)(hl:row.length <= n)(hn:n <= 550)(hd:Od dt)(ha:a <= row.length)(hab:a <= b) :
  Kd m (n+1) (.tuple ((row.map λk:Nat=>A0 k).take a++[dt]++(row.map λk:Nat=>A0 k).drop b)):=by
 have h1:∀d∈row.map (λk:Nat=>A0 k),Nc d 10 2:=λd hd=>((zjb row λk hk=>by have:=h8 k hk;lia) d hd).le (Aj _) (by decide)
 have h2:=Ncs.of (ds:=(row.map λk:Nat=>A0 k).take a) λd hd=>h1 d (Bp hd)
 have h3:=Ncs.of (ds:=(row.map λk:Nat=>A0 k).drop b) λd hd=>h1 d (Bo hd)
 have h4:=((h2.app (Ncs.cons hd.nc Ncs.nil)).app h3).tuple;rw[AT,Co,Ai]at h4;refine⟨h4.le (by lia) (by decide),?_,λi e=>nomatch e⟩;show List.length _<=n+1;rw[Af,Af,AT,Co,Ai,Cj];lia
theorem zlI{m n:Nat}{row:List Nat}{a:Nat}(h8:∀s ∈ row, s < 8)(hl:row.length <= n)(hn:n <= 550)(ha:a <= row.length) :
  Kd m n (.tuple ((row.map λk:Nat=>A0 k).drop a++(row.map λk:Nat=>A0 k).take a)):=by
 have e:(row.map λk:Nat=>A0 k).drop a++(row.map λk:Nat=>A0 k).take a=(row.drop a++row.take a).map λk:Nat=>A0 k:=by rw[AS,List.map_drop,List.map_take]
 rw[e];refine zk6 (λs hs=>?_) ?_ (by lia)
 .rcases Ap.mp hs with z |z
  .exact h8 s (Bo z)
  .exact h8 s (Bp z)
 .rw[Af,Co,AT];lia
noncomputable def getE1:List Stmt->List Expr
 |_::.Assign _ (.List es _) _::_=>es
 |_=>[]
noncomputable def getE2:List Stmt->List Expr
 |_::_::.Assign _ (.BinOp _ _ (.List es _) _) _::_=>es
 |_=>[]
noncomputable def setE(es1 es2:List Expr):List Stmt->List Stmt
 |a::.Assign t1 (.List _ p1) q1::.Assign t2 (.BinOp l o (.List _ p2) p3) q2::r=>a::.Assign t1 (.List es1 p1) q1::.Assign t2 (.BinOp l o (.List es2 p2) p3) q2::r
 |l=>l
noncomputable def spAny(K:W.Frag):Sp:=λvs H Q _=>∃(v:V) (r:Rnd) (b:Addr) (wy at' wt mr:Int) (m n:Nat),vs=[v,.ref b]/\rR r v H/\Rok m n r/\100<=m/\m<=105/\1<=n/\n<=500/\H b=some (.lst [.int wy,.int at',.int wt,.int mr])/\0<=wy/\0<=at'/\0<=wt/\0<=mr /\
 ∀u d H',Same H H'->DD H' u d->Tg (m+1) (n+1) d->Q u H'
theorem zh1 (T:Txt P w K mg) (d:Df K mg "_law_any" zaR ["_law_one","_law_draws"]):FnOk P w K mg base CX0 1 d.f d.fd ["_law_one","_law_draws"] (spAny K):=by
 refine d.F.ok zaE (λvs H Q E h=>?_) (λcdv A outer s H vs Q E hr h=>?_)
 .obtain⟨v,r,b,wy,at',wt,mr,m,n,rfl,_⟩:=h;rfl
 .obtain⟨v,r,b,wy,at',wt,mr,m,n,rfl,hv,hR,hm0,hm1,hn0,hn1,hb,hwy,hat,hwt,hmr,k⟩:=h;have e:zaF zaR=setE (getE1 (zaF zaR)) (getE2 (zaF zaR)) (zaF zaR):=by rfl
  have hE1:IsDs (getE1 (zaF zaR)) odds1:=.cons .non (.cons .bl (.cons .bl (.cons .str (.cons .str (.cons .str (.cons .int (.cons .int (.cons .neg (.cons .int (.cons .int (.cons (.pow (cpow (by decide))) (.cons (.tup .nil (by decide)) (.cons (.lst .nil (by decide)) (.cons (.lst (.cons .int .nil) (by decide)) (.cons (.tup (.cons .int .nil) (by decide)) (.cons .str (.cons (.tup (.cons .bl .nil) (by decide)) (.cons (.tup (.cons (.tup .nil (by decide)) .nil) (by decide)) .nil))))))))))))))))));have hE2:IsDs (getE2 (zaF zaR)) odds2:=.cons .str (.cons .str (.cons .str (.cons .str (.cons .str (.cons .str .nil)))));rw[e];generalize getE1 (zaF zaR)=es1 at hE1 ⊢;generalize getE2 (zaF zaR)=es2 at hE2 ⊢;clear e
  refine⟨_,(zac (za2 (pv 1) (zkW (by rfl) (zae (nG 2 zaE.nd) (zae (nG 3 zaE.nd) (zae (nG 4 zaE.nd) (zae (nG 5 zaE.nd) zay))))))
   (zac (sE 6 zaE.nd (zaL (zdO hE1)))
   (zac (sE 6 zaE.nd (pe_op zfH (pv 6) (zaL (zdO hE2))))
   (zac (sE 7 zaE.nd (pe_ix zaB (pv 6) (pe_op zau (pv 4) (zan zap (by rfl) T.nlen (by rfl) (pa_N (pv 6) zab))) (λ_ _=>rfl)))
   (zac (za2 (pv 0) (zaW (by rfl) (zae (nG 8 zaE.nd) (zae (nG 9 zaE.nd) (zae (nG 10 zaE.nd) (zae (nG 11 zaE.nd) zay))))))
   (zac (sE 12 zaE.nd (pe_op zau (pv 3) (pe_op zaG (zan zap (by rfl) T.nlen (by rfl) (pa_N (pv 11) zab)) zad)))
   (zac (ps_if (zaq op_eq (pe_op zau (pv 2) zad) zad (zas _))
   (zah (zal (zao (pa_N (pv 7) (pa_N (pv 9) (pa_N (pv 10) (pa_N (pv 11) zab)))))))
   zaA)
   (zac (ps_if (zaq op_eq (pe_op zau (pv 2) zad) zad (zas _))
   (zah (zal (pe_ix zaB (zaL (pa_T (zao (pa_N (pv 8) (pa_N (pv 7) (pa_N (pv 10) (pa_N (pv 11) zab))))) (pa_T (zao (pa_N (pv 8) (pa_N (pv 9) (pa_N (pv 7) (pa_N (pv 11) zab))))) (pa_T (zao (pa_N (pv 8) (pa_N (pv 9) (pa_N (pv 10) (pa_N (pv 7) zab))))) zab)))) (pe_op zau (pv 5) zad) (λ_ _=>rfl))))
   zaA)
   (zac (ps_if (zaq op_eq (pe_op zau (pv 2) zad) zad (zas _))
   (zah (zal (zao (pa_N (pv 8) (pa_N (pv 9) (pa_N (pv 10) (pa_B (pe_op zeX (pe_op zeX (za9 zc5 (pv 11) zbQ (zbi (pv 12))) (zao (pa_N (pv 7) zab))) (za9 zc5 (pv 11) (zbi (pe_op zaG (pv 12) (pe_op zau (pv 5) zad))) zbQ)) zab)))))))
   zaA)
   (zac (ps_if (zaq op_eq (pe_op zau (pv 2) zad) zad (zas _))
   (zah (zal (pe_ix zaB (zaL (zag (za9 zc5 (pv 0) zbQ (zbi zad)) (pa_B (pe_op zeX (pv 0) (zao (pa_N (pv 7) zab))) (zag (zbH zdm (by rfl) T.nlist (by rfl) (pa_N (pv 0) zab)) (pa_T (zao (pa_N (pv 8) (pa_N (pv 9) (pa_N (pv 10) (zag (zbH zdm (by rfl) T.nlist (by rfl) (pa_N (pv 11) zab)) zab))))) (zag (za9 zc5 (pv 0) (zbi zad) zbQ) (pa_N (pv 7) zab))))))) (pe_op zau (pv 5) zad) (λ_ _=>rfl))))
   zaA)
   (zac (ps_if (zaq op_eq (pe_op zau (pv 2) zad) zad (zas _))
   (zah (zal (pe_ix zaB (zaL (pa_T (zao (pa_N (pv 8) (pa_B (pe_op zcD (pe_op zaG (pv 9) (pe_op zau (pv 5) zad)) zad) (pa_N (pv 10) (pa_N (pv 11) zab))))) (pa_T (zao (pa_N (pv 8) (pa_N (pv 9) (pa_N (pv 10) (pa_B (pe_op zeX (za9 zc5 (pv 11) (zbi (pv 12)) zbQ) (za9 zc5 (pv 11) zbQ (zbi (pv 12)))) zab))))) zab))) (pe_op zau (pe_op zeV (pv 5) zad) zad) (λ_ _=>rfl))))
   zaA)
   (zac (ps_if (zaq op_eq (pe_op zau (pv 2) zad) zad (zas _))
   (zah (zal (zao (zag (pe_ix zaB (zaL (pa_C zbN (pa_C zbN (pa_C zbN (pa_C zbN (pa_C zbN zab)))))) (pe_op zau (pv 5) zad) (λ_ _=>rfl)) (pa_N (pv 9) (pa_N (pv 10) (pa_N (pv 11) zab)))))))
   zaA)
   (zah (zal (pv 0))))))))))))))),?_⟩
  have hσ:L2.start zeF [v,.ref b]=[some v,some (.ref b),none,none,none,none,none,none,none,none,none,none,none]:=rfl;rw[hσ];obtain⟨a,c,rfl,q1,q2⟩:=id hv;refine⟨_,rfl,b,_,rfl,SqL.of hb,rfl,_,_,rfl,_,_,rfl,_,_,rfl,_,_,rfl,rfl,?_⟩;simp only[zaw,AH,AD];refine λvs1 H1 s1 d1=>⟨Bc (zak (by rw[d1.len];decide)),λl1 hl1=>?_⟩
  have s2:=Same.up (o:=.lst vs1) hl1;have e2:upd H1 l1 (.lst vs1) l1=some (.lst vs1):=zaa;generalize upd H1 l1 (.lst vs1)=H2 at s2 e2 ⊢;simp only[zaw,AH,AD];refine⟨_,rfl,λvs2 H3 s3 d3=>⟨Bc (zak (by rw[d3.len];decide)),λl4 hl4=>?_⟩⟩;have s4:=Same.up (o:=.lst vs2) hl4;have e4:upd H3 l4 (.lst vs2) l4=some (.lst vs2):=zaa;generalize upd H3 l4 (.lst vs2)=H4 at s4 e4 ⊢;have e1l:=d1.len;have e3l:=d3.len;have n1:odds1.length=19:=rfl;have n2:odds2.length=6:=rfl;refine⟨l1,l4,_,_,rfl,rfl,(s3.trans s4) _ _ e2,e4,Bc (zak (by lia)),λl5 hl5=>?_⟩;have s5:=Same.up (o:=.lst (vs1++vs2)) hl5;have e5:upd H4 l5 (.lst (vs1++vs2)) l5=some (.lst (vs1++vs2)):=zaa;have dd5:DDs (upd H4 l5 (.lst (vs1++vs2))) (vs1++vs2) (odds1++odds2):=(d1.same (s2.trans (s3.trans (s4.trans s5)))).app (d3.same (s4.trans s5));have s05:=s1.trans (s2.trans (s3.trans (s4.trans s5)));generalize upd H4 l5 (.lst (vs1++vs2))=H5 at s5 e5 dd5 s05 ⊢;have hvl:(vs1++vs2).length=25:=by rw[Af];lia
  have hod:∀d∈odds1++odds2,Od d:=λd hd=>by
   rcases Ap.mp hd with z |z
   .exact zkg d z
   .exact zkf d z
  clear s1 s2 s3 s4 s5 e2 e4 d1 d3 hl1 hl4 hl5 hE1 hE2 e1l e3l n1 n2;generalize odds1++odds2=ods at dd5 hod;generalize vs1++vs2=vs at *;simp only[zaw,AH,AD];obtain⟨ix,hix,hix2⟩:∃ix:Nat,wt % 25=(ix:Int)/\ix<25:=⟨(wt % 25).toNat,by lia,by lia⟩;have hvx:vs[ix]?=some vs[ix]:=Ab (by lia)
  obtain⟨dt,hdt,hDt⟩:=dd5.at hvx;have hOd:=hod dt (Aw hdt);generalize vs[ix]=tv at hvx hDt;refine⟨_,rfl,_,rfl,_,rfl,l5,_,rfl,.inl (SqL.of e5),_,_,rfl,rfl,(by rw[hvl];show (0:Int)<25;decide),l5,_,_,_,rfl,rfl,SqL.of e5,(by rw[hvl];show atI vs (wt % 25)=_;rw[hix];exact zaz hvx),?_⟩;simp only[zaw,AH,AD];have q15:=s05 _ _ q1;have q25:=s05 _ _ q2;refine⟨_,rfl,a,_,rfl,SqT.of q15,rfl,_,_,rfl,_,_,rfl,_,_,rfl,_,_,rfl,rfl,?_⟩;simp only[zaw,AH,AD];have hrl:(rowV r.row).length=r.row.length:=Ai ..
  obtain⟨hx,hhx,hhx2⟩:∃hx:Nat,at' % ((r.row.length:Int)+1)=(hx:Int)/\hx<=r.row.length:=by have h1:=Dj at' (show (r.row.length:Int)+1≠0 by lia);have h2:=CO at' (show (0:Int)<(r.row.length:Int)+1 by lia);exact⟨(at' % ((r.row.length:Int)+1)).toNat,by lia,by lia⟩
  refine⟨_,rfl,_,rfl,c,_,rfl,.inr (SqT.of q25),_,_,rfl,rfl,_,_,rfl,rfl,(by rw[hrl];lia),?_⟩;simp only[zaw,AH,AD,hrl,hhx];clear dd5 hod hvx hvl hdt;obtain⟨⟨hso,h8⟩,hln,hx1,hy1⟩:=hR;have hpm:(2:Nat) ^ (m+1)=2 ^ m+2 ^ m:=by rw[Nat.pow_succ];lia
  have hp0:0<(2:Nat) ^ m:=Nat.pow_pos (by decide);have kso:Kd (m+1) (n+1) (.str r.so):=kd_so hso;have kx:Kd (m+1) (n+1) (.int r.x):=zhw (by lia) (by lia) (by lia);have ky:Kd (m+1) (n+1) (.int r.y):=zhw (by lia) (by lia) (by lia);have krow:Kd (m+1) (n+1) (.tuple (r.row.map λk:Nat=>A0 k)):=zk6 h8 (by lia) (by lia);have kdt:Kd (m+1) (n+1) dt:=hOd.kk (by lia) (by lia);have fin:∀u H',Same H5 H'->TgV (m+1) (n+1) H' u->Q u H':=λu H' s ⟨d,h1,h2⟩=>k u d H' (s05.trans s) h1 h2
  have dR:∀H',Same H5 H'->DD H' (.ref c) (.tuple (r.row.map λk:Nat=>A0 k)):=λH' s=>.tup (s _ _ q25) (DDs.row _)
  have four:4<=sizeLine:=by decide
  have mk4:∀H' p v1 v2 v3 v4 d1 d2 d3 d4,H' p=some (.tup [v1,v2,v3,v4])->DD H' v1 d1->DD H' v2 d2->DD H' v3 d3->DD H' v4 d4->Kd (m+1) (n+1) d1->Kd (m+1) (n+1) d2->Kd (m+1) (n+1) d3->Kd (m+1) (n+1) d4->TgV (m+1) (n+1) H' (.ref p) :=
   λH' p v1 v2 v3 v4 d1 d2 d3 d4 e h1 h2 h3 h4 k1 k2 k3 k4=>⟨.tuple [d1,d2,d3,d4],.tup e (.cons h1 (.cons h2 (.cons h3 (.cons h4 .nil)))),Tg.tup (by show 4<=7;decide) λe he=>by simp only[At,Bf,or_false]at he;rcases he with rfl |rfl |rfl |rfl <;> assumption⟩
  refine⟨_,rfl,_,_,rfl,rfl,(by show (0:Int)<7;decide),rfl,_,rfl,?_⟩;refine ite2 (λhy=>?_) (λhn0=>?_)
  .refine⟨_,rfl,_,rfl,_,rfl,_,rfl,four,λp1 hp1=>?_⟩;have s6:=Same.up (o:=.tup [tv,.int r.x,.int r.y,.ref c]) hp1;exact fin _ _ s6 (mk4 _ _ _ _ _ _ _ _ _ _ zaa (hDt.same s6) (.int _) (.int _) (dR _ s6) kdt kx ky krow)
  clear hn0;refine⟨_,rfl,_,_,rfl,rfl,(by show (0:Int)<7;decide),rfl,_,rfl,?_⟩;refine ite2 (λhy=>?_) (λhn0=>?_)
  .refine⟨_,rfl,_,rfl,_,rfl,_,rfl,four,λp1 hp1=>?_⟩;have s6:=Same.up (o:=.tup [.str r.so,tv,.int r.y,.ref c]) hp1;have t6:=mk4 _ p1 _ _ _ _ _ _ _ _ (zaa (H:=H5) (o:=.tup [.str r.so,tv,.int r.y,.ref c])) (.str _) (hDt.same s6) (.int _) (dR _ s6) kso kdt ky krow;generalize upd H5 p1 (.tup [.str r.so,tv,.int r.y,.ref c])=H6 at s6 t6 ⊢;refine⟨_,rfl,_,rfl,_,rfl,_,rfl,four,λp2 hp2=>?_⟩;have s7:=s6.trans (Same.up (o:=.tup [.str r.so,.int r.x,tv,.ref c]) hp2);have s67:=Same.up (o:=.tup [.str r.so,.int r.x,tv,.ref c]) hp2;have t7:=mk4 _ p2 _ _ _ _ _ _ _ _ (zaa (H:=H6) (o:=.tup [.str r.so,.int r.x,tv,.ref c])) (.str _) (.int _) (hDt.same s7) (dR _ s7) kso kx kdt krow;generalize upd H6 p2 (.tup [.str r.so,.int r.x,tv,.ref c])=H7 at s7 t7 s67 ⊢;refine⟨_,rfl,_,rfl,_,rfl,_,rfl,four,λp3 hp3=>?_⟩;have s8:=s7.trans (Same.up (o:=.tup [.str r.so,.int r.x,.int r.y,tv]) hp3);have s78:=Same.up (o:=.tup [.str r.so,.int r.x,.int r.y,tv]) hp3;have t8:=mk4 _ p3 _ _ _ _ _ _ _ _ (zaa (H:=H7) (o:=.tup [.str r.so,.int r.x,.int r.y,tv])) (.str _) (.int _) (.int _) (hDt.same s8) kso kx ky kdt;generalize upd H7 p3 (.tup [.str r.so,.int r.x,.int r.y,tv])=H8 at s8 t8 s78 ⊢;refine⟨(by show 3<=sizeLine;decide),λl9 hl9=>?_⟩;have s89:=Same.up (o:=.lst [.ref p1,.ref p2,.ref p3]) hl9;have e9:upd H8 l9 (.lst [.ref p1,.ref p2,.ref p3]) l9=some (.lst [.ref p1,.ref p2,.ref p3]):=zaa;generalize upd H8 l9 (.lst [.ref p1,.ref p2,.ref p3])=H9 at s89 e9 ⊢;obtain⟨u,hu,hmem⟩:=zgb (xs:=[.ref p1,.ref p2,.ref p3]) (i:=mr) (k:=3) rfl (by decide);refine⟨_,rfl,_,_,rfl,rfl,(by show (0:Int)<3;decide),l9,_,_,_,rfl,rfl,SqL.of e9,hu,?_⟩;refine fin _ _ (s8.trans s89) ?_
   simp only[At,Bf,or_false]at hmem;rcases hmem with rfl |rfl |rfl
   .exact t6.same (s67.trans (s78.trans s89))
   .exact t7.same (s78.trans s89)
   .exact t8.same s89
  clear hn0;refine⟨_,rfl,_,_,rfl,rfl,(by show (0:Int)<7;decide),rfl,_,rfl,?_⟩;refine ite2 (λhy=>?_) (λhn0=>?_)
  .obtain⟨m2,hm2,hm3⟩:∃m2:Nat,mr % 2=(m2:Int)/\m2<=1:=⟨(mr % 2).toNat,by lia,by lia⟩;refine⟨_,rfl,_,rfl,_,rfl,_,rfl,_,rfl,_,rfl,c,_,rfl,q25,λp1 H6 s6 e6=>?_⟩;rw[zjI _ (by rw[hrl];exact hhx2)]at e6;refine⟨_,rfl,zdQ,λp2 hp2=>?_⟩;have s67:=Same.up (o:=.tup [tv]) hp2;have e7:upd H6 p2 (.tup [tv]) p2=some (.tup [tv]):=zaa;generalize upd H6 p2 (.tup [tv])=H7 at s67 e7 ⊢;refine⟨p1,p2,_,_,rfl,rfl,s67 _ _ e6,e7,Bc (zak (by rw[AT,hrl];simp;lia)),λp3 H8 s78 e8=>?_⟩;have s8:=s6.trans (s67.trans s78);refine⟨_,rfl,_,rfl,_,rfl,_,_,rfl,rfl,(by show (0:Int)<2;decide),_,_,rfl,rfl,_,rfl,c,_,rfl,s8 _ _ q25,λp4 H9 s89 e9=>?_⟩
   have e9':H9 p4=some (.tup (cutV (rowV r.row) (some ((hx+m2:Nat):Int)) none)):=by
    have:((hx+m2:Nat):Int)=(hx:Int)+mr % 2:=by lia
    rw[this];exact e9
   rw[zf3]at e9';refine⟨p3,p4,_,_,rfl,rfl,s89 _ _ e8,e9',Bc (zak (by rw[Af,AT,Co,hrl];simp;lia)),λp5 H10 s910 e10=>?_⟩;have s10:=s8.trans (s89.trans s910);refine⟨four,λp6 hp6=>?_⟩;have s11:=Same.up (o:=.tup [.str r.so,.int r.x,.int r.y,.ref p5]) hp6;refine fin _ _ (s10.trans s11) (mk4 _ _ _ _ _ _ _ _ _ _ zaa (.str _) (.int _) (.int _) (.tup (s11 _ _ e10) ?_) kso kx ky (zmE h8 hln (by lia) hOd hhx2 (Nat.le_add_right hx m2)));exact (((DDs.row _).take _).app (.cons (hDt.same (s10.trans s11)) .nil)).app ((DDs.row _).drop _)
  clear hn0;refine⟨_,rfl,_,_,rfl,rfl,(by show (0:Int)<7;decide),rfl,_,rfl,?_⟩;refine ite2 (λhy=>?_) (λhn0=>?_)
  .have kall:∀e ∈ [PyData.str r.so, .int r.x, .int r.y, .tuple (r.row.map λk:Nat => A0 k)], Kd (m + 1) (n + 1) e := λe he => by simp only[At,Bf,or_false]at he;rcases he with rfl |rfl |rfl |rfl <;> assumption
   have dall:∀H',Same H5 H'->DDs H' [.str r.so,.int r.x,.int r.y,.ref c] [PyData.str r.so,.int r.x,.int r.y,.tuple (r.row.map λk:Nat=>A0 k)]:=λH' s=>.cons (.str _) (.cons (.int _) (.cons (.int _) (.cons (dR H' s) .nil)))
   refine⟨_,rfl,_,rfl,a,_,rfl,q15,λp1 H6 s6 e6=>?_⟩;have e6':H6 p1=some (.tup [.str r.so,.int r.x,.int r.y]):=e6;have t6:TgV (m+1) (n+1) H6 (.ref p1):=⟨_,.tup e6' ((dall _ s6).take 3),Tg.tup (by show 3<=7;decide) λe he=>kall e (Bp he)⟩;refine⟨_,rfl,_,rfl,zdQ,λp2 hp2=>?_⟩;have s67:=Same.up (o:=.tup [tv]) hp2;have e7:upd H6 p2 (.tup [tv]) p2=some (.tup [tv]):=zaa;generalize upd H6 p2 (.tup [tv])=H7 at s67 e7 ⊢;refine⟨a,p2,_,_,rfl,rfl,(s6.trans s67) _ _ q15,e7,(by show 5<=sizeLine;decide),λp3 H8 s78 e8=>?_⟩;have s8:=s6.trans (s67.trans s78)
   have t8:TgV (m+1) (n+1) H8 (.ref p3):=⟨_,.tup e8 ((dall _ s8).app (.cons (hDt.same s8) .nil)),Tg.tup (by show 5<=7;decide) λe he=>by
    rcases Ap.mp he with z |z
    .exact kall e z
    .rw[Ak.mp z];exact kdt⟩
   refine⟨_,rfl,a,_,rfl,.inr (SqT.of (s8 _ _ q15)),λl9 hl9=>?_⟩;have s89:=Same.up (o:=.lst [.str r.so,.int r.x,.int r.y,.ref c]) hl9;have e9:upd H8 l9 (.lst [.str r.so,.int r.x,.int r.y,.ref c]) l9=some (.lst [.str r.so,.int r.x,.int r.y,.ref c]):=zaa;generalize upd H8 l9 (.lst [.str r.so,.int r.x,.int r.y,.ref c])=H9 at s89 e9 ⊢;have s9:=s8.trans s89;have t9:TgV (m+1) (n+1) H9 (.ref l9):=⟨_,.lst e9 (dall _ s9),Tg.lst (by show 4<=7;decide) kall⟩;refine⟨_,rfl,_,rfl,_,rfl,_,rfl,c,_,rfl,.inr (SqT.of (s9 _ _ q25)),λl10 hl10=>?_⟩;have s910:=Same.up (o:=.lst (rowV r.row)) hl10;have e10:upd H9 l10 (.lst (rowV r.row)) l10=some (.lst (rowV r.row)):=zaa;generalize upd H9 l10 (.lst (rowV r.row))=H10 at s910 e10 ⊢;refine⟨four,λp11 hp11=>?_⟩;have s1011:=Same.up (o:=.tup [.str r.so,.int r.x,.int r.y,.ref l10]) hp11;have e11:upd H10 p11 (.tup [.str r.so,.int r.x,.int r.y,.ref l10]) p11=some (.tup [.str r.so,.int r.x,.int r.y,.ref l10]):=zaa;generalize upd H10 p11 (.tup [.str r.so,.int r.x,.int r.y,.ref l10])=H11 at s1011 e11 ⊢;have s11:=s9.trans (s910.trans s1011);have t11:TgV (m+1) (n+1) H11 (.ref p11):=mk4 _ _ _ _ _ _ _ _ _ _ e11 (.str _) (.int _) (.int _) (.lst (s1011 _ _ e10) (DDs.row _)) kso kx ky (zlJ h8 (by lia) (by lia));refine⟨_,rfl,_,rfl,a,_,rfl,s11 _ _ q15,λp12 H12 s1112 e12=>?_⟩;have e12':H12 p12=some (.tup [.int r.x,.int r.y,.ref c]):=e12;have s12:=s11.trans s1112;have t12:TgV (m+1) (n+1) H12 (.ref p12):=⟨_,.tup e12' ((dall _ s12).drop 1),Tg.tup (by show 3<=7;decide) λe he=>kall e (Bo he)⟩;refine⟨_,rfl,(by show 6<=sizeLine;decide),λl13 hl13=>?_⟩;have s1213:=Same.up (o:=.lst [.ref p1,.ref p3,.ref l9,.ref p11,.ref p12,tv]) hl13;have e13:upd H12 l13 (.lst [.ref p1,.ref p3,.ref l9,.ref p11,.ref p12,tv]) l13=some (.lst [.ref p1,.ref p3,.ref l9,.ref p11,.ref p12,tv]):=zaa;generalize upd H12 l13 (.lst [.ref p1,.ref p3,.ref l9,.ref p11,.ref p12,tv])=H13 at s1213 e13 ⊢;obtain⟨u,hu,hmem⟩:=zgb (xs:=[.ref p1,.ref p3,.ref l9,.ref p11,.ref p12,tv]) (i:=mr) (k:=6) rfl (by decide);refine⟨_,rfl,_,_,rfl,rfl,(by show (0:Int)<6;decide),l13,_,_,_,rfl,rfl,SqL.of e13,hu,?_⟩;refine fin _ _ (s12.trans s1213) ?_
   simp only[At,Bf,or_false]at hmem;rcases hmem with rfl |rfl |rfl |rfl |rfl |rfl
   .exact t6.same (s67.trans (s78.trans (s89.trans (s910.trans (s1011.trans (s1112.trans s1213))))))
   .exact t8.same (s89.trans (s910.trans (s1011.trans (s1112.trans s1213))))
   .exact t9.same (s910.trans (s1011.trans (s1112.trans s1213)))
   .exact t11.same (s1112.trans s1213)
   .exact t12.same s1213
   .exact⟨dt,hDt.same (s12.trans s1213),hOd.tg (by lia) (by lia)⟩
  clear hn0;refine⟨_,rfl,_,_,rfl,rfl,(by show (0:Int)<7;decide),rfl,_,rfl,?_⟩;refine ite2 (λhy=>?_) (λhn0=>?_)
  .have kx':Kd (m+1) (n+1) (.int (r.x+mr % 3-1)):=zhw (by lia) (by lia) (by lia);refine⟨_,rfl,_,rfl,_,rfl,_,_,rfl,rfl,(by show (0:Int)<3;decide),_,_,rfl,rfl,_,_,rfl,rfl,_,rfl,_,rfl,four,λp1 hp1=>?_⟩;have s6:=Same.up (o:=.tup [.str r.so,.int (r.x+mr % 3-1),.int r.y,.ref c]) hp1;have t6:=mk4 _ p1 _ _ _ _ _ _ _ _ (zaa (H:=H5) (o:=.tup [.str r.so,.int (r.x+mr % 3-1),.int r.y,.ref c])) (.str _) (.int _) (.int _) (dR _ s6) kso kx' ky krow;generalize upd H5 p1 (.tup [.str r.so,.int (r.x+mr % 3-1),.int r.y,.ref c])=H6 at s6 t6 ⊢;refine⟨_,rfl,_,rfl,_,rfl,_,rfl,_,rfl,_,rfl,c,_,rfl,s6 _ _ q25,λp2 H7 s67 e7=>?_⟩;rw[zf3]at e7;refine⟨_,rfl,_,rfl,_,rfl,c,_,rfl,(s6.trans s67) _ _ q25,λp3 H8 s78 e8=>?_⟩;rw[zjI _ (by rw[hrl];exact hhx2)]at e8;refine⟨p2,p3,_,_,rfl,rfl,s78 _ _ e7,e8,Bc (zak (by rw[AT,Co,hrl];lia)),λp4 H9 s89 e9=>?_⟩;have s9:=s6.trans (s67.trans (s78.trans s89));refine⟨four,λp5 hp5=>?_⟩;have s910:=Same.up (o:=.tup [.str r.so,.int r.x,.int r.y,.ref p4]) hp5;have e10:upd H9 p5 (.tup [.str r.so,.int r.x,.int r.y,.ref p4]) p5=some (.tup [.str r.so,.int r.x,.int r.y,.ref p4]):=zaa;generalize upd H9 p5 (.tup [.str r.so,.int r.x,.int r.y,.ref p4])=H10 at s910 e10 ⊢;have s10:=s9.trans s910;have t10:TgV (m+1) (n+1) H10 (.ref p5):=mk4 _ _ _ _ _ _ _ _ _ _ e10 (.str _) (.int _) (.int _) (.tup (s910 _ _ e9) (((DDs.row _).drop _).app ((DDs.row _).take _))) kso kx ky ((zlI h8 hln (by lia) hhx2).le (Aj _) (by lia));refine⟨two,λl11 hl11=>?_⟩;have s1011:=Same.up (o:=.lst [.ref p1,.ref p5]) hl11;have e11:upd H10 l11 (.lst [.ref p1,.ref p5]) l11=some (.lst [.ref p1,.ref p5]):=zaa;generalize upd H10 l11 (.lst [.ref p1,.ref p5])=H11 at s1011 e11 ⊢;obtain⟨u,hu,hmem⟩:=zgb (xs:=[.ref p1,.ref p5]) (i:=mr / 3) (k:=2) rfl (by decide);refine⟨_,rfl,_,_,rfl,rfl,(by show (0:Int)<3/\(3:Int)<1073741824;decide),_,_,rfl,rfl,(by show (0:Int)<2;decide),l11,_,_,_,rfl,rfl,SqL.of e11,hu,?_⟩;refine fin _ _ (s10.trans s1011) ?_
   simp only[At,Bf,or_false]at hmem;rcases hmem with rfl |rfl
   .exact t6.same (s67.trans (s78.trans (s89.trans (s910.trans s1011))))
   .exact t10.same s1011
  clear hn0;refine⟨_,rfl,_,_,rfl,rfl,(by show (0:Int)<7;decide),rfl,_,rfl,?_⟩;refine ite2 (λhy=>?_) (λhn0=>?_)
  .refine⟨(by show 5<=sizeLine;decide),λl6 hl6=>?_⟩;have s6:=Same.up (o:=.lst [.str (Aq "rim"),.str (Aq "hole"),.str (Aq "Rim"),.str (Aq "h"),.str (Aq "rimhole")]) hl6;have e6:upd H5 l6 (.lst [.str (Aq "rim"),.str (Aq "hole"),.str (Aq "Rim"),.str (Aq "h"),.str (Aq "rimhole")]) l6=some (.lst [.str (Aq "rim"),.str (Aq "hole"),.str (Aq "Rim"),.str (Aq "h"),.str (Aq "rimhole")]):=zaa;generalize upd H5 l6 (.lst [.str (Aq "rim"),.str (Aq "hole"),.str (Aq "Rim"),.str (Aq "h"),.str (Aq "rimhole")])=H6 at s6 e6 ⊢;obtain⟨u,hu,hmem⟩:=zgb (xs:=[.str (Aq "rim"),.str (Aq "hole"),.str (Aq "Rim"),.str (Aq "h"),.str (Aq "rimhole")]) (i:=mr) (k:=5) rfl (by decide)
   obtain⟨x,rfl,hxk⟩:∃x:Str,u=.str x/\Kd (m+1) (n+1) (.str x):=by simp only[At,Bf,or_false]at hmem;rcases hmem with rfl |rfl |rfl |rfl |rfl <;> exact⟨_,rfl,zk5 (zdT (by decide +kernel))⟩
   refine⟨_,rfl,_,_,rfl,rfl,(by show (0:Int)<5;decide),l6,_,_,_,rfl,rfl,SqL.of e6,hu,_,rfl,_,rfl,_,rfl,four,λp1 hp1=>?_⟩;have s7:=Same.up (o:=.tup [.str x,.int r.x,.int r.y,.ref c]) hp1;exact fin _ _ (s6.trans s7) (mk4 _ _ _ _ _ _ _ _ _ _ zaa (.str _) (.int _) (.int _) (dR _ (s6.trans s7)) hxk kx ky krow)
  refine⟨_,rfl,fin _ _ (Same.refl _) ?_⟩;exact mk4 _ _ _ _ _ _ _ _ _ _ q15 (.str _) (.int _) (.int _) (dR _ (Same.refl _)) kso kx ky krow
theorem Can.rowE'{C:Cell->Bool}{es:List Edge}{r:Rnd}(h:Can C es r):r.row=es.filterMap (stepB C):=by rw[h.row,B6];rfl
theorem Can.lt8'{C:Cell->Bool}{es:List Edge}{r:Rnd}(h:Can C es r):∀s∈r.row,s<8:=λs hs=>by rw[h.rowE']at hs;obtain⟨e,he,e1⟩:=List.mem_filterMap.mp hs;exact zjY (h.cl.1.2.2.1 e he).1 s e1
theorem Can.so' {C:Cell->Bool}{es:List Edge}{r:Rnd}(h:Can C es r):r.so = "rim" ∨ r.so = "hole":=by rw[h.so];exact zha _
theorem Can.len'{cs:List Cell}{es:List Edge}{r:Rnd}(h:Can (isIn cs) es r):r.row.length<=4*cs.length:=by rw[h.rowE'];exact AN (List.length_filterMap_le _ _) h.cl.1.short
theorem Can.bg'{cs:List Cell}{es:List Edge}{r:Rnd}(h:Can (isIn cs) es r):(r.x,r.y)∈cs:=by have h1:=h.cl.1.2.2.1 (begE r) (Aw h.cl.1.1);have h2:isIn cs (r.x,r.y)=true:=h1.2.1;simpa[isIn]using h2
theorem zls{cs:List Cell}{es:List Edge}{r:Rnd}(h:Can (isIn cs) es r)(hcl:cs.length<=120)(hb:∀c∈cs,c.1.natAbs<2 ^ 101/\c.2.natAbs<2 ^ 101):Rok 101 480 r :=
 ⟨⟨h.so',h.lt8'⟩,by have:=h.len';lia,(hb _ h.bg').1,(hb _ h.bg').2⟩
theorem Tg.le{m m' n n':Nat}{d:PyData}(h:Tg m n d)(hm:m<=m')(hn:n<=n'):Tg m' n' d:=⟨h.nc,λe he=>(h.kd e he).le hm hn⟩
theorem zlN{α:Type}{l:List α}(h:l.length=10):∃a b c d e f g i j k,l=[a,b,c,d,e,f,g,i,j,k]:=by
 match l,h with
 |[a,b,c,d,e,f,g,i,j,k],_=>exact⟨a,b,c,d,e,f,g,i,j,k,rfl⟩
section
variable {K:W.Frag}{D:Ends}{H:Hp}{o0 o1 o2 o3 o5 o6 o7:Option V}{u:V}{d:PyData}
theorem zek{bb:Bool}(hd:DD H u d)(ht:Tg 103 482 d)(k:∀o5 o6 o7 H', Same H H' -> D.nx [o0, o1, o2, o3, some u, o5, o6, o7] H') :
  (tIfS (tOr (tNot (tB (tCB (λxs H_1 Q=>∃x T t b,xs=[x,V.ty T]/\TyOf K H_1 x t/\W.kitOne K t (Value.type T)=some b/\Q (V.bl b) H_1) (tCons (tVar 6) (tCons (tC (V.ty "bool")) tNil))))) (tOr (tTest (tOp rNe (tVar 6) (tVar 7))) (tTest (tOp rNe (tCB (λxs H_1 Q=>∃x d_1,xs=[x]/\RD K H_1 x d_1/\d_1.showable=true/\Br d_1=true/\d_1.shown.length<=sizeLine/\Q (V.str d_1.shown) H_1) (tCons (tVar 4) tNil)) (tVar 5))))) (tRet (tC (V.bl false))) tNext) D [o0,o1,o2,o3,some u,some (.str d.shown),some (.bl bb),some (.bl bb)] H:=by
 refine⟨_,rfl,_,_,_,true,rfl,TyOf.bl _,rfl,_,rfl,?_⟩;refine ite2 (λhy=>absurd hy (by decide)) (λ_=>?_);refine⟨_,rfl,_,rfl,by cases bb <;> rfl,_,rfl,?_⟩;refine ite2 (λhy=>by simp at hy) (λ_=>?_);refine⟨_,rfl,u,d,rfl,hd.rd,ht.nc.sh,ht.nc.shaped (by decide),ht.nc.shown (by decide),_,rfl,rfl,_,rfl,?_⟩;refine ite2 (λhy=>by simp at hy) (λ_=>?_);exact k _ _ _ H (Same.refl _)
noncomputable def YesR(d:PyData):Prop:=∃r,d=rdD r/\Form r/\Good r
theorem zc4{bb:Bool}(hd:DD H u d)(ht:Tg 103 482 d)(hb:bb=true ↔ YesR d)(k:∀o5 o6 o7 H', Same H H' -> D.nx [o0, o1, o2, o3, some u, o5, o6, o7] H') :
  (tSeq (tAsg (tCall zeM [] E0 (tCons (tVar 4) tNil)) (gName 7)) (tSeq (tIfS (tB (tVar 7)) (tAsg (tOp (λx y H Q=>y=V.non/\Q (V.bl (decide (x=V.non))) H) (tCall zg7 [] E0 (tCons (tVar 4) tNil)) (tC V.non)) (gName 7)) tNext) (tIfS (tOr (tNot (tB (tCB (λxs H_1 Q=>∃x T t b,xs=[x,V.ty T]/\TyOf K H_1 x t/\W.kitOne K t (Value.type T)=some b/\Q (V.bl b) H_1) (tCons (tVar 6) (tCons (tC (V.ty "bool")) tNil))))) (tOr (tTest (tOp rNe (tVar 6) (tVar 7))) (tTest (tOp rNe (tCB (λxs H_1 Q=>∃x d_1,xs=[x]/\RD K H_1 x d_1/\d_1.showable=true/\Br d_1=true/\d_1.shown.length<=sizeLine/\Q (V.str d_1.shown) H_1) (tCons (tVar 4) tNil)) (tVar 5))))) (tRet (tC (V.bl false))) tNext))) D [o0,o1,o2,o3,some u,some (.str d.shown),some (.bl bb),o7] H:=by
 have hl:∀e∈kids d,lenN 490 e:=λe he=>(ht.kd e he).2.1.le (by decide)
 refine⟨_,rfl,u,d,rfl,hd,(λe he=>(hl e he).ok (by decide)),(λe he=>(ht.kd e he).1.shaped (by decide)),λH1 s1=>?_⟩;simp only[zaw,AH,AD];refine⟨_,rfl,_,rfl,?_⟩;refine ite2 (λhy=>?_) (λhn=>?_)
 .obtain⟨r,rfl,hF⟩:=zjy hl hy;refine⟨_,rfl,u,r,rfl,(hd.same s1).rnd,hF,λdu H2 s2 hdu=>⟨rfl,?_⟩⟩;simp only[zaw,AH,AD]
  have hbd:bb=decide (du=V.non):=by
   rcases hdu with⟨n,rfl,hD⟩ |⟨rfl,hG⟩
   .rw[decide_eq_false (λz=>nomatch z)];refine BX.mpr λz=>?_
    obtain⟨r',e,hF',hG⟩:=hb.mp z;rw[ziV e]at hD;exact hD.bad hG
   .rw[decide_eq_true rfl];exact hb.mpr ⟨r,rfl,hF,hG⟩
  rw[<- hbd];exact zek (hd.same (s1.trans s2)) ht λo5 o6 o7 H' s'=>k o5 o6 o7 H' (s1.trans (s2.trans s'))
 .have hf:formD d=false:=BX.mpr hn
  have hb0:bb=false:=BX.mpr λz=>by obtain⟨r,rfl,hF,_⟩:=hb.mp z;exact hn (zcY.mpr ⟨r,rfl,hF.1,hF.2.2⟩)
  rw[hf,hb0];exact zek (hd.same s1) ht λo5 o6 o7 H' s'=>k o5 o6 o7 H' (s1.trans s')
theorem zeK(hd:DD H u d)(ht:Tg 103 482 d)(k:∀o5 o6 o7 H', Same H H' -> D.nx [o0, o1, o2, o3, some u, o5, o6, o7] H') :
  (tSeq (tAsg (tCB (λxs H_1 Q=>∃x d_1,xs=[x]/\RD K H_1 x d_1/\d_1.showable=true/\Br d_1=true/\d_1.shown.length<=sizeLine/\Q (V.str d_1.shown) H_1) (tCons (tVar 4) tNil)) (gName 5)) (tSeq (tAsg (tCall ziE [] E0 (tCons (tVar 4) tNil)) (gName 6)) (tSeq (tAsg (tCall zeM [] E0 (tCons (tVar 4) tNil)) (gName 7)) (tSeq (tIfS (tB (tVar 7)) (tAsg (tOp (λx y H Q=>y=V.non/\Q (V.bl (decide (x=V.non))) H) (tCall zg7 [] E0 (tCons (tVar 4) tNil)) (tC V.non)) (gName 7)) tNext) (tIfS (tOr (tNot (tB (tCB (λxs H_1 Q=>∃x T t b,xs=[x,V.ty T]/\TyOf K H_1 x t/\W.kitOne K t (Value.type T)=some b/\Q (V.bl b) H_1) (tCons (tVar 6) (tCons (tC (V.ty "bool")) tNil))))) (tOr (tTest (tOp rNe (tVar 6) (tVar 7))) (tTest (tOp rNe (tCB (λxs H_1 Q=>∃x d_1,xs=[x]/\RD K H_1 x d_1/\d_1.showable=true/\Br d_1=true/\d_1.shown.length<=sizeLine/\Q (V.str d_1.shown) H_1) (tCons (tVar 4) tNil)) (tVar 5))))) (tRet (tC (V.bl false))) tNext))))) D [o0,o1,o2,o3,some u,o5,o6,o7] H:=by
 refine⟨_,rfl,u,d,rfl,hd.rd,ht.nc.sh,ht.nc.shaped (by decide),ht.nc.shown (by decide),?_⟩;simp only[zaw,AH,AD];have hl:∀e∈kids d,lenN 490 e:=λe he=>(ht.kd e he).2.1.le (by decide)
 refine⟨_,rfl,u,d,rfl,hd,hl,λH1 s1 hf=>?_,λr n H1 e hF hD s1=>?_,λr H1 e hF hG s1=>?_⟩
 .refine zc4 (bb:=false) (hd.same s1) ht ⟨λz=>(nomatch z),λ⟨r,e,hF,_⟩=>?_⟩ λo5 o6 o7 H' s'=>k o5 o6 o7 H' (s1.trans s')
  rw[zcY.mpr ⟨r,e,hF.1,hF.2.2⟩]at hf;exact hf.symm
 .refine zc4 (bb:=false) (hd.same s1) ht ⟨λz=>(nomatch z),λ⟨r',e',_,hG⟩=>?_⟩ λo5 o6 o7 H' s'=>k o5 o6 o7 H' (s1.trans s')
  rw[e]at e';rw[<- ziV e']at hG;exact absurd hG hD.bad
 .exact zc4 (bb:=true) (hd.same s1) ht ⟨λ_=>⟨r,e,hF,hG⟩,λ_=>rfl⟩ λo5 o6 o7 H' s'=>k o5 o6 o7 H' (s1.trans s')
end
noncomputable def spLaw(K:W.Frag)(L:Addr):Sp:=λvs H Q _=>∃(a:Addr) (ns:List Int),vs=[.ref a]/\SqL K H a (ns.map V.int)/\ns.length<=63/\LamT L H/\∀H',Q (.bl true) H'
theorem zmv {L:Addr}(T:Txt P w K mg) (g__law_cell_at:Fn P w K mg base 1 "_law_cell_at" ["_law_script", "_law_k"] (zeO K)) (g__law_row:Fn P w K mg base 1 "_law_row" ["_law_cell", "_law_many", "_law_base"] spRow) (g__law_picture:Fn P w K mg base 2 "_law_picture" ["_law_script", "_law_start"] (zkQ K))
  (g__law_traced:Fn P w K mg base 5 "_law_traced" ["_law_cells"] (zg6 K L)) (g__law_any:Fn P w K mg base 1 "_law_any" ["_law_one","_law_draws"] (spAny K)) (g__law_form:Fn P w K mg base 2 "_law_form" ["_law_thing"] zeM)
  (g__law_due:Fn P w K mg base 3 "_law_due" ["_law_one"] zg7) (g_is_round:Fn P w K mg base 7 "is_round" ["thing"] ziE)
  (d:Df K mg "law" s_law ["_law_script"]):FnOk P w K mg base CX0 8 d.f d.fd ["_law_script"] (spLaw K L):=by
 refine d.F.ok zcC (λvs H Q E h=>?_) (λcdv A outer s H vs Q E hr h=>?_)
 .obtain⟨a,ns,rfl,_⟩:=h;rfl
 .obtain⟨a,ns,rfl,hS,hnl,hlam,k⟩:=h;have hu1:=hu_of hr;have hu64:=hr.units;have hgd:=hr.gd;have hu70:(A.deeper (PyProof.Rows.envOfC (Aq "law") (zaf s_law) s.heap.objs.size d.f cdv)).units+70<cLine:=by have:=hr.un;lia
  refine⟨_,(zac (sE 1 zcC.nd (pe_op zfH (pC g__law_traced hr (zag (pC g__law_picture hr (pa_N (pv 0) (pa_C zad zab))) zab)) (zaL (pa_T (zao (pa_C zbN (pa_C zad (pa_C zad (pa_T (zao zab) zab))))) zab))))
   (zac (zca BF rfl (zbW (by rfl) T.nrange (pa_B (pe_op zaG zad (zan zap (by rfl) T.nlen (by rfl) (zag (za9 zdE (pv 0) (zbi zad) (zbi zad)) zab))) zab)) (nG 2 zcC.nd)
   (zac (sE 3 zcC.nd (pC g__law_row hr (zag (pC g__law_cell_at hr (pa_N (pv 0) (pa_B (pe_op zaG zad (pv 2)) zab))) (pa_C zad (pa_C zad zab)))))
   (zac (sE 4 zcC.nd (pC g__law_any hr (zag (pe_ix zaB (pv 1) (pe_op zau (pe_ix zaB (pv 3) zad (λ_ _=>rfl)) (zan zap (by rfl) T.nlen (by rfl) (pa_N (pv 1) zab))) (λ_ _=>rfl)) (zag (za9 zdE (pv 3) (zbi zad) (zbi zad)) zab))))
   (zac (ps_if (ziX (zbV (pC g__law_form hr (pa_N (pv 4) zab))) (zgu (zaq op_eq (pe_op zau (pe_ix zaB (pv 3) zad (λ_ _=>rfl)) zad) zad (zas _)))).pt
   (zah (sE 4 zcC.nd (pC g__law_any hr (pa_N (pv 4) (zag (za9 zdE (pv 3) (zbi zad) zbQ) zab)))))
   zaA)
   (zac (sE 5 zcC.nd (zan (zeC hgd hu70) (by rfl) T.nrepr (by rfl) (pa_N (pv 4) zab)))
   (zac (sE 6 zcC.nd (pC g_is_round hr (pa_N (pv 4) zab)))
   (zac (sE 7 zcC.nd (pC g__law_form hr (pa_N (pv 4) zab)))
   (zac (ps_if (zbV (pv 7))
   (zah (sE 7 zcC.nd (zbG zhn (pC g__law_due hr (pa_N (pv 4) zab)) zby (zas _))))
   zaA)
   (zah (ps_if (pw_or (zcS (zbV (zan zbk (by rfl) T.nisinstance (by rfl) (pa_N (pv 6) (pa_N (zbI (v:=.ty "bool") (by rfl) T.nbool (by rfl) rfl) zab))))) (pw_or (zaq op_ne (pv 6) (pv 7) (zas _)) (zdL (zaq op_ne (zan (zeC hgd hu70) (by rfl) T.nrepr (by rfl) (pa_N (pv 4) zab)) (pv 5) (zas _))))).pt
   (zah (zal pe_bl))
   zaA))))))))))
   (zah (zal pe_bl)))),?_⟩
  have hσ:L2.start N_law [.ref a]=[some (.ref a),none,none,none,none,none,none,none]:=rfl;rw[hσ];refine⟨_,rfl,a,ns,0,rfl,hS,λpc H1 cvs cs hpc s1 e1 hv1 hbf hcl hbx=>?_⟩;have hord:InOrd cs:=zmt hbf;obtain⟨bl,blo,⟨hbl,hblo⟩,hbx⟩:=hbx;have hcb:∀c∈cs,c.1.natAbs<2 ^ 101/\c.2.natAbs<2 ^ 101:=λc hc=>by have:=hbx c hc;lia
  refine⟨pc,cvs,cs,rfl,e1,hv1,hord,hcl,hlam.same s1,λpr H2 rv R R0 hpr b2 lam2 e2 hvr hpm _ hwh=>?_⟩;obtain⟨ESS,hcans⟩:=hwh.cans hpm
  have hRok:∀r∈R,Rok 101 480 r:=λr hr'=>by obtain⟨i,hi,rfl⟩:=AZ hr';obtain⟨es,_,hcan⟩:=hcans.so (Ab hi);exact zls hcan hcl hcb
  have hS2:SqL K H2 a (ns.map V.int):=b2.seq (hlam.same s1) (s1.seq hS);have hRl:R.length<=120:=by have:=hwh.few;rw[<- hpm.length_eq]at this;lia
  refine⟨A6 _,λt3 ht3=>?_⟩;have s3:=Same.up (o:=.tup []) ht3;have e3:upd H2 t3 (.tup []) t3=some (.tup (rowV [])):=zaa;generalize upd H2 t3 (.tup [])=H3 at s3 e3 ⊢;refine⟨(by show 4<=sizeLine;decide),λt4 ht4=>?_⟩;have s4:=Same.up (o:=.tup [.str (Aq "rim"),.int 0,.int 0,.ref t3]) ht4;have e4:upd H3 t4 (.tup [.str (Aq "rim"),.int 0,.int 0,.ref t3]) t4=some (.tup [.str (Aq "rim"),.int 0,.int 0,.ref t3]):=zaa;generalize upd H3 t4 (.tup [.str (Aq "rim"),.int 0,.int 0,.ref t3])=H4 at s4 e4 ⊢;refine⟨zdQ,λt5 ht5=>?_⟩;have s5:=Same.up (o:=.lst [.ref t4]) ht5;have e5:upd H4 t5 (.lst [.ref t4]) t5=some (.lst [.ref t4]):=zaa;generalize upd H4 t5 (.lst [.ref t4])=H5 at s5 e5 ⊢;have s25:=s3.trans (s4.trans s5);refine⟨pr,t5,_,_,rfl,rfl,s25 _ _ e2,e5,Bc (zak (by rw[hvr.1];simp;lia)),λt6 ht6=>?_⟩;have s6:=Same.up (o:=.lst (rv++[.ref t4])) ht6;have e6:upd H5 t6 (.lst (rv++[.ref t4])) t6=some (.lst (rv++[.ref t4])):=zaa;have s26:=s25.trans s6;have hv6:VR (rv++[.ref t4]) (R++[⟨"rim",0,0,[]⟩]) rR (upd H5 t6 (.lst (rv++[.ref t4]))):=VR.snoc hvr (λx v h=>rR.kt h (KT.of s26)) ⟨t4,t3,rfl,(s5.trans s6) _ _ e4,(s4.trans (s5.trans s6)) _ _ e3⟩;generalize upd H5 t6 (.lst (rv++[.ref t4]))=H6 at s6 e6 s26 hv6 ⊢
  have hRok':∀r∈R++[⟨"rim",0,0,[]⟩],Rok 101 480 r:=λr hr'=>by
   rcases Ap.mp hr' with z |z
   .exact hRok r z
   .rw[Ak.mp z];exact⟨⟨.inl rfl,λ_ h=>by cases h⟩,A6 _,by decide,by decide⟩
  have hvl:(rv++[V.ref t4]).length=R.length+1:=by rw[Af,hvr.1];rfl
  have hS6:=s26.seq hS2;generalize R++[⟨"rim",0,0,[]⟩]=R' at hv6 hRok';generalize rv++[V.ref t4]=rv' at e6 hv6 hvl ⊢;simp only[zaw,AH,AD];refine⟨_,rfl,_,rfl,_,rfl,a,_,rfl,hS6,λt7 ht7=>?_⟩;have s7:=Same.up (o:=.lst (cutV (ns.map V.int) (some 11) (some 26))) ht7;have e7:upd H6 t7 (.lst (cutV (ns.map V.int) (some 11) (some 26))) t7=some (.lst (cutV (ns.map V.int) (some 11) (some 26))):=zaa;have hcl7:=zcO (ns.map V.int) (some 11) (some 26);rw[Ai]at hcl7;generalize upd H6 t7 (.lst (cutV (ns.map V.int) (some 11) (some 26)))=H7 at s7 e7 ⊢;generalize cutV (ns.map V.int) (some 11) (some 26)=cut at e7 hcl7 ⊢;have hS7:=s7.seq hS6;have e67:=s7 _ _ e6;have hv7:=hv6.mono λx v h=>rR.kt h (KT.of s7)
  refine⟨t7,_,rfl,.inl (SqL.of e7),_,_,rfl,rfl,_,rfl,(by show -(2 ^ 62)<=(1:Int)+cut.length;lia),(by show (1:Int)+cut.length<2 ^ 62;lia),?_⟩;refine zbX (lo:=0) (λi σ H8=>∃o2 o3 o4 o5 o6 o7,σ=[some (.ref a),some (.ref t6),o2,o3,o4,o5,o6,o7]/\Same H7 H8) ⟨_,_,_,_,_,_,rfl,Same.refl _⟩ ?_ ?_
  .rintro i σ H8 hi ⟨o2,o3,o4,o5,o6,o7,rfl,s8⟩;simp only[zaw,AH,AD];refine⟨_,rfl,_,rfl,_,_,rfl,rfl,a,ns,11+i,(by rw[DE];rfl),(s7.trans s8).seq hS6,λcn=>⟨cn,5040,10,rfl,by decide,by decide,by decide,λdr H9 ms hdr s9 e9 hml hmb=>?_⟩⟩;obtain⟨n0,n1,n2,n3,n4,n5,n6,n7,n8,n9,rfl⟩:=zlN hml;have b0:=(hmb n0 (by simp)).1;have b2':=(hmb n2 (by simp)).1;have b3':=(hmb n3 (by simp)).1;have b4':=(hmb n4 (by simp)).1;have b5':=(hmb n5 (by simp)).1;have b6':=(hmb n6 (by simp)).1;have b7':=(hmb n7 (by simp)).1;have b8':=(hmb n8 (by simp)).1;have b9':=(hmb n9 (by simp)).1;clear hmb hml;simp only[zaw,AH,AD];have s79:=s8.trans s9;have e69:=s79 _ _ e67;have hv9:=hv7.mono λx v h=>rR.kt h (KT.of s79)
   obtain⟨u,hu,hmem⟩:=zgb (xs:=rv') (i:=n0) (k:=R.length+1) hvl (by lia);obtain⟨j,hj,ej⟩:=AZ hmem;have hjr:rv'[j]?=some u:=by rw[Ab hj,ej]
   obtain⟨r,hrj,hru⟩:=hv9.at hjr;have hr0:=hRok' r (Aw hrj);refine⟨_,rfl,_,rfl,dr,_,_,_,rfl,rfl,SqL.of e9,zaz (j:=0) rfl,_,rfl,t6,_,rfl,.inl (SqL.of e69),_,_,rfl,rfl,(by rw[hvl];show (0:Int)<((R.length+1:Nat):Int);lia),t6,_,_,_,rfl,rfl,SqL.of e69,(by rw[hvl];exact hu),?_⟩;refine⟨_,rfl,_,rfl,_,rfl,dr,_,rfl,SqL.of e9,λt10 ht10=>?_⟩;have s10:=Same.up (o:=.lst [.int n2,.int n3,.int n4,.int n5]) ht10;have e10:upd H9 t10 (.lst [.int n2,.int n3,.int n4,.int n5]) t10=some (.lst [.int n2,.int n3,.int n4,.int n5]):=zaa;have hcut:cutV ([n0,n1,n2,n3,n4,n5,n6,n7,n8,n9].map V.int) (some 2) (some 6)=[.int n2,.int n3,.int n4,.int n5]:=rfl;rw[hcut];generalize upd H9 t10 (.lst [.int n2,.int n3,.int n4,.int n5])=H10 at s10 e10 ⊢;refine⟨u,r,t10,n2,n3,n4,n5,101,480,rfl,rR.kt hru (KT.of s10),hr0,by decide,by decide,by decide,by decide,e10,b2',b3',b4',b5',λu1 d1 H11 s11 hd1 ht1=>?_⟩;have s711:=s79.trans (s10.trans s11);have e9b:=(s10.trans s11) _ _ e9;simp only[zaw,AH,AD];refine⟨_,rfl,u1,d1,rfl,hd1,(λe he=>(ht1.kd e he).2.1.ok (by decide)),(λe he=>(ht1.kd e he).1.shaped (by decide)),λH12 s12=>⟨_,rfl,?_⟩⟩;have s712:=s711.trans s12;refine ite2 (λhy=>?_) (λhn=>?_)
   .refine⟨_,rfl,dr,_,_,_,rfl,rfl,SqL.of (s12 _ _ e9b),zaz (j:=1) rfl,_,_,rfl,rfl,(by show (0:Int)<2;decide),rfl,_,rfl,?_⟩;refine ite2 (λh1=>?_) (λh1=>?_)
    .obtain⟨r1,rfl,hr1⟩:=ht1.rok hy;refine⟨_,rfl,_,rfl,_,rfl,dr,_,rfl,SqL.of (s12 _ _ e9b),λt13 ht13=>?_⟩;have s13:=Same.up (o:=.lst [.int n6,.int n7,.int n8,.int n9]) ht13;have e13:upd H12 t13 (.lst [.int n6,.int n7,.int n8,.int n9]) t13=some (.lst [.int n6,.int n7,.int n8,.int n9]):=zaa;have hcut2:cutV ([n0,n1,n2,n3,n4,n5,n6,n7,n8,n9].map V.int) (some 6) none=[.int n6,.int n7,.int n8,.int n9]:=rfl;rw[hcut2];generalize upd H12 t13 (.lst [.int n6,.int n7,.int n8,.int n9])=H13 at s13 e13 ⊢;refine⟨u1,r1,t13,n6,n7,n8,n9,102,481,rfl,(hd1.same (s12.trans s13)).rnd,hr1,by decide,by decide,by decide,by decide,e13,b6',b7',b8',b9',λu2 d2 H14 s14 hd2 ht2=>?_⟩;simp only[zaw,AH,AD];refine zeK (K:=K) hd2 ht2 λo5 o6 o7 H15 s15=>?_
     exact⟨_,_,_,_,_,_,rfl,s712.trans (s13.trans (s14.trans s15))⟩
    .refine zeK (K:=K) (hd1.same s12) (ht1.le (by decide) (by decide)) λo5 o6 o7 H15 s15=>?_
     exact⟨_,_,_,_,_,_,rfl,s712.trans s15⟩
   .refine zeK (K:=K) (hd1.same s12) (ht1.le (by decide) (by decide)) λo5 o6 o7 H15 s15=>?_
    exact⟨_,_,_,_,_,_,rfl,s712.trans s15⟩
  .rintro σ H8 ⟨o2,o3,o4,o5,o6,o7,rfl,s8⟩;exact k H8
end
theorem all_mk {L0:Addr}{l:W.OpenLaw}{w:A5}{K:W.Frag}{h:Heap}{mg:Str -> Option Value}{fa:Addr}(X:K.In h) (G:h.Ns AL mg) (hfa:mg "law" = some (.ref fa)){fx34 fx41:Addr}{od34 an34 od41 an41:Option Addr}{sl34 sl41:Array (Option Value)}{oc34 kV34 dc34 pm34 ct34 oc41 kV41 dc41 pm41 ct41 cd41:Value}{cc0:Addr}{hd0:Option Addr}{hv0:Array Value}{hs0:Array (Option Value)}
  (h0:DA K "cell_order" zck)
  (h1:DA K "gone" ziQ)
  (h2:DA K "gap_beside" zci)
  (h3:DA K "straight_step" zbE)
  (h4:DA K "slant_step" zch)
  (h5:DA K "is_slant" zc7)
  (h6:DA K "edge_behind" zb1)
  (h7:DA K "lefts_and_slants" zaO)
  (h8:DA K "lefts_less_slants" zbd)
  (h9:DA K "begin_of" zcw)
  (h10:DA K "begin_edge" zcl)
  (h11:DA K "way_for" zdH)
  (h12:DA K "deeds_along" zb2)
  (h13:DA K "walk_by" zdJ)
  (h14:DA K "walk_along" zcg)
  (h15:DA K "seen_between" zbO)
  (h16:DA K "gainsaid_at" zb0)
  (h17:DA K "comes_back" zcj)
  (h18:DA K "is_closed" zcH)
  (h19:DA K "walk_of" zdI)
  (h20:DA K "ask_round" zcI)
  (h21:DA K "is_whole" zc6)
  (h22:DA K "is_row" zdu)
  (h23:DA K "has_form" zda)
  (h24:DA K "is_round" zc8)
  (h25:DA K "_law_cell_at" zbP)
  (h26:DA K "_law_row" zdc)
  (h27:DA K "_law_picture" zbs)
  (h28:DA K "_law_gone" zcJ)
  (h29:DA K "_law_lot" zdd)
  (h30:DA K "_law_behind" zb4)
  (h31:DA K "_law_edges" zbM)
  (h32:DA K "_law_walked" zb3)
  (h33:DA K "_law_told" zbp)
  (a34:Ch K AL "_law_traced" = some (some (.ref fx34))) (l34:K.lookup fx34=some ⟨oc34,od34,.func (Du "_law_traced" "_law_traced" (za7 zaT) (zaF zaT) (zaf zaT) .none kV34 dc34 pm34 an34 (.ref cc0) ct34),sl34⟩) (c34:W.codeIn K (.ref cc0) "_law_traced" = true) (k34:C5 K (.ref fx34)=true)
  (lc0:K.lookup cc0=some ⟨.type "code",hd0,.fields hv0,hs0⟩) (lh0:hdOk hv0 cc0 L0=true)
  (h35:DA K "_law_see" zdb)
  (h36:DA K "_law_stood" zcn)
  (h37:DA K "_law_due" zbU)
  (h38:DA K "_law_whole" zcm)
  (h39:DA K "_law_any" zaR)
  (h40:DA K "_law_form" zbF)
  (a41:Ch K AL "law" = some (some (.ref fx41))) (l41:K.lookup fx41=some ⟨oc41,od41,.func (Du "law" "law" (za7 s_law) (zaF s_law) (zaf s_law) .none kV41 dc41 pm41 an41 cd41 ct41),sl41⟩) (c41:W.codeIn K cd41 "law" = true) (k41:C5 K (.ref fx41)=true)
  {M m0 m1 m2 m3 m4 m5 m6 m7:Addr}{odM:Option Addr}{nM:Nat}{slM:Array (Option Value)}
  (aM:Ch K AL "MOVES" = some (some (.ref M))) (lM:K.lookup M=some ⟨.type "tuple",odM,.seq #[.ref m0,.ref m1,.ref m2,.ref m3,.ref m4,.ref m5,.ref m6,.ref m7] nM,slM⟩)
  {odm0:Option Addr}{nm0:Nat}{slm0:Array (Option Value)}{tm0 um0:Tok} (x0:K.lookup m0=some ⟨.type "tuple",odm0,.seq #[.int (1) tm0,.int (0) um0] nm0,slm0⟩)
  {odm1:Option Addr}{nm1:Nat}{slm1:Array (Option Value)}{tm1 um1:Tok} (x1:K.lookup m1=some ⟨.type "tuple",odm1,.seq #[.int (1) tm1,.int (1) um1] nm1,slm1⟩)
  {odm2:Option Addr}{nm2:Nat}{slm2:Array (Option Value)}{tm2 um2:Tok} (x2:K.lookup m2=some ⟨.type "tuple",odm2,.seq #[.int (0) tm2,.int (1) um2] nm2,slm2⟩)
  {odm3:Option Addr}{nm3:Nat}{slm3:Array (Option Value)}{tm3 um3:Tok} (x3:K.lookup m3=some ⟨.type "tuple",odm3,.seq #[.int (-1) tm3,.int (1) um3] nm3,slm3⟩)
  {odm4:Option Addr}{nm4:Nat}{slm4:Array (Option Value)}{tm4 um4:Tok} (x4:K.lookup m4=some ⟨.type "tuple",odm4,.seq #[.int (-1) tm4,.int (0) um4] nm4,slm4⟩)
  {odm5:Option Addr}{nm5:Nat}{slm5:Array (Option Value)}{tm5 um5:Tok} (x5:K.lookup m5=some ⟨.type "tuple",odm5,.seq #[.int (-1) tm5,.int (-1) um5] nm5,slm5⟩)
  {odm6:Option Addr}{nm6:Nat}{slm6:Array (Option Value)}{tm6 um6:Tok} (x6:K.lookup m6=some ⟨.type "tuple",odm6,.seq #[.int (0) tm6,.int (-1) um6] nm6,slm6⟩)
  {odm7:Option Addr}{nm7:Nat}{slm7:Array (Option Value)}{tm7 um7:Tok} (x7:K.lookup m7=some ⟨.type "tuple",odm7,.seq #[.int (1) tm7,.int (-1) um7] nm7,slm7⟩)
  {B:Addr}{t1 t2 t3 t4:Tok}{nB:Nat} (aB:Ch K AL "BEGIN_WAYS" = some (some (.ref B))) (lB:K.lookup B=some ⟨.type "dict",none,.dict #[⟨BM w.params "rim",.str "rim" t1,.int 0 t2⟩,⟨BM w.params "hole",.str "hole" t3,.int 2 t4⟩] nB,#[]⟩)
  (sB:(B == PySem.sysModules)=false)
  {B2:Addr}{u1 u2 u3 u4:Tok}{nB2:Nat} (aB2:Ch K AL "MORE_LEFTS" = some (some (.ref B2))) (lB2:K.lookup B2=some ⟨.type "dict",none,.dict #[⟨BM w.params "rim",.str "rim" u1,.int 4 u2⟩,⟨BM w.params "hole",.str "hole" u3,.int (-4) u4⟩] nB2,#[]⟩)
  {cN fI:Addr}{odI anI odC:Option Addr}{slI slC:Array (Option Value)}{ocI kVI dcI pmI cdI ctI:Value}{clC:ClassData} (xNR:Ch K AL "NoRound" = some (some (.ref cN)))
  (xLC:K.lookup cN=some ⟨.type "type",odC,.cls clC,slC⟩) (xIN:Ch K clC.ns "__init__" = some (some (.ref fI))) (xLF:K.lookup fI=some ⟨ocI,odI,.func (Du "__init__" "NoRound.__init__" (za7 zc9) (zaF zc9) (zaf zc9) .none kVI dcI pmI anI cdI ctI),slI⟩)
  (xCI:W.codeIn K cdI "NoRound.__init__" = true) (xKI:C5 K (.ref fI)=true) (xMX:zhF K cN [.type "ValueError",.type "Exception",.type "BaseException",.type "object"] "ValueError.__new__" fI=true) (xFN:W.isFn K (.ref fI)=true) (xKC:C5 K (.ref cN)=true)
  (xS1:(W.clsIn K cN).any (λcd=>cd.hasDict && overX bmV cd.mro)=true) (xS3:CG K (.ref cN) "__setattr__" = some (some (.builtin "object.__setattr__"))) (xNA:CG K (.ref cN) "at" = some none) (xS2:W.mroIn K cN (.type "object")=some true) (xXT:W.exmOne K (.ref cN) (.ref cN)=some true)
  (z_ValueError:Ch K AL "ValueError" = some none)
  (z_repr:Ch K AL "repr" = some none)
  (z_range:Ch K AL "range" = some none)
  (z_len:Ch K AL "len" = some none)
  (z_min:Ch K AL "min" = some none)
  (z_sorted:Ch K AL "sorted" = some none)
  (z_tuple:Ch K AL "tuple" = some none)
  (z_int:Ch K AL "int" = some none)
  (z_bool:Ch K AL "bool" = some none)
  (z_str:Ch K AL "str" = some none)
  (z_all:Ch K AL "all" = some none)
  (z_isinstance:Ch K AL "isinstance" = some none)
  (z_list:Ch K AL "list" = some none)
  (z_sum:Ch K AL "sum" = some none)
  (z_enumerate:Ch K AL "enumerate" = some none)
  (z_zip:Ch K AL "zip" = some none)
  (z_max:Ch K AL "max" = some none) :
  ∃fd:BC,(∀(s:Ac) (v:Value),BindsTo s fd ⟨[v],[]⟩ [("_law_script",v)])/\(∀P∈[L0],∃c,Dd K c P=true)/\∀base:Heap,K.In base->base.Ns AL mg->Bm mg base->FnOk l.prog w K mg base CX0 8 fa fd ["_law_script"] (spLaw K L0):=by
 have e:=hfa.symm.trans (DU X G a41)
 cases e
 have moves:∃M,mg "MOVES" = some (.ref M)/\∀H,∃ms:List Addr,SqT K H M (ms.map V.ref)/\ms.length=8/\∀(i:Nat) a,ms[i]?=some a->SqT K H a [.int (mv i).1,.int (mv i).2]:=by
  refine⟨M,DU X G aM,λH=>⟨[m0,m1,m2,m3,m4,m5,m6,m7],.inr ⟨_,_,_,lM,rfl,rfl,(by show 8<=sizeLine;decide),.cons rfl (.cons rfl (.cons rfl (.cons rfl (.cons rfl (.cons rfl (.cons rfl (.cons rfl .nil)))))))⟩,rfl,λi a e=>?_⟩⟩
  match i,e with
  | 0,e=>cases e;exact .inr ⟨_,_,_,x0,rfl,rfl,(by show 2<=sizeLine;decide),.cons ⟨_,rfl⟩ (.cons ⟨_,rfl⟩ .nil)⟩
  | 1,e=>cases e;exact .inr ⟨_,_,_,x1,rfl,rfl,(by show 2<=sizeLine;decide),.cons ⟨_,rfl⟩ (.cons ⟨_,rfl⟩ .nil)⟩
  | 2,e=>cases e;exact .inr ⟨_,_,_,x2,rfl,rfl,(by show 2<=sizeLine;decide),.cons ⟨_,rfl⟩ (.cons ⟨_,rfl⟩ .nil)⟩
  | 3,e=>cases e;exact .inr ⟨_,_,_,x3,rfl,rfl,(by show 2<=sizeLine;decide),.cons ⟨_,rfl⟩ (.cons ⟨_,rfl⟩ .nil)⟩
  | 4,e=>cases e;exact .inr ⟨_,_,_,x4,rfl,rfl,(by show 2<=sizeLine;decide),.cons ⟨_,rfl⟩ (.cons ⟨_,rfl⟩ .nil)⟩
  | 5,e=>cases e;exact .inr ⟨_,_,_,x5,rfl,rfl,(by show 2<=sizeLine;decide),.cons ⟨_,rfl⟩ (.cons ⟨_,rfl⟩ .nil)⟩
  | 6,e=>cases e;exact .inr ⟨_,_,_,x6,rfl,rfl,(by show 2<=sizeLine;decide),.cons ⟨_,rfl⟩ (.cons ⟨_,rfl⟩ .nil)⟩
  | 7,e=>cases e;exact .inr ⟨_,_,_,x7,rfl,rfl,(by show 2<=sizeLine;decide),.cons ⟨_,rfl⟩ (.cons ⟨_,rfl⟩ .nil)⟩
  |i+8,e=>exact absurd (Ad.mp e).1 (by simp)
 have ways:Ways l.prog w K mg:=⟨⟨B,t1,t2,t3,t4,nB,DU X G aB,lB⟩⟩;have T:Txt l.prog w K mg:={ moves:=moves,ways:=ways,nsys:=λ_ e=>by cases (DU X G aB).symm.trans e;exact sB,more:=⟨⟨B2,u1,u2,u3,u4,nB2,DU X G aB2,lB2⟩⟩,nValueError:=BL X G z_ValueError,nrepr:=BL X G z_repr,nrange:=BL X G z_range,nlen:=BL X G z_len,nmin:=BL X G z_min,nsorted:=BL X G z_sorted,ntuple:=BL X G z_tuple,nint:=BL X G z_int,nbool:=BL X G z_bool,nstr:=BL X G z_str,nall:=BL X G z_all,nisinstance:=BL X G z_isinstance,nlist:=BL X G z_list,nsum:=BL X G z_sum,nenumerate:=BL X G z_enumerate,nzip:=BL X G z_zip,nmax:=BL X G z_max };obtain⟨d'0⟩:=h0.d1 X G (p0:="cell");obtain⟨d'1⟩:=h1.d3 X G (p0:="x") (p1:="y") (p2:="step");obtain⟨d'2⟩:=h2.d1 X G (p0:="edge");obtain⟨d'3⟩:=h3.d1 X G (p0:="way");obtain⟨d'4⟩:=h4.d1 X G (p0:="way");obtain⟨d'5⟩:=h5.d1 X G (p0:="step");obtain⟨d'6⟩:=h6.d2 X G (p0:="edge") (p1:="step");obtain⟨d'7⟩:=h7.d1 X G (p0:="walk");obtain⟨d'8⟩:=h8.d1 X G (p0:="walk");obtain⟨d'9⟩:=h9.d2 X G (p0:="walk") (p1:="sort");obtain⟨d'a⟩:=h10.d1 X G (p0:="one");obtain⟨d'b⟩:=h11.d1 X G (p0:="step");obtain⟨d'c⟩:=h12.d2 X G (p0:="begin_way") (p1:="row");obtain⟨d'd⟩:=h13.d2 X G (p0:="begin") (p1:="deeds");obtain⟨d'e⟩:=h14.d2 X G (p0:="begin") (p1:="row");obtain⟨d'f⟩:=h15.d2 X G (p0:="edge") (p1:="step");obtain⟨d'10⟩:=h16.d1 X G (p0:="walk");obtain⟨d'11⟩:=h17.d1 X G (p0:="walk");obtain⟨d'12⟩:=h18.d2 X G (p0:="walk") (p1:="sort");obtain⟨d'13⟩:=h19.d1 X G (p0:="one");obtain⟨d'14⟩:=h20.d1 X G (p0:="one");obtain⟨d'15⟩:=h21.d1 X G (p0:="thing");obtain⟨d'16⟩:=h22.d1 X G (p0:="thing");obtain⟨d'17⟩:=h23.d1 X G (p0:="thing");obtain⟨d'18⟩:=h24.d1 X G (p0:="thing");obtain⟨d'19⟩:=h25.d2 X G (p0:="_law_script") (p1:="_law_k");obtain⟨d'1a⟩:=h26.d3 X G (p0:="_law_cell") (p1:="_law_many") (p2:="_law_base");obtain⟨d'1b⟩:=h27.d2 X G (p0:="_law_script") (p1:="_law_start");obtain⟨d'1c⟩:=h28.d3 X G (p0:="_law_x") (p1:="_law_y") (p2:="_law_step");obtain⟨d'1d⟩:=h29.d1 X G (p0:="_law_cells");obtain⟨d'1e⟩:=h30.d2 X G (p0:="_law_there") (p1:="_law_edge");obtain⟨d'1f⟩:=h31.d1 X G (p0:="_law_there");obtain⟨d'20⟩:=h32.d2 X G (p0:="_law_there") (p1:="_law_first");obtain⟨d'21⟩:=h33.d2 X G (p0:="_law_edges_here") (p1:="_law_steps");have F34:=zcX (st:=zaT) l34 c34 k34;have b34:=F34.b1 (p0:="_law_cells");obtain⟨d'22,hc_0⟩:∃d:Df K mg "_law_traced" zaT ["_law_cells"],d.fd.code=.ref cc0:=⟨⟨fx34,_,F34,DU X G a34,b34⟩,rfl⟩;obtain⟨d'23⟩:=h35.d3 X G (p0:="_law_seen") (p1:="_law_cell") (p2:="_law_told_here");obtain⟨d'24⟩:=h36.d2 X G (p0:="_law_seen") (p1:="_law_edge");obtain⟨d'25⟩:=h37.d1 X G (p0:="_law_one");obtain⟨d'26⟩:=h38.d1 X G (p0:="_law_found");obtain⟨d'27⟩:=h39.d2 X G (p0:="_law_one") (p1:="_law_draws");obtain⟨d'28⟩:=h40.d1 X G (p0:="_law_thing");have F41:=zcX (st:=s_law) l41 c41 k41;have b41:=F41.b1 (p0:="_law_script");have hh_0:Dd K cc0 L0=true:=hd_of lc0 lh0;refine⟨Du "law" "law" (za7 s_law) (zaF s_law) (zaf s_law) .none kV41 dc41 pm41 an41 cd41 ct41,λs v=>.of_eq rfl,List.forall_mem_cons.mpr ⟨⟨cc0,hh_0⟩,λ_ z=>nomatch z⟩,λbase _ _ hB=>?_⟩;have fn:∀{k:Nat}{x:Str}{s:Stmt}{ps:List Str}{sp:Sp} (d:Df K mg x s ps),FnOk l.prog w K mg base CX0 k d.f d.fd ps sp->Fn l.prog w K mg base k x ps sp:=λd h=>d.fn h
 have hFI:=zcX (st:=zc9) xLF xCI xKI;have g'29:=fn d'0 (ze6 d'0);have g'2a:=fn d'1 (zlB T d'1);have g'2b:=fn d'3 (zdq d'3);have g'2c:=fn d'4 (zeZ d'4);have g'2d:=fn d'5 (zgC d'5);have g'2e:=fn d'2 (ze5 g'2a d'2);have g'2f:=fn d'6 (zec g'2a g'2d d'6);have g'30:=fn d'7 (zcL T g'2d d'7);have g'31:=fn d'8 (zcB g'30 d'8);have g'32:=fn d'9 (zgE T g'29 d'9);have g'33:=fn d'a (ze7 T d'a);have g'34:=fn d'b (zhW d'b);have g'35:=fn d'c (zed g'34 d'c);have g'36:=fn d'd (zhX g'2f d'd);have g'37:=fn d'e (zeY g'36 g'35 d'e);have g'38:=fn d'f (zdr g'2f g'2e g'2d g'2a g'2c g'2b d'f);have g'39:=fn d'10 (zdR g'38 d'10);have g'3a:=fn d'11 (zee g'2f d'11);have g'3b:=fn d'12 (ze4 T g'3a g'31 d'12);have g'3c:=(ExA.mk (base:=base) fI _ _ _ _ _ _ PySem.F.excBase_ValueError ⟨xMX,xFN,xKC⟩ (zke hFI ⟨xS1,xS2,xS3⟩ xNA) (hFI.b2 (p0:="self") (p1:="at")) (DU X G xNR) (by decide):ExA l.prog w K mg base "NoRound" cN ["at"]);have g'3d:=d'13.fnX (zgw T g'3c g'33 g'37 g'39 g'3b g'32 d'13);have g'3e:=d'14.fnX (ze8 g'3d d'14);have g'3f:=fn d'15 (zgB T d'15);have g'40:=fn d'16 (zi9 T g'3f d'16);have g'41:=fn d'17 (zgD T g'3f g'40 d'17);have g'42:=fn d'18 (zfK (DU X G xNR) xXT g'41 g'3e d'18);have g'43:=fn d'19 (zeb T d'19);have g'44:=fn d'1a (zhZ T d'1a);have g'45:=fn d'1b (zea T g'43 g'44 d'1b);have g'46:=fn d'1c (zgy d'1c);have g'47:=fn d'1d (zh0 d'1d);have g'48:=fn d'1e (ze3 g'46 d'1e);have g'49:=fn d'20 (ze1 g'48 d'20);have g'4a:=fn d'1f (zfJ T g'46 d'1f);have g'4b:=fn d'21 (zgx T d'21);have g'4c:=fn d'22 (ze2 T hB hh_0 g'47 g'4a g'49 g'4b d'22 hc_0);have g'4d:=fn d'23 (zhY d'23);have g'4e:=fn d'24 (zfI g'4d g'46 d'24);have g'4f:=fn d'25 (zgA T g'4d g'46 g'4e d'25);have g'50:=fn d'26 (ze0 T d'26);have g'51:=fn d'27 (zh1 T d'27);have g'52:=fn d'28 (zgz T g'50 d'28);exact zmv T g'43 g'44 g'45 g'4c g'51 g'52 g'4f g'42 ⟨_,_,F41,DU X G a41,b41⟩
theorem walk{L0:Addr}{l:W.OpenLaw}{q:AF}{loose:List Str}{XP:(Str -> Option Value) -> Heap -> Prop}{YP:A5 -> Heap -> Prop}{d:DefRec}{K:Params -> W.Frag}(hn:l.most=some 63)(hdf:d.params.defaults = [])
  (hY:∀(w:A5) (h:Heap),YP w h->(K w.params).In h/\(∀P∈[L0],h.get? P=some (W.tabObj #[]))/\∀P∈[L0],(K w.params).lookup P=none)
  (F:∀(w:A5) (mg:Str->Option Value) (fa:Addr) (h:Heap),(K w.params).In h->h.Ns AL mg->mg d.name=some (.ref fa) ->
   ∃fd:BC,(∀(s:Ac) (u:Value),BindsTo s fd ⟨[u],[]⟩ [("_law_script",u)])/\(∀P∈[L0],∃c,Dd (K w.params) c P=true)/\∀base:Heap,(K w.params).In base->base.Ns AL mg->Bm mg base->FnOk l.prog w (K w.params) mg base CX0 8 fa fd ["_law_script"] (spLaw (K w.params) L0)) :
  W.WalkO q loose XP YP l.row.toRowW d [] (λf vs=>PySem.call f vs) :=
 L2.walk_ofL (n:=63) (k:=8) (x:="_law_script") (CX:=λ_=>CX0) (sp:=λw=>spLaw (K w.params) L0) (ts:=[L0]) hn (by decide) hdf ⟨rfl,by decide,by decide,rfl⟩ hY F (λ_ _ a ns hl hT hS=>⟨a,ns,rfl,hS,hl,⟨#[],hT L0 (by simp),.inl rfl⟩,λ_=>rfl⟩) λ_ _ _ _ _ z=>z
end RR
namespace PySem.W.Fast
noncomputable def tw3749432809323206957:=()
noncomputable def tw7071414102610290410:=()
noncomputable def tw10669939371644475123:=()
noncomputable def tw1312432097490069530:=()
noncomputable def tw4268075018836603764:=()
noncomputable def tw11668026357231463201:=()
noncomputable def tw9905978006199319364:=()
noncomputable def tw9819197311647819019:=()
noncomputable def tw9132285393896566492:=()
noncomputable def tw8963868925045633653:=()
noncomputable def tw10107383299544628164:=()
noncomputable def tw8263227982752976508:=()
noncomputable def tw9931448101533740713:=()
noncomputable def tw217226910586266811:=()
noncomputable def tw3360163986616755245:=()
noncomputable def tw14317673604904151414:=()
noncomputable def tw9312008793807668240:=()
noncomputable def tw6649596554995983350:=()
noncomputable def tw8137071064753798403:=()
noncomputable def tw15983808383850637303:=()
noncomputable def tw10972994920924400076:=()
noncomputable def tw17590488732379959061:=()
noncomputable def tw13517748939822053042:=()
noncomputable def tw4750713017948369857:=()
noncomputable def tw7819378812490102608:=()
noncomputable def tw10689246608132849482:=()
noncomputable def tw12840537925756913159:=()
noncomputable def tw8722394209853280250:=()
noncomputable def tw17673569307615438729:=()
noncomputable def tw10442743859778939044:=()
noncomputable def tw18198140598266166849:=()
noncomputable def tw3137421281803876819:=()
noncomputable def tw5520159135137228929:=()
noncomputable def tw16864183853020850252:=()
noncomputable def tw6506713312202025952:=()
noncomputable def tw917190516897135260:=()
noncomputable def tw15295803402492404470:=()
noncomputable def tw17599535763901893256:=()
noncomputable def tw7239520276941411585:=()
noncomputable def tw13629467338530170353:=()
noncomputable def tw5299569287727256220:=()
noncomputable def tw5795741075580795661:=()
noncomputable def tw3518698953843678367:=()
noncomputable def tw1019654946051839155:=()
noncomputable def tw6302584706508596143:=()
noncomputable def tw11681636430796443105:=()
noncomputable def tw1648346417863642943:=()
noncomputable def tw18260382274084879650:=()
noncomputable def tw1031054252616134653:=()
noncomputable def tw14357342108984009751:=()
noncomputable def tw11544049654701115202:=()
noncomputable def tw4697498886434941138:=()
noncomputable def tw17295768633866067947:=()
noncomputable def tw5821129696311974456:=()
noncomputable def tw7684377853535005904:=()
noncomputable def tw7810410090799658497:=()
noncomputable def tw7313057879174885289:=()
noncomputable def tw6486079019554316903:=()
noncomputable def tw5139979038552019203:=()
noncomputable def tw5999589148145497817:=()
noncomputable def tw10875383262036154342:=()
noncomputable def tw6362107999094130726:=()
noncomputable def tw11589368340156844016:=()
noncomputable def tw870573735572218218:=()
noncomputable def tw9850659479779464359:=()
noncomputable def tw4486329105539726025:=()
noncomputable def tw5500666883030320113:=()
noncomputable def tw14352405680959445147:=()
noncomputable def tw8657342707871765455:=()
noncomputable def tw4406884596704964744:=()
noncomputable def tw2391530043653967093:=()
noncomputable def tw4103512254587184971:=()
noncomputable def tw5407375539728863097:=()
noncomputable def tw1086781198504560524:=()
noncomputable def tw9054595347125402324:=()
noncomputable def tw13230271784490373225:=()
noncomputable def tw9102283211203997264:=()
noncomputable def tw10775553054603202099:=()
noncomputable def tw6189956598754731399:=()
noncomputable def tw14953653224354154464:=()
noncomputable def tw18126241647551615778:=()
noncomputable def tw10972400619041692519:=()
noncomputable def tw10166781211219283561:=()
noncomputable def tw3863472292520937586:=()
noncomputable def tw8796173586736483779:=()
noncomputable def tw529145627955731709:=()
noncomputable def tw2550668410338380435:=()
noncomputable def tw375995739639011112:=()
noncomputable def tw3096598832054899689:=()
noncomputable def tw983921652525179614:=()
noncomputable def tw3789551778630209827:=()
noncomputable def tw16540015118461167298:=()
noncomputable def tw14442822095672119551:=()
noncomputable def tw6846152243430500289:=()
noncomputable def tw10537771552695541759:=()
noncomputable def tw11864293555381905026:=()
noncomputable def tw4923789700534521656:=()
noncomputable def tw12216897295819450236:=()
noncomputable def tw86029884426147627:=()
noncomputable def tw4908212895826483484:=()
noncomputable def tw4684278711570134110:=()
noncomputable def tw2872461852631361593:=()
noncomputable def tw12680857914733127257:=()
noncomputable def tw11988943603914802576:=()
noncomputable def tw11486317376388210584:=()
noncomputable def tw1947398596845941223:=()
noncomputable def tw7032207226183926202:=()
noncomputable def tw16252194089793254477:=()
noncomputable def tw2826144891124629840:=()
noncomputable def tw6428240964389329081:=()
noncomputable def tw1724966951336344657:=()
noncomputable def tw12987236267297399021:=()
noncomputable def tw52050166792314808:=()
noncomputable def tw17736855814847736673:=()
noncomputable def tw10704132033819963059:=()
noncomputable def tw18064301503546072383:=()
noncomputable def tw3685357276271708833:=()
noncomputable def tw3553030507961897432:=()
noncomputable def tw18280696784449059224:=()
noncomputable def tw11796383563101734366:=()
noncomputable def tw1531858255683275415:=()
noncomputable def tw9133499777741493891:=()
noncomputable def tw11705613243978221280:=()
noncomputable def tw7279705495042489421:=()
noncomputable def tw11904917947123373972:=()
noncomputable def tw10318929641889827627:=()
noncomputable def tw3716565206038760357:=()
noncomputable def tw1093577816645894154:=()
noncomputable def tw3681098751547197080:=()
noncomputable def tw13901072094709923617:=()
noncomputable def tw5927445917295205107:=()
noncomputable def tw18020850551454007701:=()
noncomputable def tw2004600743192071370:=()
noncomputable def tw11155282741375628361:=()
noncomputable def tw821068900270251143:=()
noncomputable def tw17659171475876503956:=()
noncomputable def tw3657235536318400167:=()
noncomputable def tw3105205887179785121:=()
noncomputable def tw16380385631282856999:=()
noncomputable def tw2357067174983581690:=()
noncomputable def tw16269468499340341504:=()
noncomputable def tw7834311181046496626:=()
noncomputable def tw8817888532477160677:=()
noncomputable def tw14750710878994180778:=()
noncomputable def tw4715192856942008834:=()
noncomputable def tw9353314869803113371:=()
noncomputable def tw15836711539540968538:=()
noncomputable def tw3407584631368629485:=()
noncomputable def tw7482326090698270434:=()
noncomputable def tw18049317217990396401:=()
noncomputable def tw16122819791675975508:=()
noncomputable def tw16871091102753564987:=()
noncomputable def tw15365342906446473758:=()
noncomputable def tw11916792132017765806:=()
noncomputable def tw12048548339867709530:=()
noncomputable def tw340936542564852140:=()
noncomputable def tw2954638934358933784:=()
noncomputable def tw9694458232003024288:=()
noncomputable def tw17277366238285166673:=()
noncomputable def tw7481984927928021724:=()
noncomputable def tw10164790393530957471:=()
noncomputable def tw7988870837140476350:=()
noncomputable def tw15957535511284377100:=()
noncomputable def tw8901102862341139617:=()
noncomputable def tw18004415518143878460:=()
noncomputable def tw14980858708534006690:=()
noncomputable def tw9770750130452161190:=()
noncomputable def tw14135321971439747961:=()
noncomputable def tw6978402481420750992:=()
noncomputable def tw17464276172996924091:=()
noncomputable def tw11204254575861821608:=()
noncomputable def tw1586531146009923738:=()
noncomputable def tw10124160758996919728:=()
noncomputable def tw10774369134009010584:=()
noncomputable def tw1518796858094067338:=()
noncomputable def tw12330732349347176544:=()
noncomputable def tw1062445589473653815:=()
noncomputable def tw13219964668306537359:=()
noncomputable def tw4955016202323871952:=()
noncomputable def tw12484786699345971674:=()
noncomputable def tw9073679076508336679:=()
noncomputable def tw9622702932140932887:=()
noncomputable def tw18272312076434087954:=()
noncomputable def tw17203980186611211250:=()
noncomputable def tw6218475587525433939:=()
noncomputable def tw9246854958177803395:=()
noncomputable def tw1910754937485395486:=()
noncomputable def tw8455123557771039938:=()
noncomputable def tw3912158082286460648:=()
noncomputable def tw3782635504576067916:=()
noncomputable def tw11864441498007095830:=()
noncomputable def tw13270896055540102224:=()
noncomputable def tw16935686934405842941:=()
noncomputable def tw6173259601091003977:=()
noncomputable def tw17897030343656715867:=()
noncomputable def tw15844026686526730931:=()
noncomputable def tw13426049734677460478:=()
noncomputable def tw2169005500766948621:=()
noncomputable def tw5514556180355794920:=()
noncomputable def tw12979917000869564119:=()
noncomputable def tw11251809710016040320:=()
noncomputable def tw17218510887197496018:=()
noncomputable def tw15398289194921009668:=()
noncomputable def tw1794936412057679876:=()
noncomputable def tw11197759546737354799:=()
noncomputable def tw14578636989398845006:=()
noncomputable def tw13561097403175174075:=()
noncomputable def tw11842731594384369126:=()
noncomputable def tw2688469431234489824:=()
noncomputable def tw15569752939094962168:=()
noncomputable def tw10661754637061488081:=()
noncomputable def tw16690080337515494564:=()
noncomputable def tw928968073165744151:=()
noncomputable def tw12322612160522744483:=()
noncomputable def tw2330999226438383227:=()
noncomputable def tw6477242373821853183:=()
noncomputable def tw9825453726651077710:=()
noncomputable def tw14544352594855950380:=()
noncomputable def tw523145033378453516:=()
noncomputable def tw7537202525235383546:=()
noncomputable def tw8270512822051105774:=()
noncomputable def tw11529951814913245916:=()
noncomputable def tw8053750643384396669:=()
noncomputable def tw2373579026505978746:=()
end PySem.W.Fast
open PySem PySem.W PyProof.Rows
set_option maxRecDepth 100000 in
set_option maxHeartbeats 0 in
theorem PySem.Challenge.cw_rimsteps_k10_any_thing_as_a_round_holds : PySem.Challenge.rw_rimsteps_k10_any_thing_as_a_round.Holds := by
 w_on;o_law;k_head;(case hw=>w_witness2)
 k_fill
 refine RR.walk (l:=PySem.Challenge.rw_rimsteps_k10_any_thing_as_a_round) rfl rfl (L2.km_all (by decide)) ?F
 case F =>
  intro w mg fa h KX G hmg
  refine' RR.all_mk KX G hmg (.mk ?a0 ?l0 ?c0 ?k0) (.mk ?a1 ?l1 ?c1 ?k1) (.mk ?a2 ?l2 ?c2 ?k2) (.mk ?a3 ?l3 ?c3 ?k3) (.mk ?a4 ?l4 ?c4 ?k4) (.mk ?a5 ?l5 ?c5 ?k5) (.mk ?a6 ?l6 ?c6 ?k6) (.mk ?a7 ?l7 ?c7 ?k7) (.mk ?a8 ?l8 ?c8 ?k8) (.mk ?a9 ?l9 ?c9 ?k9) (.mk ?a10 ?l10 ?c10 ?k10) (.mk ?a11 ?l11 ?c11 ?k11) (.mk ?a12 ?l12 ?c12 ?k12) (.mk ?a13 ?l13 ?c13 ?k13) (.mk ?a14 ?l14 ?c14 ?k14) (.mk ?a15 ?l15 ?c15 ?k15) (.mk ?a16 ?l16 ?c16 ?k16) (.mk ?a17 ?l17 ?c17 ?k17) (.mk ?a18 ?l18 ?c18 ?k18) (.mk ?a19 ?l19 ?c19 ?k19) (.mk ?a20 ?l20 ?c20 ?k20) (.mk ?a21 ?l21 ?c21 ?k21) (.mk ?a22 ?l22 ?c22 ?k22) (.mk ?a23 ?l23 ?c23 ?k23) (.mk ?a24 ?l24 ?c24 ?k24) (.mk ?a25 ?l25 ?c25 ?k25) (.mk ?a26 ?l26 ?c26 ?k26) (.mk ?a27 ?l27 ?c27 ?k27) (.mk ?a28 ?l28 ?c28 ?k28) (.mk ?a29 ?l29 ?c29 ?k29) (.mk ?a30 ?l30 ?c30 ?k30) (.mk ?a31 ?l31 ?c31 ?k31) (.mk ?a32 ?l32 ?c32 ?k32) (.mk ?a33 ?l33 ?c33 ?k33) ?a34 ?l34 ?c34 ?k34 ?lc0 ?lh0 (.mk ?a35 ?l35 ?c35 ?k35) (.mk ?a36 ?l36 ?c36 ?k36) (.mk ?a37 ?l37 ?c37 ?k37) (.mk ?a38 ?l38 ?c38 ?k38) (.mk ?a39 ?l39 ?c39 ?k39) (.mk ?a40 ?l40 ?c40 ?k40) ?a41 ?l41 ?c41 ?k41 ?aM ?lM ?x0 ?x1 ?x2 ?x3 ?x4 ?x5 ?x6 ?x7 ?aB ?lB ?sB ?aB2 ?lB2 ?xNR ?xLC ?xIN ?xLF ?xCI ?xKI ?xMX ?xFN ?xKC ?xS1 ?xS3 ?xNA ?xS2 ?xXT ?z_ValueError ?z_repr ?z_range ?z_len ?z_min ?z_sorted ?z_tuple ?z_int ?z_bool ?z_str ?z_all ?z_isinstance ?z_list ?z_sum ?z_enumerate ?z_zip ?z_max
  (case a0=>k_is)
  (case l0=>k_is)
  (case c0=>k_is)
  (case k0=>k_is)
  (case a1=>k_is)
  (case l1=>k_is)
  (case c1=>k_is)
  (case k1=>k_is)
  (case a2=>k_is)
  (case l2=>k_is)
  (case c2=>k_is)
  (case k2=>k_is)
  (case a3=>k_is)
  (case l3=>k_is)
  (case c3=>k_is)
  (case k3=>k_is)
  (case a4=>k_is)
  (case l4=>k_is)
  (case c4=>k_is)
  (case k4=>k_is)
  (case a5=>k_is)
  (case l5=>k_is)
  (case c5=>k_is)
  (case k5=>k_is)
  (case a6=>k_is)
  (case l6=>k_is)
  (case c6=>k_is)
  (case k6=>k_is)
  (case a7=>k_is)
  (case l7=>k_is)
  (case c7=>k_is)
  (case k7=>k_is)
  (case a8=>k_is)
  (case l8=>k_is)
  (case c8=>k_is)
  (case k8=>k_is)
  (case a9=>k_is)
  (case l9=>k_is)
  (case c9=>k_is)
  (case k9=>k_is)
  (case a10=>k_is)
  (case l10=>k_is)
  (case c10=>k_is)
  (case k10=>k_is)
  (case a11=>k_is)
  (case l11=>k_is)
  (case c11=>k_is)
  (case k11=>k_is)
  (case a12=>k_is)
  (case l12=>k_is)
  (case c12=>k_is)
  (case k12=>k_is)
  (case a13=>k_is)
  (case l13=>k_is)
  (case c13=>k_is)
  (case k13=>k_is)
  (case a14=>k_is)
  (case l14=>k_is)
  (case c14=>k_is)
  (case k14=>k_is)
  (case a15=>k_is)
  (case l15=>k_is)
  (case c15=>k_is)
  (case k15=>k_is)
  (case a16=>k_is)
  (case l16=>k_is)
  (case c16=>k_is)
  (case k16=>k_is)
  (case a17=>k_is)
  (case l17=>k_is)
  (case c17=>k_is)
  (case k17=>k_is)
  (case a18=>k_is)
  (case l18=>k_is)
  (case c18=>k_is)
  (case k18=>k_is)
  (case a19=>k_is)
  (case l19=>k_is)
  (case c19=>k_is)
  (case k19=>k_is)
  (case a20=>k_is)
  (case l20=>k_is)
  (case c20=>k_is)
  (case k20=>k_is)
  (case a21=>k_is)
  (case l21=>k_is)
  (case c21=>k_is)
  (case k21=>k_is)
  (case a22=>k_is)
  (case l22=>k_is)
  (case c22=>k_is)
  (case k22=>k_is)
  (case a23=>k_is)
  (case l23=>k_is)
  (case c23=>k_is)
  (case k23=>k_is)
  (case a24=>k_is)
  (case l24=>k_is)
  (case c24=>k_is)
  (case k24=>k_is)
  (case a25=>k_is)
  (case l25=>k_is)
  (case c25=>k_is)
  (case k25=>k_is)
  (case a26=>k_is)
  (case l26=>k_is)
  (case c26=>k_is)
  (case k26=>k_is)
  (case a27=>k_is)
  (case l27=>k_is)
  (case c27=>k_is)
  (case k27=>k_is)
  (case a28=>k_is)
  (case l28=>k_is)
  (case c28=>k_is)
  (case k28=>k_is)
  (case a29=>k_is)
  (case l29=>k_is)
  (case c29=>k_is)
  (case k29=>k_is)
  (case a30=>k_is)
  (case l30=>k_is)
  (case c30=>k_is)
  (case k30=>k_is)
  (case a31=>k_is)
  (case l31=>k_is)
  (case c31=>k_is)
  (case k31=>k_is)
  (case a32=>k_is)
  (case l32=>k_is)
  (case c32=>k_is)
  (case k32=>k_is)
  (case a33=>k_is)
  (case l33=>k_is)
  (case c33=>k_is)
  (case k33=>k_is)
  (case a34=>k_is)
  (case l34=>k_is)
  (case c34=>k_is)
  (case k34=>k_is)
  (case lc0=>k_is)
  (case lh0=>exact rfl)
  (case a35=>k_is)
  (case l35=>k_is)
  (case c35=>k_is)
  (case k35=>k_is)
  (case a36=>k_is)
  (case l36=>k_is)
  (case c36=>k_is)
  (case k36=>k_is)
  (case a37=>k_is)
  (case l37=>k_is)
  (case c37=>k_is)
  (case k37=>k_is)
  (case a38=>k_is)
  (case l38=>k_is)
  (case c38=>k_is)
  (case k38=>k_is)
  (case a39=>k_is)
  (case l39=>k_is)
  (case c39=>k_is)
  (case k39=>k_is)
  (case a40=>k_is)
  (case l40=>k_is)
  (case c40=>k_is)
  (case k40=>k_is)
  (case a41=>k_is)
  (case l41=>k_is)
  (case c41=>k_is)
  (case k41=>k_is)
  (case aM=>k_is)
  (case lM=>k_is)
  (case x0=>k_is)
  (case x1=>k_is)
  (case x2=>k_is)
  (case x3=>k_is)
  (case x4=>k_is)
  (case x5=>k_is)
  (case x6=>k_is)
  (case x7=>k_is)
  (case aB=>k_is)
  (case lB=>k_is)
  (case sB=>exact rfl)
  (case aB2=>k_is)
  (case lB2=>k_is)
  (case xNR=>k_is)
  (case xLC=>k_is)
  (case xIN=>k_is)
  (case xLF=>k_is)
  (case xCI=>k_is)
  (case xKI=>k_is)
  (case xMX=>with_unfolding_all exact rfl)
  (case xFN=>exact rfl)
  (case xKC=>k_is)
  (case xS1=>exact rfl)
  (case xS3=>k_is)
  (case xNA=>k_is)
  (case xS2=>k_is)
  (case xXT=>exact rfl)
  (case z_ValueError=>k_is)
  (case z_repr=>k_is)
  (case z_range=>k_is)
  (case z_len=>k_is)
  (case z_min=>k_is)
  (case z_sorted=>k_is)
  (case z_tuple=>k_is)
  (case z_int=>k_is)
  (case z_bool=>k_is)
  (case z_str=>k_is)
  (case z_all=>k_is)
  (case z_isinstance=>k_is)
  (case z_list=>k_is)
  (case z_sum=>k_is)
  (case z_enumerate=>k_is)
  (case z_zip=>k_is)
  (case z_max=>k_is)

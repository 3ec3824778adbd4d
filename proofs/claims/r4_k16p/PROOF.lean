import PyProof.Rows.All
import Wide.All
import OpenK.AllK
import Wide.FinOn
import Lean
import PyProof.EqAt
import PyProof.EqKinds
import PyProof.TupleCall
import PySem.Challenge.RW_rimsteps_k16_one_in_another
set_option Elab.async false
set_option linter.all false
set_option maxRecDepth 100000
open List renaming getElem?_eq_getElem → Aa,getElem?_eq_some_iff → Ad,length_map → Ag,mem_of_getElem? → Aj,length_append → Ak,mem_append_right → Am,size_toArray → An,mem_singleton → Ap,replicate → As,mem_cons_of_mem → At,getElem_of_mem → Au,mem_cons → Aw,mem_map → Ay,getElem?_map → Az,map_append → AA,mem_cons_self → AC,getElem?_append_left → AE,range → AG,getElem?_append_right → AQ,getD_eq_getElem?_getD → AS,map_cons → AT,take_length → AV,mem_append → AW,length_filter_le → AY,append_nil → A0,length_cons → A3,length_take → A6,getElem_mem → A7,set_cons_succ → Ba,set_cons_zero → Bb,lookup_cons → Be,length_singleton → Bf,length_range → Bp,flatten_cons → Bt,getElem?_eq_none → Bw,mem_range → BB,sum_cons → BD,filter_append → BU,nodup_cons → B9,length_replicate → Cf,filterMap_map → Ch,mem_flatten → Cj,mem_append_left → Ck,replicate_succ → Cs,find?_cons → CC,nodup_append → CF,getElem?_inj → CG,getElem?_cons_succ → CS,length_pos_of_mem → CW,mem_filter → CZ,length_nil → C3,range_succ → C7,map_drop → Dc,map_take → Dd,append_assoc → Di,take_succ → Dt,getElem?_range → DB,flatten_append → DC,sum_append → DL,mem_flatMap → DT,eq_nil_iff_forall_not_mem → DU,pairwise_append → DV
open PySem renaming wpAny_bind → Ab,Value → Ac,Shared → Ae,wpAny_pure → Ah,wpAny → Ao,model → Ax,mainGlobals → AF,Program → AH,Around → AJ,wpAny_holding → A1,World → A4,starEach → A8,wpAny_tryCatch → Bi,wpAny_mono → Bs,Spec → Bx,wpAny_newObj_type → By,FuncData → BC,mem_of_lookup → BE,plainId_quiet → BK,wpAny_truthy_bool → BP,wpAny_Call_Name_kw → BR,compareOp → BV,keywordEach → BW,sysModules → B3,codeAny_builtin → Ca,wpAny_updateSeq → Cb,wpAny_letGo → Cc,wpAny_seqItems → Cn,wpAny_typeNameOfWhole_keyiter → Co,assignEach → Cp,wpAny_passesOwn → CB,codeAny_mono → CD,rawInt → CI,bindArgs → CM,backToKw → CN,wpAny_callSpecial?_slot → CO,codeAny → CU,tupleKind_room_in1 → CV,wpAny_loadPart' → C4,wpAny_pyIter_list → Dg,binaryOp → Dl,wpAny_call_entry → Du,pyNext → Dy,backTo → DM,tupleKind → DO,sliceBounds → DR,seqItems? → DS
open PySem.Heap renaming get?_push_of_some → Af,get?_push_size → Aq,lt_size → Av,SameBut → Cu
open Nat renaming le_refl → Ai,lt_of_lt_of_le → AB,ne_of_lt → AI,le_trans → AO,lt_or_ge → AX,zero_le → AZ,le_of_lt → Bj,mod_lt → BA,lt_irrefl → BY,ne_of_gt → B4,le_succ → Cd,lt_of_le_of_lt → DN
open PySem.Value renaming ref → Ar,none → BI,int → CA
open PySem.F renaming plainAttrs_list → AD,slot_list_append → AL,type_list_append → AM,plain_min_loop → AU,plain_max_loop → BN,slot_dict_keyiterator_next → BS,entry_min_loop → B7,slot_dict_setdefault → Cr,args_dict_keyiterator_next_1 → Dz,entry_dict_keyiterator_next → DF,slot_list_extend → DG,type_list_extend → DH,plainAttrs_dict → DQ
open PyProof.Rows renaming arrOf → AK,seqObj → Bg,wpS_bind → Bo,slot_tuple_getitem → Bv,getElem?_mirror_all → BF,callWith_type1 → BH,wpS_pure → BO,SortSt → Ce,SortKind → Ct,failedOf → C5,pendingOf → Db,wpS_forRange → Dv,get?_update_seq → DK
open Bool renaming false_ne_true → AN,and_eq_true → A9,false_eq_true → Bu,eq_iff_iff → DI
open PySem.Obj renaming mapSeq → AR
open PySem.PassesOwn renaming never → A5
open Option.some renaming inj → Bc
open PySem.Str renaming ofString → Bd
open Classical renaming byContradiction → Bh
open False renaming elim → Bk
open PySem.Builtin.Builtins renaming bindParams → Bl
open Option renaming map_eq_some_iff → Bn,map_some → C1
open PySem.NameKind renaming free → Bq,cell → Da
open PySem.Heap.SameBut renaming update → Br
open PySem.Around renaming under_plainId → Bz
open Int renaming le_refl → BG,emod_lt_of_pos → Cy,zero_add → CH,emod_nonneg → C6,toNat_natCast → Dj
open PySem.PyData renaming keyHash → BJ,depth → BM,canLayAll0 → B5,canLay0 → B6,depthAll → Cq,int → Dp,eqv → Dq,eqvAll → DE
open PySem.SeqAt renaming shaped → BL
open PySem.Calls renaming spliced_cons → BQ,callWith_builtin → Cv,spliced_nil → Dh,evalArgs_plain → Do
open Ne renaming symm → BX
open Lean renaming maxHeartbeats → BZ
open PySem.W renaming mg_none_of → B8,codeHdIn → Ci,nsIn → CY,kia_one → C9,fnOf → Dm,kas_item → Ds,kla_obj → Dw,keepIn → DD
open True renaming intro → Cg
open Prod renaming ext → Cm
open MonadExcept renaming tryCatch → Cw
open PySem.Builtin.Slice renaming slicePlaces → Cz,sliceAdjust → Dx
open PySem.Builtin.Tuple renaming tupleExact → CJ
open PySem.Builtin.List renaming listTooLong → CK
open Array renaming length_toList → CL,getElem?_toList → De
open Or renaming inr → CP
open ToString renaming toString → CQ
open Sum renaming inl → CT
open PySem.Paired renaming length → C8
open Sum.inl renaming inj → Dk
open PySem.Walks renaming list → Dr
open ForInStep renaming yield → DJ
open PySem.Builtin.Range renaming rangeSize → DP
namespace L2
open PySem PySem.Spec PyProof.Rows
noncomputable abbrev Key:=Sum Int Str
noncomputable def keyIs:Key->Ac->Bool
 |.inl k,v=>Value.isInt k v
 |.inr x,v=>Value.isStrOf x v
noncomputable def keyH(w:A4):Key->Int
 |.inl k=>hashInt k
 |.inr x=>hashStr w x
theorem zaQ:∀{k:Key}{v:Ac},keyIs k v=true->(∃i t,k=CT i/\v=CA i t)∨(∃x t,k=Sum.inr x/\v=Value.str x t)
 |.inl i,v,h=>by
  obtain⟨t,e⟩:=Value.isInt_shape (k:=i) (v:=v) h;exact .inl ⟨i,t,rfl,e⟩
 |.inr x,v,h=>by
  obtain⟨t,e⟩:=Value.isStrOf_shape (x:=x) (v:=v) h;exact .inr ⟨x,t,rfl,e⟩
theorem ziU(i:Int)(t:Tok):keyIs (.inl i) (.int i t)=true:=by simp[keyIs,Value.isInt]
theorem ziT(x:Str)(t:Tok):keyIs (.inr x) (.str x t)=true:=by simp[keyIs,Value.isStrOf]
theorem zlS(a b:Int):decide ((CT a:Key)=CT b)=(a == b):=by
 by_cases e:a=b
 .subst e;simp
 .have h:¬ (CT a:Key)=CT b:=λq=>e (Dk q)
  rw[decide_eq_false h];exact (beq_eq_false_iff_ne.mpr e).symm
theorem zlP(a b:Str):decide ((Sum.inr a:Key)=Sum.inr b)=decide (a=b):=by
 by_cases e:a=b
 .subst e;simp
 .have h:¬ (Sum.inr a:Key)=Sum.inr b:=λq=>e (Sum.inr.inj q)
  rw[decide_eq_false h,decide_eq_false e]
theorem zlR(a:Int)(b:Str):decide ((CT a:Key)=Sum.inr b)=false:=decide_eq_false (λq=>nomatch q)
theorem zlQ(a:Str)(b:Int):decide ((Sum.inr a:Key)=CT b)=false:=decide_eq_false (λq=>nomatch q)
noncomputable def zaz(prog:AH)(w:A4):PySem.KeyKind prog w Key where
 is:=keyIs
 hash:=keyH w
 inj:=λv a b ha hb=>by
  rcases zaQ ha with⟨i,t,rfl,rfl⟩ |⟨x,t,rfl,rfl⟩
  .rcases zaQ hb with⟨j,u,rfl,e⟩ |⟨y,u,rfl,e⟩
   .injection e with e1 _;rw[e1]
   .exact nomatch e
  .rcases zaQ hb with⟨j,u,rfl,e⟩ |⟨y,u,rfl,e⟩
   .exact nomatch e
   .injection e with e1 _;rw[e1]
 byValue:=λk v h=>by rcases zaQ h with⟨i,t,rfl,rfl⟩ |⟨x,t,rfl,rfl⟩ <;> rfl
 pyHash:=λhv h=>by
  rcases zaQ hv with⟨i,t,rfl,rfl⟩ |⟨x,t,rfl,rfl⟩
  .exact wpAny_pyHash_int h
  .exact wpAny_pyHash_str h
 eqBool:=λhu hv h=>by
  rcases zaQ hu with⟨i,t,rfl,rfl⟩ |⟨x,t,rfl,rfl⟩
  .rcases zaQ hv with⟨j,u,rfl,rfl⟩ |⟨y,u,rfl,rfl⟩
   .rw[zlS]at h;exact wpAny_eqBool_int h
   .rw[zlR]at h;exact SeqAt.EqAt.int_str i t y u _ _ _ _ h
  .rcases zaQ hv with⟨j,u,rfl,rfl⟩ |⟨y,u,rfl,rfl⟩
   .rw[zlQ]at h;exact SeqAt.EqAt.str_int x t j u _ _ _ _ h
   .rw[zlP]at h;exact wpAny_eqBool_str h
 «strs»:=λk x t v h=>by
  rcases zaQ h with⟨i,u,rfl,e⟩ |⟨y,u,rfl,e⟩
  .exact nomatch e
  .injection e with e1 _;subst e1
   cases v <;> rfl
theorem zgr(prog:AH)(w:A4)(i:Int)(t:Tok):(zaz prog w).is (.inl i) (.int i t)=true:=ziU i t
theorem zbB(prog:AH)(w:A4)(x:Str)(t:Tok):(zaz prog w).is (.inr x) (.str x t)=true:=ziT x t
inductive V where
 |non |bl (b:Bool) |int (i:Int) |str (x:Str) |byt (b:Array UInt8) |flt (b:UInt64) |ref (a:Addr) |ty (n:String)
 deriving DecidableEq
noncomputable def RelV:V->Ac->Prop
 |.non,u=>u=BI
 |.bl b,u=>u=Value.bool b
 |.int i,u=>∃t,u=CA i t
 |.str x,u=>∃t,u=Value.str x t
 |.byt b,u=>∃t,u=Value.bytes b t
 |.flt b,u=>∃t,u=Value.float b t
 |.ref a,u=>u=Ar a
 |.ty n,u=>u=Value.type n
noncomputable abbrev Vals:List V->List Ac->Prop:=Paired RelV
theorem Vals.length{xs:List V}{us:List Ac}(r:Vals xs us):xs.length=us.length:=C8 r
theorem Vals.get:∀{xs:List V}{us:List Ac}{i:Nat}{x:V},Vals xs us->xs[i]?=some x->∃u,us[i]?=some u/\RelV x u
 |_,_,_,_,.nil,e=>by simp at e
 |_,_,0,_,.cons r _,e=>by simp at e;subst e;exact⟨_,rfl,r⟩
 |_,_,i+1,x,.cons _ t,e=>by
  obtain⟨u,h1,h2⟩:=Vals.get (i:=i) (x:=x) t (by simpa using e);exact⟨u,by simpa using h1,h2⟩
theorem Vals.append:∀{xs ys:List V}{us ws:List Ac},Vals xs us->Vals ys ws->Vals (xs++ys) (us++ws)
 |_,_,_,_,.nil,s=>s
 |_,_,_,_,.cons r t,s=>.cons r (Vals.append t s)
theorem Vals.take:∀{xs:List V}{us:List Ac}(n:Nat),Vals xs us->Vals (xs.take n) (us.take n)
 |_,_,0,_=>.nil
 |_,_,_+1,.nil=>.nil
 |_,_,n+1,.cons r t=>.cons r (Vals.take n t)
theorem Vals.drop:∀{xs:List V}{us:List Ac}(n:Nat),Vals xs us->Vals (xs.drop n) (us.drop n)
 |_,_,0,r=>r
 |_,_,_+1,.nil=>.nil
 |_,_,n+1,.cons _ t=>Vals.drop n t
noncomputable def RelO:Option V->Option Ac->Prop
 |some v,some u=>RelV v u
 |none,none=>True
 |_,_=>False
noncomputable def KV{κ:Type}:List (κ×V)->List (κ×Ac)->Prop:=Paired λ(p:κ×V) (q:κ×Ac)=>p.1=q.1/\RelV p.2 q.2
noncomputable def kV:Key->V
 |.inl i=>.int i
 |.inr x=>.str x
inductive HO where
 /-- a list -/
 |lst (xs:List V)
 /-- a tuple (never changes) -/
 |tup (xs:List V)
 /-- a dict whose keys are ints and texts;one whose keys are tuples of ints and texts (the empty one is both) -/
 |dK (kvs:List (Key×V)) |dT (kvs:List (List Key×V))
 /-- a set of ints: its members,its size -/
 |set (S:Int->Bool) (n:Nat)
 /-- an instance of the class at C,its dict at dx,its attributes -/
 |ins (C dx:Addr) (fs:List (Str×V))
 /-- the dict of the instance at x -/
 |own (x:Addr)
 /-- the dict of an exception -/
 |xd (fs:List (Str×V))
 /-- a bound method,f of x -/
 |met (f x:Addr)
 /-- a range object lo,lo+1,.. below hi -/
 |rng (lo hi:Int)
 /-- a thing that is known to the object (the script;a dict while a loop walks it): read,never written while it is so -/
 |frz (o:Obj) (u:HO)
 /-- a code object's table -/
 |tbl (ps:Array Ac)
 /-- any other thing,by what is true of its one object (a def of one's own: SetO a S n:=HO.ext λh=>..) -/
 |ext (φ:Heap->Prop)
noncomputable abbrev Hp:=Addr->Option HO
noncomputable def upd(H:Hp)(a:Addr)(o:HO):Hp:=λb=>if b=a then some o else H b
theorem zaa{H:Hp}{a:Addr}{o:HO}:upd H a o a=some o:=by unfold upd;rw[if_pos rfl]
theorem zag{H:Hp}{a b:Addr}{o:HO}(h:b≠a):upd H a o b=H b:=by unfold upd;rw[if_neg h]
theorem zkC{H:Hp}{a:Addr}{o u:HO}:upd (upd H a o) a u=upd H a u:=by
 funext b;unfold upd;split <;> rfl
theorem ne_of{H:Hp}{a b:Addr}{o u:HO}(h:H a=some o)(h':H b=some u)(d:o≠u):a≠b:=by intro e;subst e;rw[h]at h';exact d (Bc h')
theorem zaj{H:Hp}{a b:Addr}{o:HO}(h:H a=some o)(h':H b=none):a≠b:=by intro e;subst e;rw[h]at h';cases h'
section
variable (P:AH) (w:A4)
noncomputable def ObjOk(H:Hp)(h:Heap)(a:Addr):HO->Prop
  |.lst xs=>xs.length<=sizeLine/\∃(its:List Ac) (n:Nat),Vals xs its/\h.get? a=some { cls:=.type "list",data:=.seq its.toArray n }
  |.tup xs=>xs.length<=sizeLine/\∃its:List Ac,Vals xs its/\IsTup h a its.toArray
  |.dK kvs=>kvs.length<=sizeLine/\(a == B3)=false/\∃vs,KV kvs vs/\h.DictOf (zaz P w) a vs
  |.dT kvs => kvs.length <= sizeLine /\ (a == B3)=false /\ ∃xs:List (List Key × Addr × Ac),
      Paired (λ(p:List Key×V) (q:List Key×Addr×Ac)=>p.1=q.1/\H q.2.1=some (.tup (p.1.map kV))/\RelV p.2 q.2.2) kvs xs /\
      ∃o es ep,h.get? a=some o/\o.ExactDict/\o.data=.dict es ep/\es.toList=xs.map (entryOfKey (DO (zaz P w)))/\(xs.map (·.1)).Nodup
  |.set S n=>h.SetOf (intKind P w) a S n
  |.ins C dx fs => H dx=some (.own a) /\ fs.length <= 1000 /\ dx ≠ a /\ h.get? a=some (W.instObj C dx) /\
      ∃mA,h.Ns1 dx mA/\(∀f,RelO (fs.lookup f) (mA f))/\PySem.Within mA (fs.map (·.1))
  |.own _=>∃o,h.get? a=some o
  |.xd fs=>∃mA,h.Ns1 a mA/\∀f,RelO (fs.lookup f) (mA f)
  |.rng lo hi=>∃t u v,h.get? a=some { cls:=.type "range",data:=.fields #[.int lo t,.int hi u,.int 1 v] }
  |.frz o u=>h.get? a=some o/\ObjOk H h a u
  |.tbl ps=>h.get? a=some { cls:=.none,data:=.fields ps }
  |.met f x=>h.get? a=some (W.methodObj (.ref f) (.ref x))
  |.ext φ=>φ h/\(∃o,h.get? a=some o)/\∀h1 h2:Heap,φ h1->(∀o,h1.get? a=some o->h2.get? a=some o)->φ h2
noncomputable def HOk(H:Hp)(h:Heap):Prop:=∀a o,H a=some o->ObjOk P w H h a o
end
section
variable {P:AH}{w:A4}{H H':Hp}{h h':Heap}{a:Addr}{o:HO}
theorem ObjOk.lt(x:ObjOk P w H h a o):a<h.objs.size:=by
 cases o with
 |lst xs=>obtain⟨_,_,_,_,e⟩:=x;exact Av e
 |tup xs=>obtain⟨_,_,_,p⟩:=x;exact p.lt
 |dK kvs=>obtain⟨_,_,_,_,o,_,_,e,_⟩:=x;exact Av e
 |dT kvs=>obtain⟨_,_,_,_,o,_,_,e,_⟩:=x;exact Av e
 |set S n=>obtain⟨o,_,_,_,e,_⟩:=x;exact Av e
 |ins C dx fs=>obtain⟨_,_,_,e,_⟩:=x;exact Av e
 |own y=>obtain⟨_,e⟩:=x;exact Av e
 |xd fs=>obtain⟨_,⟨_,_,_,e,_⟩,_⟩:=x;exact Av e
 |rng lo hi=>obtain⟨_,_,_,e⟩:=x;exact Av e
 |frz ob u=>obtain⟨e,_⟩:=x;exact Av e
 |tbl ps=>exact Av (show h.get? a=some _ from x)
 |met f y=>exact Av (show h.get? a=some _ from x)
 |ext φ=>obtain⟨_,⟨_,e⟩,_⟩:=x;exact Av e
theorem Paired.mapP{α β:Type}{F G:α->β->Prop}:∀{l₁:List α}{l₂:List β},Paired F l₁ l₂->(∀a b,F a b->G a b)->Paired G l₁ l₂
 |_,_,.nil,_=>.nil
 |_,_,.cons r t,f=>.cons (f _ _ r) (Paired.mapP t f)
theorem ObjOk.stay(x:ObjOk P w H h a o)(k:∀b u, (b=a ∨ H b=some (.own a)) -> h.get? b=some u -> h'.get? b=some u)
  (ho:∀b,H b=some (.own a)->H' b=some (.own a)) (ht:∀b xs,H b=some (.tup xs)->H' b=some (.tup xs)):ObjOk P w H' h' a o:=by
 induction o with
 |lst xs=>obtain⟨z,its,n,r,e⟩:=x;exact⟨z,its,n,r,k _ _ (.inl rfl) e⟩
 |tup xs=>obtain⟨z,its,r,ob,e,c⟩:=x;exact⟨z,its,r,ob,k _ _ (.inl rfl) e,c⟩
 |dK kvs=>obtain⟨z,y,vs,r,ob,es,ep,e,c⟩:=x;exact⟨z,y,vs,r,ob,es,ep,k _ _ (.inl rfl) e,c⟩
 |dT kvs =>
  obtain⟨z,y,xs,r,ob,es,ep,e,c⟩:=x;exact⟨z,y,xs,Paired.mapP r λp q z=>⟨z.1,ht _ _ z.2.1,z.2.2⟩,ob,es,ep,k _ _ (.inl rfl) e,c⟩
 |set S n=>obtain⟨ob,es,ep,t,e,c⟩:=x;exact⟨ob,es,ep,t,k _ _ (.inl rfl) e,c⟩
 |ins C dx fs =>
  obtain⟨d,z,ne,e,mA,⟨od,es,ep,e2,c⟩,r⟩:=x;exact⟨ho _ d,z,ne,k _ _ (.inl rfl) e,mA,⟨od,es,ep,k _ _ (.inr d) e2,c⟩,r⟩
 |own y=>obtain⟨ob,e⟩:=x;exact⟨ob,k _ _ (.inl rfl) e⟩
 |xd fs=>obtain⟨mA,⟨od,es,ep,e,c⟩,r⟩:=x;exact⟨mA,⟨od,es,ep,k _ _ (.inl rfl) e,c⟩,r⟩
 |rng lo hi=>obtain⟨t,u,v,e⟩:=x;exact⟨t,u,v,k _ _ (.inl rfl) e⟩
 |frz ob u ih=>obtain⟨e,q⟩:=x;exact⟨k _ _ (.inl rfl) e,ih q⟩
 |tbl ps =>
  have e:h.get? a=some { cls:=.none,data:=.fields ps }:=x;show h'.get? a=some { cls:=.none,data:=.fields ps };exact k a _ (.inl rfl) e
 |met f y =>
  have e:h.get? a=some (W.methodObj (.ref f) (.ref y)):=x;show h'.get? a=some (W.methodObj (.ref f) (.ref y));exact k a _ (.inl rfl) e
 |ext φ=>obtain⟨p,⟨o,e⟩,st⟩:=x;exact⟨st _ _ p λo q=>k _ _ (.inl rfl) q,⟨o,k _ _ (.inl rfl) e⟩,st⟩
theorem HOk.lt(x:HOk P w H h)(e:H a=some o):a<h.objs.size:=(x a o e).lt
theorem HOk.fresh(x:HOk P w H h)(e:h.objs.size<=a):H a=none:=by
 cases q:H a with
 |none=>rfl
 |some u=>exact absurd (AB (x.lt q) e) (BY _)
theorem HOk.kept(x:HOk P w H h)(k:∀b u,h.get? b=some u->h'.get? b=some u):HOk P w H h':=λa o e =>
 (x a o e).stay (λb u _ q=>k b u q) (λ_ q=>q) λ_ _ q=>q
theorem HOk.laid(x:HOk P w H h)(k:∀b u,h.get? b=some u->h'.get? b=some u)(hp:h.objs.size<=a)(new:ObjOk P w (upd H a o) h' a o):HOk P w (upd H a o) h':=λb u e=>by
 have hn:=x.fresh hp
 by_cases hb:b=a
 .subst hb;rw[zaa]at e;cases e;exact new
 .rw[zag hb]at e;exact (x b u e).stay (λc v _ q=>k c v q) (λc q=>by rw[zag (zaj q hn)];exact q) λc xs q=>by rw[zag (zaj q hn)];exact q
end
noncomputable def Rd(H:Hp)(a:Addr)(u:HO):Prop:=H a=some u∨∃o,H a=some (.frz o u)
theorem Rd.of{H:Hp}{a:Addr}{u:HO}(h:H a=some u):Rd H a u:=.inl h
theorem Rd.ok{P:AH}{w:A4}{H:Hp}{h:Heap}{a:Addr}{u:HO}(r:Rd H a u)(x:HOk P w H h):ObjOk P w H h a u:=by
 rcases r with r |⟨o,r⟩
 .exact x a u r
 .obtain⟨_,q⟩:=x a _ r;exact q
noncomputable def Mut:Option HO->Prop
 |some (.lst _)=>True
 |some (.dK _)=>True
 |some (.dT _)=>True
 |some (.set _ _)=>True
 |some (.ins _ _ _)=>True
 |some (.ext _)=>True
 |_=>False
section
variable {P:AH}{w:A4}{H:Hp}{h h':Heap}{x e:Addr}{o':HO}
theorem HOk.write(ok:HOk P w H h)(mu:Mut (H x))(he:e=x ∨ H e=some (.own x))(k:∀b u, b ≠ e -> h.get? b=some u -> h'.get? b=some u)(heo:∃u, h'.get? e=some u)
  (new:ObjOk P w (upd H x o') h' x o'):HOk P w (upd H x o') h':=λb u q=>by
 have nown:∀c y,H c=some (.own y)->c≠x:=λc y r z=>by subst z;rw[r]at mu;exact mu
 have ntup:∀c xs,H c=some (.tup xs)->c≠x:=λc xs r z=>by subst z;rw[r]at mu;exact mu
 by_cases hb:b=x
 .subst hb;rw[zaa]at q;cases q;exact new
 .rw[zag hb]at q
  by_cases hbe:b=e
  .have q':H b=some (.own x) := by
    rcases he with z |z
    .exact absurd (hbe.trans z) hb
    .rw[hbe];exact z
   rw[q]at q';cases q';obtain⟨v,hv⟩:=heo;exact⟨v,by rw[hbe];exact hv⟩
  .refine (ok b u q).stay (λc v hc r=>k c v ?_ r) (λc r=>by rw[zag (nown c b r)];exact r) λc xs r=>by rw[zag (ntup c xs r)];exact r
   rcases hc with rfl |hc
   .exact hbe
   .rintro rfl;rcases he with z |z
    .exact nown c b hc z
    .rw[hc]at z;cases z;exact hb rfl
end
structure Un (fs ex:List Addr) (H H':Hp) (h h':Heap):Prop where
 keep:∀b o,h.get? b=some o->H b=none->b ∉ fs->b ∉ ex->h'.get? b=some o
 slot:∀b o,h.get? b=some o->H b=none->b∈fs->b ∉ ex->∃sl,h'.get? b=some { o with slots:=sl }
 free:∀b o,h.get? b=some o->H b=none->b ∉ ex->H' b=none
 there:∀b o,h.get? b=some o->b ∉ ex->∃o',h'.get? b=some o'
 tups:∀b xs,H b=some (.tup xs)->H' b=some (.tup xs)
 frzs:∀b o u,H b=some (.frz o u)->H' b=some (.frz o u)
 tbls:∀b ps,H b=some (.tbl ps)->∃more,H' b=some (.tbl (ps++more))
section
variable {fs fs' ex ex':List Addr}{H H1 H2:Hp}{h h1 h2 h':Heap}{a x e:Addr}{o:HO}
theorem Un.any(u:Un fs ex H H1 h h1){b:Addr}{ob:Obj}(q:h.get? b=some ob)(n:H b=none)(hx:b ∉ ex):∃sl,h1.get? b=some { ob with slots:=sl }:=by
 by_cases hb:b∈fs
 .exact u.slot b ob q n hb hx
 .exact⟨ob.slots,u.keep b ob q n hb hx⟩
theorem Un.kept(k:∀b u,h.get? b=some u->h'.get? b=some u):Un fs ex H H h h' :=
 ⟨λb ob q _ _ _=>k b ob q,λb ob q _ _ _=>⟨ob.slots,k b ob q⟩,λ_ _ _ n _=>n,λb ob q _=>⟨ob,k b ob q⟩,λ_ _ q=>q,λ_ _ _ q=>q,λ_ ps q=>⟨#[],by rw[q];simp⟩⟩
theorem Un.refl:Un fs ex H H h h:=Un.kept λ_ _ q=>q
theorem Un.laid(k:∀b u,h.get? b=some u->h'.get? b=some u)(hp:h.objs.size<=a)(hn:H a=none):Un fs ex H (upd H a o) h h' where
 keep:=λb u q _ _ _=>k b u q
 slot:=λb u q _ _ _=>⟨u.slots,k b u q⟩
 free:=λb u q n _=>by rw[zag (AI (AB (Av q) hp))];exact n
 there:=λb u q _=>⟨u,k b u q⟩
 tups:=λb xs q=>by rw[zag (zaj q hn)];exact q
 frzs:=λb u xs q=>by rw[zag (zaj q hn)];exact q
 tbls:=λb ps q=>⟨#[],by rw[zag (zaj q hn),q];simp⟩
theorem Un.write(mu:Mut (H x))(he:e=x∨H e=some (.own x))(k:∀b u,b≠e->h.get? b=some u->h'.get? b=some u)(heo:∃u,h'.get? e=some u):Un fs ex H (upd H x o) h h':=by
 have hx:∀b,H b=none->b≠x:=λb n z=>by subst z;rw[n]at mu;exact mu
 have hb:∀b,H b=none->b≠e:=λb n z=>by
  subst z;rcases he with r |r
  .exact hx b n r
  .rw[n]at r;cases r
 have hm:∀b u,H b=some u->¬ Mut (some u)->b≠x:=λb u q nm z=>by subst z;rw[q]at mu;exact nm mu
 refine⟨λb u q n _ _=>k b u (hb b n) q,λb u q n _ _=>⟨u.slots,k b u (hb b n) q⟩,λb u q n _=>by rw[zag (hx b n)];exact n,λb u q _=>?_,
  λb xs q=>by rw[zag (hm b _ q λz=>z)];exact q,λb u xs q=>by rw[zag (hm b _ q λz=>z)];exact q,λb ps q=>⟨#[],by rw[zag (hm b _ q λz=>z),q];simp⟩⟩
 by_cases hbe:b=e
 .subst hbe;exact heo
 .exact⟨u,k b u hbe q⟩
end
noncomputable def trk(h:Heap)(H:Hp):List Addr:=(AG h.objs.size).filter λa=>(H a).isSome
noncomputable def hidT(h:Heap)(H:Hp):Heap:=W.hideAll h (trk h H)
theorem zi2(h:Heap)(H:Hp):(hidT h H).objs.size=h.objs.size:=W.hideAll_size _ _
theorem zjT{h:Heap}{H:Hp}{b:Addr}{o:Obj}(e:h.get? b=some o)(n:H b=none):(hidT h H).get? b=some o :=
 W.hideAll_get _ e λhm=>by have q:(H b).isSome=true:=(CZ.mp hm).2;rw[n]at q;simp at q
theorem zkV{h:Heap}{H:Hp}{b:Addr}{o:Obj}(e:(hidT h H).get? b=some o):h.get? b=some o/\H b=none:=by
 have e':h.get? b=some o:=W.of_hideAll (trk h H) e;refine⟨e',?_⟩
 cases q:H b with
 |none=>rfl
 |some x =>
  have hm:b∈trk h H:=List.mem_filter.mpr ⟨BB.mpr (Av e'),by simp[q]⟩;have z:(hidT h H).get? b=none:=W.hideAll_none (trk h H) hm;rw[z]at e;cases e
noncomputable def zlb(g h:Heap)(L:Addr):List (Addr×Obj):=(AG h.objs.size).filterMap λa=>if a=L∨(g.get? a).isSome=true then none else (h.get? a).map λo=>(a,o)
noncomputable def rest(g h:Heap)(L d:Addr):List (Addr×Obj):=(zlb g h L).filter λp=>decide (p.1≠d)
structure Mod (K:W.Frag) (mg:Str->Option Ac) (base:Heap):Prop where
 kin:K.In base
 glob:base.Ns AF mg
 blt:∃mb,base.Ns builtinsNs mb/\∀x:Str,x ≠ "__name__" -> mb x=bootBuiltins x
 nolimit:base.NoLimit
structure Cx where
 prog:AH
 w:A4
 K:W.Frag
 mg:Str->Option Ac
 base:Heap
 A:AJ
 N:List Str
 s₀:Ae
 H₀:Hp
 env:Env
 outer:List Env
 stack:List Env
 ex:List Addr
 fn:Str->Bool
 calm:Bool
 pn:List (Addr×Obj)
 xe:Ac->Ae->Prop
noncomputable def frs(l:List Env):List Addr:=l.filterMap (·.frame)
noncomputable abbrev Cx.fs(X:Cx):List Addr:=frs X.outer
noncomputable def Vis(sc:Scope)(x:Str):Prop:=sc.names.lookup x=some .local∨sc.names.lookup x=some .cell∨sc.names.lookup x=some .free
noncomputable def Loc(sc:Scope)(x:Str):Prop:=sc.names.lookup x=some .local∨sc.names.lookup x=some .cell
noncomputable def Look(env:Env)(h:Heap)(m:Str->Option Ac)(x:Str)(u:Ac):Prop :=
 (env.kindOf x=some .local/\m x=some u)∨((env.kindOf x=some .cell∨env.kindOf x=some .free)/\∃c,env.cells.lookup x=some c/\h.IsCell c (some u))
structure Cx.Ok (X:Cx):Prop where
 mod:Mod X.K X.mg X.base
 kind:X.env.scope.kind=.function
 glob:X.env.globals=AF
 blt:X.env.builtins=builtinsNs
 above:X.s₀.heap.objs.size<=X.env.locals
 inj:∀x y c,X.env.cells.lookup x=some c->X.env.cells.lookup y=some c->x=y
 has:∀x,(X.env.kindOf x=some .cell∨X.env.kindOf x=some .free)->∃c,X.env.cells.lookup x=some c
 cab:∀x c,X.fn x=true->X.env.cells.lookup x=some c->X.s₀.heap.objs.size<=c
 hd:X.calm=true->X.A.handled=none
 frames:X.A.frames=some X.stack
 stk:X.stack=X.outer∨(X.stack=X.env::X.outer/\X.env.frame=some X.env.locals)
 exf:∀b∈X.ex,b≠X.env.locals/\∀x c,X.env.cells.lookup x=some c->c≠b
 bs:∀b o,X.base.get? b=some o->X.s₀.heap.get? b=some o/\X.H₀ b=none
 bsz:X.base.objs.size<=X.s₀.heap.objs.size
 noex:∀b o,X.base.get? b=some o->b ∉ X.ex
 exfs:∀b∈X.ex,b ∉ X.fs
 funs:X.s₀.heap.FunFrames X.base X.outer
 frf:∀b∈X.fs,X.H₀ b=none
structure Inv (X:Cx) (pins:List (Addr×Obj)) (σ:List (Option V)) (H:Hp) (s:Ae):Prop where
 ok:X.Ok
 os:s.os=X.s₀.os
 bare:AllBare s.gens
 base:Un X.fs X.ex X.H₀ H X.s₀.heap s.heap
 loc:∃m,s.heap.Ns X.env.locals m/\∀(i:Nat) (x:Str) (v:V),X.N[i]?=some x->σ[i]?=some (some v)->Vis X.env.scope x->∃u,RelV v u/\Look X.env s.heap m x u
 cell:∀x c,X.env.cells.lookup x=some c->∃v,s.heap.IsCell c v
 free:H X.env.locals=none
 freeC:∀x c,X.env.cells.lookup x=some c->H c=none
 pin:∀p∈X.pn++pins,s.heap.get? p.1=some p.2/\H p.1=none/\p.1≠X.env.locals/\p.1 ∉ X.fs/\∀v,p.2.data≠.cell v
 hok:HOk X.prog X.w H s.heap
 len:σ.length=X.N.length
section
variable {X:Cx}{pins:List (Addr×Obj)}{σ:List (Option V)}{H H':Hp}{s:Ae}{h':Heap}
theorem Cx.Ok.nofr(ok:X.Ok){b:Addr}{o:Obj}(e:X.base.get? b=some o):b ∉ X.fs:=λhb=>by have:=(ok.funs.mem hb).1;rw[e]at this;cases this
theorem Inv.bs(I:Inv X pins σ H s):∀b o,X.base.get? b=some o->s.heap.get? b=some o/\H b=none:=λb o e =>
 ⟨I.base.keep b o (I.ok.bs b o e).1 (I.ok.bs b o e).2 (I.ok.nofr e) (I.ok.noex b o e),I.base.free b o (I.ok.bs b o e).1 (I.ok.bs b o e).2 (I.ok.noex b o e)⟩
theorem Inv.bk(I:Inv X pins σ H s):∀b o,X.base.get? b=some o->s.heap.get? b=some o:=λb o e=>(I.bs b o e).1
theorem Inv.mod(I:Inv X pins σ H s):Mod X.K X.mg X.base:=I.ok.mod
theorem Inv.kIn(I:Inv X pins σ H s):X.K.In s.heap:=I.ok.mod.kin.keeps I.bk
theorem Inv.lt(I:Inv X pins σ H s):X.env.locals<s.heap.objs.size:=let ⟨_,hn,_⟩:=I.loc;hn.lt
theorem Inv.sz(I:Inv X pins σ H s):X.s₀.heap.objs.size<=s.heap.objs.size:=AO I.ok.above (Bj I.lt)
theorem Inv.nofs(I:Inv X pins σ H s){a:Addr}(h:s.heap.objs.size<=a):a ∉ X.fs:=λhb=>by obtain⟨_,o,ho,_⟩:=I.ok.funs.mem hb;exact absurd (AB (Av ho) (AO I.sz h)) (BY _)
theorem Inv.cne(I:Inv X pins σ H s):∀x c,X.env.cells.lookup x=some c->c≠X.env.locals:=λx c e z=>by obtain⟨v,o,ho,hd⟩:=I.cell x c e;obtain⟨m,⟨o',es,ep,ho',hd',_⟩,_⟩:=I.loc;rw[z,ho']at ho;cases ho;rw[hd']at hd;cases hd
theorem Inv.funs(I:Inv X pins σ H s):s.heap.FunFrames X.base X.outer:=by
 have all:∀(l:List Env),(∀b∈frs l,b∈X.fs)->X.s₀.heap.FunFrames X.base l->s.heap.FunFrames X.base l:=by
  intro l
  induction l with
  |nil=>intro _ _;trivial
  |cons env r ih =>
   intro hs hl;obtain⟨hk,⟨L,o,hf,hn,ho,hd⟩,hr⟩:=hl;have hL:L∈X.fs:=hs L (by unfold frs;rw[List.filterMap_cons,hf];exact AC);obtain⟨sl,e⟩:=I.base.slot L o ho (I.ok.frf L hL) hL λz=>I.ok.exfs L z hL
   exact⟨hk,⟨L,_,hf,hn,e,hd⟩,ih (λb hb=>hs b (by unfold frs;rw[List.filterMap_cons,hf];exact At _ hb)) hr⟩
 exact all X.outer (λ_ hb=>hb) I.ok.funs
theorem Inv.stack(I:Inv X pins σ H s):s.heap.FunFrames X.base X.stack:=by
 rcases I.ok.stk with e |⟨e,hf⟩
 .rw[e];exact I.funs
 .rw[e];obtain⟨m,hn,_⟩:=I.loc;refine .cons (by rw[I.ok.kind];decide) hf hn ?_ I.funs;exact Heap.get?_none_of_le (AO I.ok.bsz I.ok.above)
theorem Inv.stkSub(I:Inv X pins σ H s):∀b∈frs X.stack,b∈X.env.locals::X.fs:=λb hb=>by
 rcases I.ok.stk with e |⟨e,hf⟩
 .rw[e]at hb;exact At _ hb
 .rw[e]at hb;unfold frs at hb;rw[List.filterMap_cons,hf]at hb;exact hb
theorem Inv.stkFree(I:Inv X pins σ H s):∀b∈frs X.stack,H b=none:=λb hb=>by
 rcases Aw.mp (I.stkSub b hb) with e |hb
 .rw[e];exact I.free
 .obtain⟨_,o,ho,_⟩:=I.ok.funs.mem hb;exact I.base.free b o ho (I.ok.frf b hb) λz=>I.ok.exfs b z hb
theorem Inv.step{g':Array GenState}{t':Nat}{d':Drawn}{ch:List Addr}(I:Inv X pins σ H s)
  (hch:∀b∈ch,(b∈X.ex∨X.s₀.heap.objs.size<=b)/\b≠X.env.locals/\(∀x c,X.env.cells.lookup x=some c->c≠b)/\∀p∈X.pn++pins,p.1≠b)
  (keep:∀b o,b≠X.env.locals->b ∉ X.fs->b ∉ ch->s.heap.get? b=some o->H b=none->h'.get? b=some o)
  (slot:∀b o,b≠X.env.locals->b∈X.fs->b ∉ ch->s.heap.get? b=some o->H b=none->∃sl,h'.get? b=some { o with slots:=sl }) (free:∀b o,b ∉ ch->s.heap.get? b=some o->H b=none->H' b=none)
  (there:∀b o,b ∉ ch->s.heap.get? b=some o->∃o',h'.get? b=some o')
  (tups:∀b xs,H b=some (.tup xs)->H' b=some (.tup xs)) (frzs:∀b o u,H b=some (.frz o u)->H' b=some (.frz o u)) (tbls:∀b ps,H b=some (.tbl ps)->∃more,H' b=some (.tbl (ps++more)))
  (ns:∀m,s.heap.Ns X.env.locals m->h'.Ns X.env.locals m) (hok:HOk X.prog X.w H' h') (hg:AllBare g') :
  Inv X pins σ H' { s with heap:=h',gens:=g',drawn:=d',toks:=t' }:=by
 have neL:∀b o,X.s₀.heap.get? b=some o->b≠X.env.locals:=λb o e=>AI (AB (Av e) I.ok.above)
 have neC:∀b o,X.s₀.heap.get? b=some o->b ∉ X.ex->b ∉ ch:=λb o e hx hb=>by
  rcases (hch b hb).1 with z |z
  .exact hx z
  .exact absurd (AB (Av e) z) (BY _)
 have cellK:∀x c,X.env.cells.lookup x=some c->∀v,s.heap.IsCell c v->h'.IsCell c v:=λx c e v ⟨o,ho,hd⟩=>by
  have nch:c ∉ ch:=λz=>(hch c z).2.2.1 x c e rfl
  by_cases hc:c∈X.fs
  .obtain⟨sl,q⟩:=slot c o (I.cne x c e) hc nch ho (I.freeC x c e);exact⟨_,q,hd⟩
  .exact⟨o,keep c o (I.cne x c e) hc nch ho (I.freeC x c e),hd⟩
 refine⟨I.ok,I.os,hg,⟨λb o e n hb hx=>?_,λb o e n hb hx=>?_,λb o e n hx=>?_,λb o e hx=>?_,λb xs e=>tups b xs (I.base.tups b xs e),λb o xs e=>frzs b o xs (I.base.frzs b o xs e),λb ps e=>?_⟩,?_,λx c e=>?_,?_,λx c e=>?_,λp hp=>?_,hok,I.len⟩
 .exact keep b o (neL b o e) hb (neC b o e hx) (I.base.keep b o e n hb hx) (I.base.free b o e n hx)
 .obtain⟨sl,e1⟩:=I.base.slot b o e n hb hx;obtain⟨sl',e2⟩:=slot b _ (neL b o e) hb (neC b o e hx) e1 (I.base.free b o e n hx);exact⟨sl',e2⟩
 .obtain⟨o',e1⟩:=I.base.there b o e hx;exact free b o' (neC b o e hx) e1 (I.base.free b o e n hx)
 .obtain⟨o',e1⟩:=I.base.there b o e hx;exact there b o' (neC b o e hx) e1
 .obtain⟨m1,e1⟩:=I.base.tbls b ps e;obtain⟨m2,e2⟩:=tbls b _ e1;exact⟨m1++m2,by rw[e2,Array.append_assoc]⟩
 .obtain⟨m,hn,hl⟩:=I.loc;refine⟨m,ns m hn,λi x v e1 e2 e3=>?_⟩;obtain⟨u,r,l⟩:=hl i x v e1 e2 e3;refine⟨u,r,?_⟩;rcases l with l |⟨k,c,e,z⟩
  .exact .inl l
  .exact .inr ⟨k,c,e,cellK x c e _ z⟩
 .obtain⟨v,z⟩:=I.cell x c e;exact⟨v,cellK x c e v z⟩
 .obtain⟨m,⟨o,_,_,ho,_⟩,_⟩:=I.loc;exact free _ o (λz=>(hch _ z).2.1 rfl) ho I.free
 .obtain⟨v,o,ho,hd⟩:=I.cell x c e;exact free c o (λz=>(hch c z).2.2.1 x c e rfl) ho (I.freeC x c e)
 .obtain⟨e,n,ne,nf,d⟩:=I.pin p hp;have nch:p.1 ∉ ch:=λz=>(hch p.1 z).2.2.2 p hp rfl
  exact⟨keep p.1 p.2 ne nf nch e n,free p.1 p.2 nch e n,ne,nf,d⟩
theorem Inv.un{t':Nat}(I:Inv X pins σ H s)(u:Un X.fs [] H H' s.heap h')(hok:HOk X.prog X.w H' h'):Inv X pins σ H' { s with heap:=h',toks:=t' }:=by
 obtain⟨m,⟨o,es,ep,ho,r⟩,_⟩:=id I.loc;obtain⟨sl,hL⟩:=u.any ho I.free (by simp)
 exact I.step (g':=s.gens) (d':=s.drawn) (ch:=[]) (λ_ z=>nomatch z) (λb o _ hb _ e n=>u.keep b o e n hb (by simp)) (λb o _ hb _ e n=>u.slot b o e n hb (by simp)) (λb o _ e n=>u.free b o e n (by simp)) (λb o _ e=>u.there b o e (by simp)) u.tups u.frzs u.tbls (λm' hm=>by obtain⟨o',es',ep',ho',r'⟩:=hm;rw[ho]at ho';cases ho';exact⟨_,es',ep',hL,r'⟩) hok I.bare
theorem Inv.call{g':Array GenState}{t':Nat}{d':Drawn}{ch:List Addr}(I:Inv X pins σ H s)(u:Un (frs X.stack) ch H H' s.heap h')(hok:HOk X.prog X.w H' h')(hg:AllBare g')
  (hch:∀b∈ch,(b∈X.ex∨X.s₀.heap.objs.size<=b)/\b≠X.env.locals/\(∀x c,X.env.cells.lookup x=some c->c≠b)/\∀p∈X.pn++pins,p.1≠b) :
  Inv X pins σ H' { s with heap:=h',gens:=g',drawn:=d',toks:=t' }:=by
 obtain⟨m,⟨o,es,ep,ho,r⟩,_⟩:=id I.loc;obtain⟨sl,hL⟩:=u.any ho I.free λz=>(hch _ z).2.1 rfl
 exact I.step (ch:=ch) hch (λb o hL hb hc e n=>u.keep b o e n (λz=>(Aw.mp (I.stkSub b z)).elim hL hb) hc) (λb o _ _ hc e n=>u.any e n hc) (λb o hc e n=>u.free b o e n hc) (λb o hc e=>u.there b o e hc) u.tups u.frzs u.tbls (λm' hm=>by obtain⟨o',es',ep',ho',r'⟩:=hm;rw[ho]at ho';cases ho';exact⟨_,es',ep',hL,r'⟩) hok hg
theorem Inv.turned{t':Nat}{it:Addr}(I:Inv X pins σ H s)(k:∀b o, b ≠ it -> s.heap.get? b=some o -> h'.get? b=some o)(hn:H it=none)(hL:it ≠ X.env.locals)
  (h1:it∈X.ex∨X.s₀.heap.objs.size<=it) (h2:∀x c,X.env.cells.lookup x=some c->c≠it) (h3:∀p∈X.pn++pins,p.1≠it):Inv X pins σ H { s with heap:=h',toks:=t' }:=by
 have nit:∀b u,H b=some u->b≠it:=λb u e z=>by rw[z,hn]at e;cases e
 refine I.step (g':=s.gens) (d':=s.drawn) (ch:=[it]) (λb hb=>?_) (λb o _ _ hc e _=>k b o (λz=>hc (by simp[z])) e) (λb o _ _ hc e _=>⟨o.slots,k b o (λz=>hc (by simp[z])) e⟩) (λ_ _ _ _ n=>n)
  (λb o hc e=>⟨o,k b o (λz=>hc (by simp[z])) e⟩) (λ_ _ e=>e) (λ_ _ _ e=>e) (λb ps e=>⟨#[],by rw[e];simp⟩) (λm hm=>?_) (λb u e=>?_) I.bare
 .have e:b=it:=by simpa using hb
  subst e;exact⟨h1,hL,h2,h3⟩
 .obtain⟨o,es,ep,ho,r⟩:=hm;exact⟨o,es,ep,k _ o (BX hL) ho,r⟩
 .refine (I.hok b u e).stay (λc v hc q=>k c v ?_ q) (λ_ q=>q) λ_ _ q=>q
  rcases hc with z |z
  .rw[z];exact nit b u e
  .exact nit c _ z
theorem Inv.tok(I:Inv X pins σ H s)(t:Nat):Inv X pins σ H { s with toks:=t }:=I.un (h':=s.heap) (t':=t) Un.refl I.hok
theorem Inv.kept{t':Nat}(I:Inv X pins σ H s)(k:∀b u,s.heap.get? b=some u->h'.get? b=some u):Inv X pins σ H { s with heap:=h',toks:=t' }:=I.un (Un.kept k) (I.hok.kept k)
theorem Inv.laid{a:Addr}{o:HO}{t':Nat}(I:Inv X pins σ H s)(k:∀b u, s.heap.get? b=some u -> h'.get? b=some u)(hp:s.heap.objs.size <= a)(new:ObjOk X.prog X.w (upd H a o) h' a o) :
  Inv X pins σ (upd H a o) { s with heap:=h',toks:=t' }:=I.un (Un.laid k hp (I.hok.fresh hp)) (I.hok.laid k hp new)
theorem Inv.write{x e:Addr}{o:HO}{t':Nat}(I:Inv X pins σ H s)(mu:Mut (H x))(he:e=x ∨ H e=some (.own x))(k:∀b u, b ≠ e -> s.heap.get? b=some u -> h'.get? b=some u)(heo:∃u, h'.get? e=some u)
  (new:ObjOk X.prog X.w (upd H x o) h' x o):Inv X pins σ (upd H x o) { s with heap:=h',toks:=t' }:=I.un (Un.write mu he k heo) (I.hok.write mu he k heo new)
theorem Inv.pins_of{pins':List (Addr×Obj)}(I:Inv X pins σ H s)(h:∀p∈pins',s.heap.get? p.1=some p.2/\H p.1=none/\p.1≠X.env.locals/\p.1 ∉ X.fs/\∀v,p.2.data≠.cell v):Inv X pins' σ H s :=
 ⟨I.ok,I.os,I.bare,I.base,I.loc,I.cell,I.free,I.freeC,λp hp=>(AW.mp hp).elim (λz=>I.pin p (Ck _ z)) (h p),I.hok,I.len⟩
theorem zgV{N:List Str}(hN:N.Nodup){i j:Nat}{x:Str}(a:N[i]?=some x)(b:N[j]?=some x):i=j:=by obtain⟨h1,e1⟩:=Ad.mp a;obtain⟨h2,e2⟩:=Ad.mp b;exact (List.getElem_inj hN).mp (e1.trans e2.symm)
theorem zfm{M:Model}{A:AJ}{E:Ac -> Ae -> Prop}{i:Nat}{x:Str}{v:V}{u:Ac}{Q:Unit -> Ae -> Prop}(I:Inv X pins σ H s)(hN:X.N.Nodup)(hi:X.N[i]? = some x)(hx:Loc X.env.scope x)(r:RelV v u)
  (h:∀s',Inv X pins (σ.set i (some v)) H s'->(∃a,Cu a s.heap s'.heap/\(a=X.env.locals∨X.env.cells.lookup x=some a))->Q () s') (hf:X.fn x=true∨X.env.scope.names.lookup x=some .local:=by first |exact .inl rfl |exact .inr rfl |assumption):Ao M A (storeName X.env x u) Q E s:=by
 obtain⟨m,hn,hl⟩:=id I.loc;have hcls:(X.env.scope.kind == .class || (X.env.scope.kind == .module && X.env.locals != X.env.globals))=false:=by rw[I.ok.kind];rfl
 have hiσ:i<σ.length:=by rw[I.len];exact (Ad.mp hi).1
 have cne:=I.cne
 have tracked:∀{a:Addr} {h':Heap},(∃o,s.heap.get? a=some o/\H a=none)->Cu a s.heap h'->HOk X.prog X.w H h':=λ{a h'} ha hs b ob e=>by
  obtain⟨_,_,hfree⟩:=ha;refine (I.hok b ob e).stay (λc w' hc q=>(hs.2 c ?_).trans q) (λ_ q=>q) λ_ _ q=>q
  rintro rfl;rcases hc with rfl |hc
  .rw[hfree]at e;cases e
  .rw[hfree]at hc;cases hc
 rcases hx with hk |hk
 .refine wpAny_storeName_local hk hn (λh' hn' hs=>?_) hcls;obtain⟨oL,_,_,hoL,_⟩:=id hn;refine h _ ⟨I.ok,I.os,I.bare,⟨λb o e n hb hx=>?_,λb o e n hb hx=>?_,I.base.free,λb o e hx=>?_,I.base.tups,I.base.frzs,I.base.tbls⟩,⟨_,hn',λj y v' e1 e2 e3=>?_⟩,λy c e=>?_,I.free,I.freeC,λp hp=>?_,tracked ⟨oL,hoL,I.free⟩ hs,by simpa using I.len⟩ ⟨_,hs,.inl rfl⟩
  .exact (hs.2 b (AI (AB (Av e) I.ok.above))).trans (I.base.keep b o e n hb hx)
  .obtain⟨sl,e1⟩:=I.base.slot b o e n hb hx;exact⟨sl,(hs.2 b (AI (AB (Av e) I.ok.above))).trans e1⟩
  .obtain⟨o',e1⟩:=I.base.there b o e hx;exact⟨o',(hs.2 b (AI (AB (Av e) I.ok.above))).trans e1⟩
  .by_cases hj:j=i
   .subst hj;rw[hi]at e1;cases e1;rw[List.getElem?_set_self hiσ]at e2
    cases e2
    exact⟨u,r,.inl ⟨hk,by simp⟩⟩
   .rw[List.getElem?_set_ne (BX hj)]at e2;obtain⟨u',r',q⟩:=hl j y v' e1 e2 e3;refine⟨u',r',?_⟩;rcases q with⟨k,e⟩ |⟨k,c,e,z⟩
    .refine .inl ⟨k,?_⟩;have:y≠x:=λe=>hj (zgV hN e1 (e ▸ hi))
     simp[this,e]
    .exact .inr ⟨k,c,e,z.sameBut hs (cne y c e)⟩
  .obtain⟨w',z⟩:=I.cell y c e;exact⟨w',z.sameBut hs (cne y c e)⟩
  .obtain⟨e,n,ne,nf,d⟩:=I.pin p hp;exact⟨(hs.2 p.1 ne).trans e,n,ne,nf,d⟩
 .have hfn:X.fn x=true := by
   rcases hf with z |z
   .exact z
   .rw[z]at hk;cases hk
  obtain⟨c,hc⟩:=I.ok.has x (.inl hk);obtain⟨w',z⟩:=I.cell x c hc;refine wpAny_storeName_cell I.ok.kind hk hc z (λh' hc' hs=>?_);obtain⟨oc,hoc,hocd⟩:=id z;refine h { s with heap:=h' } ⟨I.ok,I.os,I.bare,⟨λb o e n hb hx=>?_,λb o e n hb hx=>?_,I.base.free,λb o e hx=>?_,I.base.tups,I.base.frzs,I.base.tbls⟩,⟨m,hn.sameBut hs (BX (cne x c hc)),λj y v' e1 e2 e3=>?_⟩,λy c' e=>?_,I.free,I.freeC,λp hp=>?_,tracked ⟨oc,hoc,I.freeC x c hc⟩ hs,by simpa using I.len⟩ ⟨c,hs,.inr hc⟩
  .exact (hs.2 b (AI (AB (Av e) (I.ok.cab x c hfn hc)))).trans (I.base.keep b o e n hb hx)
  .obtain⟨sl,e1⟩:=I.base.slot b o e n hb hx;exact⟨sl,(hs.2 b (AI (AB (Av e) (I.ok.cab x c hfn hc)))).trans e1⟩
  .obtain⟨o',e1⟩:=I.base.there b o e hx;exact⟨o',(hs.2 b (AI (AB (Av e) (I.ok.cab x c hfn hc)))).trans e1⟩
  .by_cases hj:j=i
   .subst hj;rw[hi]at e1;cases e1;rw[List.getElem?_set_self hiσ]at e2
    cases e2
    exact⟨u,r,.inr ⟨.inl hk,c,hc,hc'⟩⟩
   .rw[List.getElem?_set_ne (BX hj)]at e2;obtain⟨u',r',q⟩:=hl j y v' e1 e2 e3;refine⟨u',r',?_⟩;rcases q with q |⟨k,c',e,z'⟩
    .exact .inl q
    .refine .inr ⟨k,c',e,z'.sameBut hs ?_⟩;rintro rfl;exact hj (zgV hN e1 (I.ok.inj _ _ _ e hc ▸ hi))
  .by_cases hcc:c'=c
   .subst hcc;exact⟨_,hc'⟩
   .obtain⟨w2,z2⟩:=I.cell y c' e;exact⟨w2,z2.sameBut hs hcc⟩
  .obtain⟨e,n,ne,nf,d⟩:=I.pin p hp;refine⟨(hs.2 p.1 ?_).trans e,n,ne,nf,d⟩;intro q;rw[q,hoc]at e;have q':oc=p.2:=Bc e;exact d w' (by rw[<- q'];exact hocd)
theorem zez{M:Model}{A:AJ}{E:Ac -> Ae -> Prop}{i:Nat}{x:Str}{v:V}{u:Ac}{Q:Unit -> Ae -> Prop}(I:Inv X pins σ H s)(hN:X.N.Nodup)(hi:X.N[i]? = some x)(hx:Loc X.env.scope x)(r:RelV v u)
  (h:∀s',Inv X pins (σ.set i (some v)) H s'->Q () s') (hf:X.fn x=true∨X.env.scope.names.lookup x=some .local:=by first |exact .inl rfl |exact .inr rfl |assumption):Ao M A (storeName X.env x u) Q E s :=
 zfm I hN hi hx r (λs' I' _=>h s' I') hf
theorem Inv.call'{s':Ae}{ch:List Addr}(I:Inv X pins σ H s)(ho:s'.os=s.os)(u:Un (frs X.stack) ch H H' s.heap s'.heap)(hok:HOk X.prog X.w H' s'.heap)(hg:AllBare s'.gens)
  (hch:∀b∈ch,(b∈X.ex∨X.s₀.heap.objs.size<=b)/\b≠X.env.locals/\(∀x c,X.env.cells.lookup x=some c->c≠b)/\∀p∈X.pn++pins,p.1≠b):Inv X pins σ H' s':=by
 obtain⟨h',g',d',t',o'⟩:=s';have e:o'=s.os:=ho;subst e;exact I.call (g':=g') (t':=t') (d':=d') u hok hg hch
end
noncomputable abbrev XK:=Ac->Option Addr->Hp->Prop
noncomputable abbrev St:=List (Option V)
noncomputable abbrev VK:=V->Hp->Prop
noncomputable abbrev TE:=St->Hp->VK->Prop
noncomputable abbrev TT:=St->Hp->(Bool->Hp->Prop)->Prop
noncomputable abbrev TA:=St->Hp->(List V->Hp->Prop)->Prop
structure Ends where
 nx:St->Hp->Prop
 rt:VK
 bk:St->Hp->Prop:=λ_ _=>False
 ct:St->Hp->Prop:=λ_ _=>False
noncomputable abbrev TS:=Ends->St->Hp->Prop
noncomputable def EP(X:Cx)(pins:List (Addr×Obj))(σ:St)(Q:VK)(u:Ac)(s':Ae):Prop:=∃v H',Inv X pins σ H' s'/\RelV v u/\Q v H'
noncomputable def TP(X:Cx)(pins:List (Addr×Obj))(σ:St)(Q:Bool->Hp->Prop)(b:Bool)(s':Ae):Prop:=∃H',Inv X pins σ H' s'/\Q b H'
noncomputable def AP(X:Cx)(pins:List (Addr×Obj))(σ:St)(Q:List V->Hp->Prop)(us:List Ac)(s':Ae):Prop:=∃vs H',Inv X pins σ H' s'/\Vals vs us/\Q vs H'
noncomputable def SP(X:Cx)(pins:List (Addr×Obj))(D:Ends)(f:Flow)(s':Ae):Prop :=
 match f with
 |.next=>∃ σ' H',Inv X pins σ' H' s'/\D.nx σ' H'
 |.brk=>∃ σ' H',Inv X pins σ' H' s'/\D.bk σ' H'
 |.cont=>∃ σ' H',Inv X pins σ' H' s'/\D.ct σ' H'
 |.ret u=>∃v σ' H',Inv X pins σ' H' s'/\RelV v u/\D.rt v H'
noncomputable def PE(X:Cx)(e:Expr)(t:TE):Prop :=
 ∀(pins:List (Addr×Obj)) (s:Ae) (σ:St) (H:Hp) (Q:VK),Inv X pins σ H s->t σ H Q->Ao (Ax X.prog X.w) X.A (eval e X.env) (EP X pins σ Q) X.xe s
noncomputable def PT(X:Cx)(e:Expr)(t:TT):Prop :=
 ∀(pins:List (Addr×Obj)) (s:Ae) (σ:St) (H:Hp) (Q:Bool->Hp->Prop),Inv X pins σ H s->t σ H Q->Ao (Ax X.prog X.w) X.A (isTrue e X.env (eval e X.env)) (TP X pins σ Q) X.xe s
noncomputable def PW(X:Cx)(e:Expr)(t:TT):Prop :=
 ∀(whole:Sem Ac) (pins:List (Addr×Obj)) (s:Ae) (σ:St) (H:Hp) (Q:Bool->Hp->Prop),Inv X pins σ H s->t σ H Q->Ao (Ax X.prog X.w) X.A (isTrue e X.env whole) (TP X pins σ Q) X.xe s
theorem PW.pt{X:Cx}{e:Expr}{t:TT}(h:PW X e t):PT X e t:=h _
noncomputable def PA(X:Cx)(es:List Expr)(t:TA):Prop :=
 ∀(pos:Pos) (pins:List (Addr×Obj)) (s:Ae) (σ:St) (H:Hp) (Q:List V->Hp->Prop),Inv X pins σ H s->t σ H Q->Ao (Ax X.prog X.w) X.A (spliced (DM pos (A8 es X.env))) (AP X pins σ Q) X.xe s
noncomputable def PS(X:Cx)(st:Stmt)(t:TS):Prop :=
 ∀(pins:List (Addr×Obj)) (s:Ae) (σ:St) (H:Hp) (D:Ends),Inv X pins σ H s->t D σ H->Ao (Ax X.prog X.w) X.A (exec st X.env) (SP X pins D) X.xe s
noncomputable def PSs(X:Cx)(st:List Stmt)(t:TS):Prop :=
 ∀(pins:List (Addr×Obj)) (s:Ae) (σ:St) (H:Hp) (D:Ends),Inv X pins σ H s->t D σ H->Ao (Ax X.prog X.w) X.A (execs st X.env) (SP X pins D) X.xe s
theorem thn{α:Type}{t:Sem α}{Q Q':α->Ae->Prop}{M:Model}{A:AJ}{E:Ac->Ae->Prop}{s:Ae}(h:Ao M A t Q E s)(hQ:∀a s,Q a s->Q' a s):Ao M A t Q' E s:=Bs h hQ λ_ _ x=>x
section
variable {X:Cx}
noncomputable def tVar(i:Nat):TE:=λσ H Q=>∃v,σ[i]?=some (some v)/\Q v H
noncomputable def tC(v:V):TE:=λ_ H Q=>Q v H
theorem zlD {i:Nat}{x:Str}{pos:Pos}(hN:X.N[i]?=some x) (hv:Vis X.env.scope x) (hd:(x == ("__debug__" : Str))=false:=by decide) (hcd:(x == ("__classdict__" : Str))=false:=by decide):PE X (.Name x pos) (tVar i):=by
 intro pins s σ H Q I h;obtain⟨v,e,h⟩:=h;obtain⟨m,hn,hl⟩:=I.loc;obtain⟨u,r,l⟩:=hl i x v hN e hv;have fin:EP X pins σ Q u s:=⟨v,H,I,r,h⟩;rcases l with⟨hk,hm⟩ |⟨hk,c,hc,hcell⟩
 .exact wpAny_Name (wpAny_loadName_local I.ok.kind hk hn hm fin) hd
 .rcases hk with hk |hk
  .exact wpAny_Name (wpAny_loadName_cell I.ok.kind hk hc hcell fin) hd
  .exact wpAny_Name (wpAny_loadName_free I.ok.kind hk hc hcell fin hcd) hd
theorem zae{i j pos}:PE X (.Constant (.int i) j pos) (tC (.int i)):=λ_ _ _ H _ I h=>wpAny_Constant_int ⟨.int i,H,I.tok _,⟨_,rfl⟩,h⟩
theorem pe_bl{b j pos}:PE X (.Constant (.bool b) j pos) (tC (.bl b)):=λ_ _ _ H _ I h=>Constant_bool ⟨.bl b,H,I,rfl,h⟩
theorem zbq{j pos}:PE X (.Constant .none j pos) (tC .non):=λ_ _ _ H _ I h=>Constant_none ⟨.non,H,I,rfl,h⟩
theorem zeh{x j pos}:PE X (.Constant (.str x) j pos) (tC (.str x)):=λ_ _ _ H _ I h=>Calls.Constant_str ⟨.str x,H,I.tok _,⟨_,rfl⟩,h⟩
noncomputable def Gl(X:Cx)(x:Str):Prop:=X.env.kindOf x=some .globalImplicit
theorem ziP{E:Ac -> Ae -> Prop}{pins:List (Addr × Obj)}{s:Ae}{σ : St}{H:Hp}{x:Str}{u:Ac}{pos:Pos}{Q:Ac -> Ae -> Prop}(I:Inv X pins σ H s)(hg:Gl X x)(hm:X.mg x=some u)(h:Q u s)
  (hd:(x == ("__debug__" : Str))=false:=by decide):Ao (Ax X.prog X.w) X.A (eval (.Name x pos) X.env) Q E s :=
 Calls.Name_function_global I.ok.kind hg (Calls.loadGlobal_global (by rw[I.ok.glob];exact I.mod.glob.keeps I.bk) hm h) hd
theorem zch{E:Ac -> Ae -> Prop}{pins:List (Addr × Obj)}{s:Ae}{σ : St}{H:Hp}{x:Str}{u:Ac}{pos:Pos}{Q:Ac -> Ae -> Prop}(I:Inv X pins σ H s)(hg:Gl X x)(hm:X.mg x=none)(hv:bootBuiltins x=some u)(h:Q u s)
  (hn:x ≠ "__name__":=by decide) (hd:(x == ("__debug__" : Str))=false:=by decide):Ao (Ax X.prog X.w) X.A (eval (.Name x pos) X.env) Q E s:=by
 obtain⟨mb,h1,h2⟩:=I.mod.blt;exact Calls.Name_function_global I.ok.kind hg (Calls.loadGlobal_builtin (by rw[I.ok.glob];exact I.mod.glob.keeps I.bk) hm (by rw[I.ok.blt];exact h1.keeps I.bk) ((h2 x hn).trans hv) h) hd
theorem zeN {x:Str}{v:V}{u:Ac}{pos:Pos}(hg:Gl X x) (hm:X.mg x=some u) (r:RelV v u) (hd:(x == ("__debug__" : Str))=false:=by decide):PE X (.Name x pos) (tC v) :=
 λ_ _ _ H _ I h=>ziP I hg hm ⟨v,H,I,r,h⟩ hd
theorem zgg {x:Str}{v:V}{u:Ac}{pos:Pos}(hg:Gl X x) (hm:X.mg x=none) (hv:bootBuiltins x=some u) (r:RelV v u) (hn:x ≠ "__name__":=by decide) (hd:(x == ("__debug__" : Str))=false:=by decide):PE X (.Name x pos) (tC v) :=
 λ_ _ _ H _ I h=>zch I hg hm hv ⟨v,H,I,r,h⟩ hn hd
variable {a b:Expr}{ta tb:TE}{pos:Pos}
noncomputable def PC(X:Cx)(op:CmpOp)(a b:Expr)(t:TE):Prop :=
 ∀(pins:List (Addr×Obj)) (s:Ae) (σ:St) (H:Hp) (Q:VK),Inv X pins σ H s->t σ H Q ->
  Ao (Ax X.prog X.w) X.A (eval a X.env) (λv s₁=>Ao (Ax X.prog X.w) X.A (eval b X.env) (λu s₂=>Ao (Ax X.prog X.w) X.A (BV op v u) (EP X pins σ Q) X.xe s₂) X.xe s₁) X.xe s
noncomputable def tB(t:TE):TT:=λσ H Q=>t σ H λx H1=>∃c,x=.bl c/\Q c H1
theorem zcK{op:CmpOp}{t:TE}(h:PC X op a b t)(h1:behindInMarks op b=false:=by first |exact nobehind _ (by decide) (by decide) |rfl):PT X (.Compare a [op] [b] pos) (tB t):=by
 intro pins s σ H Q I hw;refine wpAny_isTrue_Compare1 (thn (h pins s σ H _ I hw) λv s1 h1=>thn h1 λu s2 h2=>thn h2 λc s3 ⟨x,H1,I1,r1,q1⟩=>?_) h1;obtain⟨d,rfl,q⟩:=q1
 cases r1
 exact BP ⟨H1,I1,q⟩
theorem zdF{e:Expr}{t:TE}(h:PE X e t)(he:∀whole,isTrue e X.env whole=(do let v <- whole;standAt e.pos;holding [v] (truthy v)):=by intro _;rfl):PT X e (tB t):=by
 intro pins s σ H Q I hw;refine isTrue_plain (thn (h pins s σ H _ I hw) λv s1 ⟨x,H1,I1,r1,q1⟩=>?_) (he _);obtain⟨d,rfl,q⟩:=q1
 cases r1
 exact BP ⟨H1,I1,q⟩
variable {tA tB':TT}{rest:List Expr}
noncomputable def tAnd(t u:TT):TT:=λσ H Q=>t σ H λc H1=>if c=true then u σ H1 Q else Q false H1
noncomputable def tOr(t u:TT):TT:=λσ H Q=>t σ H λc H1=>if c=true then Q true H1 else u σ H1 Q
noncomputable def tNot(t:TT):TT:=λσ H Q=>t σ H λc H1=>Q (!c) H1
theorem zcD(ha:PT X a tA):PW X (.BoolOp .And [a] pos) tA:=by
 intro wh pins s σ H Q I h;refine isTrue_and (thn (ha pins s σ H Q I h) λc s1 e=>?_)
 cases c with
 |true=>exact isTrue_and_nil e
 |false=>exact e
theorem zik(ha:PT X a tA):PW X (.BoolOp .Or [a] pos) tA:=by
 intro wh pins s σ H Q I h;refine isTrue_or (thn (ha pins s σ H Q I h) λc s1 e=>?_)
 cases c with
 |false=>exact isTrue_or_nil e
 |true=>exact e
theorem zdE(ha:PT X a tA)(hb:PW X (.BoolOp .And (b::rest) pos) tB'):PW X (.BoolOp .And (a::b::rest) pos) (tAnd tA tB'):=by
 intro wh pins s σ H Q I h;refine isTrue_and (thn (ha pins s σ H _ I h) λc s1 ⟨H1,I1,q1⟩=>?_)
 cases c with
 |true=>exact hb wh pins s1 σ H1 Q I1 q1
 |false=>exact⟨H1,I1,q1⟩
theorem pw_or(ha:PT X a tA)(hb:PW X (.BoolOp .Or (b::rest) pos) tB'):PW X (.BoolOp .Or (a::b::rest) pos) (tOr tA tB'):=by
 intro wh pins s σ H Q I h;refine isTrue_or (thn (ha pins s σ H _ I h) λc s1 ⟨H1,I1,q1⟩=>?_)
 cases c with
 |true=>exact⟨H1,I1,q1⟩
 |false=>exact hb wh pins s1 σ H1 Q I1 q1
theorem zgN(ha:PT X a tA):PT X (.UnaryOp .Not a pos) (tNot tA):=by intro pins s σ H Q I h;exact isTrue_not (ha pins s σ H (λc H1=>Q (!c) H1) I h)
noncomputable def tAndV(ta tb:TE):TE:=λσ H Q=>ta σ H λx H1=>∃c,x=.bl c/\if c=true then tb σ H1 Q else Q (.bl false) H1
noncomputable def tNotV(ta:TE):TE:=λσ H Q=>ta σ H λx H1=>∃c,x=.bl c/\Q (.bl (!c)) H1
theorem zis{op}{t:TE}(h:PE X a t):PE X (.BoolOp op [a] pos) t:=λpins s σ H Q I hw=>BoolOp_one (h pins s σ H Q I hw)
theorem zit(ha:PE X a ta)(hb:PE X (.BoolOp .And (b::rest) pos) tb):PE X (.BoolOp .And (a::b::rest) pos) (tAndV ta tb):=by
 intro pins s σ H Q I h;refine BoolOp_and (thn (ha pins s σ H _ I h) λv s1 ⟨x,H1,I1,r1,q1⟩=>?_);obtain⟨c,rfl,q1⟩:=q1
 cases r1
 refine BP ?_
 cases c with
 |true=>exact hb pins s1 σ H1 Q I1 q1
 |false=>exact⟨.bl false,H1,I1,rfl,q1⟩
theorem zlF(ha:PE X a ta):PE X (.UnaryOp .Not a pos) (tNotV ta):=by
 intro pins s σ H Q I h;refine UnaryOp_ (thn (ha pins s σ H _ I h) λv s1 ⟨x,H1,I1,r1,q1⟩=>?_);obtain⟨c,rfl,q1⟩:=q1
 cases r1
 exact not_of (BP ⟨.bl (!c),H1,I1,rfl,q1⟩)
noncomputable def tIf(t:TT)(ta tb:TE):TE:=λσ H Q=>t σ H λc H1=>if c=true then ta σ H1 Q else tb σ H1 Q
theorem zjK{c:Expr}(hc:PT X c tA)(ha:PE X a ta)(hb:PE X b tb):PE X (.IfExp c a b pos) (tIf tA ta tb):=by
 intro pins s σ H Q I h;refine wpAny_IfExp (thn (hc pins s σ H _ I h) λd s1 ⟨H1,I1,q1⟩=>?_)
 cases d with
 |true=>exact ha pins s1 σ H1 Q I1 q1
 |false=>exact hb pins s1 σ H1 Q I1 q1
end
noncomputable def SqL(K:W.Frag)(H:Hp)(a:Addr)(xs:List V):Prop :=
 Rd H a (.lst xs) ∨
  ∃(o:Obj) (its:Array Ac) (n:Nat),K.lookup a=some o/\o.cls=.type "list" /\ o.dict=none/\o.data=.seq its n/\its.size<=sizeLine/\Vals xs its.toList
noncomputable def SqT(K:W.Frag)(H:Hp)(a:Addr)(xs:List V):Prop :=
 Rd H a (.tup xs) ∨
  ∃(o:Obj) (its:Array Ac) (n:Nat),K.lookup a=some o/\o.cls=.type "tuple" /\ o.data=.seq its n/\its.size<=sizeLine/\Vals xs its.toList
noncomputable def absV:Ac->Option V
 |.none=>some .non
 |.bool b=>some (.bl b)
 |.int i _=>some (.int i)
 |.str x _=>some (.str x)
 |.bytes b _=>some (.byt b)
 |.float b _=>some (.flt b)
 |.ref a=>some (.ref a)
 |.type n=>some (.ty n)
 |_=>none
theorem RelV.abs{x:V}{u:Ac}(r:RelV x u):absV u=some x:=by
 cases x with
 |non=>cases r;rfl
 |bl _=>cases r;rfl
 |int _=>obtain⟨t,rfl⟩:=r;rfl
 |str _=>obtain⟨t,rfl⟩:=r;rfl
 |byt _=>obtain⟨t,rfl⟩:=r;rfl
 |flt _=>obtain⟨t,rfl⟩:=r;rfl
 |ref _=>cases r;rfl
 |ty _=>cases r;rfl
theorem RelV.inj{x y:V}{u:Ac}(r:RelV x u)(q:RelV y u):x=y:=Bc (r.abs.symm.trans q.abs)
theorem Vals.inj:∀{xs ys:List V}{us:List Ac},Vals xs us->Vals ys us->xs=ys
 |_,_,_,.nil,.nil=>rfl
 |_,_,_,.cons r t,.cons r' t'=>by rw[r.inj r',Vals.inj t t']
section
variable {X:Cx}{pins:List (Addr×Obj)}{σ:St}{H:Hp}{s:Ae}{a:Addr}{xs ys:List V}
theorem SqL.of{K:W.Frag}(h:H a=some (.lst xs)):SqL K H a xs:=.inl (.inl h)
theorem SqT.of{K:W.Frag}(h:H a=some (.tup xs)):SqT K H a xs:=.inl (.inl h)
theorem Inv.list(I:Inv X pins σ H s)(h:SqL X.K H a xs):∃its:List Ac,Vals xs its/\PlainL s.heap a its.toArray/\xs.length<=sizeLine:=by
 rcases h with h |⟨o,its,n,hk,hc,hd,hs,hz,r⟩
 .obtain⟨z,its,n,r,e⟩:=h.ok I.hok;exact⟨its,r,⟨_,n,e,rfl,rfl,rfl⟩,z⟩
 .refine⟨its.toList,r,⟨o,n,I.kIn a o hk,hc,hd,by simpa using hs⟩,?_⟩;have e:=r.length;simp only[CL]at e;lia
theorem Inv.tuple(I:Inv X pins σ H s)(h:SqT X.K H a xs):∃its:List Ac,Vals xs its/\IsTup s.heap a its.toArray/\xs.length<=sizeLine:=by
 rcases h with h |⟨o,its,n,hk,hc,hs,hz,r⟩
 .obtain⟨z,its,r,p⟩:=h.ok I.hok;exact⟨its,r,p,z⟩
 .refine⟨its.toList,r,⟨o,I.kIn a o hk,hc,n,by simpa using hs⟩,?_⟩;have e:=r.length;simp only[CL]at e;lia
theorem Inv.list_inj(I:Inv X pins σ H s)(h:SqL X.K H a xs)(h':SqL X.K H a ys):xs=ys:=by
 obtain⟨its,r,⟨o,n,e,_,_,d⟩,_⟩:=I.list h;obtain⟨its',r',⟨o',n',e',_,_,d'⟩,_⟩:=I.list h';rw[e]at e';cases e';rw[d]at d';injection d' with d1 _;have:its=its':=by simpa using congrArg Array.toList d1
 subst this;exact r.inj r'
theorem Inv.tuple_inj(I:Inv X pins σ H s)(h:SqT X.K H a xs)(h':SqT X.K H a ys):xs=ys:=by
 obtain⟨its,r,⟨o,e,_,n,d⟩,_⟩:=I.tuple h;obtain⟨its',r',⟨o',e',_,n',d'⟩,_⟩:=I.tuple h';rw[e]at e';cases e';rw[d]at d';injection d' with d1 _;have:its=its':=by simpa using congrArg Array.toList d1
 subst this;exact r.inj r'
end
noncomputable abbrev Cx.wish(X:Cx)(E:Ac->Ae->Prop):Cx:={ X with xe:=E }
noncomputable abbrev Cx.nox(X:Cx):Cx:=X.wish λ_ _=>False
theorem Cx.Ok.wish{X:Cx}(ok:X.Ok)(E:Ac->Ae->Prop):(X.wish E).Ok :=
 ⟨ok.mod,ok.kind,ok.glob,ok.blt,ok.above,ok.inj,ok.has,ok.cab,ok.hd,ok.frames,ok.stk,ok.exf,ok.bs,ok.bsz,ok.noex,ok.exfs,ok.funs,ok.frf⟩
theorem Cx.Ok.unwish{X:Cx}{E:Ac->Ae->Prop}(ok:(X.wish E).Ok):X.Ok :=
 ⟨ok.mod,ok.kind,ok.glob,ok.blt,ok.above,ok.inj,ok.has,ok.cab,ok.hd,ok.frames,ok.stk,ok.exf,ok.bs,ok.bsz,ok.noex,ok.exfs,ok.funs,ok.frf⟩
section
variable {X:Cx}{pins:List (Addr×Obj)}{σ:St}{H:Hp}{s:Ae}{E:Ac->Ae->Prop}
theorem Inv.wish(I:Inv X pins σ H s)(E:Ac->Ae->Prop):Inv (X.wish E) pins σ H s:=⟨I.ok.wish E,I.os,I.bare,I.base,I.loc,I.cell,I.free,I.freeC,I.pin,I.hok,I.len⟩
theorem Inv.unwish(I:Inv (X.wish E) pins σ H s):Inv X pins σ H s:=⟨I.ok.unwish,I.os,I.bare,I.base,I.loc,I.cell,I.free,I.freeC,I.pin,I.hok,I.len⟩
theorem SP.unwish{D:Ends}{f:Flow}{s':Ae}(h:SP (X.wish E) pins D f s'):SP X pins D f s':=by
 cases f with
 |next=>obtain⟨σ',H',I,q⟩:=h;exact⟨σ',H',I.unwish,q⟩
 |brk=>obtain⟨σ',H',I,q⟩:=h;exact⟨σ',H',I.unwish,q⟩
 |cont=>obtain⟨σ',H',I,q⟩:=h;exact⟨σ',H',I.unwish,q⟩
 |ret u=>obtain⟨v,σ',H',I,r,q⟩:=h;exact⟨v,σ',H',I.unwish,r,q⟩
theorem PE.nox{e:Expr}{t:TE}(h:PE X.nox e t):PE X e t:=λpins s σ H Q I hw =>
 Bs (h pins s σ H Q (I.wish _) hw) (λ_ _ ⟨v,H',I',r,q⟩=>⟨v,H',I'.unwish,r,q⟩) λ_ _ z=>Bk z
theorem PSs.nox{st:List Stmt}{t:TS}(h:PSs X.nox st t):PSs X st t:=λpins s σ H D I hw =>
 Bs (h pins s σ H D (I.wish _) hw) (λ_ _ q=>q.unwish) λ_ _ z=>Bk z
end
section
variable {X:Cx}{st:Stmt}{rest:List Stmt}{t u:TS}{e:Expr}{te:TE}{pos:Pos}
noncomputable def tNext:TS:=λD σ H=>D.nx σ H
noncomputable def tSeq(t u:TS):TS:=λD σ H=>t { D with nx:=u D } σ H
theorem zaK:PSs X [] tNext:=λ_ _ σ H _ I h=>wpAny_execs_nil ⟨σ,H,I,h⟩
theorem zac(h1:PS X st t)(h2:PSs X rest u):PSs X (st::rest) (tSeq t u):=by
 intro pins s σ H D I h;refine wpAny_execs_cons (thn (h1 pins s σ H { D with nx:=u D } I h) λf s1 q=>?_)
 cases f with
 |next =>
  obtain⟨σ',H',I',q⟩:=q;exact h2 pins s1 σ' H' D I' q
 |ret v=>exact q
 |brk=>exact q
 |cont=>exact q
theorem zah(h1:PS X st t):PSs X [st] t:=by
 intro pins s σ H D I h;refine wpAny_execs_cons (thn (h1 pins s σ H D I h) λf s1 q=>?_)
 cases f with
 |next=>exact wpAny_execs_nil q
 |ret v=>exact q
 |brk=>exact q
 |cont=>exact q
theorem Inv.quiet{pins:List (Addr×Obj)}{σ:St}{H:Hp}{s:Ae}(I:Inv X pins σ H s):interactive X.env=false:=by simp[interactive,I.ok.kind]
noncomputable def tDrop(te:TE):TS:=λD σ H=>te σ H λ_ H1=>D.nx σ H1
theorem za1(he:PE X e te)(hs:swapsWith e none pos.line X.env=pure false:=by rfl):PS X (.Expr e pos) (tDrop te):=by intro pins s σ H D I h;exact wpAny_Expr_any (thn (he pins s σ H _ I h) λv s1 ⟨x,H1,I1,r1,q1⟩=>⟨σ,H1,I1,q1⟩) I.quiet hs
noncomputable def tRet(te:TE):TS:=λD σ H=>te σ H D.rt
theorem zal(he:PE X e te):PS X (.Return (some e) pos) (tRet te):=by intro pins s σ H D I h;exact wpAny_Return_some (thn (he pins s σ H _ I h) λv s1 ⟨x,H1,I1,r1,q1⟩=>⟨x,σ,H1,I1,r1,q1⟩)
noncomputable def tIfS(c:TT)(t u:TS):TS:=λD σ H=>c σ H λb H1=>if b=true then t D σ H1 else u D σ H1
theorem ps_if{c:Expr}{a b:List Stmt}{tc:TT}(hc:PT X c tc)(ha:PSs X a t)(hb:PSs X b u):PS X (.If c a b pos) (tIfS tc t u):=by
 intro pins s σ H D I h;refine wpAny_If (thn (hc pins s σ H _ I h) λd s1 ⟨H1,I1,q1⟩=>?_)
 cases d with
 |true=>exact ha pins s1 σ H1 D I1 q1
 |false=>exact hb pins s1 σ H1 D I1 q1
noncomputable def zlg:TS:=λ_ _ _=>False
theorem zgP:PS X st zlg:=λ_ _ _ _ _ _ h=>h.elim
end
noncomputable abbrev TG:=V->St->Hp->(St->Hp->Prop)->Prop
noncomputable abbrev TGs:=List V->St->Hp->(St->Hp->Prop)->Prop
noncomputable def PG(X:Cx)(target:Expr)(t:TG):Prop :=
 ∀(pins:List (Addr×Obj)) (s:Ae) (σ:St) (H:Hp) (v:V) (u:Ac) (Q:St->Hp->Prop),Inv X pins σ H s->RelV v u->t v σ H Q ->
  Ao (Ax X.prog X.w) X.A (assign target X.env u) (λ_ s'=>∃ σ' H',Inv X pins σ' H' s'/\Q σ' H') X.xe s
noncomputable def PGs(X:Cx)(ts:List Expr)(t:TGs):Prop :=
 ∀(pins:List (Addr×Obj)) (s:Ae) (σ:St) (H:Hp) (vs:List V) (us:List Ac) (Q:St->Hp->Prop),Inv X pins σ H s->Vals vs us->t vs σ H Q ->
  Ao (Ax X.prog X.w) X.A (assignInOrder ((Cp ts X.env).map (·.2)) us) (λ_ s'=>∃ σ' H',Inv X pins σ' H' s'/\Q σ' H') X.xe s
noncomputable abbrev TIp:=V->V->Hp->VK->Prop
noncomputable def PIp(X:Cx)(op:Operator)(t:TIp):Prop :=
 ∀(pins:List (Addr×Obj)) (s:Ae) (σ:St) (H:Hp) (x y:V) (v u:Ac) (Q:VK),Inv X pins σ H s->RelV x v->RelV y u->t x y H Q ->
  Ao (Ax X.prog X.w) X.A (inplaceOp op v u) (EP X pins σ Q) X.xe s
section
variable {X:Cx}{pos:Pos}
noncomputable def gName(i:Nat):TG:=λv σ H Q=>Q (σ.set i (some v)) H
theorem zbT{i:Nat}{x:Str}(hN:X.N.Nodup)(hi:X.N[i]?=some x)(hx:Loc X.env.scope x)(hf:X.fn x=true∨X.env.scope.names.lookup x=some .local:=by first |exact .inl rfl |exact .inr rfl |assumption):PG X (.Name x pos) (gName i):=by intro pins s σ H v u Q I r h;exact wpAny_assign_Name (zez I hN hi hx r (λs' I'=>⟨_,H,I',h⟩) hf)
noncomputable def gNil:TGs:=λvs σ H Q=>vs=[]/\Q σ H
noncomputable def gCons(t:TG)(u:TGs):TGs:=λvs σ H Q=>∃v r,vs=v::r/\t v σ H λσ' H'=>u r σ' H' Q
theorem zao:PGs X [] gNil:=by
 intro pins s σ H vs us Q I r h;obtain⟨e,h⟩:=h;subst e
 cases r
 exact assignInOrder_nil ⟨σ,H,I,h⟩
theorem zad{e:Expr}{es:List Expr}{t:TG}{u:TGs}(h1:PG X e t)(h2:PGs X es u)
  (hs:(Cp (e::es) X.env).map (·.2)=assign e X.env::(Cp es X.env).map (·.2):=by rfl):PGs X (e::es) (gCons t u):=by
 intro pins s σ H vs us Q I r h;obtain⟨v,vr,e1,h⟩:=h;subst e1
 cases r with
 |cons r rr =>
  rw[hs];refine assignInOrder_cons (thn (h1 pins s σ H _ _ _ I r h) λ_ s1 ⟨σ1,H1,I1,q1⟩=>?_);exact h2 pins s1 σ1 H1 _ _ Q I1 rr q1
noncomputable def gTup(K:W.Frag)(n:Nat)(t:TGs):TG:=λv σ H Q=>∃a xs,v=.ref a/\SqT K H a xs/\xs.length=n/\t xs σ H Q
theorem za2{es:List Expr}{k:Nat}{t:TGs}{n:Nat}(hc:X.calm=true)(h:PGs X es t)
  (hn:(Cp es X.env).length=n:=by rfl) (hst:(Cp es X.env).findIdx? (·.1)=none:=by rfl):PG X (.Tuple es k pos) (gTup X.K n t):=by
 intro pins s σ H v u Q I r hw;obtain⟨a,xs,e1,hq,hl,hw⟩:=hw;subst e1
 cases r
 obtain⟨its,rv,ht,hz⟩:=I.tuple hq;refine assign_Tuple_tuple (I.ok.hd hc) ht (by simp[hn,<- hl,rv.length]) hst λh' hx=>?_
 have I1:Inv X pins σ H { s with heap:=h' }:=I.kept (t':=s.toks) λb o e=>hx b o (AI (Av e)) e
 exact h pins _ σ H xs _ Q I1 (by simpa using rv) hw
noncomputable def tAsg(te:TE)(g:TG):TS:=λD σ H=>te σ H λx H1=>g x σ H1 D.nx
theorem zbf{tg e:Expr}{te:TE}{g:TG}(he:PE X e te)(hg:PG X tg g)(hs:swapsWithSole [tg] e pos.line X.env=pure false := by rfl)(hw:swappedStores [tg] e X.env=pure none := by rfl)
  (h1:(Cp [tg] X.env).map (·.2)=[assign tg X.env]:=by rfl):PS X (.Assign [tg] e pos) (tAsg te g):=by
 intro pins s σ H D I h;refine wpAny_Assign_stores (thn (he pins s σ H _ I h) λv s1 ⟨x,H1,I1,r1,q1⟩=>?_) hs hw;rw[h1];exact thn (hg pins s1 σ H1 x v _ I1 r1 q1) λ_ s2 q=>q
theorem zc8{i:Nat}{x:Str}{e:Expr}{te:TE}{pos':Pos}(hN:X.N.Nodup)(hi:X.N[i]? = some x)(hx:Loc X.env.scope x)(he:PE X e te)(hs:swapsWith e (some (.Name x pos')) pos.line X.env=pure false := by rfl)(hf:X.fn x=true ∨ X.env.scope.names.lookup x=some .local := by first |exact .inl rfl |exact .inr rfl |assumption) :
  PS X (.Assign [.Name x pos'] e pos) (tAsg te (gName i)):=by
 intro pins s σ H D I h;refine wpAny_Assign_Name (thn (he pins s σ H _ I h) λv s1 ⟨y,H1,I1,r1,q1⟩=>?_) hs;exact zez I1 hN hi hx r1 (λs2 I2=>⟨_,H1,I2,q1⟩) hf
noncomputable def tAug(i:Nat)(te:TE)(ti:TIp):TS:=λD σ H=>∃x,σ[i]?=some (some x)/\te σ H λy H1=>ti x y H1 λz H2=>D.nx (σ.set i (some z)) H2
theorem zlB{i:Nat}{x:Str}{e:Expr}{te:TE}{op:Operator}{ti:TIp}{pos':Pos}(hN:X.N.Nodup)(hi:X.N[i]? = some x)(hx:Loc X.env.scope x)(he:PE X e te)(ho:PIp X op ti)(hf:X.fn x=true ∨ X.env.scope.names.lookup x=some .local := by first |exact .inl rfl |exact .inr rfl |assumption) :
  PS X (.AugAssign (.Name x pos') op e pos) (tAug i te ti):=by
 intro pins s σ H D I h;obtain⟨v,e1,h⟩:=h;obtain⟨m,hn,hl⟩:=I.loc;have vis:Vis X.env.scope x:=by rcases hx with k |k;exact .inl k;exact .inr (.inl k)
 obtain⟨u,r,l⟩:=hl i x v hi e1 vis;refine wpAny_AugAssign_Name ?_
 have go:Ao (Ax X.prog X.w) X.A (eval e X.env) (λw s₂=>Ao (Ax X.prog X.w) X.A (inplaceOp op u w) (λr s₃=>Ao (Ax X.prog X.w) X.A (storeName X.env x r) (λ_=>SP X pins D .next) X.xe s₃) X.xe s₂) X.xe s:=by
  refine thn (he pins s σ H _ I h) λw s1 ⟨y,H1,I1,r1,q1⟩=>?_
  refine thn (ho pins s1 σ H1 v y u w _ I1 r r1 q1) λz s2 ⟨zv,H2,I2,r2,q2⟩=>?_
  exact zez I2 hN hi hx r2 (λs3 I3=>⟨_,H2,I3,q2⟩) hf
 rcases l with⟨hk,hm⟩ |⟨hk,c,hc,hcell⟩
 .exact wpAny_loadName_local I.ok.kind hk hn hm go
 .rcases hk with hk |hk
  .exact wpAny_loadName_cell I.ok.kind hk hc hcell go
  .rcases hx with k |k
   .have:X.env.scope.names.lookup x=some .free:=hk;rw[k]at this;cases this
   .have:X.env.scope.names.lookup x=some .free:=hk;rw[k]at this;cases this
noncomputable def ipI(f:Int->Int->Int):TIp:=λx y H Q=>∃i j,x=.int i/\y=.int j/\Q (.int (f i j)) H
theorem zlU:PIp X .Add (ipI λi j=>i+j):=by intro pins s σ H x y v u Q I r1 r2 h;obtain⟨i,j,e1,e2,q⟩:=h;subst e1;subst e2;obtain⟨t,rfl⟩:=r1;obtain⟨t',rfl⟩:=r2;exact iadd_int ⟨.int _,H,I.tok _,⟨_,rfl⟩,q⟩
end
section
variable {X:Cx}{pos:Pos}
noncomputable def zkc(c:TT)(tb:TS):TS:=λD σ H=>∃W:Nat->St->Hp->Prop,(∃m,W m σ H)/\∀m σ H,W m σ H ->
 c σ H λb H1=>if b=true then ∃N:St->Hp->Prop,(∀ σ' H',N σ' H'->∃m',m'<m/\W m' σ' H')/\tb { D with nx:=N,ct:=N,bk:=D.nx } σ H1 else D.nx σ H1
theorem zgO{c:Expr}{body:List Stmt}{tc:TT}{tb:TS}(hp:PassesOwn (Ax X.prog X.w) X.A X.env X.xe)(hc:PT X c tc)(hb:PSs X body tb):PS X (.While c body [] pos) (zkc tc tb):=by
 intro pins s σ H D I h;obtain⟨W,⟨m0,w0⟩,turn⟩:=h;refine wpAny_While (codeAny_whileLoop (λn s'=>∃ σ' H',Inv X pins σ' H' s'/\W n σ' H') ?_ m0 ⟨σ,H,I,w0⟩);rintro n s1 ⟨σ1,H1,I1,w1⟩;refine CB hp (thn (hc pins s1 σ1 H1 _ I1 (turn n σ1 H1 w1)) λb s2 ⟨H2,I2,q2⟩=>?_)
 cases b with
 |true =>
  obtain⟨N,hN,q2⟩:=q2;rw[if_pos rfl];refine CB hp (thn (hb pins s2 σ1 H2 _ I2 q2) λf s3 q3=>?_)
  cases f with
  |next =>
   obtain⟨σ3,H3,I3,n3⟩:=q3;obtain⟨m',hm,w3⟩:=hN σ3 H3 n3;exact⟨m',hm,σ3,H3,I3,w3⟩
  |cont =>
   obtain⟨σ3,H3,I3,n3⟩:=q3;obtain⟨m',hm,w3⟩:=hN σ3 H3 n3;exact⟨m',hm,σ3,H3,I3,w3⟩
  |brk=>exact q3
  |ret v=>exact q3
 |false =>
  rw[if_neg AN];exact wpAny_execs_nil ⟨σ1,H2,I2,q2⟩
end
structure It where
 go:Nat->Hp->Prop
 yld:Nat->Hp->V->Hp->Prop
 stop:Nat->Hp->Prop
noncomputable def FpOk(X:Cx)(pins:List (Addr×Obj))(H:Hp)(b:Addr):Prop :=
 H b=none/\b≠X.env.locals/\b ∉ X.fs/\(b∈X.ex∨X.s₀.heap.objs.size<=b)/\(∀x c,X.env.cells.lookup x=some c->c≠b)/\∀p∈X.pn++pins,p.1≠b
theorem Inv.fpOk{X:Cx}{pins:List (Addr×Obj)}{σ:St}{H H':Hp}{s:Ae}{b:Addr}(I:Inv X pins σ H s)(hb:s.heap.objs.size<=b)(hn:H' b=none):FpOk X pins H' b:=by
 refine⟨hn,B4 (AB I.lt hb),I.nofs hb,.inr (AO I.sz hb),λx c e z=>?_,λp hp z=>?_⟩
 .obtain⟨v,q⟩:=I.cell x c e;exact absurd (AB q.lt (by rw[z];exact hb)) (BY _)
 .exact absurd (AB (Av (I.pin p hp).1) (by rw[z];exact hb)) (BY _)
structure Turn (P:AH) (w:A4) (K:W.Frag) (tg:Expr) (J:It) (fp:List Addr) (it:Addr) (tn:Nat->Heap->Prop):Prop where
 mem:it∈fp
 obj:∀i h,tn i h->∀b∈fp,∃o,h.get? b=some o/\∀v,o.data≠.cell v
 keep:∀i h h',tn i h->(∀b∈fp,∀o,h.get? b=some o->h'.get? b=some o)->tn i h'
 item:∀(X:Cx),X.prog=P->X.w=w->X.K=K->X.calm=true->∀(i:Nat) (pins:List (Addr×Obj)) (s:Ae) (σ:St) (H:Hp) (E:Ac->Ae->Prop),Inv X pins σ H s->(∀b∈fp,FpOk X pins H b)->tn i s.heap->J.go i H ->
  Ao (Ax P w) X.A (Dy (.ref it)) (λr s1=>∃u,r=some u /\
   Ao (Ax P w) X.A (letOwnedTupleGo tg (.ref it) u) (λ_ s2=>∃x H',Inv X pins σ H' s2/\RelV x u/\J.yld i H x H'/\tn (i+1) s2.heap/\∀b∈fp,H' b=none) E s1) E s
 done:∀(X:Cx),X.prog=P->X.w=w->X.K=K->X.calm=true->∀(i:Nat) (pins:List (Addr×Obj)) (s:Ae) (σ:St) (H:Hp) (E:Ac->Ae->Prop),Inv X pins σ H s->(∀b∈fp,FpOk X pins H b)->tn i s.heap->J.stop i H ->
  Ao (Ax P w) X.A (Dy (.ref it)) (λr s1=>r=none/\Inv X pins σ H s1) E s
 self:∀(A:AJ) (i:Nat) (s:Ae) (Q:Ac->Ae->Prop) (E:Ac->Ae->Prop),tn i s.heap->Q (.ref it) s->Ao (Ax P w) A (pyIter (.ref it)) Q E s
noncomputable abbrev TI:=St->Hp->(It->Hp->Prop)->Prop
noncomputable def PIE(X:Cx)(pins:List (Addr×Obj))(σ:St)(tg:Expr)(R:It->Hp->Prop)(itv:Ac)(s2:Ae):Prop :=
 ∃(it:Addr) (fp:List Addr) (tn:Nat->Heap->Prop) (J:It) (H':Hp),itv=.ref it/\Inv X pins σ H' s2/\Turn X.prog X.w X.K tg J fp it tn/\tn 0 s2.heap/\(∀b∈fp,FpOk X pins H' b)/\R J H'
noncomputable def PI(X:Cx)(tg iter:Expr)(wi:TI):Prop :=
 ∀(pins:List (Addr×Obj)) (s:Ae) (σ:St) (H:Hp) (R:It->Hp->Prop),Inv X pins σ H s->wi σ H R ->
  Ao (Ax X.prog X.w) X.A (eval iter X.env) (λv s1=>Ao (Ax X.prog X.w) X.A (pyIter v) (PIE X pins σ tg R) X.xe s1) X.xe s
theorem go_of {M : Model}{A : AJ}{E : Ac → Ae → Prop}{s : Ae}{tg : Expr}{it : Addr}{u : Ac}{o : Obj}{n : String}{vs : Array Ac}{Q : Unit → Ae → Prop}(ho : s.heap.get? it = some o) (hc : o.cls = .type n) (hd : o.data = .fields vs)
    (hn:["enumerate","zip","dict_itemiterator","dict_reverseitemiterator","odict_iterator","itertools.zip_longest","itertools.pairwise"].contains n=false) (hQ:Q () s):Ao M A (letOwnedTupleGo tg (.ref it) u) Q E s:=by
  unfold letOwnedTupleGo
  cases tg <;> first
    | exact Ah hQ
    | (cases u <;> first
        | exact Ah hQ
        | (refine Ab (wpAny_load ho ?_)
           rw[hc,hd]
           show Ao M A (if (["enumerate","zip","dict_itemiterator","dict_reverseitemiterator","odict_iterator","itertools.zip_longest","itertools.pairwise"].contains n && vs[0]? == some (CI _))=true then _ else _) Q E s
           rw[if_neg (by intro h;rw[hn,Bool.false_and] at h;cases h)]
           exact Ah hQ))
noncomputable def Itl(K:W.Frag)(a:Addr):It :=
 ⟨λi H=>∃xs x,SqL K H a xs/\xs[i]?=some x,λi H x H'=>H'=H/\∀xs,SqL K H a xs->xs[i]?=some x,λi H=>∃xs,SqL K H a xs/\xs.length<=i⟩
noncomputable def Itt(K:W.Frag)(a:Addr):It :=
 ⟨λi H=>∃xs x,SqT K H a xs/\xs[i]?=some x,λi H x H'=>H'=H/\∀xs,SqT K H a xs->xs[i]?=some x,λi H=>∃xs,SqT K H a xs/\xs.length<=i⟩
noncomputable def Itr(lo:Int)(n:Nat):It:=⟨λi _=>i<n,λi H x H'=>H'=H/\x=.int (lo+i),λi _=>n<=i⟩
theorem zhP{P:AH}{w:A4}{K:W.Frag}{tg:Expr}(a it:Addr):Turn P w K tg (Itl K a) [it] it (λi h=>h.IsListIter it a i) where
 mem:=by simp
 obj:=λi h st b hb=>by
  have e:b=it:=by simpa using hb
  subst e;obtain⟨o,e,c,d⟩:=st;exact⟨o,e,λv z=>by rw[d]at z;cases z⟩
 keep:=λi h h' st k=>st.at λo e=>k it (by simp) o e
 item:=by
  intro X hP hw hK hc i pins s σ H E I hf st hg;subst hP hw hK;obtain⟨xs,x,hq,hx⟩:=hg;obtain⟨its,rv,p,hz⟩:=I.list hq;obtain⟨u,hu,ru⟩:=rv.get hx;obtain⟨f0,f1,f2,f3,f4,f5⟩:=hf it (by simp);refine wpAny_pyNext_list_item st p.isList (x:=u) (by simpa using hu) λh' st' sb=>?_
  have I1:Inv X pins σ H { s with heap:=h' }:=I.turned (t':=s.toks) (λb o hb e=>(sb.2 b hb).trans e) f0 f1 f3 f4 f5;obtain⟨o,e,c,d⟩:=id st';exact⟨u,rfl,go_of (s:={ s with heap:=h' }) e c d (by decide) ⟨x,H,I1,ru,⟨rfl,λys hy=>by rw[I.list_inj hy hq];exact hx⟩,st',λb hb=>(hf b hb).1⟩⟩
 done:=by intro X hP hw hK hc i pins s σ H E I hf st hg;subst hP hw hK;obtain⟨xs,hq,hx⟩:=hg;obtain⟨its,rv,p,hz⟩:=I.list hq;obtain⟨f0,f1,f2,f3,f4,f5⟩:=hf it (by simp);have hl:=rv.length;exact wpAny_pyNext_list_end (I.ok.hd hc) st p.isList (by simp;lia) λh' eb=>⟨rfl,I.turned (t':=s.toks) (λb o hb e=>eb b o hb e) f0 f1 f3 f4 f5⟩
 self:=λ_ _ _ _ _ st h=>wpAny_pyIter_listiter st h
theorem zhg{P:AH}{w:A4}{K:W.Frag}{tg:Expr}(a it:Addr):Turn P w K tg (Itt K a) [it] it (λi h=>h.IsTupleIter it a i) where
 mem:=by simp
 obj:=λi h st b hb=>by
  have e:b=it:=by simpa using hb
  subst e;obtain⟨o,e,c,d⟩:=st;exact⟨o,e,λv z=>by rw[d]at z;cases z⟩
 keep:=λi h h' st k=>st.at λo e=>k it (by simp) o e
 item:=by
  intro X hP hw hK hc i pins s σ H E I hf st hg;subst hP hw hK;obtain⟨xs,x,hq,hx⟩:=hg;obtain⟨its,rv,p,hz⟩:=I.tuple hq;obtain⟨u,hu,ru⟩:=rv.get hx;obtain⟨f0,f1,f2,f3,f4,f5⟩:=hf it (by simp);refine wpAny_pyNext_tuple_item st (show s.heap.IsTuple a its.toArray from p) (x:=u) (by simpa using hu) λh' st' sb=>?_
  have I1:Inv X pins σ H { s with heap:=h' }:=I.turned (t':=s.toks) (λb o hb e=>(sb.2 b hb).trans e) f0 f1 f3 f4 f5;obtain⟨o,e,c,d⟩:=id st';exact⟨u,rfl,go_of (s:={ s with heap:=h' }) e c d (by decide) ⟨x,H,I1,ru,⟨rfl,λys hy=>by rw[I.tuple_inj hy hq];exact hx⟩,st',λb hb=>(hf b hb).1⟩⟩
 done:=by intro X hP hw hK hc i pins s σ H E I hf st hg;subst hP hw hK;obtain⟨xs,hq,hx⟩:=hg;obtain⟨its,rv,p,hz⟩:=I.tuple hq;obtain⟨f0,f1,f2,f3,f4,f5⟩:=hf it (by simp);have hl:=rv.length;exact wpAny_pyNext_tuple_end (I.ok.hd hc) st (show s.heap.IsTuple a its.toArray from p) (by simp;lia) λh' eb=>⟨rfl,I.turned (t':=s.toks) (λb o hb e=>eb b o hb e) f0 f1 f3 f4 f5⟩
 self:=λ_ _ _ _ _ st h=>wpAny_pyIter_tupleiter st h
theorem zd9{P:AH}{w:A4}{K:W.Frag}{tg:Expr}(it:Addr)(lo:Int)(n:Nat):Turn P w K tg (Itr lo n) [it] it (λi h=>IsRangeIter h it (lo+(i:Nat)*1) ((n:Int)-(i:Nat)) 1) where
 mem:=by simp
 obj:=λi h st b hb=>by
  have e:b=it:=by simpa using hb
  subst e
  exact⟨_,st,λv z=>by
   have z':Data.fields _=Data.cell v:=z
   cases z'⟩
 keep:=λi h h' st k=>k it (by simp) _ st
 item:=by
  intro X hP hw hK hc i pins s σ H E I hf st hg;subst hP hw hK;obtain⟨f0,f1,f2,f3,f4,f5⟩:=hf it (by simp);have W:=Walks.range (prog:=X.prog) (w:=X.w) (I.ok.hd hc) it lo 1 n;refine W.item i s _ _ hg st λv h' tk hv st' kk=>?_
  obtain⟨t,rfl⟩:=hv;have I1:Inv X pins σ H { s with heap:=h',toks:=tk }:=I.turned (λb o hb e=>kk b o (by simpa using hb) e) f0 f1 f3 f4 f5;refine⟨_,rfl,go_of (s:={ s with heap:=h',toks:=tk }) (n:="range_iterator") st' rfl rfl (by decide) ⟨.int (lo+i),H,I1,⟨t,?_⟩,⟨rfl,rfl⟩,st',λb hb=>(hf b hb).1⟩⟩;rw[Int.mul_one]
 done:=by intro X hP hw hK hc i pins s σ H E I hf st hg;subst hP hw hK;obtain⟨f0,f1,f2,f3,f4,f5⟩:=hf it (by simp);exact wpAny_pyNext_range_end (I.ok.hd hc) st (by have:n<=i:=hg;lia) λh' eb=>⟨rfl,I.turned (t':=s.toks) (λb o hb e=>eb b o hb e) f0 f1 f3 f4 f5⟩
 self:=λ_ _ _ _ _ st h=>wpAny_pyIter_rangeiter st h
section
variable {X:Cx}{tg:Expr}
noncomputable def iList(K:W.Frag)(tl:TE):TI:=λσ H R=>tl σ H λx H1=>∃a,x=.ref a/\(∃xs,SqL K H1 a xs)/\R (Itl K a) H1
noncomputable def iTup(K:W.Frag)(tl:TE):TI:=λσ H R=>tl σ H λx H1=>∃a,x=.ref a/\(∃xs,SqT K H1 a xs)/\R (Itt K a) H1
theorem zaO{l:Expr}{tl:TE}(hl:PE X l tl):PI X tg l (iList X.K tl):=by
 intro pins s σ H R I h;refine thn (hl pins s σ H _ I h) λv s1 ⟨x,H1,I1,r1,q1⟩=>?_
 obtain⟨a,e,⟨xs,hq⟩,q⟩:=q1;subst e
 cases r1
 obtain⟨its,rv,p,hz⟩:=I1.list hq;refine Dg p.isList ?_
 refine⟨s1.heap.objs.size,[s1.heap.objs.size],_,_,H1,rfl,I1.kept (t':=s1.toks) λb o e=>Af _ e,zhP a _,⟨_,Aq _ rfl,rfl,rfl⟩,λb hb=>?_,q⟩;have e:b=s1.heap.objs.size:=by simpa using hb
 subst e;exact I1.fpOk (Ai _) (I1.hok.fresh (Ai _))
theorem zlC{l:Expr}{tl:TE}(hl:PE X l tl):PI X tg l (iTup X.K tl):=by
 intro pins s σ H R I h;refine thn (hl pins s σ H _ I h) λv s1 ⟨x,H1,I1,r1,q1⟩=>?_
 obtain⟨a,e,⟨xs,hq⟩,q⟩:=q1;subst e
 cases r1
 obtain⟨its,rv,p,hz⟩:=I1.tuple hq;refine wpAny_pyIter_tuple (show s1.heap.IsTuple a its.toArray from p) ?_
 refine⟨s1.heap.objs.size,[s1.heap.objs.size],_,_,H1,rfl,I1.kept (t':=s1.toks) λb o e=>Af _ e,zhg a _,⟨_,Aq _ rfl,rfl,rfl⟩,λb hb=>?_,q⟩;have e:b=s1.heap.objs.size:=by simpa using hb
 subst e;exact I1.fpOk (Ai _) (I1.hok.fresh (Ai _))
theorem zjF{pins:List (Addr × Obj)}{σ : St}{H:Hp}{s:Ae}{R:It -> Hp -> Prop}{E:Ac -> Ae -> Prop}{lo hi:Int}{t u v:Tok}{tk:Nat}(I:Inv X pins σ H s)(h1 : -(2 ^ 62) <= lo)(h2:lo < 2 ^ 62)(h3 : -(2 ^ 62) <= hi)(h4:hi < 2 ^ 62)
  (q:R (Itr lo (hi-lo).toNat) H):Ao (Ax X.prog X.w) X.A (pyIter (.ref s.heap.objs.size)) (PIE X pins σ tg R) E { s with heap:=s.heap.push { cls:=.type "range",data:=.fields #[.int lo t,.int hi u,.int 1 v] },toks:=tk }:=by
 refine wpAny_pyIter_range (IsRange.new ..) (small_one h1 h2 h3 h4) ?_
 have I1:Inv X pins σ H { s with heap:=s.heap.push { cls:=.type "range",data:=.fields #[.int lo t,.int hi u,.int 1 v] },toks:=tk }:=I.kept λb o e=>Af _ e
 refine⟨(s.heap.push { cls:=.type "range",data:=.fields #[.int lo t,.int hi u,.int 1 v] }).objs.size,[(s.heap.push { cls:=.type "range",data:=.fields #[.int lo t,.int hi u,.int 1 v] }).objs.size],_,_,H,rfl,
  I1.kept (t':=tk) λb o e=>Af _ e,zd9 _ lo (hi-lo).toNat,?_,λb hb=>?_,q⟩
 .have e1:lo+((0:Nat):Int)*1=lo:=by simp
  have e2:(((hi-lo).toNat:Nat):Int)-((0:Nat):Int)=DP lo hi 1:=by rw[rangeSize_one];split <;> lia
  show IsRangeIter _ _ (lo+((0:Nat):Int)*1) ((((hi-lo).toNat:Nat):Int)-((0:Nat):Int)) 1;rw[e1,e2];exact Aq _ rfl
 .have e:b=(s.heap.push { cls:=.type "range",data:=.fields #[.int lo t,.int hi u,.int 1 v] }).objs.size:=by simpa using hb
  subst e;exact I1.fpOk (Ai _) (I1.hok.fresh (Ai _))
noncomputable def iRng1(ta:TA):TI:=λσ H R=>ta σ H λvs H1=>∃j:Int,vs=[.int j]/\-(2 ^ 62)<=j/\j<2 ^ 62/\R (Itr 0 j.toNat) H1
theorem zbp {a:Expr}{ta:TA}{p pos:Pos}(hg:Gl X "range") (hm:X.mg "range" = none) (ha:PA X [a] ta) (hs:A8 [a] X.env=[(false,eval a X.env)]:=by rfl):PI X tg (.Call (.Name "range" p) [a] [] pos) (iRng1 ta):=by
 intro pins s σ H R I h;refine Call_ (zch I hg hm boot_range (BH (thn (ha pos pins s σ H _ I h) λus s1 ⟨vs,H1,I1,r1,q1⟩=>?_) hs rfl));obtain⟨j,e,q1,q2,q⟩:=q1;subst e
 cases r1 with
 |cons r rr =>
  cases rr
  obtain⟨t,rfl⟩:=r;exact call_range_1 (zjF I1 (by lia) (by lia) q1 q2 (by simpa using q))
noncomputable def tFor(wi:TI)(g:TG)(tb:TS):TS:=λD σ H=>wi σ H λJ H1=>∃W:Nat->Nat->St->Hp->Prop,(∃m,W 0 m σ H1)/\∀i m σ H,W i m σ H ->
 (J.stop i H/\D.nx σ H)∨(J.go i H/\∃N:St->Hp->Prop,(∀ σ' H',N σ' H'->∃m',m'<m/\W (i+1) m' σ' H')/\∀x H',J.yld i H x H'->g x σ H' λσ2 H2=>tb { D with nx:=N,ct:=N,bk:=D.nx } σ2 H2)
noncomputable def zcu(fp:List Addr)(h:Heap):List (Addr×Obj):=fp.filterMap λb=>(h.get? b).map λo=>(b,o)
theorem zay{fp:List Addr}{h:Heap}{b:Addr}{o:Obj}(hb:b∈fp)(e:h.get? b=some o):(b,o)∈zcu fp h:=List.mem_filterMap.mpr ⟨b,hb,by rw[e];rfl⟩
theorem ziy{fp:List Addr}{h:Heap}{p:Addr×Obj}(hp:p∈zcu fp h):p.1∈fp/\h.get? p.1=some p.2:=by
 obtain⟨b,hb,e⟩:=List.mem_filterMap.mp hp
 cases q:h.get? b with
 |none=>rw[q]at e;cases e
 |some o =>
  rw[q]at e;have e':(b,o)=p:=Bc e;subst e';exact⟨hb,q⟩
theorem Inv.pinned{pins:List (Addr×Obj)}{σ:St}{H:Hp}{s:Ae}{fp:List Addr}(I:Inv X pins σ H s)(hf:∀b∈fp,FpOk X pins H b)(ho:∀b∈fp,∃o,s.heap.get? b=some o/\∀v,o.data≠.cell v):Inv X (pins++zcu fp s.heap) σ H s :=
 I.pins_of λp hp=>(AW.mp hp).elim (λz=>I.pin p (Am _ z)) λz=>by obtain⟨hb,e⟩:=ziy z;obtain⟨f0,f1,f2,_⟩:=hf p.1 hb;obtain⟨o,e',d⟩:=ho p.1 hb;rw[e]at e';cases e';exact⟨e,f0,f1,f2,d⟩
theorem Inv.unpinned{pins pl:List (Addr×Obj)}{σ:St}{H:Hp}{s:Ae}(I:Inv X (pins++pl) σ H s):Inv X pins σ H s:=I.pins_of λp hp=>I.pin p (Am _ (Ck _ hp))
theorem zbo{iter:Expr}{body:List Stmt}{wi:TI}{g:TG}{tb:TS}{pos:Pos}(hp:PassesOwn (Ax X.prog X.w) X.A X.env X.xe)(hc:X.calm=true)(hi:PI X tg iter wi)(hg:PG X tg g)(hb:PSs X body tb)
  (hs:∀x,foldedSetIterable iter X.env x=pure x:=by intro _;rfl):PS X (.For tg iter body [] pos) (tFor wi g tb):=by
 intro pins s σ H D I h;refine wpAny_For (thn (hi pins s σ H _ I h) λv s1 h1=>thn h1 λitv s2 h2=>?_) hs;obtain⟨it,fp,tn,J,H2,e,I2,T,st2,f2,W,⟨m0,w0⟩,turn⟩:=h2;subst e;have stat:∀{H':Hp},(∀b∈fp,H' b=none)->∀b∈fp,FpOk X pins H' b:=λhn b hb=>⟨hn b hb,(f2 b hb).2⟩
 refine codeAny_forLoop_any (λn s'=>∃i σ' H',Inv X pins σ' H' s'/\tn i s'.heap/\(∀b∈fp,H' b=none)/\W i n σ' H') ?_ m0 ⟨0,σ,H2,I2,st2,λb hb=>(f2 b hb).1,w0⟩;rintro n s3 ⟨i,σ3,H3,I3,st3,fr3,w3⟩;rcases turn i n σ3 H3 w3 with⟨stop,qn⟩ |⟨go,N,hN,step⟩
 .refine CB hp (thn (T.done X rfl rfl rfl hc i pins s3 σ3 H3 X.xe I3 (stat fr3) st3 stop) λr s4 ⟨hr,I4⟩=>?_);subst hr;exact wpAny_execs_nil ⟨σ3,H3,I4,qn⟩
 .refine CB hp (thn (T.item X rfl rfl rfl hc i pins s3 σ3 H3 X.xe I3 (stat fr3) st3 go) λr s4 ⟨u,hr,h4⟩=>?_);subst hr;refine CB hp (thn h4 λ_ s5 ⟨x,H5,I5,r5,y5,st5,fr5⟩=>?_);have I5':=I5.pinned (stat fr5) (T.obj _ _ st5);refine CB hp (thn (hg _ s5 σ3 H5 x u _ I5' r5 (step x H5 y5)) λ_ s6 ⟨σ6,H6,I6,q6⟩=>?_);refine CB hp (thn (hb _ s6 σ6 H6 _ I6 q6) λf s7 q7=>?_)
  have again:∀{σ7:St} {H7:Hp},Inv X (pins++zcu fp s5.heap) σ7 H7 s7->N σ7 H7->∃m,m<n/\∃i σ' H',Inv X pins σ' H' s7/\tn i s7.heap/\(∀b∈fp,H' b=none)/\W i m σ' H':=λ{σ7 H7} I7 n7=>by obtain⟨m',hm,w7⟩:=hN σ7 H7 n7;refine⟨m',hm,i+1,σ7,H7,I7.unpinned,T.keep _ _ _ st5 λb hb o e=>(I7.pin (b,o) (Am _ (Am _ (zay hb e)))).1,λb hb=>?_,w7⟩;obtain⟨o,e,d⟩:=T.obj _ _ st5 b hb;exact (I7.pin (b,o) (Am _ (Am _ (zay hb e)))).2.1
  cases f with
  |next=>obtain⟨σ7,H7,I7,n7⟩:=q7;exact again I7 n7
  |cont=>obtain⟨σ7,H7,I7,n7⟩:=q7;exact again I7 n7
  |brk=>obtain⟨σ7,H7,I7,q7⟩:=q7;exact⟨σ7,H7,I7.unpinned,q7⟩
  |ret v=>obtain⟨x7,σ7,H7,I7,r7,q7⟩:=q7;exact⟨x7,σ7,H7,I7.unpinned,r7,q7⟩
end
theorem zaA{K:W.Frag}{a:Addr}{xs:List V}{g:TG}{tb:TS}{D:Ends}{σ : St}{H:Hp}(Pv:Nat -> St -> Hp -> Prop)(h0:Pv 0 σ H)(hl:∀i σ H, i <= xs.length -> Pv i σ H -> SqL K H a xs)
  (hs:∀i x σ H,xs[i]?=some x->Pv i σ H->g x σ H λσ2 H2=>tb { D with nx:=Pv (i+1),ct:=Pv (i+1),bk:=D.nx } σ2 H2) (hd:∀ σ H,Pv xs.length σ H->D.nx σ H) :
  ∃W:Nat->Nat->St->Hp->Prop,(∃m,W 0 m σ H)/\∀i m σ H,W i m σ H ->
   ((Itl K a).stop i H/\D.nx σ H)∨((Itl K a).go i H/\∃N:St->Hp->Prop,(∀ σ' H',N σ' H'->∃m',m'<m/\W (i+1) m' σ' H')/\∀x H',(Itl K a).yld i H x H'->g x σ H' λσ2 H2=>tb { D with nx:=N,ct:=N,bk:=D.nx } σ2 H2):=by
 refine⟨λi m σ H=>m=xs.length-i/\i<=xs.length/\Pv i σ H,⟨xs.length,by simp,AZ _,h0⟩,?_⟩;rintro i m σ H ⟨rfl,hi,p⟩;have q:=hl i σ H hi p
 by_cases hlt:i<xs.length
 .refine .inr ⟨⟨xs,xs[i],q,by simp[hlt]⟩,Pv (i+1),λσ' H' p'=>⟨xs.length-(i+1),by lia,rfl,hlt,p'⟩,λx H' y=>?_⟩;obtain⟨e,y⟩:=y;subst e;exact hs i x σ _ (y xs q) p
 .have e:i=xs.length:=by lia
  subst e;exact .inl ⟨⟨xs,q,Ai _⟩,hd σ H p⟩
theorem zk7{K:W.Frag}{a:Addr}{xs:List V}{g:TG}{tb:TS}{D:Ends}{σ : St}{H:Hp}(Pv:Nat -> St -> Hp -> Prop)(h0:Pv 0 σ H)(hl:∀i σ H, i <= xs.length -> Pv i σ H -> SqT K H a xs)
  (hs:∀i x σ H,xs[i]?=some x->Pv i σ H->g x σ H λσ2 H2=>tb { D with nx:=Pv (i+1),ct:=Pv (i+1),bk:=D.nx } σ2 H2) (hd:∀ σ H,Pv xs.length σ H->D.nx σ H) :
  ∃W:Nat->Nat->St->Hp->Prop,(∃m,W 0 m σ H)/\∀i m σ H,W i m σ H ->
   ((Itt K a).stop i H/\D.nx σ H)∨((Itt K a).go i H/\∃N:St->Hp->Prop,(∀ σ' H',N σ' H'->∃m',m'<m/\W (i+1) m' σ' H')/\∀x H',(Itt K a).yld i H x H'->g x σ H' λσ2 H2=>tb { D with nx:=N,ct:=N,bk:=D.nx } σ2 H2):=by
 refine⟨λi m σ H=>m=xs.length-i/\i<=xs.length/\Pv i σ H,⟨xs.length,by simp,AZ _,h0⟩,?_⟩;rintro i m σ H ⟨rfl,hi,p⟩;have q:=hl i σ H hi p
 by_cases hlt:i<xs.length
 .refine .inr ⟨⟨xs,xs[i],q,by simp[hlt]⟩,Pv (i+1),λσ' H' p'=>⟨xs.length-(i+1),by lia,rfl,hlt,p'⟩,λx H' y=>?_⟩;obtain⟨e,y⟩:=y;subst e;exact hs i x σ _ (y xs q) p
 .have e:i=xs.length:=by lia
  subst e;exact .inl ⟨⟨xs,q,Ai _⟩,hd σ H p⟩
theorem za7{lo:Int}{n:Nat}{g:TG}{tb:TS}{D:Ends}{σ : St}{H:Hp}(Pv:Nat -> St -> Hp -> Prop)(h0:Pv 0 σ H)
  (hs:∀i σ H,i<n->Pv i σ H->g (.int (lo+i)) σ H λσ2 H2=>tb { D with nx:=Pv (i+1),ct:=Pv (i+1),bk:=D.nx } σ2 H2) (hd:∀ σ H,Pv n σ H->D.nx σ H) :
  ∃W:Nat->Nat->St->Hp->Prop,(∃m,W 0 m σ H)/\∀i m σ H,W i m σ H ->
   ((Itr lo n).stop i H/\D.nx σ H)∨((Itr lo n).go i H/\∃N:St->Hp->Prop,(∀ σ' H',N σ' H'->∃m',m'<m/\W (i+1) m' σ' H')/\∀x H',(Itr lo n).yld i H x H'->g x σ H' λσ2 H2=>tb { D with nx:=N,ct:=N,bk:=D.nx } σ2 H2):=by
 refine⟨λi m σ H=>m=n-i/\i<=n/\Pv i σ H,⟨n,by simp,AZ _,h0⟩,?_⟩;rintro i m σ H ⟨rfl,hi,p⟩
 by_cases hlt:i<n
 .refine .inr ⟨hlt,Pv (i+1),λσ' H' p'=>⟨n-(i+1),by lia,rfl,hlt,p'⟩,λx H' y=>?_⟩;obtain⟨e,y⟩:=y;subst e y;exact hs i σ _ hlt p
 .have e:i=n:=by lia
  subst e;exact .inl ⟨Ai _,hd σ H p⟩
theorem zjt{c:TT}{tb:TS}{D:Ends}{σ : St}{H:Hp}(Pv:St -> Hp -> Prop)(μ : St -> Hp -> Nat)(h0:Pv σ H)
  (hs:∀ σ H,Pv σ H->c σ H λb H1=>if b=true then tb { D with nx:=λσ' H'=>Pv σ' H'/\μ σ' H'<μ σ H,ct:=λσ' H'=>Pv σ' H'/\μ σ' H'<μ σ H,bk:=D.nx } σ H1 else D.nx σ H1)
  (mono:∀ σ H Q Q',(∀b H1,Q b H1->Q' b H1)->c σ H Q->c σ H Q'):zkc c tb D σ H:=by
 refine⟨λm σ H=>m=μ σ H/\Pv σ H,⟨_,rfl,h0⟩,?_⟩;rintro m σ H ⟨rfl,p⟩;refine mono σ H _ _ (λb H1 q=>?_) (hs σ H p)
 cases b with
 |true=>exact⟨_,λσ' H' ⟨p',l⟩=>⟨_,l,rfl,p'⟩,q⟩
 |false=>exact q
noncomputable abbrev R2:=V->V->Hp->VK->Prop
noncomputable def OpR(X:Cx)(f:Ac->Ac->Sem Ac)(r:R2):Prop :=
 ∀(pins:List (Addr×Obj)) (s:Ae) (σ:St) (H:Hp) (x y:V) (v u:Ac) (Q:VK),Inv X pins σ H s->RelV x v->RelV y u->r x y H Q ->
  Ao (Ax X.prog X.w) X.A (f v u) (EP X pins σ Q) X.xe s
noncomputable def UnR(X:Cx)(f:Ac->Sem Ac)(r:V->Hp->VK->Prop):Prop :=
 ∀(pins:List (Addr×Obj)) (s:Ae) (σ:St) (H:Hp) (x:V) (v:Ac) (Q:VK),Inv X pins σ H s->RelV x v->r x H Q ->
  Ao (Ax X.prog X.w) X.A (f v) (EP X pins σ Q) X.xe s
noncomputable def CallR(X:Cx)(f:Ac)(r:List V->Hp->VK->Prop):Prop :=
 ∀(pins:List (Addr×Obj)) (s:Ae) (σ:St) (H:Hp) (xs:List V) (us:List Ac) (Q:VK),Inv X pins σ H s->Vals xs us->r xs H Q ->
  Ao (Ax X.prog X.w) X.A (call f us) (EP X pins σ Q) X.xe s
noncomputable def TruR(X:Cx)(r:V->Hp->(Bool->Hp->Prop)->Prop):Prop :=
 ∀(pins:List (Addr×Obj)) (s:Ae) (σ:St) (H:Hp) (x:V) (v:Ac) (Q:Bool->Hp->Prop),Inv X pins σ H s->RelV x v->r x H Q ->
  Ao (Ax X.prog X.w) X.A (truthy v) (TP X pins σ Q) X.xe s
noncomputable def tOp(r:R2)(ta tb:TE):TE:=λσ H Q=>ta σ H λx H1=>tb σ H1 λy H2=>r x y H2 Q
noncomputable def tUn(r:V->Hp->VK->Prop)(ta:TE):TE:=λσ H Q=>ta σ H λx H1=>r x H1 Q
noncomputable def rI(C:Int->Int->Prop)(g:Int->Int->V):R2:=λx y H Q=>∃i j,x=.int i/\y=.int j/\C i j/\Q (g i j) H
noncomputable def rI0(g:Int->Int->V):R2:=λx y H Q=>∃i j,x=.int i/\y=.int j/\Q (g i j) H
noncomputable def rU(g:Int->V):V->Hp->VK->Prop:=λx H Q=>∃i,x=.int i/\Q (g i) H
section
variable {X:Cx}{a b c:Expr}{ta tb tc:TE}{pos:Pos}
theorem binT(ha:PE X a ta)(hb:PE X b tb){pins:List (Addr × Obj)}{s:Ae}{σ : St}{H:Hp}{R:V -> V -> Hp -> Prop}(I:Inv X pins σ H s)
  (h:ta σ H λx H1=>tb σ H1 λy H2=>R x y H2) {Q:Ac->Ae->Prop} {f:Ac->Ac->Sem Ac}
  (hf:∀v u s2 x y H2,Inv X pins σ H2 s2->RelV x v->RelV y u->R x y H2->Ao (Ax X.prog X.w) X.A (f v u) Q X.xe s2) :
  Ao (Ax X.prog X.w) X.A (eval a X.env) (λv s₁=>Ao (Ax X.prog X.w) X.A (eval b X.env) (λu s₂=>Ao (Ax X.prog X.w) X.A (f v u) Q X.xe s₂) X.xe s₁) X.xe s:=by
 refine thn (ha pins s σ H _ I h) λv s1 ⟨x,H1,I1,r1,q1⟩=>?_
 refine thn (hb pins s1 σ H1 _ I1 q1) λu s2 ⟨y,H2,I2,r2,q2⟩=>?_
 exact hf v u s2 x y H2 I2 r1 r2 q2
theorem pe_op{op:Operator}{r:R2}(ho:OpR X (Dl op) r)(ha:PE X a ta)(hb:PE X b tb):PE X (.BinOp a op b pos) (tOp r ta tb):=by intro pins s σ H Q I h;exact wpAny_BinOp (binT ha hb I h λv u s2 x y H2 I2 rx ry q=>ho pins s2 σ H2 x y v u Q I2 rx ry q)
theorem pe_un{op:UnaryOp}{r:V->Hp->VK->Prop}(ho:UnR X (unaryOp op) r)(ha:PE X a ta):PE X (.UnaryOp op a pos) (tUn r ta):=by intro pins s σ H Q I h;exact UnaryOp_ (thn (ha pins s σ H _ I h) λv s1 ⟨x,H1,I1,r1,q1⟩=>ho pins s1 σ H1 x v Q I1 r1 q1)
theorem opI{f:Ac -> Ac -> Sem Ac}{C:Int -> Int -> Prop}{g:Int -> Int -> Int}
  (rule:∀(i j:Int) (t u:Tok) (s:Ae) (Q:Ac->Ae->Prop) (E:Ac->Ae->Prop),C i j->Q (.int (g i j) s.toks) { s with toks:=s.toks+1 }->Ao (Ax X.prog X.w) X.A (f (.int i t) (.int j u)) Q E s) :
  OpR X f (rI C λi j=>.int (g i j)):=by
 intro pins s σ H x y v u Q I rx ry h;obtain⟨i,j,rfl,rfl,hc,q⟩:=h;obtain⟨t,rfl⟩:=rx;obtain⟨t',rfl⟩:=ry;exact rule i j t t' s _ _ hc ⟨.int (g i j),H,I.tok _,⟨_,rfl⟩,q⟩
theorem opI0{f:Ac -> Ac -> Sem Ac}{g:Int -> Int -> Int}
  (rule:∀(i j:Int) (t u:Tok) (s:Ae) (Q:Ac->Ae->Prop) (E:Ac->Ae->Prop),Q (.int (g i j) s.toks) { s with toks:=s.toks+1 }->Ao (Ax X.prog X.w) X.A (f (.int i t) (.int j u)) Q E s) :
  OpR X f (rI0 λi j=>.int (g i j)):=by
 intro pins s σ H x y v u Q I rx ry h;obtain⟨i,j,rfl,rfl,q⟩:=h;obtain⟨t,rfl⟩:=rx;obtain⟨t',rfl⟩:=ry;exact rule i j t t' s _ _ ⟨.int (g i j),H,I.tok _,⟨_,rfl⟩,q⟩
theorem opB0{f:Ac -> Ac -> Sem Ac}{g:Int -> Int -> Bool}
  (rule:∀(i j:Int) (t u:Tok) (s:Ae) (Q:Ac->Ae->Prop) (E:Ac->Ae->Prop),Q (.bool (g i j)) s->Ao (Ax X.prog X.w) X.A (f (.int i t) (.int j u)) Q E s) :
  OpR X f (rI0 λi j=>.bl (g i j)):=by
 intro pins s σ H x y v u Q I rx ry h;obtain⟨i,j,rfl,rfl,q⟩:=h;obtain⟨t,rfl⟩:=rx;obtain⟨t',rfl⟩:=ry;exact rule i j t t' s _ _ ⟨.bl (g i j),H,I,rfl,q⟩
noncomputable def CDiv(i j:Int):Prop:=0<j/\j<1073741824
noncomputable def CPow(i j:Int):Prop:=0<=j/\j<=1000000/\i.natAbs<2 ^ 64
noncomputable def CMul(i j:Int):Prop:=(-(2 ^ 64)<i/\i<2 ^ 64)∨(-(2 ^ 64)<j/\j<2 ^ 64)
theorem CMul.ok{i j:Int}(h:CMul i j):IntMulOk i j:=by
 rcases h with⟨h1,h2⟩ |⟨h1,h2⟩
 .exact .of_left (intBits_le_64 h1 h2)
 .exact .of_right (intBits_le_64 h1 h2)
theorem zax:OpR X (Dl .Add) (rI0 λi j=>.int (i+j)):=opI0 λ_ _ _ _ _ _ _ q=>add_int q
theorem zbt:OpR X (Dl .Sub) (rI0 λi j=>.int (i-j)):=opI0 λ_ _ _ _ _ _ _ q=>sub_int q
theorem zbF:OpR X (Dl .Mult) (rI CMul λi j=>.int (i*j)):=opI λ_ _ _ _ _ _ _ hc q=>mul_int q hc.ok
theorem zgi:OpR X (Dl .FloorDiv) (rI CDiv λi j=>.int (i / j)):=opI λi j _ _ _ _ _ hc q=>by have h1:(0:Int)<j:=hc.1;have h2:j<1073741824:=hc.2;exact floordiv_int (by lia) (by rw[Int.fdiv_eq_ediv_of_nonneg i (by lia)];exact q) (.inl (PyProof.noPylong_small (by lia)))
theorem zaF:OpR X (Dl .Mod) (rI (λ_ j=>0<j) λi j=>.int (i % j)):=opI λi j _ _ _ _ _ hc q=>by have h1:(0:Int)<j:=hc;exact mod_int' (by lia) (by rw[Int.fmod_eq_emod_of_nonneg i (by lia)];exact q)
theorem ziu:OpR X (Dl .Pow) (rI CPow λi j=>.int (i ^ j.toNat)):=opI λ_ _ _ _ _ _ _ hc q=>pow_int_small hc.1 hc.2.1 hc.2.2 q
theorem unI{f:Ac -> Sem Ac}{g:Int -> Int}
  (rule:∀(i:Int) (t:Tok) (s:Ae) (Q:Ac->Ae->Prop) (E:Ac->Ae->Prop),Q (.int (g i) s.toks) { s with toks:=s.toks+1 }->Ao (Ax X.prog X.w) X.A (f (.int i t)) Q E s) :
  UnR X f (rU λi=>.int (g i)):=by
 intro pins s σ H x v Q I rx h;obtain⟨i,rfl,q⟩:=h;obtain⟨t,rfl⟩:=rx;exact rule i t s _ _ ⟨.int (g i),H,I.tok _,⟨_,rfl⟩,q⟩
theorem zc6:UnR X (unaryOp .USub) (rU λi=>.int (-i)):=unI λ_ _ _ _ _ q=>neg_int q
end
noncomputable def scal:V->V->Bool
 |.non,.non=>true |.non,.int _=>true |.int _,.non=>true |.non,.bl _=>true |.bl _,.non=>true |.non,.str _=>true |.str _,.non=>true
 |.int _,.int _=>true |.bl _,.bl _=>true |.str _,.str _=>true |.byt _,.byt _=>true
 |.int _,.str _=>true |.str _,.int _=>true |.bl _,.str _=>true |.str _,.bl _=>true
 |_,_=>false
noncomputable def rEq:R2:=λx y H Q=>scal x y=true/\Q (.bl (decide (x=y))) H
noncomputable def rNe:R2:=λx y H Q=>scal x y=true/\Q (.bl (!decide (x=y))) H
theorem zi9{i j:Int}:decide (V.int i=V.int j)=(i == j):=by rw[DI];simp
theorem zku{i j:Bool}:decide (V.bl i=V.bl j)=(i == j):=by rw[DI];simp
theorem zi8{i j:Str}:decide (V.str i=V.str j)=(i == j):=by rw[DI];simp
theorem zja{i j:Array UInt8}:decide (V.byt i=V.byt j)=(i.toList == j.toList):=by
 rw[DI]
 cases i
 cases j
 simp
section
variable {X:Cx}{a b c:Expr}{ta tb tc:TE}{pos:Pos}
theorem zaD{pins:List (Addr×Obj)}{σ:St}{H:Hp}{s:Ae}{Q:VK}{k k':Bool}(I:Inv X pins σ H s)(q:Q (.bl k) H)(e:k=k'):EP X pins σ Q (.bool k') s:=by subst e;exact⟨.bl k,H,I,rfl,q⟩
theorem op_eq:OpR X (BV .Eq) rEq:=by
 intro pins s σ H x y v u Q I rx ry h;obtain⟨hs,q⟩:=h
 cases x with
 |non =>
  cases rx
  cases y with
  |non=>cases ry;exact PySem.EqNone.eq_none_none (zaD I q (by simp))
  |bl j=>cases ry;exact PySem.EqNone.eq_none_bool (zaD I q (by simp))
  |int j=>obtain⟨t',rfl⟩:=ry;exact PySem.EqNone.eq_none_int (zaD I q (by simp))
  |str j=>obtain⟨t',rfl⟩:=ry;exact PySem.EqNone.eq_none_str (zaD I q (by simp))
  |_=>exact absurd (show false=true from hs) AN
 |bl i =>
  cases rx
  cases y with
  |non=>cases ry;exact PySem.EqNone.eq_bool_none (zaD I q (by simp))
  |bl j=>cases ry;exact eq_bool (zaD I q zku)
  |str j=>obtain⟨t',rfl⟩:=ry;exact PySem.EqMixed.eq_bool_str (zaD I q (by simp))
  |_=>exact absurd (show false=true from hs) AN
 |int i =>
  obtain⟨t,rfl⟩:=rx
  cases y with
  |non=>cases ry;exact PySem.EqNone.eq_int_none (zaD I q (by simp))
  |int j=>obtain⟨t',rfl⟩:=ry;exact eq_int (zaD I q zi9)
  |str j=>obtain⟨t',rfl⟩:=ry;exact PySem.EqMixed.eq_int_str (zaD I q (by simp))
  |_=>exact absurd (show false=true from hs) AN
 |str i =>
  obtain⟨t,rfl⟩:=rx
  cases y with
  |non=>cases ry;exact PySem.EqNone.eq_str_none (zaD I q (by simp))
  |bl j=>cases ry;exact PySem.EqMixed.eq_str_bool (zaD I q (by simp))
  |int j=>obtain⟨t',rfl⟩:=ry;exact PySem.EqMixed.eq_str_int (zaD I q (by simp))
  |str j=>obtain⟨t',rfl⟩:=ry;exact eq_str (zaD I q zi8)
  |_=>exact absurd (show false=true from hs) AN
 |byt i =>
  obtain⟨t,rfl⟩:=rx
  cases y with
  |byt j=>obtain⟨t',rfl⟩:=ry;exact W.eq_bytes (zaD I q zja)
  |_=>exact absurd (show false=true from hs) AN
 |_=>cases y <;> exact absurd (show false=true from hs) AN
theorem op_ne:OpR X (BV .NotEq) rNe:=by
 intro pins s σ H x y v u Q I rx ry h;obtain⟨hs,q⟩:=h
 cases x with
 |non =>
  cases rx
  cases y with
  |non=>cases ry;exact PySem.EqNone.ne_none_none (zaD I q (by simp))
  |bl j=>cases ry;exact PySem.EqNone.ne_none_bool (zaD I q (by simp))
  |int j=>obtain⟨t',rfl⟩:=ry;exact PySem.EqNone.ne_none_int (zaD I q (by simp))
  |str j=>obtain⟨t',rfl⟩:=ry;exact PySem.EqNone.ne_none_str (zaD I q (by simp))
  |_=>exact absurd (show false=true from hs) AN
 |bl i =>
  cases rx
  cases y with
  |non=>cases ry;exact PySem.EqNone.ne_bool_none (zaD I q (by simp))
  |bl j=>cases ry;exact ne_bool (zaD I q (congrArg not zku))
  |str j=>obtain⟨t',rfl⟩:=ry;exact PySem.EqMixed.ne_bool_str (zaD I q (by simp))
  |_=>exact absurd (show false=true from hs) AN
 |int i =>
  obtain⟨t,rfl⟩:=rx
  cases y with
  |non=>cases ry;exact PySem.EqNone.ne_int_none (zaD I q (by simp))
  |int j=>obtain⟨t',rfl⟩:=ry;exact ne_int (zaD I q (congrArg not zi9))
  |str j=>obtain⟨t',rfl⟩:=ry;exact PySem.EqMixed.ne_int_str (zaD I q (by simp))
  |_=>exact absurd (show false=true from hs) AN
 |str i =>
  obtain⟨t,rfl⟩:=rx
  cases y with
  |non=>cases ry;exact PySem.EqNone.ne_str_none (zaD I q (by simp))
  |bl j=>cases ry;exact PySem.EqMixed.ne_str_bool (zaD I q (by simp))
  |int j=>obtain⟨t',rfl⟩:=ry;exact PySem.EqMixed.ne_str_int (zaD I q (by simp))
  |str j=>obtain⟨t',rfl⟩:=ry;exact ne_str (zaD I q (congrArg not zi8))
  |_=>exact absurd (show false=true from hs) AN
 |byt i =>
  obtain⟨t,rfl⟩:=rx
  cases y with
  |byt j=>obtain⟨t',rfl⟩:=ry;exact W.ne_bytes (zaD I q (congrArg not zja))
  |_=>exact absurd (show false=true from hs) AN
 |_=>cases y <;> exact absurd (show false=true from hs) AN
theorem op_lt:OpR X (BV .Lt) (rI0 λi j=>.bl (decide (i<j))):=opB0 λ_ _ _ _ _ _ _ q=>lt_int q
theorem op_le:OpR X (BV .LtE) (rI0 λi j=>.bl (decide (i<=j))):=opB0 λ_ _ _ _ _ _ _ q=>le_int q
theorem op_gt:OpR X (BV .Gt) (rI0 λi j=>.bl (decide (j<i))):=opB0 λ_ _ _ _ _ _ _ q=>gt_int q
theorem op_ge:OpR X (BV .GtE) (rI0 λi j=>.bl (decide (j<=i))):=opB0 λ_ _ _ _ _ _ _ q=>ge_int q
theorem ziv:OpR X (BV .Is) (λx y H Q=>y=.non/\Q (.bl (decide (x=.non))) H):=by
 intro pins s σ H x y v u Q I rx ry h;obtain⟨rfl,q⟩:=h
 cases ry
 refine is_none_gen (zaD I q ?_)
 cases x <;> first
  | (cases rx;rfl)
  | (obtain⟨t,rfl⟩:=rx;rfl)
theorem zcX:OpR X (BV .IsNot) (λx y H Q=>y=.non/\Q (.bl (!decide (x=.non))) H):=by
 intro pins s σ H x y v u Q I rx ry h;obtain⟨rfl,q⟩:=h
 cases ry
 refine isnot_none_gen (zaD I q ?_)
 cases x <;> first
  | (cases rx;rfl)
  | (obtain⟨t,rfl⟩:=rx;rfl)
theorem zas(b:Expr){op:CmpOp}(h:op≠.In:=by decide)(h2:op≠.NotIn:=by decide):behindInMarks op b=false:=by
 have e1:(op == CmpOp.In)=false:=by cases op <;> first |rfl |exact absurd rfl h
 have e2:(op == CmpOp.NotIn)=false:=by cases op <;> first |rfl |exact absurd rfl h2
 cases b <;> simp[behindInMarks,e1,e2]
theorem zbU{op:CmpOp}{r:R2}(ho:OpR X (BV op) r)(ha:PE X a ta)(hb:PE X b tb)(hm:behindInMarks op b=false):PE X (.Compare a [op] [b] pos) (tOp r ta tb):=by intro pins s σ H Q I h;exact wpAny_Compare1 (binT ha hb I h λv u s2 x y H2 I2 rx ry q=>ho pins s2 σ H2 x y v u Q I2 rx ry q) hm
noncomputable def tTest(t:TE):TT:=λσ H Q=>t σ H λx H'=>∃k,x=.bl k/\Q k H'
theorem zaq{op:CmpOp}{r:R2}(ho:OpR X (BV op) r)(ha:PE X a ta)(hb:PE X b tb)(hm:behindInMarks op b=false):PT X (.Compare a [op] [b] pos) (tTest (tOp r ta tb)):=by
 intro pins s σ H Q I h
 refine wpAny_isTrue_Compare1 (thn (ha pins s σ H _ I h) λv s1 ⟨x,H1,I1,r1,q1⟩=>thn (hb pins s1 σ H1 _ I1 q1) λu s2 ⟨y,H2,I2,r2,q2⟩ =>
  thn (ho pins s2 σ H2 x y v u _ I2 r1 r2 q2) λc s3 ⟨z,H3,I3,r3,k,e,q3⟩=>?_) hm
 subst e
 cases r3
 exact BP ⟨H3,I3,q3⟩
noncomputable def TruV(K:W.Frag)(x:V)(H:Hp)(k:Bool):Prop :=
 match x with
 |.non=>k=false
 |.bl b=>k=b
 |.int i=>k=(i != 0)
 |.str y=>y.length<=sizeLine/\k=((y.length:Int) != 0)
 |.byt y=>y.size<=sizeLine/\k=((y.size:Int) != 0)
 |.ref p=>(∃xs,SqL K H p xs/\k=!xs.isEmpty)∨(∃xs,SqT K H p xs/\k=!xs.isEmpty)∨∃kvs,H p=some (.dK kvs)/\k=!kvs.isEmpty
 |_=>False
theorem zhw{κ:Type}{kvs:List (κ×V)}{vs:List (κ×Ac)}(r:KV kvs vs):(!vs.isEmpty)=!kvs.isEmpty:=by
 cases r <;> rfl
theorem zej{xs:List V}{its:List Ac}(r:Vals xs its):(!its.toArray.isEmpty)=!xs.isEmpty:=by
 cases r <;> simp
theorem zg0:(sizeLine:Nat)<2 ^ 63:=by rw[sizeLine_eq];decide
theorem zle:TruR X (λx H Q=>∃k,TruV X.K x H k/\Q k H):=by
 intro pins s σ H x v Q I rx h;obtain⟨k,e,q⟩:=h;have hl:=zg0;have hs:sizeLine=16777216:=sizeLine_eq
 cases x with
 |non =>
  cases rx
  have e':k=false:=e;subst e';exact truthy_none ⟨H,I,q⟩
 |bl b =>
  cases rx
  have e':k=b:=e;subst e';exact BP ⟨H,I,q⟩
 |int i =>
  obtain⟨t,rfl⟩:=rx;have e':k=(i != 0):=e;subst e';exact PySem.P.truthy_int ⟨H,I,q⟩
 |str y =>
  obtain⟨t,rfl⟩:=rx;obtain⟨hy,e'⟩:y.length<=sizeLine/\k=((y.length:Int) != 0):=e;subst e';exact PySem.P.truthy_str (by lia) ⟨H,I.tok _,q⟩
 |byt y =>
  obtain⟨t,rfl⟩:=rx;obtain⟨hy,e'⟩:y.size<=sizeLine/\k=((y.size:Int) != 0):=e;subst e';exact W.truthy_bytes (by lia) ⟨H,I.tok _,q⟩
 |ref p =>
  cases rx
  have e':(∃xs,SqL X.K H p xs/\k=!xs.isEmpty)∨(∃xs,SqT X.K H p xs/\k=!xs.isEmpty)∨∃kvs,H p=some (.dK kvs)/\k=!kvs.isEmpty:=e;rcases e' with⟨xs,hx,e'⟩ |⟨xs,hx,e'⟩ |⟨kvs,hx,e'⟩
  .subst e';obtain⟨its,r,pl,hz⟩:=I.list hx;have hlen:=r.length;exact wpAny_truthy_list pl.isList (by simp only[An];lia) ⟨H,I.tok _,by rw[zej r];exact q⟩
  .subst e';obtain⟨its,r,pl,hz⟩:=I.tuple hx;have hlen:=r.length;exact truthy_tuple pl (by simp only[An];lia) ⟨H,I.tok _,by rw[zej r];exact q⟩
  .subst e';obtain⟨hz,hS,vs,r,m⟩:kvs.length<=sizeLine/\(p == B3)=false/\∃vs,KV kvs vs/\s.heap.DictOf (zaz X.prog X.w) p vs:=I.hok p _ hx;have hlen:kvs.length=vs.length:=C8 r;exact wpAny_truthy_dict hS m (by lia) ⟨H,I.tok _,by rw[zhw r];exact q⟩
 |_=>exact (show False from e).elim
theorem zjG(ha:PE X a ta)(he:∀whole, isTrue a X.env whole=(do let v <- whole; standAt a.pos; holding [v] (truthy v))) :
  PT X a (λσ H Q=>ta σ H λx H'=>∃k,TruV X.K x H' k/\Q k H'):=by
 intro pins s σ H Q I h;exact isTrue_plain (thn (ha pins s σ H _ I h) λv s1 ⟨x,H1,I1,r1,q1⟩=>zle pins s1 σ H1 x v Q I1 r1 q1) (he _)
theorem vals1{x:V}{us:List Ac}(r:Vals [x] us):∃u,us=[u]/\RelV x u:=by
 cases r with
 |cons r1 r2=>cases r2;exact⟨_,rfl,r1⟩
theorem vals2{x y:V}{us:List Ac}(r:Vals [x,y] us):∃u w',us=[u,w']/\RelV x u/\RelV y w':=by
 cases r with
 |cons r1 r2 =>
  cases r2 with
  |cons r3 r4=>cases r4;exact⟨_,_,rfl,r1,r3⟩
theorem zfU:CallR X (.type "int") (λxs H Q=>(∃i,xs=[.int i]/\Q (.int i) H)∨∃k,xs=[.bl k]/\Q (.int (if k then 1 else 0)) H):=by
 intro pins s σ H xs us Q I r h;rcases h with⟨i,rfl,q⟩ |⟨k,rfl,q⟩
 .obtain⟨u,rfl,t,rfl⟩:=vals1 r;exact call_int_int ⟨.int i,H,I,⟨_,rfl⟩,q⟩
 .obtain⟨u,rfl,r1⟩:=vals1 r
  cases r1
  exact call_int_bool ⟨.int (if k then 1 else 0),H,I.tok _,⟨_,rfl⟩,q⟩
end
structure ObjM (h:Heap) (x dx C:Addr) (mA:Str->Option Ac):Prop where
 obj:h.get? x=some (W.instObj C dx)
 ns:h.Ns1 dx mA
 ne:dx≠x
theorem ziL{h:Heap}{dx:Addr}{mA:Str->Option Ac}(n:h.Ns1 dx mA):∃od,h.get? dx=some od/\∀name,W.lookIn name od=some (mA name):=by
 obtain⟨o,es,ep,ho,hd,hk,_,hm⟩:=n;refine⟨o,ho,λname=>?_⟩;have e:=hm name;unfold nsFind findBy at e;rw[<- Array.find?_toList]at e;unfold W.lookIn;rw[hd];dsimp only;split
 .rename_i y q
  rw[q]at e;exact congrArg some e
 .rename_i q
  rw[q]at e
  have a:es.toList.any (·.refKey)=false:=by rw[List.any_eq_false];intro y hy;obtain⟨z,t,hkey⟩:=hk y (Array.mem_toList_iff.mp hy);simp[DictEntry.refKey,hkey]
  have a':¬ es.toList.any (·.refKey)=true:=by rw[a];exact AN
  rw[if_neg a'];exact congrArg some e
theorem ObjM.look{h:Heap}{x dx C:Addr}{mA:Str->Option Ac}(I:ObjM h x dx C mA):∃od,W.InstAt h x (W.instObj C dx) C (some od)/\∀name,W.lookIn name od=some (mA name) :=
 let ⟨od,ho,hl⟩:=ziL I.ns
 ⟨od,⟨I.obj,rfl,rfl,ho⟩,hl⟩
section
variable {prog:AH}{w:A4}{A:AJ}{E:Ac->Ae->Prop}{s:Ae}{K:W.Frag}{x dx C f:Addr}{mA:Str->Option Ac}{name:Str}{v:Ac}
end
section
variable {P:AH}{w:A4}{H H':Hp}{h h':Heap}{a C dx:Addr}{fs fs':List (Str×V)}
theorem zk4(hok:HOk P w H h)(e:H a=some (.ins C dx fs)):∃mA,ObjM h a dx C mA/\(∀f,RelO (fs.lookup f) (mA f))/\PySem.Within mA (fs.map (·.1))/\fs.length<=1000/\H dx=some (.own a):=by obtain⟨d,z,ne,ob,mA,n,r,q⟩:=(show ObjOk P w H h a (.ins C dx fs) from hok a _ e);exact⟨mA,⟨ob,n,ne⟩,r,q,z,d⟩
end
structure Cls (K:W.Frag) (C:Addr):Prop where
 pg:W.plainGet K C Str.empty=true
 hd:W.hasDictIn K C=true
 po:W.plainOver K C=true
 sa:W.findIn K (.ref C) "__setattr__" = some (some (.builtin "object.__setattr__"))
theorem Cls.get{K:W.Frag}{C:Addr}(c:Cls K C)(f:Str):W.plainGet K C f=true:=c.pg
structure Con (K:W.Frag) (C:Addr) (f:Str) (v:V) (u:Ac):Prop where
 at_:W.findIn K (.ref C) f=some (some u)
 rel:RelV v u
 get:W.specialIn K u "__get__" = some none
 cp:W.copiedNames.contains f=false
structure Meth (K:W.Frag) (C:Addr) (m:Str) (f:Addr):Prop where
 at_:W.findIn K (.ref C) m=some (some (.ref f))
 fn:W.isFn K (.ref f)=true
 kp:DD K (.ref f)=true
section
variable {X:Cx}{pins:List (Addr×Obj)}{σ:St}{H:Hp}{s:Ae}{a C dx:Addr}{fs:List (Str×V)}{f:Str}{v:V}{A:AJ}{E:Ac->Ae->Prop}
end
section
variable {X:Cx}{o e value:Expr}{f:Str}{pos pos' tpos:Pos}{ta tv:TE}
end
section
variable {X:Cx}{pins:List (Addr×Obj)}{σ:St}{H:Hp}{s:Ae}{A:AJ}{E:Ac->Ae->Prop}{Q:Ac->Ae->Prop}{c:Ac}{b:Bool}
inductive TyOf (K:W.Frag) (H:Hp):V->Ac->Prop where
  |non:TyOf K H .non (.type "NoneType")
  |bl (x:Bool):TyOf K H (.bl x) (.type "bool")
  |int (i:Int):TyOf K H (.int i) (.type "int")
  |str (x:Str):TyOf K H (.str x) (.type "str")
  |flt (x:UInt64):TyOf K H (.flt x) (.type "float")
  |lst {a:Addr} {xs:List V} (e:H a=some (.lst xs)):TyOf K H (.ref a) (.type "list")
  |frz {a:Addr} {o:Obj} {xs:List V} (e:H a=some (.frz o (.lst xs))):TyOf K H (.ref a) (.type "list")
  |tup {a:Addr} {xs:List V} (e:H a=some (.tup xs)):TyOf K H (.ref a) (.type "tuple")
  |dK {a:Addr} {kvs:List (Key×V)} (e:H a=some (.dK kvs)):TyOf K H (.ref a) (.type "dict")
  |dT {a:Addr} {kvs:List (List Key×V)} (e:H a=some (.dT kvs)):TyOf K H (.ref a) (.type "dict")
  |ins {a C dx:Addr} {fs:List (Str × V)} (e:H a=some (.ins C dx fs)) (cl:Cls K C) (ha:W.findIn K (.ref C) "__class__" = some (some (.builtin "object.__class__")))
      (hn:W.specialIn K (.builtin "object.__class__") "__get__" = some (some (.builtin "getset_descriptor.__get__"))) (htk:W.takesIn K (.builtin "object.__class__")=some true)
      (hm:W.mroIn K C (.type "object")=some true):TyOf K H (.ref a) (.ref C)
theorem ziY{x:V}{u t:Ac}(I:Inv X pins σ H s)(rx:RelV x u)(ty:TyOf X.K H x t)(e:W.kitOne X.K t c=some b)(h:∀tk, Q (.bool b) { s with toks := tk }) :
  Ao (Ax X.prog X.w) A (call (.builtin "isinstance") [u,c]) Q E s:=by
 cases ty with
 |non=>cases (show u=BI from rx);exact C9 W.kitx_none I.kIn Cg e (λz=>nomatch z) h
 |bl y=>cases (show u=Value.bool y from rx);exact C9 W.kitx_bool I.kIn Cg e (λz=>nomatch z) h
 |int i=>obtain⟨t,q⟩:=(show ∃t,u=CA i t from rx);cases q;exact C9 W.kitx_int I.kIn Cg e (λz=>nomatch z) h
 |str y=>obtain⟨t,q⟩:=(show ∃t,u=Value.str y t from rx);cases q;exact C9 W.kitx_str I.kIn Cg e (λz=>nomatch z) h
 |flt y=>obtain⟨t,q⟩:=(show ∃t,u=Value.float y t from rx);cases q;exact C9 W.kitx_float I.kIn Cg e (λz=>nomatch z) h
 |@lst a xs ea =>
  cases (show u=Ar a from rx)
  obtain⟨_,_,n,_,h1⟩:=(show ObjOk X.prog X.w H s.heap a (.lst xs) from I.hok a _ ea);exact C9 W.kitx_list I.kIn ⟨_,h1,rfl⟩ e (λz=>nomatch z) h
 |@frz a ob xs ea =>
  cases (show u=Ar a from rx)
  obtain⟨_,_,_,n,_,h1⟩:=(show ObjOk X.prog X.w H s.heap a (.frz ob (.lst xs)) from I.hok a _ ea);exact C9 W.kitx_list I.kIn ⟨_,h1,rfl⟩ e (λz=>nomatch z) h
 |@tup a xs ea =>
  cases (show u=Ar a from rx)
  obtain⟨_,_,_,p⟩:=(show ObjOk X.prog X.w H s.heap a (.tup xs) from I.hok a _ ea);obtain⟨o,h1,h2,_⟩:=p;exact C9 W.kitx_tuple I.kIn ⟨o,h1,h2⟩ e (λz=>nomatch z) h
 |@dK a kvs ea =>
  cases (show u=Ar a from rx)
  obtain⟨_,_,vs,_,p⟩:=(show ObjOk X.prog X.w H s.heap a (.dK kvs) from I.hok a _ ea);obtain⟨o,es,ep,h1,h2,_⟩:=p;exact C9 W.kitx_dict I.kIn ⟨o,h1,h2.1⟩ e (λz=>nomatch z) h
 |@dT a kvs ea =>
  cases (show u=Ar a from rx)
  obtain⟨_,_,xs,_,o,es,ep,h1,h2,_⟩:=(show ObjOk X.prog X.w H s.heap a (.dT kvs) from I.hok a _ ea);exact C9 W.kitx_dict I.kIn ⟨o,h1,h2.1⟩ e (λz=>nomatch z) h
 |@ins a C dx fs ea cl ha hn htk hm =>
  cases (show u=Ar a from rx)
  obtain⟨mA,O,_⟩:=zk4 I.hok ea;obtain⟨od,J,_⟩:=O.look;exact C9 (W.kitx_own (cl.get _) cl.hd ha hn htk hm) I.kIn J e (λz=>nomatch z) h
end
structure Room (k:Nat) (A:AJ):Prop where
 hd:A.handled=none
 dp:A.depth+3*k+5<recursionLimit
 un:A.units+16*k+200<cLine
 gd:A.guards=some []
theorem Room.mono{j k:Nat}{A:AJ}(r:Room k A)(h:j<=k):Room j A:=⟨r.hd,by have:=r.dp;lia,by have:=r.un;lia,r.gd⟩
theorem Room.deeper{k:Nat}{A:AJ}(r:Room (k+1) A)(env:Env):Room k (A.deeper env) :=
 ⟨r.hd,by have:=r.dp;show A.depth+1+3*k+5<_;lia,by have:=r.un;show A.units+3+16*k+200<_;lia,r.gd⟩
theorem Room.in1{k:Nat}{A:AJ}(r:Room (k+1) A):Room k A.in1 :=
 ⟨r.hd,by have:=r.dp;show A.depth+3*k+5<_;lia,by have:=r.un;show A.units+1+16*k+200<_;lia,r.gd⟩
theorem Room.depth{k:Nat}{A:AJ}(r:Room k A):A.depth<recursionLimit:=by have:=r.dp;lia
theorem Room.units{k:Nat}{A:AJ}(r:Room k A):A.units+64<cLine:=by have:=r.un;lia
noncomputable def tNil:TA:=λ_ H Q=>Q [] H
noncomputable def tCons(ta:TE)(tr:TA):TA:=λσ H Q=>ta σ H λx H1=>tr σ H1 λxs H2=>Q (x::xs) H2
section
variable {X:Cx}{e:Expr}{es:List Expr}{te:TE}{t:TA}{pos:Pos}
theorem zab:PA X [] tNil:=λ_ _ _ _ H Q I h=>Dh ⟨[],H,I,.nil,h⟩
theorem zai(ha:PE X e te)(hr:PA X es t)(hs:A8 (e::es) X.env=(false,eval e X.env)::A8 es X.env:=by rfl):PA X (e::es) (tCons te t):=by intro pos pins s σ H Q I h;rw[hs];show Ao _ _ (spliced ((false,eval e X.env)::DM pos (A8 es X.env))) _ _ s;refine BQ (thn (ha pins s σ H _ I h) λu s1 ⟨x,H1,I1,r1,q1⟩=>?_);exact thn (hr pos pins s1 σ H1 _ I1 q1) λus s2 ⟨xs,H2,I2,r2,q2⟩=>⟨x::xs,H2,I2,.cons r1 r2,q2⟩
noncomputable def tTup(t:TA):TE:=λσ H Q=>t σ H λxs H1=>xs.length<=sizeLine/\∀p,H1 p=none->Q (.ref p) (upd H1 p (.tup xs))
noncomputable def tLst(t:TA):TE:=λσ H Q=>t σ H λxs H1=>xs.length<=sizeLine/\∀p,H1 p=none->Q (.ref p) (upd H1 p (.lst xs))
theorem zar{x1}(h:PA X es t):PE X (.Tuple es x1 pos) (tTup t):=by intro pins s σ H Q I hq;refine wpAny_Tuple_spliced (thn (h pos pins s σ H _ I hq) λus s1 ⟨xs,H1,I1,r,z,q⟩=>⟨by rw[<- r.length];exact z,?_⟩);have hf:H1 s1.heap.objs.size=none:=I1.hok.fresh (Ai _);refine⟨.ref s1.heap.objs.size,upd H1 s1.heap.objs.size (.tup xs),I1.laid (t':=s1.toks) (λb u e=>Af _ e) (Ai _) ?_,rfl,q _ hf⟩;exact⟨z,us,r,⟨_,Aq _ rfl,rfl,_,rfl⟩⟩
theorem zaY(h:PA X es t):PE X (.List es pos) (tLst t):=by intro pins s σ H Q I hq;refine wpAny_List_spliced (thn (h pos pins s σ H _ I hq) λus s1 ⟨xs,H1,I1,r,z,q⟩=>⟨by rw[<- r.length];exact z,?_⟩);have hf:H1 s1.heap.objs.size=none:=I1.hok.fresh (Ai _);refine⟨.ref s1.heap.objs.size,upd H1 s1.heap.objs.size (.lst xs),I1.laid (t':=s1.toks) (λb u e=>Af _ e) (Ai _) ?_,rfl,q _ hf⟩;exact⟨z,us,0,r,Aq _ rfl⟩
end
noncomputable abbrev Sp:=List V->Hp->VK->XK->Prop
noncomputable abbrev CXT:=List Env->Hp->Ae->XK->Ac->Ae->Prop
structure Env0 (P:AH) (w:A4) (K:W.Frag) (mg:Str->Option Ac) (base:Heap) (A:AJ) (outer:List Env) (s:Ae) (H:Hp):Prop where
 frames:A.frames=some outer
 mod:Mod K mg base
 bs:∀b o,base.get? b=some o->s.heap.get? b=some o/\H b=none
 bsz:base.objs.size<=s.heap.objs.size
 funs:s.heap.FunFrames base outer
 frf:∀b∈frs outer,H b=none
 hok:HOk P w H s.heap
 bare:AllBare s.gens
noncomputable def CE(outer:List Env)(P:AH)(w:A4)(H:Hp)(s:Ae)(Q:VK)(u:Ac)(s':Ae):Prop :=
 ∃v H',s'.os=s.os/\AllBare s'.gens/\Un (frs outer) [] H H' s.heap s'.heap/\HOk P w H' s'.heap/\RelV v u/\Q v H'
noncomputable def CR(CX:CXT)(outer:List Env)(P:AH)(w:A4)(H:Hp)(s:Ae)(Q:VK)(E:XK)(r:Result)(s':Ae):Prop :=
 match r with
 |.ok (.ret u)=>CE outer P w H s Q u s'
 |.ok _=>False
 |.error e=>CX outer H s E e s'
structure FnOk (P:AH) (w:A4) (K:W.Frag) (mg:Str->Option Ac) (base:Heap) (CX:CXT) (k:Nat) (f:Addr) (fd:BC) (ps:List Str) (sp:Sp):Prop where
 len:∀vs H Q E,sp vs H Q E->vs.length=ps.length
 run:∀(A:AJ) (outer:List Env) (s:Ae) (H:Hp) (args:Args) (us:List Ac) (vs:List V) (Q:VK) (E:XK),Room k A->Env0 P w K mg base A outer s H->BindsTo s fd args (ps.zip us)->Vals vs us->sp vs H Q E ->
  CU (Ax P w) A (.call (.ref f) args) (CR CX outer P w H s Q E) s
theorem Env0.in1{P:AH}{w:A4}{K:W.Frag}{mg:Str -> Option Ac}{base:Heap}{A:AJ}{outer:List Env}{s:Ae}{H:Hp}(e:Env0 P w K mg base A outer s H) :
  Env0 P w K mg base A.in1 outer s H:=⟨e.frames,e.mod,e.bs,e.bsz,e.funs,e.frf,e.hok,e.bare⟩
section
variable {X:Cx}{pins:List (Addr×Obj)}{σ:St}{H:Hp}{s s':Ae}
theorem Inv.env0(I:Inv X pins σ H s):Env0 X.prog X.w X.K X.mg X.base X.A X.stack s H :=
 ⟨I.ok.frames,I.ok.mod,I.bs,AO I.ok.bsz I.sz,I.stack,I.stkFree,I.hok,I.bare⟩
theorem Inv.after{Q:VK}{u:Ac}(I:Inv X pins σ H s)(h:CE X.stack X.prog X.w H s Q u s'):EP X pins σ Q u s':=by obtain⟨v,H',os,bare,un,hok,r,q⟩:=h;obtain⟨hh,g,d,t,os'⟩:=s';obtain rfl:os'=s.os:=os;exact⟨v,H',I.call (h':=hh) (g':=g) (d':=d) (t':=t) (ch:=[]) un hok bare (λb z=>absurd z (by simp)),r,q⟩
end
noncomputable def tCall(sp:Sp)(dvs:List V)(E:XK)(t:TA):TE:=λσ H Q=>t σ H λvs H1=>sp (vs++dvs) H1 Q E
noncomputable def Binds(K:W.Frag)(fd:BC)(ps:List Str)(ds:List Ac):Prop :=
 ∀(s:Ae) (us:List Ac),K.In s.heap->(us++ds).length=ps.length->BindsTo s fd ⟨us,[]⟩ (ps.zip (us++ds))
theorem Binds.all{K:W.Frag}{fd:BC}{ps:List Str}(h:∀us:List Ac,us.length=ps.length->CM fd ⟨us,[]⟩=pure (ps.zip us)):Binds K fd ps []:=λs us _ hl=>by rw[A0]at hl ⊢;exact .of_eq (h us hl)
noncomputable def zjp(CX:CXT)(X:Cx)(E:XK):Prop:=∀(pins:List (Addr×Obj)) (σ:St) (H:Hp) (s:Ae) (e:Ac) (s':Ae),Inv X pins σ H s->CX X.stack H s E e s'->X.xe e s'
section
variable {X:Cx}{CX:CXT}{k:Nat}{f C:Addr}{fd:BC}{ps:List Str}{sp:Sp}{dvs:List V}{ds:List Ac}{E:XK}{x m:Str}{p pos apos:Pos}{e o:Expr}{es:List Expr}{ta:TE}{t:TA}
theorem zlw{pins:List (Addr × Obj)}{σ : St}{H:Hp}{s:Ae}{Q:VK}{us:List Ac}{vs:List V}(F:FnOk X.prog X.w X.K X.mg X.base CX k f fd ps sp)(hr:Room k X.A)(hb:Binds X.K fd ps ds)(hd:Vals dvs ds)(hx:zjp CX X E)
  (I:Inv X pins σ H s) (r:Vals vs us) (h:sp (vs++dvs) H Q E):Ao (Ax X.prog X.w) X.A (call (.ref f) us) (EP X pins σ Q) X.xe s:=by
 have r2:Vals (vs++dvs) (us++ds):=r.append hd;have hl:(us++ds).length=ps.length:=by rw[<- r2.length];exact F.len _ _ _ _ h
 refine wpAny_call (CD (F.run X.A X.stack s H ⟨us,[]⟩ (us++ds) (vs++dvs) Q E hr I.env0 (hb s us I.kIn hl) r2 h) λr s' hq=>?_)
 cases r with
 |error e=>exact hx pins σ H s e s' I hq
 |ok fl =>
  cases fl with
  |ret u=>exact I.after hq
  |next=>exact Bk hq
  |brk=>exact Bk hq
  |cont=>exact Bk hq
theorem zkS(F:FnOk X.prog X.w X.K X.mg X.base CX k f fd ps sp)(hr:Room k X.A)(hg:Gl X x)(hm:X.mg x=some (.ref f))(hk:DD X.K (.ref f)=true)(hb:Binds X.K fd ps ds)(hd:Vals dvs ds)(hx:zjp CX X E)
  (ha:PA X (e::es) t) (hdb:(x == ("__debug__" : Str))=false:=by decide) (he:A8 (e::es) X.env=(false,eval e X.env)::A8 es X.env:=by rfl) (hpl:(DM pos (A8 es X.env)).any (·.1)=false:=by rfl) :
  PE X (.Call (.Name x p) (e::es) [] pos) (tCall sp dvs E t):=by
 intro pins s σ H Q I h;refine BR (ziP I hg hm ?_ hdb);refine W.callWith_K (h₀:=X.base) I.ok.mod.kin hk (thn (ha pos pins s σ H _ I h) λus s1 ⟨vs,H1,I1,r,q⟩=>⟨I1.kIn,?_⟩) he hpl;exact zlw F hr hb hd hx I1 r q
structure Mk (K:W.Frag) (C f:Addr):Prop where
 makes:W.makesIn K C=true
 init:W.findIn K (.ref C) "__init__" = some (some (.ref f))
 fn:W.isFn K (.ref f)=true
 kp:DD K (.ref C)=true
end
noncomputable def PK(X:Cx)(kws:List Keyword)(t:TA):Prop :=
 ∀(pos:Pos) (pins:List (Addr×Obj)) (s:Ae) (σ:St) (H:Hp) (Q:List V->Hp->Prop),Inv X pins σ H s->t σ H Q->Ao (Ax X.prog X.w) X.A (evalAll ((CN pos (BW kws X.env)).map (·.2))) (AP X pins σ Q) X.xe s
section
variable {X:Cx}{CX:CXT}{k:Nat}{f C:Addr}{fd:BC}{ps ks:List Str}{sp:Sp}{E:XK}{x m:Str}{p pos apos kpos:Pos}{e o:Expr}{es:List Expr}{kws:List Keyword}{te ta:TE}{t tk:TA}{nm:Option Str}
theorem zio:PK X [] tNil:=λ_ _ _ _ H Q I h=>wpAny_evalAll_nil ⟨[],H,I,.nil,h⟩
theorem zeK(ha:PE X e te)(hr:PK X kws t):PK X (⟨nm,e,kpos⟩::kws) (tCons te t):=by intro pos pins s σ H Q I h;show Ao _ _ (evalAll ((do let v <- eval e X.env;standAt pos;pure v)::(CN pos (BW kws X.env)).map (·.2))) _ _ s;refine wpAny_evalAll_cons (Ab (thn (ha pins s σ H _ I h) λu s1 ⟨x,H1,I1,r1,q1⟩=>Ab (wpAny_standAt (Ah ?_))));exact thn (hr pos pins s1 σ H1 _ I1 q1) λus s2 ⟨xs,H2,I2,r2,q2⟩=>⟨x::xs,H2,I2,.cons r1 r2,q2⟩
structure KBinds (K:W.Frag) (fd:BC) (ps ks:List Str) (g:List Ac->List Ac->List Ac) (gV:List V->List V->List V):Prop where
 to:∀(s:Ae) (us ws:List Ac),K.In s.heap->(g us ws).length=ps.length->BindsTo s fd ⟨us,ks.zip ws⟩ (ps.zip (g us ws))
 rel:∀{vs:List V} {us:List Ac} {zs:List V} {ws:List Ac},Vals vs us->Vals zs ws->Vals (gV vs zs) (g us ws)
variable {g:List Ac->List Ac->List Ac}{gV:List V->List V->List V}
end
structure FnScope (N P:List Str) (sc:Scope):Prop where
 kind:sc.kind=.function
 co:sc.isCoroutine=false
 gen:sc.isGenerator=false
 nd:N.Nodup
 pre:N.take P.length=P
 par:∀x∈P,sc.names.lookup x=some .local∨sc.names.lookup x=some .cell
 nofree:∀y∈sc.names,y.2≠.free
theorem zfV{kindOf:Str->Option NameKind}{x:Str}:∀{binds:List (Str×Ac)}{m:Str->Option Ac},(∀v,(x,v) ∉ binds)->bindL kindOf binds m x=m x
 |[],_,_=>rfl
 | (n,v)::r,m,h=>by
  unfold bindL;rw[zfV λw hw=>h w (At _ hw)];split
  .have:x≠n:=by rintro rfl;exact h v AC
   simp[this]
  .rfl
theorem zfX{kindOf:Str->Option NameKind}{x:Str}:∀{binds:List (Str×Ac)}{m:Str->Option Ac},(∀v,(x,v) ∉ binds)->bindC kindOf binds m x=m x
 |[],_,_=>rfl
 | (n,v)::r,m,h=>by
  unfold bindC;rw[zfX λw hw=>h w (At _ hw)];split
  .rfl
  .have:x≠n:=by rintro rfl;exact h v AC
   simp[this]
theorem zfW{kindOf:Str -> Option NameKind}{x:Str}{v:Ac} : ∀{P:List Str}{vs:List Ac}{i:Nat}{m:Str -> Option Ac}, P.Nodup -> P[i]? = some x -> vs[i]? = some v -> kindOf x=some .local ->
  bindL kindOf (P.zip vs) m x=some v
 |[],_,_,_,_,h,_,_=>by simp at h
 |_::_,[],_,_,_,_,h,_=>by simp at h
 |p::P,w::vs,0,m,nd,h1,h2,hk=>by
  simp at h1 h2;subst h1;subst h2;show bindL kindOf ((p,w)::P.zip vs) m p=_;unfold bindL;rw[zfV λv hv=>(B9.mp nd).1 (List.of_mem_zip hv).1,if_pos hk];simp
 |p::P,w::vs,i+1,m,nd,h1,h2,hk=>by
  show bindL kindOf ((p,w)::P.zip vs) m x=_;unfold bindL;exact zfW (i:=i) (B9.mp nd).2 (by simpa using h1) (by simpa using h2) hk
theorem zfY{kindOf:Str -> Option NameKind}{x:Str}{v:Ac} : ∀{P:List Str}{vs:List Ac}{i:Nat}{m:Str -> Option Ac}, P.Nodup -> P[i]? = some x -> vs[i]? = some v -> kindOf x ≠ some .local ->
  bindC kindOf (P.zip vs) m x=some v
 |[],_,_,_,_,h,_,_=>by simp at h
 |_::_,[],_,_,_,_,h,_=>by simp at h
 |p::P,w::vs,0,m,nd,h1,h2,hk=>by
  simp at h1 h2;subst h1;subst h2;show bindC kindOf ((p,w)::P.zip vs) m p=_;unfold bindC;rw[zfX λv hv=>(B9.mp nd).1 (List.of_mem_zip hv).1,if_neg hk];simp
 |p::P,w::vs,i+1,m,nd,h1,h2,hk=>by
  show bindC kindOf ((p,w)::P.zip vs) m x=_;unfold bindC;exact zfY (i:=i) (B9.mp nd).2 (by simpa using h1) (by simpa using h2) hk
noncomputable def start(N:List Str)(vs:List V):St:=vs.map some++As (N.length-vs.length) none
noncomputable def cxOf(CX:CXT)(P:AH)(w:A4)(K:W.Frag)(mg:Str->Option Ac)(base:Heap)(N:List Str)(qual:Str)(scope:Scope)(f:Addr)(cd:Ac)(A:AJ)(outer:List Env)(s:Ae)(H:Hp)(E:XK):Cx where
 prog:=P
 w:=w
 K:=K
 mg:=mg
 base:=base
 A:=A.deeper (envOfC qual scope s.heap.objs.size f cd)
 N:=N
 s₀:=s
 H₀:=H
 env:=envOfC qual scope s.heap.objs.size f cd
 outer:=outer
 stack:=envOfC qual scope s.heap.objs.size f cd::outer
 ex:=[]
 calm:=true
 fn:=λ_=>true
 pn:=[]
 xe:=λe s'=>Ao (Ax P w) (A.deeper (envOfC qual scope s.heap.objs.size f cd)) (leaving (envOfC qual scope s.heap.objs.size f cd) e) (λ_ s''=>CX outer H s E e s'') (λe' s''=>CX outer H s E e' s'') s'
theorem zhc{sc:Scope}{n:Nat}{x:Str}(h:sc.names.lookup x=some .cell):∃c,(cellsFrom n sc.names []).lookup x=some c:=by have q:=W.cellsFrom_some sc.names n [] (.inl h);exact Option.isSome_iff_exists.mp q
theorem zfI{CX:CXT}{P:AH}{w:A4}{K:W.Frag}{mg:Str -> Option Ac}{base:Heap}{N ps:List Str}{qual:Str}{scope:Scope}{f:Addr}{cd:Ac}{A:AJ}{outer:List Env}{s s1:Ae}{H:Hp}{E:XK}{us:List Ac}{vs:List V}
  (S:FnScope N ps scope) (hd:A.handled=none) (e0:Env0 P w K mg base A outer s H) (hl:vs.length=ps.length) (r:Vals vs us)
  (x:InCallC s s.heap.objs.size (bindL (envOfC qual scope s.heap.objs.size f cd).kindOf (ps.zip us) λ_=>none) (cellsFrom (s.heap.objs.size+1) scope.names []) (bindC (envOfC qual scope s.heap.objs.size f cd).kindOf (ps.zip us) λ_=>none) s1) :
  Inv (cxOf CX P w K mg base N qual scope f cd A outer s H E) [] (start N vs) H s1:=by
 have hpl:ps.length<=N.length:=by have:=congrArg List.length S.pre;rw[A6]at this;lia
 obtain⟨h1,tk,rfl,hk⟩:=x.done;have noA:∀b:Addr,b ∉ (cxOf CX P w K mg base N qual scope f cd A outer s H E).ex:=λb z=>absurd (show b∈([]:List Addr) from z) (by simp)
 refine⟨⟨e0.mod,S.kind,rfl,rfl,Ai _,λy z c h1 h2=>?_,λy hy=>?_,λy c _ h=>?_,λ_=>hd,Around.frames_deeper e0.frames,.inr ⟨rfl,rfl⟩,λb z=>absurd z (noA b),e0.bs,e0.bsz,λb _ _=>noA b,λb z=>absurd z (noA b),e0.funs,e0.frf⟩,
  rfl,e0.bare,Un.kept hk,⟨_,x.toInCall.ns,λi y v h1 h2 h3=>?_⟩,λy c h=>⟨_,x.cell y c h⟩,e0.hok.fresh (Ai _),λy c h=>?_,λp hp=>absurd (show p∈([]:List (Addr×Obj)) from hp) (by simp),e0.hok.kept hk,?_⟩
 .exact name_of_addr x.apart (BE h1) (BE h2)
 .have hy:scope.names.lookup y=some .cell∨scope.names.lookup y=some .free:=hy;rcases hy with hy |hy
  .exact zhc hy
  .exact absurd rfl (S.nofree _ (BE hy))
 .exact Bj (x.above y c (BE h))
 .have hi:i < vs.length := by
   unfold start at h2
   by_cases hi:i<vs.length
   .exact hi
   .rw[AQ (by simpa using hi)]at h2;rw[List.getElem?_replicate]at h2;split at h2 <;> cases h2
  have ha:vs[i]?=some v:=by
   unfold start at h2;rw[AE (by simpa using hi),Az]at h2
   cases e:vs[i]? with
   |none=>rw[e]at h2;cases h2
   |some a=>rw[e]at h2;cases h2;rfl
  obtain⟨u,hu,rv⟩:=r.get ha
  have hp:ps[i]?=some y:=by rw[<- S.pre,List.getElem?_take_of_lt (by lia)];exact h1
  have ndP:ps.Nodup:=by rw[<- S.pre];exact S.nd.sublist (List.take_sublist _ _)
  refine⟨u,rv,?_⟩;rcases S.par y (Aj hp) with k |k
  .exact .inl ⟨k,zfW ndP hp hu k⟩
  .obtain⟨c,e⟩:=zhc (n:=s.heap.objs.size+1) k;refine .inr ⟨.inl k,c,e,?_⟩;have q:=x.cell y c e;rw[zfY ndP hp hu (by show scope.names.lookup y≠_;rw[k];decide)]at q;exact q
 .exact e0.hok.fresh (Bj (x.above y c (BE h)))
 .unfold start;show _=N.length;rw[Ak,Ag,Cf];lia
theorem fn_of{CX:CXT}{P:AH}{w:A4}{K:W.Frag}{mg:Str -> Option Ac}{base:Heap}{k:Nat}{f:Addr}{name qual:Str}{params:Arguments}{body:List Stmt}{scope:Scope}{dV kV doc pm cdv ct oc:Ac}{an od:Option Addr}
  {osl:Array (Option Ac)} {N ps:List Str} {sp:Sp} (lk:K.lookup f=some ⟨oc,od,.func (Dm name qual params body scope dV kV doc pm an cdv ct),osl⟩) (hcd:W.codeIn K cdv qual=true) (S:FnScope N ps scope)
  (len:∀vs H Q E,sp vs H Q E->vs.length=ps.length)
  (hbody:∀(A:AJ) (outer:List Env) (s:Ae) (H:Hp) (vs:List V) (Q:VK) (E:XK),Room k (A.deeper (envOfC qual scope s.heap.objs.size f cdv))->sp vs H Q E ->
   ∃t,PSs (cxOf CX P w K mg base N qual scope f cdv A outer s H E) body t/\t { nx:=λ_ H'=>Q .non H',rt:=Q } (start N vs) H) :
  FnOk P w K mg base CX (k+1) f (Dm name qual params body scope dV kV doc pm an cdv ct) ps sp:=by
 refine⟨len,λA outer s H args us vs Q E hr e0 hb r hsp=>?_⟩;have hl:=len _ _ _ _ hsp;have KX:K.In s.heap:=e0.mod.kin.keeps λb o e=>(e0.bs b o e).1
 have lim:s.heap.NoLimit:=e0.mod.nolimit.keeps λb o e=>(e0.bs b o e).1
 have hkind:∀y∈ps.zip us,scope.names.lookup y.1=some .local∨(scope.names.lookup y.1=some .cell/\((cellsFrom (s.heap.objs.size+1) scope.names []).lookup y.1).isSome=true):=λ⟨n,v⟩ hy=>by
  rcases S.par n (List.of_mem_zip hy).1 with q |q
  .exact .inl q
  .exact .inr ⟨q,W.cellsFrom_some _ _ _ (.inl q)⟩
 refine codeAny_call_function hr.depth (KX _ _ lk) rfl S.co S.gen rfl (W.codeRec_of KX hcd) (hb _ _ _ _ ?_);refine wpAny_newFunctionEnv_cells S.kind hkind λenv he s1 x=>?_
 subst he;refine⟨lim.keeps x.toInCall.keep,codeAny_func ?_⟩;obtain⟨t,ht,hq⟩:=hbody A outer s H vs Q E (hr.deeper _) hsp;have I:Inv (cxOf CX P w K mg base N qual scope f cdv A outer s H E) [] (start N vs) H s1:=zfI S hr.hd e0 hl r x;refine Bs (ht [] s1 (start N vs) H _ I hq) (λfl s' hs=>?_) λe s' hs=>hs
 have fin:∀{σ':St} {H':Hp} {v:V} {u:Ac},Inv (cxOf CX P w K mg base N qual scope f cdv A outer s H E) [] σ' H' s'->RelV v u->Q v H'->CE outer P w H s Q u s' :=
  λ{σ' H' v u} J rv q=>⟨v,H',J.os,J.bare,J.base,J.hok,rv,q⟩
 cases fl with
 |ret u =>
  obtain⟨v,σ',H',J,rv,q⟩:=hs;exact fin J rv q
 |next =>
  obtain⟨σ',H',J,q⟩:=hs;exact fin (v:=V.non) (u:=BI) J rfl q
 |brk =>
  obtain⟨_,_,_,q⟩:=hs;exact Bk q
 |cont =>
  obtain⟨_,_,_,q⟩:=hs;exact Bk q
section
variable {X:Cx}{x:Str}{p pos:Pos}{e:Expr}{es:List Expr}{t:TA}{id T:String}{r:List V->Hp->VK->Prop}
noncomputable def tCB(r:List V->Hp->VK->Prop)(t:TA):TE:=λσ H Q=>t σ H λvs H1=>r vs H1 Q
theorem zaw (hc:CallR X (.builtin id) r) (hg:Gl X x) (hm:X.mg x=none) (hv:bootBuiltins x=some (.builtin id)) (ha:PA X (e :: es) t) (hn:x ≠ "__name__" := by decide) (hdb:(x == ("__debug__" : Str))=false := by decide)
  (he:A8 (e::es) X.env=(false,eval e X.env)::A8 es X.env:=by rfl) (hpl:(DM pos (A8 es X.env)).any (·.1)=false:=by rfl):PE X (.Call (.Name x p) (e::es) [] pos) (tCB r t):=by
 intro pins s σ H Q I h;refine BR (zch I hg hm hv ?_ hn hdb);exact PyProof.Rows.callWith_builtin1 (thn (ha pos pins s σ H _ I h) λus s1 ⟨vs,H1,I1,r1,q1⟩=>hc pins s1 σ H1 vs us Q I1 r1 q1) he hpl
theorem zcM (hc:CallR X (.type T) r) (hg:Gl X x) (hm:X.mg x=none) (hv:bootBuiltins x=some (.type T)) (ha:PA X (e :: es) t) (hn:x ≠ "__name__" := by decide) (hdb:(x == ("__debug__" : Str))=false := by decide)
  (he:A8 (e::es) X.env=(false,eval e X.env)::A8 es X.env:=by rfl) (hpl:(DM pos (A8 es X.env)).any (·.1)=false:=by rfl):PE X (.Call (.Name x p) (e::es) [] pos) (tCB r t):=by
 intro pins s σ H Q I h;refine BR (zch I hg hm hv ?_ hn hdb);exact BH (thn (ha pos pins s σ H _ I h) λus s1 ⟨vs,H1,I1,r1,q1⟩=>hc pins s1 σ H1 vs us Q I1 r1 q1) he hpl
end
section
variable {κ:Type} [DecidableEq κ]
noncomputable def valV(kvs:List (κ×V))(k:κ):Option V:=(kvs.find? λkv=>decide (kv.1=k)).map (·.2)
noncomputable def putK(kvs:List (κ×V))(k:κ)(v:V):List (κ×V) :=
 if (kvs.any λkv=>decide (kv.1=k))=true then kvs.map (λkv=>if kv.1=k then (kv.1,v) else kv) else kvs++[(k,v)]
theorem za8{p:κ×V}{r:List (κ×V)}{k:κ}(e:p.1=k):valV (p::r) k=some p.2:=by simp[valV,CC,e]
theorem za3{p:κ×V}{r:List (κ×V)}{k:κ}(e:¬ p.1=k):valV (p::r) k=valV r k:=by simp[valV,CC,e]
theorem zcm(k:κ):∀kvs:List (κ×V),(kvs.any λkv=>decide (kv.1=k))=(valV kvs k).isSome
 |[]=>rfl
 |p::r=>by
  rw[List.any_cons]
  by_cases e:p.1=k
  .simp only[za8 e,decide_eq_true e,Bool.true_or,Option.isSome_some]
  .rw[za3 e,decide_eq_false e,Bool.false_or];exact zcm k r
theorem zgB(k j:κ)(y:V):∀kvs:List (κ×V),valV (kvs.map λkv=>if kv.1=k then (kv.1,y) else kv) j=(valV kvs j).map λx=>if j=k then y else x
 |[]=>rfl
 |p::r=>by
  have ih:=zgB k j y r;rw[AT]
  by_cases h:p.1=k
  .rw[if_pos h]
   by_cases e:p.1=j
   .rw[za8 (p:=(p.1,y)) e,za8 e,C1,if_pos (e.symm.trans h)]
   .rw[za3 (p:=(p.1,y)) e,za3 e,ih]
  .rw[if_neg h]
   by_cases e:p.1=j
   .rw[za8 (p:=p) e,za8 e,C1,if_neg (λz=>h (e.trans z))]
   .rw[za3 (p:=p) e,za3 e,ih]
theorem zfj(k j:κ)(y:V):∀kvs:List (κ×V),valV kvs k=none->valV (kvs++[(k,y)]) j=if j=k then some y else valV kvs j
 |[],_=>by
  by_cases e:k=j
  .rw[if_pos e.symm];exact za8 (p:=(k,y)) e
  .rw[if_neg (λz=>e z.symm)];exact za3 (p:=(k,y)) e
 |p::r,hn=>by
  rw[List.cons_append];have hk:¬ p.1=k:=λz=>by rw[za8 z]at hn;cases hn
  rw[za3 hk]at hn;have ih:=zfj k j y r hn
  by_cases e:p.1=j
  .rw[za8 e,za8 e,if_neg (λz=>hk (e.trans z))]
  .rw[za3 e,za3 e,ih]
theorem zcI(kvs:List (κ×V))(k j:κ)(y:V):valV (putK kvs k y) j=if j=k then some y else valV kvs j:=by
 unfold putK
 by_cases a:(kvs.any λkv=>decide (kv.1=k))=true
 .rw[if_pos a,zgB];rw[zcm]at a
  by_cases e:j=k
  .obtain⟨x,hx⟩:=Option.isSome_iff_exists.mp a;rw[if_pos e,e,hx,C1,if_pos rfl]
  .rw[if_neg e]
   cases valV kvs j with
   |none=>rfl
   |some x=>rw[C1,if_neg e]
 .rw[if_neg a];refine zfj k j y kvs ?_
  rw[zcm]at a
  cases q:valV kvs k with
  |none=>rfl
  |some x=>rw[q]at a;exact (a rfl).elim
theorem zaP(kvs:List (κ×V))(k:κ)(v:V):(putK kvs k v).length<=kvs.length+1:=by
 unfold putK;split
 .rw[Ag];lia
 .rw[Ak,A3,C3];lia
theorem putK_new{kvs:List (κ×V)}{k:κ}(v:V)(h:valV kvs k=none):putK kvs k v=kvs++[(k,v)]:=by unfold putK;rw[zcm,h];exact if_neg (by decide)
theorem RelO.isSome_eq{o:Option V}{u:Option Ac}(r:RelO o u):o.isSome=u.isSome:=by
 cases o with
 |none=>cases u with
  |none=>rfl
  |some _=>exact (show False from r).elim
 |some _=>cases u with
  |none=>exact (show False from r).elim
  |some _=>rfl
theorem RelO.getD{o:Option V}{u:Option Ac}{d:V}{d':Ac}(r:RelO o u)(rd:RelV d d'):RelV (o.getD d) (u.getD d'):=by
 cases o with
 |none=>cases u with
  |none=>exact rd
  |some _=>exact (show False from r).elim
 |some _=>cases u with
  |none=>exact (show False from r).elim
  |some _=>exact r
theorem KV.val{kvs:List (κ×V)}{vs:List (κ×Ac)}(r:KV kvs vs)(k:κ):RelO (valV kvs k) (valueAt vs k):=by
 unfold KV at r
 induction r with
 |nil=>exact Cg
 |@cons p q ps qs h t ih =>
  obtain⟨h1,h2⟩:=h
  by_cases e:p.1=k
  .have e':q.1=k:=h1.symm.trans e;have b:valueAt (q::qs) k=some q.2:=by simp[valueAt,CC,e']
   rw[za8 e,b];exact h2
  .have e':¬ q.1=k:=λz=>e (h1.trans z)
   have b:valueAt (q::qs) k=valueAt qs k:=by simp[valueAt,CC,e']
   rw[za3 e,b];exact ih
theorem KV.any{kvs:List (κ×V)}{vs:List (κ×Ac)}(r:KV kvs vs)(k:κ):(kvs.any λkv=>decide (kv.1=k))=vs.any λkv=>decide (kv.1=k):=by
 unfold KV at r
 induction r with
 |nil=>rfl
 |cons h t ih=>rw[List.any_cons,List.any_cons,ih,h.1]
theorem KV.repl{kvs:List (κ × V)}{vs:List (κ × Ac)}(r:KV kvs vs)(k : κ){y:V}{u:Ac}(ry:RelV y u) :
  KV (kvs.map λkv=>if kv.1=k then (kv.1,y) else kv) (vs.map λkv=>if kv.1=k then (kv.1,u) else kv):=by
 unfold KV at r ⊢
 induction r with
 |nil=>exact .nil
 |@cons p q ps qs h t ih =>
  rw[AT,AT];refine .cons ?_ ih;obtain⟨h1,h2⟩:=h
  by_cases e:p.1=k
  .rw[if_pos e,if_pos (h1.symm.trans e)];exact⟨h1,ry⟩
  .rw[if_neg e,if_neg (λz=>e (h1.trans z))];exact⟨h1,h2⟩
theorem KV.put{kvs:List (κ×V)}{vs:List (κ×Ac)}(r:KV kvs vs)(k:κ){y:V}{u:Ac}(ry:RelV y u):KV (putK kvs k y) (stored vs k u):=by
 unfold putK stored;rw[r.any k]
 by_cases e:(vs.any λkv=>decide (kv.1=k))=true
 .rw[if_pos e,if_pos e];exact r.repl k ry
 .rw[if_neg e,if_neg e];exact Paired.snoc r ⟨rfl,ry⟩
theorem KV.length{kvs:List (κ×V)}{vs:List (κ×Ac)}(r:KV kvs vs):kvs.length=vs.length:=C8 r
end
theorem kV_is{P:AH}{w:A4}{k:Key}{u:Ac}(r:RelV (kV k) u):(zaz P w).is k u=true:=by
 cases k with
 |inl i=>obtain⟨t,e⟩:=(show ∃t,u=CA i t from r);subst e;exact zgr P w i t
 |inr x=>obtain⟨t,e⟩:=(show ∃t,u=Value.str x t from r);subst e;exact zbB P w x t
theorem zfH{P:AH}{w:A4}:∀{ks:List Key}{us:List Ac},Vals (ks.map kV) us->ItemsAre (zaz P w) ks us
 |[],_,r=>by rw[List.map_nil]at r;cases r;exact .nil
 |k::ks,_,r=>by
  rw[AT]at r
  cases r with
  |cons h t=>exact .cons (kV_is h) (zfH t)
noncomputable abbrev KT(H:Hp):List (List Key×V)->List (List Key×Addr×Ac)->Prop:=Paired λp q=>p.1=q.1/\H q.2.1=some (.tup (p.1.map kV))/\RelV p.2 q.2.2
theorem KT.val{H:Hp}{kvs:List (List Key×V)}{xs:List (List Key×Addr×Ac)}(r:KT H kvs xs)(k:List Key):RelO (valV kvs k) ((atKey xs k).map (·.2)):=by
 induction r with
 |nil=>exact Cg
 |@cons p q ps qs h t ih =>
  obtain⟨h1,_,h2⟩:=h
  by_cases e:p.1=k
  .have e':q.1=k:=h1.symm.trans e;have b:atKey (q::qs) k=some q.2:=by simp[atKey,CC,e']
   rw[za8 e,b];exact h2
  .have e':¬ q.1=k:=λz=>e (h1.trans z)
   have b:atKey (q::qs) k=atKey qs k:=by simp[atKey,CC,e']
   rw[za3 e,b];exact ih
theorem KT.repl{H:Hp}{kvs:List (List Key × V)}{xs:List (List Key × Addr × Ac)}(r:KT H kvs xs)(k:List Key){y:V}{u:Ac}(ry:RelV y u) :
  KT H (kvs.map λkv=>if kv.1=k then (kv.1,y) else kv) (xs.map (putAt k u)):=by
 induction r with
 |nil=>exact .nil
 |@cons p q ps qs h t ih =>
  rw[AT,AT];refine .cons ?_ ih;obtain⟨h1,h2,h3⟩:=h;unfold putAt
  by_cases e:p.1=k
  .rw[if_pos e,if_pos (h1.symm.trans e)];exact⟨h1,h2,ry⟩
  .rw[if_neg e,if_neg (λz=>e (h1.trans z))];exact⟨h1,h2,h3⟩
theorem KT.put{H:Hp}{kvs:List (List Key × V)}{xs:List (List Key × Addr × Ac)}(r:KT H kvs xs)(k:List Key){b:Addr}{y:V}{u:Ac}(hb:H b=some (.tup (k.map kV)))(ry:RelV y u) :
  KT H (putK kvs k y) (storedH xs k b u):=by
 have e:(kvs.any λkv=>decide (kv.1=k))=(atKey xs k).isSome:=by rw[zcm,(r.val k).isSome_eq,Option.isSome_map]
 unfold putK storedH;rw[e]
 by_cases q:(atKey xs k).isSome=true
 .rw[if_pos q,if_pos q];exact r.repl k ry
 .rw[if_neg q,if_neg q];exact Paired.snoc r ⟨rfl,hb,ry⟩
theorem KT.keeps{H H':Hp}{kvs:List (List Key×V)}{xs:List (List Key×Addr×Ac)}(r:KT H kvs xs)(ht:∀b ys,H b=some (.tup ys)->H' b=some (.tup ys)):KT H' kvs xs :=
 Paired.mapP r λ_ _ z=>⟨z.1,ht _ _ z.2.1,z.2.2⟩
section
variable {P:AH}{w:A4}{H:Hp}{h:Heap}{a:Addr}
theorem rd_of{u:HO}(ok:HOk P w H h)(e:Rd H a u):ObjOk P w H h a u:=e.ok ok
theorem dk_rd{kvs:List (Key×V)}(ok:HOk P w H h)(e:Rd H a (.dK kvs)):kvs.length<=sizeLine/\(a == B3)=false/\∃vs,KV kvs vs/\h.DictOf (zaz P w) a vs :=
 show ObjOk P w H h a (.dK kvs) from rd_of ok e
theorem dk_of{kvs:List (Key×V)}(ok:HOk P w H h)(e:H a=some (.dK kvs)):kvs.length<=sizeLine/\(a == B3)=false/\∃vs,KV kvs vs/\h.DictOf (zaz P w) a vs:=dk_rd ok (.inl e)
theorem zdM{ks:List Key}(ok:HOk P w H h)(e:H a=some (.tup (ks.map kV))):(DO (zaz P w)).is h ks a:=by obtain⟨_,its,r,o,h1,h2,n,h3⟩:=(show ObjOk P w H h a (.tup (ks.map kV)) from ok a _ e);exact⟨o,its.toArray,n,h1,h2,h3,by simpa using zfH r⟩
theorem dt_rd{kvs:List (List Key × V)}(ok:HOk P w H h)(e:Rd H a (.dT kvs)):kvs.length <= sizeLine /\ (a == B3)=false /\
  ∃xs,KT H kvs xs/\h.DictOfH (DO (zaz P w)) a xs:=by
 obtain⟨z,y,xs,r,o,es,ep,h1,h2,h3,h4,h5⟩:=(show ObjOk P w H h a (.dT kvs) from rd_of ok e);refine⟨z,y,xs,r,o,es,ep,h1,h2,h3,h4,λx hx=>?_,h5⟩
 have all:∀{l:List (List Key×V)} {m:List (List Key×Addr×Ac)},KT H l m->∀x∈m,(DO (zaz P w)).is h x.1 x.2.1:=by
  intro l m q
  induction q with
  |nil=>intro x hx;exact nomatch hx
  |@cons p q ps qs hq t ih =>
   intro x hx;rcases Aw.mp hx with e |hx
   .subst e;exact zdM ok (by rw[<- hq.1];exact hq.2.1)
   .exact ih x hx
 exact all r x hx
theorem dt_of{kvs:List (List Key × V)}(ok:HOk P w H h)(e:H a=some (.dT kvs)):kvs.length <= sizeLine /\ (a == B3)=false /\
  ∃xs,KT H kvs xs/\h.DictOfH (DO (zaz P w)) a xs:=dt_rd ok (.inl e)
end
noncomputable def DGet(H:Hp)(a:Addr)(y:V)(r:Option V):Prop :=
 (∃kvs k,Rd H a (.dK kvs)/\y=kV k/\r=valV kvs k)∨∃kvs k b,Rd H a (.dT kvs)/\y=.ref b/\H b=some (.tup (k.map kV))/\r=valV kvs k
noncomputable def DPut(H:Hp)(a:Addr)(y v:V)(H':Hp):Prop :=
 (∃kvs k,H a=some (.dK kvs)/\y=kV k/\kvs.length<sizeLine/\H'=upd H a (.dK (putK kvs k v))) ∨
 ∃kvs k b,H a=some (.dT kvs)/\y=.ref b/\H b=some (.tup (k.map kV))/\kvs.length<sizeLine/\H'=upd H a (.dT (putK kvs k v))
section
variable {X:Cx}{pins:List (Addr×Obj)}{σ:St}{H:Hp}{s:Ae}{a:Addr}{y v:V}{u r:Ac}{o:Option V}{A:AJ}{E:Ac->Ae->Prop}
theorem Inv.big(I:Inv X pins σ H s):B3<s.heap.objs.size:=by have h:AF<s.heap.objs.size:=(I.mod.glob.keeps I.bk).lt;exact Nat.lt_trans (by decide) h
theorem d_in{Q:Ac -> Ae -> Prop}(hu:A.units + 1 < cLine)(I:Inv X pins σ H s)(g:DGet H a y o)(ry:RelV y u)(h:∀s', Inv X pins σ H s' -> Q (.bool o.isSome) s') :
  Ao (Ax X.prog X.w) A (BV .In u (.ref a)) Q E s:=by
 rcases g with⟨kvs,k,e,ey,l⟩ |⟨kvs,k,b,e,ey,eb,l⟩
 .subst ey;obtain⟨z,hd,vs,rel,dd⟩:=dk_rd I.hok e;refine wpAny_in_of (kV_is ry) hd dd.mapOf ?_
  rw[<- (rel.val k).isSome_eq,<- l];exact h _ (I.tok _)
 .subst ey
  cases (show u=Ar b from ry)
  obtain⟨z,hd,xs,rel,dd⟩:=dt_rd I.hok e;refine wpAny_in_heap (CV hu) (zdM I.hok eb) hd dd ?_
  have q:=(rel.val k).isSome_eq;rw[Option.isSome_map]at q;rw[<- q,<- l];exact h _ (I.tok _)
theorem zk8{Q:Ac -> Ae -> Prop}(hu:A.units + 1 < cLine)(I:Inv X pins σ H s)(g:DGet H a y o)(ry:RelV y u)(h:∀s', Inv X pins σ H s' -> Q (.bool (!o.isSome)) s') :
  Ao (Ax X.prog X.w) A (BV .NotIn u (.ref a)) Q E s:=by
 rcases g with⟨kvs,k,e,ey,l⟩ |⟨kvs,k,b,e,ey,eb,l⟩
 .subst ey;obtain⟨z,hd,vs,rel,dd⟩:=dk_rd I.hok e;refine wpAny_notIn_of (kV_is ry) hd dd.mapOf ?_
  rw[<- (rel.val k).isSome_eq,<- l];exact h _ (I.tok _)
 .subst ey
  cases (show u=Ar b from ry)
  obtain⟨z,hd,xs,rel,dd⟩:=dt_rd I.hok e;refine wpAny_notIn_heap (CV hu) (zdM I.hok eb) hd dd ?_
  have q:=(rel.val k).isSome_eq;rw[Option.isSome_map]at q;rw[<- q,<- l];exact h _ (I.tok _)
theorem zc0{h':Heap}{t':Nat}{ob:HO}(I:Inv X pins σ H s)(mu:Mut (H a))(hs:Cu a s.heap h')(he:∃q, h'.get? a=some q)(new:ObjOk X.prog X.w (upd H a ob) h' a ob) :
  Inv X pins σ (upd H a ob) { s with heap:=h',toks:=t' } :=
 I.write (x:=a) (e:=a) mu (.inl rfl) (λb q hb z=>(hs.2 b hb).trans z) he new
theorem zi7{P:AH}{w:A4}{H':Hp}{h':Heap}{kvs:List (Key × V)}{vs:List (Key × Ac)}(z:kvs.length <= sizeLine)(hd:(a == B3)=false)(rel:KV kvs vs)(dd:h'.DictOf (zaz P w) a vs) :
  ObjOk P w H' h' a (.dK kvs):=⟨z,hd,vs,rel,dd⟩
theorem zjb{H':Hp}{Q:Unit -> Ae -> Prop}(hu:A.units + 1 < cLine)(I:Inv X pins σ H s)(g:DPut H a y v H')(ry:RelV y u)(rv:RelV v r)(h:∀s', Inv X pins σ H' s' -> Q () s') :
  Ao (Ax X.prog X.w) A (setItem (.ref a) u r) Q E s:=by
 rcases g with⟨kvs,k,e,ey,l,eH⟩ |⟨kvs,k,b,e,ey,eb,l,eH⟩
 .subst ey eH;obtain⟨z,hd,vs,rel,dd⟩:=dk_of I.hok e;have hz:vs.length<=sizeLine:=by rw[<- rel.length];exact z
  have hl:(putK kvs k v).length<=sizeLine:=by have:=zaP kvs k v;lia
  refine wpAny_setItem_pairs (hsz:=hz) (kV_is ry) dd λh' dd' hs=>h _ ?_
  have he:∃q,h'.get? a=some q:=let ⟨q,_,_,hq,_⟩:=dd';⟨q,hq⟩
  exact zc0 I (by rw[e];exact Cg) hs he (zi7 hl hd (rel.put k rv) dd')
 .subst ey eH
  cases (show u=Ar b from ry)
  obtain⟨z,hd,xs,rel,dd⟩:=dt_of I.hok e;have hz:xs.length<=sizeLine:=by rw[<- C8 rel];exact z
  have hl:(putK kvs k v).length<=sizeLine:=by have:=zaP kvs k v;lia
  refine wpAny_setItem_heap (hsz:=hz) (CV hu) (zdM I.hok eb) dd λh' dd' hs=>h _ ?_
  obtain⟨q,es,ep,hq,h2,h3,h4,_,h5⟩:=dd';refine zc0 I (by rw[e];exact Cg) hs ⟨q,hq⟩ ⟨hl,hd,_,(rel.put k eb rv).keeps λc ys ec=>?_,q,es,ep,hq,h2,h3,h4,h5⟩;rw[zag (ne_of ec e (λz=>nomatch z))];exact ec
end
section
variable {X:Cx}{pins:List (Addr×Obj)}{σ:St}{H:Hp}{s:Ae}{a:Addr}{kvs:List (Key×V)}{k:Key}{u:Ac}{A:AJ}{E:Ac->Ae->Prop}
end
noncomputable def NoSl(i:Expr):Prop:=∀ov iv,subscripted i false ov iv=operate [ov,iv] (getItem ov iv)
theorem zhV{prog:AH}{w:A4}{A:AJ}{E:Ac -> Ae -> Prop}{s:Ae}{env:Env}{value slice:Expr}{pos:Pos}{T id:String}{Q:Ac -> Ae -> Prop}
  (hl:typeLookup (.type T) "__getitem__" = pure (some (.builtin id))) (hs:NoSl slice)
  (h:Ao (Ax prog w) A (eval value env) (λo s₁=>Ao (Ax prog w) A (eval slice env) (λi s₂=>s₂.TypeIs o T/\Ao (Ax prog w) A (getItem o i) Q E s₂) E s₁) E s) :
  Ao (Ax prog w) A (eval (.Subscript value slice pos) env) Q E s:=by
 refine Subscript_ (Bs h (λo s₁ h₁=>Bs h₁ (λi s₂ h₂=>?_) λ_ _ x=>x) λ_ _ x=>x);obtain⟨hT,h₂⟩:=h₂;unfold subscriptTail;refine Ab ?_
 rw[getitemInPython_of_ne hT.not_modules];refine Ab (wpAny_specialOf hT hl ?_)
 have fin:Ao (Ax prog w) A (subscripted slice false o i) (λr s₃=>Ao (Ax prog w) A (letTemporaryGo value o r >>= λ_=>pure r) Q E s₃) E s₂:=by rw[hs o i];exact wpAny_operating (Bs h₂ (λr s₃ h₃=>Ab (wpAny_letTemporaryGo (Ah h₃))) λ_ _ x=>x)
 first
  |exact Ah (Ab fin)
  |exact Ab (Ah (Ab fin))
  |exact Ab fin
noncomputable def tDIn(ty td:TE):TE:=λσ H Q=>ty σ H λy H1=>td σ H1 λx H2=>∃a o,x=.ref a/\DGet H2 a y o/\Q (.bl o.isSome) H2
noncomputable def zkG(ty td:TE):TE:=λσ H Q=>ty σ H λy H1=>td σ H1 λx H2=>∃a o,x=.ref a/\DGet H2 a y o/\Q (.bl (!o.isSome)) H2
noncomputable def sDPut(td ty tv:TE):TS:=λD σ H=>tv σ H λv H1=>td σ H1 λx H2=>ty σ H2 λy H3=>∃a H4,x=.ref a/\DPut H3 a y v H4/\D.nx σ H4
section
variable {X:Cx}{o i e value:Expr}{pos pos' tpos:Pos}{td ty tv:TE}
theorem zfx(hu:X.A.units+1<cLine)(hi:PE X i ty)(ho:PE X o td):PC X .In i o (tDIn ty td):=by
 intro pins s σ H Q I h;refine thn (hi pins s σ H _ I h) λiv s1 ⟨y,H1,I1,ry,q1⟩=>thn (ho pins s1 σ H1 _ I1 q1) λu s2 ⟨x,H2,I2,rx,a,ov,ex,g,q2⟩=>?_
 subst ex;obtain rfl:u=Ar a:=rx;exact d_in hu I2 g ry λs3 I3=>⟨.bl ov.isSome,H2,I3,rfl,q2⟩
theorem zcN(hu:X.A.units+1<cLine)(hi:PE X i ty)(ho:PE X o td):PC X .NotIn i o (zkG ty td):=by
 intro pins s σ H Q I h;refine thn (hi pins s σ H _ I h) λiv s1 ⟨y,H1,I1,ry,q1⟩=>thn (ho pins s1 σ H1 _ I1 q1) λu s2 ⟨x,H2,I2,rx,a,ov,ex,g,q2⟩=>?_
 subst ex;obtain rfl:u=Ar a:=rx;exact zk8 hu I2 g ry λs3 I3=>⟨.bl (!ov.isSome),H2,I3,rfl,q2⟩
theorem zeI(hu:X.A.units + 1 < cLine)(ho:PE X o td)(hi:PE X i ty)(hv:PE X value tv)(hs:swapsWith value (some (.Subscript o i pos')) pos.line X.env=pure false) :
  PS X (.Assign [.Subscript o i pos'] value pos) (sDPut td ty tv):=by
 intro pins s σ H D I h;refine wpAny_Assign_Subscript (thn (hv pins s σ H _ I h) λr s1 ⟨v,H1,I1,rv,q1⟩=>thn (ho pins s1 σ H1 _ I1 q1) λu s2 ⟨x,H2,I2,rx,q2⟩=>thn (hi pins s2 σ H2 _ I2 q2) λiv s3 ⟨y,H3,I3,ry,a,H4,ex,g,q3⟩=>?_) hs;subst ex;obtain rfl:u=Ar a:=rx;exact zjb hu I3 g ry rv λs4 I4=>⟨σ,H4,I4,q3⟩
end
theorem zjZ {P:AH}{w:A4}{H:Hp}(h:Heap) (hb:B3<h.objs.size):ObjOk P w H (h.push { cls:=.type "dict",data:=.dict #[] }) h.objs.size (.dK []) :=
 ⟨AZ _,beq_eq_false_iff_ne.mpr (BX (AI hb)),[],.nil,Heap.DictOf.new h⟩
theorem zg8 {P:AH}{w:A4}{H:Hp}(h:Heap) (hb:B3<h.objs.size):ObjOk P w H (h.push { cls:=.type "dict",data:=.dict #[] }) h.objs.size (.dT []) :=
 ⟨AZ _,beq_eq_false_iff_ne.mpr (BX (AI hb)),[],.nil,_,#[],0,Aq _ rfl,⟨rfl,rfl,rfl⟩,rfl,rfl,List.nodup_nil⟩
noncomputable def zln:TE:=λ_ H Q=>∀p,H p=none->Q (.ref p) (upd H p (.dK []))
noncomputable def zlm:TE:=λ_ H Q=>∀p,H p=none->Q (.ref p) (upd H p (.dT []))
section
variable {X:Cx}{pos:Pos}
theorem zjM:PE X (.Dict [] [] pos) zln:=λpins s σ H Q I h =>
 wpAny_Dict_empty ⟨.ref s.heap.objs.size,_,I.laid (a:=s.heap.objs.size) (o:=.dK []) (t':=s.toks) (λ_ _ q=>Af _ q) (Ai _) (zjZ s.heap I.big),rfl,h _ (I.hok.fresh (Ai _))⟩
theorem zdn:PE X (.Dict [] [] pos) zlm:=λpins s σ H Q I h =>
 wpAny_Dict_empty ⟨.ref s.heap.objs.size,_,I.laid (a:=s.heap.objs.size) (o:=.dT []) (t':=s.toks) (λ_ _ q=>Af _ q) (Ai _) (zg8 s.heap I.big),rfl,h _ (I.hok.fresh (Ai _))⟩
end
structure M1 (X:Cx) (o:Expr) (m:Str) (apos:Pos) (e:Expr) (cpos:Pos):Prop where
 base:attributeBase o m X.env (eval o X.env)=eval o X.env
 few:((DM cpos (A8 [e] X.env)).all (λx=>!x.1) && (CN cpos (BW [] X.env)).all (λx=>x.1.isSome)
  && decide (([e]:List Expr).length+([]:List Keyword).length+(if ([]:List Keyword).isEmpty then 0 else 1)<30))=true
 line:(apos.endLine == cpos.line)=true
 trees:DM cpos (A8 [e] X.env)=[(false,eval e X.env)]
structure M2 (X:Cx) (o:Expr) (m:Str) (apos:Pos) (e f:Expr) (cpos:Pos):Prop where
 base:attributeBase o m X.env (eval o X.env)=eval o X.env
 few:((DM cpos (A8 [e,f] X.env)).all (λx=>!x.1) && (CN cpos (BW [] X.env)).all (λx=>x.1.isSome)
  && decide (([e,f]:List Expr).length+([]:List Keyword).length+(if ([]:List Keyword).isEmpty then 0 else 1)<30))=true
 line:(apos.endLine == cpos.line)=true
 trees:DM cpos (A8 [e,f] X.env)=[(false,eval e X.env),(false,eval f X.env)]
noncomputable def IsD(H:Hp)(a:Addr):Prop:=(∃kvs,Rd H a (.dK kvs))∨∃kvs,Rd H a (.dT kvs)
theorem ziZ{X:Cx}{pins:List (Addr × Obj)}{σ : St}{H:Hp}{s:Ae}{a:Addr}(I:Inv X pins σ H s)(d:IsD H a) :
  s.TypeIs (.ref a) "dict" /\ (∀b,Ar a=.ref b->∃ob,s.heap.get? b=some ob/\ob.dict=none)/\(a == B3)=false:=by
 rcases d with⟨kvs,e⟩ |⟨kvs,e⟩
 .obtain⟨_,hd,vs,_,dd⟩:=dk_rd I.hok e;refine⟨dd.typeIs,λb q=>?_,hd⟩
  cases q
  obtain⟨ob,_,_,h1,h2,_⟩:=dd;exact⟨ob,h1,h2.2.1⟩
 .obtain⟨_,hd,xs,_,dd⟩:=dt_rd I.hok e;refine⟨dd.typeIs,λb q=>?_,hd⟩
  cases q
  obtain⟨ob,_,_,h1,h2,_⟩:=dd;exact⟨ob,h1,h2.2.1⟩
section
variable {X:Cx}{pins:List (Addr×Obj)}{σ:St}{H:Hp}{s:Ae}{a:Addr}{y d:V}{u r:Ac}{o:Option V}{A:AJ}{E:Ac->Ae->Prop}
theorem zl0{Q:Ac -> Ae -> Prop}(hu:A.units + 1 < cLine)(I:Inv X pins σ H s)(g:DGet H a y o)(ry:RelV y u)(rd:RelV d r)(h:∀w' s', Inv X pins σ H s' -> RelV (o.getD d) w' -> Q w' s') :
  Ao (Ax X.prog X.w) A (call (.builtin "dict.get") [.ref a,u,r]) Q E s:=by
 rcases g with⟨kvs,k,e,ey,l⟩ |⟨kvs,k,b,e,ey,eb,l⟩
 .subst ey;obtain⟨z,hd,vs,rel,dd⟩:=dk_rd I.hok e;refine call_meetsIn PySem.F.slot_dict_get dd.typeIs PySem.F.entry_dict_get (PySem.F.args_dict_get_3 _ _ _) (meets_dict_get_default (zaz X.prog X.w) a (kV_is ry) hd r) ⟨_,dd.mapOf,h _ _ (I.tok _) ?_⟩;rw[l];exact (rel.val k).getD rd
 .subst ey
  cases (show u=Ar b from ry)
  obtain⟨z,hd,xs,rel,dd⟩:=dt_rd I.hok e;refine call_meetsIn PySem.F.slot_dict_get dd.typeIs PySem.F.entry_dict_get (PySem.F.args_dict_get_3 _ _ _) (meetsH_dict_get_default (DO (zaz X.prog X.w)) a b hd r) ⟨CV hu,k,xs,zdM I.hok eb,dd,h _ _ (I.tok _) ?_⟩;rw[l];exact (rel.val k).getD rd
end
noncomputable def zlo(td ty tx:TE):TE:=λσ H Q=>td σ H λx H1=>∃a,x=.ref a/\IsD H1 a/\ty σ H1 λy H2=>tx σ H2 λz H3=>∃o,DGet H3 a y o/\Q (o.getD z) H3
section
variable {X:Cx}{o e f:Expr}{apos cpos:Pos}{td ty tx:TE}
theorem zjO (hu:X.A.units+1<cLine) (ho:PE X o td) (he:PE X e ty) (hf:PE X f tx) (m:M2 X o "get" apos e f cpos):PE X (.Call (.Attribute o "get" apos) [e,f] [] cpos) (zlo td ty tx):=by
 intro pins s σ H Q I h;refine wpAny_Call_method m.base m.few m.line DQ PySem.F.slot_dict_get PySem.F.type_dict_get (thn (ho pins s σ H _ I h) λu s1 ⟨x,H1,I1,rx,a,ex,d,q1⟩=>?_);subst ex;obtain rfl:u=Ar a:=rx;obtain⟨t1,t2,_⟩:=ziZ I1 d;refine⟨t1,t2,?_⟩;rw[m.trees]
 refine Cv rfl (Do (BQ (thn (he pins s1 σ H1 _ I1 q1) λiv s2 ⟨y,H2,I2,ry,q2⟩ =>
  BQ (thn (hf pins s2 σ H2 _ I2 q2) λfv s3 ⟨z,H3,I3,rz,ov,g,q3⟩=>Dh ?_))))
 exact zl0 hu I3 g ry rz λw' s4 I4 rw'=>⟨_,H3,I4,rw',q3⟩
end
section
variable {X:Cx}{pins:List (Addr×Obj)}{σ:St}{H:Hp}{s:Ae}{a:Addr}{kvs:List (Key×V)}{A:AJ}{E:Ac->Ae->Prop}
end
section
variable {X:Cx}{pins:List (Addr×Obj)}{σ:St}{H:Hp}{s:Ae}{a:Addr}{y:V}{u:Ac}{A:AJ}{E:Ac->Ae->Prop}
end
end L2
namespace HT
open PySem PyProof.Rows
noncomputable def lexLt:List Int->List Int->Bool
 |[],[]=>false
 |[],_::_=>true
 |_::_,[]=>false
 |x::xs,y::ys=>if x=y then lexLt xs ys else decide (x<y)
theorem lexLt_cons(x y:Int)(xs ys:List Int):lexLt (x::xs) (y::ys)=if x=y then lexLt xs ys else decide (x<y):=rfl
theorem zeY:lexLt [] []=false:=rfl
theorem zd3(y:Int)(ys:List Int):lexLt [] (y::ys)=true:=rfl
theorem zd4(x:Int)(xs:List Int):lexLt (x::xs) []=false:=rfl
theorem zjX(A:AJ)(s:Ae)(a:Int)(t:Tok)(c:Int)(u:Tok):∃e,SeqAt.EqAt A s (.int a t) (.int c u) e/\(e=true ↔ a=c) :=
 ⟨(a == c),SeqAt.EqAt.int_int a t c u,by simp⟩
theorem zjE(A:AJ)(s:Ae)(a:Int)(t:Tok)(c:Int)(u:Tok)(prog:AH)(w:A4)(E:Ac -> Ae -> Prop)(Q:Ac -> Ae -> Prop)(h:Q (.bool (decide (a < c))) s) :
  Ao (Ax prog w) A (richCompare .Lt (.int a t) (.int c u)) Q E s :=
 (PyProof.Rows.lt_int h:Ao (Ax prog w) A (BV .Lt (.int a t) (.int c u)) Q E s)
section
open PySem.SeqAt
open PySem.AutoSeq1 (wpAny_loadPart')
open PySem.MeetsSeq PySem.MeetsSeq2 PySem.MeetsSeq3
theorem zeu(l b:Addr)(items items2:Array Ac)(n n2:Nat)(dd dd2:Option Addr)(sl sl2:Array (Option Ac))(ns ms:List Int)(hi:IntsAre items.toList ns)(hj:IntsAre items2.toList ms) :
  Meets (Builtin.«tuple.__lt__» ⟨[.ref l,.ref b],[]⟩)
   (λ_ R s=>s.heap.get? l=some { cls:=.type "tuple",dict:=dd,data:=.seq items n,slots:=sl }/\s.heap.get? b=some { cls:=.type "tuple",dict:=dd2,data:=.seq items2 n2,slots:=sl2 } /\
    R (.ok (.ret (.bool (lexLt ns ms)))) s) :=
 .of_wp λprog w A R s h=>by
  obtain⟨hp,g,d,tk,os⟩:=s;obtain⟨hl,hb,h⟩:=h;have f2:=AutoSeq1.sub_tuple_tuple;have z1:items.size=ns.length:=by rw[<- hi.length];simp
  have z2:items2.size=ms.length:=by rw[<- hj.length];simp
  wp_walk using C4 hl,C4 hb,wpAny_forIn_list _ (λrest b s'=>b.1=none/\s'=⟨hp,g,d,tk,os⟩/\∃(vs ws:List Ac) (ns' ms':List Int),rest=vs.zip ws /\
   IntsAre vs ns'/\IntsAre ws ms'/\ns'.length+items2.size=ms'.length+items.size/\R (.ok (.ret (.bool (lexLt ns' ms')))) ⟨hp,g,d,tk,os⟩) _
  case turn =>
   rintro⟨y,x⟩ rest b s' ⟨hb',rfl,vs,ws,ns',ms',hz,hvi,hwi,hlen,hR⟩
   cases hvi with
   |nil=>rw[List.zip_nil_left]at hz;cases hz
   |cons a t hvi' =>
    cases hwi with
    |nil=>rw[List.zip_nil_right]at hz;cases hz
    |cons c u hwi' =>
     rw[List.zip_cons_cons]at hz;injection hz with hyx hrest;injection hyx with hy hx;subst hy hx;rw[lexLt_cons]at hR;simp only[A3]at hlen;obtain⟨e,he,hiff⟩:=zjX A.in1 ⟨hp,g,d,tk,os⟩ a t c u;refine Ab (he prog w _ _ ?_)
     cases e with
     |true =>
      rw[if_pos (hiff.mp rfl)]at hR
      wp_walk
      exact⟨rfl,rfl,_,_,_,_,hrest,hvi',hwi',by lia,hR⟩
     |false =>
      rw[if_neg (λq=>absurd (hiff.mpr q) AN)]at hR;have hri:=zjE A.in1 ⟨hp,g,d,tk,os⟩ a t c u prog w
      wp_walk using hri
      exact⟨_,rfl,by simpa using hR⟩
  case fin =>
   rintro⟨b1,b2⟩ s' ⟨hb',rfl,vs,ws,ns',ms',hz,hvi,hwi,hlen,hR⟩;simp only at hb';subst hb'
   have hv:lexLt ns' ms'=decide (items.size<items2.size):=by
    cases hvi with
    |nil =>
     cases hwi with
     |nil =>
      simp only[C3]at hlen;rw[zeY];exact (decide_eq_false (by lia)).symm
     |cons c u hw =>
      simp only[C3,A3]at hlen;rw[zd3];exact (decide_eq_true (by lia)).symm
    |cons a t hv =>
     cases hwi with
     |nil =>
      simp only[C3,A3]at hlen;rw[zd4];exact (decide_eq_false (by lia)).symm
     |cons c u hw =>
      rw[List.zip_cons_cons]at hz
      cases hz
   rw[hv]at hR
   wp_walk
   exact⟨_,rfl,by simpa[Builtin.Tuple.tupleCompareSizes]using hR⟩
  case h =>
   exact⟨rfl,rfl,items.toList,items2.toList,ns,ms,rfl,hi,hj,by lia,h⟩
end
section
variable {prog:AH}{w:A4}{A:AJ}{E:Ac->Ae->Prop}{s:Ae}
theorem lt_tupInts{l b:Addr}{items items2:Array Ac}{ns ms:List Int}{Q:Ac -> Ae -> Prop}(hl:IsTup s.heap l items)(hb:IsTup s.heap b items2)(hi:IntsAre items.toList ns)(hj:IntsAre items2.toList ms)
  (hu:A.units<cLine) (h:Q (.bool (lexLt ns ms)) s):Ao (Ax prog w) A (BV .Lt (.ref l) (.ref b)) Q E s:=by
 obtain⟨⟨cls,dd,data,sl⟩,ho,hc,n,hd⟩:=id hl;obtain⟨⟨cls2,dd2,data2,sl2⟩,ho2,hc2,n2,hd2⟩:=id hb;simp only at hc hd hc2 hd2;subst hc hd hc2 hd2
 exact richCompare_meets_room (op:=.Lt) ⟨_,ho,rfl⟩ ⟨_,ho2,rfl⟩ PySem.F.slot_tuple_lt PySem.F.entry_tuple_lt (PySem.F.args_tuple_lt_2 _ _) (zeu l b items items2 n n2 dd dd2 sl sl2 ns ms hi hj)
  ⟨ho,ho2,show Value.bool (lexLt ns ms)≠Value.notImplemented/\Q (.bool (lexLt ns ms)) s from ⟨(λx=>nomatch x),h⟩⟩ hu
theorem cat_tup{t b:Addr}{vs ws:List Ac}{Q:Ac -> Ae -> Prop}(ht:IsTup s.heap t vs.toArray)(hb:IsTup s.heap b ws.toArray)(hv:vs ≠ [])
  (h1:ws=[]->Q (.ref t) s) (h2:ws≠[]->Q (.ref s.heap.objs.size) { s with heap:=s.heap.push { cls:=.type "tuple",data:=.seq (vs++ws).toArray } })
  (hsz:vs.length+ws.length<=sizeLine):Ao (Ax prog w) A (Dl .Add (.ref t) (.ref b)) Q E s:=by
 obtain⟨⟨cls,dd,data,sl⟩,ho,hc,n,hd⟩:=id ht;obtain⟨⟨cls2,dd2,data2,sl2⟩,ho2,hc2,n2,hd2⟩:=id hb;simp only at hc hd hc2 hd2;subst hc hd hc2 hd2;have e:vs.toArray++ws.toArray=(vs++ws).toArray:=by simp
 by_cases hw:ws=[]
 .exact concat_meets ⟨_, ho, rfl⟩ ⟨_, ho2, rfl⟩ noFill_tuple_add seq_tuple_add PySem.F.slot_tuple_add PySem.F.entry_tuple_add (PySem.F.args_tuple_add_2 _ _)
   (tuple_addW1 t b vs.toArray ws.toArray n n2 dd dd2 sl sl2 (by simpa using hv) (by simp[hw])) ⟨ho,ho2,h1 hw⟩
 .refine concat_meets ⟨_, ho, rfl⟩ ⟨_, ho2, rfl⟩ noFill_tuple_add seq_tuple_add PySem.F.slot_tuple_add PySem.F.entry_tuple_add (PySem.F.args_tuple_add_2 _ _)
   (tuple_addW2 t b vs.toArray ws.toArray n n2 dd dd2 sl sl2 (by simpa using hv) (by simpa using hw) (by rw[An,An];exact hsz)) ⟨ho,ho2,?_⟩
  rw[e];exact h2 hw
noncomputable def sIx(n d:Nat):Option Int->Nat
 |none=>d
 |some v=>if v<0 then (v+(n:Int)).toNat else min v.toNat n
theorem sIx_none(n d:Nat):sIx n d none=d:=rfl
theorem zlt(n d:Nat)(hd:d<=n)(o:Option Int):sIx n d o<=n:=by
 cases o with
 |none=>exact hd
 |some v =>
  show (if v<0 then (v+(n:Int)).toNat else min v.toNat n)<=n
  by_cases hv:v<0
  .rw[if_pos hv];lia
  .rw[if_neg hv];exact Nat.min_le_right _ _
theorem zje(v:Int)(n d:Nat):(if v<0 then max (v+(n:Int)) 0 else min v (n:Int))=((sIx n d (some v):Nat):Int):=by
 show (if v<0 then max (v+(n:Int)) 0 else min v (n:Int))=(((if v<0 then (v+(n:Int)).toNat else min v.toNat n):Nat):Int)
 by_cases hv:v<0
 .simp only[if_pos hv];lia
 .simp only[if_neg hv];lia
theorem zhB(lo hi:Option Int)(n:Nat):Dx lo hi 1 (n:Int)=(((sIx n 0 lo:Nat):Int),((sIx n n hi:Nat):Int)):=by
 have h1:¬ ((1:Int)<0):=by lia
 unfold Dx;simp only[h1,if_false];refine Cm ?_ ?_
 .cases lo with
  |none=>rfl
  |some v=>exact zje v n 0
 .cases hi with
  |none=>rfl
  |some v=>exact zje v n n
theorem zhm(i j:Nat):Cz (i:Int) (j:Int) 1=j-i:=by
 unfold Cz;have h1:(1:Int) > 0:=by lia
 simp only[h1,if_true,Int.ediv_one];split <;> lia
theorem zef{v:Ac}{o:Option Int}{Q:Option Int->Ae->Prop}(p:IsPart v o)(h:Q o s):Ao (Ax prog w) A (Builtin.Slice.slicePartIndex v) Q E s:=by
 cases p with
 |none=>exact slicePart_none h
 |int i t=>exact slicePart_int h
theorem zb2{sl:Addr}{vl vu:Ac}{lo hi:Option Int}{n:Nat}{Q:Int × Int × Nat -> Ae -> Prop}(hs:s.heap.IsSliceOf sl vl vu .none)(pl:IsPart vl lo)(pu:IsPart vu hi)
  (h:Q (((sIx n 0 lo:Nat):Int),1,sIx n n hi-sIx n 0 lo) s):Ao (Ax prog w) A (Builtin.Slice.sliceApplied (.ref sl) (pure (n:Int))) Q E s:=by
 obtain⟨os,hos,hcs,hds⟩:=id hs;unfold Builtin.Slice.sliceApplied Builtin.Slice.sliceFields;refine Ab (Ab (wpAny_field hos hds (x:=vl) rfl (Ab (wpAny_field hos hds (x:=vu) rfl (Ab (wpAny_field hos hds (x:=.none) rfl (Ah ?_)))))));refine Ab (slicePart_none ?_);show Ao _ _ (if ((1:Int) == 0)=true then _ else _) _ _ s;rw[if_neg (by decide)];refine Ab (zef pl (Ab (zef pu (Ab (Ah ?_)))));show Ao _ _ (match Dx lo hi 1 (n:Int) with | (lo,hi)=>pure (lo,(1:Int),Cz lo hi 1)) _ _ s;rw[zhB lo hi n];show Ao _ _ (pure (((sIx n 0 lo:Nat):Int),(1:Int),Cz ((sIx n 0 lo:Nat):Int) ((sIx n n hi:Nat):Int) 1)) _ _ s;rw[zhm];exact Ah h
theorem zjH(xs:Array Ac)(i k:Nat):((AG k).filterMap λ(m:Nat)=>xs[((i:Int)+(m:Int)*1).toNat]?).toArray=((xs.toList.drop i).take k).toArray:=by
 have e:(λ(m:Nat)=>xs[((i:Int)+(m:Int)*1).toNat]?)=λm=>xs[i+m]?:=by
  funext m
  have:((i:Int)+(m:Int)*1).toNat=i+m:=by lia
  rw[this]
 rw[e];have:=pick_run xs i k;rw[Ch]at this;have e2:((λx=>xs[x]?) ∘ λx=>i+x)=λm=>xs[i+m]?:=rfl
 rw[e2]at this;rw[this]
theorem getItem_tuple_cut{t sl:Addr}{items:Array Ac}{vl vu:Ac}{lo hi:Option Int}{Q:Ac -> Ae -> Prop}(ht:IsTup s.heap t items)(hs:s.heap.IsSliceOf sl vl vu .none)(pl:IsPart vl lo)(pu:IsPart vu hi)
  (hw:¬ (sIx items.size 0 lo=0/\sIx items.size items.size hi=items.size))
  (h:Q (.ref s.heap.objs.size) { s with heap:=s.heap.push { cls:=.type "tuple",data:=.seq ((items.toList.drop (sIx items.size 0 lo)).take (sIx items.size items.size hi-sIx items.size 0 lo)).toArray } })
  (hsz:items.size<=sizeLine):Ao (Ax prog w) A (getItem (.ref t) (.ref sl)) Q E s:=by
 have htake:sizeOk (.seq ((items.toList.drop (sIx items.size 0 lo)).take (sIx items.size items.size hi-sIx items.size 0 lo)).toArray):=by show ((items.toList.drop (sIx items.size 0 lo)).take (sIx items.size items.size hi-sIx items.size 0 lo)).toArray.size<=sizeLine;rw[An,A6,List.length_drop,CL];lia
 have hj:sIx items.size items.size hi<=items.size:=zlt _ _ (Ai _) hi;obtain⟨os,hos,hcs,hds⟩:=id hs;have hTs:s.TypeIs (.ref sl) "slice":=⟨os,hos,hcs⟩;unfold getItem
 try with_reducible refine A1 ?_
 first |refine Ab (Ah ?_) |skip
 refine Ab (wpAny_sequenceKey ht.typeIs (by decide) ?_)
 refine Ab (CO (name:=Bd "__getitem__") ht.typeIs Bv
  (Du Bv ht.typeIs entry_tuple_getitem ?_ (args_tuple_getitem _ _)))
 show Ao _ _ (Builtin.Tuple.tupleItemsOf (.ref t) >>= _) _ _ s;refine Ab (tupleItemsOf_ ht ?_);refine Ab (wpAny_typeOf hTs ?_);rw[if_pos (by decide)];refine Ab (zb2 hs pl pu ?_)
 have hno:¬ ((((sIx items.size 0 lo:Nat):Int) == 0 && (1:Int) == 1 && (sIx items.size items.size hi-sIx items.size 0 lo) == items.size)=true):=by intro q;rw[A9,A9]at q;have q1:((sIx items.size 0 lo:Nat):Int)=0:=eq_of_beq q.1.1;have q2:sIx items.size items.size hi-sIx items.size 0 lo=items.size:=eq_of_beq q.2;exact hw ⟨by lia,by lia⟩
 show Ao _ _ (if (((sIx items.size 0 lo:Nat):Int) == 0 && (1:Int) == 1 && (sIx items.size items.size hi-sIx items.size 0 lo) == items.size)=true then _ else _) _ _ s;rw[if_neg hno,zjH]
 first
  |exact Ab (m:=CJ _) (By (Ah ⟨_,rfl,Ah h⟩) htake)
  |exact Ab (m:=CJ _) (By (Ab (Ah (Ah ⟨_,rfl,Ah h⟩))) htake)
  |exact Ab (Ab (m:=CJ _) (By (Ah (Ah ⟨_,rfl,Ah h⟩)) htake))
  |exact Ab (Ab (m:=CJ _) (By (Ah ⟨_,rfl,Ah h⟩) htake))
end
end HT
namespace L2
open PySem PySem.Spec PyProof.Rows
noncomputable abbrev TO:=St->Hp->(Option Int->Hp->Prop)->Prop
noncomputable def PO(X:Cx)(e:Option Expr)(t:TO):Prop :=
 ∀(pins:List (Addr×Obj)) (s:Ae) (σ:St) (H:Hp) (Q:Option Int->Hp->Prop),Inv X pins σ H s->t σ H Q ->
  Ao (Ax X.prog X.w) X.A (evalPart e X.env) (λu s'=>∃o H',Inv X pins σ H' s'/\IsPart u o/\Q o H') X.xe s
noncomputable def zkF:TO:=λ_ H Q=>Q none H
noncomputable def tPart(t:TE):TO:=λσ H Q=>t σ H λx H1=>∃i,x=.int i/\Q (some i) H1
theorem zek{ns:List Int}:∀{us:List Ac},Vals (ns.map V.int) us->IntsAre us ns:=by
 induction ns with
 |nil=>intro us r;rw[List.map_nil]at r;cases r;exact .nil
 |cons n ns ih =>
  intro us r;rw[AT]at r
  cases r with
  |cons r1 r2 =>
   obtain⟨t,e⟩:=r1;subst e;exact .cons n t (ih r2)
section
variable {X:Cx}{e:Expr}{te:TE}{lo hi:Option Expr}{tl th:TO}{pos p2:Pos}
theorem zeJ:PO X none zkF:=by intro pins s σ H Q I h;rw[evalPart_none];exact Ah ⟨none,H,I,.none,h⟩
theorem zcW(h:PE X e te):PO X (some e) (tPart te):=by
 intro pins s σ H Q I hw;rw[evalPart_some];refine thn (h pins s σ H _ I hw) λu s1 ⟨x,H1,I1,r1,q1⟩=>?_
 obtain⟨i,rfl,q⟩:=q1;obtain⟨t,rfl⟩:=r1;exact⟨some i,H1,I1,.int i t,q⟩
noncomputable def SlR(X:Cx)(r:V->Option Int->Option Int->Hp->VK->Prop):Prop :=
 ∀(pins:List (Addr×Obj)) (s:Ae) (σ:St) (H:Hp) (x:V) (v vl vu:Ac) (lo hi:Option Int) (sl:Addr) (Q:VK),Inv X pins σ H s->RelV x v->s.heap.IsSliceOf sl vl vu .none->IsPart vl lo->IsPart vu hi->r x lo hi H Q ->
  ∃T id,typeLookup (.type T) "__getitem__" = pure (some (.builtin id))/\s.TypeIs v T/\Ao (Ax X.prog X.w) X.A (getItem v (.ref sl)) (EP X pins σ Q) X.xe s
noncomputable def tSl(r:V->Option Int->Option Int->Hp->VK->Prop)(te:TE)(tl th:TO):TE:=λσ H Q=>te σ H λx H1=>tl σ H1 λl H2=>th σ H2 λu H3=>r x l u H3 Q
theorem zcL{r:V->Option Int->Option Int->Hp->VK->Prop}(hr:SlR X r)(he:PE X e te)(hl:PO X lo tl)(hu:PO X hi th):PE X (.Subscript e (.Slice lo hi none p2) pos) (tSl r te tl th):=by
 intro pins s σ H Q I h;refine Subscript_ (thn (he pins s σ H _ I h) λv s1 ⟨x,H1,I1,r1,q1⟩=>?_);refine wpAny_Slice (thn (hl pins s1 σ H1 _ I1 q1) λvl s2 ⟨l,H2,I2,pl,q2⟩=>thn (hu pins s2 σ H2 _ I2 q2) λvu s3 ⟨u,H3,I3,pu,q3⟩=>?_);rw[evalPart_none];refine Ah ?_
 have I4:Inv X pins σ H3 { s3 with heap:=s3.heap.push { cls:=.type "slice",data:=.fields #[vl,vu,.none] } }:=I3.kept (t':=s3.toks) λb ob q=>Af _ q
 obtain⟨T,id,hT,ht,hg⟩:=hr pins { s3 with heap:=s3.heap.push { cls:=.type "slice",data:=.fields #[vl,vu,.none] } } σ H3 x v vl vu l u s3.heap.objs.size Q I4 r1 (Heap.IsSliceOf.new ..) pl pu q3;show Ao (Ax X.prog X.w) X.A (subscriptTail e (.Slice lo hi none p2) v (.ref s3.heap.objs.size)) (EP X pins σ Q) X.xe { s3 with heap:=s3.heap.push { cls:=.type "slice",data:=.fields #[vl,vu,.none] } };exact tail_any (ops:=[.ref s3.heap.objs.size,v]) ht hT hg (by with_unfolding_all rfl)
noncomputable def cutV(xs:List V)(lo hi:Option Int):List V:=(xs.drop (HT.sIx xs.length 0 lo)).take (HT.sIx xs.length xs.length hi-HT.sIx xs.length 0 lo)
theorem zdT(xs:List V)(lo hi:Option Int):(cutV xs lo hi).length<=xs.length:=by unfold cutV;rw[A6,List.length_drop];lia
noncomputable def rSlT(K:W.Frag):V->Option Int->Option Int->Hp->VK->Prop:=λx lo hi H Q=>∃a xs,x=.ref a/\SqT K H a xs /\
 ¬ (HT.sIx xs.length 0 lo=0/\HT.sIx xs.length xs.length hi=xs.length)/\∀p,H p=none->Q (.ref p) (upd H p (.tup (cutV xs lo hi)))
theorem zlr:SlR X (rSlT X.K):=by
 intro pins s σ H x v vl vu lo hi sl Q I rx hs pl pu h;obtain⟨a,xs,rfl,hx,hw,q⟩:=h
 cases rx
 obtain⟨its,r,ht,hz⟩:=I.tuple hx;have hlen:its.toArray.size=xs.length:=by rw[An];exact r.length.symm
 refine⟨"tuple",_,Bv.lookup,ht.typeIs,?_⟩;refine HT.getItem_tuple_cut ht hs pl pu (by rw[hlen];exact hw) ?_ (by rw[hlen];exact hz)
 rw[hlen];refine⟨.ref s.heap.objs.size,_,I.laid (t':=s.toks) (o:=.tup (cutV xs lo hi)) (λb ob q=>Af _ q) (Ai _) ?_,rfl,q _ (I.hok.fresh (Ai _))⟩;exact⟨AO (zdT xs lo hi) hz,_,(r.drop (HT.sIx xs.length 0 lo)).take (HT.sIx xs.length xs.length hi-HT.sIx xs.length 0 lo),IsTup.new _ _⟩
noncomputable def rCatT(K:W.Frag):R2:=λx y H Q=>∃a b xs ys,x=.ref a/\y=.ref b/\SqT K H a xs/\SqT K H b ys/\xs≠[]/\xs.length+ys.length<=sizeLine /\
 (ys=[]->Q (.ref a) H)/\(ys≠[]->∀p,H p=none->Q (.ref p) (upd H p (.tup (xs++ys))))
theorem Vals.nil_iff{xs:List V}{us:List Ac}(r:Vals xs us):us=[] ↔ xs=[]:=by
 cases r with
 |nil=>simp
 |cons _ _=>simp
theorem ziw:OpR X (Dl .Add) (rCatT X.K):=by
 intro pins s σ H x y v u Q I rx ry h;obtain⟨a,b,xs,ys,rfl,rfl,ha,hb,hx,hz,q1,q2⟩:=h
 cases rx
 cases ry
 obtain⟨its,r1,p1,_⟩:=I.tuple ha;obtain⟨its2,r2,p2,_⟩:=I.tuple hb;refine HT.cat_tup p1 p2 (λz=>hx (r1.nil_iff.mp z)) (λz=>⟨.ref a,H,I,rfl,q1 (r2.nil_iff.mp z)⟩) (λz=>?_) (by rw[<- r1.length,<- r2.length];exact hz);refine⟨.ref s.heap.objs.size,_,I.laid (t':=s.toks) (o:=.tup (xs++ys)) (λb ob q=>Af _ q) (Ai _) ?_,rfl,q2 (λw=>z (r2.nil_iff.mpr w)) _ (I.hok.fresh (Ai _))⟩;exact⟨by rw[Ak];exact hz,_,r1.append r2,IsTup.new _ _⟩
end
noncomputable def ixN(n:Nat)(i:Int):Option Nat:=if 0<=i then (if i<n then some i.toNat else none) else if -(n:Int)<=i then some (i+n).toNat else none
noncomputable def atI{α:Type}(xs:List α)(i:Int):Option α:=(ixN xs.length i).bind λj=>xs[j]?
theorem zk2{n:Nat}{i:Int}{j:Nat}(h:ixN n i=some j):seqIndex? i n=some j/\j<n/\-(n:Int)<=i/\i<n:=by
 unfold ixN at h
 by_cases h0:0<=i
 .rw[if_pos h0]at h
  by_cases h1:i<n
  .rw[if_pos h1]at h;have e:i.toNat=j:=Bc h;exact⟨by rw[seqIndex_of h0 h1,e],by lia,by lia,h1⟩
  .rw[if_neg h1]at h;cases h
 .rw[if_neg h0]at h
  by_cases h1:-(n:Int)<=i
  .rw[if_pos h1]at h;have e:(i+n).toNat=j:=Bc h;exact⟨by rw[seqIndex_neg (by lia) h1,e],by lia,h1,by lia⟩
  .rw[if_neg h1]at h;cases h
theorem zjm{α:Type}{xs:List α}{i:Int}{v:α}(h:atI xs i=some v):∃j,seqIndex? i xs.length=some j/\xs[j]?=some v/\j<xs.length/\-(xs.length:Int)<=i/\i<xs.length:=by
 unfold atI at h
 cases e:ixN xs.length i with
 |none=>rw[e]at h;cases h
 |some j =>
  rw[e]at h;obtain⟨h1,h2,h3,h4⟩:=zk2 e;exact⟨j,h1,h,h2,h3,h4⟩
theorem zat{α:Type}{xs:List α}{j:Nat}{v:α}(h:xs[j]?=some v):atI xs (j:Int)=some v:=by
 have hj:j<xs.length:=(Ad.mp h).1
 have e:ixN xs.length (j:Int)=some j:=by unfold ixN;rw[if_pos (by lia),if_pos (by lia)];simp
 unfold atI;rw[e];exact h
noncomputable def zlc(b:Expr):Prop:=∀o i,subscripted b false o i=operate [o,i] (getItem o i)
noncomputable def IxR(X:Cx)(r:R2):Prop :=
 ∀(value slice:Expr) (pins:List (Addr×Obj)) (s:Ae) (σ:St) (H:Hp) (x y:V) (v u:Ac) (Q:VK),Inv X pins σ H s->RelV x v->RelV y u->r x y H Q ->
  subscripted slice false v u=operate [v,u] (getItem v u)->Ao (Ax X.prog X.w) X.A (subscriptTail value slice v u) (EP X pins σ Q) X.xe s
noncomputable def MtR(X:Cx)(id:String)(r:V->List V->Hp->VK->Prop):Prop :=
 ∀(pins:List (Addr×Obj)) (s:Ae) (σ:St) (H:Hp) (x:V) (xs:List V) (v:Ac) (us:List Ac) (Q:VK),Inv X pins σ H s->RelV x v->Vals xs us->r x xs H Q ->
  Ao (Ax X.prog X.w) X.A (call (.builtin id) (v::us)) (EP X pins σ Q) X.xe s
section
variable {X:Cx}{a b:Expr}{ta tb:TE}{pos:Pos}
theorem pe_ix{r:R2}(hr:IxR X r)(ha:PE X a ta)(hb:PE X b tb)(hs:zlc b):PE X (.Subscript a b pos) (tOp r ta tb):=by intro pins s σ H Q I h;exact Subscript_ (binT ha hb I h λv u s2 x y H2 I2 rx ry q=>hr a b pins s2 σ H2 x y v u Q I2 rx ry q (hs _ _))
noncomputable def rIxL(K:W.Frag):R2:=λx y H Q=>∃p xs i v,x=.ref p/\y=.int i/\SqL K H p xs/\atI xs i=some v/\Q v H
noncomputable def rIxT(K:W.Frag):R2:=λx y H Q=>∃p xs i v,x=.ref p/\y=.int i/\SqT K H p xs/\atI xs i=some v/\Q v H
theorem zaR:IxR X (rIxL X.K):=by
 intro value slice pins s σ H x y v u Q I rx ry h hs;obtain⟨p,xs,i,z,rfl,rfl,hq,he,q⟩:=h
 cases rx
 obtain⟨t,rfl⟩:=ry;obtain⟨its,r,pl,hz⟩:=I.list hq;obtain⟨j,h1,h2,h3,h4,h5⟩:=zjm he;obtain⟨w,ew,rw'⟩:=r.get h2;have hl:=r.length;have hn:=zg0;have fin:EP X pins σ Q w s:=⟨z,H,I,rw',q⟩
 by_cases h0:0<=i
 .have hj:i.toNat=j := by rw[seqIndex_of h0 h5]at h1;exact Bc h1
  exact item_listR pl.isList h0 (by lia) (by rw[hj];simpa using ew) fin hs
 .have hj:(i + (its.toArray.size:Int)).toNat=j := by rw[seqIndex_neg (by lia) h4]at h1;rw[An,<- hl];exact Bc h1
  exact subscriptTail_builtinR (x:=w) pl.isList.typeIs slot_list_getitem.lookup
   (wpAny_getItem_list_neg (Q:=λr s'=>r=w/\EP X pins σ Q r s') pl.isList (by lia) (by rw[An] <;> lia) (by lia) (by rw[hj];simpa using ew) ⟨rfl,fin⟩) hs
theorem zcO:IxR X (rIxT X.K):=by
 intro value slice pins s σ H x y v u Q I rx ry h hs;obtain⟨p,xs,i,z,rfl,rfl,hq,he,q⟩:=h
 cases rx
 obtain⟨t,rfl⟩:=ry;obtain⟨its,r,pl,hz⟩:=I.tuple hq;obtain⟨j,h1,h2,h3,h4,h5⟩:=zjm he;obtain⟨w,ew,rw'⟩:=r.get h2;have hl:=r.length;have hn:=zg0;have fin:EP X pins σ Q w s:=⟨z,H,I,rw',q⟩
 exact subscriptTail_builtinR (x:=w) pl.typeIs slot_tuple_getitem.lookup
  (getItem_tuple (j:=j) (Q:=λr s'=>r=w/\EP X pins σ Q r s') pl (by lia) (by lia) (by rw[An,<- hl];exact h1) (by simpa using ew) ⟨rfl,fin⟩) hs
theorem zfp(lo hi:Option Int)(n:Nat):(DR lo hi none n).1=((HT.sIx n 0 lo:Nat):Int)/\(DR lo hi none n).2.1=((HT.sIx n n hi:Nat):Int)/\(DR lo hi none n).2.2=1:=by
 refine⟨?_,?_,rfl⟩
 .cases lo with
  |none=>simp[DR,HT.sIx]
  |some i =>
   simp only[DR,HT.sIx,Option.getD_none,show (1:Int) > 0 by decide,if_true]
   by_cases h:i<0
   .simp only[h,if_true] <;> lia
   .simp only[h,if_false] <;> lia
 .cases hi with
  |none=>simp[DR,HT.sIx]
  |some i =>
   simp only[DR,HT.sIx,Option.getD_none,show (1:Int) > 0 by decide,if_true]
   by_cases h:i<0
   .simp only[h,if_true] <;> lia
   .simp only[h,if_false] <;> lia
theorem zeD(its:List Ac)(lo hi:Option Int):slicePick its.toArray lo hi none=((its.drop (HT.sIx its.length 0 lo)).take (HT.sIx its.length its.length hi-HT.sIx its.length 0 lo)).toArray:=by obtain⟨h1,h2,h3⟩:=zfp lo hi its.toArray.size;unfold slicePick;rw[h1,h2,h3];simp only[sliceRange_one,pick_run,An] <;> rfl
noncomputable def rSlL(K:W.Frag):V->Option Int->Option Int->Hp->VK->Prop:=λx lo hi H Q=>∃a xs,x=.ref a/\SqL K H a xs/\∀p,H p=none->Q (.ref p) (upd H p (.lst (cutV xs lo hi)))
theorem zga:SlR X (rSlL X.K):=by
 intro pins s σ H x v vl vu lo hi sl Q I rx hs pl pu h;obtain⟨a,xs,rfl,hx,q⟩:=h
 cases rx
 obtain⟨its,r,ht,hz⟩:=I.list hx;have hlen:=r.length;refine⟨"list",_,slot_list_getitem.lookup,ht.isList.typeIs,?_⟩;refine wpAny_getItem_list_slice ht.isList hs pl pu .none (by simp) ?_ (by rw[An] <;> lia)
 rw[zeD,<- hlen];refine⟨.ref s.heap.objs.size,_,I.laid (t':=s.toks) (o:=.lst (cutV xs lo hi)) (λb ob q=>Af _ q) (Ai _) ?_,rfl,q _ (I.hok.fresh (Ai _))⟩;exact⟨AO (zdT xs lo hi) hz,_,0,(r.drop (HT.sIx xs.length 0 lo)).take (HT.sIx xs.length xs.length hi-HT.sIx xs.length 0 lo),Aq _ rfl⟩
theorem zav:CallR X (.builtin "len") (λxs H Q=>∃p ys,xs=[.ref p]/\(SqL X.K H p ys∨SqT X.K H p ys)/\Q (.int ys.length) H):=by
 intro pins s σ H xs us Q I r h;obtain⟨p,ys,rfl,hq,q⟩:=h;obtain⟨u,rfl,rx⟩:=vals1 r
 cases rx
 have hn:=zg0;rcases hq with hq |hq
 .obtain⟨its,r',pl,hz⟩:=I.list hq;have hlen:=r'.length;exact Calls.call_len_list pl.isList (by simp only[An] <;> lia) ⟨.int ys.length,H,I.tok _,⟨s.toks+1,by rw[An,hlen]⟩,q⟩
 .obtain⟨its,r',pl,hz⟩:=I.tuple hq;have hlen:=r'.length;exact len_tuple pl (by simp only[An] <;> lia) ⟨.int ys.length,H,I.tok _,⟨s.toks+1,by rw[An,hlen]⟩,q⟩
theorem zfT:CallR X (.type "list") (λxs H Q=>∃p ys,xs=[.ref p]/\(SqL X.K H p ys∨SqT X.K H p ys)/\∀l,H l=none->Q (.ref l) (upd H l (.lst ys))):=by
  intro pins s σ H xs us Q I r h;obtain⟨p,ys,rfl,hq,q⟩:=h;obtain⟨u,rfl,rx⟩:=vals1 r
  cases rx
  have fin:∀(its:List Ac), Vals ys its -> ys.length <= sizeLine -> ∀(h':Heap) (c':Nat), (∀b o', s.heap.get? b=some o' -> h'.get? b=some o') ->
      h'.get? s.heap.objs.size=some { cls:=.type "list",dict:=none,data:=.seq its.toArray c',slots:=#[] }->EP X pins σ Q (.ref s.heap.objs.size) { s with heap:=h' }:=λits r' hz h' c' kp e =>
    ⟨.ref s.heap.objs.size,_,I.laid (t':=s.toks) kp (Ai _) (show ObjOk X.prog X.w _ h' _ (.lst ys) from ⟨hz,its,c',r',e⟩),rfl,q _ (I.hok.fresh (Ai _))⟩
  rcases hq with hq |hq
  . obtain⟨its,r',pl,hz⟩:=I.list hq;have hlen:=r'.length;obtain⟨o,ho,hc,n,hd⟩:=pl.isList;exact call_list_seq p (.inl rfl) ho hc hd (λh' c' kp e=>fin its r' hz h' c' kp e) (by simp only[An] <;> lia)
  . obtain⟨its,r',pl,hz⟩:=I.tuple hq;have hlen:=r'.length;obtain⟨o,ho,hc,n,hd⟩:=pl;exact call_list_seq p (.inr rfl) ho hc hd (λh' c' kp e=>fin its r' hz h' c' kp e) (by simp only[An] <;> lia)
theorem ze4:CallR X (.type "tuple") (λxs H Q=>∃p ys,xs=[.ref p]/\((SqL X.K H p ys/\∀l,H l=none->Q (.ref l) (upd H l (.tup ys)))∨(SqT X.K H p ys/\Q (.ref p) H))):=by
 intro pins s σ H xs us Q I r h;obtain⟨p,ys,rfl,h⟩:=h;obtain⟨u,rfl,rx⟩:=vals1 r
 cases rx
 rcases h with⟨hq,q⟩ |⟨hq,q⟩
 .obtain⟨its,r',pl,hz⟩:=I.list hq;have hlen:=r'.length;refine call_tuple_list pl.isList (λh' kp=>?_) (by simp only[An] <;> lia);have I1:Inv X pins σ H { s with heap:=h' }:=I.kept (t':=s.toks) kp
  have I2:Inv X pins σ (upd H h'.objs.size (.tup ys)) { s with heap:=h'.push { cls:=.type "tuple",data:=.seq its.toArray } } :=
   I1.laid (t':=s.toks) (λb o e=>Af _ e) (Ai _) (show ObjOk X.prog X.w _ _ _ (.tup ys) from ⟨hz,its,r',IsTup.new _ _⟩)
  exact⟨.ref h'.objs.size,_,I2,rfl,q _ (I1.hok.fresh (Ai _))⟩
 .obtain⟨its,r',pl,hz⟩:=I.tuple hq;exact call_tuple_same pl ⟨.ref p,H,I,rfl,q⟩
noncomputable def tyV(K:W.Frag)(T:String)(x:V)(H:Hp):Prop:=match x with
  |.str _=>T = "str"
  |.int _=>T = "int"
  |.ref p => (T = "list" /\ ∃xs, SqL K H p xs) ∨ (T = "tuple" /\ ∃o, K.lookup p=some o /\ o.cls = .type "tuple" /\ o.dict=none) ∨
      (T = "dict" /\ ((∃kvs,H p=some (.dK kvs))∨∃kvs,H p=some (.dT kvs)))∨(T = "set" /\ ∃S n,H p=some (.set S n))
  |_=>False
theorem zj9{pins:List (Addr × Obj)}{σ : St}{H:Hp}{s:Ae}{T:String}{x:V}{v:Ac}(I:Inv X pins σ H s)(r:RelV x v)(ty:tyV X.K T x H) :
  s.TypeIs v T/\∀a,v=.ref a->∃ob,s.heap.get? a=some ob/\ob.dict=none:=by
 cases x with
 |str z =>
  obtain⟨t,rfl⟩:=r
  cases (show T = "str" from ty)
  exact⟨typeIs_str s z t,λ_ e=>nomatch e⟩
 |int i =>
  obtain⟨t,rfl⟩:=r
  cases (show T = "int" from ty)
  exact⟨typeIs_int s i t,λ_ e=>nomatch e⟩
 |ref p =>
  cases r
  rcases ty with⟨rfl,xs,hq⟩ |⟨rfl,o,hk,hc,hd⟩ |⟨rfl,hk⟩ |⟨rfl,S,n,hk⟩
  .obtain⟨its,_,pl,_⟩:=I.list hq;refine⟨pl.isList.typeIs,λa e=>?_⟩
   cases e
   obtain⟨o,n,e,c,hd,_⟩:=pl;exact⟨o,e,hd⟩
  .refine⟨⟨o,I.kIn p o hk,hc⟩,λa e=>?_⟩
   cases e
   exact⟨o,I.kIn _ o hk,hd⟩
  .have z:∃o, s.heap.get? p=some o /\ o.ExactDict := by
    rcases hk with⟨kvs,hk⟩ |⟨kvs,hk⟩
    .obtain⟨_,_,_,_,o,_,_,e,ex,_⟩:=I.hok p _ hk;exact⟨o,e,ex⟩
    .obtain⟨_,_,_,_,o,_,_,e,ex,_⟩:=I.hok p _ hk;exact⟨o,e,ex⟩
   obtain⟨o,e,ex⟩:=z;refine⟨⟨o,e,ex.1⟩,λa e2=>?_⟩
   cases e2
   exact⟨o,e,ex.2.1⟩
  .obtain⟨o,_,_,_,e,ex,_⟩:=I.hok p _ hk;refine⟨⟨o,e,ex.1⟩,λa e2=>?_⟩
   cases e2
   exact⟨o,e,ex.2.1⟩
 |_=>exact Bk ty
noncomputable def tBM0(K:W.Frag)(T:String)(r:V->List V->Hp->VK->Prop)(to:TE):TE:=λσ H Q=>to σ H λx H1=>tyV K T x H1/\r x [] H1 Q
noncomputable def tBM(K:W.Frag)(T:String)(r:V->List V->Hp->VK->Prop)(to:TE)(t:TA):TE:=λσ H Q=>to σ H λx H1=>tyV K T x H1/\t σ H1 λxs H2=>r x xs H2 Q
variable {o e:Expr}{es:List Expr}{to:TE}{t:TA}{name:Str}{apos cpos:Pos}{T id:String}{r:V->List V->Hp->VK->Prop}
theorem zlH (pa:PlainAttrs T) (slot:Slot T name id) (hty:typeOf (.builtin id)=pure (.type "method_descriptor")) (hm:MtR X id r) (ho:PE X o to)
  (hbase:attributeBase o name X.env (eval o X.env)=eval o X.env:=by rfl) (hline:(apos.endLine == cpos.line)=true:=by rfl):PE X (.Call (.Attribute o name apos) [] [] cpos) (tBM0 X.K T r to):=by
 intro pins s σ H Q I h;refine wpAny_Call_method0_late hbase hline (thn (ho pins s σ H _ I h) λv s1 ⟨x,H1,I1,r1,ty,q1⟩=>?_);obtain⟨h1,h2⟩:=zj9 I1 r1 ty;exact⟨T,id,pa,slot,hty,h1,h2,Cv rfl (PySem.evalArgs_none (hm pins s1 σ H1 x [] v [] Q I1 r1 .nil q1))⟩
theorem pe_bm (pa:PlainAttrs T) (slot:Slot T name id) (hty:typeOf (.builtin id)=pure (.type "method_descriptor")) (hm:MtR X id r) (ho:PE X o to) (ha:PA X (e :: es) t)
  (hbase:attributeBase o name X.env (eval o X.env)=eval o X.env:=by rfl)
  (hfew:((DM cpos (A8 (e::es) X.env)).all (λx=>!x.1) && (CN cpos (BW [] X.env)).all (λx=>x.1.isSome)
   && decide ((e::es).length+([]:List Keyword).length+(if ([]:List Keyword).isEmpty then 0 else 1)<30))=true:=by rfl)
  (hline:(apos.endLine == cpos.line)=true:=by rfl) (hs:A8 (e::es) X.env=(false,eval e X.env)::A8 es X.env:=by rfl) (hplain:(DM cpos (A8 es X.env)).any (·.1)=false:=by rfl) :
  PE X (.Call (.Attribute o name apos) (e::es) [] cpos) (tBM X.K T r to t):=by
 intro pins s σ H Q I h;refine wpAny_Call_method_late hbase hfew hline rfl (thn (ho pins s σ H _ I h) λv s1 ⟨x,H1,I1,r1,ty,q1⟩=>?_);obtain⟨h1,h2⟩:=zj9 I1 r1 ty;refine⟨T,id,pa,slot,hty,h1,h2,?_⟩;have hA:=ha cpos pins s1 σ H1 _ I1 q1;rw[hs]at hA ⊢;refine Cv (by show (false || (DM cpos (A8 es X.env)).any (·.1))=false;rw[hplain] <;> rfl) (Do ?_);exact thn hA λus s2 ⟨vs,H2,I2,r2,q2⟩=>hm pins s2 σ H2 x vs v us Q I2 r1 r2 q2
/- xs.append(e),list.index on a module's tuple .. are MtR facts of 06m -/
end
noncomputable def MtM(X:Cx)(id:String)(r:V->List V->Hp->VK->Prop):Prop :=
 ∀(pins:List (Addr×Obj)) (s:Ae) (σ:St) (H:Hp) (x:V) (xs:List V) (v:Ac) (us:List Ac) (Q:VK),Inv X pins σ H s->RelV x v->Vals xs us->r x xs H Q ->
  Ao (Ax X.prog X.w) X.A (call (.builtin id) (v::us)) (EP X pins σ Q) X.xe s
theorem Vals.one:∀{x:V}{us:List Ac},Vals [x] us->∃u,us=[u]/\RelV x u
 |_,_,.cons r .nil=>⟨_,rfl,r⟩
theorem Vals.zero:∀{us:List Ac},Vals [] us->us=[]
 |_,.nil=>rfl
theorem Vals.dropLast{xs:List V}{us:List Ac}(h:Vals xs us):Vals xs.dropLast us.dropLast:=by
 induction h with
 |nil=>exact .nil
 |cons r t ih =>
  cases t with
  |nil=>exact .nil
  |cons q t'=>exact .cons r ih
theorem Vals.rep{xs:List V}{us:List Ac}(h:Vals xs us):∀k:Nat,Vals (As k xs).flatten (As k us).flatten
 | 0=>.nil
 |k+1=>by
  rw[Cs,Cs,Bt,Bt];exact Vals.append h (Vals.rep h k)
theorem zhx{α:Type}(l:List α):l.eraseIdx (l.length-1)=l.dropLast:=by
 induction l with
 |nil=>rfl
 |cons a r ih =>
  cases r with
  |nil=>rfl
  |cons b r =>
   have e:(a::b::r).length-1=((b::r).length-1)+1:=by have h1:(a::b::r).length=r.length+2:=rfl;have h2:(b::r).length=r.length+1:=rfl;lia
   rw[e,List.eraseIdx_cons_succ,ih]
   all_goals rfl
theorem zfJ(its:List Ac):∀(k:Nat) (acc:List Ac),
  List.foldl (λx1 x2=>x1++x2) acc.toArray (As k its.toArray)=(acc++(As k its).flatten).toArray
 | 0,acc=>by simp
 |k+1,acc=>by
  have e:acc.toArray++its.toArray=(acc++its).toArray:=by simp
  have e2:(acc++its)++(As k its).flatten=acc++(As (k+1) its).flatten:=by rw[Cs,Bt,Di]
  rw[<- e2,<- zfJ its k (acc++its),<- e,Cs,List.foldl_cons]
section
variable {X:Cx}{pins:List (Addr×Obj)}{σ:St}{H:Hp}{s:Ae}{l b:Addr}{xs ys zs:List V}
theorem Inv.lset{its its':List Ac}{n:Nat}{f:Array Ac -> Array Ac}{t':Nat}(I:Inv X pins σ H s)(hH:H l=some (.lst xs))
  (e:s.heap.get? l=some { cls:=.type "list",data:=.seq its.toArray n }) (hf:f its.toArray=its'.toArray) (hv:Vals ys its') (hz:ys.length<=sizeLine) :
  Inv X pins σ (upd H l (.lst ys)) { s with heap:=s.heap.update l (AR f),toks:=t' }:=by
 have q:=PySem.IsL.update e f;rw[hf]at q;refine I.write (x:=l) (e:=l) (by rw[hH];exact trivial) (.inl rfl) (λb' u hb hu=>(Heap.get?_update_other s.heap (AR f) (BX hb)).trans hu) ⟨_,q⟩ ?_
 exact⟨hz,its',_,hv,q⟩
theorem Inv.lnew{its:List Ac}{t':Nat}(I:Inv X pins σ H s)(hv:Vals ys its)(hz:ys.length <= sizeLine) :
  Inv X pins σ (upd H s.heap.objs.size (.lst ys)) { s with heap:=s.heap.push { cls:=.type "list",data:=.seq its.toArray },toks:=t' } :=
 I.laid (λ_ _ q=>Af _ q) (Ai _) ⟨hz,its,0,hv,Aq _ rfl⟩
theorem Inv.fresh(I:Inv X pins σ H s):H s.heap.objs.size=none:=I.hok.fresh (Ai _)
theorem Inv.lstM (I:Inv X pins σ H s) (hH:H l=some (.lst xs)):xs.length<=sizeLine/\∃(its:List Ac) (n:Nat),Vals xs its/\xs.length=its.length/\s.heap.get? l=some { cls:=.type "list",data:=.seq its.toArray n }:=by obtain⟨z,its,n,r,e⟩:=I.hok l _ hH;exact⟨z,its,n,r,r.length,e⟩
theorem zgT{n:Nat}(h:n<=sizeLine):CK n=false:=by unfold CK;exact decide_eq_false (by lia)
end
section
variable {X:Cx}
noncomputable def zkP:V->List V->Hp->VK->Prop:=λx vs H Q=>∃l xs y,x=.ref l/\vs=[y]/\H l=some (.lst xs)/\xs.length<sizeLine/\Q .non (upd H l (.lst (xs++[y])))
theorem zaE:MtM X "list.append" zkP:=by
 intro pins s σ H x vs v us Q I rx rv h;obtain⟨l,xs,y,rfl,rfl,hH,hz,q⟩:=h
 cases rx
 obtain⟨u,rfl,ru⟩:=rv.one;obtain⟨z,its,n,r,hl,e⟩:=I.lstM hH;refine call_meets F.slot_list_append ⟨_,e,rfl⟩ F.entry_list_append (F.args_list_append_2 _ _) (PySem.list_append l its.toArray n u (by rw[An];lia)) ⟨e,?_⟩;refine⟨.non,_,I.lset (its':=its++[u]) hH e (by simp) (r.append (.cons ru .nil)) ?_,rfl,q⟩;rw[Ak,Bf];lia
noncomputable def zkN:V->List V->Hp->VK->Prop:=λx vs H Q=>∃l b xs zs,x=.ref l/\vs=[.ref b]/\H l=some (.lst xs)/\H b=some (.lst zs)/\xs.length+zs.length<=sizeLine/\Q .non (upd H l (.lst (xs++zs)))
theorem zdI:MtM X "list.extend" zkN:=by
 intro pins s σ H x vs v us Q I rx rv h;obtain⟨l,b,xs,zs,rfl,rfl,hH,hB,hz,q⟩:=h
 cases rx
 obtain⟨u,rfl,ru⟩:=rv.one
 cases ru
 obtain⟨z,its,n,r,hl,e⟩:=I.lstM hH;obtain⟨z2,its2,n2,r2,hl2,e2⟩:=I.lstM hB;have hsz:its.toArray.size+its2.toArray.size<=sizeLine:=by rw[An,An];lia
 have hlong:¬ (!its.toArray.isEmpty && CK (its.toArray.size+its2.toArray.size))=true:=by rw[zgT hsz,Bool.and_false];exact AN
 refine call_meets F.slot_list_extend ⟨_,e,rfl⟩ F.entry_list_extend (F.args_list_extend_2 _ _)
  (AutoSeq1.list_extend_list_list_0 l its.toArray n b its2.toArray n2 hlong (by rw[An];lia) (by lia)) ⟨e,e2,?_⟩
 refine⟨.non,_,I.lset (its':=its++its2) hH e (by simp) (r.append r2) ?_,rfl,q⟩;rw[Ak];lia
noncomputable def rPop:V->List V->Hp->VK->Prop:=λx vs H Q=>∃l xs y,x=.ref l/\vs=[]/\H l=some (.lst xs)/\xs[xs.length-1]?=some y/\Q y (upd H l (.lst xs.dropLast))
theorem zlN:MtM X "list.pop" rPop:=by
 intro pins s σ H x vs v us Q I rx rv h;obtain⟨l,xs,y,rfl,rfl,hH,hy,q⟩:=h
 cases rx
 have hus:=rv.zero;subst hus;obtain⟨z,its,n,r,hl,e⟩:=I.lstM hH;obtain⟨u,hu,ru⟩:=r.get hy
 have hy':its.toArray[its.toArray.size-1]?=some u:=by show its.toArray[its.length-1]?=some u;rw[<- De,<- hl];exact hu
 refine call_meets F.slot_list_pop ⟨_,e,rfl⟩ F.entry_list_pop (F.args_list_pop_1 _) (MeetsSeq.list_pop_last l its.toArray n u hy' (by rw[An];lia)) ⟨e,?_⟩;refine⟨y,_,I.lset (its':=its.dropLast) hH e ?_ r.dropLast ?_,ru,q⟩
 .show its.toArray.eraseIdxIfInBounds (its.toArray.size-1)=its.dropLast.toArray;rw[An,List.eraseIdxIfInBounds_toArray,zhx]
 .rw[List.length_dropLast];lia
noncomputable def rCat:R2:=λx y H Q=>∃l b xs zs,x=.ref l/\y=.ref b/\H l=some (.lst xs)/\H b=some (.lst zs)/\xs.length+zs.length<=sizeLine/\∀p,H p=none->Q (.ref p) (upd H p (.lst (xs++zs)))
theorem zgS:OpR X (Dl .Add) rCat:=by
 intro pins s σ H x y v u Q I rx ry h;obtain⟨l,b,xs,zs,rfl,rfl,hH,hB,hz,q⟩:=h
 cases rx
 cases ry
 obtain⟨z,its,n,r,hl,e⟩:=I.lstM hH;obtain⟨z2,its2,n2,r2,hl2,e2⟩:=I.lstM hB;refine PySem.P.add_list e e2 ?_ (by rw[An,An];lia)
 have ea:its.toArray++its2.toArray=(its++its2).toArray:=by simp
 rw[ea];exact⟨.ref _,_,I.lnew (t':=s.toks) (r.append r2) (by rw[Ak];lia),rfl,q _ I.fresh⟩
noncomputable def rRep:R2:=λx y H Q=>∃l k xs,x=.ref l/\y=.int k/\H l=some (.lst xs)/\-(2 ^ 63)<=k/\k<2 ^ 63/\xs.length*k.toNat<=sizeLine /\
 ∀p,H p=none->Q (.ref p) (upd H p (.lst (As k.toNat xs).flatten))
theorem zk0{α:Type}(xs:List α)(k:Nat):(As k xs).flatten.length=k*xs.length:=by
 induction k with
 |zero=>simp
 |succ k ih=>rw[Cs,Bt,Ak,ih,Nat.succ_mul,Nat.add_comm]
theorem zkm:OpR X (Dl .Mult) rRep:=by
 intro pins s σ H x y v u Q I rx ry h;obtain⟨l,k,xs,rfl,rfl,hH,h1,h2,hz,q⟩:=h
 cases rx
 obtain⟨t,rfl⟩:=ry;obtain⟨z,its,n,r,hl,e⟩:=I.lstM hH;have hlen:its.toArray.size*k.toNat<=sizeLine:=by rw[An,<- hl];exact hz
 have hcap:¬ its.toArray.size*k.toNat > (2 ^ 63-1) / 8:=by
  have:(sizeLine:Nat)<=(2 ^ 63-1) / 8:=by decide
  lia
 have hfit:¬ (!Builtin.List.listFitsIndex k)=true:=by rw[fitsIndex_both h1 h2];exact AN
 have hlong:¬ CK (its.toArray.size*k.toNat)=true:=by rw[zgT hlen];exact AN
 have hnew:List.foldl (λx1 x2=>x1++x2) #[] (As (if its.toArray.isEmpty=true then 0 else k.toNat) its.toArray)=(As k.toNat its).flatten.toArray:=by
  have f0:∀m:Nat,List.foldl (λx1 x2=>x1++x2) #[] (As m its.toArray)=(As m its).flatten.toArray:=λm=>by have:=zfJ its m [];rw[List.nil_append]at this;exact this
  rw[f0]
  cases its with
  |nil=>simp
  |cons a r'=>rw[if_neg (by simp)]
 refine wpAny_binaryOp_repeat_ref (T:="list") (U:="int") (by decide) ⟨_,e,rfl⟩ (λs'=>typeIs_int s' k t) noFill_list_mul F.fills_int_mul F.slot_int_rmul repeat_list F.slot_int_index.lookup
  (call_meets F.slot_int_rmul (typeIs_int s k t) F.entry_int_rmul (F.args_int_rmul_2 _ _) (int___rmul___int_list k t l its.toArray n)
   ⟨e,rfl,⟨_,e,rfl⟩,call_meets F.slot_list_mul ⟨_,e,rfl⟩ F.entry_list_mul (F.args_list_mul_2 _ _) (AutoListH.list___mul___list_int_3 l its.toArray n k t hfit hcap hlong) ⟨e,?_⟩⟩)
 rw[hnew];exact⟨.ref _,_,I.lnew (t':=s.toks) (r.rep k.toNat) (by rw[zk0,Nat.mul_comm];exact hz),rfl,q _ I.fresh⟩
end
section
variable {prog:AH}{w:A4}{A:AJ}{E:Ac->Ae->Prop}{s:Ae}
end
section
variable {X:Cx}
end
end L2
namespace Att
open PySem PySem.W PySem.Calls PyProof.Rows
theorem zdO{P:Params}{h:Heap}:∀(ns:List Int) (vs:List Ac),WellAll P h vs (ns.map WData.int)->IntsAre vs ns:=by
 intro ns
 induction ns with
 |nil =>
  intro vs w;rw[List.map_nil]at w
  cases w
  exact .nil
 |cons n ns ih =>
  intro vs w;rw[AT]at w
  cases w with
  |cons a b =>
   cases a
   exact .cons _ _ (ih _ b)
theorem zia{l:OpenLaw}{n:Nat}(hn:l.most=some n){P:Params}{h:Heap}{args:List WData}{vals:List Ac}
  (hpre:l.row.toRowW.claim.pre args=true) (hwl:WellAll P h vals args) :
  ∃a vs ns,vals=[Ar a]/\args=[WData.list (ns.map WData.int)]/\h.get? a=some { cls:=.type "list",data:=.seq vs.toArray }/\IntsAre vs ns/\ns.length<=n:=by
 have hsh:WShape.hasAll [] args [.list .int]=true:=(pre_splitW hpre).1;have hc:l.pre.holds [] { args:=args }=true:=(pre_splitW hpre).2;obtain⟨d,r,rfl,h1,h2⟩:=hasAllW_cons hsh;obtain rfl:=hasAllW_nil h2;obtain⟨xs,rfl,h3⟩:=hasW_list h1;obtain⟨ns,rfl⟩:=items_int h3
 have hlen:ns.length<=n:=by
  unfold OpenLaw.pre at hc
  have h4:(WTm.not (.lt (.lit (.int (n:Int))) (.len (.arg 0)))).holds [] { args:=[.list (ns.map .int)] }=true:=by have h4:=(holds_andW hc).1;rw[hn]at h4;exact h4
  have h5:=condW_of h4 (w_not (w_lt w_lit (w_len_list (w_arg rfl))));rw[Ag]at h5;refine Nat.le_of_not_lt λq=>?_
  have q':(n:Int)<((ns.length:Nat):Int):=by lia
  first
   | (rw[decide_eq_true q']at h5;exact absurd h5 (by decide))
   | (simp at h5;lia)
 cases hwl with
 |cons w1 w2 =>
  cases w2
  cases w1 with
  |list ho hall=>exact⟨_,_,ns,rfl,rfl,ho,zdO ns _ hall,hlen⟩
theorem zin(l:OpenLaw)(args:List WData):l.row.toRowW.claim.post args (.bool true) args=true :=
 postW_of (r:=l.row.toRowW) (X:=(true == true))
  (show WShape.has [] (.bool true) .bool=true by first |rfl |decide |simp[WShape.has,WShape.arms,WShape.armsAll])
  (show (WTm.eq .res (.lit (.bool true))).value [] { args:=args,res:=some (.bool true),after:=args }=some (.bool (true == true)) from w_eq_bool (w_res rfl) w_lit) rfl
theorem attach_call{l:OpenLaw}{n:Nat}{q:AH}{loose:List Str}{XP:(Str -> Option Ac) -> Heap -> Prop}{YP:A4 -> Heap -> Prop}{d:DefRec}
  (hn:l.most=some n) (hdf:d.params.defaults=[])
  (call:∀(w:A4) (s₀ s₁:Ae) (mg mb:Str->Option Ac) (fa:Addr) (o:Obj) (pm cd doc:Ac) (a:Addr) (vs:List Ac) (ns:List Int),
   Ground q loose [] XP w s₀ mg mb s₁.heap->YP w s₁.heap ->
   s₁.heap.get? fa=some o->o.data=.func (docDef d.name d.params d.body d.scope pm cd doc)->s₁.heap.CodeRec cd d.name->mg d.name=some (.ref fa) ->
   s₁.heap.get? a=some { cls:=.type "list",data:=.seq vs.toArray }->IntsAre vs ns->ns.length<=n->s₁.gens=#[] ->
   CU (Ax l.prog w) callerA (.call (.ref fa) ⟨[.ref a],[]⟩) (λr s'=>r=.ok (.ret (.bool true))/\OldK s₁.heap s'.heap/\s'.os=s₁.os/\AllBare s'.gens) s₁) :
  WalkO q loose XP YP l.row.toRowW d [] (λf vs=>PySem.call f vs):=by
 intro w s₀ s₁ mg mb G Y fa o pm cd doc dV kV ho hd hcd hD hmg hg args vals as hpre hlay hrd hwl hlo;obtain rfl:dV=.none:=Dflts.none hD hdf;obtain rfl:kV=.none:=Dflts.noKw hD;obtain⟨a,vs,ns,rfl,rfl,hobj,hints,hlen⟩:=zia hn hpre hwl;refine enter_call (CD (call w s₀ s₁ mg mb fa o pm cd doc a vs ns G Y ho (fd_plain hd) hcd hmg hobj hints hlen hg) λr s' hq=>?_);obtain⟨rfl,h2,h3,h4⟩:=hq;exact⟨.inl ⟨.bool true,.bool true,[],rfl,λ_=>rfl,.bool true,zin l _,λ_=>⟨List.Pairwise.nil,λ_ hm=>(nomatch hm)⟩⟩,h2,h3,h4⟩
section
variable {prog:AH}{w:A4}{A:AJ}{E:Ac->Ae->Prop}{s:Ae}{K:Frag}
noncomputable def zl7(h:Heap)(L d:Addr):List (Addr×Obj):=(AG h.objs.size).filterMap λa=>if a=L∨a=d then none else (h.get? a).map λo=>(a,o)
end
end Att
namespace L2
open PySem PySem.Spec PyProof.Rows
theorem zfi:∀{vs:List Ac}{ns:List Int},IntsAre vs ns->Vals (ns.map V.int) vs
 |_,_,.nil=>.nil
 |_,_,.cons n t h=>.cons ⟨t,rfl⟩ (zfi h)
noncomputable abbrev KOf{K:W.Frag}{h:Heap}(_:K.In h):W.Frag:=K
end L2
/- THE LAST THEOREM (shape; LID, My.* are yours):
  My.Adr: a structure of the addresses that your layer names (classes,functions);My.Txt K t: a structure (Prop) of the equations over K;
  My.txt_mk:{K} {implicit addresses ..} (e1:nsIn K AF "law" = some (some (.ref f))) (e2:K.lookup f=some ⟨oc,od,.func (fnOf "law" "law" params body scope dV kV doc pm an cdv ct),sl⟩) (e3:codeIn K cdv "law" = true) ..:∃t,My.Txt K t
set_option maxRecDepth 100000 in
set_option maxHeartbeats 0 in
theorem PySem.Challenge.cw_LID_holds : PySem.Challenge.rw_LID.Holds := by
 w_on;o_law;k_head;(case hw=>w_witness2)
 k_fill
 refine L2.walk_of (l:=PySem.Challenge.rw_LID) (n:=63) (k:=40) (x:="script") (CX:=λw=>..) (sp:=λ_=>My.sp_law) rfl (by decide) rfl ⟨rfl,by decide,by decide⟩ (λw h Y=>W.kIn_of Y) ?F ?S ?C
 case F =>
  intro w mg fa h KX G hmg
  have T:∃ t,My.Txt (L2.KOf KX) t:=by
   dsimp only[L2.KOf]                          -- K must stand as «<heap const> w.params» for k_is
   refine' My.txt_mk ?e1 ?e2 ?e3 ..
   (case e1=>W.k_is)                    -- in the order: a name -> its address -> its object -> its parts
   (case e2=>W.k_is)
   ..
  obtain⟨t,T⟩:=T
  have e0:=hmg.symm.trans (W.mg_of KX G T.law)
  cases e0                                       -- fa is the law's own address
  exact⟨_,λs u=>.of_eq rfl,λbase kb nb=>My.law_fn T kb nb⟩     -- if «.of_eq rfl» comes too early: refine' ⟨_,?b,λbase kb nb=>My.law_fn T kb nb⟩;exact λs u=>.of_eq rfl
 case S=>exact λw H a ns hl hO hS=>..
 case C=>exact ..
(the tactic k_is has no namespace: write k_is) -/
namespace L2
open PySem PySem.Spec PyProof.Rows
noncomputable def za6(s:Stmt):Arguments:=match s with
 |.FunctionDef _ a _ _ _ _ _ _ _ _=>a
 |_=>{ posonlyargs:=[],args:=[],vararg:=none,kwonlyargs:=[],kw_defaults:=[],kwarg:=none,defaults:=[] }
noncomputable def zaX(s:Stmt):List Stmt:=match s with
 |.FunctionDef _ _ b _ _ _ _ _ _ _=>b
 |_=>[]
noncomputable def zaf(s:Stmt):Scope:=match s with
 |.FunctionDef _ _ _ _ _ _ sc _ _ _=>sc
 |_=>{ kind:=.function,names:=[],isGenerator:=false,isCoroutine:=false }
noncomputable abbrev CX0:CXT:=λ_ _ _ _ _ _=>False
noncomputable abbrev E0:XK:=λ_ _ _=>False
theorem pass0{X:Cx}:zjp CX0 X E0:=λ_ _ _ _ _ _ _ h=>h.elim
structure Fun (K:W.Frag) (x qual:Str) (st:Stmt) (f:Addr) (fd:BC):Prop where
 ex:∃(oc:Ac) (od:Option Addr) (kV doc pm:Ac) (an:Option Addr) (cdv ct:Ac) (osl:Array (Option Ac)),
  fd=Dm x qual (za6 st) (zaX st) (zaf st) .none kV doc pm an cdv ct/\K.lookup f=some ⟨oc,od,.func fd,osl⟩/\W.codeIn K cdv qual=true
 kp:DD K (.ref f)=true
section
variable {P:AH}{w:A4}{K:W.Frag}{mg:Str->Option Ac}{base:Heap}
theorem Fun.ok{x qual:Str}{st:Stmt}{f:Addr}{fd:BC}{N ps:List Str}{k:Nat}{sp:Sp}(F:Fun K x qual st f fd)(S:FnScope N ps (zaf st))(len:∀vs H Q E, sp vs H Q E -> vs.length=ps.length)
  (hbody:∀(cdv:Ac) (A:AJ) (outer:List Env) (s:Ae) (H:Hp) (vs:List V) (Q:VK) (E:XK),Room k (A.deeper (envOfC qual (zaf st) s.heap.objs.size f cdv))->sp vs H Q E ->
   ∃t,PSs (cxOf CX0 P w K mg base N qual (zaf st) f cdv A outer s H E).nox (zaX st) t/\t { nx:=λ_ H'=>Q .non H',rt:=Q } (start N vs) H):FnOk P w K mg base CX0 (k+1) f fd ps sp:=by
 obtain⟨oc,od,kV,doc,pm,an,cdv,ct,osl,rfl,lk,hcd⟩:=F.ex;refine fn_of lk hcd S len λA outer s H vs Q E hr hsp=>?_
 obtain⟨t,h,q⟩:=hbody cdv A outer s H vs Q E hr hsp;exact⟨t,h.nox,q⟩
theorem Fun.binds{x qual:Str}{st:Stmt}{f:Addr}{fd:BC}{ps:List Str}(F:Fun K x qual st f fd)
  (h:∀(kV doc pm:Ac) (an:Option Addr) (cdv ct:Ac) (us:List Ac),us.length=ps.length->CM (Dm x qual (za6 st) (zaX st) (zaf st) .none kV doc pm an cdv ct) ⟨us,[]⟩=pure (ps.zip us)):Binds K fd ps []:=by
 obtain⟨oc,od,kV,doc,pm,an,cdv,ct,osl,rfl,lk,hcd⟩:=F.ex;exact .all (h kV doc pm an cdv ct)
theorem zcP{x qual:Str}{st:Stmt}{f:Addr}{oc:Ac}{od an:Option Addr}{osl:Array (Option Ac)}{kV doc pm cdv ct:Ac}(l:K.lookup f=some ⟨oc, od, .func (Dm x qual (za6 st) (zaX st) (zaf st) .none kV doc pm an cdv ct), osl⟩)
  (c:W.codeIn K cdv qual=true) (k:DD K (.ref f)=true):Fun K x qual st f (Dm x qual (za6 st) (zaX st) (zaf st) .none kV doc pm an cdv ct):=⟨⟨oc,od,kV,doc,pm,an,cdv,ct,osl,rfl,l,c⟩,k⟩
end
theorem hu_of{A:AJ}{k:Nat}(hr:Room k A):A.units+1<cLine:=DN (Nat.add_le_add_left (by decide:1<=64) _) hr.units
theorem zak{n:Nat}(h:n<=1000):n<sizeLine:=DN h (by decide)
section
variable {X:Cx}
theorem pv (i:Nat){x:Str}{pos:Pos}(hN:X.N[i]? = some x := by rfl) (hv:Vis X.env.scope x := by first |exact Or.inl rfl |exact CP (Or.inl rfl) |exact CP (CP rfl)) (hd:(x == ("__debug__" : Str))=false := by decide)
  (hcd:(x == ("__classdict__" : Str))=false:=by decide):PE X (.Name x pos) (tVar i):=zlD hN hv hd hcd
end
theorem iteF{A B:Prop}(h:B):if false=true then A else B:=by rw[if_neg AN];exact h
theorem iteT{A B:Prop}(h:A):if true=true then A else B:=by rw[if_pos rfl];exact h
theorem ite2{c A B:Prop} [Decidable c](h1:c->A)(h2:¬ c->B):if c then A else B:=by
 by_cases h:c
 .rw[if_pos h];exact h1 h
 .rw[if_neg h];exact h2 h
noncomputable def Same(H H':Hp):Prop:=∀b o,H b=some o->H' b=some o
theorem Same.refl(H:Hp):Same H H:=λ_ _ h=>h
theorem Same.trans{H H1 H2:Hp}(a:Same H H1)(b:Same H1 H2):Same H H2:=λc o h=>b c o (a c o h)
theorem Same.free{H H':Hp}(e:Same H H'){l:Addr}(h:H' l=Option.none):H l=Option.none:=by
 cases q:H l with
 |none=>rfl
 |some o =>
  rw[e l o q]at h
  cases h
theorem Same.seq{K:W.Frag}{H H':Hp}{a:Addr}{xs:List V}(e:Same H H')(h:SqL K H a xs):SqL K H' a xs:=by
 rcases h with (h |⟨o,h⟩) |h
 .exact .inl (.inl (e _ _ h))
 .exact .inl (.inr ⟨o,e _ _ h⟩)
 .exact .inr h
section
variable {κ:Type} [DecidableEq κ]
theorem zjv{kvs:List (κ×V)}{k:κ}(h:valV kvs k=none):¬ k∈kvs.map (·.1):=by intro m;obtain⟨p,hp,e⟩:=Ay.mp m;have q:(kvs.any λkv=>decide (kv.1=k))=true:=List.any_eq_true.mpr ⟨p,hp,decide_eq_true e⟩;rw[zcm,h]at q;exact absurd q (by simp)
theorem zgq:∀{l:List κ}{k:κ},l.Nodup->¬ k∈l->(l++[k]).Nodup
 |[],k,_,_=>by simp
 |a::r,k,h,hk=>by
  obtain⟨h1,h2⟩:=B9.mp h;show (a::(r++[k])).Nodup;refine List.nodup_cons.mpr ⟨λm=>?_,zgq h2 λm=>hk (List.mem_cons.mpr (CP m))⟩;rcases AW.mp m with q |q
  .exact h1 q
  .exact hk (List.mem_cons.mpr (Or.inl (Ap.mp q).symm))
theorem zkY{kvs:List (κ×V)}{k:κ}(v:V)(hn:(kvs.map (·.1)).Nodup)(h:valV kvs k=none):((putK kvs k v).map (·.1)).Nodup:=by rw[putK_new v h,AA];exact zgq hn (zjv h)
end
end L2
set_option maxHeartbeats 4000000
namespace L2
open PySem PySem.Spec PyProof.Rows
noncomputable def zea(J:It)(g:TG)(tb:TS):TS:=λD σ H=>∃W:Nat->Nat->St->Hp->Prop,(∃m,W 0 m σ H)/\∀i m σ H,W i m σ H ->
 (J.stop i H/\D.nx σ H)∨(J.go i H/\∃N:St->Hp->Prop,(∀ σ' H',N σ' H'->∃m',m'<m/\W (i+1) m' σ' H')/\∀x H',J.yld i H x H'->g x σ H' λσ2 H2=>tb { D with nx:=N,ct:=N,bk:=D.nx } σ2 H2)
noncomputable def PTs(X:Cx)(ifs:List Expr)(t:TT):Prop :=
 ∀(pins:List (Addr×Obj)) (s:Ae) (σ:St) (H:Hp) (Q:Bool->Hp->Prop),Inv X pins σ H s->t σ H Q ->
  Ao (Ax X.prog X.w) X.A (forIn ifs true λc r=>if r=true then do let ok <- isTrue c X.env (eval c X.env);pure (DJ ok) else pure (DJ r)) (TP X pins σ Q) X.xe s
theorem zcV{X:Cx}:PTs X [] (λ_ H Q=>Q true H):=λpins s σ H Q I h=>Ah ⟨H,I,h⟩
theorem zbs{X:Cx}{c:Expr}{t:TT}(hc:PT X c t):PTs X [c] t:=λpins s σ H Q I h=>wpAny_tests_one (hc pins s σ H Q I h)
noncomputable def PB(X:Cx)(inner:Sem Unit)(t:TS):Prop :=
 ∀(pins:List (Addr×Obj)) (s:Ae) (σ:St) (H:Hp) (D:Ends),Inv X pins σ H s->t D σ H->Ao (Ax X.prog X.w) X.A inner (λ_ s'=>∃ σ' H',Inv X pins σ' H' s'/\D.nx σ' H') X.xe s
noncomputable def tIfs(tt:TT)(tb:TS):TS:=λD σ H=>tt σ H λb H1=>if b=true then tb D σ H1 else D.nx σ H1
theorem zjd{X:Cx}{e tg:Expr}{d:Nat}{ifs:List Expr}{p:Pos}{acc:Ac}{inner:Sem Unit}{g:TG}{tt:TT}{tb:TS}{it:Addr}{fp:List Addr}{tn:Nat -> Heap -> Prop}{J:It}
  {pins:List (Addr×Obj)} {s:Ae} {σ:St} {H:Hp} {D:Ends} {R:Result->Ae->Prop}
  (hq:(Code.compLoop e d (.ref it) acc X.env).quiet=true)
  (hden:(Ax X.prog X.w).den (.compLoop e d (.ref it) acc X.env)=(compTurn e d (.ref it) acc X.env).onRaise (λx=>do noteFrame x X.env;theTreesLotGoes x))
  (hT:compTurn e d (.ref it) acc X.env=(do
   standAt p
   match <- Dy (.ref it) with
   |none=>pure (.done .next)
   |some v =>
    letOwnedTupleGo tg (.ref it) v
    assign tg X.env v
    let mut ok:=true
    for c in ifs do
     if ok then ok <- isTrue c X.env (eval c X.env)
    if ok then
     inner
    again (.compLoop e d (.ref it) acc X.env)))
  (hA:∀(B:AJ) {α:Type} {t:Sem α} {Q:α->Ae->Prop} {E:Ac->Ae->Prop} {s:Ae},B=X.A.under (.compLoop e d (.ref it) acc X.env)->Ao (Ax X.prog X.w) X.A t Q E s->Ao (Ax X.prog X.w) B t Q E s)
  (hc:X.calm=true) (hx:X.xe=λ_ _=>False) (hg:PG X tg g) (ht:PTs X ifs tt) (hb:PB X inner tb)
  (I:Inv X pins σ H s) (T:Turn X.prog X.w X.K tg J fp it tn) (st:tn 0 s.heap) (f:∀b∈fp,FpOk X pins H b) (W:zea J g (tIfs tt tb) D σ H)
  (hR:∀fl s',(∃ σ' H',Inv X pins σ' H' s'/\(∀b∈fp,H' b=none)/\D.nx σ' H')->R (.ok fl) s') :
  CU (Ax X.prog X.w) X.A (.compLoop e d (.ref it) acc X.env) R s:=by
 obtain⟨W,⟨m0,w0⟩,turn⟩:=W;have stat:∀{H':Hp},(∀b∈fp,H' b=none)->∀b∈fp,FpOk X pins H' b:=λhn b hb=>⟨hn b hb,(f b hb).2⟩
 refine codeAny_loop hq (λn s'=>∃i σ' H',Inv X pins σ' H' s'/\tn i s'.heap/\(∀b∈fp,H' b=none)/\W i n σ' H') ?_ m0 ⟨0,σ,H,I,st,λb hb=>(f b hb).1,w0⟩;rintro n s3 ⟨i,σ3,H3,I3,st3,fr3,w3⟩;refine hA _ rfl ?_
 rw[hden];refine wpAny_noted (wpAny_noRaise ?_);rw[hT];refine Ab (wpAny_standAt ?_)
 have nx:∀{α:Type} {t:Sem α} {Q:α->Ae->Prop} {s:Ae},Ao (Ax X.prog X.w) X.A t Q X.xe s->Ao (Ax X.prog X.w) X.A t Q (λ_ _=>False) s:=λ{α t Q s} h=>by rw[hx]at h;exact h
 rcases turn i n σ3 H3 w3 with⟨stop,qn⟩ |⟨go,N,hN,step⟩
 .refine Ab (thn (T.done X rfl rfl rfl hc i pins s3 σ3 H3 _ I3 (stat fr3) st3 stop) λr s4 ⟨hr,I4⟩=>?_);subst hr;exact Ah (hR _ _ ⟨σ3,H3,I4,fr3,qn⟩)
 .refine Ab (thn (T.item X rfl rfl rfl hc i pins s3 σ3 H3 _ I3 (stat fr3) st3 go) λr s4 ⟨u,hr,h4⟩=>?_);subst hr;refine Ab (thn h4 λ_ s5 ⟨x,H5,I5,r5,y5,st5,fr5⟩=>?_);have I5':=I5.pinned (stat fr5) (T.obj _ _ st5)
  have again:∀{σ7:St} {H7:Hp} {s7:Ae},Inv X (pins++zcu fp s5.heap) σ7 H7 s7->N σ7 H7->∃m,m<n/\∃i σ' H',Inv X pins σ' H' s7/\tn i s7.heap/\(∀b∈fp,H' b=none)/\W i m σ' H':=λ{σ7 H7 s7} I7 n7=>by obtain⟨m',hm,w7⟩:=hN σ7 H7 n7;refine⟨m',hm,i+1,σ7,H7,I7.unpinned,T.keep _ _ _ st5 λb hb o e=>(I7.pin (b,o) (Am _ (Am _ (zay hb e)))).1,λb hb=>?_,w7⟩;obtain⟨o,e,d⟩:=T.obj _ _ st5 b hb;exact (I7.pin (b,o) (Am _ (Am _ (zay hb e)))).2.1
  refine Ab (thn (nx (hg _ s5 σ3 H5 x u _ I5' r5 (step x H5 y5))) λ_ s6 ⟨σ6,H6,I6,q6⟩=>?_);refine Ab (thn (nx (ht _ s6 σ6 H6 _ I6 q6)) λok s7 ⟨H7,I7,q7⟩=>?_)
  cases ok with
  |false =>
   exact Ah ⟨rfl,again I7 q7⟩
  |true =>
   refine Ab (thn (nx (hb _ s7 σ6 H7 _ I7 q7)) λ_ s8 ⟨σ8,H8,I8,q8⟩=>?_);exact Ah ⟨rfl,again I8 q8⟩
noncomputable abbrev blk(X:Cx)(sc:Scope)(cl:List (Str×Addr))(C:Addr)(N':List Str)(s0:Ae)(H0:Hp)(ex:List Addr):Cx :=
 { X with N:=N',s₀:=s0,H₀:=H0,env:=compEnvC sc cl C X.env,outer:=X.stack,stack:=X.stack,ex:=ex,fn:=λ_=>false,pn:=[],xe:=λ_ _=>False }
structure BlkOk (osc:Scope) (N:List Str) (sc:Scope) (N':List Str) (sel:List (Option Nat)):Prop where
 kind:sc.kind=.function
 nocell:∀y∈sc.names,y.2≠.cell
 names:∀y∈sc.names,y.2=.local->sc.names.lookup y.1=some .local
 free:∀y∈sc.names,y.2=.free->osc.names.lookup y.1=some .cell∨osc.names.lookup y.1=some .free
 len:sel.length=N'.length
 sel:∀p∈sel.zip N',∀i∈p.1,N[i]?=some p.2/\sc.names.lookup p.2=some .free
noncomputable def selSt(sel:List (Option Nat))(σ:St):St:=sel.map λo=>o.bind λi=>(σ[i]?).join
theorem zbY{env:Env} : ∀(names:List (Str × NameKind)) (acc:List (Str × Addr)), (∀y ∈ names, y.2 = .free -> ∃c, env.cells.lookup y.1=some c) ->
  ∃cl,(forIn names acc λ(x:Str×NameKind) (r:List (Str×Addr))=>(if (x.2 == .free)=true then do let c <- cellOf env x.1;pure (DJ ((x.1,c)::r)) else pure (DJ r):Sem (ForInStep (List (Str×Addr)))))=pure cl /\
   (∀x c,cl.lookup x=some c->acc.lookup x=some c∨(env.cells.lookup x=some c/\(x,Bq)∈names))/\(∀y∈names,y.2=.free->∃c,cl.lookup y.1=some c)/\(∀x c,acc.lookup x=some c->∃c',cl.lookup x=some c')
 |[],acc,_=>⟨acc,rfl,λ_ _ h=>.inl h,(λ_ h=>nomatch h),λx c h=>⟨c,h⟩⟩
 | (n,k)::r,acc,h=>by
  by_cases hk:k=.free
  .subst hk;obtain⟨c,hc⟩:=h (n,.free) AC rfl;obtain⟨cl,e,h1,h2,h3⟩:=zbY r ((n,c)::acc) λy hy=>h y (At _ hy)
   refine⟨cl,?_,λx c' hx=>?_,λy hy hf=>?_,λx c' hx=>?_⟩
   .rw[List.forIn_cons];have e1:cellOf env n=pure c:=by unfold cellOf;rw[hc]
    simp only[beq_self_eq_true,if_true,e1,pure_bind];exact e
   .rcases h1 x c' hx with q |⟨q,m⟩
    .by_cases hn:x=n
     .subst hn;rw[Be,beq_self_eq_true]at q
      cases q
      exact .inr ⟨hc,AC⟩
     .have hb:(x == n)=false:=by simpa using hn
      rw[Be,hb]at q;exact .inl q
    .exact .inr ⟨q,At _ m⟩
   .rcases Aw.mp hy with z |z
    .subst z;exact h3 n c (by rw[Be,beq_self_eq_true])
    .exact h2 y z hf
   .by_cases hn:x=n
    .subst hn;exact h3 x c (by rw[Be,beq_self_eq_true])
    .have hb:(x == n)=false:=by simpa using hn
     exact h3 x c' (by rw[Be,hb];exact hx)
  .obtain⟨cl,e,h1,h2,h3⟩:=zbY r acc λy hy=>h y (At _ hy)
   refine⟨cl,?_,λx c' hx=>?_,λy hy hf=>?_,h3⟩
   .rw[List.forIn_cons];have hb:(k == Bq)=false:=by simpa using hk
    simp only[hb,Bu,if_false,pure_bind];exact e
   .rcases h1 x c' hx with q |⟨q,m⟩
    .exact .inl q
    .exact .inr ⟨q,At _ m⟩
   .rcases Aw.mp hy with z |z
    .subst z;exact absurd hf hk
    .exact h2 y z hf
structure Clo (env:Env) (sc:Scope) (cl:List (Str×Addr)):Prop where
 run:closureFor sc env=pure cl
 old:∀x c,cl.lookup x=some c->env.cells.lookup x=some c/\(x,Bq)∈sc.names
 has:∀y∈sc.names,y.2=.free->∃c,cl.lookup y.1=some c
theorem zkz{X:Cx}{osc:Scope}{N:List Str}{sc:Scope}{N':List Str}{sel:List (Option Nat)}(ok:X.Ok)(B:BlkOk osc N sc N' sel)(ho:X.env.scope=osc):∃cl,Clo X.env sc cl:=by
 have hc:∀y∈sc.names,y.2=.free->∃c,X.env.cells.lookup y.1=some c:=λy hy hf=>ok.has y.1 (by
  show X.env.scope.names.lookup y.1=_∨X.env.scope.names.lookup y.1=_;rw[ho];exact B.free y hy hf)
 obtain⟨cl,e,h1,h2,_⟩:=zbY (env:=X.env) sc.names [] hc;refine⟨cl,?_,λx c h=>?_,h2⟩
 .unfold closureFor;have e':=e;show (do let r <- forIn sc.names [] _;pure r)=_;simp only[bind_pure];exact e'
 .rcases h1 x c h with q |q
  .cases q
  .exact q
theorem zbI{env:Env} : ∀{names:List (Str × NameKind)}{x:Str}{k:NameKind}, (names.map λ(n, k) => if (k == Bq && env.scope.kind == .function && env.kindOf n == some .cell) then (n, Da) else (n, k)).lookup x=some k ->
  ∃k',(x,k')∈names/\(k=k'∨(k=.cell/\k'=.free))
 |[],x,k,h=>nomatch h
 | (n,j)::r,x,k,h=>by
  have ih:=@zbI env r x k;have h:List.lookup x ((if (j == Bq && env.scope.kind == .function && env.kindOf n == some .cell)=true then (n,Da) else (n,j))::_)=some k:=h
  by_cases hx:x=n
  .subst hx
   by_cases hc:(j == Bq && env.scope.kind == .function && env.kindOf x == some .cell)=true
   .rw[if_pos hc,Be,beq_self_eq_true]at h
    cases h
    refine⟨j,AC,.inr ⟨rfl,?_⟩⟩;simp only[A9,beq_iff_eq]at hc;exact hc.1.1
   .rw[if_neg hc,Be,beq_self_eq_true]at h
    cases h
    exact⟨j,AC,.inl rfl⟩
  .have hb:(x == n)=false:=by simpa using hx
   have h':List.lookup x (r.map λ(n,k)=>if (k == Bq && env.scope.kind == .function && env.kindOf n == some .cell) then (n,Da) else (n,k))=some k:=by
    by_cases hc:(j == Bq && env.scope.kind == .function && env.kindOf n == some .cell)=true
    .rw[if_pos hc,Be,hb]at h;exact h
    .rw[if_neg hc,Be,hb]at h;exact h
   obtain⟨k',m,e⟩:=ih h';exact⟨k',At _ m,e⟩
theorem zbC{env:Env} : ∀{names:List (Str × NameKind)}{x:Str}, names.lookup x=some .free ->
  (names.map λ(n,k)=>if (k == Bq && env.scope.kind == .function && env.kindOf n == some .cell) then (n,Da) else (n,k)).lookup x=some .cell ∨
  (names.map λ(n,k)=>if (k == Bq && env.scope.kind == .function && env.kindOf n == some .cell) then (n,Da) else (n,k)).lookup x=some .free
 |[],x,h=>nomatch h
 | (n,j)::r,x,h=>by
  have ih:=@zbC env r x;rw[Be]at h;show List.lookup x ((if (j == Bq && env.scope.kind == .function && env.kindOf n == some .cell)=true then (n,Da) else (n,j))::_)=_∨List.lookup x ((if (j == Bq && env.scope.kind == .function && env.kindOf n == some .cell)=true then (n,Da) else (n,j))::_)=_
  cases hx:x == n with
  |true =>
   rw[hx]at h
   cases h
   by_cases hc:(Bq == Bq && env.scope.kind == .function && env.kindOf n == some .cell)=true
   .rw[if_pos hc,Be,hx];exact .inl rfl
   .rw[if_neg hc,Be,hx];exact .inr rfl
  |false =>
   rw[hx]at h
   by_cases hc:(j == Bq && env.scope.kind == .function && env.kindOf n == some .cell)=true
   .rw[if_pos hc,Be,hx];exact ih h
   .rw[if_neg hc,Be,hx];exact ih h
section
variable {X:Cx}{osc:Scope}{N:List Str}{sc:Scope}{N':List Str}{sel:List (Option Nat)}{cl:List (Str×Addr)}{pins:List (Addr×Obj)}{σ:St}{H:Hp}{s:Ae}{fp:List Addr}
theorem zk3{h':Heap}{ob:Obj}{tk:Nat}(B:BlkOk osc N sc N' sel)(ho:X.env.scope=osc)(hN:X.N=N)(Cl:Clo X.env sc cl)(I:Inv X pins σ H s)
    (f:∀b∈fp,FpOk X pins H b) (fo:∀b∈fp,∃o,s.heap.get? b=some o) (hns:h'.Ns s.heap.objs.size (λ_=>none)) (hsb:Cu s.heap.objs.size (s.heap.push ob) h') :
    Inv (blk X sc cl s.heap.objs.size N' s H fp) [] (selSt sel σ) H { s with heap:=h',toks:=tk }:=by
  have old:∀b o,s.heap.get? b=some o->h'.get? b=some o:=λb o e=>(hsb.2 b (AI (Av e))).trans (Af _ e)
  have bel:∀b∈fp,b<s.heap.objs.size:=λb hb=>by obtain⟨o,e⟩:=fo b hb;exact Av e
  have kk:∀x,(compEnvC sc cl s.heap.objs.size X.env).kindOf x=some .cell∨(compEnvC sc cl s.heap.objs.size X.env).kindOf x=some .free->(x,Bq)∈sc.names:=λx hx=>by
    rcases hx with hx |hx
    . obtain⟨k',m,e⟩:=zbI hx;rcases e with e |⟨_,e⟩
      . subst e;exact absurd rfl (B.nocell _ m)
      . subst e;exact m
    . obtain⟨k',m,e⟩:=zbI hx;rcases e with e |⟨e,_⟩
      . subst e;exact m
      . cases e
  refine⟨⟨I.mod, B.kind, I.ok.glob, I.ok.blt, Ai _, λx y c e1 e2 => I.ok.inj x y c (Cl.old x c e1).1 (Cl.old y c e2).1, λx hx => Cl.has _ (kk x hx) rfl, λx c z => absurd z (by intro q; cases q), I.ok.hd, I.ok.frames, .inl rfl,
      λb hb=>⟨AI (bel b hb),λx c e=>(f b hb).2.2.2.2.1 x c (Cl.old x c e).1⟩,I.bs,AO I.ok.bsz I.sz,λb o e hb=>?_,λb hb hs=>?_,I.stack,I.stkFree⟩,
    rfl,I.bare,Un.kept old,⟨_,hns,λj x v e1 e2 e3=>?_⟩,λx c e=>?_,I.hok.fresh (Ai _),λx c e=>I.freeC x c (Cl.old x c e).1,λp hp=>absurd (show p∈([]:List (Addr×Obj)) from hp) (by simp),I.hok.kept old,?_⟩
  . rcases (f b hb).2.2.2.1 with z |z
    . exact I.ok.noex b o e z
    . exact absurd (AB (Av e) (AO I.ok.bsz z)) (BY _)
  . obtain⟨_,f1,f2,_⟩:=f b hb;rcases Aw.mp (I.stkSub b hs) with z |z
    . exact f1 z
    . exact f2 z
  . have e2':((sel[j]?).map λo => o.bind λi => (σ[i]?).join)=some (some v) := by have:=e2;unfold selSt at this;rw[Az]at this;exact this
    cases hj:sel[j]? with
    |none=>rw[hj]at e2';cases e2'
    |some o =>
      rw[hj]at e2'
      cases o with
      |none=>cases e2'
      |some i =>
        have e4:(σ[i]?).join=some v:=Bc e2'
        have e5:σ[i]?=some (some v):=by
          cases q:σ[i]? with
          |none=>rw[q]at e4;cases e4
          |some z=>rw[q]at e4;exact congrArg some e4
        have hz:(some i,x)∈sel.zip N':=by
          refine Aj (i:=j) ?_
          rw[List.getElem?_zip_eq_some];exact⟨hj,e1⟩
        obtain⟨g1,g2⟩:=B.sel _ hz i rfl;obtain⟨m,hn,hl⟩:=I.loc;have m2:(x,Bq)∈sc.names:=BE g2
        have k2:X.env.kindOf x=some .cell∨X.env.kindOf x=some .free:=by show X.env.scope.names.lookup x=_∨X.env.scope.names.lookup x=_;rw[ho];exact B.free _ m2 rfl
        have v2:Vis X.env.scope x:=by
          rcases k2 with z |z
          . exact .inr (.inl z)
          . exact .inr (.inr z)
        obtain⟨u,r,l⟩:=hl i x v (by rw[hN];exact g1) e5 v2;refine⟨u,r,?_⟩;rcases l with⟨l,_⟩ |⟨_,c,e6,hc⟩
        . rcases k2 with z |z <;> (rw[l]at z;cases z)
        . obtain⟨c',hc'⟩:=Cl.has _ m2 rfl;have e7:=(Cl.old x c' hc').1;rw[e6]at e7
          cases e7
          exact .inr ⟨zbC g2,c,hc',hc.keeps old⟩
  . obtain⟨v,hc⟩:=I.cell x c (Cl.old x c e).1;exact⟨v,hc.keeps old⟩
  . show (selSt sel σ).length=N'.length;unfold selSt;rw[Ag,B.len]
theorem zla{C:Addr}{H':Hp}{σ':St}{s':Ae}(I:Inv X pins σ H s)(f:∀b∈fp,FpOk X pins H b)(I':Inv (blk X sc cl C N' s H fp) [] σ' H' s'):Inv X pins σ H' s' :=
 I.call' (ch:=fp) I'.os I'.base I'.hok I'.bare λb hb=>by obtain⟨_,f1,_,f3,f4,f5⟩:=f b hb;exact⟨f3,f1,f4,f5⟩
end
section
variable {X:Cx}
noncomputable def zdt(p:Addr)(te:TE):TS:=λD σ H=>te σ H λv H1=>∃xs,H1 p=some (.lst xs)/\xs.length<sizeLine/\D.nx σ (upd H1 p (.lst (xs++[v])))
theorem zkT {p:Addr}{elt:Expr}{te:TE}(he:PE X elt te):PB X (do let _ <- call (.builtin "list.append") [.ref p,<- eval elt X.env]) (zdt p te):=by intro pins s σ H D I h;refine Ab (thn (he pins s σ H _ I h) λv s1 ⟨x,H1,I1,r1,xs,e1,hl,q⟩=>?_);refine Ab (thn (zaE pins s1 σ H1 (.ref p) [x] (.ref p) [v] (λz H2=>D.nx σ H2) I1 rfl (.cons r1 .nil) ⟨p,xs,x,rfl,rfl,e1,hl,q⟩) λu s2 ⟨z,H2,I2,_,q2⟩=>?_);exact Ah ⟨σ,H2,I2,q2⟩
theorem d_set{pins:List (Addr × Obj)}{σ : St}{H H':Hp}{s:Ae}{a:Addr}{y v:V}{u r:Ac}{A:AJ}{E:Ac -> Ae -> Prop}{Q:Unit -> Ae -> Prop}(hu:A.units + 1 < cLine)(I:Inv X pins σ H s)(g:DPut H a y v H')(ry:RelV y u)(rv:RelV v r)(h:∀s', Inv X pins σ H' s' -> Q () s') :
  Ao (Ax X.prog X.w) A (dictSet a u r) Q E s:=by
 rcases g with⟨kvs,k,e,ey,l,eH⟩ |⟨kvs,k,b,e,ey,eb,l,eH⟩
 .subst ey eH;obtain⟨z,hd,vs,rel,dd⟩:=dk_of I.hok e;have hz:vs.length<=sizeLine:=by rw[<- rel.length];exact z
  have hl:(putK kvs k v).length<=sizeLine:=by have:=zaP kvs k v;lia
  refine wpAny_dictSet_pairs (hsz:=hz) (kV_is ry) dd λh' dd' hs=>h _ ?_
  have he:∃q,h'.get? a=some q:=let ⟨q,_,_,hq,_⟩:=dd';⟨q,hq⟩
  exact zc0 I (by rw[e];exact Cg) hs he (zi7 hl hd (rel.put k rv) dd')
 .subst ey eH
  cases (show u=Ar b from ry)
  obtain⟨z,hd,xs,rel,dd⟩:=dt_of I.hok e;have hz:xs.length<=sizeLine:=by rw[<- C8 rel];exact z
  have hl:(putK kvs k v).length<=sizeLine:=by have:=zaP kvs k v;lia
  have hr:(DO (zaz X.prog X.w)).room A:=by show A.units<cLine;lia
  refine wpAny_dictSet_heap (hsz:=hz) hr (zdM I.hok eb) dd λh' dd' hs=>h _ ?_
  obtain⟨q,es,ep,hq,h2,h3,h4,_,h5⟩:=dd';refine zc0 I (by rw[e];exact Cg) hs ⟨q,hq⟩ ⟨hl,hd,_,(rel.put k eb rv).keeps λc ys ec=>?_,q,es,ep,hq,h2,h3,h4,h5⟩;rw[zag (ne_of ec e (λz=>nomatch z))];exact ec
end
section
variable {X:Cx}{osc:Scope}{N:List Str}{sc:Scope}{N':List Str}{sel:List (Option Nat)}{pos:Pos}{elt kx vx tg iter:Expr}{ifs:List Expr}{wi:TI}{g:TG}{tt:TT}{te tk tv:TE}
noncomputable def InBlk(X:Cx)(sc:Scope)(N':List Str)(P:Cx->Prop):Prop:=∀cl C s0 H0 ex,P (blk X sc cl C N' s0 H0 ex)
theorem zfQ{e:Expr}{inner:Env -> Addr -> Sem Unit}{tb:Addr -> TS}{use:Option (Ac -> Sem Unit)}{pins:List (Addr × Obj)}{s:Ae}{σ : St}{H:Hp}{J:It}{it:Addr}{fp:List Addr}{tn:Nat -> Heap -> Prop}{o0:HO}{ob:Obj}
    {D:Addr->Ends} {Q:Ac->Ae->Prop}
    (B:BlkOk osc N sc N' sel) (ho:X.env.scope=osc) (hN:X.N=N) (hc:X.calm=true)
    (hstart:∀(acc:Ac) (env:Env) (R:Result->Ae->Prop) (s:Ae),CU (Ax X.prog X.w) X.A (.compLoop e 0 (.ref it) acc env) R s->Ao (Ax X.prog X.w) X.A (pyIter (.ref it)) (λit' s'=>CU (Ax X.prog X.w) X.A (.compLoop e 0 it' acc env) R s') (notedBy (Ax X.prog X.w) X.A env λx s'=>R (.error x) s') s->CU (Ax X.prog X.w) X.A (.compStart e 0 (.ref it) acc env) R s)
    (hloop:∀cl C s0 H0 ex p pins s σ H Dn R,Inv (blk X sc cl C N' s0 H0 ex) pins σ H s->tn 0 s.heap->(∀b∈fp,FpOk (blk X sc cl C N' s0 H0 ex) pins H b)->zea J g (tIfs tt (tb p)) Dn σ H ->
      (∀fl s',(∃ σ' H',Inv (blk X sc cl C N' s0 H0 ex) pins σ' H' s'/\(∀b∈fp,H' b=none)/\Dn.nx σ' H')->R (.ok fl) s')->CU (Ax X.prog X.w) X.A (.compLoop e 0 (.ref it) (.ref p) (compEnvC sc cl C X.env)) R s)
    (I:Inv X pins σ H s) (T:Turn X.prog X.w X.K tg J fp it tn) (st:tn 0 s.heap) (f:∀b∈fp,FpOk X pins H b)
    (hnew:ObjOk X.prog X.w (upd H s.heap.objs.size o0) (s.heap.push ob) s.heap.objs.size o0) (hfree:ob.isFreed=false)
    (h:zea J g (tIfs tt (tb s.heap.objs.size)) (D s.heap.objs.size) (selSt sel σ) (upd H s.heap.objs.size o0))
    (hend:∀C H' s',Inv X pins σ H' s'->FpOk X pins H' C->(∃m,s'.heap.Ns C m)->(∃ σ',(D s.heap.objs.size).nx σ' H')->compPost (Ax X.prog X.w) X.A X.xe use Q (.ref s.heap.objs.size) C (.ok .next) s') (tk:Nat)
    (cl:List (Str×Addr)) (Cl:Clo X.env sc cl) (E:Ac->Ae->Prop) :
    Ao (Ax X.prog X.w) X.A (newFunctionEnv sc X.env.globals cl [] X.env.qual none .none (some X.env)) (λcenv s₄ =>
        CU (Ax X.prog X.w) X.A (.compStart e 0 (.ref it) (.ref s.heap.objs.size) { cenv with scope:=relabel sc X.env }) (compPost (Ax X.prog X.w) X.A X.xe use Q (.ref s.heap.objs.size) cenv.locals) s₄) E { s with heap:=s.heap.push ob,toks:=tk }:=by
  have grow:∀b o,s.heap.get? b=some o->(s.heap.push ob).get? b=some o:=λ_ _ q=>Af _ q
  have I1:Inv X pins σ (upd H s.heap.objs.size o0) { s with heap:=s.heap.push ob,toks:=tk }:=I.laid grow (Ai _) hnew;have bel:∀b∈fp,∃o,s.heap.get? b=some o:=λb hb=>let ⟨o,e,_⟩:=T.obj _ _ st b hb;⟨o,e⟩
  have f1:∀b∈fp,FpOk X pins (upd H s.heap.objs.size o0) b:=λb hb=>by obtain⟨o,e⟩:=bel b hb;refine⟨?_,(f b hb).2⟩;rw[zag (AI (Av e))];exact (f b hb).1
  refine wpAny_newFunctionEnv (s:={ s with heap:=s.heap.push ob,toks:=tk }) B.nocell (by intro x hx;cases hx) (λh1 hns hsb=>?_) B.kind;have I2:=zk3 (tk:=tk) B ho hN Cl I1 f1 (λb hb=>let ⟨o,e⟩:=bel b hb;⟨o,grow b o e⟩) hns hsb;have old:∀b o,s.heap.get? b=some o->h1.get? b=some o:=λb o e=>(hsb.2 b (AI (Av (grow b o e)))).trans (Af _ (grow b o e))
  have st1:tn 0 h1:=T.keep _ _ _ st λb _ o e=>old b o e
  have f2:∀b∈fp,FpOk (blk X sc cl (s.heap.push ob).objs.size N' { s with heap:=s.heap.push ob,toks:=tk } (upd H s.heap.objs.size o0) fp) [] (upd H s.heap.objs.size o0) b:=λb hb=>by
    obtain⟨g0,g1,g2,g3,g4,g5⟩:=f1 b hb;obtain⟨o,e⟩:=bel b hb;refine⟨g0,AI (Av (grow b o e)),λz=>?_,.inl hb,λx c e=>g4 x c (Cl.old x c e).1,λp hp=>absurd (show p∈([]:List (Addr×Obj)) from hp) (by simp)⟩;rcases Aw.mp (I1.stkSub b z) with q |q
    . exact g1 q
    . exact g2 q
  have loop:=hloop cl _ _ _ _ s.heap.objs.size [] _ _ _ (D s.heap.objs.size) (compPost (Ax X.prog X.w) X.A X.xe use Q (.ref s.heap.objs.size) (s.heap.push ob).objs.size) I2 st1 f2 h λfl s' ⟨σ',H',I',fr',q'⟩=>by
    have I3:=zla I1 f1 I';have hC:FpOk X pins H' (s.heap.push ob).objs.size:=I1.fpOk (Ai _) I'.free;obtain⟨m,hn,_⟩:=I'.loc;have:=hend _ H' s' I3 hC ⟨m,hn⟩ ⟨σ',q'⟩
    cases use <;> exact this
  exact hstart _ _ _ _ loop (T.self _ 0 _ _ _ st1 loop)
end
section
variable {X:Cx}{osc:Scope}{N:List Str}{sc:Scope}{N':List Str}{sel:List (Option Nat)}{pos:Pos}{elt kx vx tg iter:Expr}{ifs:List Expr}{wi:TI}{g:TG}{tt:TT}{te tk tv:TE}
theorem zem{it:Addr}{fp:List Addr}{tn:Nat -> Heap -> Prop}{J:It}(T:Turn X.prog X.w X.K tg J fp it tn)(hc:X.calm=true)(hg:InBlk X sc N' λY => PG Y tg g)(ht:InBlk X sc N' λY => PTs Y ifs tt)(he:InBlk X sc N' λY => PE Y elt te) :
  ∀cl C s0 H0 ex p pins s σ H Dn R,Inv (blk X sc cl C N' s0 H0 ex) pins σ H s->tn 0 s.heap->(∀b∈fp,FpOk (blk X sc cl C N' s0 H0 ex) pins H b)->zea J g (tIfs tt (zdt p te)) Dn σ H ->
   (∀fl s',(∃ σ' H',Inv (blk X sc cl C N' s0 H0 ex) pins σ' H' s'/\(∀b∈fp,H' b=none)/\Dn.nx σ' H')->R (.ok fl) s')->CU (Ax X.prog X.w) X.A (.compLoop (.ListComp elt [⟨tg,iter,ifs,0⟩] sc pos) 0 (.ref it) (.ref p) (compEnvC sc cl C X.env)) R s :=
 λcl C s0 H0 ex p pins s σ H Dn R I st f W hR =>
  zjd (X:=blk X sc cl C N' s0 H0 ex) (p:=iter.pos) (inner:=do let _ <- call (.builtin "list.append") [.ref p,<- eval elt (compEnvC sc cl C X.env)]) rfl rfl rfl (λB {α t Q E s} h w=>by subst h;exact w) hc rfl (hg _ _ _ _ _) (ht _ _ _ _ _) (zkT (he _ _ _ _ _)) I T st f W hR
noncomputable def zlp(wi:TI)(sel:List (Option Nat))(g:TG)(tt:TT)(te:TE):TE:=λσ H Q=>wi σ H λJ H1=>∀p,H1 p=none ->
 zea J g (tIfs tt (zdt p te)) { nx:=λ_ H'=>Q (.ref p) H',rt:=λ_ _=>False } (selSt sel σ) (upd H1 p (.lst []))
theorem Inv.let_go{pins:List (Addr×Obj)}{σ:St}{H:Hp}{s:Ae}{C:Addr}{h':Heap}(I:Inv X pins σ H s)(f:FpOk X pins H C)(hs:Cu C s.heap h'):Inv X pins σ H { s with heap:=h' }:=by obtain⟨f0,f1,_,f3,f4,f5⟩:=f;exact I.turned (t':=s.toks) (λb o hb e=>(hs.2 b hb).trans e) f0 f1 f3 f4 f5
theorem ziJ {P:AH}{w:A4}{H:Hp}{h:Heap}:ObjOk P w (upd H h.objs.size (.lst [])) (h.push { cls:=.type "list",dict:=none,data:=.seq ([]:List Ac).toArray }) h.objs.size (.lst []) :=
 ⟨AZ _,[],_,.nil,Aq _ rfl⟩
theorem zaZ(B:BlkOk osc N sc N' sel)(hi:PI X tg iter wi)(hg:InBlk X sc N' λY => PG Y tg g)(ht:InBlk X sc N' λY => PTs Y ifs tt)(he:InBlk X sc N' λY => PE Y elt te)
  (ho:X.env.scope=osc:=by rfl) (hN:X.N=N:=by rfl) (hc:X.calm=true:=by rfl) (hs:∀x,foldedSetIterable iter X.env x=pure x:=by intro _;rfl) :
  PE X (.ListComp elt [⟨tg,iter,ifs,0⟩] sc pos) (zlp wi sel g tt te):=by
 intro pins s σ H Q I h;obtain⟨cl,Cl⟩:=zkz I.ok B ho;rw[eval_ListComp];refine wpAny_comprehension_free (use:=none) rfl hs Cl.run B.kind B.names (thn (hi pins s σ H _ I h) λv s1 h1=>thn h1 λitv s2 h2=>?_);obtain⟨it,fp,tn,J,H2,e,I2,T,st2,f2,h2⟩:=h2;subst e
 refine By (zfQ (e:=.ListComp elt [⟨tg,iter,ifs,0⟩] sc pos) (inner:=λ_ _=>pure ()) (D:=λp=>{ nx:=λ_ H'=>Q (.ref p) H',rt:=λ_ _=>False }) (tb:=λp=>zdt p te) (use:=none) B ho hN hc (λacc env R s a b=>codeAny_compStart_list a b)
  (zem (iter:=iter) (pos:=pos) T hc hg ht he) I2 T st2 f2 ziJ rfl (h2 _ (I2.hok.fresh (Ai _))) (λC H' s' I3 fC hn hq=>?_) s2.toks cl Cl X.xe)
 obtain⟨m,hn⟩:=hn;obtain⟨_,hq⟩:=hq;exact⟨m,hn,λh' hs'=>⟨.ref s2.heap.objs.size,H',I3.let_go fC hs',rfl,hq⟩⟩
noncomputable def zlv(wi:TI)(sel:List (Option Nat))(g:TG)(tt:TT)(te:TE)(i:Nat):TS:=λD σ H=>wi σ H λJ H1=>∀p,H1 p=none ->
 zea J g (tIfs tt (zdt p te)) { nx:=λ_ H'=>D.nx (σ.set i (some (.ref p))) H',rt:=λ_ _=>False } (selSt sel σ) (upd H1 p (.lst []))
theorem zdm{i:Nat}{x:Str}{px spos:Pos}(B:BlkOk osc N sc N' sel)(hnd:X.N.Nodup)(hi':X.N[i]? = some x)(hx:Loc X.env.scope x)(hi:PI X tg iter wi)(hg:InBlk X sc N' λY => PG Y tg g)(ht:InBlk X sc N' λY => PTs Y ifs tt)(he:InBlk X sc N' λY => PE Y elt te)
  (hsw:swapsWith (.ListComp elt [⟨tg,iter,ifs,0⟩] sc pos) (some (.Name x px)) spos.line X.env=pure true:=by rfl)
  (ho:X.env.scope=osc:=by rfl) (hN:X.N=N:=by rfl) (hc:X.calm=true:=by rfl) (hs:∀x,foldedSetIterable iter X.env x=pure x:=by intro _;rfl)
  (hf:X.fn x=true∨X.env.scope.names.lookup x=some .local:=by first |exact .inl rfl |exact .inr rfl |assumption) :
  PS X (.Assign [.Name x px] (.ListComp elt [⟨tg,iter,ifs,0⟩] sc pos) spos) (zlv wi sel g tt te i):=by
 intro pins s σ H D I h;obtain⟨cl,Cl⟩:=zkz I.ok B ho;rw[exec_Assign_Name_used _ _ _ _ hsw];refine Ab (wpAny_standAt (Ab ?_));show Ao _ X.A (do let _ <- comprehension (.ListComp elt [⟨tg,iter,ifs,0⟩] sc pos) sc X.env _ (newList []) false (eval iter X.env) (some (assign (.Name x px) X.env))) _ _ s;refine Ab (thn (wpAny_comprehension_free (use:=some (assign (.Name x px) X.env)) (Q:=λ_ s'=>SP X pins D .next s') rfl hs Cl.run B.kind B.names (thn (hi pins s σ H _ I h) λv s1 h1=>thn h1 λitv s2 h2=>?_)) λ_ s' hq=>Ah (Ah hq));obtain⟨it,fp,tn,J,H2,e,I2,T,st2,f2,h2⟩:=h2;subst e
 refine By (zfQ (e:=.ListComp elt [⟨tg,iter,ifs,0⟩] sc pos) (inner:=λ_ _=>pure ()) (D:=λp=>{ nx:=λ_ H'=>D.nx (σ.set i (some (.ref p))) H',rt:=λ_ _=>False }) (tb:=λp=>zdt p te) (use:=some (assign (.Name x px) X.env)) B ho hN hc (λacc env R s a b=>codeAny_compStart_list a b)
  (zem (iter:=iter) (pos:=pos) T hc hg ht he) I2 T st2 f2 ziJ rfl (h2 _ (I2.hok.fresh (Ai _))) (λC H' s' I3 fC hn hq=>?_) s2.toks cl Cl X.xe)
 obtain⟨m,hn⟩:=hn;obtain⟨_,hq⟩:=hq;show Ao _ X.A (assign (.Name x px) X.env (.ref s2.heap.objs.size)) _ _ _;refine wpAny_assign_Name (zfm I3 hnd hi' hx (v:=.ref s2.heap.objs.size) rfl (λs4 I4 hch=>?_) hf);obtain⟨a,sb,ha⟩:=hch
 have nC:C≠a:=by
  rcases ha with z |z
  .rw[z];exact fC.2.1
  .exact λq=>fC.2.2.2.2.1 x a z q.symm
 refine⟨m,hn.sameBut sb nC,λh' hs'=>⟨_,H',I4.let_go fC hs',hq⟩⟩
end
mutual
inductive RD (K:W.Frag) (H:Hp):V->PyData->Prop where
 |non:RD K H .non .none
 |bl (b:Bool):RD K H (.bl b) (.bool b)
 |int (i:Int):RD K H (.int i) (.int i)
 |str (x:Str):RD K H (.str x) (.str x)
 |lst {a:Addr} {xs:List V} {ds:List PyData}:SqL K H a xs->RDs K H xs ds->RD K H (.ref a) (.list ds)
 |tup {a:Addr} {xs:List V} {ds:List PyData}:SqT K H a xs->RDs K H xs ds->RD K H (.ref a) (.tuple ds)
inductive RDs (K:W.Frag) (H:Hp):List V->List PyData->Prop where
 |nil:RDs K H [] []
 |cons {x:V} {xs:List V} {d:PyData} {ds:List PyData}:RD K H x d->RDs K H xs ds->RDs K H (x::xs) (d::ds)
end
section
variable {X:Cx}{pins:List (Addr×Obj)}{σ:St}{H:Hp}{s:Ae}
mutual
theorem Inv.reads(I:Inv X pins σ H s):∀{v:V}{d:PyData}{u:Ac},RD X.K H v d->RelV v u->∃as,Reads s.heap u d as
 |_,_,_,.non,r=>by cases (show _=BI from r);exact⟨_,.none⟩
 |_,_,_,.bl b,r=>by cases (show _=Value.bool b from r);exact⟨_,.bool b⟩
 |_,_,_,.int i,r=>by obtain⟨t,rfl⟩:=r;exact⟨_,.int i t⟩
 |_,_,_,.str x,r=>by obtain⟨t,rfl⟩:=r;exact⟨_,.str x t⟩
 |_,_,_,.lst (a:=a) hq hs,r=>by
  cases (show _=Ar a from r)
  obtain⟨its,rv,p,hz⟩:=I.list hq;obtain⟨as,ra⟩:=I.readsAll hs rv;obtain⟨o,ho,hc,n,hd⟩:=p.isList;exact⟨_,.list ho hc hd (by simpa using ra)⟩
 |_,_,_,.tup (a:=a) hq hs,r=>by
  cases (show _=Ar a from r)
  obtain⟨its,rv,p,hz⟩:=I.tuple hq;obtain⟨as,ra⟩:=I.readsAll hs rv;obtain⟨o,ho,hc,n,hd⟩:=p;exact⟨_,.tuple ho hc hd (by simpa using ra)⟩
theorem Inv.readsAll(I:Inv X pins σ H s):∀{vs:List V}{ds:List PyData}{us:List Ac},RDs X.K H vs ds->Vals vs us->∃as,ReadsAll s.heap us ds as
 |_,_,_,.nil,r=>by cases r;exact⟨_,.nil⟩
 |_,_,_,.cons h t,.cons r rr=>by
  obtain⟨as,h1⟩:=I.reads h r;obtain⟨bs,h2⟩:=I.readsAll t rr;exact⟨_,.cons h1 h2⟩
end
end
theorem RDs.ints{K:W.Frag}{H:Hp}:∀(ns:List Int),RDs K H (ns.map V.int) (ns.map Dp)
 |[]=>.nil
 |n::r=>.cons (.int n) (RDs.ints r)
mutual
theorem RD.mono{K:W.Frag}{H H':Hp}(hl:∀a xs,SqL K H a xs->SqL K H' a xs)(ht:∀a xs,SqT K H a xs->SqT K H' a xs):∀{v:V}{d:PyData},RD K H v d->RD K H' v d
 |_,_,.non=>.non
 |_,_,.bl b=>.bl b
 |_,_,.int i=>.int i
 |_,_,.str x=>.str x
 |_,_,.lst h t=>.lst (hl _ _ h) (RDs.mono hl ht t)
 |_,_,.tup h t=>.tup (ht _ _ h) (RDs.mono hl ht t)
theorem RDs.mono{K:W.Frag}{H H':Hp}(hl:∀a xs,SqL K H a xs->SqL K H' a xs)(ht:∀a xs,SqT K H a xs->SqT K H' a xs):∀{v:List V}{d:List PyData},RDs K H v d->RDs K H' v d
 |_,_,.nil=>.nil
 |_,_,.cons h t=>.cons (RD.mono hl ht h) (RDs.mono hl ht t)
end
noncomputable def rEqD(K:W.Frag):R2:=λx y H Q=>∃d e,RD K H x d/\RD K H y e/\BL d=true/\BL e=true/\Q (.bl (Dq d e)) H
noncomputable def rNeD(K:W.Frag):R2:=λx y H Q=>∃d e,RD K H x d/\RD K H y e/\BL d=true/\BL e=true/\Q (.bl (!PyData.eqv d e)) H
section
variable {X:Cx}
theorem zkn(hu:X.A.units+64<cLine):OpR X (BV .Eq) (rEqD X.K):=by intro pins s σ H x y v u Q I rx ry h;obtain⟨d,e,hd,he,sd,se,q⟩:=h;obtain⟨as,ra⟩:=I.reads hd rx;obtain⟨bs,rb⟩:=I.reads he ry;exact SeqAt.compareEq_shaped ra rb sd se hu ⟨.bl _,H,I,rfl,q⟩
theorem zgR(hu:X.A.units+64<cLine):OpR X (BV .NotEq) (rNeD X.K):=by intro pins s σ H x y v u Q I rx ry h;obtain⟨d,e,hd,he,sd,se,q⟩:=h;obtain⟨as,ra⟩:=I.reads hd rx;obtain⟨bs,rb⟩:=I.reads he ry;exact SeqAt.compareNe_shaped ra rb sd se hu ⟨.bl _,H,I,rfl,q⟩
theorem zdP:∀ns ms:List Int,DE (ns.map Dp) (ms.map Dp)=decide (ns=ms)
 |[],[]=>rfl
 |[],_::_=>rfl
 |_::_,[]=>rfl
 |n::r,m::t=>by
  show (n == m && DE (r.map Dp) (t.map Dp))=_;rw[zdP r t]
  by_cases e:n=m
  .subst e;by_cases e2:r=t <;> simp[e2]
  .simp[e]
theorem zbX:∀ns:List Int,Cq (ns.map Dp)=0
 |[]=>rfl
 |n::r=>by show max 0 (Cq (r.map Dp))=0;rw[zbX r];rfl
theorem zcv:∀ns:List Int,B5 (ns.map Dp)=true
 |[]=>rfl
 |n::r=>by show (true && B5 (r.map Dp))=true;rw[zcv r];rfl
noncomputable def tI(ns:List Int):PyData:=.tuple (ns.map .int)
theorem zg6(ns ms:List Int):Dq (tI ns) (tI ms)=decide (ns=ms):=zdP ns ms
theorem zbm(ns:List Int):BL (tI ns)=true:=by unfold BL tI;rw[B6,zcv,BM,zbX];rfl
end
section
variable {prog:AH}{w:A4}{A:AJ}{E:Ac->Ae->Prop}{s:Ae}
theorem zfO{it t:Addr}{items:Array Ac}(hne:t ≠ it):∀(n i:Nat) (s:Ae) (Q:List Ac -> Ae -> Prop), s.heap.IsListIter it t i -> s.heap.IsList t items -> i + n <= items.size ->
  (∀h',h'.IsListIter it t (i+n)->Cu it s.heap h'->Q ((items.toList.drop i).take n) { s with heap:=h' })->Ao (Ax prog w) A (draw (.ref it) n) Q E s
 | 0,i,s,Q,hit,_,_,hQ=>by
  show Ao _ _ (pure []) Q E s;exact Ah (by simpa using hQ s.heap hit (Heap.SameBut.refl ..))
 |n+1,i,s,Q,hit,ht,hle,hQ=>by
  have hlt:i<items.size:=by lia
  show Ao _ _ (Dy (.ref it) >>= _) Q E s;refine Ab (wpAny_pyNext_list_item hit ht (x:=items[i]) (by simp[hlt]) λh₁ hit₁ hs₁=>?_);refine Ab (A1 (zfO hne n (i+1) _ _ hit₁ (ht.extBut hs₁.extBut hne) (by lia) λh₂ hit₂ hs₂=>Ah ?_));have hd:items.toList.drop i=items[i]::items.toList.drop (i+1):=by simp[List.drop_eq_getElem_cons,hlt]
  have:=hQ h₂ (by rw[show i+(n+1)=i+1+n by lia];exact hit₂) (hs₁.trans hs₂);rw[hd,List.take_succ_cons]at this;exact this
theorem zdi{t:Addr}{items:Array Ac}{Q:List Ac -> Ae -> Prop}(hh:A.handled=none)(ht:s.heap.IsList t items)
  (hQ:∀h',Heap.ExtBut s.heap.objs.size s.heap h'->Q items.toList { s with heap:=h' }):Ao (Ax prog w) A (unpackItems (.ref t) items.size none) Q E s:=by
 have hlt:t≠s.heap.objs.size:=by obtain⟨o,ho,_⟩:=ht;exact AI (Av ho)
 unfold unpackItems;refine Ab ?_
 .unfold notIterableAtAll;refine Ab (wpAny_specialOf ht.typeIs PySem.F.slot_list_iter.lookup ?_);refine Ah ?_
  simp only[Bu,if_false];refine Ab (A1 (Dg ht ?_));refine Ab (A1 (zfO hlt items.size 0 _ _ ⟨_,Aq _ rfl,rfl,rfl⟩ (ht.push _) (by lia) λh₁ hit₁ hs₁=>?_))
  have hall:List.take items.size (List.drop 0 items.toList)=items.toList:=by rw[List.drop_zero];exact List.take_of_length_le (by simp)
  rw[hall];rw[if_neg (by simp)];have ht₁:h₁.IsList t items:=(ht.push _).extBut hs₁.extBut hlt;refine Ab (A1 (wpAny_pyNext_list_end hh hit₁ ht₁ (by simp) λh₂ he₂=>?_));simp only[Option.isSome_none,Bu,if_false];refine Ah (hQ h₂ λb o hb e=>he₂ b o hb (hs₁.extBut b o hb (Af _ e)))
theorem zc1{env:Env}{elts:List Expr}{x1}{pos:Pos}{t:Addr}{items:Array Ac}{Q:Unit -> Ae -> Prop}(hh:A.handled=none)(ht:s.heap.IsList t items)
  (hn:(Cp elts env).length=items.size) (hstar:(Cp elts env).findIdx? (·.1)=none)
  (h:∀h',Heap.ExtBut s.heap.objs.size s.heap h'->Ao (Ax prog w) A (assignInOrder ((Cp elts env).map (·.2)) items.toList) Q E { s with heap:=h' }) :
  Ao (Ax prog w) A (assign (.Tuple elts x1 pos) env (.ref t)) Q E s:=by
 rw[assign_Tuple];refine Ab (wpAny_standAt ?_);unfold unpack;rw[hn,hstar];exact Ab (A1 (zdi hh ht h))
end
section
variable {X:Cx}{pos:Pos}
noncomputable def gLst(K:W.Frag)(n:Nat)(t:TGs):TG:=λv σ H Q=>∃a xs,v=.ref a/\SqL K H a xs/\xs.length=n/\t xs σ H Q
theorem zkl{es:List Expr}{k:Nat}{t:TGs}{n:Nat}(hc:X.calm=true)(h:PGs X es t)
  (hn:(Cp es X.env).length=n:=by rfl) (hst:(Cp es X.env).findIdx? (·.1)=none:=by rfl):PG X (.Tuple es k pos) (gLst X.K n t):=by
 intro pins s σ H v u Q I r hw;obtain⟨a,xs,e1,hq,hl,hw⟩:=hw;subst e1
 cases r
 obtain⟨its,rv,ht,hz⟩:=I.list hq;refine zc1 (I.ok.hd hc) ht.isList (by simp[hn,<- hl,rv.length]) hst λh' hx=>?_
 have I1:Inv X pins σ H { s with heap:=h' }:=I.kept (t':=s.toks) λb o e=>hx b o (AI (Av e)) e
 exact h pins _ σ H xs _ Q I1 (by simpa using rv) hw
noncomputable def CDivB(i j:Int):Prop:=0<j/\j.natAbs.log2<9000
theorem zjP:OpR X (Dl .FloorDiv) (rI CDivB λi j=>.int (i / j)):=opI λi j _ _ _ _ _ hc q=>by have e:i.fdiv j=i / j:=Int.fdiv_eq_ediv_of_nonneg i (Int.le_of_lt hc.1);rw[<- e]at q;exact floordiv_int (by have:=hc.1;lia) q (.inl (PyProof.noPylong_of_log2 hc.2))
end
section
variable {X:Cx}
theorem ze6:CallR X (.builtin "isinstance") (λxs H Q=>∃x T t b,xs=[x,.ty T]/\TyOf X.K H x t/\W.kitOne X.K t (.type T)=some b/\Q (.bl b) H):=by
 intro pins s σ H xs us Q I r h;obtain⟨x,T,t,b,rfl,ty,e,q⟩:=h;obtain⟨u,w',rfl,ru,rw'⟩:=vals2 r
 cases (show w'=Value.type T from rw')
 exact ziY I ru ty e λtk=>⟨.bl b,H,I.tok tk,rfl,q⟩
theorem zfG (K:W.Frag):W.kitOne K (.type "int") (.type "bool")=some false:=by rfl
theorem zg1(K:W.Frag)(T:String):W.kitOne K (.type T) (.type T)=some true:=by unfold W.kitOne;rw[if_pos (by simp)]
end
end L2
namespace HT
open PySem PyProof.Rows
section
open PySem.SeqAt
open PySem.AutoSeq1 (wpAny_loadPart')
open PySem.MeetsSeq PySem.MeetsSeq2 PySem.MeetsSeq3
end
section
variable {prog:AH}{w:A4}{A:AJ}{E:Ac->Ae->Prop}{s:Ae}
end
end HT
namespace L2
open PySem PySem.Spec PyProof.Rows
section
variable {X:Cx}
end
section
variable {X:Cx}
end
section
variable {X:Cx}{k:Nat}{f:Addr}{fd:BC}{ps:List Str}{sp:Sp}{pins:List (Addr×Obj)}{σ:St}
theorem zid{H:Hp}{s:Ae}{Q:VK}{us:List Ac}{vs:List V}{E:Ac -> Ae -> Prop}(F:FnOk X.prog X.w X.K X.mg X.base CX0 k f fd ps sp)(hr:Room (k + 1) X.A)(hb:Binds X.K fd ps [])
  (I:Inv X pins σ H s) (r:Vals vs us) (h:sp vs H Q E0):Ao (Ax X.prog X.w) X.A.in1 (call (.ref f) us) (EP X pins σ Q) E s:=by
 have hl:(us++[]).length=ps.length:=by rw[A0,<- r.length];exact F.len _ _ _ _ h
 have hb':=hb s us I.kIn hl;rw[A0]at hb';refine wpAny_call (CD (F.run X.A.in1 X.stack s H ⟨us,[]⟩ us vs Q E0 hr.in1 I.env0.in1 hb' r h) λr s' hq=>?_)
 cases r with
 |error e=>exact Bk hq
 |ok fl =>
  cases fl with
  |ret u=>exact I.after hq
  |next=>exact Bk hq
  |brk=>exact Bk hq
  |cont=>exact Bk hq
theorem Inv.moved{H:Hp}{s:Ae}{b:Addr}{h':Heap}{t':Nat}(I:Inv X pins σ H s)(fb:FpOk X pins H b)(hk:∀c o,c ∉ [b]->s.heap.get? c=some o->h'.get? c=some o):Inv X pins σ H { s with heap:=h',toks:=t' } :=
 I.turned (λc o hc e=>hk c o (λz=>hc (Ap.mp z)) e) fb.1 fb.2.1 fb.2.2.2.1 fb.2.2.2.2.1 fb.2.2.2.2.2
theorem FpOk.again{H H':Hp}{b:Addr}(fb:FpOk X pins H b)(hn:H' b=none):FpOk X pins H' b:=⟨hn,fb.2⟩
structure MK (X:Cx) (pins:List (Addr×Obj)) (σ:St) (H:Hp) (s:Ae) (it st l:Addr) (j:Nat) (vb kb:Ac):Prop where
 inv:Inv X pins σ H s
 fi:FpOk X pins H it
 fs:FpOk X pins H st
 ne:st≠it
 iter:s.heap.IsListIter it l j
 hold:∃c,s.heap.get? st=some (Bg "list" #[vb,kb] c)
noncomputable def Least(κ:Nat->List Int)(n i:Nat):Prop:=∀j,j<n->HT.lexLt (κ j) (κ i)=false/\(j<i->HT.lexLt (κ i) (κ j)=true)
end
end L2
namespace HT
theorem lexLt_irrefl:∀a:List Int,lexLt a a=false
 |[]=>rfl
 |x::r=>by rw[lexLt_cons,if_pos rfl];exact lexLt_irrefl r
theorem lexLt_trans:∀{a b c:List Int},lexLt a b=true->lexLt b c=true->lexLt a c=true
 |[],[],_,h,_=>by cases h
 |[],_::_,[],_,h=>by cases h
 |[],_::_,_::_,_,_=>rfl
 |_::_,[],_,h,_=>by cases h
 |_::_,_::_,[],_,h=>by cases h
 |x::a,y::b,z::c,h,g=>by
  rw[lexLt_cons]at h g ⊢
  by_cases e1:x=y
  .subst e1;rw[if_pos rfl]at h
   by_cases e2:x=z
   .subst e2;rw[if_pos rfl]at g ⊢;exact lexLt_trans h g
   .rw[if_neg e2]at g ⊢;exact g
  .rw[if_neg e1]at h;have h':x<y:=by simpa using h
   by_cases e2:y=z
   .subst e2;rw[if_neg e1];exact h
   .rw[if_neg e2]at g;have g':y<z:=by simpa using g
    rw[if_neg (by lia)];exact decide_eq_true (by lia)
theorem lexLt_total:∀{a b:List Int},lexLt a b=false->lexLt b a=false->a=b
 |[],[],_,_=>rfl
 |[],_::_,h,_=>by cases h
 |_::_,[],_,h=>by cases h
 |x::a,y::b,h,g=>by
  rw[lexLt_cons]at h g
  by_cases e:x=y
  .subst e;rw[if_pos rfl]at h g;rw[lexLt_total h g]
  .rw[if_neg e]at h;rw[if_neg (BX e)]at g;have h':¬ x<y:=by simpa using h
   have g':¬ y<x:=by simpa using g
   lia
theorem lexLt_of_not_lt_lt{a b c:List Int}(h:lexLt b a=false)(g:lexLt b c=true):lexLt a c=true:=by
 cases e:lexLt a b with
 |true=>exact lexLt_trans e g
 |false=>rw[lexLt_total e h];exact g
theorem lexLt_asym{a b:List Int}(h:lexLt a b=true):lexLt b a=false:=by
 cases e:lexLt b a with
 |false=>rfl
 |true=>have:=lexLt_trans h e;rw[lexLt_irrefl]at this;cases this
end HT
namespace L2
open PySem PySem.Spec PyProof.Rows
section
variable {X:Cx}{k:Nat}{f:Addr}{fd:BC}{ps:List Str}{sp:Sp}{pins:List (Addr×Obj)}{σ:St}{H0:Hp}{Q:VK}{l it st:Addr}{xs:List V}{κ:Nat->List Int}
noncomputable def MKR(X:Cx)(pins:List (Addr×Obj))(σ:St)(Q:VK):Result->Ae->Prop:=λr s'=>match r with
 |.ok (.ret v)=>EP X pins σ Q v s'
 |.ok _=>False
 |.error e=>X.xe e s'
theorem zbx {xs:Array Ac}{c:Nat}:∀v,(Bg "list" xs c).data≠.cell v:=λv h=>by cases h
theorem zbV{h:Heap}{it l:Addr}{j:Nat}(hi:h.IsListIter it l j):∃o,h.get? it=some o/\∀v,o.data≠.cell v:=by obtain⟨o,ho,_,hd⟩:=hi;exact⟨o,ho,λv z=>by rw[hd]at z;cases z⟩
theorem zjz{H:Hp}{s:Ae}{Q1:VK}{u:Ac}{x:V}{E:Ac -> Ae -> Prop}{j:Nat}{vb kb:Ac}(F:FnOk X.prog X.w X.K X.mg X.base CX0 k f fd ps sp)(hr:Room (k + 1) X.A)(hb:Binds X.K fd ps [])
    (M:MK X pins σ H s it st l j vb kb) (r:RelV x u) (h:sp [x] H Q1 E0):Ao (Ax X.prog X.w) X.A.in1 (call (.ref f) [u]) (λv s'=>∃y H',RelV y v/\Q1 y H'/\MK X pins σ H' s' it st l j vb kb) E s:=by
  obtain⟨c,hc⟩:=M.hold;obtain⟨oi,hoi,ci,di⟩:=id M.iter
  have I1:Inv X (pins ++ zcu [it, st] s.heap) σ H s := M.inv.pinned (λb hb => by
      rcases Aw.mp hb with rfl |hb
      . exact M.fi
      . rw[Ap.mp hb];exact M.fs) (λb hb=>by
      rcases Aw.mp hb with rfl |hb
      . exact zbV M.iter
      . rw[Ap.mp hb];exact⟨_,hc,zbx⟩)
  refine Bs (zid F hr hb I1 (.cons r .nil) h) (λv s' hv=>?_) λ_ _ e=>e
  obtain⟨y,H',I2,ry,q⟩:=hv;have p1:=I2.pin (it,oi) (Am _ (Am _ (zay (by simp) hoi)));have p2:=I2.pin (st,Bg "list" #[vb,kb] c) (Am _ (Am _ (zay (by simp) hc)));exact⟨y,H',ry,q,I2.unpinned,M.fi.again p1.2.1,M.fs.again p2.2.1,M.ne,⟨oi,p1.1,ci,di⟩,c,p2.1⟩
theorem ziI{H:Hp}{s:Ae}{a b:Addr}{ns ms:List Int}{E:Ac -> Ae -> Prop}{Q1:Ac -> Ae -> Prop}(hu:X.A.units + 1 < cLine)(I:Inv X pins σ H s)(ha:SqT X.K H a (ns.map V.int))(hb:SqT X.K H b (ms.map V.int))(q:Q1 (.bool (HT.lexLt ns ms)) s) :
  Ao (Ax X.prog X.w) X.A.in1 (richCompare .Lt (.ref a) (.ref b)) Q1 E s:=by
 obtain⟨its,r1,p1,_⟩:=I.tuple ha;obtain⟨its2,r2,p2,_⟩:=I.tuple hb;exact (HT.lt_tupInts p1 p2 (zek r1) (zek r2) hu q:Ao (Ax X.prog X.w) X.A.in1 (BV .Lt (.ref a) (.ref b)) Q1 E s)
theorem MK.set{H:Hp}{s:Ae}{j:Nat}{vb kb v kv:Ac}(M:MK X pins σ H s it st l j vb kb):MK X pins σ H { s with heap:=s.heap.update st (AR λ_=>#[v,kv]) } it st l j v kv:=by obtain⟨c,hc⟩:=M.hold;have sb:=Br s.heap st (AR λ_=>#[v,kv]);obtain⟨oi,hoi,ci,di⟩:=id M.iter;exact⟨M.inv.moved (t':=s.toks) M.fs (λb o hb e=>(sb.2 b λz=>hb (by simp[z])).trans e),M.fi,M.fs,M.ne,⟨oi,(sb.2 it M.ne.symm).trans hoi,ci,di⟩,_,DK hc λ_=>#[v,kv]⟩
theorem Least.next{n i:Nat}(h:Least κ n i)(e:HT.lexLt (κ n) (κ i)=false)(hi:i<n):Least κ (n+1) i:=λj hj=>by
 by_cases z:j=n
 .subst z;exact⟨e,λq=>absurd q (by lia)⟩
 .exact h j (by lia)
theorem Least.take{n i:Nat}(h:Least κ n i)(e:HT.lexLt (κ n) (κ i)=true)(hi:i<n):Least κ (n+1) n:=λj hj=>by
 by_cases z:j=n
 .subst z;exact⟨HT.lexLt_irrefl _,λq=>absurd q (by lia)⟩
 .have g:=(h j (by lia)).1
  have t:HT.lexLt (κ n) (κ j)=true:=by
   cases q:HT.lexLt (κ i) (κ j) with
   |true=>exact HT.lexLt_trans e q
   |false=>rw[<- HT.lexLt_total q g];exact e
  exact⟨HT.lexLt_asym t,λ_=>t⟩
theorem Room.un1{n:Nat}{A:AJ}(r:Room n A):A.units+1<cLine:=by have:=r.units;lia
theorem Same.seqT{K:W.Frag}{H H':Hp}{a:Addr}{xs:List V}(e:Same H H')(h:SqT K H a xs):SqT K H' a xs:=by
 rcases h with (h |⟨o,h⟩) |h
 .exact .inl (.inl (e _ _ h))
 .exact .inl (.inr ⟨o,e _ _ h⟩)
 .exact .inr h
theorem ziC(hh:X.A.handled=none)(F:FnOk X.prog X.w X.K X.mg X.base CX0 k f fd ps sp)(hr:Room (k + 1) X.A)(hb:Binds X.K fd ps [])
  (turn:∀i x H,xs[i]?=some x->Same H0 H->sp [x] H (λv H'=>Same H H'/\∃a,v=.ref a/\SqT X.K H' a ((κ i).map V.int)) E0)
  (hl:SqL X.K H0 l xs) (hli:l≠it) (hQ:∀i x H',xs[i]?=some x->Least κ xs.length i->Same H0 H'->Q x H') :
  ∀(r j i:Nat) (H:Hp) (s:Ae) (vb:Ac) (xb:V) (b:Addr),xs.length-(j+1)=r->j+1<=xs.length->Same H0 H->MK X pins σ H s it st l (j+1) vb (.ref b)->xs[i]?=some xb->RelV xb vb->SqT X.K H b ((κ i).map V.int)->i<=j->Least κ (j+1) i ->
   CU (Ax X.prog X.w) X.A (.builtin "min.loop" ⟨[.ref it,.ref f,.ref st],[]⟩) (MKR X pins σ Q) s:=by
 have nm:(CQ "min" ++ CQ ".loop" : String) = "min.loop":=by decide
 intro r
 induction r with
 |zero =>
  intro j i H s vb xb b hr0 hj hS M hxb rb kb' hij best;have hend:j+1=xs.length:=by lia
  obtain⟨its,rv,pl,hz⟩:=M.inv.list (hS.seq hl);have hlen:its.length=xs.length:=rv.length.symm;have W:=Dr (prog:=X.prog) (w:=X.w) (A:=X.A.in1) hh it l hli its.toArray;obtain⟨c,hc⟩:=M.hold;refine Ca B7 ?_
  rw[Bz AU _];show Ao _ X.A.in1 (DS (.ref st) >>= _) _ _ _;refine Ab (Cn hc rfl ?_);show Ao _ X.A.in1 (Cw (Dy (.ref it)) _ >>= _) _ _ _;refine Ab (Bi (W.done _ _ _ ⟨by rw[An,hlen,<- hend];exact M.iter,pl.isList⟩ λh1 tk1 hk1=>?_));have I1:=M.inv.moved (t':=tk1) M.fi hk1;have hc1:=hk1 st _ (by simpa using M.ne) hc;have sb:=Br h1 st (AR λ_=>(#[]:Array Ac));show Ao _ X.A.in1 (updateSeq st (λ_=>#[]) >>= _) _ _ _;refine Ab ?_
  refine Cb hc1 rfl (Ab (Cc (Ah ?_)));have I2:Inv X pins σ H { s with heap:=h1.update st (AR λ_=>(#[]:Array Ac)),toks:=tk1 }:=I1.moved (s:={ s with heap:=h1,toks:=tk1 }) (t':=tk1) M.fs (λb o hb e=>(sb.2 b λz=>hb (by simp[z])).trans e);exact⟨xb,H,I2,rb,hQ i xb H hxb (by rw[<- hend];exact best) hS⟩
 |succ r ih =>
  intro j i H s vb xb b hr0 hj hS M hxb rb kb' hij best;have hlt:j+1<xs.length:=by lia
  obtain⟨its,rv,pl,hz⟩:=M.inv.list (hS.seq hl);have hlen:its.length=xs.length:=rv.length.symm;have W:=Dr (prog:=X.prog) (w:=X.w) (A:=X.A.in1) hh it l hli its.toArray;obtain⟨c,hc⟩:=M.hold;refine Ca B7 ?_
  rw[Bz AU _];show Ao _ X.A.in1 (DS (.ref st) >>= _) _ _ _;refine Ab (Cn hc rfl ?_);show Ao _ X.A.in1 (Cw (Dy (.ref it)) _ >>= _) _ _ _;refine Ab (Bi (W.item (j+1) _ _ _ (by rw[An,hlen];exact hlt) ⟨M.iter,pl.isList⟩ λv h1 tk1 hP hst1 hk1=>?_));have hv:its[j+1]?=some v:=by simpa using hP
  obtain⟨x,hx⟩:∃x,xs[j+1]?=some x:=⟨_,Aa hlt⟩;obtain⟨v',hv',rx⟩:=rv.get hx;rw[hv]at hv'
  cases hv'
  have M1:MK X pins σ H { s with heap:=h1,toks:=tk1 } it st l (j+1+1) vb (.ref b):=⟨M.inv.moved (t':=tk1) M.fi hk1,M.fi,M.fs,M.ne,hst1.1,c,hk1 st _ (by simpa using M.ne) hc⟩;show Ao _ X.A.in1 (Cw (holding [v] (call (.ref f) [v])) _ >>= _) _ _ _;refine Ab (Bi (A1 (Bs (zjz F hr hb M1 rx (turn (j+1) x H hx hS) (E:=λ_ _=>False)) (λkv s2 he=>?_) λ_ _ hF=>hF.elim)));obtain⟨y,H2,ry,⟨hS2,a2,ey,ka2⟩,M2⟩:=he;subst ey
  cases (show kv=Ar a2 from ry)
  have hS3:=hS.trans hS2;have kb2:SqT X.K H2 b ((κ i).map V.int):=hS2.seqT kb';show Ao _ X.A.in1 (Cw (holding [v,.ref a2] (richCompare .Lt (.ref a2) (.ref b) >>= _)) _ >>= _) _ _ _;refine Ab (Bi (A1 (Ab (ziI hr.un1 M2.inv ka2 kb2 ?_))));refine Ab (A1 (BP ?_));refine Ab (Cc (Ah ?_));obtain⟨c2,hc2⟩:=M2.hold
  by_cases hbt:HT.lexLt (κ (j+1)) (κ i)=true
  .simp only[hbt,if_true];refine Ab ?_
   refine Cb hc2 rfl (Ab (Cc ?_));rw[nm];exact Ah ⟨BK AU _,ih (j+1) (j+1) H2 _ v _ a2 (by lia) hlt hS3 M2.set hx rx ka2 (Ai _) (best.take hbt (by lia))⟩
  .have hbf:HT.lexLt (κ (j+1)) (κ i)=false:=by simpa using hbt
   simp only[hbf,Bu,if_false];refine Ab (Cc ?_);rw[nm];exact Ah ⟨BK AU _,ih (j+1) i H2 _ vb _ b (by lia) hlt hS3 M2 hxb rb kb2 (by lia) (best.next hbf (by lia))⟩
theorem ziB(hh:X.A.handled=none)(hu:X.A.units + 1 < cLine)
  (turn:∀i x,xs[i]?=some x->∃a,x=.ref a/\SqT X.K H0 a ((κ i).map V.int))
  (hl:SqL X.K H0 l xs) (hli:l≠it) (hQ:∀i x H',xs[i]?=some x->Least κ xs.length i->Same H0 H'->Q x H') :
  ∀(r j i:Nat) (H:Hp) (s:Ae) (vb:Ac) (xb:V) (b:Addr),xs.length-(j+1)=r->j+1<=xs.length->Same H0 H->MK X pins σ H s it st l (j+1) vb (.ref b)->xs[i]?=some xb->RelV xb vb->SqT X.K H b ((κ i).map V.int)->i<=j->Least κ (j+1) i ->
   CU (Ax X.prog X.w) X.A (.builtin "min.loop" ⟨[.ref it,.none,.ref st],[]⟩) (MKR X pins σ Q) s:=by
 have nm:(CQ "min" ++ CQ ".loop" : String) = "min.loop":=by decide
 intro r
 induction r with
 |zero =>
  intro j i H s vb xb b hr0 hj hS M hxb rb kb' hij best;have hend:j+1=xs.length:=by lia
  obtain⟨its,rv,pl,hz⟩:=M.inv.list (hS.seq hl);have hlen:its.length=xs.length:=rv.length.symm;have W:=Dr (prog:=X.prog) (w:=X.w) (A:=X.A.in1) hh it l hli its.toArray;obtain⟨c,hc⟩:=M.hold;refine Ca B7 ?_
  rw[Bz AU _];show Ao _ X.A.in1 (DS (.ref st) >>= _) _ _ _;refine Ab (Cn hc rfl ?_);show Ao _ X.A.in1 (Cw (Dy (.ref it)) _ >>= _) _ _ _;refine Ab (Bi (W.done _ _ _ ⟨by rw[An,hlen,<- hend];exact M.iter,pl.isList⟩ λh1 tk1 hk1=>?_));have I1:=M.inv.moved (t':=tk1) M.fi hk1;have hc1:=hk1 st _ (by simpa using M.ne) hc;have sb:=Br h1 st (AR λ_=>(#[]:Array Ac));show Ao _ X.A.in1 (updateSeq st (λ_=>#[]) >>= _) _ _ _;refine Ab ?_
  refine Cb hc1 rfl (Ab (Cc (Ah ?_)));have I2:Inv X pins σ H { s with heap:=h1.update st (AR λ_=>(#[]:Array Ac)),toks:=tk1 }:=I1.moved (s:={ s with heap:=h1,toks:=tk1 }) (t':=tk1) M.fs (λb o hb e=>(sb.2 b λz=>hb (by simp[z])).trans e);exact⟨xb,H,I2,rb,hQ i xb H hxb (by rw[<- hend];exact best) hS⟩
 |succ r ih =>
  intro j i H s vb xb b hr0 hj hS M hxb rb kb' hij best;have hlt:j+1<xs.length:=by lia
  obtain⟨its,rv,pl,hz⟩:=M.inv.list (hS.seq hl);have hlen:its.length=xs.length:=rv.length.symm;have W:=Dr (prog:=X.prog) (w:=X.w) (A:=X.A.in1) hh it l hli its.toArray;obtain⟨c,hc⟩:=M.hold;refine Ca B7 ?_
  rw[Bz AU _];show Ao _ X.A.in1 (DS (.ref st) >>= _) _ _ _;refine Ab (Cn hc rfl ?_);show Ao _ X.A.in1 (Cw (Dy (.ref it)) _ >>= _) _ _ _;refine Ab (Bi (W.item (j+1) _ _ _ (by rw[An,hlen];exact hlt) ⟨M.iter,pl.isList⟩ λv h1 tk1 hP hst1 hk1=>?_));have hv:its[j+1]?=some v:=by simpa using hP
  obtain⟨x,hx⟩:∃x,xs[j+1]?=some x:=⟨_,Aa hlt⟩;obtain⟨v',hv',rx⟩:=rv.get hx;rw[hv]at hv'
  cases hv'
  have M1:MK X pins σ H { s with heap:=h1,toks:=tk1 } it st l (j+1+1) vb (.ref b):=⟨M.inv.moved (t':=tk1) M.fi hk1,M.fi,M.fs,M.ne,hst1.1,c,hk1 st _ (by simpa using M.ne) hc⟩;obtain⟨a2,ex,ka2'⟩:=turn (j+1) x hx;subst ex
  cases (show v=Ar a2 from rx)
  have hS3:=hS;have M2:=M1;have ka2:SqT X.K H a2 ((κ (j+1)).map V.int):=hS.seqT ka2';have kb2:=kb';show Ao _ X.A.in1 (pure (Ar a2) >>= _) _ _ _;refine Ab (Ah ?_);show Ao _ X.A.in1 (Cw (holding [.ref a2,.ref a2] (richCompare .Lt (.ref a2) (.ref b) >>= _)) _ >>= _) _ _ _;refine Ab (Bi (A1 (Ab (ziI hu M2.inv ka2 kb2 ?_))));refine Ab (A1 (BP ?_));refine Ab (Cc (Ah ?_));obtain⟨c2,hc2⟩:=M2.hold
  by_cases hbt:HT.lexLt (κ (j+1)) (κ i)=true
  .simp only[hbt,if_true];refine Ab ?_
   refine Cb hc2 rfl (Ab (Cc ?_));rw[nm];exact Ah ⟨BK AU _,ih (j+1) (j+1) H _ (.ref a2) _ a2 (by lia) hlt hS3 M2.set hx rx ka2 (Ai _) (best.take hbt (by lia))⟩
  .have hbf:HT.lexLt (κ (j+1)) (κ i)=false:=by simpa using hbt
   simp only[hbf,Bu,if_false];refine Ab (Cc ?_);rw[nm];exact Ah ⟨BK AU _,ih (j+1) i H _ vb _ b (by lia) hlt hS3 M2 hxb rb kb2 (by lia) (best.next hbf (by lia))⟩
end
theorem ziE (a:Ac):argsOk "min" ⟨[a],[]⟩:=by unfold argsOk;kernel_rfl
section
variable {X:Cx}{k:Nat}{f:Addr}{fd:BC}{ps:List Str}{sp:Sp}{pins:List (Addr×Obj)}{σ:St}{H0:Hp}{Q:VK}{l it st:Addr}{xs:List V}{κ:Nat->List Int}
structure MK0 (X:Cx) (pins:List (Addr×Obj)) (σ:St) (H:Hp) (s:Ae) (it st l:Addr) (j:Nat):Prop where
 inv:Inv X pins σ H s
 fi:FpOk X pins H it
 fs:FpOk X pins H st
 ne:st≠it
 iter:s.heap.IsListIter it l j
 hold:∃c,s.heap.get? st=some (Bg "list" #[] c)
theorem zif{H:Hp}{s:Ae}{Q1:VK}{u:Ac}{x:V}{E:Ac -> Ae -> Prop}{j:Nat}(F:FnOk X.prog X.w X.K X.mg X.base CX0 k f fd ps sp)(hr:Room (k + 1) X.A)(hb:Binds X.K fd ps [])
    (M:MK0 X pins σ H s it st l j) (r:RelV x u) (h:sp [x] H Q1 E0):Ao (Ax X.prog X.w) X.A.in1 (call (.ref f) [u]) (λv s'=>∃y H',RelV y v/\Q1 y H'/\MK0 X pins σ H' s' it st l j) E s:=by
  obtain⟨c,hc⟩:=M.hold;obtain⟨oi,hoi,ci,di⟩:=id M.iter
  have I1:Inv X (pins ++ zcu [it, st] s.heap) σ H s := M.inv.pinned (λb hb => by
      rcases Aw.mp hb with rfl |hb
      . exact M.fi
      . rw[Ap.mp hb];exact M.fs) (λb hb=>by
      rcases Aw.mp hb with rfl |hb
      . exact zbV M.iter
      . rw[Ap.mp hb];exact⟨_,hc,zbx⟩)
  refine Bs (zid F hr hb I1 (.cons r .nil) h) (λv s' hv=>?_) λ_ _ e=>e
  obtain⟨y,H',I2,ry,q⟩:=hv;have p1:=I2.pin (it,oi) (Am _ (Am _ (zay (by simp) hoi)));have p2:=I2.pin (st,Bg "list" #[] c) (Am _ (Am _ (zay (by simp) hc)));exact⟨y,H',ry,q,I2.unpinned,M.fi.again p1.2.1,M.fs.again p2.2.1,M.ne,⟨oi,p1.1,ci,di⟩,c,p2.1⟩
theorem MK0.set{H:Hp}{s:Ae}{j:Nat}{v kv:Ac}(M:MK0 X pins σ H s it st l j):MK X pins σ H { s with heap:=s.heap.update st (AR λ_=>#[v,kv]) } it st l j v kv:=by obtain⟨c,hc⟩:=M.hold;have sb:=Br s.heap st (AR λ_=>#[v,kv]);obtain⟨oi,hoi,ci,di⟩:=id M.iter;exact⟨M.inv.moved (t':=s.toks) M.fs (λb o hb e=>(sb.2 b λz=>hb (by simp[z])).trans e),M.fi,M.fs,M.ne,⟨oi,(sb.2 it M.ne.symm).trans hoi,ci,di⟩,_,DK hc λ_=>#[v,kv]⟩
theorem zji{s:Ae}(hh:X.A.handled=none)(F:FnOk X.prog X.w X.K X.mg X.base CX0 k f fd ps sp)(hr:Room (k + 1) X.A)(hb:Binds X.K fd ps [])
  (turn:∀i x H,xs[i]?=some x->Same H0 H->sp [x] H (λv H'=>Same H H'/\∃a,v=.ref a/\SqT X.K H' a ((κ i).map V.int)) E0)
  (hl:SqL X.K H0 l xs) (hne:0<xs.length) (hQ:∀i x H',xs[i]?=some x->Least κ xs.length i->Same H0 H'->Q x H') (I:Inv X pins σ H0 s) :
  Ao (Ax X.prog X.w) X.A (call (.builtin "min") [.ref l] [(Bd "key",.ref f)]) (EP X pins σ Q) X.xe s:=by
 have nm:(CQ "min" ++ CQ ".loop" : String) = "min.loop":=by decide
 obtain⟨its,rv,pl,hz⟩:=I.list hl;have hlen:its.length=xs.length:=rv.length.symm;have hll:l<s.heap.objs.size:=by obtain⟨o,ho,_⟩:=pl.isList;exact Av ho
 refine kmk_tree PySem.F.kind_min PySem.F.plain_min PySem.F.entry_min (kmk_min_key _ _) ?_
 show Ao _ X.A.in1 (Bl "min" ["key","default"] 0 ⟨[],[(Bd "key",.ref f)]⟩ >>= _) _ _ s;refine Ab (wpAny_of_eq (show Bl "min" ["key","default"] 0 ⟨[],[(Bd "key",.ref f)]⟩=pure [some (.ref f),none] from rfl) ?_);refine Ab (Ah ?_);refine Ab (Dg pl.isList ?_);refine Ab (wpAny_newList ?_ (AZ _));rw[nm];refine Ah ⟨BK AU _,?_⟩;have keep:∀b o,s.heap.get? b=some o->((s.heap.push { cls:=.type "list_iterator",data:=.fields #[.ref l,.int 0 0] }).push (Bg "list" #[] 0)).get? b=some o:=λb o e=>Af _ (Af _ e)
 have gi:((s.heap.push { cls:=.type "list_iterator",data:=.fields #[.ref l,.int 0 0] }).push (Bg "list" #[] 0)).get? s.heap.objs.size=some { cls:=.type "list_iterator",data:=.fields #[.ref l,.int 0 0] }:=Af _ (Aq _ rfl);have hsS:(s.heap.push { cls:=.type "list_iterator",data:=.fields #[.ref l,.int 0 0] }).objs.size=s.heap.objs.size+1:=size_push' ..;have gs:((s.heap.push { cls:=.type "list_iterator",data:=.fields #[.ref l,.int 0 0] }).push (Bg "list" #[] 0)).get? (s.heap.objs.size+1)=some (Bg "list" #[] 0):=by rw[<- hsS];exact Aq _ rfl
 rw[hsS];have I1:Inv X pins σ H0 { s with heap:=(s.heap.push { cls:=.type "list_iterator",data:=.fields #[.ref l,.int 0 0] }).push (Bg "list" #[] 0) }:=I.kept (t':=s.toks) keep;have fi:FpOk X pins H0 s.heap.objs.size:=I.fpOk (Ai _) (I.hok.fresh (Ai _));have fs:FpOk X pins H0 (s.heap.objs.size+1):=I.fpOk (Cd _) (I.hok.fresh (Cd _));have M0:MK0 X pins σ H0 _ s.heap.objs.size (s.heap.objs.size+1) l 0:=⟨I1,fi,fs,B4 (Nat.lt_succ_self _),⟨_,gi,rfl,rfl⟩,⟨0,gs⟩⟩;have hli:l≠s.heap.objs.size:=AI hll;have W:=Dr (prog:=X.prog) (w:=X.w) (A:=X.A.in1) hh s.heap.objs.size l hli its.toArray;refine Ca B7 ?_
 rw[Bz AU _];show Ao _ X.A.in1 (DS (.ref _) >>= _) _ _ _;refine Ab (Cn gs rfl ?_);show Ao _ X.A.in1 (Cw (Dy (.ref s.heap.objs.size)) _ >>= _) _ _ _;obtain⟨its2,rv2,pl2,_⟩:=I1.list hl;refine Ab (Bi (W.item 0 _ _ _ (by rw[An,hlen];exact hne) ⟨M0.iter,pl.isList.at λo e=>keep _ _ e⟩ λv h1 tk1 hP hst1 hk1=>?_));have hv:its[0]?=some v:=by simpa using hP
 obtain⟨x,hx⟩:∃x,xs[0]?=some x:=⟨_,Aa hne⟩;obtain⟨v',hv',rx⟩:=rv.get hx;rw[hv]at hv'
 cases hv'
 have M1:MK0 X pins σ H0 { s with heap:=h1,toks:=tk1 } s.heap.objs.size (s.heap.objs.size+1) l 1:=⟨I1.moved (t':=tk1) fi hk1,fi,fs,M0.ne,hst1.1,0,hk1 _ _ (by simp) gs⟩;show Ao _ X.A.in1 (Cw (holding [v] (call (.ref f) [v])) _ >>= _) _ _ _;refine Ab (Bi (A1 (Bs (zif F hr hb M1 rx (turn 0 x H0 hx (Same.refl _)) (E:=λ_ _=>False)) (λkv s2 he=>?_) λ_ _ hF=>hF.elim)));obtain⟨y,H2,ry,⟨hS2,a2,ey,ka2⟩,M2⟩:=he;subst ey
 cases (show kv=Ar a2 from ry)
 obtain⟨c2,hc2⟩:=M2.hold;show Ao _ X.A.in1 (updateSeq (s.heap.objs.size+1) (λ_=>#[v,.ref a2]) >>= _) _ _ _;refine Ab ?_
 refine Cb hc2 rfl ?_
 rw[nm];refine Ah ⟨BK AU _,?_⟩
 exact CD (ziC hh F hr hb turn hl hli hQ _ 0 0 H2 _ v _ a2 rfl hne hS2 M2.set hx rx ka2 (Ai _) (λj hj=>by
  have e:j=0:=by lia
  subst e;exact⟨HT.lexLt_irrefl _,λz=>absurd z (BY _)⟩)) λr s' hr'=>hr'
theorem zjg{s:Ae}(hh:X.A.handled=none)(hu:X.A.units + 1 < cLine)
  (turn:∀i x,xs[i]?=some x->∃a,x=.ref a/\SqT X.K H0 a ((κ i).map V.int))
  (hl:SqL X.K H0 l xs) (hne:0<xs.length) (hQ:∀i x H',xs[i]?=some x->Least κ xs.length i->Same H0 H'->Q x H') (I:Inv X pins σ H0 s) :
  Ao (Ax X.prog X.w) X.A (call (.builtin "min") [.ref l] []) (EP X pins σ Q) X.xe s:=by
 have nm:(CQ "min" ++ CQ ".loop" : String) = "min.loop":=by decide
 obtain⟨its,rv,pl,hz⟩:=I.list hl;have hlen:its.length=xs.length:=rv.length.symm;have hll:l<s.heap.objs.size:=by obtain⟨o,ho,_⟩:=pl.isList;exact Av ho
 refine kmk_tree PySem.F.kind_min PySem.F.plain_min PySem.F.entry_min (ziE _) ?_
 show Ao _ X.A.in1 (Bl "min" ["key","default"] 0 ⟨[],[]⟩ >>= _) _ _ s;refine Ab (wpAny_of_eq (show Bl "min" ["key","default"] 0 ⟨[],[]⟩=pure [none,none] from rfl) ?_);refine Ab (Ah ?_);refine Ab (Dg pl.isList ?_);refine Ab (wpAny_newList ?_ (AZ _));rw[nm];refine Ah ⟨BK AU _,?_⟩;have keep:∀b o,s.heap.get? b=some o->((s.heap.push { cls:=.type "list_iterator",data:=.fields #[.ref l,.int 0 0] }).push (Bg "list" #[] 0)).get? b=some o:=λb o e=>Af _ (Af _ e)
 have gi:((s.heap.push { cls:=.type "list_iterator",data:=.fields #[.ref l,.int 0 0] }).push (Bg "list" #[] 0)).get? s.heap.objs.size=some { cls:=.type "list_iterator",data:=.fields #[.ref l,.int 0 0] }:=Af _ (Aq _ rfl);have hsS:(s.heap.push { cls:=.type "list_iterator",data:=.fields #[.ref l,.int 0 0] }).objs.size=s.heap.objs.size+1:=size_push' ..;have gs:((s.heap.push { cls:=.type "list_iterator",data:=.fields #[.ref l,.int 0 0] }).push (Bg "list" #[] 0)).get? (s.heap.objs.size+1)=some (Bg "list" #[] 0):=by rw[<- hsS];exact Aq _ rfl
 rw[hsS];have I1:Inv X pins σ H0 { s with heap:=(s.heap.push { cls:=.type "list_iterator",data:=.fields #[.ref l,.int 0 0] }).push (Bg "list" #[] 0) }:=I.kept (t':=s.toks) keep;have fi:FpOk X pins H0 s.heap.objs.size:=I.fpOk (Ai _) (I.hok.fresh (Ai _));have fs:FpOk X pins H0 (s.heap.objs.size+1):=I.fpOk (Cd _) (I.hok.fresh (Cd _));have M0:MK0 X pins σ H0 _ s.heap.objs.size (s.heap.objs.size+1) l 0:=⟨I1,fi,fs,B4 (Nat.lt_succ_self _),⟨_,gi,rfl,rfl⟩,⟨0,gs⟩⟩;have hli:l≠s.heap.objs.size:=AI hll;have W:=Dr (prog:=X.prog) (w:=X.w) (A:=X.A.in1) hh s.heap.objs.size l hli its.toArray;refine Ca B7 ?_
 rw[Bz AU _];show Ao _ X.A.in1 (DS (.ref _) >>= _) _ _ _;refine Ab (Cn gs rfl ?_);show Ao _ X.A.in1 (Cw (Dy (.ref s.heap.objs.size)) _ >>= _) _ _ _;obtain⟨its2,rv2,pl2,_⟩:=I1.list hl;refine Ab (Bi (W.item 0 _ _ _ (by rw[An,hlen];exact hne) ⟨M0.iter,pl.isList.at λo e=>keep _ _ e⟩ λv h1 tk1 hP hst1 hk1=>?_));have hv:its[0]?=some v:=by simpa using hP
 obtain⟨x,hx⟩:∃x,xs[0]?=some x:=⟨_,Aa hne⟩;obtain⟨v',hv',rx⟩:=rv.get hx;rw[hv]at hv'
 cases hv'
 have M1:MK0 X pins σ H0 { s with heap:=h1,toks:=tk1 } s.heap.objs.size (s.heap.objs.size+1) l 1:=⟨I1.moved (t':=tk1) fi hk1,fi,fs,M0.ne,hst1.1,0,hk1 _ _ (by simp) gs⟩;obtain⟨a2,ex,ka2⟩:=turn 0 x hx;subst ex
 cases (show v=Ar a2 from rx)
 have M2:=M1;show Ao _ X.A.in1 (pure (Ar a2) >>= _) _ _ _;refine Ab (Ah ?_);obtain⟨c2,hc2⟩:=M2.hold;show Ao _ X.A.in1 (updateSeq (s.heap.objs.size+1) (λ_=>#[(.ref a2),.ref a2]) >>= _) _ _ _;refine Ab ?_
 refine Cb hc2 rfl ?_
 rw[nm];refine Ah ⟨BK AU _,?_⟩
 exact CD (ziB hh hu turn hl hli hQ _ 0 0 H0 _ (.ref a2) _ a2 rfl hne (Same.refl _) M2.set hx rx ka2 (Ai _) (λj hj=>by
  have e:j=0:=by lia
  subst e;exact⟨HT.lexLt_irrefl _,λz=>absurd z (BY _)⟩)) λr s' hr'=>hr'
end
end L2
namespace RK
open PySem PySem.W PyProof.Rows
variable {n:Nat}{ans:Nat->Nat->Bool}
noncomputable def Pm(n:Nat)(p:Array Nat):Prop:=p.Perm (List.toArray (AG n))
inductive Col:Ac->Ac->Int->Int->Prop where
 |int (a:Int) (t:Tok) (b:Int) (u:Tok):Col (.int a t) (.int b u) a b
 |bl (p q:Bool):Col (.bool p) (.bool q) (b2i p) (b2i q)
inductive Cols:List Ac->List Ac->List Int->List Int->Prop where
 |nil:Cols [] [] [] []
 |cons {u v:Ac} {us vs:List Ac} {a b:Int} {as bs:List Int}:Col u v a b->Cols us vs as bs->Cols (u::us) (v::vs) (a::as) (b::bs)
section
variable {prog:AH}{w:A4}{A:AJ}{s:Ae}{Q:Bool->Ae->Prop}
theorem zky{u v:Ac}{a b:Int}(c:Col u v a b){E:Ac->Ae->Prop}(h:Q (decide (a=b)) s):Ao (Ax prog w) A (eqBool u v) Q E s:=by
 cases c with
 |int _ t _ u =>
  refine wpAny_eqBool_int ?_
  rw[show (a == b)=decide (a=b) from by rw[Bool.beq_eq_decide_eq]];exact h
 |bl p q =>
  refine SeqAt.EqAt.bool_bool p q prog w E Q ?_
  have e:(p == q)=decide (b2i p=b2i q):=by cases p <;> cases q <;> decide
  rw[e];exact h
theorem zl3{u v:Ac}{a b:Int}(c:Col u v a b){E:Ac->Ae->Prop}(h:Q (decide (a<b)) s):Ao (Ax prog w) A (oneLt' false u v) Q E s:=by
 cases c with
 |int _ t _ u=>exact kat_one _ _ (lt_int (show W.BoolBack Q (.bool (decide (a<b))) s from h))
 |bl p q=>exact kat_one _ _ (lt_bool (show W.BoolBack Q (.bool (decide (b2i p<b2i q))) s from h))
theorem zg2{bb:Bool}:∀{us vs:List Ac}{as bs:List Int}(i:Nat),Cols us vs as bs->Q (HT.lexLt as bs) s->KatLex prog w A bb false Q (us.zip vs) (i+1) s
 |_,_,_,_,_,.nil,h=>kat_nil h
 |_,_,_,_,i,.cons (a:=a) (b:=b) (as:=as) (bs:=bs) c r,h=>by
  rw[HT.lexLt_cons]at h;refine kat_cons (zky c ?_)
  by_cases e:a=b
  .rw[decide_eq_true e];rw[if_pos e]at h;exact kat_yes (zg2 (i+1) r h)
  .rw[decide_eq_false e];rw[if_neg e]at h;refine kat_no ?_
   rw[show (bb && (i+1 == 0))=false by simp];exact zl3 c h
theorem kat_cols0{us vs:List Ac}{as bs:List Int}{a b:Int}{t u:Tok}(r:Cols us vs as bs)(h:Q (HT.lexLt (a::as) (b::bs)) s):KatLex prog w A true false Q ((CA a t::us).zip (CA b u::vs)) 0 s:=by
 rw[HT.lexLt_cons]at h;refine kat_cons (zky (.int a t b u) ?_)
 by_cases e:a=b
 .rw[decide_eq_true e];rw[if_pos e]at h;exact kat_yes (zg2 0 r h)
 .rw[decide_eq_false e];rw[if_neg e]at h;exact kat_no (oneLt_int h)
end
end RK
namespace L2
open PySem PySem.Spec PyProof.Rows
section
variable {X:Cx}{k:Nat}{f:Addr}{fd:BC}{ps:List Str}{sp:Sp}{pins:List (Addr×Obj)}{σ:St}{H0:Hp}{Q:VK}
theorem Inv.adopt{H:Hp}{s:Ae}{D:Addr}{o:HO}{h':Heap}{t':Nat}(I:Inv X pins σ H s)(fb:FpOk X pins H D)(hk:∀b u, b ≠ D -> s.heap.get? b=some u -> h'.get? b=some u)(heo:∃u, h'.get? D=some u)
  (new:ObjOk X.prog X.w (upd H D o) h' D o):Inv X pins σ (upd H D o) { s with heap:=h',toks:=t' }:=by
 have hn:=fb.1;have nit:∀b u,H b=some u->b≠D:=λb u e z=>by rw[z,hn]at e;cases e
 refine I.step (g':=s.gens) (d':=s.drawn) (ch:=[D]) (λb hb=>?_) (λb u _ _ hc e _=>hk b u (λz=>hc (by simp[z])) e) (λb u _ _ hc e _=>⟨u.slots,hk b u (λz=>hc (by simp[z])) e⟩)
  (λb u hc _ n=>by rw[zag (λz=>hc (by simp[z]))];exact n)
  (λb u hc e=>⟨u,hk b u (λz=>hc (by simp[z])) e⟩) (λb xs e=>by rw[zag (nit _ _ e)];exact e) (λb u xs e=>by rw[zag (nit _ _ e)];exact e) (λb ps e=>⟨#[],by rw[zag (nit _ _ e),e];simp⟩) (λm hm=>?_) (λb u e=>?_) I.bare
 .have e:b=D:=by simpa using hb
  subst e;exact⟨fb.2.2.2.1,fb.2.1,fb.2.2.2.2.1,fb.2.2.2.2.2⟩
 .obtain⟨u,es,ep,ho,r⟩:=hm;exact⟨u,es,ep,hk _ u (BX fb.2.1) ho,r⟩
 .by_cases hb:b=D
  .subst hb;rw[zaa]at e;cases e;exact new
  .rw[zag hb]at e;refine (I.hok b u e).stay (λc v hc q=>hk c v ?_ q) (λc q=>by rw[zag (nit _ _ q)];exact q) λc xs q=>by rw[zag (nit _ _ q)];exact q
   rcases hc with z |z
   .rw[z];exact nit b u e
   .exact nit c _ z
noncomputable def zhe(X:Cx)(σ:St)(H0:Hp)(f:Addr)(xs:List V)(κV:Nat->List V):Prop:=∀(pins:List (Addr×Obj)) (i:Nat) (x:V) (u:Ac) (H:Hp) (s:Ae),xs[i]?=some x->Same H0 H->Inv X pins σ H s->RelV x u ->
 Ao (Ax X.prog X.w) X.A.in1.in1 (call (.ref f) [u]) (EP X pins σ λv H'=>Same H H'/\∃a,v=.ref a/\SqT X.K H' a (κV i)) (λ_ _=>False) s
inductive VCol:V->V->Int->Int->Prop where
 |int (a b:Int):VCol (.int a) (.int b) a b
 |bl (p q:Bool):VCol (.bl p) (.bl q) (b2i p) (b2i q)
inductive VCols:List V->List V->List Int->List Int->Prop where
 |nil:VCols [] [] [] []
 |cons {x y:V} {xs ys:List V} {a b:Int} {as bs:List Int}:VCol x y a b->VCols xs ys as bs->VCols (x::xs) (y::ys) (a::as) (b::bs)
theorem VCols.vals:∀{xs ys:List V}{as bs:List Int}{us vs:List Ac},VCols xs ys as bs->Vals xs us->Vals ys vs->RK.Cols us vs as bs
  |_,_,_,_,_,_,.nil,.nil,.nil=>.nil
  |_, _, _, _, _, _, .cons c r, .cons h t, .cons g q => .cons (by
      cases c with
      |int a b=>obtain⟨t,rfl⟩:=h;obtain⟨u,rfl⟩:=g;exact .int _ _ _ _
      |bl p q=>cases h;cases g;exact .bl _ _) (r.vals t q)
structure SK (X:Cx) (pins:List (Addr×Obj)) (σ:St) (H:Hp) (s:Ae) (D st:Addr) (e:Nat) (κV:Nat->List V) (ks:List Addr):Prop where
 inv:Inv X pins σ H s
 fd:FpOk X pins H D
 fs:FpOk X pins H st
 ne:st≠D
 hd:s.heap.get? D=some (Bg "list" #[] e)
 hs:∃c,s.heap.get? st=some (Bg "list" (ks.map Ar).toArray c)
 hk:∀i a,ks[i]?=some a->SqT X.K H a (κV i)
theorem zg4{M:Model}{A:AJ}{E:Ac -> Ae -> Prop}{body:Ac -> PUnit -> Sem (ForInStep PUnit)}{vs:List Ac}(P:Nat -> Ae -> Prop)
  (hb:∀i x s,vs[i]?=some x->P i s->Ao M A (body x ⟨⟩) (λr s'=>r=.yield ⟨⟩/\P (i+1) s') E s):∀(r:List Ac) (i:Nat) (s:Ae),vs.drop i=r->i<=vs.length->P i s ->
   Ao M A (forIn r PUnit.unit body) (λ_ s'=>P vs.length s') E s
 |[],i,s,hr,hi,h=>by
  rw[List.forIn_nil];have:vs.length<=i:=List.drop_eq_nil_iff.mp hr;exact Ah (by rw[show vs.length=i by lia];exact h)
 |x::r,i,s,hr,hi,h=>by
  have hx:vs[i]?=some x:=by have:=congrArg (·[0]?) hr;simpa using this
  have hlt:i<vs.length:=(Ad.mp hx).1;have hr':vs.drop (i+1)=r:=by rw[<- List.tail_drop,hr];rfl
  rw[List.forIn_cons];refine Ab (Bs (hb i x s hx h) (λq s' hq=>?_) λ_ _ e=>e);obtain⟨rfl,h'⟩:=hq;exact zg4 P hb r (i+1) s' hr' hlt h'
end
section
variable {X:Cx}{pins:List (Addr×Obj)}{σ:St}{H:Hp}{s:Ae}{D st:Addr}{e:Nat}{κV:Nat->List V}{ks:List Addr}{E:Ac->Ae->Prop}
noncomputable def zhf(X:Cx)(G:Array Nat->Prop)(ks vs:List Ac)(E:Ac->Ae->Prop)(s:Ae):Prop :=
 Ao (Ax X.prog X.w) X.A.in1.in1 (keyKind' ks.toArray) (λκ s0=>s0=s /\
  Ao (Ax X.prog X.w) X.A.in1.in1 ((sortRuns').run (SortSt.mk' κ (ks.toArray.zip vs.toArray) #[] 7 none)) (λr s'=>s'=s/\C5 r.2=none/\∃p:Array Nat,G p/\p.size=vs.length/\AK r.2=p.map (Ds (ks.toArray.zip vs.toArray))) E s) E s
theorem ziV{as:List Addr}(I:Inv X pins σ H s):∀{ks:List Addr}{vs:List (List V)}{ns:List Int}, (∀(i:Nat) (a:Addr), ks[i]? = some a -> ∃n r, ns[i]? = some n /\ SqT X.K H a (.int n :: r)) -> ns.length=ks.length ->
  ∃fs:List Ac,W.KatTups s.heap (ks.map Ar) fs/\fs.length=ks.length/\∀v∈fs,∃n t,v=CA n t
 |[],_,_,_,_=>⟨[],.nil,rfl,λ_ h=>nomatch h⟩
 |a::r,vs,[],_,h=>by cases h
 |a::r,vs,n::ns,hk,h=>by
  obtain⟨m,q,e1,hq⟩:=hk 0 a rfl;obtain⟨fs,t,hl,hi⟩:=ziV (as:=as) (vs:=vs) I (ks:=r) (ns:=ns) (λi b hb=>by simpa using hk (i+1) b (by simpa using hb)) (by simpa using h);obtain⟨its,rv,⟨o,ho,hc,c,hd⟩,_⟩:=I.tuple hq
  cases rv with
  |cons rx rr =>
   obtain⟨t1,rfl⟩:=rx;refine⟨CA m t1::fs,.cons ho hc hd (by simp) t,by simp[hl],λv hv=>?_⟩;rcases Aw.mp hv with rfl |hv
   .exact⟨_,_,rfl⟩
   .exact hi v hv
end
section
variable {X:Cx}{k:Nat}{f:Addr}{fd:BC}{ps:List Str}{sp:Sp}{pins:List (Addr×Obj)}{σ:St}{H0 H:Hp}{s:Ae}{D st l:Addr}{e:Nat}{κV:Nat->List V}{ks:List Addr}{E:Ac->Ae->Prop}{G:Array Nat->Prop}{xs:List V}{vs:List Ac}{Q:VK}
noncomputable def outV(xs:List V)(p:Array Nat):List V:=p.toList.map λi=>xs.getD i .non
theorem zhJ{xs:List V}{vs:List Ac}(r:Vals xs vs)(i:Nat)(hi:i<xs.length):RelV (xs.getD i .non) (vs.getD i BI):=by
 have hx:xs[i]?=some xs[i]:=by simp[hi]
 obtain⟨u,hu,ru⟩:=r.get hx;rw[AS,hx,AS,hu];exact ru
theorem zgA{xs:List V}{vs:List Ac}(r:Vals xs vs):∀(l:List Nat),(∀i∈l,i<xs.length)->Vals (l.map λi=>xs.getD i .non) (l.map λi=>vs.getD i BI)
 |[],_=>.nil
 |i::t,h=>.cons (zhJ r i (h i AC)) (zgA r t λj hj=>h j (At _ hj))
theorem zgh{p:Array Nat}:(outV xs p).length=p.size:=by unfold outV;simp
theorem zkI{P:PySem.Fin -> Ae -> Prop}{so:Ce}{out:List Ac}{ys:List V}(K:SK X pins σ H s D st e κV ks)(hks:ks.length <= sizeLine)(ho:(AK so).map (·.2)=out.toArray)(ry:Vals ys out)(hz:ys.length <= sizeLine)(hf:C5 so=none)
  (h:∀s',Inv X pins σ (upd H D (.lst ys)) s'->P (.done (.ret .none)) s'):Ao (Ax X.prog X.w) X.A.in1.in1 (ksk_tail D false e (.ref st) so) P E s:=by
 obtain⟨c,hc⟩:=K.hs;have hzo:out.length<=sizeLine:=by rw[<- ry.length];exact hz
 have s1:=Br s.heap st (AR λ_=>(#[]:Array Ac));have hd1:(s.heap.update st (AR λ_=>(#[]:Array Ac))).get? D=some (Bg "list" #[] e):=(s1.2 D K.ne.symm).trans K.hd;have s2:=Br (s.heap.update st (AR λ_=>(#[]:Array Ac))) D (AR λ_=>out.toArray);obtain⟨c2,hc2⟩:∃c2,((s.heap.update st (AR λ_=>(#[]:Array Ac))).update D (AR λ_=>out.toArray)).get? D=some (Bg "list" out.toArray c2):=⟨_,DK hd1 λ_=>out.toArray⟩;unfold ksk_tail
 try dsimp only
 rw[ho];refine Ab (listUpdate_at hc rfl ?_ (by simpa using hks) (AZ _));refine Ab (Cc ?_);refine Ab (seqEpoch_at hd1 rfl ?_);simp only[Bu,if_false];refine Ab (listUpdate_at hd1 rfl ?_ (AZ _) (by simp;lia));rw[hf];simp only[bne_self_eq_false,Bu,if_false];refine Ah (h _ ?_);have I1:Inv X pins σ H { s with heap:=s.heap.update st (AR λ_=>(#[]:Array Ac)) }:=K.inv.moved (t':=s.toks) K.fs (λb o hb e=>(s1.2 b λz=>hb (by simp[z])).trans e);exact I1.adopt (t':=s.toks) K.fd (λb u hb q=>(s2.2 b hb).trans q) ⟨_,hc2⟩ ⟨hz,out,c2,ry,hc2⟩
theorem zls{P:PySem.Fin -> Ae -> Prop}(K:SK X pins σ H s D st e κV ks)(hl:ks.length=vs.length)(r:Vals xs vs)(hz:xs.length <= sizeLine)(hG:∀p, G p -> ∀i ∈ p.toList, i < xs.length)
  (h0:vs.length<2->G (List.toArray (AG vs.length))) (core:2<=vs.length->zhf X G (ks.map Ar) vs E s)
  (h:∀p s',G p->p.size=xs.length->Inv X pins σ (upd H D (.lst (outV xs p))) s'->P (.done (.ret .none)) s'):Ao (Ax X.prog X.w) X.A.in1.in1 (ksk_end D false vs.toArray e (.ref st) (ks.map Ar).toArray) P E s:=by
 have hlx:xs.length=vs.length:=r.length;have hl':(ks.map Ar).length=vs.length:=by simp[hl]
 have fin:∀(p:Array Nat) (so:Ce),G p->p.size=vs.length->AK so=p.map (Ds ((ks.map Ar).toArray.zip vs.toArray))->C5 so=none->Ao (Ax X.prog X.w) X.A.in1.in1 (ksk_tail D false e (.ref st) so) P E s:=λp so g hp ha hf =>
  zkI K (by lia) (W.kat_snds hl' ha) (ys:=outV xs p) (zgA r _ (hG p g)) (by rw[zgh];lia) hf λs' I'=>h p s' g (by lia) I'
 unfold ksk_end
 try dsimp only
 simp only[Bu,if_false]
 by_cases h2:vs.length<2
 .have h2':vs.toArray.size<2:=by simpa using h2
  rw[if_pos h2',if_pos h2'];refine Ab (Ah ?_);show Ao (Ax X.prog X.w) X.A.in1.in1 (pure ((),SortSt.mk' general' ((ks.map Ar).toArray.zip vs.toArray) #[] 7 none) >>= _) P E s;refine Ab (Ah ?_)
  try dsimp only
  refine fin (List.toArray (AG vs.length)) _ (h0 h2) (by simp) ?_ rfl;have:=W.kas_range ((ks.map Ar).toArray.zip vs.toArray);rw[show ((ks.map Ar).toArray.zip vs.toArray).size=vs.length by simp[hl]]at this;exact this.symm
 .have h2':¬ vs.toArray.size<2:=by simpa using h2
  rw[if_neg h2',if_neg h2'];refine Ab (Bs (core (by lia)) (λκ s0 hk=>?_) λ_ _ z=>z);obtain⟨rfl,hk⟩:=hk;refine Ab (Bs hk (λr' s' hr=>?_) λ_ _ z=>z);obtain⟨rfl,hf,p,g,hp,ha⟩:=hr;obtain⟨⟨⟩,so⟩:=r'
  try dsimp only
  exact fin p so g hp ha hf
theorem zkJ{P:PySem.Fin -> Ae -> Prop}(F:zhe X σ H0 f xs κV)
    (K:SK X pins σ H0 s D st e κV []) (r:Vals xs vs) (hz:xs.length<=sizeLine)
    (h:∀H' s' ks,ks.length=vs.length->Same H0 H'->SK X pins σ H' s' D st e κV ks->Ao (Ax X.prog X.w) X.A.in1.in1 (ksk_end D false vs.toArray e (.ref st) (ks.map Ar).toArray) P E s') :
    Ao (Ax X.prog X.w) X.A.in1.in1 (ksk_rest D (.ref f) false vs.toArray e (.ref st)) P E s:=by
  have hlx:xs.length=vs.length:=r.length;unfold ksk_rest;refine Ab (wpAny_rule ?_);rw[List.forIn_toArray];refine Ab (Bs (zg4 (vs:=vs) (λi s'=>∃H' ks,ks.length=i/\Same H0 H'/\SK X pins σ H' s' D st e κV ks) (λi x s1 hx hP=>?_) vs 0 s rfl (AZ _) ⟨H0,[],rfl,Same.refl _,K⟩) (λ_ s' hd=>?_) λ_ _ z=>z)
  . obtain⟨H1,ks,hkl,hS,K1⟩:=hP;have hi:i<xs.length:=by rw[hlx];exact (Ad.mp hx).1
    have hxx:xs[i]?=some xs[i]:=by simp[hi]
    obtain⟨u,hu,ru⟩:=r.get hxx;rw[hx]at hu
    cases hu
    obtain⟨c,hc⟩:=K1.hs
    have I1:Inv X (pins ++ zcu [D, st] s1.heap) σ H1 s1 := K1.inv.pinned (λb hb => by
        rcases Aw.mp hb with rfl |hb
        . exact K1.fd
        . rw[Ap.mp hb];exact K1.fs) (λb hb=>by
        rcases Aw.mp hb with rfl |hb
        . exact⟨_,K1.hd,zbx⟩
        . rw[Ap.mp hb];exact⟨_,hc,zbx⟩)
    refine Ab (wpAny_attempt (Bs (F _ i _ _ H1 _ hxx hS I1 ru) (λv s2 hv=>?_) λ_ _ hF=>hF.elim));obtain⟨y,H2,I2,ry,hS2,a,ey,ka⟩:=hv;subst ey
    cases (show v=Ar a from ry)
    have p1:=I2.pin (D,Bg "list" #[] e) (Am _ (Am _ (zay (by simp) K1.hd)));have p2:=I2.pin (st,Bg "list" (ks.map Ar).toArray c) (Am _ (Am _ (zay (by simp) hc)));have sb:=Br s2.heap st (AR (·.push (Ar a)));have ea:(ks.map Ar).toArray.push (Ar a)=((ks++[a]).map Ar).toArray:=by simp
    obtain⟨c2,hc2⟩:∃c2,(s2.heap.update st (AR (·.push (Ar a)))).get? st=some (Bg "list" ((ks++[a]).map Ar).toArray c2):=⟨_,by rw[<- ea];exact DK p2.1 (·.push (Ar a))⟩
    try dsimp only
    refine Ab (listUpdate_at p2.1 rfl ?_ (by simp;lia) (by simp;lia));refine Ah ⟨rfl,H2,ks++[a],by simp[hkl],hS.trans hS2,I2.unpinned.moved (t':=s2.toks) (K1.fs.again p2.2.1) (λb o hb e=>(sb.2 b λz=>hb (by simp[z])).trans e),K1.fd.again p1.2.1,K1.fs.again p2.2.1,K1.ne,(sb.2 D K1.ne.symm).trans p1.1,⟨c2,hc2⟩,λj b hj=>?_⟩;rcases AX j ks.length with hjl |hjl
    . rw[AE hjl]at hj;exact hS2.seqT (K1.hk j b hj)
    . rw[AQ hjl]at hj
      have hj0:j-ks.length=0:=by have:=(Ad.mp hj).1;simp at this;lia
      rw[hj0]at hj
      cases Bc hj
      rw[show j=i by lia];exact ka
  . obtain⟨H',ks,hkl,hS,K'⟩:=hd;obtain⟨c,hc⟩:=K'.hs
    try dsimp only
    refine Ab (listItems_at hc rfl ?_);exact h H' s' ks hkl hS K'
theorem zkH{P:PySem.Fin -> Ae -> Prop}{c0:Nat}(F:zhe X σ H0 f xs κV)
  (I:Inv X pins σ H0 s) (fb:FpOk X pins H0 D) (hd:s.heap.get? D=some (Bg "list" vs.toArray c0)) (r:Vals xs vs) (hz:xs.length<=sizeLine)
  (h:∀e H' s' ks st,ks.length=vs.length->Same H0 H'->SK X pins σ H' s' D st e κV ks->Ao (Ax X.prog X.w) X.A.in1.in1 (ksk_end D false vs.toArray e (.ref st) (ks.map Ar).toArray) P E s') :
  Ao (Ax X.prog X.w) X.A.in1.in1 (ksk_tree D (.ref f) false) P E s:=by
 have hlx:xs.length=vs.length:=r.length;have s1:=Br s.heap D (AR λ_=>(#[]:Array Ac));obtain⟨e1,ho1⟩:∃e1,(s.heap.update D (AR λ_=>(#[]:Array Ac))).get? D=some (Bg "list" #[] e1):=⟨_,DK hd λ_=>#[]⟩;have hDl:D<s.heap.objs.size:=Av hd;unfold ksk_tree;refine Ab (listItems_at hd rfl ?_);refine Ab (listUpdate_at hd rfl ?_ (by simp;lia) (AZ _));refine Ab (seqEpoch_at ho1 rfl ?_);refine Ab (wpAny_newTuple ?_ (by simp;lia));refine Ab (wpAny_newList ?_ (AZ _));refine A1 ?_
 have I1:Inv X pins σ H0 { s with heap:=s.heap.update D (AR λ_=>(#[]:Array Ac)) }:=I.moved (t':=s.toks) fb (λb o hb e=>(s1.2 b λz=>hb (by simp[z])).trans e);have keep:∀b o,(s.heap.update D (AR λ_=>(#[]:Array Ac))).get? b=some o->(((s.heap.update D (AR λ_=>(#[]:Array Ac))).push (Bg "tuple" vs.toArray.toList.toArray 0)).push (Bg "list" #[] 0)).get? b=some o:=λb o q=>Af _ (Af _ q)
 have hsz:((s.heap.update D (AR λ_=>(#[]:Array Ac))).push (Bg "tuple" vs.toArray.toList.toArray 0)).objs.size=s.heap.objs.size+1:=by rw[size_push',Heap.size_update]
 have I2:Inv X pins σ H0 { s with heap:=((s.heap.update D (AR λ_=>(#[]:Array Ac))).push (Bg "tuple" vs.toArray.toList.toArray 0)).push (Bg "list" #[] 0) }:=I1.kept (t':=s.toks) keep;show Ao (Ax X.prog X.w) X.A.in1.in1 (ksk_rest D (.ref f) false vs.toArray _ (.ref ((s.heap.update D (AR λ_=>(#[]:Array Ac))).push (Bg "tuple" vs.toArray.toList.toArray 0)).objs.size)) P E { s with heap:=((s.heap.update D (AR λ_=>(#[]:Array Ac))).push (Bg "tuple" vs.toArray.toList.toArray 0)).push (Bg "list" #[] 0) };rw[hsz];have hss:(((s.heap.update D (AR λ_=>(#[]:Array Ac))).push (Bg "tuple" vs.toArray.toList.toArray 0)).push (Bg "list" #[] 0)).get? (s.heap.objs.size+1)=some (Bg "list" #[] 0):=by rw[<- hsz];exact Aq _ rfl
 exact zkJ F ⟨I2,fb,I.fpOk (Cd _) (I.hok.fresh (Cd _)),B4 (Nat.lt_succ_of_lt hDl),keep _ _ ho1,⟨0,by simpa using hss⟩,λi a ha=>by simp at ha⟩ r hz λH' s' ks a b c=>h _ H' s' ks _ a b c
end
section
variable {X:Cx}{k:Nat}{f:Addr}{fd:BC}{ps:List Str}{sp:Sp}{pins:List (Addr×Obj)}{σ:St}{H0:Hp}{s:Ae}{l:Addr}{κV:Nat->List V}{G:Array Nat->Prop}{xs:List V}{Q:VK}
theorem zhz(F:zhe X σ H0 f xs κV)
  (hl:SqL X.K H0 l xs) (hG:∀p,G p->∀i∈p.toList,i<xs.length) (h0:xs.length<2->G (List.toArray (AG xs.length)))
  (core:∀{vs:List Ac} {ks:List Addr} {H':Hp} {s':Ae} {D st:Addr} {e:Nat},Vals xs vs->SK X pins σ H' s' D st e κV ks->ks.length=vs.length->2<=vs.length->zhf X G (ks.map Ar) vs X.xe s')
  (hQ:∀p D H',G p->p.size=xs.length->H0 D=none->Same H0 H'->H' D=some (.lst (outV xs p))->Q (.ref D) H') (I:Inv X pins σ H0 s) :
  Ao (Ax X.prog X.w) X.A (call (.builtin "sorted") [.ref l] [(Bd "key",.ref f)]) (EP X pins σ Q) X.xe s:=by
 obtain⟨vs,r,pl,hz⟩:=I.list hl;have hlx:xs.length=vs.length:=r.length;refine call_function_entry_kw kind_sorted plain_sorted entry_sorted (ksk_s1 _ _) ?_
 unfold Builtin.«sorted»;refine Ab (m:=checkCount "sorted" 1 1 _) (Ah ?_);refine Ab (collect_list pl.isList ?_ (by first |lia | (rw[An];lia) | (simp;lia)));refine Ab (wpAny_newList ?_ (by first |lia | (rw[An];lia) | (simp;lia)));have hsz:((s.heap.push (Bg "list" #[] 0)).update s.heap.objs.size (AR (·++vs.toArray))).objs.size=s.heap.objs.size+1:=by rw[Heap.size_update,size_push']
 have hoL:(((s.heap.push (Bg "list" #[] 0)).update s.heap.objs.size (AR (·++vs.toArray))).push (Bg "list" vs.toArray 0)).get? (s.heap.objs.size+1)=some (Bg "list" vs.toArray 0):=by rw[<- hsz];exact Aq _ rfl
 have keep:∀b o,s.heap.get? b=some o->(((s.heap.push (Bg "list" #[] 0)).update s.heap.objs.size (AR (·++vs.toArray))).push (Bg "list" vs.toArray 0)).get? b=some o:=λb o q=>by have hlt:b<s.heap.objs.size:=Av q;rw[Heap.get?_push_ne _ _ _ (by rw[hsz];exact AI (Nat.lt_succ_of_lt hlt)),Heap.get?_update_ne _ _ _ _ (AI hlt),Heap.get?_push_ne _ _ _ (AI hlt)];exact q
 show Ao _ _ _ _ _ { s with heap:=((s.heap.push (Bg "list" #[] 0)).update s.heap.objs.size (AR (·++vs.toArray))).push (Bg "list" vs.toArray 0) };rw[hsz];refine Ab (A1 (wpAny_call_entry_kw slot_list_sort ⟨_,hoL,rfl⟩ entry_list_sort ?body (ksk_l1 _ _)))
 case body =>
  show Ao (Ax X.prog X.w) X.A.in1.in1 (Builtin.«list.sort» ⟨[.ref (s.heap.objs.size+1)],[(Bd "key",.ref f)]⟩) _ _ _;rw[ksk_t1];have I1:Inv X pins σ H0 { s with heap:=((s.heap.push (Bg "list" #[] 0)).update s.heap.objs.size (AR (·++vs.toArray))).push (Bg "list" vs.toArray 0) }:=I.kept (t':=s.toks) keep;have hDn:H0 (s.heap.objs.size+1)=none:=I.hok.fresh (Cd _);refine zkH F I1 (I.fpOk (Cd _) hDn) hoL r hz λe H' s' ks st hks hS K=>?_
  refine zls K hks r hz hG (λh2=>by rw[<- hlx];exact h0 (by lia)) (core r K hks) λp s2 g hp I2=>⟨_,rfl,?_⟩
  refine Ah ⟨_,rfl,.ref (s.heap.objs.size+1),_,I2,rfl,hQ p _ _ g hp hDn (λb o q=>?_) zaa⟩;rw[zag (zaj q hDn)];exact hS b o q
end
section
variable {X:Cx}{x:Str}{p pos kp kpos:Pos}{e:Expr}{te:TE}{k:Nat}{f:Addr}{fd:BC}{ps:List Str}{sp:Sp}{fn:Str}
noncomputable def tMinK(K:W.Frag)(te:TE)(sp:Sp):TE:=λσ H Q=>te σ H λv H1=>∃l xs,∃ κ:Nat->List Int,[v]=[V.ref l]/\SqL K H1 l xs/\0<xs.length /\
 (∀i x H2,xs[i]?=some x->Same H1 H2->sp [x] H2 (λv H'=>Same H2 H'/\∃a,v=.ref a/\SqT K H' a ((κ i).map V.int)) E0)/\∀i x H',xs[i]?=some x->Least κ xs.length i->Same H1 H'->Q x H'
theorem zkQ (F:FnOk X.prog X.w X.K X.mg X.base CX0 k f fd ps sp) (hr:Room (k + 1) X.A) (hb:Binds X.K fd ps []) (hg:Gl X "min") (hm:X.mg "min" = none) (hgf:Gl X fn) (hmf:X.mg fn=some (.ref f)) (he:PE X e te)
  (hdb:(fn == ("__debug__" : Str))=false:=by decide) (hse:A8 [e] X.env=[(false,eval e X.env)]:=by rfl) (hh:X.calm=true:=by rfl)
  (hall:(CN pos (BW [⟨some "key",.Name fn kp,kpos⟩] X.env)).all (·.1.isSome)=true:=by rfl) (hkw:(CN pos (BW [⟨some "key",.Name fn kp,kpos⟩] X.env)).any (·.1.isNone)=false:=by rfl)
  (hks:(CN pos (BW [⟨some "key",.Name fn kp,kpos⟩] X.env)).filterMap (·.1)=[Bd "key"]:=by rfl) :
  PE X (.Call (.Name "min" p) [e] [⟨some "key",.Name fn kp,kpos⟩] pos) (tMinK X.K te sp):=by
 intro pins s σ H Q I h;refine BR (zch I hg hm boot_min ?_ (by decide) (by decide))
 refine callWith_kw (thn (zai he zab (hs:=hse) pos pins s σ H (λvs H1=>∃l xs,∃ κ:Nat->List Int,vs=[V.ref l]/\SqL X.K H1 l xs/\0<xs.length /\
  (∀i x H2,xs[i]?=some x->Same H1 H2->sp [x] H2 (λv H'=>Same H2 H'/\∃a,v=.ref a/\SqT X.K H' a ((κ i).map V.int)) E0)/\∀i x H',xs[i]?=some x->Least κ xs.length i->Same H1 H'->Q x H') I ?_) λus s1 ⟨vs,H1,I1,r,q⟩=>?_) (by rw[hse];rfl) (by rw[hse];rfl) hall hkw
 .show te σ H _;exact h
 .obtain⟨l,xs,κ,rfl,hq,hne,turn,hQ⟩:=q;obtain⟨u,rfl,ru⟩:=Vals.one r
  cases (show u=Ar l from ru)
  refine thn (zeK (nm:=some "key") (kpos:=kpos) (zeN (v:=.ref f) hgf hmf rfl hdb) zio pos pins s1 σ H1 (λzs H2=>zs=[.ref f]/\H2=H1) I1 ⟨rfl,rfl⟩) λws s2 ⟨zs,H2,I2,rz,q2⟩=>?_
  obtain⟨rfl,rfl⟩:=q2;obtain⟨u2,rfl,ru2⟩:=Vals.one rz
  cases (show u2=Ar f from ru2)
  rw[hks];exact zji (I1.ok.hd hh) F hr hb turn hq hne hQ I2
theorem zjh (hu:X.A.units + 1 < cLine) (hh:X.calm=true):CallR X (.builtin "min") (λvs H Q => ∃l xs, ∃ κ : Nat -> List Int, vs = [.ref l] /\ SqL X.K H l xs /\ 0 < xs.length /\
  (∀i x,xs[i]?=some x->∃a,x=.ref a/\SqT X.K H a ((κ i).map V.int))/\∀i x H',xs[i]?=some x->Least κ xs.length i->Same H H'->Q x H'):=by
 intro pins s σ H vs us Q I r h;obtain⟨l,xs,κ,rfl,hq,hne,turn,hQ⟩:=h;obtain⟨u,rfl,ru⟩:=Vals.one r
 cases (show u=Ar l from ru)
 exact zjg (I.ok.hd hh) hu turn hq hne hQ I
end
end L2
namespace TS
open PySem PyProof.Rows
structure LtOk (M:Model) (A:AJ) (E:Ac->Ae->Prop) (s:Ae) (kd:Ct) (S:Keyed->Prop) (L:Keyed->Keyed->Bool):Prop where
 lt:∀x y,S x->S y->∀(st:Ce) (Q:Option Bool->Ce->Prop),kindOf st=kd->Q (some (L x y)) st->wpS M A E s (lt' x y) Q st
 tr:∀x y z,S x->S y->S z->L y x=false->L z y=false->L z x=false
 as:∀x y,S x->S y->L x y=true->L y x=false
section
variable {M:Model}{A:AJ}{E:Ac->Ae->Prop}{s:Ae}{kd:Ct}{S:Keyed->Prop}{L:Keyed->Keyed->Bool}
theorem zgy{arr:Array Keyed}{i:Nat}{x:Keyed}{st:Ce}{Q:Keyed->Ce->Prop}(h:arr[i]?=some x)(q:Q x st):wpS M A E s (elem' arr i) Q st:=by rw[elem'_eq,h];exact BO q
end
end TS
namespace TS
section
variable {α:Type}{le:α->α->Prop}
structure MI (le:α->α->Prop) (a b out:List α) (ia ib:Nat):Prop where
 ha:ia<=a.length
 hb:ib<=b.length
 perm:(out++a.drop ia++b.drop ib).Perm (a++b)
 sorted:out.Pairwise le
 lea:∀x∈out,∀y∈a.drop ia,le x y
 leb:∀x∈out,∀y∈b.drop ib,le x y
end
end TS
namespace TS
open PySem PyProof.Rows
noncomputable abbrev leOf(L:Keyed->Keyed->Bool):Keyed->Keyed->Prop:=λx y=>L y x=false
section
variable {M:Model}{A:AJ}{E:Ac->Ae->Prop}{s:Ae}{kd:Ct}{S:Keyed->Prop}{L:Keyed->Keyed->Bool}
theorem LtOk.rf(O:LtOk M A E s kd S L){x:Keyed}(h:S x):L x x=false:=by
 cases q:L x x with
 |false=>rfl
 |true=>rw[O.as x x h h q]at q;cases q
structure Two (S:Keyed->Prop) (L:Keyed->Keyed->Bool) (a b:Array Keyed):Prop where
 sa:a.toList.Pairwise (leOf L)
 sb:b.toList.Pairwise (leOf L)
 Sa:∀x∈a.toList,S x
 Sb:∀x∈b.toList,S x
variable {a b:Array Keyed}{out:Array Keyed}{ia ib:Nat}
end
end TS
set_option maxHeartbeats 8000000
namespace TS
open PySem PyProof.Rows
section
variable {M:Model}{A:AJ}{E:Ac->Ae->Prop}{s:Ae}{kd:Ct}{S:Keyed->Prop}{L:Keyed->Keyed->Bool}{a b out:Array Keyed}{ia ib:Nat}
noncomputable abbrev LH:=Option (Array Keyed)×Array Keyed×Nat×Nat×Nat×Nat×Nat
variable {Q:ForInStep LH->Ce->Prop}{z:Ce}{N mg ac bc:Nat}{x y:Keyed}
end
section
variable {M:Model}{A:AJ}{E:Ac->Ae->Prop}{s:Ae}{kd:Ct}{S:Keyed->Prop}{L:Keyed->Keyed->Bool}{a b:Array Keyed}
end
end TS
set_option maxHeartbeats 8000000
namespace TS
open PySem PyProof.Rows
section
variable {α:Type}{le:α->α->Prop}
structure MJ (le:α->α->Prop) (a b r:List α) (na nb:Nat):Prop where
 ha:na<=a.length
 hb:nb<=b.length
 perm:(a.take na++b.take nb++r).Perm (a++b)
 sorted:r.Pairwise le
 lea:∀x∈a.take na,∀y∈r,le x y
 leb:∀x∈b.take nb,∀y∈r,le x y
end
end TS
set_option maxHeartbeats 8000000
namespace TS
open PySem PyProof.Rows
section
variable {M:Model}{A:AJ}{E:Ac->Ae->Prop}{s:Ae}{kd:Ct}{S:Keyed->Prop}{L:Keyed->Keyed->Bool}{a b out:Array Keyed}{na nb:Nat}
end
end TS
set_option maxHeartbeats 8000000
namespace TS
open PySem PyProof.Rows
section
variable {M:Model}{A:AJ}{E:Ac->Ae->Prop}{s:Ae}{kd:Ct}{S:Keyed->Prop}{L:Keyed->Keyed->Bool}{a b out:Array Keyed}{na nb:Nat}
end
end TS
set_option maxHeartbeats 8000000
namespace TS
open PySem PyProof.Rows
section
variable {M:Model}{A:AJ}{E:Ac->Ae->Prop}{s:Ae}{kd:Ct}{S:Keyed->Prop}{L:Keyed->Keyed->Bool}{a b out:Array Keyed}{na nb:Nat}
noncomputable abbrev RH:=Option (Array Keyed)×Nat×Nat×Array Keyed×Nat×Nat×Nat
variable {Q:ForInStep RH->Ce->Prop}{z:Ce}{N mg ac bc:Nat}{x y:Keyed}
end
section
variable {M:Model}{A:AJ}{E:Ac->Ae->Prop}{s:Ae}{kd:Ct}{S:Keyed->Prop}{L:Keyed->Keyed->Bool}{a b:Array Keyed}
end
end TS
namespace TS
open PySem PyProof.Rows
section
variable {M:Model}{A:AJ}{E:Ac->Ae->Prop}{s:Ae}{kd:Ct}{S:Keyed->Prop}{L:Keyed->Keyed->Bool}
noncomputable def Seg(L:Keyed->Keyed->Bool)(a:Array Keyed)(lo n:Nat):Prop:=∀(i j:Nat) x y,i<=j->j<n->a[lo+i]?=some x->a[lo+j]?=some y->L y x=false
noncomputable def Rev(L:Keyed->Keyed->Bool)(a:Array Keyed)(lo n:Nat):Prop:=∀(i j:Nat) x y,i<=j->j<n->a[lo+i]?=some x->a[lo+j]?=some y->L x y=false
structure SB (kd:Ct) (S:Keyed->Prop) (st0 st:Ce) (lo hi:Nat):Prop where
 kind:kindOf st=kd
 pend:Db st=Db st0
 fail:C5 st=C5 st0
 perm:(AK st).Perm (AK st0)
 out:∀k:Nat,k<lo∨hi<=k->(AK st)[k]?=(AK st0)[k]?
 all:∀(k:Nat) x,(AK st)[k]?=some x->S x
theorem SB.size{st0 st:Ce}{lo hi:Nat}(h:SB kd S st0 st lo hi):(AK st).size=(AK st0).size:=h.perm.size_eq
theorem zd7(O:LtOk M A E s kd S L){st:Ce}{i j:Nat}{x y:Keyed}{Q:Option Bool->Ce->Prop}(hk:kindOf st=kd)(hi:(AK st)[i]?=some x)(hj:(AK st)[j]?=some y)(sx:S x)(sy:S y)(q:Q (some (L x y)) st):wpS M A E s (ltAt' i j) Q st:=by rw[ltAt'_eq];refine Bo (wpS_get ?_);refine Bo (zgy hi ?_);refine Bo (zgy hj ?_);exact O.lt x y sx sy st Q hk q
theorem zcj{st:Ce}{i:Nat}(h:i<(AK st).size):∃x,(AK st)[i]?=some x:=⟨(AK st)[i],by simp[h]⟩
theorem Seg.more(O:LtOk M A E s kd S L){a:Array Keyed}{lo n:Nat}{x y:Keyed}(hS:∀(k:Nat) x,a[k]?=some x->S x)(h:Seg L a lo (n+1))(hx:a[lo+n]?=some x)(hy:a[lo+(n+1)]?=some y)(hl:L y x=false):Seg L a lo (n+2):=by
 intro i j u v hij hj hu hv;rcases AX j (n+1) with q |q
 .exact h i j u v hij q hu hv
 .have ej:j=n+1:=by lia
  subst ej;rw[hy]at hv
  cases hv
  rcases AX i (n+1) with q2 |q2
  .have h1:=h i n u x (by lia) (by lia) hu hx;exact O.tr u x y (hS _ _ hu) (hS _ _ hx) (hS _ _ hy) h1 hl
  .have ei:i=n+1:=by lia
   subst ei;rw[hy]at hu
   cases hu
   exact O.rf (hS _ _ hy)
noncomputable def Blk(L:Keyed->Keyed->Bool)(a:Array Keyed)(lo n q:Nat):Prop:=∀(i j:Nat) x y,n-(q+1)<=i->i<n->n-(q+1)<=j->j<n->a[lo+i]?=some x->a[lo+j]?=some y->L x y=false
theorem SB.refl{st:Ce}{lo hi:Nat}(hk:kindOf st=kd)(hS:∀(k:Nat) x,(AK st)[k]?=some x->S x):SB kd S st st lo hi:=⟨hk,rfl,rfl,Array.Perm.refl _,λ_ _=>rfl,hS⟩
theorem SB.mir{st0 st:Ce}{lo hi i j:Nat}(h:SB kd S st0 st lo hi)(h1:lo<=i)(h2:j<=hi)(hz:j<=(AK st).size):SB kd S st0 (setArr st (mirror (AK st) i j ((j-i) / 2))) lo hi:=by
 refine⟨h.kind,h.pend,h.fail,(mirror_perm _ _ _ _).trans h.perm,λk hk=>?_,λk x hx=>?_⟩
 .show (mirror (AK st) i j ((j-i) / 2))[k]?=_;rw[BF hz,if_neg (by lia)];exact h.out k hk
 .have hx':(mirror (AK st) i j ((j-i) / 2))[k]?=some x:=hx;rw[BF hz]at hx';split at hx'
  .exact h.all _ x hx'
  .exact h.all _ x hx'
theorem Rev.blk{a:Array Keyed}{lo n q:Nat}(h:Rev L a lo n)(hb:Blk L a lo n q)(hq:q<n)(hz:lo+n<=a.size):Rev L (mirror a (lo+n-(q+1)) (lo+n) ((lo+n-(lo+n-(q+1))) / 2)) lo n:=by
 intro i j x y hij hj hx hy;rw[BF hz]at hx hy
 by_cases hi:lo+n-(q+1)<=lo+i/\lo+i<lo+n
 .rw[if_pos hi]at hx;rw[if_pos (by lia)]at hy;rw[show lo+n-(q+1)+(lo+n)-1-(lo+i)=lo+(n-(q+1)+n-1-i) by lia]at hx;rw[show lo+n-(q+1)+(lo+n)-1-(lo+j)=lo+(n-(q+1)+n-1-j) by lia]at hy;exact hb _ _ x y (by lia) (by lia) (by lia) (by lia) hx hy
 .rw[if_neg hi]at hx
  by_cases hj':lo+n-(q+1)<=lo+j/\lo+j<lo+n
  .rw[if_pos hj']at hy;rw[show lo+n-(q+1)+(lo+n)-1-(lo+j)=lo+(n-(q+1)+n-1-j) by lia]at hy;exact h i _ x y (by lia) (by lia) hx hy
  .rw[if_neg hj']at hy;exact h i j x y hij hj hx hy
theorem Rev.flip{a:Array Keyed}{lo n:Nat}(h:Rev L a lo n)(hz:lo+n<=a.size):Seg L (mirror a lo (lo+n) ((lo+n-lo) / 2)) lo n:=by intro i j x y hij hj hx hy;rw[BF hz,if_pos (by lia)]at hx hy;rw[show lo+(lo+n)-1-(lo+i)=lo+(n-1-i) by lia]at hx;rw[show lo+(lo+n)-1-(lo+j)=lo+(n-1-j) by lia]at hy;exact h _ _ y x (by lia) (by lia) hy hx
theorem Rev.more(O:LtOk M A E s kd S L){a:Array Keyed}{lo n:Nat}{x y:Keyed}(hS:∀(k:Nat) x,a[k]?=some x->S x)(h:Rev L a lo (n+1))(hx:a[lo+n]?=some x)(hy:a[lo+(n+1)]?=some y)(hl:L x y=false):Rev L a lo (n+2):=by
 intro i j u v hij hj hu hv;rcases AX j (n+1) with q |q
 .exact h i j u v hij q hu hv
 .have ej:j=n+1:=by lia
  subst ej;rw[hy]at hv
  cases hv
  rcases AX i (n+1) with q2 |q2
  .have h1:=h i n u x (by lia) (by lia) hu hx;exact O.tr y x u (hS _ _ hy) (hS _ _ hx) (hS _ _ hu) hl h1
  .have ei:i=n+1:=by lia
   subst ei;rw[hy]at hu
   cases hu
   exact O.rf (hS _ _ hy)
theorem Blk.more(O:LtOk M A E s kd S L){a:Array Keyed}{lo n q:Nat}{x y:Keyed}(hS:∀(k:Nat) x,a[k]?=some x->S x)(h:Blk L a lo (n+1) q)(hq:q<n+1)(hx:a[lo+n]?=some x)(hy:a[lo+(n+1)]?=some y)(h1:L x y=false)(h2:L y x=false):Blk L a lo (n+2) (q+1):=by
 have old:∀(i:Nat) u,n+1-(q+1)<=i->i<n+1->a[lo+i]?=some u->L u y=false/\L y u=false:=λi u a1 a2 hu=>by have e1:=h i n u x a1 a2 (by lia) (by lia) hu hx;have e2:=h n i x u (by lia) (by lia) a1 a2 hx hu;exact⟨O.tr y x u (hS _ _ hy) (hS _ _ hx) (hS _ _ hu) h1 e1,O.tr u x y (hS _ _ hu) (hS _ _ hx) (hS _ _ hy) e2 h2⟩
 intro i j u v a1 a2 b1 b2 hu hv;rcases AX i (n+1) with ci |ci
 .rcases AX j (n+1) with cj |cj
  .exact h i j u v (by lia) ci (by lia) cj hu hv
  .have ej:j=n+1:=by lia
   subst ej;rw[hy]at hv;cases hv;exact (old i u (by lia) ci hu).1
 .have ei:i=n+1:=by lia
  subst ei;rw[hy]at hu;cases hu;rcases AX j (n+1) with cj |cj
  .exact (old j v (by lia) cj hv).2
  .have ej:j=n+1:=by lia
   subst ej;rw[hy]at hv;cases hv;exact O.rf (hS _ _ hy)
theorem Blk.one(O:LtOk M A E s kd S L){a:Array Keyed}{lo n:Nat}(hS:∀(k:Nat) x,a[k]?=some x->S x):Blk L a lo (n+1) 0:=λi j x y a1 a2 b1 b2 hx hy=>by
 have ei:i=n:=by lia
 have ej:j=n:=by lia
 subst ei;subst ej;rw[hx]at hy;cases hy;exact O.rf (hS _ _ hx)
theorem zfk{B:Prop}{D:Ce->Prop}(C:Ce->Prop)(g:(∀st,D st->C st)->B)(h:∀st,D st->C st):B:=g h
theorem ze3 (O : LtOk M A E s kd S L){st : Ce}{lo nrem : Nat}{Q : Option Nat → Ce → Prop}(h1 : 1 ≤ nrem) (hz : lo + nrem ≤ (AK st).size) (hk : kindOf st = kd) (hS : ∀ (k : Nat) x, (AK st)[k]? = some x → S x)
    (hQ:∀ m st',SB kd S st st' lo (lo+nrem)→1≤m→m≤nrem→Seg L (AK st') lo m→Q (some m) st'):wpS M A E s (countRun' lo nrem) Q st:=by
  rw[countRun'_eq]
  refine Bo (wpS_mono (Dv (I:=λx c st'=>c=(none,x)∧st'=st∧x≤nrem∧Seg L (AK st) lo x)
    (Q:=λc st'=>∃ m,c=(none,m)∧st'=st∧1≤m∧m≤nrem∧Seg L (AK st) lo m∧(m<nrem→∃ x y,(AK st)[lo+m]?=some x∧(AK st)[lo+m - 1]?=some y∧L x y=true)) ?step ?fin ?init) ?post)
  case init =>
    refine⟨rfl,rfl,h1,λi j x y hij hj hx hy=>?_⟩
    have ei:i=0:=by lia
    have ej:j=0:=by lia
    subst ei;subst ej
    rw[hx] at hy
    cases hy
    exact O.rf (hS _ _ hx)
  case fin =>
    rintro c st' ⟨rfl,rfl,hle,hsg⟩
    exact⟨_,rfl,rfl,by lia,hle,hsg,λh=>absurd h (by lia)⟩
  case step =>
    rintro n c st' hn1 hn2 ⟨rfl,rfl,hle,hsg⟩
    obtain⟨x,hx⟩:=zcj (st:=st') (i:=lo+n) (by lia)
    obtain⟨y,hy⟩:=zcj (st:=st') (i:=lo+n - 1) (by lia)
    refine Bo (zd7 O hk hx hy (hS _ _ hx) (hS _ _ hy) ?_)
    dsimp only
    by_cases hl:L x y=true
    . rw[if_pos hl]
      exact BO ⟨n,rfl,rfl,hn1,hle,hsg,λ_=>⟨x,y,hx,hy,hl⟩⟩
    . rw[if_neg hl]
      refine BO ⟨rfl,rfl,hn2,?_⟩
      obtain⟨p,rfl⟩:∃ p,n=p+1:=⟨n - 1,by lia⟩
      exact hsg.more O hS (by rw[show lo+(p+1) - 1=lo+p by lia] at hy;exact hy) hx (by simpa using hl)
  case post =>
    rintro c st' ⟨m,rfl,rfl,hm1,hm2,hsg,hnx⟩
    dsimp only
    by_cases hmn:(m == nrem)=true
    . rw[if_pos hmn]
      exact BO (hQ m st' (SB.refl hk hS) hm1 hm2 hsg)
    . rw[if_neg hmn]
      have hlt : m < nrem := by have : m ≠ nrem := by simpa using hmn
                                lia
      obtain⟨x0,y0,hx0,hy0,hl0⟩:=hnx hlt
      refine zfk (D:=λst1=>SB kd S st' st1 lo (lo+nrem)∧Rev L (AK st1) lo m∧(∃ x y,(AK st1)[lo+m]?=some x∧(AK st1)[lo+m - 1]?=some y∧L y x=false)) ?C (λshare=>?g) ?h
      case g =>
        by_cases hm:m > 1
        . rw[if_pos hm]
          obtain⟨a,ha⟩:=zcj (st:=st') (i:=lo) (by lia)
          obtain⟨b,hb⟩:=zcj (st:=st') (i:=lo+m - 1) (by lia)
          refine Bo (zd7 O hk ha hb (hS _ _ ha) (hS _ _ hb) ?_)
          dsimp only
          by_cases hr:L a b=true
          . rw[if_pos hr]
            exact BO (hQ m st' (SB.refl hk hS) hm1 hm2 hsg)
          . rw[if_neg hr]
            have hr':L a b=false:=by simpa using hr
            rw[reverseSlice'_eq]
            refine Bo (wpS_modify ?_)
            have hz2:lo+m≤(AK st').size:=by lia
            have hb':(AK st')[lo+(m - 1)]?=some b:=by rw[show lo+(m - 1)=lo+m - 1 by lia];exact hb
            have eqv:Rev L (AK st') lo m:=λi j x y hij hj hx hy=>by
              have e1:=hsg 0 j a y (by lia) hj (by simpa using ha) hy
              have e2:=hsg i (m - 1) x b (by lia) (by lia) hx hb'
              have e3:=O.tr x b a (hS _ _ hx) (hS _ _ hb) (hS _ _ ha) e2 hr'
              have e4:=hsg j (m - 1) y b (by lia) (by lia) hy hb'
              have e5:=hsg 0 i a x (by lia) (by lia) (by simpa using ha) hx
              exact O.tr y b x (hS _ _ hy) (hS _ _ hb) (hS _ _ hx) e4 (O.tr b a x (hS _ _ hb) (hS _ _ ha) (hS _ _ hx) hr' e5)
            have rv2:Rev L (mirror (AK st') lo (lo+m) ((lo+m - lo) / 2)) lo m:=λi j x y hij hj hx hy=>by
              rw[BF hz2,if_pos (by lia)] at hx hy
              rw[show lo+(lo+m) - 1 - (lo+i)=lo+(m - 1 - i) by lia] at hx
              rw[show lo+(lo+m) - 1 - (lo+j)=lo+(m - 1 - j) by lia] at hy
              exact hsg _ _ y x (by lia) (by lia) hy hx
            refine share _ ⟨(SB.refl hk hS).mir (Ai _) (by lia) hz2,rv2,x0,a,?_,?_,?_⟩
            . show (mirror (AK st') lo (lo+m) ((lo+m - lo) / 2))[lo+m]?=_
              rw[BF hz2,if_neg (by lia)];exact hx0
            . show (mirror (AK st') lo (lo+m) ((lo+m - lo) / 2))[lo+m - 1]?=_
              rw[BF hz2,if_pos (by lia),show lo+(lo+m) - 1 - (lo+m - 1)=lo by lia];exact ha
            . have eb:b=y0:=by rw[hb] at hy0;exact Bc hy0
              subst eb
              exact O.tr x0 b a (hS _ _ hx0) (hS _ _ hb) (hS _ _ ha) (O.as x0 b (hS _ _ hx0) (hS _ _ hb) hl0) hr'
        . rw[if_neg hm]
          have em:m=1:=by lia
          subst em
          refine share _ ⟨SB.refl hk hS,λi j x y hij hj hx hy=>?_,x0,y0,hx0,hy0,O.as x0 y0 (hS _ _ hx0) (hS _ _ hy0) hl0⟩
          have ei:i=0:=by lia
          have ej:j=0:=by lia
          subst ei;subst ej
          rw[hx] at hy;cases hy
          exact O.rf (hS _ _ hx)
      case h =>
        rintro st1 ⟨sb1,rv1,x1,y1,hx1,hy1,hl1⟩
        have hz1:lo+nrem≤(AK st1).size:=by rw[sb1.size];exact hz
        refine Bo (wpS_lift (wpAny_rule ⟨rfl,?_⟩))
        obtain⟨p,rfl⟩:∃ p,m=p+1:=⟨m - 1,by lia⟩
        rw[show lo+(p+1) - 1=lo+p by lia] at hy1
        have rv2:Rev L (AK st1) lo (p+1+1):=rv1.more O sb1.all hy1 hx1 hl1
        refine Bo (wpS_mono (Dv (I:=λx c st2=>∃ q,c=(none,x,q)∧SB kd S st' st2 lo (lo+nrem)∧1≤x∧x≤nrem∧q<x∧Rev L (AK st2) lo x∧Blk L (AK st2) lo x q)
          (Q:=λc st2=>∃ x q,c=(none,x,q)∧SB kd S st' st2 lo (lo+nrem)∧1≤x∧x≤nrem∧q<x∧Rev L (AK st2) lo x∧Blk L (AK st2) lo x q) ?step ?fin ⟨0,rfl,sb1,by lia,by lia,by lia,rv2,Blk.one O sb1.all⟩) ?post)
        case fin =>
          rintro c st2 ⟨q,rfl,hh⟩
          exact⟨_,q,rfl,hh⟩
        case step =>
          rintro x c st2 hx1' hx2 ⟨q,rfl,sb2,hn1,hn2,hq,rv,bk⟩
          have hz2:lo+nrem≤(AK st2).size:=by rw[sb2.size];exact hz
          obtain⟨u,hu⟩:=zcj (st:=st2) (i:=lo+x) (by lia)
          obtain⟨v,hv⟩:=zcj (st:=st2) (i:=lo+x - 1) (by lia)
          obtain⟨r,rfl⟩:∃ r,x=r+1:=⟨x - 1,by lia⟩
          rw[show lo+(r+1) - 1=lo+r by lia] at hv
          refine Bo (zd7 O sb2.kind hu (by rw[show lo+(r+1) - 1=lo+r by lia];exact hv) (sb2.all _ _ hu) (sb2.all _ _ hv) ?_)
          dsimp only
          by_cases hl:L u v=true
          . rw[if_pos hl]
            have hvu:=O.as u v (sb2.all _ _ hu) (sb2.all _ _ hv) hl
            by_cases hq0:q > 0
            . rw[if_pos hq0,reverseSlice'_eq]
              refine Bo (wpS_modify ?_)
              have hzr:lo+(r+1)≤(AK st2).size:=by lia
              have sb3:=sb2.mir (i:=lo+(r+1) - (q+1)) (j:=lo+(r+1)) (by lia) (by lia) hzr
              have rv3:=rv.blk bk hq hzr
              refine BO ⟨0,rfl,sb3,by lia,by lia,by lia,?_,Blk.one O sb3.all⟩
              have hz3:r<r+1:=by lia
              obtain⟨v2,hv2⟩:=zcj (st:=setArr st2 (mirror (AK st2) (lo+(r+1) - (q+1)) (lo+(r+1)) ((lo+(r+1) - (lo+(r+1) - (q+1))) / 2))) (i:=lo+r) (by show lo+r<(mirror (AK st2) _ _ _).size;rw[mirror_size];lia)
              have hv2':(AK st2)[lo+(r+1 - (q+1)+r - r)]?=some v2:=by
                have h0:(mirror (AK st2) (lo+(r+1) - (q+1)) (lo+(r+1)) ((lo+(r+1) - (lo+(r+1) - (q+1))) / 2))[lo+r]?=some v2:=hv2
                rw[BF hzr,if_pos (by lia),show lo+(r+1) - (q+1)+(lo+(r+1)) - 1 - (lo+r)=lo+(r+1 - (q+1)+r - r) by lia] at h0
                exact h0
              refine rv3.more O sb3.all hv2 (y:=u) ?_ ?_
              . show (mirror (AK st2) (lo+(r+1) - (q+1)) (lo+(r+1)) ((lo+(r+1) - (lo+(r+1) - (q+1))) / 2))[lo+(r+1)]?=some u
                rw[BF hzr,if_neg (by lia)];exact hu
              . exact O.tr u v v2 (sb2.all _ _ hu) (sb2.all _ _ hv) (sb2.all _ _ hv2') hvu (rv _ r v2 v (by lia) (by lia) hv2' hv)
            . rw[if_neg hq0]
              exact BO ⟨0,rfl,sb2,by lia,by lia,by lia,rv.more O sb2.all hv hu hvu,Blk.one O sb2.all⟩
          . rw[if_neg hl]
            have hl':L u v=false:=by simpa using hl
            refine Bo (zd7 O sb2.kind (by rw[show lo+(r+1) - 1=lo+r by lia];exact hv) hu (sb2.all _ _ hv) (sb2.all _ _ hu) ?_)
            dsimp only
            by_cases hg:L v u=true
            . rw[if_pos hg]
              exact BO ⟨r+1,q,rfl,sb2,hn1,hn2,hq,rv,bk⟩
            . rw[if_neg hg]
              have hg':L v u=false:=by simpa using hg
              exact BO ⟨q+1,rfl,sb2,by lia,by lia,by lia,rv.more O sb2.all hv hu hg',bk.more O sb2.all hq hv hu hg' hl'⟩
        case post =>
          rintro c st2 ⟨x,q,rfl,sb2,hx1',hx2,hq,rv,bk⟩
          dsimp only
          have hz2:lo+nrem≤(AK st2).size:=by rw[sb2.size];exact hz
          refine zfk (D:=λst3=>SB kd S st' st3 lo (lo+nrem)∧Rev L (AK st3) lo x) ?C2 (λshare=>?g2) ?h2
          case g2 =>
            by_cases hq0:q > 0
            . rw[if_pos hq0,reverseSlice'_eq]
              refine Bo (wpS_modify ?_)
              exact share _ ⟨sb2.mir (by lia) (by lia) (by lia),rv.blk bk hq (by lia)⟩
            . rw[if_neg hq0]
              exact share _ ⟨sb2,rv⟩
          case h2 =>
            rintro st3 ⟨sb3,rv3⟩
            have hz3:lo+nrem≤(AK st3).size:=by rw[sb3.size];exact hz
            rw[reverseSlice'_eq]
            refine Bo (wpS_modify ?_)
            have sb4:=sb3.mir (i:=lo) (j:=lo+x) (Ai _) (by lia) (by lia)
            have sg4:=rv3.flip (show lo+x≤(AK st3).size by lia)
            have sg5:Seg L (AK (setArr st3 (mirror (AK st3) lo (lo+x) ((lo+x - lo) / 2)))) lo x:=sg4
            generalize setArr st3 (mirror (AK st3) lo (lo+x) ((lo+x - lo) / 2))=st4 at sb4 sg5
            have hz4:lo+nrem≤(AK st4).size:=by rw[sb4.size];exact hz
            refine Bo (wpS_mono (Dv (I:=λn c st5=>c=(none,n)∧st5=st4∧n≤nrem∧Seg L (AK st4) lo n) (Q:=λc st5=>∃ m,c=(none,m)∧st5=st4∧1≤m∧m≤nrem∧Seg L (AK st4) lo m) ?step ?fin ⟨rfl,rfl,hx2,sg5⟩) ?post)
            case fin =>
              rintro c st5 ⟨rfl,rfl,hle,hsg⟩
              exact⟨_,rfl,rfl,by lia,hle,hsg⟩
            case step =>
              rintro n c st5 hn1 hn2 ⟨rfl,rfl,hle,hsg⟩
              obtain⟨u,hu⟩:=zcj (st:=st5) (i:=lo+n) (by lia)
              obtain⟨v,hv⟩:=zcj (st:=st5) (i:=lo+n - 1) (by lia)
              refine Bo (zd7 O sb4.kind hu hv (sb4.all _ _ hu) (sb4.all _ _ hv) ?_)
              dsimp only
              by_cases hl:L u v=true
              . rw[if_pos hl]
                exact BO ⟨n,rfl,rfl,by lia,hle,hsg⟩
              . rw[if_neg hl]
                refine BO ⟨rfl,rfl,hn2,?_⟩
                obtain⟨p,rfl⟩:∃ p,n=p+1:=⟨n - 1,by lia⟩
                exact hsg.more O sb4.all (by rw[show lo+(p+1) - 1=lo+p by lia] at hv;exact hv) hu (by simpa using hl)
            case post =>
              rintro c st5 ⟨n,rfl,rfl,h1n,hn2,hsg⟩
              exact BO (hQ n st5 sb4 h1n hn2 hsg)
end
end TS
namespace TS
open PySem PyProof.Rows
section
variable {M:Model}{A:AJ}{E:Ac->Ae->Prop}{s:Ae}{kd:Ct}{S:Keyed->Prop}{L:Keyed->Keyed->Bool}
theorem SB.bub{st0 st:Ce}{lo hi i d:Nat}(h:SB kd S st0 st lo hi)(h1:lo<=i-d)(hd:d<=i)(h2:i<hi)(hz:i<(AK st).size):SB kd S st0 (setArr st (bubble (AK st) i d)) lo hi:=by
 refine⟨h.kind,h.pend,h.fail,(bubble_perm _ _ _).trans h.perm,λk hk=>?_,λk x hx=>?_⟩
 .show (bubble (AK st) i d)[k]?=_;rw[getElem?_bubble hz _ hd,if_neg (by lia),if_neg (by lia)];exact h.out k hk
 .have hx':(bubble (AK st) i d)[k]?=some x:=hx;rw[getElem?_bubble hz _ hd]at hx';split at hx'
  .exact h.all _ x hx'
  .split at hx'
   .exact h.all _ x hx'
   .exact h.all _ x hx'
theorem Seg.ins(O:LtOk M A E s kd S L){a:Array Keyed}{lo k l:Nat}{p:Keyed}(hS:∀(k:Nat) x, a[k]? = some x -> S x)(h:Seg L a lo k)(hlk:l <= k)(hz:lo + k < a.size)(hp:a[lo + k]? = some p)
  (h1:∀(i:Nat) x,i<l->a[lo+i]?=some x->L p x=false) (h2:∀(i:Nat) x,l<=i->i<k->a[lo+i]?=some x->L p x=true):Seg L (bubble a (lo+k) (lo+k-(lo+l))) lo (k+1):=by
 have at':∀(i:Nat) x,i<k+1->(bubble a (lo+k) (lo+k-(lo+l)))[lo+i]?=some x->(i<l/\a[lo+i]?=some x)∨(i=l/\x=p)∨(l<i/\a[lo+(i-1)]?=some x):=λi x hi hx=>by
  rw[getElem?_bubble hz _ (by lia)]at hx
  by_cases e:lo+i=lo+k-(lo+k-(lo+l))
  .rw[if_pos e,hp]at hx;exact .inr (.inl ⟨by lia,(Bc hx).symm⟩)
  .rw[if_neg e]at hx
   by_cases e2:lo+k-(lo+k-(lo+l))<lo+i/\lo+i<=lo+k
   .rw[if_pos e2,show lo+i-1=lo+(i-1) by lia]at hx;exact .inr (.inr ⟨by lia,hx⟩)
   .rw[if_neg e2]at hx;exact .inl ⟨by lia,hx⟩
 intro i j x y hij hj hx hy;have sp:=hS _ _ hp;rcases at' i x (by lia) hx with⟨a1,a2⟩ |⟨a1,a2⟩ |⟨a1,a2⟩
 .rcases at' j y hj hy with⟨b1,b2⟩ |⟨b1,b2⟩ |⟨b1,b2⟩
  .exact h i j x y hij (by lia) a2 b2
  .rw[b2];exact h1 i x a1 a2
  .exact h i (j-1) x y (by lia) (by lia) a2 b2
 .subst a2;rcases at' j y hj hy with⟨b1,b2⟩ |⟨b1,b2⟩ |⟨b1,b2⟩
  .lia
  .rw[b2];exact O.rf sp
  .exact O.as x y sp (hS _ _ b2) (h2 (j-1) y (by lia) (by lia) b2)
 .rcases at' j y hj hy with⟨b1,b2⟩ |⟨b1,b2⟩ |⟨b1,b2⟩
  .lia
  .lia
  .exact h (i-1) (j-1) x y (by lia) (by lia) a2 b2
theorem zdU(O:LtOk M A E s kd S L){st:Ce}{lo n ok:Nat}{Q:Bool -> Ce -> Prop}(hok : 1 <= ok)(hn:ok <= n)(hz:lo + n <= (AK st).size)(hk:kindOf st=kd)(hS:∀(k:Nat) x, (AK st)[k]? = some x -> S x)(hs:Seg L (AK st) lo ok)
  (hQ:∀st',SB kd S st st' lo (lo+n)->Seg L (AK st') lo n->Q true st'):wpS M A E s (binarySort' lo n ok) Q st:=by
 rw[binarySort'_eq];have em:max ok 1=ok:=by lia
 rw[em]
 refine Bo (wpS_mono (Dv (I:=λk c st'=>c=(none,())/\SB kd S st st' lo (lo+n)/\k<=n/\Seg L (AK st') lo k)
  (Q:=λc st'=>c=(none,())/\SB kd S st st' lo (lo+n)/\Seg L (AK st') lo n) ?step ?fin ⟨rfl,SB.refl hk hS,hn,hs⟩) ?post)
 case post =>
  rintro c st' ⟨rfl,sb,sg⟩;exact BO (hQ st' sb sg)
 case fin =>
  rintro c st' ⟨rfl,sb,hle,sg⟩;rw[show max ok n=n by lia]at sg;exact⟨rfl,sb,sg⟩
 case step =>
  rintro k c st' hk1 hk2 ⟨rfl,sb,hle,sg⟩;have hz':lo+n<=(AK st').size:=by rw[sb.size];exact hz
  obtain⟨p,hp⟩:=zcj (st:=st') (i:=lo+k) (by lia);dsimp only
  refine Bo (wpS_mono (Dv (I:=λx c st2=>∃l r,c=(none,l,r)/\st2=st'/\l<=r/\r<=k/\r-l<=k-x/\(∀(i:Nat) z,i<l->(AK st')[lo+i]?=some z->L p z=false)/\(∀(i:Nat) z,r<=i->i<k->(AK st')[lo+i]?=some z->L p z=true))
   (Q:=λc st2=>∃l,c=(none,l,l)/\st2=st'/\l<=k/\(∀(i:Nat) z,i<l->(AK st')[lo+i]?=some z->L p z=false)/\(∀(i:Nat) z,l<=i->i<k->(AK st')[lo+i]?=some z->L p z=true)) ?step2 ?fin2 ⟨0,k,rfl,rfl,AZ _,Ai _,Ai _,(λi z h=>absurd h (Nat.not_lt_zero _)),(λi z h1 h2=>absurd h2 (by lia))⟩) ?post2)
  case fin2 =>
   rintro c st2 ⟨l,r,rfl,rfl,h1,h2,h3,h4,h5⟩;have:l=r:=by lia
   subst this;exact⟨l,rfl,rfl,h2,h4,h5⟩
  case step2 =>
   rintro x c st2 _ hx ⟨l,r,rfl,rfl,h1,h2,h3,h4,h5⟩;dsimp only
   by_cases hlr:l ≥ r
   .rw[if_pos hlr];have:l=r:=by lia
    subst this;exact BO ⟨l,rfl,rfl,h2,h4,h5⟩
   .rw[if_neg hlr];obtain⟨u,hu⟩:=zcj (st:=st2) (i:=lo+(l+r) / 2) (by lia);refine Bo (zd7 O sb.kind hp hu (sb.all _ _ hp) (sb.all _ _ hu) ?_);dsimp only
    by_cases hl:L p u=true
    .rw[if_pos hl];refine BO ⟨l,(l+r) / 2,rfl,rfl,by lia,by lia,by lia,h4,λi z a1 a2 hz2=>?_⟩
     cases q:L p z with
     |true=>rfl
     |false =>
      have e1:=sg ((l+r) / 2) i u z a1 a2 hu hz2;have e2:=O.tr u z p (sb.all _ _ hu) (sb.all _ _ hz2) (sb.all _ _ hp) e1 q;rw[hl]at e2;cases e2
    .rw[if_neg hl];have hl':L p u=false:=by simpa using hl
     refine BO ⟨(l+r) / 2+1,r,rfl,rfl,by lia,by lia,by lia,λi z a1 hz2=>?_,h5⟩;have e1:=sg i ((l+r) / 2) z u (by lia) (by lia) hz2 hu;exact O.tr z u p (sb.all _ _ hz2) (sb.all _ _ hu) (sb.all _ _ hp) e1 hl'
  case post2 =>
   rintro c st2 ⟨l,rfl,rfl,h2,h4,h5⟩;dsimp only;rw[moveDown'_eq];refine Bo (wpS_modify (BO ⟨rfl,sb.bub (by lia) (by lia) (by lia) (by lia),by lia,?_⟩));exact sg.ins O sb.all h2 (by lia) hp h4 h5
end
end TS
set_option maxHeartbeats 8000000
namespace TS
open PySem PyProof.Rows
noncomputable def wr(a:Array Keyed)(o:Nat)(l:List Keyed)(k:Nat):Array Keyed:=(l.zipIdx k).foldl (λa (p:Keyed×Nat)=>a.setIfInBounds (o+p.2) p.1) a
section
variable {M:Model}{A:AJ}{E:Ac->Ae->Prop}{s:Ae}{kd:Ct}{S:Keyed->Prop}{L:Keyed->Keyed->Bool}
structure SM (kd:Ct) (S:Keyed->Prop) (L:Keyed->Keyed->Bool) (st0 st:Ce) (pd:Array (Nat×Nat×Nat)) (lo n:Nat):Prop where
 kind:kindOf st=kd
 pend:Db st=pd
 fail:C5 st=none
 perm:(AK st).Perm (AK st0)
 out:∀k:Nat,k<lo∨lo+n<=k->(AK st)[k]?=(AK st0)[k]?
 all:∀(k:Nat) x,(AK st)[k]?=some x->S x
 seg:Seg L (AK st) lo n
end
end TS
set_option maxHeartbeats 8000000
namespace TS
open PySem PyProof.Rows
noncomputable abbrev Run:=Nat×Nat×Nat
section
variable {M:Model}{A:AJ}{E:Ac->Ae->Prop}{s:Ae}{kd:Ct}{S:Keyed->Prop}{L:Keyed->Keyed->Bool}
noncomputable def Runs(L:Keyed->Keyed->Bool)(a:Array Keyed):List Run->Nat->Nat->Prop
 |[],x,y=>x=y
 |r::l,x,y=>r.1=x/\1<=r.2.1/\Seg L a r.1 r.2.1/\Runs L a l (x+r.2.1) y
structure PD (kd:Ct) (S:Keyed->Prop) (L:Keyed->Keyed->Bool) (a0:Array Keyed) (st:Ce) (lo:Nat):Prop where
 kind:kindOf st=kd
 fail:C5 st=none
 perm:(AK st).Perm a0
 all:∀(k:Nat) x,(AK st)[k]?=some x->S x
 runs:Runs L (AK st) (Db st).toList 0 lo
end
end TS
namespace L2
open PySem PySem.Spec PyProof.Rows
section
variable {X:Cx}{pins:List (Addr×Obj)}{σ:St}{H:Hp}{s:Ae}{D st:Addr}{e:Nat}{κV:Nat->List V}{ks:List Addr}{E:Ac->Ae->Prop}
end
section
variable {X:Cx}{x:Str}{p pos kp kpos:Pos}{e:Expr}{te:TE}{k:Nat}{f:Addr}{fd:BC}{ps:List Str}{sp:Sp}{fn:Str}
end
section
variable {prog:AH}{w:A4}{A:AJ}{R:Result->Ae->Prop}{s:Ae}
end
section
variable {X:Cx}{osc:Scope}{N:List Str}{sc:Scope}{N':List Str}{sel:List (Option Nat)}{pos:Pos}{elt kx vx tg iter tg2 iter2:Expr}{ifs ifs2:List Expr}{wi wi2:TI}{g g2:TG}{tt tt2:TT}{te tk tv:TE}
end
end L2
namespace RP
noncomputable def mv(i:Nat):Int×Int:=([(1,0),(1,1),(0,1),(-1,1),(-1,0),(-1,-1),(0,-1),(1,-1)]:List (Int×Int)).getD i (0,0)
noncomputable abbrev Cell:=Int×Int
noncomputable def go(c:Cell)(i:Nat):Cell:=(c.1+(mv i).1,c.2+(mv i).2)
structure Edge where
 c:Cell
 w:Nat
 deriving DecidableEq
noncomputable def gap(e:Edge):Cell:=go e.c ((2*e.w+6) % 8)
noncomputable def stepB(C:Cell->Bool)(e:Edge):Option Nat :=
 if C (go e.c ((2*e.w+7) % 8))=true then some ((2*e.w+7) % 8) else if C (go e.c (2*e.w))=true then some (2*e.w) else none
noncomputable def slant:Option Nat->Bool
 |none=>false
 |some s=>s % 2 == 1
noncomputable def edgeB(e:Edge):Option Nat->Edge
 |none=>⟨e.c,(e.w+1) % 4⟩
 |some s=>if s % 2=1 then ⟨go e.c s,(e.w+3) % 4⟩ else ⟨go e.c s,e.w⟩
noncomputable def nxt(C:Cell->Bool)(e:Edge):Edge:=edgeB e (stepB C e)
noncomputable def IsE(C:Cell->Bool)(e:Edge):Prop:=e.w<4/\C e.c=true/\C (gap e)=false
noncomputable def prv(C:Cell->Bool)(f:Edge):Edge :=
 if C (go f.c ((2*f.w+5) % 8))=true then ⟨go f.c ((2*f.w+5) % 8),(f.w+1) % 4⟩
 else if C (go f.c ((2*f.w+4) % 8))=true then ⟨go f.c ((2*f.w+4) % 8),f.w⟩ else ⟨f.c,(f.w+3) % 4⟩
theorem way4{w:Nat}(h:w<4):w=0∨w=1∨w=2∨w=3:=by lia
noncomputable def mvAdd(a b d:Nat):Bool:=(mv a).1+(mv b).1 == (mv d).1 && (mv a).2+(mv b).2 == (mv d).2
noncomputable def mvNil(a b:Nat):Bool:=(mv a).1+(mv b).1 == 0 && (mv a).2+(mv b).2 == 0
theorem go_go{c:Cell}{a b d:Nat}(h:mvAdd a b d=true):go (go c a) b=go c d:=by unfold mvAdd at h;simp only[A9,beq_iff_eq]at h;unfold go;exact Cm (by show c.1+(mv a).1+(mv b).1=c.1+(mv d).1;lia) (by show c.2+(mv a).2+(mv b).2=c.2+(mv d).2;lia)
theorem zgt{c:Cell}{a b:Nat}(h:mvNil a b=true):go (go c a) b=c:=by unfold mvNil at h;simp only[A9,beq_iff_eq]at h;unfold go;exact Cm (by show c.1+(mv a).1+(mv b).1=c.1;lia) (by show c.2+(mv a).2+(mv b).2=c.2;lia)
theorem f1:∀w<4,mvAdd ((2*w+7) % 8) ((2*((w+3) % 4)+6) % 8) ((2*w+6) % 8)=true:=by decide
theorem f2:∀w<4,mvAdd (2*w) ((2*w+6) % 8) ((2*w+7) % 8)=true:=by decide
theorem f3:∀w<4,(2*((w+1) % 4)+6) % 8=2*w:=by decide
theorem f4:∀w<4,mvNil ((2*w+7) % 8) ((2*((w+3) % 4)+5) % 8)=true:=by decide
theorem f5:∀w<4,mvAdd (2*w) ((2*w+5) % 8) ((2*w+6) % 8)=true:=by decide
theorem f6:∀w<4,mvNil (2*w) ((2*w+4) % 8)=true:=by decide
theorem f7:∀w<4,(2*((w+1) % 4)+5) % 8=(2*w+7) % 8:=by decide
theorem f8:∀w<4,(2*((w+1) % 4)+4) % 8=(2*w+6) % 8:=by decide
theorem odd7(w:Nat):(2*w+7) % 8 % 2=1:=by lia
theorem zaT{C:Cell -> Bool}{e:Edge}(h:IsE C e) :
  (C (go e.c ((2*e.w+7) % 8))=true/\stepB C e=some ((2*e.w+7) % 8)/\nxt C e=⟨go e.c ((2*e.w+7) % 8),(e.w+3) % 4⟩) ∨
  (C (go e.c ((2*e.w+7) % 8))=false/\C (go e.c (2*e.w))=true/\stepB C e=some (2*e.w)/\nxt C e=⟨go e.c (2*e.w),e.w⟩) ∨
  (C (go e.c ((2*e.w+7) % 8))=false/\C (go e.c (2*e.w))=false/\stepB C e=none/\nxt C e=⟨e.c,(e.w+1) % 4⟩):=by
 unfold nxt stepB
 by_cases h1:C (go e.c ((2*e.w+7) % 8))=true
 .left;rw[if_pos h1];exact⟨h1,rfl,by simp only[edgeB];rw[if_pos (odd7 _)]⟩
 .right;have h1':C (go e.c ((2*e.w+7) % 8))=false:=by simpa using h1
  rw[if_neg h1]
  by_cases h2:C (go e.c (2*e.w))=true
  .left;rw[if_pos h2];exact⟨h1',h2,rfl,by simp only[edgeB];rw[if_neg (by lia)]⟩
  .right;rw[if_neg h2];exact⟨h1',by simpa using h2,rfl,rfl⟩
theorem zc9{C:Cell->Bool}{e:Edge}(h:IsE C e):IsE C (nxt C e):=by
 obtain⟨hw,hc,hg⟩:=id h;rcases zaT h with⟨h1,_,q⟩ |⟨h1,h2,_,q⟩ |⟨h1,h2,_,q⟩ <;> rw[q]
 .refine⟨BA _ (by decide),h1,?_⟩;unfold gap;rw[go_go (f1 _ hw)];exact hg
 .refine⟨hw,h2,?_⟩;unfold gap;rw[go_go (f2 _ hw)];exact h1
 .refine⟨BA _ (by decide),hc,?_⟩;unfold gap;simp only;rw[f3 _ hw];exact h2
theorem zim{C:Cell->Bool}{e:Edge}(h:IsE C e):prv C (nxt C e)=e:=by
 obtain⟨hw,hc,hg⟩:=id h;unfold gap at hg;rcases zaT h with⟨h1,_,q⟩ |⟨h1,h2,_,q⟩ |⟨h1,h2,_,q⟩ <;> rw[q] <;> unfold prv <;> simp only
 .rw[zgt (f4 _ hw),if_pos hc];rw[show ((e.w+3) % 4+1) % 4=e.w by lia]
 .rw[go_go (f5 _ hw),hg,if_neg (by decide),zgt (f6 _ hw),if_pos hc]
 .rw[f7 _ hw,h1,if_neg (by decide),f8 _ hw,hg,if_neg (by decide)];rw[show ((e.w+1) % 4+3) % 4=e.w by lia]
theorem zdH{C:Cell->Bool}{e f:Edge}(he:IsE C e)(hf:IsE C f)(h:nxt C e=nxt C f):e=f:=by rw[<- zim he,<- zim hf,h]
noncomputable def Chain(C:Cell->Bool)(b:Edge)(es:List Edge):Prop:=es[0]?=some b/\(∀i e f,es[i]?=some e->es[i+1]?=some f->f=nxt C e)/\(∀e∈es,IsE C e)/\es.Nodup
theorem Chain.start{C:Cell->Bool}{b:Edge}(h:IsE C b):Chain C b [b] :=
 ⟨rfl,λi e f _ h2=>by simp at h2,λe he=>by rw[Ap.mp he];exact h,by simp⟩
theorem Chain.more{C:Cell->Bool}{b l:Edge}{es:List Edge}(h:Chain C b (es++[l]))(hn:nxt C l≠b):Chain C b ((es++[l])++[nxt C l]):=by
 obtain⟨h0,hs,hE,hnd⟩:=h;have hl:(es++[l])[es.length]?=some l:=by simp
 have lE:=hE l (by simp);refine⟨?_,λi e f h1 h2=>?_,λe he=>?_,?_⟩
 .rw[AE (by simp)];exact h0
 .rcases AX (i+1) (es++[l]).length with hi |hi
  .rw[AE (by lia)]at h1;rw[AE hi]at h2;exact hs i e f h1 h2
  .have hi2:=(Ad.mp h2).1;simp at hi2 hi;have hi3:i=es.length:=by lia
   subst hi3;rw[AE (by simp)]at h1;rw[hl]at h1
   cases h1
   rw[AQ (by simp)]at h2;simp at h2;exact h2.symm
 .rcases AW.mp he with he |he
  .exact hE e he
  .rw[Ap.mp he];exact zc9 lE
 .rw[CF];refine⟨hnd,by simp,λx hx y hy=>?_⟩;rw[Ap.mp hy];intro e;subst e;obtain⟨i,hi,ei⟩:=Au hx;rcases Nat.eq_zero_or_pos i with rfl |hp
  .rw[Aa hi,ei]at h0;exact hn (Bc h0)
  .have hi':i-1<(es++[l]).length:=by lia
   have e1:=hs (i-1) ((es++[l])[i-1]) (nxt C l) (Aa hi') (by rw[show i-1+1=i by lia,Aa hi,ei]);have e2:=zdH lE (hE _ (A7 hi')) e1;have e3:es.length=i-1:=(CG (by simp) hnd).mp (by rw[hl,Aa hi',<- e2]);simp at hi;lia
theorem zap{α:Type} [DecidableEq α]:∀{a b:List α},a.Nodup->(∀x∈a,x∈b)->a.length<=b.length
 |[],_,_,_=>AZ _
 |x::a,b,hn,hs=>by
  have hx:x∈b:=hs x AC
  have h1:=zap (a:=a) (b:=b.erase x) (B9.mp hn).2 (λy hy=>by refine (List.mem_erase_of_ne ?_).mpr (hs y (At _ hy));intro e;subst e;exact (B9.mp hn).1 hy)
  rw[List.length_erase_of_mem hx]at h1;have:0<b.length:=CW hx;simp only[A3];lia
noncomputable def sides(cs:List Cell):List Edge:=cs.flatMap λc=>(AG 4).map λw=>⟨c,w⟩
theorem zb5(cs:List Cell):(sides cs).length=4*cs.length:=by
 unfold sides
 induction cs with
 |nil=>rfl
 |cons c r ih=>rw[List.flatMap_cons,Ak,ih];simp;lia
theorem zdJ{cs:List Cell}{e:Edge}:e∈sides cs ↔ e.c∈cs/\e.w<4:=by
 unfold sides;rw[List.mem_flatMap];constructor
 .rintro⟨c,hc,h⟩;obtain⟨w,hw,rfl⟩:=Ay.mp h;exact⟨hc,BB.mp hw⟩
 .rintro⟨hc,hw⟩;exact⟨e.c,hc,Ay.mpr ⟨e.w,BB.mpr hw,rfl⟩⟩
noncomputable def isIn(cs:List Cell)(c:Cell):Bool:=decide (c∈cs)
theorem Chain.short{cs:List Cell}{b:Edge}{es:List Edge}(h:Chain (isIn cs) b es):es.length<=4*cs.length:=by rw[<- zb5];exact zap h.2.2.2 λe he=>zdJ.mpr ⟨of_decide_eq_true (h.2.2.1 e he).2.1,(h.2.2.1 e he).1⟩
noncomputable def allE(cs:List Cell):List Edge:=(sides cs).filter λe=>!isIn cs (gap e)
theorem zgY{cs:List Cell}{e:Edge}:e∈allE cs ↔ IsE (isIn cs) e:=by
 unfold allE;rw[List.mem_filter,zdJ];unfold IsE isIn;constructor
 .rintro⟨⟨h1,h2⟩,h3⟩;exact⟨h2,decide_eq_true h1,by simpa using h3⟩
 .rintro⟨h1,h2,h3⟩;exact⟨⟨of_decide_eq_true h2,h1⟩,by simpa using h3⟩
noncomputable def dx(w:Nat):Int:=if w=0 then 1 else if w=2 then -1 else 0
noncomputable def dy(w:Nat):Int:=if w=1 then 1 else if w=3 then -1 else 0
noncomputable def px(e:Edge):Int:=e.c.1+(if e.w=1∨e.w=2 then 1 else 0)
noncomputable def py(e:Edge):Int:=e.c.2+(if e.w=2∨e.w=3 then 1 else 0)
theorem zfy{C:Cell->Bool}{e:Edge}(h:IsE C e):px (nxt C e)=px e+dx e.w/\py (nxt C e)=py e+dy e.w:=by
 have hw:=h.1
 rcases zaT h with⟨_,_,q⟩ |⟨_,_,_,q⟩ |⟨_,_,_,q⟩ <;> rw[q] <;> obtain⟨c,w⟩:=e <;> simp only at hw <;>
  rcases way4 hw with rfl |rfl |rfl |rfl <;> simp[px,py,dx,dy,go,mv] <;> lia
theorem zj8{C:Cell->Bool}{e:Edge}(h:IsE C e):(nxt C e).w=(e.w+3) % 4∨(nxt C e).w=e.w∨(nxt C e).w=(e.w+1) % 4:=by
 rcases zaT h with⟨_,_,q⟩ |⟨_,_,_,q⟩ |⟨_,_,_,q⟩ <;> rw[q]
 .exact .inl rfl
 .exact .inr (.inl rfl)
 .exact .inr (.inr rfl)
noncomputable def Closed(C:Cell->Bool)(b:Edge)(es:List Edge):Prop:=Chain C b es/\∃l,es[es.length-1]?=some l/\nxt C l=b
theorem psum{C:Cell->Bool}{b:Edge}{es:List Edge}(h:Chain C b es):∀i e,es[i]?=some e->px e=px b+((es.take i).map λe=>dx e.w).sum/\py e=py b+((es.take i).map λe=>dy e.w).sum
 | 0,e,he=>by
  have h0:=h.1;rw[he]at h0
  cases h0
  simp
 |i+1,e,he=>by
  have hi:i+1<es.length:=(Ad.mp he).1;have h1:es[i]?=some es[i]:=Aa (by lia)
  obtain⟨a,c⟩:=psum h i _ h1;have hn:=h.2.1 i _ e h1 he;obtain⟨p,q⟩:=zfy (h.2.2.1 _ (A7 (show i<es.length by lia)));rw[<- hn]at p q;rw[Dt,h1];simp only[Option.toList_some,AA,AT,List.map_nil,DL,BD,List.sum_nil];lia
theorem Closed.sums{C:Cell->Bool}{b:Edge}{es:List Edge}(h:Closed C b es):(es.map λe=>dx e.w).sum=0/\(es.map λe=>dy e.w).sum=0:=by
 obtain⟨hc,l,hl,hb⟩:=h;have hlt:=(Ad.mp hl).1;obtain⟨a,c⟩:=psum hc _ l hl;have hlm:=(Ad.mp hl).2;obtain⟨p,q⟩:=zfy (hc.2.2.1 l (by rw[<- hlm];exact A7 _));rw[hb]at p q
 have e:es=es.take (es.length-1)++[l]:=by have:=Dt (l:=es) (i:=es.length-1);rw[hl,show es.length-1+1=es.length by lia,AV]at this;simpa using this
 have s1:(es.map λe=>dx e.w).sum=((es.take (es.length-1)).map λe=>dx e.w).sum+dx l.w:=by
  conv=>lhs;rw[e]
  simp
 have s2:(es.map λe=>dy e.w).sum=((es.take (es.length-1)).map λe=>dy e.w).sum+dy l.w:=by
  conv=>lhs;rw[e]
  simp
 lia
theorem zhh{l:List Int}(h:∀x∈l,0<=x):0<=l.sum:=by
 induction l with
 |nil=>simp
 |cons a r ih =>
  have:=h a AC;have:=ih λx hx=>h x (At _ hx)
  simp only[BD];lia
theorem zex{l:List Int}(h:∀x∈l,0<=x)(hs:l.sum=0):∀x∈l,x=0:=by
 induction l with
 |nil=>intro x hx;cases hx
 |cons a r ih =>
  have h1:=h a AC;have h2:=zhh λx hx=>h x (At _ hx)
  simp only[BD]at hs;intro x hx;rcases Aw.mp hx with rfl |hx
  .lia
  .exact ih (λx hx=>h x (At _ hx)) (by lia) x hx
theorem ziz(l:List Int):(l.map λx=>-x).sum=-l.sum:=by
 induction l with
 |nil=>rfl
 |cons a r ih=>simp only[AT,BD,ih];lia
theorem zfP(l:List Int)(d:Int)(h:∀x∈l,x=d):l.sum=d*l.length:=by
 induction l with
 |nil=>simp
 |cons a r ih =>
  have h1:=h a AC;have h2:=ih λx hx=>h x (At _ hx)
  simp only[BD,A3,h1,h2];rw[Int.natCast_add,Int.mul_add];lia
theorem Closed.has{C:Cell->Bool}{b:Edge}{es:List Edge}(h:Closed C b es){k:Nat}(hk:k=0∨k=2):∃e∈es,e.w=k:=by
 apply Bh
 intro hno;have hno':∀e∈es,e.w≠k:=λe he z=>hno ⟨e,he,z⟩
 obtain⟨s1,s2⟩:=h.sums;obtain⟨hc,_⟩:=h
 have hpos:0<es.length:=by have:=hc.1;exact (Ad.mp this).1
 have z:∀e∈es,dx e.w=0:=by
  rcases hk with rfl |rfl
  .have := zex (l := (es.map λe => dx e.w).map λx => -x) (λx hx => by obtain⟨y,hy,rfl⟩:=Ay.mp hx;obtain⟨e,he,rfl⟩:=Ay.mp hy;have:=hno' e he;unfold dx;rw[if_neg this];split <;> decide) (by rw[ziz,s1];rfl)
   intro e he;have:=this (-(dx e.w)) (Ay.mpr ⟨_,Ay.mpr ⟨e,he,rfl⟩,rfl⟩);lia
  .have := zex (l := es.map λe => dx e.w) (λx hx => by obtain⟨e,he,rfl⟩:=Ay.mp hx;have:=hno' e he;unfold dx;rw[if_neg this];split <;> decide) s1
   intro e he;exact this _ (Ay.mpr ⟨e,he,rfl⟩)
 have odd:∀e∈es,e.w=1∨e.w=3:=λe he=>by
  have h4:=(hc.2.2.1 e he).1;have hz:=z e he;rcases way4 h4 with q |q |q |q
  .rw[q]at hz;exact absurd hz (by decide)
  .exact .inl q
  .rw[q]at hz;exact absurd hz (by decide)
  .exact .inr q
 have same:∀(i:Nat) (e:Edge),es[i]?=some e->e.w=b.w:=by
  intro i
  induction i with
  |zero=>intro e he;have:=hc.1;rw[he]at this;cases this;rfl
  |succ i ih =>
   intro e he;have hi:i+1<es.length:=(Ad.mp he).1;have h1:es[i]?=some es[i]:=Aa (by lia)
   have hn:=hc.2.1 i _ e h1 he;have m1:es[i]∈es:=A7 _;have m2:e∈es:=Aj he;have w1:=ih _ h1;have o1:=odd _ m1;have o2:=odd _ m2;have:=zj8 (hc.2.2.1 _ m1);rw[<- hn]at this;lia
 have all:∀x∈es.map (λe=>dy e.w),x=dy b.w:=λx hx=>by obtain⟨e,he,rfl⟩:=Ay.mp hx;obtain⟨i,hi,ei⟩:=Au he;rw[same i e (by rw[Aa hi,ei])]
 have t:=zfP _ _ all;rw[s2,Ag]at t
 have ob:b.w=1∨b.w=3:=by have:=hc.1;exact odd b (Aj this)
 have d1:dy b.w=1∨dy b.w=-1:=by rcases ob with q |q <;> rw[q] <;> decide
 rcases d1 with q |q <;> rw[q]at t <;> lia
end RP
namespace L2
open PySem PySem.Spec PyProof.Rows
structure Fn (P:AH) (w:A4) (K:W.Frag) (mg:Str->Option Ac) (base:Heap) (k:Nat) (x:Str) (ps:List Str) (sp:Sp) where
 f:Addr
 fd:BC
 ok:FnOk P w K mg base CX0 k f fd ps sp
 m:mg x=some (.ref f)
 kp:DD K (.ref f)=true
 b:Binds K fd ps []
structure Df (K:W.Frag) (mg:Str->Option Ac) (x:Str) (st:Stmt) (ps:List Str) where
 f:Addr
 fd:BC
 F:Fun K x x st f fd
 m:mg x=some (.ref f)
 b:Binds K fd ps []
noncomputable def Df.fn{P:AH}{w:A4}{K:W.Frag}{mg:Str->Option Ac}{base:Heap}{k:Nat}{x:Str}{st:Stmt}{ps:List Str}{sp:Sp}(d:Df K mg x st ps)(h:FnOk P w K mg base CX0 k d.f d.fd ps sp):Fn P w K mg base k x ps sp :=
 ⟨d.f,d.fd,h,d.m,d.F.kp,d.b⟩
structure Ways (P:AH) (w:A4) (K:W.Frag) (mg:Str->Option Ac):Prop where
 ex:∃(B:Addr) (t1 t2 t3 t4:Tok) (n:Nat),mg "BEGIN_WAYS" = some (.ref B)/\K.lookup B=some ⟨.type "dict",none,.dict #[⟨BJ w.params "rim",.str "rim" t1,.int 0 t2⟩,⟨BJ w.params "hole",.str "hole" t3,.int 2 t4⟩] n,#[]⟩
noncomputable def tWays (ti:TE):TE:=λσ H Q=>ti σ H λy H1=>(y=.str "rim" /\ Q (.int 0) H1)∨(y=.str "hole" /\ Q (.int 2) H1)
theorem ziq {X:Cx}{i:Expr}{ti:TE}{p pos:Pos}(hg:Gl X "BEGIN_WAYS") (hw:Ways X.prog X.w X.K X.mg) (hi:PE X i ti) (hs:NoSl i:=by exact λ_ _=>rfl):PE X (.Subscript (.Name "BEGIN_WAYS" p) i pos) (tWays ti):=by
 intro pins s σ H Q I h;obtain⟨B,t1,t2,t3,t4,n,hm,hl⟩:=hw.ex;refine zhV PySem.F.slot_dict_getitem.lookup hs (thn ((zeN (v:=.ref B) hg hm rfl:PE X (.Name "BEGIN_WAYS" p) _) pins s σ H (λv H1=>v=V.ref B/\H1=H) I ⟨rfl,rfl⟩) λu s1 ⟨x,H1,I1,rx,q1⟩=>?_);obtain⟨rfl,rfl⟩:=q1;obtain rfl:u=Ar B:=rx;refine thn (hi pins s1 σ H1 _ I1 h) λiv s2 ⟨y,H2,I2,ry,q2⟩=>?_
 have ho:s2.heap.get? B=some _:=I2.kIn B _ hl
 have mo:s2.heap.MapOf (zaz X.prog X.w) B (PySem.findBy (zaz X.prog X.w).is #[⟨BJ X.w.params "rim",.str "rim" t1,.int 0 t2⟩,⟨BJ X.w.params "hole",.str "hole" t3,.int 2 t4⟩]) :=
  ⟨_,_,_,ho,⟨rfl,rfl,rfl⟩,rfl,λe he=>by
   simp only[List.mem_toArray,List.mem_cons,List.not_mem_nil,or_false]at he;rcases he with rfl |rfl
   .exact⟨.inr "rim",zbB _ _ _ _,rfl⟩
   .exact⟨.inr "hole",zbB _ _ _ _,rfl⟩,λ_=>rfl⟩
 refine⟨⟨_,ho,rfl⟩,?_⟩;rcases q2 with⟨rfl,q⟩ |⟨rfl,q⟩
 .exact wpAny_getItem_of (kV_is (k:=.inr "rim") ry) mo (v:=.int 0 t2) rfl ⟨.int 0,H2,I2.tok _,⟨_,rfl⟩,q⟩
 .exact wpAny_getItem_of (kV_is (k:=.inr "hole") ry) mo (v:=.int 2 t4) rfl ⟨.int 2,H2,I2.tok _,⟨_,rfl⟩,q⟩
section
variable {X:Cx}{K:W.Frag}
theorem zci(hK:X.K=K:=by rfl):IxR X (rIxT K):=by subst hK;exact zcO
theorem zg3(hK:X.K=K:=by rfl):IxR X (rIxL K):=by subst hK;exact zaR
theorem ze5 (hK:X.K=K:=by rfl):CallR X (.builtin "len") (λxs H Q=>∃p ys,xs=[.ref p]/\(SqL K H p ys∨SqT K H p ys)/\Q (.int ys.length) H):=by subst hK;exact zav
theorem zbA{es:List Expr}{k:Nat}{t:TGs}{n:Nat}{pos:Pos}(hc:X.calm=true)(h:PGs X es t)
  (hn:(Cp es X.env).length=n:=by rfl) (hst:(Cp es X.env).findIdx? (·.1)=none:=by rfl) (hK:X.K=K:=by rfl):PG X (.Tuple es k pos) (gTup K n t):=by
 subst hK;exact za2 hc h hn hst
end
theorem ziD (a b c d:Ac):argsOk "min" ⟨[a,b,c,d],[]⟩:=by unfold argsOk;kernel_rfl
section
variable {X:Cx}
theorem zjj (hc:X.calm=true):CallR X (.builtin "min") (λxs H Q=>∃i j k l,xs=[.int i,.int j,.int k,.int l]/\∀n,Q (.int n) H):=by
 intro pins s σ H xs us Q I r h;obtain⟨i,j,k,l,rfl,q⟩:=h
 cases r with
 |cons r1 r =>
 cases r with
 |cons r2 r =>
 cases r with
 |cons r3 r =>
 cases r with
 |cons r4 r =>
 cases r with
 |nil =>
 obtain⟨t1,rfl⟩:=r1;obtain⟨t2,rfl⟩:=r2;obtain⟨t3,rfl⟩:=r3;obtain⟨t4,rfl⟩:=r4;have hh:=I.ok.hd hc;have nm:(CQ "min" ++ CQ ".loop" : String) = "min.loop":=by decide
 refine call_function_tree F.kind_min F.plain_min F.entry_min (ziD _ _ _ _) ?_
 show Ao _ X.A.in1 (Bl "min" ["key","default"] 0 ⟨[],[]⟩ >>= _) _ _ s;refine Ab (wpAny_of_eq (show Bl "min" ["key","default"] 0 ⟨[],[]⟩=pure [none,none] from rfl) ?_);show Ao _ X.A.in1 (newTuple [.int i t1,.int j t2,.int k t3,.int l t4] >>= _) _ _ s;refine Ab (By ?_);have hT:(s.heap.push { cls:=.type "tuple",data:=.seq #[.int i t1,.int j t2,.int k t3,.int l t4] }).IsTuple s.heap.objs.size (intItems #[(i,t1),(j,t2),(k,t3),(l,t4)]):=⟨_,Aq _ rfl,rfl,0,by simp[intItems]⟩;refine Ab (wpAny_pyIter_tuple hT ?_);refine Ab (By ?_);rw[nm];generalize e1:s.heap.push { cls:=.type "tuple",data:=.seq #[.int i t1,.int j t2,.int k t3,.int l t4] }=h1 at hT;have hs1:h1.objs.size=s.heap.objs.size+1:=by rw[<- e1];exact Heap.size_push ..
 have k1:∀b o,s.heap.get? b=some o->h1.get? b=some o:=λb o e=>by rw[<- e1];exact Af _ e
 show Ao (Ax X.prog X.w) X.A.in1 (again (.builtin "min.loop" ⟨[.ref h1.objs.size,.none,.ref (h1.push _).objs.size],[]⟩)) _ _ { s with heap:=(h1.push _).push _ };have hs2:∀o:Obj,(h1.push o).objs.size=s.heap.objs.size+2:=λo=>by rw[Heap.size_push,hs1]
 have W:=Walks.tuple (prog:=X.prog) (w:=X.w) (A:=X.A.in1) hh h1.objs.size s.heap.objs.size (by rw[hs1];exact AI (Nat.lt_succ_self _)) (intItems #[(i,t1),(j,t2),(k,t3),(l,t4)])
 refine Ah ⟨BK F.plain_min_loop _,codeAny_min_loop_first W _ (CmpOf.ints_lt (numAt #[(i,t1),(j,t2),(k,t3),(l,t4)]) (λ_ _=>intItems_at)) _ (λhm=>?_) (by simp[intItems])
  (W.frame _ _ _ ⟨⟨_,Aq _ rfl,rfl,rfl⟩,hT.push _⟩ λb _ o e=>Af _ e) (Aq _ rfl) λv h' tk hP hk=>?_⟩
 .rw[hs2]at hm;rcases Aw.mp hm with z |z
  .rw[hs1]at z;have z':(s.heap.objs.size+2:Nat)=s.heap.objs.size+1:=z;lia
  .have z':(s.heap.objs.size+2:Nat)=s.heap.objs.size:=Ap.mp z;lia
 .obtain⟨t,ht⟩:=intItems_at hP;refine⟨.int _,H,I.kept λb o e=>hk b o (λhm=>?_) ?_ (Af _ (Af _ (k1 b o e))),⟨t,ht⟩,q _⟩
  .have h1':=Av e;have z:=Ap.mp hm;rw[hs1]at z;subst z;exact absurd h1' (Nat.not_lt_of_le (Cd _))
  .have h1':=Av e;intro z;rw[hs2]at z;subst z;exact absurd h1' (Nat.not_lt_of_le (Nat.le_add_right _ 2))
noncomputable def rSlTW(K:W.Frag):V->Option Int->Option Int->Hp->VK->Prop:=λx lo hi H Q=>∃a xs,x=.ref a/\SqT K H a xs /\
 ((HT.sIx xs.length 0 lo=0/\HT.sIx xs.length xs.length hi=xs.length)->Q (.ref a) H) /\
 (¬ (HT.sIx xs.length 0 lo=0/\HT.sIx xs.length xs.length hi=xs.length)->∀p,H p=none->Q (.ref p) (upd H p (.tup (cutV xs lo hi))))
end
end L2
namespace HT
open PySem PyProof.Rows
variable {prog:AH}{w:A4}{A:AJ}{E:Ac->Ae->Prop}{s:Ae}
theorem getItem_tuple_all{t sl:Addr}{items:Array Ac}{vl vu:Ac}{lo hi:Option Int}{Q:Ac -> Ae -> Prop}(ht:IsTup s.heap t items)(hs:s.heap.IsSliceOf sl vl vu .none)(pl:IsPart vl lo)(pu:IsPart vu hi)
  (hw:sIx items.size 0 lo=0/\sIx items.size items.size hi=items.size) (h:Q (.ref t) s):Ao (Ax prog w) A (getItem (.ref t) (.ref sl)) Q E s:=by
 obtain⟨os,hos,hcs,hds⟩:=id hs;have hTs:s.TypeIs (.ref sl) "slice":=⟨os,hos,hcs⟩;unfold getItem
 try with_reducible refine A1 ?_
 first |refine Ab (Ah ?_) |skip
 refine Ab (wpAny_sequenceKey ht.typeIs (by decide) ?_)
 refine Ab (CO (name:=Bd "__getitem__") ht.typeIs Bv
  (Du Bv ht.typeIs entry_tuple_getitem ?_ (args_tuple_getitem _ _)))
 show Ao _ _ (Builtin.Tuple.tupleItemsOf (.ref t) >>= _) _ _ s;refine Ab (tupleItemsOf_ ht ?_);refine Ab (wpAny_typeOf hTs ?_);rw[if_pos (by decide)];refine Ab (zb2 hs pl pu ?_)
 have hyes:(((sIx items.size 0 lo:Nat):Int) == 0 && (1:Int) == 1 && (sIx items.size items.size hi-sIx items.size 0 lo) == items.size)=true:=by rw[hw.1,hw.2];simp
 show Ao _ _ (if (((sIx items.size 0 lo:Nat):Int) == 0 && (1:Int) == 1 && (sIx items.size items.size hi-sIx items.size 0 lo) == items.size)=true then _ else _) _ _ s;rw[if_pos hyes];refine Ab ?_
 unfold Builtin.Tuple.tupleIsExact;refine Ab (wpAny_typeOf ht.typeIs (Ah ?_));rw[if_pos (by decide)];exact Ab (wpAny_rule (Ah ⟨_,rfl,Ah h⟩))
end HT
namespace L2
open PySem PySem.Spec PyProof.Rows
section
variable {X:Cx}{K:W.Frag}
theorem zh9:SlR X (rSlTW X.K):=by
 intro pins s σ H x v vl vu lo hi sl Q I rx hs pl pu h;obtain⟨a,xs,rfl,hx,q1,q2⟩:=h
 by_cases hw:HT.sIx xs.length 0 lo=0/\HT.sIx xs.length xs.length hi=xs.length
 .cases rx
  obtain⟨its,r,ht,hz⟩:=I.tuple hx;have hlen:its.toArray.size=xs.length:=by rw[An];exact r.length.symm
  refine⟨"tuple",_,Bv.lookup,ht.typeIs,?_⟩;exact HT.getItem_tuple_all ht hs pl pu (by rw[hlen];exact hw) ⟨.ref a,H,I,rfl,q1 hw⟩
 .exact zlr pins s σ H _ v vl vu lo hi sl Q I rx hs pl pu ⟨a,xs,rfl,hx,hw,q2 hw⟩
theorem zjx(hK:X.K=K:=by rfl):SlR X (rSlTW K):=by subst hK;exact zh9
end
section
variable {prog:AH}{w:A4}{K:Type} [DecidableEq K] {knd:HeapKind prog w K}{A:AJ}{E:Ac->Ae->Prop}{s:Ae}{d a:Addr}{xs:List (K×Addr×Ac)}{k:K}{dflt:Ac}
theorem zen{p:Addr×Ac}(h:atKey xs k=some p):∃j:Nat,xs[j]?=some (k,p):=by
 unfold atKey at h;obtain⟨x,hx,e⟩:=Bn.mp h;have hm:=List.mem_of_find?_eq_some hx;have hk:=List.find?_some hx;obtain⟨j,hj,ej⟩:=Au hm;have:x.1=k:=by simpa using hk
 exact⟨j,by rw[Aa hj,ej,<- e,<- this]⟩
theorem zj5{p:Addr×Ac}{j:Nat}(hn:(xs.map λx=>x.1).Nodup)(h:xs[j]?=some (k,p)):atKey xs k=some p:=by
 cases e:atKey xs k with
 |none =>
  exfalso;unfold atKey at e;have:=List.find?_eq_none.mp (Option.map_eq_none_iff.mp e) _ (Aj h);simp at this
 |some q =>
  obtain⟨i,hi⟩:=zen e;have hl:=(Ad.mp hi).1;have:=(CG (i:=i) (j:=j) (by rw[Ag];exact hl) hn).mp (by rw[Az,Az,hi,h];rfl);subst this;rw[hi]at h
  cases h
  rfl
theorem zdw{Q:Ac -> Ae -> Prop}(hr:knd.room A)(hk:knd.is s.heap k a)(hD:Heap.DictOfH knd s.heap d xs)(hsz:xs.length <= sizeLine)
  (h1:∀p,atKey xs k=some p->Q p.2 { s with toks:=s.toks+knd.draws k })
  (h2:atKey xs k=none->∀h',Heap.DictOfH knd h' d (storedH xs k a dflt)->Cu d s.heap h'->Q dflt { s with heap:=h',toks:=s.toks+knd.draws k }) :
  Ao (Ax prog w) A (dictSetDefault d (.ref a) dflt) Q E s:=by
 obtain⟨o,es,ep,ho,hx,hd,he,hi,hn⟩:=id hD;unfold dictSetDefault;refine A1 (Ab (knd.pyHash hr hk ?_));refine Ab (wpAny_dictFind_heap (s:={ s with toks:=s.toks+knd.draws k }) hr hk ho hd he hi hn (λhno=>?_) λj p hj=>?_)
 .have hnone:atKey xs k=none := by
   cases e:atKey xs k with
   |none=>rfl
   |some p=>obtain⟨j,hj⟩:=zen e;exact absurd hj (hno j p)
  refine Ab (wpAny_rule ?_);have hes:es.size=xs.length:=by rw[<- CL,he,Ag]
  refine Ab (wpAny_updateDictKeys ho hd (Ah (h2 hnone _ ?_ ⟨?_,λb hb=>Heap.get?_update_other _ _ (BX hb)⟩)) (by lia) (by simp))
  .have hs:Cu d s.heap (s.heap.update d (Obj.mapDictKeys λx=>x.push ⟨knd.hash k,.ref a,dflt⟩)):=⟨?_,λb hb=>Heap.get?_update_other _ _ (BX hb)⟩
   .obtain⟨c,dd,dt,sl⟩:=o;simp only at hd;subst hd;refine⟨_,es.push ⟨knd.hash k,.ref a,dflt⟩,ep+1,Heap.get?_update_self _ ho rfl,hx,rfl,?_,λx hx'=>?_,?_⟩
    .rw[storedH_new hnone,AA,<- he];simp[entryOfKey]
    .rw[storedH_new hnone]at hx';rcases AW.mp hx' with m |m
     .exact knd.keeps (hi x m) ho rfl hs
     .rw[Ap.mp m];exact knd.keeps hk ho rfl hs
    .rw[storedH_new hnone,AA,CF];refine⟨hn,by simp,λx hx' y hy e=>?_⟩;simp at hy;subst hy e;obtain⟨⟨k',p⟩,hm,ek⟩:=Ay.mp hx';obtain⟨j,hj,ej⟩:=Au hm;simp only at ek;subst ek;exact hno j p (by rw[Aa hj,ej])
   .show (s.heap.update d _).objs.size=_;unfold Heap.update;simp
  .show (s.heap.update d _).objs.size=_;unfold Heap.update;simp
 .have hlt:=(Ad.mp hj).1;have hes:es.size=xs.length:=by rw[<- CL,he,Ag]
  have ee:es[j]?=some ⟨knd.hash k,.ref p.1,p.2⟩:=by rw[<- De,he,Az,hj];rfl
  refine Ab (wpAny_dictEntries ho hd ?_);simp only[ee];refine Ab (wpAny_rule (Ah ?_));exact h1 p (zj5 hn hj)
theorem zcY(knd:HeapKind prog w K)(d a:Addr)(hd:(d == B3)=false)(dflt:Ac) :
  MeetsIn prog w (Builtin.«dict.setdefault» ⟨[.ref d,.ref a,dflt],[]⟩) λA R s=>knd.room A.in1/\∃k xs,knd.is s.heap k a/\Heap.DictOfH knd s.heap d xs/\xs.length<=sizeLine /\
   (∀p,atKey xs k=some p->R (.ok (.ret p.2)) { s with toks:=s.toks+knd.draws k }) /\
   (atKey xs k=none->∀h',Heap.DictOfH knd h' d (storedH xs k a dflt)->Cu d s.heap h'->R (.ok (.ret dflt)) { s with heap:=h',toks:=s.toks+knd.draws k }):=by
 intro A R s h;obtain⟨hr,k,xs,hk,hD,hsz,h1,h2⟩:=h;unfold Builtin.«dict.setdefault» Builtin.Dict.keyAndDefault;have ht:s.TypeIs (.ref d) "dict":=hD.typeIs;refine Ab (Ab (wpAny_notOrdered_dict ht ?_));refine Ab ?_
 show Ao (Ax prog w) A.in1 (pure ()) _ _ s;refine Ah ?_
 refine Ab ?_
 show Ao (Ax prog w) A.in1 (pure (Ar d,[Ar a,dflt])) _ _ s;refine Ah ?_
 show Ao (Ax prog w) A.in1 (pure d >>= λx=>pure (x,Ar a,some dflt)) _ _ s;refine Ab (Ah (Ah ?_));simp only;rw[hd];show Ao (Ax prog w) A.in1 (dictSetDefault d (.ref a) dflt >>= λx=>ret x) _ _ s;refine Ab (zdw hr hk hD hsz (λp e=>Ah (h1 p e)) λe h' hD' hs=>Ah (h2 e h' hD' hs))
noncomputable def zll(td ty tx:TE):TE:=λσ H Q=>td σ H λx H1=>∃a,x=.ref a/\IsD H1 a/\ty σ H1 λy H2=>tx σ H2 λz H3=>∃kvs k b,H3 a=some (.dT kvs)/\y=.ref b/\H3 b=some (.tup (k.map kV))/\kvs.length<sizeLine /\
 (∀v,valV kvs k=some v->Q v H3)/\(valV kvs k=none->Q z (upd H3 a (.dT (putK kvs k z))))
end
section
variable {X:Cx}{o e f:Expr}{apos cpos:Pos}{td ty tx:TE}
theorem zjL (hu:X.A.units+1<cLine) (ho:PE X o td) (he:PE X e ty) (hf:PE X f tx) (m:M2 X o "setdefault" apos e f cpos):PE X (.Call (.Attribute o "setdefault" apos) [e,f] [] cpos) (zll td ty tx):=by
 intro pins s σ H Q I h;refine wpAny_Call_method m.base m.few m.line DQ Cr PySem.F.type_dict_setdefault (thn (ho pins s σ H _ I h) λu s1 ⟨x,H1,I1,rx,a,ex,d,q1⟩=>?_);subst ex;obtain rfl:u=Ar a:=rx;obtain⟨t1,t2,_⟩:=ziZ I1 d;refine⟨t1,t2,?_⟩;rw[m.trees]
 refine Cv rfl (Do (BQ (thn (he pins s1 σ H1 _ I1 q1) λiv s2 ⟨y,H2,I2,ry,q2⟩ =>
  BQ (thn (hf pins s2 σ H2 _ I2 q2) λfv s3 ⟨z,H3,I3,rz,kvs,k,b,eD,ey,eb,hl,k1,k2⟩=>Dh ?_))))
 subst ey
 cases (show iv=Ar b from ry)
 obtain⟨zz,hd,xs,rel,dd⟩:=dt_of I3.hok eD
 refine call_meetsIn Cr dd.typeIs PySem.F.entry_dict_setdefault (PySem.F.args_dict_setdefault_3 _ _ _) (zcY (DO (zaz X.prog X.w)) a b hd fv)
  ⟨CV hu,k,xs,zdM I3.hok eb,dd,by rw[<- C8 rel];exact zz,λp ep=>?_,λen h' dd' hs=>?_⟩
 .have rv:=rel.val k;rw[ep]at rv
  cases hv:valV kvs k with
  |none=>rw[hv]at rv;exact Bk rv
  |some v=>rw[hv]at rv;exact⟨v,H3,I3.tok _,rv,k1 v hv⟩
 .have hn:valV kvs k=none := by
   have rv:=(rel.val k).isSome_eq;rw[en]at rv
   cases hv:valV kvs k with
   |none=>rfl
   |some v=>rw[hv]at rv;exact absurd rv (by simp)
  have hz:(putK kvs k z).length<=sizeLine:=by have:=zaP kvs k z;lia
  obtain⟨q,es,ep,hq,h2,h3,h4,_,h5⟩:=dd';refine⟨z,_,?_,rz,k2 hn⟩;refine zc0 I3 (by rw[eD];exact Cg) hs ⟨q,hq⟩ ⟨hz,hd,_,(rel.put k eb rz).keeps λc ys ec=>?_,q,es,ep,hq,h2,h3,h4,h5⟩;rw[zag (ne_of ec eD (λz=>nomatch z))];exact ec
end
structure Two (P:AH) (w:A4) (K:W.Frag) (mg:Str->Option Ac) (nm:Str) (a b:Int):Prop where
 ex:∃(B:Addr) (t1 t2 t3 t4:Tok) (n:Nat),mg nm=some (.ref B)/\K.lookup B=some ⟨.type "dict",none,.dict #[⟨BJ w.params "rim",.str "rim" t1,.int a t2⟩,⟨BJ w.params "hole",.str "hole" t3,.int b t4⟩] n,#[]⟩
noncomputable def tTwo (a b:Int) (ti:TE):TE:=λσ H Q=>ti σ H λy H1=>(y=.str "rim" /\ Q (.int a) H1)∨(y=.str "hole" /\ Q (.int b) H1)
theorem zlE {X:Cx}{nm:Str}{a b:Int}{i:Expr}{ti:TE}{p pos:Pos}(hg:Gl X nm) (hw:Two X.prog X.w X.K X.mg nm a b) (hi:PE X i ti) (hs:NoSl i:=by exact λ_ _=>rfl) (hdb:(nm == ("__debug__" : Str))=false:=by rfl):PE X (.Subscript (.Name nm p) i pos) (tTwo a b ti):=by
 intro pins s σ H Q I h;obtain⟨B,t1,t2,t3,t4,n,hm,hl⟩:=hw.ex;refine zhV PySem.F.slot_dict_getitem.lookup hs (thn ((zeN (v:=.ref B) hg hm rfl (hd:=hdb):PE X (.Name nm p) _) pins s σ H (λv H1=>v=V.ref B/\H1=H) I ⟨rfl,rfl⟩) λu s1 ⟨x,H1,I1,rx,q1⟩=>?_);obtain⟨rfl,rfl⟩:=q1;obtain rfl:u=Ar B:=rx;refine thn (hi pins s1 σ H1 _ I1 h) λiv s2 ⟨y,H2,I2,ry,q2⟩=>?_
 have ho:s2.heap.get? B=some _:=I2.kIn B _ hl
 have mo:s2.heap.MapOf (zaz X.prog X.w) B (PySem.findBy (zaz X.prog X.w).is #[⟨BJ X.w.params "rim",.str "rim" t1,.int a t2⟩,⟨BJ X.w.params "hole",.str "hole" t3,.int b t4⟩]) :=
  ⟨_,_,_,ho,⟨rfl,rfl,rfl⟩,rfl,λe he=>by
   simp only[List.mem_toArray,List.mem_cons,List.not_mem_nil,or_false]at he;rcases he with rfl |rfl
   .exact⟨.inr "rim",zbB _ _ _ _,rfl⟩
   .exact⟨.inr "hole",zbB _ _ _ _,rfl⟩,λ_=>rfl⟩
 refine⟨⟨_,ho,rfl⟩,?_⟩;rcases q2 with⟨rfl,q⟩ |⟨rfl,q⟩
 .exact wpAny_getItem_of (kV_is (k:=.inr "rim") ry) mo (v:=.int a t2) rfl ⟨.int a,H2,I2.tok _,⟨_,rfl⟩,q⟩
 .exact wpAny_getItem_of (kV_is (k:=.inr "hole") ry) mo (v:=.int b t4) rfl ⟨.int b,H2,I2.tok _,⟨_,rfl⟩,q⟩
section
variable {X:Cx}
theorem Inv.turned2{pins:List (Addr × Obj)}{σ : St}{H:Hp}{s:Ae}{h':Heap}{t':Nat}{e it:Addr}(I:Inv X pins σ H s)(k:∀b o, b ≠ e -> b ≠ it -> s.heap.get? b=some o -> h'.get? b=some o)(fe:FpOk X pins H e)(fi:FpOk X pins H it) :
  Inv X pins σ H { s with heap:=h',toks:=t' }:=by
 obtain⟨f0,f1,f2,f3,f4,f5⟩:=fe;obtain⟨g0,g1,g2,g3,g4,g5⟩:=fi;have nb:∀b u,H b=some u->b≠e/\b≠it:=λb u q=>⟨(λz=>by rw[z,f0]at q;cases q),(λz=>by rw[z,g0]at q;cases q)⟩
 have out:∀b,b ∉ [e,it]->b≠e/\b≠it:=λb hc=>⟨λz=>hc (by simp[z]),λz=>hc (by simp[z])⟩
 refine I.step (g':=s.gens) (d':=s.drawn) (ch:=[e,it]) (λb hb=>?_) (λb o _ _ hc q _=>k b o (out b hc).1 (out b hc).2 q) (λb o _ _ hc q _=>⟨o.slots,k b o (out b hc).1 (out b hc).2 q⟩) (λ_ _ _ _ n=>n)
  (λb o hc q=>⟨o,k b o (out b hc).1 (out b hc).2 q⟩) (λ_ _ q=>q) (λ_ _ _ q=>q) (λb ps q=>⟨#[],by rw[q];simp⟩) (λm hm=>?_) (λb u q=>?_) I.bare
 .rcases Aw.mp hb with z |z
  .subst z;exact⟨f3,f1,f4,f5⟩
  .have z':b=it:=by simpa using z
   subst z';exact⟨g3,g1,g4,g5⟩
 .obtain⟨o,es,ep,ho,r⟩:=hm;exact⟨o,es,ep,k _ o (BX f1) (BX g1) ho,r⟩
 .refine (I.hok b u q).stay (λc v hc q'=>?_) (λ_ q=>q) λ_ _ q=>q
  rcases hc with z |z
  .rw[z]at q' ⊢;exact k _ _ (nb b u q).1 (nb b u q).2 q'
  .exact k _ _ (nb c _ z).1 (nb c _ z).2 q'
noncomputable def Ite(K:W.Frag)(a:Addr):It :=
 ⟨λi H=>∃xs x,SqL K H a xs/\xs[i]?=some x,λi H y H'=>∃p x,y=.ref p/\H p=none/\H'=upd H p (.tup [.int i,x])/\∀xs,SqL K H a xs->xs[i]?=some x,λi H=>∃xs,SqL K H a xs/\xs.length<=i⟩
theorem zhQ{P:AH}{w:A4}{K:W.Frag}{es:List Expr}{x1:Nat}{pos:Pos}(a e it:Addr)(hne:e≠it):Turn P w K (.Tuple es x1 pos) (Ite K a) [e,it] e (λi h=>∃old,IsEnum h e it ((i:Nat):Int) old/\h.IsListIter it a i) where
 mem:=by simp
 obj:=λi h st b hb=>by
  obtain⟨old,h1,o,h2,c,d⟩:=st;rcases Aw.mp hb with z |z
  .subst z;exact⟨_,h1,λv q=>nomatch q⟩
  .have z':b=it:=by simpa using z
   subst z';exact⟨o,h2,λv q=>by rw[d]at q;cases q⟩
 keep:=λi h h' ⟨old,h1,h2⟩ k=>⟨old,k e (by simp) _ h1,h2.at λo q=>k it (by simp) o q⟩
 item:=by
  intro X hP hw hK hc i pins s σ H E I hf st hg;subst hP hw hK;obtain⟨old,he,hit⟩:=st;obtain⟨xs,x,hq,hx⟩:=hg;obtain⟨its,rv,p,hz⟩:=I.list hq;obtain⟨u,hu,ru⟩:=rv.get hx;have fe:=hf e (by simp);have fi:=hf it (by simp);refine wpAny_pyNext_enum_item he hit p.isList (x:=u) (by simpa using hu) hne λh1 eo it1 tup sz kk=>⟨_,rfl,?_⟩
  refine wpAny_letOwnedTupleGo_enum (s:={ s with heap:=h1,toks:=s.toks+1 }) eo λh2 he2 sb=>?_
  have heS:e<s.heap.objs.size:=Av he;have hiS:it<s.heap.objs.size:=by obtain⟨o,q,_⟩:=hit;exact Av q
  have fr:H s.heap.objs.size=none:=I.hok.fresh (Ai _)
  have I1:Inv X pins σ (upd H s.heap.objs.size (.tup [.int i,x])) { s with heap:=s.heap.push { cls:=.type "tuple",data:=.seq #[.int i s.toks,u] },toks:=s.toks } :=
   I.laid (t':=s.toks) (o:=.tup [.int i,x]) (λb ob q=>Af _ q) (Ai _) ⟨by show 2<=sizeLine;decide,_,.cons ⟨_,rfl⟩ (.cons ru .nil),IsTup.new _ _⟩
  have up:∀{b:Addr},b<s.heap.objs.size->∀o,upd H s.heap.objs.size o b=H b:=λhb o=>zag (AI hb)
  have fe1:FpOk X pins (upd H s.heap.objs.size (.tup [.int i,x])) e:=⟨by rw[up heS];exact fe.1,fe.2⟩;have fi1:FpOk X pins (upd H s.heap.objs.size (.tup [.int i,x])) it:=⟨by rw[up hiS];exact fi.1,fi.2⟩
  have I2:Inv X pins σ (upd H s.heap.objs.size (.tup [.int i,x])) { s with heap:=h2,toks:=s.toks+1 }:=I1.turned2 (λb o hbe hbi q=>by
   refine (sb.2 b hbe).trans ?_
   show h1.get? b=some o;rcases Heap.get?_push_cases q with⟨z,rfl⟩ |q
   .rw[z];exact tup
   .exact kk b o hbe hbi q) fe1 fi1
  refine⟨.ref s.heap.objs.size,_,I2,rfl,⟨_,x,rfl,fr,rfl,λys hy=>by rw[I.list_inj hy hq];exact hx⟩,⟨u,?_,?_⟩,λb hb=>?_⟩
  .exact he2
  .obtain⟨o,q,c,d⟩:=it1;exact⟨o,(sb.2 it (BX hne)).trans q,c,d⟩
  .rcases Aw.mp hb with z |z
   .subst z;exact fe1.1
   .have z':b=it:=by simpa using z
    subst z';exact fi1.1
 done:=by intro X hP hw hK hc i pins s σ H E I hf st hg;subst hP hw hK;obtain⟨old,he,hit⟩:=st;obtain⟨xs,hq,hx⟩:=hg;obtain⟨its,rv,p,hz⟩:=I.list hq;obtain⟨f0,f1,f2,f3,f4,f5⟩:=hf it (by simp);have hl:=rv.length;exact wpAny_pyNext_enum_end (I.ok.hd hc) he hit p.isList (by simp;lia) λh' eb=>⟨rfl,I.turned (t':=s.toks) (λb o hb e=>eb b o hb e) f0 f1 f3 f4 f5⟩
 self:=λ_ _ _ _ _ ⟨_,he,_⟩ h=>wpAny_pyIter_enum he h
noncomputable def iEnum(K:W.Frag)(t:TA):TI:=λσ H R=>t σ H λvs H1=>∃a,vs=[.ref a]/\(∃xs,SqL K H1 a xs)/\R (Ite K a) H1
theorem zeL {l:Expr}{t:TA}{es:List Expr}{x1:Nat}{pos pos' p:Pos}(hg:Gl X "enumerate") (hm:X.mg "enumerate" = none) (ha:PA X [l] t)
  (he:A8 [l] X.env=(false,eval l X.env)::A8 [] X.env:=by rfl) (hpl:(DM pos' (A8 [] X.env)).any (·.1)=false:=by rfl) :
  PI X (.Tuple es x1 pos) (.Call (.Name "enumerate" p) [l] [] pos') (iEnum X.K t):=by
 intro pins s σ H R I h;refine BR (zch I hg hm (by rfl) ?_ (by decide) (by decide));refine BH (thn (ha pos' pins s σ H _ I h) λus s1 ⟨vs,H1,I1,r1,q1⟩=>?_) he hpl;obtain⟨a,ex,⟨xs,hq⟩,q⟩:=q1;subst ex;obtain⟨u,rfl,rx⟩:=vals1 r1
 cases rx
 obtain⟨its,rv,pl,hz⟩:=I1.list hq;refine call_enumerate_list pl.isList λh' he hit hsz kp=>?_
 have I2:Inv X pins σ H1 { s1 with heap:=h' }:=I1.kept (t':=s1.toks) kp;refine wpAny_pyIter_enum he ?_
 refine⟨s1.heap.objs.size+1,[s1.heap.objs.size+1,s1.heap.objs.size],_,_,H1,rfl,I2,zhQ a _ _ (Nat.succ_ne_self _),⟨_,he,hit⟩,λb hb=>?_,q⟩;rcases Aw.mp hb with z |z
 .subst z;exact I1.fpOk (Cd _) (I1.hok.fresh (Cd _))
 .have z':b=s1.heap.objs.size:=by simpa using z
  subst z';exact I1.fpOk (Ai _) (I1.hok.fresh (Ai _))
theorem zdp{K:W.Frag}{a:Addr}{xs:List V}{g:TG}{tb:TS}{D:Ends}{σ : St}{H:Hp}(Pv:Nat -> St -> Hp -> Prop)(h0:Pv 0 σ H)(hl:∀i σ H, i <= xs.length -> Pv i σ H -> SqL K H a xs)
  (hs:∀i x σ H p,xs[i]?=some x->Pv i σ H->H p=none->g (.ref p) σ (upd H p (.tup [.int i,x])) λσ2 H2=>tb { D with nx:=Pv (i+1),ct:=Pv (i+1),bk:=D.nx } σ2 H2) (hd:∀ σ H,Pv xs.length σ H->D.nx σ H) :
  ∃W:Nat->Nat->St->Hp->Prop,(∃m,W 0 m σ H)/\∀i m σ H,W i m σ H ->
   ((Ite K a).stop i H/\D.nx σ H)∨((Ite K a).go i H/\∃N:St->Hp->Prop,(∀ σ' H',N σ' H'->∃m',m'<m/\W (i+1) m' σ' H')/\∀x H',(Ite K a).yld i H x H'->g x σ H' λσ2 H2=>tb { D with nx:=N,ct:=N,bk:=D.nx } σ2 H2):=by
 refine⟨λi m σ H=>m=xs.length-i/\i<=xs.length/\Pv i σ H,⟨xs.length,by simp,AZ _,h0⟩,?_⟩;rintro i m σ H ⟨rfl,hi,p⟩;have q:=hl i σ H hi p
 by_cases hlt:i<xs.length
 .refine .inr ⟨⟨xs,xs[i],q,by simp[hlt]⟩,Pv (i+1),λσ' H' p'=>⟨xs.length-(i+1),by lia,rfl,hlt,p'⟩,λx H' y=>?_⟩;obtain⟨b,z,rfl,hb,rfl,y⟩:=y;exact hs i z σ H b (y xs q) p hb
 .have e:i=xs.length:=by lia
  subst e;exact .inl ⟨⟨xs,q,Ai _⟩,hd σ H p⟩
end
end L2
namespace HT
open PySem PyProof.Rows PySem.Spec
variable {prog:AH}{w:A4}{A:AJ}{E:Ac->Ae->Prop}{s:Ae}
end HT
namespace L2
open PySem PySem.Spec PyProof.Rows
section
variable {X:Cx}{K:W.Frag}
end
end L2
namespace HT
open PySem PyProof.Rows PySem.Spec
end HT
namespace L2
open PySem PySem.Spec PyProof.Rows
section
variable {X:Cx}{K:W.Frag}
end
section
variable {X:Cx}
end
section
variable {X:Cx}{e es:Expr}{te ts:TE}{pos p2:Pos}
end
section
variable {X:Cx}
end
section
variable {prog:AH}{w:A4}{A:AJ}{R:Result->Ae->Prop}{I:Addr}{fp wr:List Addr}{n:Nat}{P:Nat->Ac->Prop}{St:Nat->Heap->Prop}{dv:Ac}
end
section
variable {X:Cx}{pins:List (Addr×Obj)}{σ:St}{H0:Hp}{s:Ae}{l:Addr}{Q:VK}
end
section
variable {X:Cx}{p pos kpos kp:Pos}{e:Expr}{te:TE}{d:Int}{kj:Nat}
end
end L2
namespace HT
open PySem PyProof.Rows
variable {prog:AH}{w:A4}{A:AJ}{E:Ac->Ae->Prop}{s:Ae}
end HT
namespace L2
open PySem PySem.Spec PyProof.Rows
section
variable {X:Cx}{e es:Expr}{te ts:TE}{pos p2:Pos}
end
end L2
namespace HT
open PySem PyProof.Rows
section
open PySem.SeqAt
open PySem.AutoSeq1 (wpAny_loadPart')
open PySem.MeetsSeq PySem.MeetsSeq2 PySem.MeetsSeq3
end
section
variable {prog:AH}{w:A4}{A:AJ}{E:Ac->Ae->Prop}{s:Ae}
end
end HT
namespace L2
open PySem PySem.Spec PyProof.Rows
section
variable {X:Cx}{pos:Pos}
noncomputable def zkO:V->List V->Hp->VK->Prop:=λx vs H Q=>∃l,∃os:List (Option Int),x=.ref l/\vs=[.non]/\H l=some (.lst (os.map λo=>o.elim V.non V.int))/\Q (.int (os.countP (·.isNone):Nat)) H
theorem ziA:MtM X "list.count" zkO:=by
 intro pins s σ H x vs v us Q I rx rv h;obtain⟨l,os,rfl,rfl,hH,q⟩:=h
 cases rx
 obtain⟨u,rfl,ru⟩:=rv.one
 cases (show u=BI from ru)
 obtain⟨z,its,n,r,hl,e⟩:=I.lstM hH
 have hall:∀(os:List (Option Int)) (its:List Ac),Vals (os.map λo=>o.elim V.non V.int) its->its.countP (λy=>y == BI)=os.countP (·.isNone)/\∀y∈its,y=.none∨∃a t,y=.int a t:=by
  intro os
  induction os with
  |nil=>intro its r;cases r;exact⟨rfl,by simp⟩
  |cons o os ih =>
   intro its r
   cases r with
   |cons h t =>
    obtain⟨i1,i2⟩:=ih _ t
    cases o with
    |none =>
     cases (show _=BI from h)
     refine⟨by rw[List.countP_cons,List.countP_cons,i1];rfl,λy hy=>?_⟩;rcases Aw.mp hy with rfl |hy
     .exact .inl rfl
     .exact i2 y hy
    |some a =>
     obtain⟨tk,rfl⟩:=(show ∃t,_=CA a t from h);refine⟨by rw[List.countP_cons,List.countP_cons,i1];rfl,λy hy=>?_⟩;rcases Aw.mp hy with rfl |hy
     .exact .inr ⟨a,tk,rfl⟩
     .exact i2 y hy
 obtain⟨c1,c2⟩:=hall os its r;refine call_meets F.slot_list_count ⟨_,e,rfl⟩ F.entry_list_count (F.args_list_count_2 _ _) (SeqAt.list_countAt l its.toArray n _ _ .none (λy=>y == BI)) ⟨e,λy hy=>?_,?_⟩
 .have hy':y∈its:=by simpa using hy
  rcases c2 y hy' with rfl |⟨a,t,rfl⟩
  .exact SeqAt.EqAt.same _
  .exact SeqAt.EqAt.int_none a t
 .refine⟨.int _,H,I.tok _,⟨_,rfl⟩,?_⟩;show Q (.int (its.toArray.toList.countP (λy=>y == BI):Nat)) H;rw[List.toList_toArray,c1];exact q
end
section
variable {prog:AH}{w:A4}{A:AJ}{E:Ac->Ae->Prop}{s:Ae}{it d:Addr}{i ep:Nat}{es:Array DictEntry}{od:Obj}
theorem ziS{Q:Ac -> Ae -> Prop}(lo:(d == B3)=false)(g:s.heap.get? d=some od)(x:od.ExactDict)(dat:od.data = .dict es ep)
  (k:Q (.ref s.heap.objs.size) { s with heap:=s.heap.push { cls:=.type "dict_keyiterator",data:=.fields #[.ref d,.int 0 0,.int es.size 0,.int ep 0] } }):Ao (Ax prog w) A (pyIter (.ref d)) Q E s:=by
 have ty:s.TypeIs (.ref d) "dict":=⟨od,g,x.1⟩;refine wpAny_pyIter_slot ty PySem.F.slot_dict_iter (Du PySem.F.slot_dict_iter ty PySem.F.entry_dict_iter ?_ (PySem.F.args_dict_iter_1 _));unfold Builtin.«dict.__iter__» Builtin.Dict.dictSlotNone;refine Ab (Ab (wpAny_notOrdered_dict ty ?_));show Ao (Ax prog w) A.in1 (pure (Ar d)) _ _ s;refine Ah ?_
 show Ao (Ax prog w) A.in1 (Builtin.Dict.showsAll d >>= _) _ _ s;unfold Builtin.Dict.showsAll;rw[if_neg (show ¬ (d == B3)=true by rw[lo];decide)];refine Ab (Ah (Ab (wpAny_dictEntries g dat (Ab (wpAny_dictEpoch g dat (Ab (By (Ah ⟨_,rfl,"dict_keyiterator",_,⟨_,Aq _ rfl,rfl⟩,PySem.F.slot_dict_keyiterator_next.lookup,?_⟩))))))));simpa[CI]using k
theorem ziR{e:DictEntry}{Q:Option Ac -> Ae -> Prop}(st:s.heap.IsKeyIter it d i es.size ep)(g:s.heap.get? d=some od)(dat:od.data = .dict es ep)(he:es[i]? = some e)
  (k:∀h',h'.IsKeyIter it d (i+1) es.size ep->Cu it s.heap h'->Q (some e.key) { s with heap:=h' }):Ao (Ax prog w) A (Dy (.ref it)) Q E s:=by
 obtain⟨o,go,oc,odt⟩:=id st;unfold Dy;refine Ab (wpAny_attempt (CO (name:=Bd "__next__") st.typeIs BS (Du BS st.typeIs DF ?_ (Dz _))));refine Ab (Ah (Ab (Ab ?_)));refine Ab (Co st.typeIs (Ah (Ab (wpAny_fieldsOf go odt ?_))));simp only[show Builtin.Dict_items.ownsTuple "dict_keyiterator" = false by decide,Bu,if_false];show Ao (Ax prog w) _ (if (Ar d == BI)=true then _ else _) _ _ s;rw[if_neg (show ¬ (Ar d == BI)=true by simp)];refine Ab (Ah (Ab (wpAny_dictEntries g dat ?_)));rw[if_neg (show ¬ ((es.size:Int) != (es.size:Int))=true by simp)];refine Ab (Ah (Ab (wpAny_dictEpoch g dat ?_)));rw[if_neg (show ¬ ((ep:Int) != (ep:Int))=true by simp)];refine Ah ?_
 simp only[show ¬ ((i:Int)<0) by lia,if_false,Dj,he];refine Ab (Ab (Co st.typeIs (Ah ?_)));refine Ab (wpAny_isOneOf_keyiter st.typeIs ?_);show Ao (Ax prog w) _ (setField (.ref it) 1 (CI ((i:Int)+1)) >>= _) _ _ s;refine Ab (wpAny_setField go odt (by simp) ?_)
 have st':(s.heap.update it (Obj.mapFields (·.setIfInBounds 1 (CI ((i:Int)+1))))).IsKeyIter it d (i+1) es.size ep:=by refine⟨_,Heap.get?_update_self _ go (Obj.isFreed_of_fields (Obj.data_mapFields odt _)),(Obj.cls_mapFields ..).trans oc,?_⟩;rw[Obj.data_mapFields odt];simp[CI]
 refine Ab (A1 (Ab (wpAny_isOneOf_keyiter (s:={ s with heap:=s.heap.update it (Obj.mapFields (·.setIfInBounds 1 (CI ((i:Int)+1)))) }) st'.typeIs ?_)));show Ao (Ax prog w) _ (pure e.key) _ _ _;exact Ah (Ah ⟨_,rfl,Ah (k _ st' (Br ..))⟩)
theorem zjS{Q:Option Ac -> Ae -> Prop}(hh:A.handled=none)(st:s.heap.IsKeyIter it d i es.size ep)(g:s.heap.get? d=some od)(dat:od.data = .dict es ep)(he:es.size <= i)
  (k:∀h',Heap.ExtBut it s.heap h'->Q none { s with heap:=h' }):Ao (Ax prog w) A (Dy (.ref it)) Q E s:=by
 obtain⟨o,go,oc,odt⟩:=id st;unfold Dy;refine Ab (wpAny_attempt (CO (name:=Bd "__next__") st.typeIs BS (Du BS st.typeIs DF ?_ (Dz _))));refine Ab (Ah (Ab (Ab ?_)));refine Ab (Co st.typeIs (Ah (Ab (wpAny_fieldsOf go odt ?_))));simp only[show Builtin.Dict_items.ownsTuple "dict_keyiterator" = false by decide,Bu,if_false];show Ao (Ax prog w) _ (if (Ar d == BI)=true then _ else _) _ _ s;rw[if_neg (show ¬ (Ar d == BI)=true by simp)];refine Ab (Ah (Ab (wpAny_dictEntries g dat ?_)));rw[if_neg (show ¬ ((es.size:Int) != (es.size:Int))=true by simp)];refine Ab (Ah (Ab (wpAny_dictEpoch g dat ?_)));rw[if_neg (show ¬ ((ep:Int) != (ep:Int))=true by simp)];refine Ah ?_
 simp only[show ¬ ((i:Int)<0) by lia,if_false,Dj,Array.getElem?_eq_none he];refine Ab (Ab (Co st.typeIs (Ah ?_)));show Ao (Ax prog w) _ (setField (.ref it) 0 .none >>= _) _ _ s;refine Ab (wpAny_setField go odt (by simp) ?_);show Ao (Ax prog w) _ (newExc (.type "StopIteration") [] >>= _) _ _ _;refine Ab ?_
 simp only[newExc,newTuple];refine Ab (By ?_ (by size_fits));refine Ab (m:=firstArgMember _ _) (wpAny_of_eq (a:=BI) (by first |rfl | (simp only[firstArgMember];rfl)) (By ?_ (by size_fits)));simp only[raiseNew];refine Ab (wpAny_handled ?_);rw[show A.in1.handled=none from hh];refine Ab (Ah (wpAny_throw (?_:Ao _ _ _ _ _ _)));exact Ab (wpAny_isInstance (b:=true) (T:="StopIteration") ⟨_,Aq _ rfl,rfl⟩ isSubtype_stop (Ah (k _ (((Br ..).extBut.push _).push _))))
end
noncomputable def Itd(a:Addr)(od:Obj):It :=
 ⟨λi H=>∃kvs,H a=some (.frz od (.dT kvs))/\i<kvs.length,λi H x H'=>H'=H/\∀kvs,H a=some (.frz od (.dT kvs))->∃b k v,x=.ref b/\kvs[i]?=some (k,v)/\H b=some (.tup (k.map kV)),λi H=>∃kvs,H a=some (.frz od (.dT kvs))/\kvs.length<=i⟩
theorem Paired.at'{α β:Type}{F:α->β->Prop}:∀{l:List α}{m:List β},Paired F l m->∀{i:Nat}{x:α},l[i]?=some x->∃y,m[i]?=some y/\F x y
 |_,_,.cons r t,0,x,h=>by cases h;exact⟨_,rfl,r⟩
 |_,_,.cons r t,i+1,x,h=>Paired.at' t h
theorem zhR{P:AH}{w:A4}{K:W.Frag}{tg:Expr}(a it:Addr)(od:Obj){es:Array DictEntry}{ep:Nat}(dat:od.data=.dict es ep):Turn P w K tg (Itd a od) [it] it (λi h=>h.IsKeyIter it a i es.size ep) where
 mem:=by simp
 obj:=λi h st b hb=>by
  have e:b=it:=by simpa using hb
  subst e;obtain⟨o,e,c,d⟩:=st;exact⟨o,e,λv z=>by rw[d]at z;cases z⟩
 keep:=λi h h' st k=>st.at λo e=>k it (by simp) o e
 item:=by
  intro X hP hw hK hc i pins s σ H E I hf st hg;subst hP hw hK;obtain⟨kvs,e,hi⟩:=hg;obtain⟨g,z,y,xs,r,o,es',ep',h1,h2,h3,h4,h5⟩:=(show ObjOk X.prog X.w H s.heap a (.frz od (.dT kvs)) from I.hok a _ e);rw[g]at h1
  cases h1
  rw[dat]at h3
  cases h3
  obtain⟨q,hq,q1,q2,q3⟩:=Paired.at' r (Aa hi);have he:es[i]?=some (entryOfKey (DO (zaz X.prog X.w)) q):=by rw[entry_at h4,hq];rfl
  obtain⟨f0,f1,f2,f3,f4,f5⟩:=hf it (by simp);refine ziR st g dat he λh' st' sb=>?_
  have I1:Inv X pins σ H { s with heap:=h' }:=I.turned (t':=s.toks) (λb o hb e=>(sb.2 b hb).trans e) f0 f1 f3 f4 f5;obtain⟨o,e',c,dd⟩:=id st';refine⟨_,rfl,go_of (s:={ s with heap:=h' }) e' c dd (by decide) ⟨.ref q.2.1,H,I1,rfl,⟨rfl,λks hk=>?_⟩,st',λb hb=>(hf b hb).1⟩⟩;rw[e]at hk
  cases hk
  exact⟨q.2.1,kvs[i].1,kvs[i].2,rfl,Aa hi,q2⟩
 done:=by
  intro X hP hw hK hc i pins s σ H E I hf st hg;subst hP hw hK;obtain⟨kvs,e,hi⟩:=hg;obtain⟨g,z,y,xs,r,o,es',ep',h1,h2,h3,h4,h5⟩:=(show ObjOk X.prog X.w H s.heap a (.frz od (.dT kvs)) from I.hok a _ e);rw[g]at h1
  cases h1
  rw[dat]at h3
  cases h3
  obtain⟨f0,f1,f2,f3,f4,f5⟩:=hf it (by simp);exact zjS (I.ok.hd hc) st g dat (by rw[size_of_entries h4,<- C8 r];exact hi) λh' eb=>⟨rfl,I.turned (t':=s.toks) (λb o hb e=>eb b o hb e) f0 f1 f3 f4 f5⟩
 self:=λ_ _ _ _ _ st h=>wpAny_pyIter_keyiter st h
section
variable {X:Cx}{tg:Expr}
noncomputable def zlV(tl:TE):TI:=λσ H R=>tl σ H λx H1=>∃a kvs,x=.ref a/\H1 a=some (.dT kvs)/\∀od,R (Itd a od) (upd H1 a (.frz od (.dT kvs)))
theorem zjI{l:Expr}{tl:TE}(hl:PE X l tl):PI X tg l (zlV tl):=by
 intro pins s σ H R I h;refine thn (hl pins s σ H _ I h) λv s1 ⟨x,H1,I1,r1,q1⟩=>?_
 obtain⟨a,kvs,e,hd,q⟩:=q1;subst e
 cases r1
 obtain⟨z,y,xs,r,od,es,ep,h1,h2,h3,h4,h5⟩:=(show ObjOk X.prog X.w H1 s1.heap a (.dT kvs) from I1.hok a _ hd)
 have I2:Inv X pins σ (upd H1 a (.frz od (.dT kvs))) s1:=I1.write (h':=s1.heap) (t':=s1.toks) (x:=a) (e:=a) (by rw[hd];exact Cg) (.inl rfl) (λb u _ g=>g) ⟨od,h1⟩
  ⟨h1,z,y,xs,KT.keeps r (λc ys ec=>by rw[zag (ne_of ec hd (λz=>nomatch z))];exact ec),od,es,ep,h1,h2,h3,h4,h5⟩
 refine ziS y h1 h2 h3 ?_
 refine⟨s1.heap.objs.size,[s1.heap.objs.size],_,_,_,rfl,I2.kept (t':=s1.toks) λb o e=>Af _ e,zhR a _ od h3,⟨_,Aq _ rfl,rfl,rfl⟩,λb hb=>?_,q od⟩;have e:b=s1.heap.objs.size:=by simpa using hb
 subst e;exact I2.fpOk (Ai _) (I2.hok.fresh (Ai _))
end
theorem zjU{a:Addr}{od:Obj}{kvs:List (List Key × V)}{g:TG}{tb:TS}{D:Ends}{σ : St}{H:Hp}(Pv:Nat -> St -> Hp -> Prop)(h0:Pv 0 σ H)(hl:∀i σ H, i <= kvs.length -> Pv i σ H -> H a=some (.frz od (.dT kvs)))
  (hs:∀i b k v σ H,kvs[i]?=some (k,v)->H b=some (.tup (k.map kV))->Pv i σ H->g (.ref b) σ H λσ2 H2=>tb { D with nx:=Pv (i+1),ct:=Pv (i+1),bk:=D.nx } σ2 H2) (hd:∀ σ H,Pv kvs.length σ H->D.nx σ H) :
  ∃W:Nat->Nat->St->Hp->Prop,(∃m,W 0 m σ H)/\∀i m σ H,W i m σ H ->
   ((Itd a od).stop i H/\D.nx σ H)∨((Itd a od).go i H/\∃N:St->Hp->Prop,(∀ σ' H',N σ' H'->∃m',m'<m/\W (i+1) m' σ' H')/\∀x H',(Itd a od).yld i H x H'->g x σ H' λσ2 H2=>tb { D with nx:=N,ct:=N,bk:=D.nx } σ2 H2):=by
 refine⟨λi m σ H=>m=kvs.length-i/\i<=kvs.length/\Pv i σ H,⟨kvs.length,by simp,AZ _,h0⟩,?_⟩;rintro i m σ H ⟨rfl,hi,p⟩;have q:=hl i σ H hi p
 by_cases hlt:i<kvs.length
 .refine .inr ⟨⟨kvs,q,hlt⟩,Pv (i+1),λσ' H' p'=>⟨kvs.length-(i+1),by lia,rfl,hlt,p'⟩,λx H' y=>?_⟩;obtain⟨e,y⟩:=y;subst e;obtain⟨b,k,v,rfl,h1,h2⟩:=y kvs q;exact hs i b k v σ _ h1 h2 p
 .have e:i=kvs.length:=by lia
  subst e;exact .inl ⟨⟨kvs,q,Ai _⟩,hd σ H p⟩
section
variable {prog:AH}{w:A4}{K:Type} [DecidableEq K] {knd:HeapKind prog w K}{A:AJ}{E:Ac->Ae->Prop}{s:Ae}{d a:Addr}{xs:List (K×Addr×Ac)}{k:K}
end
section
variable {X:Cx}{o e f:Expr}{apos cpos:Pos}{td ty tx:TE}
end
end L2
namespace RP
theorem Closed.has1{C:Cell->Bool}{b:Edge}{es:List Edge}(h:Closed C b es):∃e∈es,e.w=1:=by
 apply Bh
 intro hno;have hno':∀e∈es,e.w≠1:=λe he z=>hno ⟨e,he,z⟩
 obtain⟨s1,s2⟩:=h.sums;obtain⟨hc,_⟩:=h;have hpos:0<es.length:=(Ad.mp hc.1).1
 have z:∀e∈es,dy e.w=0:=by
  have:=zex (l:=(es.map λe=>dy e.w).map λx=>-x) (λx hx=>by
   obtain⟨y,hy,rfl⟩:=Ay.mp hx;obtain⟨e,he,rfl⟩:=Ay.mp hy;have:=hno' e he;rcases way4 (hc.2.2.1 e he).1 with q |q |q |q
   .rw[q];decide
   .exact absurd q this
   .rw[q];decide
   .rw[q];decide) (by rw[ziz,s2];rfl)
  intro e he;have:=this (-(dy e.w)) (Ay.mpr ⟨_,Ay.mpr ⟨e,he,rfl⟩,rfl⟩);lia
 have even:∀e∈es,e.w=0∨e.w=2:=λe he=>by
  have hz:=z e he;rcases way4 (hc.2.2.1 e he).1 with q |q |q |q
  .exact .inl q
  .rw[q]at hz;exact absurd hz (by decide)
  .exact .inr q
  .rw[q]at hz;exact absurd hz (by decide)
 have same:∀(i:Nat) (e:Edge),es[i]?=some e->e.w=b.w:=by
  intro i
  induction i with
  |zero=>intro e he;have:=hc.1;rw[he]at this;cases this;rfl
  |succ i ih =>
   intro e he;have hi:i+1<es.length:=(Ad.mp he).1;have h1:es[i]?=some es[i]:=Aa (by lia)
   have hn:=hc.2.1 i _ e h1 he;have m1:es[i]∈es:=A7 _;have w1:=ih _ h1;have o1:=even _ m1;have o2:=even _ (Aj he);have:=zj8 (hc.2.2.1 _ m1);rw[<- hn]at this;lia
 have all:∀x∈es.map (λe=>dx e.w),x=dx b.w:=λx hx=>by obtain⟨e,he,rfl⟩:=Ay.mp hx;obtain⟨i,hi,ei⟩:=Au he;rw[same i e (by rw[Aa hi,ei])]
 have t:=zfP _ _ all;rw[s1,Ag]at t;have ob:b.w=0∨b.w=2:=even b (Aj hc.1)
 have d1:dx b.w=1∨dx b.w=-1:=by rcases ob with q |q <;> rw[q] <;> decide
 rcases d1 with q |q <;> rw[q]at t <;> lia
theorem box63{w h:Nat}(hb:w*h<=120):w*((h+1) / 2)<=63∨h*((w+1) / 2)<=63:=by
 have:h<=10∨w<=10:=by
  by_cases h1:h<=10
  .exact .inl h1
  .by_cases h2:w<=10
   .exact .inr h2
   .have:=Nat.mul_le_mul (show 11<=w by lia) (show 11<=h by lia);lia
 rcases this with h1 |h1
 .have:h=0∨h=1∨h=2∨h=3∨h=4∨h=5∨h=6∨h=7∨h=8∨h=9∨h=10:=by lia
  rcases this with rfl |rfl |rfl |rfl |rfl |rfl |rfl |rfl |rfl |rfl |rfl <;> lia
 .have:w=0∨w=1∨w=2∨w=3∨w=4∨w=5∨w=6∨w=7∨w=8∨w=9∨w=10:=by lia
  rcases this with rfl |rfl |rfl |rfl |rfl |rfl |rfl |rfl |rfl |rfl |rfl <;> lia
noncomputable def grid(w h:Nat):List (Nat×Nat):=(AG w).flatMap λi=>(AG h).map λj=>(i,j)
theorem zgW{w h:Nat}{p:Nat×Nat}:p∈grid w h ↔ p.1<w/\p.2<h:=by
 unfold grid;simp only[List.mem_flatMap,List.mem_map,List.mem_range];constructor
 .rintro⟨i,hi,j,hj,rfl⟩;exact⟨hi,hj⟩
 .rintro⟨h1,h2⟩;exact⟨p.1,h1,p.2,h2,rfl⟩
theorem zhU(l:List Nat)(h:Nat):(l.map λ_=>h).sum=l.length*h:=by
 induction l with
 |nil=>simp
 |cons a r ih=>rw[AT,BD,ih,A3,Nat.succ_mul,Nat.add_comm]
theorem zdL(w h:Nat):(grid w h).length=w*h:=by unfold grid;rw[List.length_flatMap];simp only[Ag,Bp];rw[zhU,Bp]
theorem zfF{α β:Type}{f:α->β}:∀{l:List α},l.Nodup->(∀a∈l,∀b∈l,f a=f b->a=b)->(l.map f).Nodup:=λ{l} hn hf=>by unfold List.Nodup at *;rw[List.pairwise_map];exact hn.imp_of_mem λha hb hne e=>hne (hf _ ha _ hb e)
end RP
namespace L2
open PySem PySem.Spec PyProof.Rows
theorem zc3{bt:Nat->Nat->Bool}:∀n,argBest bt n<=n
 | 0=>Ai _
 |n+1=>by
  show (if bt (n+1) (argBest bt n)=true then n+1 else argBest bt n)<=n+1;split
  .exact Ai _
  .exact Nat.le_succ_of_le (zc3 n)
theorem zc2{v:Nat->Int}:∀(n j:Nat),j<=n->v (argBest (λi j=>decide (v i<v j)) n)<=v j
 | 0,j,h=>by
  obtain rfl:j=0:=by lia
  exact BG _
 |n+1,j,h=>by
  show v (if decide (v (n+1)<v (argBest (λi j=>decide (v i<v j)) n))=true then n+1 else argBest (λi j=>decide (v i<v j)) n)<=v j
  by_cases hb:v (n+1)<v (argBest (λi j=>decide (v i<v j)) n)
  .rw[if_pos (decide_eq_true hb)];rcases AX n j with q |q
   .obtain rfl:j=n+1:=by lia
    exact BG _
   .have:=zc2 (v:=v) n j q;lia
  .rw[if_neg (by simpa using hb)];rcases AX n j with q |q
   .obtain rfl:j=n+1:=by lia
    lia
   .exact zc2 n j q
theorem zc4{v:Nat->Int}:∀(n j:Nat),j<=n->v j<=v (argBest (λi j=>decide (v i > v j)) n)
 | 0,j,h=>by
  obtain rfl:j=0:=by lia
  exact BG _
 |n+1,j,h=>by
  show v j<=v (if decide (v (n+1) > v (argBest (λi j=>decide (v i > v j)) n))=true then n+1 else argBest (λi j=>decide (v i > v j)) n)
  by_cases hb:v (n+1) > v (argBest (λi j=>decide (v i > v j)) n)
  .rw[if_pos (decide_eq_true hb)];rcases AX n j with q |q
   .obtain rfl:j=n+1:=by lia
    exact BG _
   .have:=zc4 (v:=v) n j q;lia
  .rw[if_neg (by simpa using hb)];rcases AX n j with q |q
   .obtain rfl:j=n+1:=by lia
    lia
   .exact zc4 n j q
theorem zi0:∀(ns:List Int) (its:List Ac),Vals (ns.map V.int) its->∃ts:Array (Int×Tok),its.toArray=intItems ts/\ts.toList.map (·.1)=ns:=by
 intro ns its r
 have:∀(ns:List Int) (its:List Ac),Vals (ns.map V.int) its->∃ts:List (Int×Tok),its=ts.map (λp=>CA p.1 p.2)/\ts.map (·.1)=ns:=by
  intro ns
  induction ns with
  |nil=>intro its r;cases r;exact⟨[],rfl,rfl⟩
  |cons n ns ih =>
   intro its r
   cases r with
   |cons h t =>
    obtain⟨ts,h1,h2⟩:=ih _ t;obtain⟨tk,rfl⟩:=(show ∃t,_=CA n t from h);exact⟨(n,tk)::ts,by rw[h1];rfl,by rw[AT,h2]⟩
 obtain⟨ts,h1,h2⟩:=this ns its r;exact⟨ts.toArray,by rw[h1];simp[intItems],by simpa using h2⟩
section
variable {X:Cx}
noncomputable def IsMin(ns:List Int)(m:Int):Prop:=m∈ns/\∀n∈ns,m<=n
noncomputable def IsMax(ns:List Int)(m:Int):Prop:=m∈ns/\∀n∈ns,n<=m
theorem zfR (hh:X.calm=true):CallR X (.builtin "min") (λxs H Q=>∃(p:Addr) (ns:List Int),xs=[.ref p]/\SqL X.K H p (ns.map V.int)/\ns≠[]/\∀m,IsMin ns m->Q (.int m) H):=by
 intro pins s σ H xs us Q I r h;obtain⟨p,ns,rfl,hq,hne,q⟩:=h;obtain⟨u,rfl,ru⟩:=vals1 r
 cases (show u=Ar p from ru)
 obtain⟨its,rv,pl,hz⟩:=I.list hq;obtain⟨ts,h1,h2⟩:=zi0 ns its rv;have hl1:=pl.isList;rw[h1]at hl1;have hgl:ns.length=ts.size:=by rw[<- h2];simp
 have hpos:0<ns.length:=List.length_pos_iff.mpr hne;have gd:∀j,numAt ts j=ns.getD j 0:=λj=>by rw[numAt_eq,h2]
 refine min_intList (I.ok.hd hh) hl1 (by lia) λv h' tk hv hk=>?_
 obtain⟨t,rfl⟩:=intItems_at hv;have hle:=zc3 (bt:=λi j=>decide (numAt ts i<numAt ts j)) (ts.size-1);refine⟨.int _,H,I.kept hk,⟨_,rfl⟩,q _ ⟨?_,λn hn=>?_⟩⟩
 .rw[gd,AS,Aa (by lia)];exact A7 _
 .obtain⟨j,hj,rfl⟩:=Au hn;have:=zc2 (v:=numAt ts) (ts.size-1) j (by lia);rw[gd j,AS,Aa hj]at this;exact this
theorem zfS (hh:X.calm=true):CallR X (.builtin "max") (λxs H Q=>∃(p:Addr) (ns:List Int),xs=[.ref p]/\SqL X.K H p (ns.map V.int)/\ns≠[]/\∀m,IsMax ns m->Q (.int m) H):=by
 intro pins s σ H xs us Q I r h;obtain⟨p,ns,rfl,hq,hne,q⟩:=h;obtain⟨u,rfl,ru⟩:=vals1 r
 cases (show u=Ar p from ru)
 obtain⟨its,rv,pl,hz⟩:=I.list hq;obtain⟨ts,h1,h2⟩:=zi0 ns its rv;have hl1:=pl.isList;rw[h1]at hl1;have hgl:ns.length=ts.size:=by rw[<- h2];simp
 have hpos:0<ns.length:=List.length_pos_iff.mpr hne;have gd:∀j,numAt ts j=ns.getD j 0:=λj=>by rw[numAt_eq,h2]
 refine max_intList (I.ok.hd hh) hl1 (by lia) λv h' tk hv hk=>?_
 obtain⟨t,rfl⟩:=intItems_at hv;have hle:=zc3 (bt:=λi j=>decide (numAt ts i > numAt ts j)) (ts.size-1);refine⟨.int _,H,I.kept hk,⟨_,rfl⟩,q _ ⟨?_,λn hn=>?_⟩⟩
 .rw[gd,AS,Aa (by lia)];exact A7 _
 .obtain⟨j,hj,rfl⟩:=Au hn;have:=zc4 (v:=numAt ts) (ts.size-1) j (by lia);rw[gd j,AS,Aa hj]at this;exact this
end
end L2
namespace HT
open PySem PyProof.Rows
variable {prog:AH}{w:A4}{A:AJ}{E:Ac->Ae->Prop}{s:Ae}
end HT
namespace L2
open PySem PySem.Spec PyProof.Rows
section
variable {X:Cx}{e es:Expr}{te ts:TE}{pos p2:Pos}
end
section
variable {prog:AH}{w:A4}{A:AJ}{E:Ac->Ae->Prop}{s:Ae}
end
section
variable {X:Cx}
end
section
variable {X:Cx}
end
section
variable {prog:AH}{w:A4}{A:AJ}{E:Ac->Ae->Prop}{s:Ae}
end
section
variable {X:Cx}{pins:List (Addr×Obj)}{σ:St}
end
section
variable {X:Cx}{l m:Expr}{t:TA}{p p2 pos pos2:Pos}
end
theorem zjn:∀{xs:List V}{us:List Ac},xs.length=us.length->(∀(i:Nat) x u,xs[i]?=some x->us[i]?=some u->RelV x u)->Vals xs us
 |[],[],_,_=>.nil
 |x::xs,u::us,h,k=>.cons (k 0 x u rfl rfl) (zjn (by simpa using h) λi y v h1 h2=>k (i+1) y v (by simpa using h1) (by simpa using h2))
 |[],_::_,h,_=>by cases h
 |_::_,[],h,_=>by cases h
noncomputable def zli(t:TA):TE:=λσ H Q=>t σ H λvs H1=>∃n:Nat,vs=[.int n]/\n<=1000/\∀S,H1 S=none->Q (.ref S) (upd H1 S (.lst ((AG n).map λi:Nat=>V.int i)))
section
variable {X:Cx}{a:Expr}{t:TA}{p p2 pos pos2:Pos}
theorem zhn (hg:Gl X "list") (hm:X.mg "list" = none) (hg2:Gl X "range") (hm2:X.mg "range" = none) (ha:PA X [a] t) (hc:X.calm=true := by rfl)
  (hs:A8 [a] X.env=[(false,eval a X.env)]:=by rfl)
  (he:A8 [.Call (.Name "range" p2) [a] [] pos2] X.env=(false,eval (.Call (.Name "range" p2) [a] [] pos2) X.env)::A8 [] X.env:=by rfl) (hpl:(DM pos (A8 [] X.env)).any (·.1)=false:=by rfl) :
  PE X (.Call (.Name "list" p) [.Call (.Name "range" p2) [a] [] pos2] [] pos) (zli t):=by
 intro pins s σ H Q I h;refine BR (zch I hg hm (by rfl) ?_ (by decide) (by decide));refine BH ?_ he hpl;rw[he];show Ao _ _ (spliced ((false,eval (.Call (.Name "range" p2) [a] [] pos2) X.env)::DM pos (A8 [] X.env))) _ _ s;refine BQ ?_
 refine Call_ (zch I hg2 hm2 boot_range (BH (thn (ha pos2 pins s σ H _ I h) λus s1 ⟨vs,H1,I1,r1,q1⟩=>?_) hs rfl));obtain⟨n,e,hn,q⟩:=q1;subst e
 cases r1 with
 |cons r rr =>
  cases rr
  obtain⟨tt,rfl⟩:=r;refine call_range_1 ?_
  refine Dh ?_
  have hsz:DP 0 (n:Int) 1=((n:Nat):Int):=by rw[rangeSize_one];split <;> lia
  refine call_list_range (n:=n) (show X.A.handled=none from I1.ok.hd hc) (IsRange.new ..) (small_one (by lia) (by lia) (by lia) (by lia)) hsz (by lia) λh' tk acc c kp g hacc=>?_
  refine⟨.ref _,_,(I1.kept (t':=tk) (h':=s1.heap.push _) λb o e=>Af _ e).laid (t':=tk) (o:=.lst ((AG n).map λi:Nat=>V.int i)) kp (Ai _) ?_,rfl,q _ ((I1.kept (t':=tk) (h':=s1.heap.push _) λb o e=>Af _ e).hok.fresh (Ai _))⟩;refine⟨by rw[Ag,Bp];exact AO hn (by decide),acc.toList,c,zjn (by simp[hacc.1]) λi x u h1 h2=>?_,by rw[Array.toArray_toList];exact g⟩;obtain⟨t1,rfl⟩:=hacc.2 i u (by simpa using h2)
  have hi:i<n:=by have:=(Ad.mp h1).1;simpa using this
  rw[Az,DB hi]at h1
  cases h1
  exact⟨t1,by simp⟩
end
section
variable {X:Cx}
end
theorem zhO{P:AH}{w:A4}{K:W.Frag}{tg:Expr}(it:Addr)(lo:Int)(n:Nat):Turn P w K tg (Itr lo n) [it] it (λi h=>IsLongIter h it (lo+(i:Nat)*1) ((n:Int)-(i:Nat)) 1) where
 mem:=by simp
 obj:=λi h st b hb=>by
  have e:b=it:=by simpa using hb
  subst e
  exact⟨_,st,λv z=>by
   have z':Data.fields _=Data.cell v:=z
   cases z'⟩
 keep:=λi h h' st k=>k it (by simp) _ st
 item:=by
  intro X hP hw hK hc i pins s σ H E I hf st hg;subst hP hw hK;obtain⟨f0,f1,f2,f3,f4,f5⟩:=hf it (by simp);have W:=Walks.longrange (prog:=X.prog) (w:=X.w) (I.ok.hd hc) it lo 1 n;refine W.item i s _ _ hg st λv h' tk hv st' kk=>?_
  obtain⟨t,rfl⟩:=hv;have I1:Inv X pins σ H { s with heap:=h',toks:=tk }:=I.turned (λb o hb e=>kk b o (by simpa using hb) e) f0 f1 f3 f4 f5;refine⟨_,rfl,go_of (s:={ s with heap:=h',toks:=tk }) (n:="longrange_iterator") st' rfl rfl (by decide) ⟨.int (lo+i),H,I1,⟨t,?_⟩,⟨rfl,rfl⟩,st',λb hb=>(hf b hb).1⟩⟩;rw[Int.mul_one]
 done:=by intro X hP hw hK hc i pins s σ H E I hf st hg;subst hP hw hK;obtain⟨f0,f1,f2,f3,f4,f5⟩:=hf it (by simp);exact wpAny_pyNext_long_end (I.ok.hd hc) st (by have:n<=i:=hg;lia) λh' eb=>⟨rfl,I.turned (t':=s.toks) (λb o hb e=>eb b o hb e) f0 f1 f3 f4 f5⟩
 self:=λ_ _ _ _ _ st h=>wpAny_pyIter_longiter st h
section
variable {X:Cx}{tg:Expr}
theorem zij{pins:List (Addr × Obj)}{σ : St}{H:Hp}{s:Ae}{R:It -> Hp -> Prop}{E:Ac -> Ae -> Prop}{lo hi:Int}{t u v:Tok}{tk:Nat}(I:Inv X pins σ H s)
  (q:R (Itr lo (hi-lo).toNat) H):Ao (Ax X.prog X.w) X.A (pyIter (.ref s.heap.objs.size)) (PIE X pins σ tg R) E { s with heap:=s.heap.push { cls:=.type "range",data:=.fields #[.int lo t,.int hi u,.int 1 v] },toks:=tk }:=by
 have I1:Inv X pins σ H { s with heap:=s.heap.push { cls:=.type "range",data:=.fields #[.int lo t,.int hi u,.int 1 v] },toks:=tk }:=I.kept λb o e=>Af _ e
 have e1:lo+((0:Nat):Int)*1=lo:=by simp
 have e2:(((hi-lo).toNat:Nat):Int)-((0:Nat):Int)=DP lo hi 1:=by rw[rangeSize_one];split <;> lia
 cases hs:Builtin.Range.small lo hi 1 with
 |true =>
  refine wpAny_pyIter_range (IsRange.new ..) hs ?_
  refine⟨(s.heap.push { cls:=.type "range",data:=.fields #[.int lo t,.int hi u,.int 1 v] }).objs.size,[(s.heap.push { cls:=.type "range",data:=.fields #[.int lo t,.int hi u,.int 1 v] }).objs.size],_,_,H,rfl,
   I1.kept (t':=tk) λb o e=>Af _ e,zd9 _ lo (hi-lo).toNat,?_,λb hb=>?_,q⟩
  .show IsRangeIter _ _ (lo+((0:Nat):Int)*1) ((((hi-lo).toNat:Nat):Int)-((0:Nat):Int)) 1;rw[e1,e2];exact Aq _ rfl
  .have e:b=(s.heap.push { cls:=.type "range",data:=.fields #[.int lo t,.int hi u,.int 1 v] }).objs.size:=by simpa using hb
   subst e;exact I1.fpOk (Ai _) (I1.hok.fresh (Ai _))
 |false =>
  refine wpAny_pyIter_longrange (IsRange.new ..) hs ?_
  refine⟨(s.heap.push { cls:=.type "range",data:=.fields #[.int lo t,.int hi u,.int 1 v] }).objs.size,[(s.heap.push { cls:=.type "range",data:=.fields #[.int lo t,.int hi u,.int 1 v] }).objs.size],_,_,H,rfl,
   I1.kept (t':=tk) λb o e=>Af _ e,zhO _ lo (hi-lo).toNat,?_,λb hb=>?_,q⟩
  .show IsLongIter _ _ (lo+((0:Nat):Int)*1) ((((hi-lo).toNat:Nat):Int)-((0:Nat):Int)) 1;rw[e1,e2];exact Aq _ rfl
  .have e:b=(s.heap.push { cls:=.type "range",data:=.fields #[.int lo t,.int hi u,.int 1 v] }).objs.size:=by simpa using hb
   subst e;exact I1.fpOk (Ai _) (I1.hok.fresh (Ai _))
noncomputable def iRngB(ta:TA):TI:=λσ H R=>ta σ H λvs H1=>∃i j:Int,vs=[.int i,.int j]/\R (Itr i (j-i).toNat) H1
theorem zfw {a b:Expr}{ta:TA}{p pos:Pos}(hg:Gl X "range") (hm:X.mg "range" = none) (ha:PA X [a, b] ta) (hs:A8 [a, b] X.env = [(false, eval a X.env), (false, eval b X.env)] := by rfl) (hs2:A8 [b] X.env = [(false, eval b X.env)] := by rfl) :
  PI X tg (.Call (.Name "range" p) [a,b] [] pos) (iRngB ta):=by
 intro pins s σ H R I h;refine Call_ (zch I hg hm boot_range (BH (thn (ha pos pins s σ H _ I h) λus s1 ⟨vs,H1,I1,r1,q1⟩=>?_) (by rw[hs,hs2]) (by rw[hs2];rfl)));obtain⟨i,j,e,q⟩:=q1;subst e
 cases r1 with
 |cons r rr =>
  cases rr with
  |cons r' rr =>
   cases rr
   obtain⟨t,rfl⟩:=r;obtain⟨t',rfl⟩:=r';exact call_range_2 (zij I1 q)
end
section
variable {X:Cx}{pos:Pos}{kx vx:Expr}{tk tv:TE}
noncomputable def zlj(tk tv:TE):TE:=λσ H Q=>∀p,H p=none->tk σ (upd H p (.dT [])) λy H1=>tv σ H1 λv H2=>∃H3,DPut H2 p y v H3/\Q (.ref p) H3
theorem zjN(hu:X.A.units+1<cLine)(hk:PE X kx tk)(hv:PE X vx tv):PE X (.Dict [some kx] [vx] pos) (zlj tk tv):=by
 intro pins s σ H Q I q;have hn:=I.hok.fresh (Ai s.heap.objs.size);have I1:=I.laid (a:=s.heap.objs.size) (o:=.dT []) (h':=s.heap.push { cls:=.type "dict",data:=.dict #[] }) (t':=s.toks) (λ_ _ q=>Af _ q) (Ai _) (zg8 s.heap I.big);rw[arm_eval_Dict,zip_pairTrees [some kx] [vx] X.env pos rfl rfl,dictDisplay_pairs _ (by intro z;cases z) (by show 1<17;decide)];refine Ab (wpAny_standAt (Ab ?_));unfold subDict;refine Ab (wpAny_alloc ?_);refine Ab (A1 ?_);rw[if_pos (by show 1<=15;decide)];refine Ab (pairTrees_cons_walk (thn (hk pins _ σ _ _ I1 (q _ hn)) λu s1 ⟨y,H1,I1',r1,q1⟩=>thn (hv pins s1 σ H1 _ I1' q1) λw2 s2 ⟨v,H2,I2,r2,H3,g,q2⟩=>pairTrees_nil_walk ?_));refine A1 ?_
 rw[List.forIn_cons];refine Ab (Ab ?_);show Ao _ _ (dictSet s.heap.objs.size u w2 >>= λ_=>pure (DJ PUnit.unit)) _ _ s2;refine Ab (d_set hu I2 g r1 r2 λs3 I3=>Ah ?_);show Ao _ _ (forIn [] _ _) _ _ s3;rw[List.forIn_nil];exact Ah (Ah (Ah (Ah ⟨.ref s.heap.objs.size,H3,I3,rfl,q2⟩)))
end
open AutoSeq1 (wpAny_loadPart')
section
variable {prog:AH}{w:A4}{A:AJ}{E:Ac->Ae->Prop}{s:Ae}{d:Addr}{ep:Nat}{es:Array DictEntry}{od:Obj}
end
section
variable {X:Cx}
end
section
variable {X:Cx}{es:List Expr}{te:TE}{t:TA}{pos:Pos}
theorem pa_T{l:List Expr}{k:Nat}(ha:PE X (.Tuple l k pos) te)(hr:PA X es t):PA X (.Tuple l k pos::es) (tCons te t):=zai ha hr (by rfl)
theorem pa_C{c:Const}{k:Nat}(ha:PE X (.Constant c k pos) te)(hr:PA X es t):PA X (.Constant c k pos::es) (tCons te t):=zai ha hr (by rfl)
theorem pa_B{a b:Expr}{o:Operator}(ha:PE X (.BinOp a o b pos) te)(hr:PA X es t):PA X (.BinOp a o b pos::es) (tCons te t):=zai ha hr (by rfl)
theorem pa_N{x:Str}(ha:PE X (.Name x pos) te)(hr:PA X es t):PA X (.Name x pos::es) (tCons te t):=zai ha hr (by rfl)
end
theorem zkK{t u:TS}{D:Ends}{σ:St}{H:Hp}{I:St->Hp->Prop}(g:(∀ σ H,I σ H->u D σ H)->tSeq t u D σ H)(h:∀ σ H,I σ H->u D σ H):tSeq t u D σ H:=g h
theorem za4{i:Nat}{v:V}{σ:St}{H:Hp}{Q:St->Hp->Prop}:gName i v σ H Q=Q (σ.set i (some v)) H:=rfl
theorem zl6{i:Nat}{v:V}{u:TS}{D:Ends}{σ:St}{H:Hp}:tSeq (tAsg (tC v) (gName i)) u D σ H=u D (σ.set i (some v)) H:=rfl
section
variable {X:Cx}{tg:Expr}
end
inductive IsC:Expr->V->Prop where
 |int {n:Int} {k:Nat} {p:Pos}:IsC (.Constant (.int n) k p) (.int n)
 |bl {b:Bool} {k:Nat} {p:Pos}:IsC (.Constant (.bool b) k p) (.bl b)
 |neg {n:Int} {k:Nat} {p q:Pos}:IsC (.UnaryOp .USub (.Constant (.int n) k p) q) (.int (-n))
inductive IsPs:List Expr->List (V×V)->Prop where
 |nil:IsPs [] []
 |cons {a b:Expr} {x y:V} {k:Nat} {p:Pos} {es:List Expr} {l:List (V×V)}:IsC a x->IsC b y->IsPs es l->IsPs (.Tuple [a,b] k p::es) ((x,y)::l)
inductive RetPs:List Stmt->List (V×V)->Prop where
 |mk {es:List Expr} {l:List (V×V)} {p q:Pos}:IsPs es l->RetPs [.Return (some (.List es p)) q] l
section
variable {X:Cx}
end
section
variable {X:Cx}
end
section
variable {prog:AH}{w:A4}{A:AJ}{E:Ac->Ae->Prop}{s:Ae}{T:String}{r d:Addr}{n:Nat}{P:Nat->Ac->Prop}{OK:Heap->Prop}
end
section
variable {X:Cx}
end
noncomputable def zlk(td ty tx:TE):TE:=λσ H Q=>td σ H λx H1=>∃a,x=.ref a/\IsD H1 a/\ty σ H1 λy H2=>tx σ H2 λz H3=>∃kvs k,H3 a=some (.dK kvs)/\y=kV k/\kvs.length<sizeLine /\
 (∀v,valV kvs k=some v->Q v H3)/\(valV kvs k=none->Q z (upd H3 a (.dK (putK kvs k z))))
section
variable {X:Cx}{o e f:Expr}{apos cpos:Pos}{td ty tx:TE}
theorem zgQ (ho:PE X o td) (he:PE X e ty) (hf:PE X f tx) (m:M2 X o "setdefault" apos e f cpos):PE X (.Call (.Attribute o "setdefault" apos) [e,f] [] cpos) (zlk td ty tx):=by
 intro pins s σ H Q I h;refine wpAny_Call_method m.base m.few m.line DQ Cr PySem.F.type_dict_setdefault (thn (ho pins s σ H _ I h) λu s1 ⟨x,H1,I1,rx,a,ex,d,q1⟩=>?_);subst ex;obtain rfl:u=Ar a:=rx;obtain⟨t1,t2,_⟩:=ziZ I1 d;refine⟨t1,t2,?_⟩;rw[m.trees]
 refine Cv rfl (Do (BQ (thn (he pins s1 σ H1 _ I1 q1) λiv s2 ⟨y,H2,I2,ry,q2⟩ =>
  BQ (thn (hf pins s2 σ H2 _ I2 q2) λfv s3 ⟨z,H3,I3,rz,kvs,k,eD,ey,hl,k1,k2⟩=>Dh ?_))))
 subst ey;obtain⟨zz,hd,vs,rel,dd⟩:=dk_of I3.hok eD
 refine call_meetsIn Cr dd.typeIs PySem.F.entry_dict_setdefault (PySem.F.args_dict_setdefault_3 _ _ _) (PySem.kt_meets_setdefault (zaz X.prog X.w) a (kV_is ry) hd fv)
  ⟨vs,dd,by rw[<- rel.length];exact zz,λp ep=>?_,λen h' dd' hs=>?_⟩
 .have rv:=rel.val k;rw[ep]at rv
  cases hv:valV kvs k with
  |none=>rw[hv]at rv;exact Bk rv
  |some v=>rw[hv]at rv;exact⟨v,H3,I3.tok _,rv,k1 v hv⟩
 .have hn:valV kvs k=none := by
   have rv:=(rel.val k).isSome_eq;rw[en]at rv
   cases hv:valV kvs k with
   |none=>rfl
   |some v=>rw[hv]at rv;exact absurd rv (by simp)
  have hz:(putK kvs k z).length<=sizeLine:=by have:=zaP kvs k z;lia
  have hq:∃q,h'.get? a=some q:=let ⟨q,_,_,hq,_⟩:=dd';⟨q,hq⟩
  exact⟨z,_,zc0 I3 (by rw[eD];exact Cg) hs hq (zi7 hz hd (rel.put k rz) dd'),rz,k2 hn⟩
end
section
variable {X:Cx}{tg:Expr}
end
section
variable {prog:AH}{w:A4}{A:AJ}{E:Ac->Ae->Prop}{s:Ae}{d it v:Addr}{i ep:Nat}{es:Array DictEntry}{od:Obj}{ok ov:Ac}
end
section
variable {X:Cx}
end
end L2
namespace RP
noncomputable def av(w:Nat):Int:=if w=0∨w=1 then 1 else 0
noncomputable def bv(w:Nat):Int:=if w=1∨w=2 then 1 else 0
noncomputable def eU(e:Edge):Int:=px e+py e+av e.w
noncomputable def eV(e:Edge):Int:=py e-px e+bv e.w
noncomputable def tt(C:Cell->Bool)(e:Edge):Int:=match stepB C e with
 |none=>1
 |some s=>if s % 2=1 then -1 else 0
noncomputable def eK(w:Nat):Int:=(if w=1∨w=2 then 1 else 0)+(if w=2∨w=3 then 1 else 0)+av w
noncomputable def eL(w:Nat):Int:=(if w=2∨w=3 then 1 else 0)-(if w=1∨w=2 then 1 else 0)+bv w
theorem e_tab:∀w<4,∀v<4,(eK w-eK v+(eL w-eL v)) % 2≠0∨w=v∨(eK w-eK v-(eL w-eL v)=2*(mv ((2*w+6) % 8)).1/\eK w-eK v+(eL w-eL v)=2*(mv ((2*w+6) % 8)).2):=by decide
theorem eU_of(e:Edge):eU e=e.c.1+e.c.2+eK e.w:=by unfold eU px py eK;lia
theorem eV_of(e:Edge):eV e=e.c.2-e.c.1+eL e.w:=by unfold eV px py eL;lia
theorem e_inj{C:Cell->Bool}{e f:Edge}(he:IsE C e)(hf:IsE C f)(h1:eU e=eU f)(h2:eV e=eV f):e=f:=by
 rw[eU_of,eU_of]at h1;rw[eV_of,eV_of]at h2;have t:=e_tab e.w he.1 f.w hf.1;obtain⟨⟨x,y⟩,w⟩:=e;obtain⟨⟨x',y'⟩,w'⟩:=f;simp only at h1 h2 t;rcases t with z |z |⟨z1,z2⟩
 .exfalso;lia
 .subst z;have a:x=x':=by lia
  have b:y=y':=by lia
  rw[a,b]
 .have g:=he.2.2;have a:x'=x+(mv ((2*w+6) % 8)).1:=by lia
  have b:y'=y+(mv ((2*w+6) % 8)).2:=by lia
  have c:=hf.2.1;rw[a,b]at c;exact absurd (c.symm.trans g) (by decide)
theorem zck{C:Cell->Bool}{e:Edge}(h:IsE C e):eU (nxt C e)=eU e+(av e.w+av (nxt C e).w-1)/\eV (nxt C e)=eV e+(bv e.w+bv (nxt C e).w-1):=by obtain⟨p,q⟩:=zfy h;unfold eU eV;rw[p,q];have hw:=h.1;generalize (nxt C e).w=w';rcases way4 hw with r |r |r |r <;> rw[r] <;> simp[av,bv,dx,dy] <;> lia
theorem zew{C:Cell -> Bool}{e:Edge}(h:IsE C e) :
  (tt C e=-1/\(nxt C e).w=(e.w+3) % 4)∨(tt C e=0/\(nxt C e).w=e.w)∨(tt C e=1/\(nxt C e).w=(e.w+1) % 4):=by
 unfold tt;rcases zaT h with⟨_,s,q⟩ |⟨_,_,s,q⟩ |⟨_,_,s,q⟩ <;> rw[q,s] <;> simp only
 .left;rw[if_pos (odd7 _)];exact⟨by decide,trivial⟩
 .right;left;rw[if_neg (by lia)];exact⟨by decide,trivial⟩
 .right;right;exact⟨by decide,trivial⟩
theorem c_at{C:Cell->Bool}{a b c d:Int}{v:Bool}(h:C (a,b)=v)(h1:c=a)(h2:d=b):C (c,d)=v:=by subst h1 h2;exact h
theorem zeb{C:Cell -> Bool}{e:Edge}(h:IsE C e)(ht:tt C e=0) :
  C (px e+dx e.w-1,py e+dy e.w-1)=decide (e.w=1∨e.w=2)/\C (px e+dx e.w,py e+dy e.w-1)=decide (e.w=2∨e.w=3):=by
 obtain⟨⟨x,y⟩,w⟩:=e;obtain⟨hw,hc,hg⟩:=id h;rcases zaT h with⟨_,s,q⟩ |⟨k1,k2,s,q⟩ |⟨_,_,s,q⟩
 .exfalso;unfold tt at ht;rw[s]at ht;simp only at ht;rw[if_pos (odd7 _)]at ht;exact absurd ht (by decide)
 .simp only at hw hc k1 k2
  rcases way4 hw with rfl |rfl |rfl |rfl <;> simp only[gap,go,mv,px,py,dx,dy]at hg k1 k2 ⊢ <;> simp at hg k1 k2 hc ⊢ <;>
   refine⟨?_,?_⟩ <;> first |exact c_at hg (by lia) (by lia) |exact c_at hc (by lia) (by lia) |exact c_at k1 (by lia) (by lia) |exact c_at k2 (by lia) (by lia)
 .exfalso;unfold tt at ht;rw[s]at ht;exact absurd ht (by decide)
theorem zdr(w:Nat):av w=0∨av w=1:=by unfold av;split <;> simp
theorem zhd(w:Nat):bv w=0∨bv w=1:=by unfold bv;split <;> simp
theorem ze8:∀w<4,∀n,n=(w+3) % 4∨n=(w+1) % 4->(av w=av n/\bv w+bv n=1)∨(av w+av n=1/\bv w=bv n):=by intro w hw n hn;rcases hn with rfl |rfl <;> revert w <;> decide
theorem dx_av:∀w<4,dx w=av w-bv w/\dy w=av w+bv w-1:=by decide
theorem zkZ{C:Cell->Bool}{e f:Edge}(he:IsE C e)(hf:IsE C f)(h1:eU e+eU (nxt C e)=eU f+eU (nxt C f))(h2:eV e+eV (nxt C e)=eV f+eV (nxt C f)):e=f:=by
 obtain⟨a1,a2⟩:=zck he;obtain⟨b1,b2⟩:=zck hf
 have key:e=f∨(tt C e=0/\tt C f=0/\px e+dx e.w=px f+dx f.w/\py e+dy e.w=py f+dy f.w)∨(eU e=eU (nxt C f)/\eV e=eV (nxt C f)/\e.w≠(nxt C f).w):=by
  rw[a1,b1]at h1;rw[a2,b2]at h2
  have ta:(tt C e=0/\(nxt C e).w=e.w)∨(av e.w=av (nxt C e).w/\bv e.w+bv (nxt C e).w=1)∨(av e.w+av (nxt C e).w=1/\bv e.w=bv (nxt C e).w):=by
   rcases zew he with⟨_,n⟩ |q |⟨_,n⟩
   .exact .inr (ze8 _ he.1 _ (.inl n))
   .exact .inl q
   .exact .inr (ze8 _ he.1 _ (.inr n))
  have tb:(tt C f=0/\(nxt C f).w=f.w)∨(av f.w=av (nxt C f).w/\bv f.w+bv (nxt C f).w=1)∨(av f.w+av (nxt C f).w=1/\bv f.w=bv (nxt C f).w):=by
   rcases zew hf with⟨_,n⟩ |q |⟨_,n⟩
   .exact .inr (ze8 _ hf.1 _ (.inl n))
   .exact .inl q
   .exact .inr (ze8 _ hf.1 _ (.inr n))
  have fin:eU e=eU f->eV e=eV f->e=f:=λq1 q2=>e_inj he hf q1 q2
  have dif:∀{g:Nat->Int},g e.w≠g (nxt C f).w->e.w≠(nxt C f).w:=λ{g} q z=>q (by rw[z])
  rw[b1,b2];rcases ta with⟨t1,n1⟩ |⟨p1,p2⟩ |⟨p1,p2⟩ <;> rcases tb with⟨t2,n2⟩ |⟨q1,q2⟩ |⟨q1,q2⟩
  .rw[n1,n2]at h1 h2;have u1:eU e=px e+py e+av e.w:=rfl;have u2:eV e=py e-px e+bv e.w:=rfl;have v1:eU f=px f+py f+av f.w:=rfl;have v2:eV f=py f-px f+bv f.w:=rfl;obtain⟨d1,d2⟩:=dx_av _ he.1;obtain⟨d3,d4⟩:=dx_av _ hf.1;exact .inr (.inl ⟨t1,t2,by lia,by lia⟩)
  .rw[n1]at h1 h2;exfalso;lia
  .rw[n1]at h1 h2;exfalso;lia
  .rw[n2]at h1 h2;exfalso;lia
  .rcases Classical.em (av e.w=av f.w) with z |z
   .exact .inl (fin (by lia) (by lia))
   .have c1:=zdr e.w;have c2:=zdr f.w;exact .inr (.inr ⟨by lia,by lia,dif (g:=av) (by lia)⟩)
  .exfalso;lia
  .rw[n2]at h1 h2;exfalso;lia
  .exfalso;lia
  .rcases Classical.em (bv e.w=bv f.w) with z |z
   .exact .inl (fin (by lia) (by lia))
   .have c1:=zhd e.w;have c2:=zhd f.w;exact .inr (.inr ⟨by lia,by lia,dif (g:=bv) (by lia)⟩)
 rcases key with h |⟨t1,t2,q1,q2⟩ |⟨q1,q2,q3⟩
 .exact h
 .obtain⟨c1,c2⟩:=zeb he t1;obtain⟨d1,d2⟩:=zeb hf t2;rw[q1,q2]at c1 c2;rw[c1]at d1;rw[c2]at d2;have d1':=decide_eq_decide.mp d1;have d2':=decide_eq_decide.mp d2;have hw:=he.1;have hw':=hf.1;have ww:e.w=f.w:=by lia
  rw[ww]at q1 q2;refine e_inj he hf ?_ ?_ <;> simp only[eU,eV] <;> rw[ww] <;> lia
 .exact absurd (congrArg Edge.w (e_inj he (zc9 hf) q1 q2)) q3
noncomputable def cr(x1 y1 x2 y2:Int):Int:=if y1=-1/\y2=0/\0<x2 then 1 else if y1=0/\y2=-1/\0<x1 then -1 else 0
noncomputable def crT(t y1 y2:Int):Int:=if y1=-1/\y2=0 then t else if y1=0/\y2=-1 then -t else 0
theorem zdq(t y:Int):crT t y y=0:=by unfold crT;rw[if_neg (by lia),if_neg (by lia)]
theorem zhb(t y z:Int):crT t y z+crT t z y=0:=by
 unfold crT
 by_cases h:y=-1/\z=0
 .rw[if_pos h,if_neg (by lia),if_pos ⟨h.2,h.1⟩];lia
 .by_cases k:y=0/\z=-1
  .rw[if_neg h,if_pos k,if_pos ⟨k.2,k.1⟩];lia
  .rw[if_neg h,if_neg k,if_neg (by lia),if_neg (by lia)];rfl
theorem cr_T{t x1 y1 x2 y2:Int}(h1:y1=0->(0<x1/\t=1)∨(¬ 0<x1/\t=0))(h2:y2=0->(0<x2/\t=1)∨(¬ 0<x2/\t=0)):cr x1 y1 x2 y2=crT t y1 y2:=by
 unfold cr crT
 by_cases h:y1=-1/\y2=0
 .rcases h2 h.2 with⟨q,r⟩ |⟨q,r⟩
  .rw[if_pos ⟨h.1,h.2,q⟩,if_pos h,r]
  .rw[if_neg (by lia),if_neg (by lia),if_pos h,r]
 .rw[if_neg (λz=>h ⟨z.1,z.2.1⟩),if_neg h]
  by_cases k:y1=0/\y2=-1
  .rcases h1 k.1 with⟨q,r⟩ |⟨q,r⟩
   .rw[if_pos ⟨k.1,k.2,q⟩,if_pos k,r]
   .rw[if_neg (by lia),if_pos k,r];rfl
  .rw[if_neg (λz=>k ⟨z.1,z.2.1⟩),if_neg k]
theorem cr_sq(u v a1 a2 b1 b2:Int)(ha1 : -1 <= a1 /\ a1 <= 1)(ha2 : -1 <= a2 /\ a2 <= 1)(hb1 : -1 <= b1 /\ b1 <= 1)(hb2 : -1 <= b2 /\ b2 <= 1)
  (h00:¬(u=0/\v=0)) (h10:¬(u+a1=0/\v+a2=0)) (h01:¬(u+b1=0/\v+b2=0)) (h11:¬(u+a1+b1=0/\v+a2+b2=0))
  (hc:¬(2*u+a1+b1=0/\2*v+a2+b2=0)) :
  cr u v (u+a1) (v+a2)+cr (u+a1) (v+a2) (u+a1+b1) (v+a2+b2)=cr u v (u+b1) (v+b2)+cr (u+b1) (v+b2) (u+a1+b1) (v+a2+b2):=by
 obtain⟨t,k00,k10,k01,k11⟩:∃t:Int,(v=0->(0<u/\t=1)∨(¬ 0<u/\t=0))/\(v+a2=0->(0<u+a1/\t=1)∨(¬ 0<u+a1/\t=0))/\(v+b2=0->(0<u+b1/\t=1)∨(¬ 0<u+b1/\t=0))/\(v+a2+b2=0->(0<u+a1+b1/\t=1)∨(¬ 0<u+a1+b1/\t=0)):=by
  rcases Classical.em ((v=0/\0<u)∨(v+a2=0/\0<u+a1)∨(v+b2=0/\0<u+b1)∨(v+a2+b2=0/\0<u+a1+b1)) with z |z
  .exact⟨1,λh=>.inl ⟨by lia,rfl⟩,λh=>.inl ⟨by lia,rfl⟩,λh=>.inl ⟨by lia,rfl⟩,λh=>.inl ⟨by lia,rfl⟩⟩
  .exact⟨0,λh=>.inr ⟨by lia,rfl⟩,λh=>.inr ⟨by lia,rfl⟩,λh=>.inr ⟨by lia,rfl⟩,λh=>.inr ⟨by lia,rfl⟩⟩
 rw[cr_T k00 k10,cr_T k10 k11,cr_T k00 k01,cr_T k01 k11];have c:a2=b2∨a2=0∨b2=0∨a2=-b2:=by lia
 rcases c with rfl |rfl |rfl |rfl
 .rfl
 .rw[Int.add_zero,zdq,zdq];lia
 .rw[Int.add_zero,Int.add_zero,zdq,zdq];lia
 .rw[show v+-b2+b2=v by lia,zhb,zhb]
section
variable (U V:Nat->Int)
noncomputable def hH(i j:Nat):Int:=cr (U j-U i) (V j-V i) (U (j+1)-U i) (V (j+1)-V i)
noncomputable def gG(i j:Nat):Int:=cr (U j-U i) (V j-V i) (U j-U (i+1)) (V j-V (i+1))
noncomputable def sE:Nat->Int
 | 0=>0
 |i+1=>sE i+hH U V i (i+1)+gG U V i (i+2)
noncomputable def sF(i:Nat):Nat->Int
 | 0=>sE U V i
 |d+1=>sF i d+hH U V i (i+1+d)
variable {U V}
variable {n:Nat}
theorem zgf(su:∀k, -1 <= U (k + 1)-U k /\ U (k + 1)-U k <= 1)(sv:∀k, -1 <= V (k + 1)-V k /\ V (k + 1)-V k <= 1)
  (hd:∀i j,i<j->j<=n->¬(i=0/\j=n)->¬(U j-U i=0/\V j-V i=0))
  (hm:∀i j,i<j->j<n->¬(U i+U (i+1)=U j+U (j+1)/\V i+V (i+1)=V j+V (j+1))) :
  ∀d i,i+2+d<=n->¬(i=0/\i+2+d=n)->sF U V (i+1) d-sF U V i (d+1)=gG U V i (i+2+d)
 | 0,i,h,hx=>by
  show sE U V (i+1)-(sE U V i+hH U V i (i+1+0))=_;show sE U V i+hH U V i (i+1)+gG U V i (i+2)-(sE U V i+hH U V i (i+1))=gG U V i (i+2);lia
 |d+1,i,h,hx=>by
  have ih:=zgf su sv hd hm d i (by lia) (by lia);show sF U V (i+1) d+hH U V (i+1) (i+1+1+d)-(sF U V i (d+1)+hH U V i (i+1+(d+1)))=gG U V i (i+2+(d+1));have j1:i+1+1+d=i+2+d:=by lia
  have j2:i+1+(d+1)=i+2+d:=by lia
  have j3:i+2+(d+1)=(i+2+d)+1:=by lia
  rw[j1,j2,j3];generalize hj:i+2+d=j at *
  have q:=cr_sq (U j-U i) (V j-V i) (-(U (i+1)-U i)) (-(V (i+1)-V i)) (U (j+1)-U j) (V (j+1)-V j)
   (by have:=su i;lia) (by have:=sv i;lia) (su j) (sv j)
   (hd i j (by lia) (by lia) (by lia))
   (by have:=hd (i+1) j (by lia) (by lia) (by lia);lia)
   (by have:=hd i (j+1) (by lia) (by lia) (by lia);lia)
   (by have:=hd (i+1) (j+1) (by lia) (by lia) (by lia);lia)
   (by have:=hm i j (by lia) (by lia);lia)
  have e1:U j-U i+-(U (i+1)-U i)=U j-U (i+1):=by lia
  have e2:V j-V i+-(V (i+1)-V i)=V j-V (i+1):=by lia
  have e3:U j-U i+(U (j+1)-U j)=U (j+1)-U i:=by lia
  have e4:V j-V i+(V (j+1)-V j)=V (j+1)-V i:=by lia
  have e5:U j-U (i+1)+(U (j+1)-U j)=U (j+1)-U (i+1):=by lia
  have e6:V j-V (i+1)+(V (j+1)-V j)=V (j+1)-V (i+1):=by lia
  rw[e1,e2,e3,e4,e5,e6]at q;have q':gG U V i j+hH U V (i+1) j=hH U V i j+gG U V i (j+1):=q;lia
theorem cr_up{a b c d:Int}(h1:0<=b)(h2:0<=d):cr a b c d=0:=by unfold cr;rw[if_neg (by lia),if_neg (by lia)]
theorem cr_dn{a b c d:Int}(h1:b=0->a<=0)(h2:d=0->c<=0):cr a b c d=0:=by unfold cr;rw[if_neg (by lia),if_neg (by lia)]
theorem zlu(hn : 3 <= n)(su:∀k, -1 <= U (k + 1)-U k /\ U (k + 1)-U k <= 1)(sv:∀k, -1 <= V (k + 1)-V k /\ V (k + 1)-V k <= 1)
  (hd:∀i j,i<j->j<=n->¬(i=0/\j=n)->¬(U j-U i=0/\V j-V i=0))
  (hm:∀i j,i<j->j<n->¬(U i+U (i+1)=U j+U (j+1)/\V i+V (i+1)=V j+V (j+1)))
  (hU:U n=U 0) (hV:V n=V 0) (mV:∀k,k<n->V 0<=V k) (mU:∀k,k<n->V k=V 0->U 0<=U k) :
  sE U V (n-1)=gG U V 0 (n-1)+hH U V 1 (n-1):=by
 have r0:∀d,d+2<=n->sF U V 0 d=0:=by
  intro d
  induction d with
  |zero=>intro _;rfl
  |succ d ih =>
   intro h;show sF U V 0 d+hH U V 0 (0+1+d)=0;rw[ih (by lia)];have:=mV (0+1+d) (by lia);have:=mV (0+1+d+1) (by lia);unfold hH;rw[cr_up (by lia) (by lia)];rfl
 have s1:=zgf su sv hd hm (n-3) 0 (by lia) (by lia);rw[show n-3+1=n-2 by lia,r0 (n-2) (by lia),show 0+2+(n-3)=n-1 by lia]at s1
 have s2:sF U V 1 (n-2)=sF U V 1 (n-3)+hH U V 1 (n-1):=by have:sF U V 1 (n-3+1)=sF U V 1 (n-3)+hH U V 1 (1+1+(n-3)):=rfl;rw[show n-3+1=n-2 by lia,show 1+1+(n-3)=n-1 by lia]at this;exact this
 have r1:∀k,1+k<=n-1->sF U V (1+k) (n-2-k)=sF U V 1 (n-2):=by
  intro k
  induction k with
  |zero=>intro _;rfl
  |succ k ih =>
   intro h;have s:=zgf su sv hd hm (n-3-k) (1+k) (by lia) (by lia);rw[show n-3-k+1=n-2-k by lia,show 1+k+2+(n-3-k)=n by lia,ih (by lia)]at s
   have z:gG U V (1+k) n=0:=by unfold gG;have a1:=mV (1+k) (by lia);have a2:=mU (1+k) (by lia);have b1:=mV (1+k+1) (by lia);have b2:=mU (1+k+1) (by lia);exact cr_dn (by lia) (by lia)
   rw[z]at s;rw[show 1+(k+1)=1+k+1 by lia,show n-2-(k+1)=n-3-k by lia];lia
 have e:=r1 (n-2) (by lia);rw[show 1+(n-2)=n-1 by lia,show n-2-(n-2)=0 by lia]at e;show sF U V (n-1) 0=_;rw[e];have:(0:Nat)+1=1:=rfl;rw[this]at s1;lia
end
noncomputable def crs(x1 y1 x2 y2:Int):Int:=cr x1 y1 (x1+x2) (y1+y2)+cr (x1+x2) (y1+y2) x2 y2
noncomputable def ok8(w i j:Nat):Bool :=
 let w1:=(w+i+3) % 4
 let w2:=(w1+j+3) % 4
 let t:Int:=(i:Int)-1
 let t':Int:=(j:Int)-1
 crs (av w+av w1-1) (bv w+bv w1-1) (av w1+av w2-1) (bv w1+bv w2-1) == (2*((w:Int)+t)-1+t') / 8-(2*(w:Int)-1+t) / 8 &&
 crs (-(av w+av w1-1)) (-(bv w+bv w1-1)) (-(av w1+av w2-1)) (-(bv w1+bv w2-1)) == (2*((w:Int)+t)-1+t'+4) / 8-(2*(w:Int)-1+t+4) / 8
theorem all8:∀w<4,∀i<3,∀j<3,ok8 w i j=true:=by decide
noncomputable def it(C:Cell->Bool)(b:Edge):Nat->Edge
 | 0=>b
 |k+1=>nxt C (it C b k)
theorem Chain.get{C:Cell->Bool}{b:Edge}{es:List Edge}(h:Chain C b es):∀i,i<es.length->es[i]?=some (it C b i)
 | 0,_=>h.1
 |i+1,hi=>by
  have h1:=Chain.get h i (by lia);have:=h.2.1 i _ _ h1 (Aa hi);rw[Aa hi,this];rfl
theorem Closed.pos{C:Cell->Bool}{b:Edge}{es:List Edge}(h:Closed C b es):0<es.length:=(Ad.mp h.1.1).1
theorem Closed.it_len{C:Cell->Bool}{b:Edge}{es:List Edge}(h:Closed C b es):it C b es.length=b:=by
 obtain⟨hc,l,hl,hb⟩:=id h;have hp:=h.pos;have:=hc.get (es.length-1) (by lia);rw[hl]at this
 cases this
 have e:it C b (es.length-1+1)=nxt C (it C b (es.length-1)):=rfl;rw[show es.length-1+1=es.length by lia]at e;rw[e,hb]
theorem it_ok{C:Cell->Bool}{b:Edge}(h:IsE C b):∀k,IsE C (it C b k)
 | 0=>h
 |k+1=>zc9 (it_ok h k)
noncomputable def wW(C:Cell->Bool)(b:Edge):Nat->Int
 | 0=>b.w
 |k+1=>wW C b k+tt C (it C b k)
theorem tt_ix{C:Cell->Bool}{e:Edge}(h:IsE C e):∃i:Nat,i<3/\tt C e=(i:Int)-1/\(nxt C e).w=(e.w+i+3) % 4:=by
 have hw:=h.1;rcases zew h with⟨a,b⟩ |⟨a,b⟩ |⟨a,b⟩
 .exact⟨0,by decide,by rw[a];rfl,by rw[b]⟩
 .exact⟨1,by decide,by rw[a];rfl,by rw[b];lia⟩
 .exact⟨2,by decide,by rw[a];rfl,by rw[b];lia⟩
theorem zfh{C:Cell->Bool}{b:Edge}(h:IsE C b):∀k,wW C b k % 4=((it C b k).w:Int)
 | 0=>by have:=h.1;show (b.w:Int) % 4=b.w;lia
 |k+1=>by
  have ih:=zfh h k;obtain⟨i,hi,e1,e2⟩:=tt_ix (it_ok h k);show (wW C b k+tt C (it C b k)) % 4=((nxt C (it C b k)).w:Int);rw[e1,e2];lia
noncomputable def th(C:Cell->Bool)(b:Edge)(k:Nat):Int:=2*wW C b k-1+tt C (it C b k)
noncomputable def up8(w i:Nat):Bool :=
 let w1:=(w+i+3) % 4
 decide (0<bv w+bv w1-1∨(bv w+bv w1-1=0/\0<=av w+av w1-1)) == decide ((2*(w:Int)-1+((i:Int)-1)) % 8<4) &&
 decide (bv w+bv w1-1<0∨(bv w+bv w1-1=0/\av w+av w1-1<=0)) == decide (4<=(2*(w:Int)-1+((i:Int)-1)) % 8) &&
 !(decide (av w+av w1-1=0/\bv w+bv w1-1=0))
theorem zl4:∀w<4,∀i<3,up8 w i=true:=by decide
theorem half{C:Cell -> Bool}{b:Edge}(h:IsE C b)(k:Nat) :
  ((0<eV (it C b (k+1))-eV (it C b k)∨(eV (it C b (k+1))-eV (it C b k)=0/\0<=eU (it C b (k+1))-eU (it C b k))) ↔ th C b k % 8<4) /\
  ((eV (it C b (k+1))-eV (it C b k)<0∨(eV (it C b (k+1))-eV (it C b k)=0/\eU (it C b (k+1))-eU (it C b k)<=0)) ↔ 4<=th C b k % 8) /\
  ¬ (eU (it C b (k+1))-eU (it C b k)=0/\eV (it C b (k+1))-eV (it C b k)=0):=by
 obtain⟨i,hi,e1,e2⟩:=tt_ix (it_ok h k);obtain⟨s1,s2⟩:=zck (it_ok h k);have q:=zl4 _ (it_ok h k).1 i hi;have m:=zfh h k;simp only[up8,A9,beq_iff_eq,decide_eq_decide,Bool.not_eq_true',decide_eq_false_iff_not]at q;rw[<- e2]at q;obtain⟨⟨q1,q2⟩,q3⟩:=q;have t:th C b k % 8=(2*((it C b k).w:Int)-1+((i:Int)-1)) % 8:=by unfold th;rw[e1];lia
 rw[t];have d1:eU (it C b (k+1))-eU (it C b k)=av (it C b k).w+av (nxt C (it C b k)).w-1:=by show eU (nxt C (it C b k))-_=_;lia
 have d2:eV (it C b (k+1))-eV (it C b k)=bv (it C b k).w+bv (nxt C (it C b k)).w-1:=by show eV (nxt C (it C b k))-_=_;lia
 rw[d1,d2];exact⟨q1,q2,q3⟩
theorem sub0{a b:Int}(h:b-a=0):a=b:=by lia
theorem zgE{a b c:Int}(h:a=b+c):a-b=c:=by lia
theorem turn8{C:Cell -> Bool}{b:Edge}(h:IsE C b)(k:Nat) :
  crs (eU (it C b (k+1))-eU (it C b k)) (eV (it C b (k+1))-eV (it C b k)) (eU (it C b (k+2))-eU (it C b (k+1))) (eV (it C b (k+2))-eV (it C b (k+1)))=th C b (k+1) / 8-th C b k / 8 /\
  crs (-(eU (it C b (k+1))-eU (it C b k))) (-(eV (it C b (k+1))-eV (it C b k))) (-(eU (it C b (k+2))-eU (it C b (k+1)))) (-(eV (it C b (k+2))-eV (it C b (k+1))))=(th C b (k+1)+4) / 8-(th C b k+4) / 8:=by
 obtain⟨i,hi,e1,e2⟩:=tt_ix (it_ok h k);obtain⟨j,hj,f1,f2⟩:=tt_ix (it_ok h (k+1));obtain⟨s1,s2⟩:=zck (it_ok h k);obtain⟨s3,s4⟩:=zck (it_ok h (k+1));have m:=zfh h k;have q:=all8 _ (it_ok h k).1 i hi j hj;simp only[ok8,A9,beq_iff_eq]at q;have w1:(it C b (k+1)).w=((it C b k).w+i+3) % 4:=e2;rw[<- w1,<- f2]at q;have wn:wW C b (k+1)=wW C b k+((i:Int)-1):=by show wW C b k+tt C (it C b k)=_;rw[e1]
 have t0:th C b k=2*wW C b k-1+((i:Int)-1):=by unfold th;rw[e1]
 have t1:th C b (k+1)=2*(wW C b k+((i:Int)-1))-1+((j:Int)-1):=by unfold th;rw[f1,wn]
 have d1:eU (it C b (k+1))-eU (it C b k)=av (it C b k).w+av (it C b (k+1)).w-1:=zgE s1;have d2:eV (it C b (k+1))-eV (it C b k)=bv (it C b k).w+bv (it C b (k+1)).w-1:=zgE s2;have d3:eU (it C b (k+2))-eU (it C b (k+1))=av (it C b (k+1)).w+av (nxt C (it C b (k+1))).w-1:=zgE s3;have d4:eV (it C b (k+2))-eV (it C b (k+1))=bv (it C b (k+1)).w+bv (nxt C (it C b (k+1))).w-1:=zgE s4;rw[d1,d2,d3,d4,t0,t1,q.1,q.2];clear q d1 d2 d3 d4 s1 s2 s3 s4 t0 t1 wn w1 f1 f2 e1 e2;generalize wW C b k=W at *;generalize (it C b k).w=w at *;constructor <;> lia
theorem zlL:∀w<4,∀i<3,¬ (av w+av ((w+i+3) % 4)=1/\bv w+bv ((w+i+3) % 4)=1):=by decide
theorem zjy{T0 Tm Tn D s:Int}(key:Tm / 8-T0 / 8=(Tn+4) / 8-(Tm+4) / 8)(u0:T0 % 8<4)(um:4<=Tm % 8)(hD:D % 4=0)(hn:Tn=T0+2*D)(hm:Tm=Tn-s)(s1:-2<=s)(s2:s<=2):(D=4/\0<s)∨(D=-4/\s<0):=by
 obtain⟨d,rfl⟩:∃d,D=4*d:=⟨D / 4,by lia⟩;have h1:(Tn+4) / 8=T0 / 8+d:=by lia
 have h2:(Tm+4) / 8=Tm / 8+1:=by lia
 rw[h1,h2]at key;have a1:T0=8*(T0 / 8)+T0 % 8:=by lia
 have a2:Tm=8*(Tm / 8)+Tm % 8:=by lia
 have a3:0<=T0 % 8:=by lia
 have a4:Tm % 8<8:=by lia
 generalize T0 / 8=a at *;generalize Tm / 8=c at *;generalize T0 % 8=r at *;generalize Tm % 8=p at *;clear h1 h2 hD;have:c-a-d=-1∨c-a-d=0:=by lia
 rcases this with z |z
 .exact .inl ⟨by lia,by lia⟩
 .exact .inr ⟨by lia,by lia⟩
theorem Closed.least_sign{C:Cell -> Bool}{b:Edge}{es:List Edge}(h:Closed C b es)
  (hmin:∀f∈es,eV b<=eV f/\(eV f=eV b->eU b<=eU f)):(wW C b es.length-wW C b 0=4/\0<tt C (it C b (es.length-1))+tt C b)∨(wW C b es.length-wW C b 0=-4/\tt C (it C b (es.length-1))+tt C b<0):=by
 have hp:=h.pos;have hE:IsE C b:=h.1.2.2.1 b (Aj h.1.1);have hl:=h.it_len;have get:=h.1.get;have nd:=h.1.2.2.2;generalize hn:es.length=n at *;have mem:∀k,k<n->it C b k∈es:=λk hk=>Aj (get k hk)
 have inj:∀i j,i<j->j<n->it C b i≠it C b j:=λi j hij hj e=>by have:=(CG (i:=i) (j:=j) (by lia) nd).mp (by rw[get i (by lia),get j hj,e]);lia
 have n3:3<=n:=by
  have h0:=half hE 0;have h1:=half hE 1;have l1:=zfh hE 1;rcases AX n 3 with hlt |hge
  .exfalso;have:n=1∨n=2:=by lia
   rcases this with e |e
   .rw[e]at hl;have z:=h0.2.2;rw[show 0+1=1 from rfl,hl]at z;exact z ⟨by show eU b-eU b=0;lia,by show eV b-eV b=0;lia⟩
   .rw[e]at hl;have a:=(tt_ix (it_ok hE 0));have c:=(tt_ix (it_ok hE 1));obtain⟨s1,s2⟩:=zck (it_ok hE 0);obtain⟨s3,s4⟩:=zck (it_ok hE 1);change it C b (1+1)=b at hl;have hl':nxt C (it C b 1)=b:=hl;rw[hl']at s3 s4;have i0:it C b 0=b:=rfl;have i1:nxt C (it C b 0)=it C b 1:=rfl;obtain⟨i,hi,_,e2⟩:=a;rw[i1,i0]at s1 s2 e2;have hw:=hE.1;have hw1:=(it_ok hE 1).1;have x1:av b.w+av (it C b 1).w=1:=by lia
    have x2:bv b.w+bv (it C b 1).w=1:=by lia
    rw[e2]at x1 x2;exact zlL _ hw _ hi ⟨x1,x2⟩
  .exact hge
 have key:=zlu (U:=λk=>eU (it C b k)) (V:=λk=>eV (it C b k)) n3
  (λk=>by obtain⟨s1,_⟩:=zck (it_ok hE k);show -1<=eU (nxt C (it C b k))-eU (it C b k)/\eU (nxt C (it C b k))-eU (it C b k)<=1;have a:=zdr (it C b k).w;have c:=zdr (nxt C (it C b k)).w;lia)
  (λk=>by
   obtain⟨_,s1⟩:=zck (it_ok hE k);show -1<=eV (nxt C (it C b k))-eV (it C b k)/\eV (nxt C (it C b k))-eV (it C b k)<=1;have a:bv (it C b k).w=0∨bv (it C b k).w=1:=by unfold bv;split <;> simp
   have c:bv (nxt C (it C b k)).w=0∨bv (nxt C (it C b k)).w=1:=by unfold bv;split <;> simp
   lia)
  (λi j hij hj hx z=>by
   have e:=e_inj (it_ok hE i) (it_ok hE j) (sub0 z.1) (sub0 z.2);rcases AX j n with hlt |hge
   .exact inj i j hij hlt e
   .have:j=n:=by lia
    rw[this,hl]at e;exact inj 0 i (by lia) (by lia) e.symm)
  (λi j hij hj z=>inj i j hij hj (zkZ (it_ok hE i) (it_ok hE j) z.1 z.2))
  (by show eU (it C b n)=eU b;rw[hl]) (by show eV (it C b n)=eV b;rw[hl])
  (λk hk=>(hmin _ (mem k hk)).1) (λk hk=>(hmin _ (mem k hk)).2)
 have sE_th:∀k,sE (λk=>eU (it C b k)) (λk=>eV (it C b k)) k=th C b k / 8-th C b 0 / 8:=by
  intro k
  induction k with
  |zero=>show (0:Int)=_;lia
  |succ k ih =>
   have q:=(turn8 hE k).1;unfold crs at q;have e1:eU (it C b (k+1))-eU (it C b k)+(eU (it C b (k+2))-eU (it C b (k+1)))=eU (it C b (k+2))-eU (it C b k):=by lia
   have e2:eV (it C b (k+1))-eV (it C b k)+(eV (it C b (k+2))-eV (it C b (k+1)))=eV (it C b (k+2))-eV (it C b k):=by lia
   rw[e1,e2]at q;show sE (λk=>eU (it C b k)) (λk=>eV (it C b k)) k+hH (λk=>eU (it C b k)) (λk=>eV (it C b k)) k (k+1)+gG (λk=>eU (it C b k)) (λk=>eV (it C b k)) k (k+2)=_;rw[ih];unfold hH gG;show th C b k / 8-th C b 0 / 8+cr (eU (it C b (k+1))-eU (it C b k)) (eV (it C b (k+1))-eV (it C b k)) (eU (it C b (k+2))-eU (it C b k)) (eV (it C b (k+2))-eV (it C b k))+cr (eU (it C b (k+2))-eU (it C b k)) (eV (it C b (k+2))-eV (it C b k)) (eU (it C b (k+2))-eU (it C b (k+1))) (eV (it C b (k+2))-eV (it C b (k+1)))=_;lia
 obtain⟨m,rfl⟩:∃m,n=m+1:=⟨n-1,by lia⟩;rw[show m+1-1=m by lia,sE_th]at key;have i2:it C b (m+2)=it C b 1:=by show nxt C (it C b (m+1))=nxt C b;rw[hl]
 have q:=(turn8 hE m).2;rw[i2,hl]at q;unfold crs at q;unfold gG hH at key;simp only at key;rw[hl]at key;have z0:it C b 0=b:=rfl;rw[show 0+1=1 from rfl,z0]at key;have e1:-(eU b-eU (it C b m))+-(eU (it C b 1)-eU b)=eU (it C b m)-eU (it C b 1):=by lia
 have e2:-(eV b-eV (it C b m))+-(eV (it C b 1)-eV b)=eV (it C b m)-eV (it C b 1):=by lia
 have e3:-(eU b-eU (it C b m))=eU (it C b m)-eU b:=by lia
 have e4:-(eV b-eV (it C b m))=eV (it C b m)-eV b:=by lia
 have e5:-(eU (it C b 1)-eU b)=eU b-eU (it C b 1):=by lia
 have e6:-(eV (it C b 1)-eV b)=eV b-eV (it C b 1):=by lia
 rw[e1,e2,e3,e4,e5,e6]at q;rw[q]at key
 have u0:th C b 0 % 8<4:=by
  refine (half hE 0).1.mp ?_
  obtain⟨a,c⟩:=hmin _ (mem 1 (by lia));rw[z0];show 0<eV (it C b 1)-eV b∨(eV (it C b 1)-eV b=0/\0<=eU (it C b 1)-eU b);lia
 have um:4<=th C b m % 8:=by
  refine (half hE m).2.1.mp ?_
  obtain⟨a,c⟩:=hmin _ (mem m (by lia));rw[hl];lia
 have md:=zfh hE (m+1);rw[hl]at md;have w0:wW C b 0=(b.w:Int):=rfl;have wn:wW C b (m+1)=wW C b m+tt C (it C b m):=rfl;have t0:th C b 0=2*wW C b 0-1+tt C b:=rfl;have tm:th C b m=2*wW C b m-1+tt C (it C b m):=rfl;have tn:th C b (m+1)=2*wW C b (m+1)-1+tt C b:=by unfold th;rw[hl]
 obtain⟨i,hi,r1,_⟩:=tt_ix hE;obtain⟨j,hj,r2,_⟩:=tt_ix (it_ok hE m);rw[show m+1-1=m from rfl];exact zjy key u0 um (by lia) (by lia) (by lia) (by lia) (by lia)
theorem Closed.least_turn{C:Cell -> Bool}{b:Edge}{es:List Edge}(h:Closed C b es)
  (hmin:∀f∈es,eV b<=eV f/\(eV f=eV b->eU b<=eU f)):wW C b es.length-wW C b 0=4∨wW C b es.length-wW C b 0=-4 :=
 (h.least_sign hmin).imp And.left And.left
theorem Closed.head{C:Cell->Bool}{b a:Edge}{r:List Edge}(h:Closed C b (a::r)):a=b:=by have:=h.1.1;simpa using this
theorem Closed.rot1{C:Cell->Bool}{b c:Edge}{r:List Edge}(h:Closed C b (b::r))(hc:(r++[b])[0]?=some c):Closed C c (r++[b]):=by
 obtain⟨⟨h0,hs,hE,hn⟩,l,hl,hb⟩:=id h;refine⟨⟨hc,λi e f h1 h2=>?_,λe he=>hE e (by rcases AW.mp he with m |m;exact At _ m;rw[Ap.mp m];exact AC),?_⟩,?_⟩
 .have hi:=(Ad.mp h2).1;simp only[Ak,A3,C3]at hi;rw[AE (by lia)]at h1;rcases AX (i+1) r.length with q |q
  .rw[AE q]at h2;exact hs (i+1) e f (by simpa using h1) (by simpa using h2)
  .have e1:i+1=r.length:=by lia
   rw[AQ (by lia),e1]at h2;simp at h2;have e2:(b::r).length-1=i+1:=by simp;lia
   rw[e2]at hl;simp only[CS]at hl;rw[hl]at h1
   cases h1
   rw[hb,h2]
 .rw[CF];have:=B9.mp hn;exact⟨this.2,by simp,λx hx y hy e=>by rw[Ap.mp hy]at e;rw[e]at hx;exact this.1 hx⟩
 .refine⟨b,by simp,?_⟩
  cases r with
  |nil =>
   simp at hl hc;subst hc;subst hl;exact hb
  |cons a r =>
   simp at hc;have:=hs 0 b a rfl rfl;rw[<- this,hc]
theorem Closed.rot{C:Cell->Bool}:∀(j:Nat){b e:Edge}{es:List Edge},Closed C b es->es[j]?=some e->Closed C e (es.drop j++es.take j)
 | 0,b,e,es,h,he=>by
  have:=h.1.1;rw[he]at this
  cases this
  simpa using h
 |j+1,b,e,[],h,he=>by simp at he
 |j+1,b,e,a::r,h,he=>by
  have:=h.head;subst this;simp only[CS]at he;have hj:=(Ad.mp he).1;obtain⟨c,hc⟩:∃c,(r++[a])[0]?=some c:=⟨_,Aa (by simp)⟩;have h1:=h.rot1 hc;have h2:=Closed.rot j h1 (by rw[AE hj];exact he);rw[List.drop_append_of_le_length (by lia),List.take_append_of_le_length (by lia)]at h2;simpa using h2
theorem zhS{C:Cell->Bool}{b:Edge}{es:List Edge}(h:Chain C b es):∀i,i<=es.length->((es.take i).map (tt C)).sum=wW C b i-wW C b 0
 | 0,_=>by simp
 |i+1,hi=>by
  have ih:=zhS h i (by lia);rw[Dt,h.get i (by lia)];simp only[Option.toList_some,AA,AT,List.map_nil,DL,BD,List.sum_nil];rw[ih];show _=wW C b i+tt C (it C b i)-wW C b 0;lia
theorem zcF:∀(es:List Edge),es≠[]->∃b∈es,∀f∈es,eV b<=eV f/\(eV f=eV b->eU b<=eU f)
 |[],h=>absurd rfl h
 |[a],_=>⟨a,by simp,λf hf=>by rw[Ap.mp hf];exact⟨BG _,λ_=>BG _⟩⟩
 |a::c::r,_=>by
  obtain⟨b,hb,q⟩:=zcF (c::r) (by simp)
  by_cases hl:eV b<eV a∨(eV b=eV a/\eU b<=eU a)
  .refine⟨b,At _ hb,λf hf=>?_⟩;rcases Aw.mp hf with rfl |hf
   .lia
   .exact q f hf
  .refine⟨a,AC,λf hf=>?_⟩;rcases Aw.mp hf with rfl |hf
   .lia
   .have:=q f hf;lia
theorem zf8(l:List Int)(j:Nat):(l.drop j++l.take j).sum=l.sum:=by
 have:=List.take_append_drop j l;rw[DL]
 conv=>rhs;rw[<- this,DL]
 lia
theorem Closed.turning{C:Cell->Bool}{b:Edge}{es:List Edge}(h:Closed C b es):(es.map (tt C)).sum=4∨(es.map (tt C)).sum=-4:=by
 have hp:=h.pos;obtain⟨e,he,q⟩:=zcF es (by intro z;rw[z]at hp;simp at hp);obtain⟨j,hj,ej⟩:=Au he;have h1:=h.rot j (by rw[Aa hj,ej])
 have h2:=h1.least_turn (λf hf=>q f (by
  rcases AW.mp hf with m |m
  .exact List.mem_of_mem_drop m
  .exact List.mem_of_mem_take m))
 rw[<- zhS h1.1 _ (Ai _),AV,AA,Dc,Dd,zf8]at h2;exact h2
theorem zev(C:Cell->Bool):∀es:List Edge,(es.map (tt C)).sum=((es.filter λe=>(stepB C e).isNone).length:Int)-((es.filter λe=>slant (stepB C e)).length:Int)
 |[]=>rfl
 |e::r=>by
  have ih:=zev C r
  have q:tt C e=(if (stepB C e).isNone=true then 1 else 0)-(if slant (stepB C e)=true then 1 else 0):=by
   unfold tt
   cases hs:stepB C e with
   |none=>rfl
   |some s =>
    by_cases h:s % 2=1
    .simp[slant,h]
    .have h0:s % 2=0:=by lia
     simp[slant,h0]
  simp only[AT,BD,List.filter_cons];rw[q,ih];split <;> split <;> (try simp only[A3]) <;> lia
set_option synthInstance.maxSize 4000 in
set_option synthInstance.maxHeartbeats 400000 in
theorem ziO:∀y < 4, ∀i < 3, ∀j < 3, 0 <= bv ((y + j + 3) % 4) + bv (((y + j + 3) % 4 + i + 3) % 4)-1 -> (bv ((y + j + 3) % 4) + bv (((y + j + 3) % 4 + i + 3) % 4)-1=0 -> 0 <= av ((y + j + 3) % 4) + av (((y + j + 3) % 4 + i + 3) % 4)-1) ->
  bv y+bv ((y+j+3) % 4)-1<=0->(bv y+bv ((y+j+3) % 4)-1=0->av y+av ((y+j+3) % 4)-1<=0)->(2<i+j->(y+j+3) % 4=0)/\(i+j<2->(y+j+3) % 4=2):=by decide
theorem Closed.least_way{C:Cell -> Bool}{b:Edge}{es:List Edge}(h:Closed C b es)
  (hmin:∀f∈es,eV b<=eV f/\(eV f=eV b->eU b<=eU f)):(b.w=0/\(es.map (tt C)).sum=4)∨(b.w=2/\(es.map (tt C)).sum=-4):=by
 have hp:=h.pos;have hE:IsE C b:=h.1.2.2.1 b (Aj h.1.1);have hl:=h.it_len;have get:=h.1.get;have sg:=h.least_sign hmin;have ts:=zhS h.1 es.length (Ai _);rw[AV]at ts;rw[<- ts]at sg;obtain⟨m,hm⟩:∃m,es.length=m+1:=⟨es.length-1,by lia⟩;rw[hm,show m+1-1=m from rfl]at sg;rw[hm]at hl;have hE':IsE C (it C b m):=it_ok hE m;have mm:it C b m∈es:=Aj (get m (by lia));have nb:nxt C (it C b m)=b:=hl
 have hn:nxt C b∈es:=by
  rcases AX 1 es.length with z |z
  .exact Aj (get 1 z)
  .have:m=0:=by lia
   subst this;have:nxt C b=b:=nb;rw[this];exact Aj h.1.1
 obtain⟨s1,s2⟩:=zck hE;obtain⟨s3,s4⟩:=zck hE';rw[nb]at s3 s4;obtain⟨i,hi,r1,r1'⟩:=tt_ix hE;obtain⟨j,hj,r2,r2'⟩:=tt_ix hE';rw[nb]at r2';have m1:=hmin _ hn;have m2:=hmin _ mm;have w0:=hE.1;have w1:=hE'.1;have w2:=(zc9 hE).1;generalize (nxt C b).w=x at *;generalize (it C b m).w=y at *;generalize tt C (it C b m)=ta at *;generalize tt C b=tb at *;generalize b.w=z at *;subst r1';subst r2';obtain⟨t1,t2⟩:=ziO y w1 i hi j hj (by lia) (λq=>by have:=m1.2 (by lia);lia) (by lia) (λq=>by have:=m2.2 (by lia);lia);rcases sg with⟨g1,g2⟩ |⟨g1,g2⟩
 .exact .inl ⟨t1 (by lia),g1⟩
 .exact .inr ⟨t2 (by lia),g1⟩
theorem Closed.tele{C:Cell->Bool}{b:Edge}{es:List Edge}(h:Closed C b es){G g:Edge->Int}(hg:∀f∈es,G (nxt C f)=G f+g f):(es.map g).sum=0:=by
 have k:∀i,i<=es.length->((es.take i).map g).sum=G (it C b i)-G b:=by
  intro i
  induction i with
  |zero=>intro _;simp[it]
  |succ i ih =>
   intro hi;have h1:=h.1.get i (by lia);rw[Dt,h1];simp only[Option.toList_some,AA,AT,List.map_nil,DL,BD,List.sum_nil];rw[ih (by lia)];have:=hg _ (Aj h1);have e:it C b (i+1)=nxt C (it C b i):=rfl;rw[e,this];lia
 have:=k es.length (Ai _);rw[AV,h.it_len]at this;lia
theorem sums4{l:List Edge}{f g u v:Edge->Int}(h:∀e∈l,f e-g e=u e-v e):(l.map f).sum-(l.map g).sum=(l.map u).sum-(l.map v).sum:=by
 induction l with
 |nil=>simp
 |cons a r ih =>
  have h1:=h a AC;have h2:=ih λe he=>h e (At _ he)
  simp only[AT,BD];lia
noncomputable def ind(es:List Edge)(a:Edge):Int:=if a∈es then 1 else 0
noncomputable def at1(a e:Edge):Int:=if e=a then 1 else 0
theorem zdu(a:Edge):∀{es:List Edge},es.Nodup->(es.map (at1 a)).sum=ind es a
 |[],_=>by simp[ind]
 |e::r,h=>by
  obtain⟨h1,h2⟩:=B9.mp h;have ih:=zdu a h2;simp only[AT,BD,ih,ind,at1]
  by_cases z:e=a
  .subst z;rw[if_pos rfl,if_neg h1,if_pos AC];rfl
  .rw[if_neg z]
   by_cases y:a∈r
   .rw[if_pos y,if_pos (At _ y)];rfl
   .rw[if_neg y,if_neg]
    .rfl
    .intro m;rcases Aw.mp m with q |q
     .exact z q.symm
     .exact y q
noncomputable def wc(c:Cell)(e:Edge):Int:=if e.c.2=c.2/\c.1<px e then dy e.w else 0
noncomputable def wd(es:List Edge)(c:Cell):Int:=(es.map (wc c)).sum
theorem zi5{e:Edge}{x y:Int}{w:Nat}:e=⟨(x,y),w⟩ ↔ e.c.1=x/\e.c.2=y/\e.w=w:=by
 obtain⟨⟨a,b⟩,v⟩:=e;constructor
 .intro h;cases h;exact⟨rfl,rfl,rfl⟩
 .rintro⟨h1,h2,h3⟩;simp only at h1 h2 h3;rw[h1,h2,h3]
theorem zes{es:List Edge}(h4:∀e∈es,e.w<4)(nd:es.Nodup)(x y:Int):wd es (x,y)-wd es (x+1,y)=ind es ⟨(x,y),1⟩ - ind es ⟨(x+1,y),3⟩:=by
 rw[<- zdu _ nd,<- zdu _ nd];refine sums4 λe he=>?_
 have hw:=h4 e he;unfold wc at1;simp only[zi5];obtain⟨⟨a,b⟩,v⟩:=e;simp only at hw;rcases way4 hw with rfl |rfl |rfl |rfl <;> simp[px,dy] <;> (repeat' split) <;> lia
theorem wd_up{C:Cell->Bool}{b:Edge}{es:List Edge}(h:Closed C b es)(x y:Int):wd es (x,y+1)-wd es (x,y)=ind es ⟨(x,y+1),0⟩ - ind es ⟨(x,y),2⟩:=by
 have hE:=h.1.2.2.1;have nd:=h.1.2.2.2
 have t:=h.tele (G:=λe=>if x<px e/\py e=y+1 then (1:Int) else 0)
  (g:=λe=>(wc (x,y) e-wc (x,y+1) e)+(at1 ⟨(x,y+1),0⟩ e-at1 ⟨(x,y),2⟩ e)) (λe he=>by obtain⟨p,q⟩:=zfy (hE e he);have hw:=(hE e he).1;rw[p,q];clear p q;unfold wc at1;simp only[zi5];obtain⟨⟨a,b⟩,v⟩:=e;simp only at hw;rcases way4 hw with rfl |rfl |rfl |rfl <;> simp[px,py,dx,dy] <;> (repeat' split) <;> lia)
 rw[<- zdu _ nd,<- zdu _ nd]
 have k:∀l:List Edge,(l.map λe=>(wc (x,y) e-wc (x,y+1) e)+(at1 ⟨(x,y+1),0⟩ e-at1 ⟨(x,y),2⟩ e)).sum=((l.map (wc (x,y))).sum-(l.map (wc (x,y+1))).sum)+((l.map (at1 ⟨(x,y+1),0⟩)).sum-(l.map (at1 ⟨(x,y),2⟩)).sum):=by
  intro l
  induction l with
  |nil=>simp
  |cons a r ih=>simp only[AT,BD,ih];lia
 rw[k]at t;unfold wd;lia
noncomputable def fac(e:Edge):Edge:=⟨gap e,(e.w+2) % 4⟩
theorem zhH{C:Cell->Bool}{b:Edge}{es:List Edge}(h:Closed C b es)(e:Edge)(hw:e.w<4):wd es e.c-wd es (gap e)=ind es e-ind es (fac e):=by
 have hE:=h.1.2.2.1;have nd:=h.1.2.2.2;have r:=zes (λe he=>(hE e he).1) nd;have u:=wd_up h;obtain⟨⟨a,c⟩,v⟩:=e;simp only at hw;unfold fac;rcases way4 hw with rfl |rfl |rfl |rfl <;> simp only[gap,go,mv]
 .have:=u a (c-1);rw[show c-1+1=c by lia]at this;simp;rw[show c+-1=c-1 by lia];exact this
 .have:=r a c;simpa using this
 .have:=u a c;simp;lia
 .have:=r (a-1) c;rw[show a-1+1=a by lia]at this;simp;rw[show a+-1=a-1 by lia];lia
theorem zi1{C:Cell->Bool}{b:Edge}{es:List Edge}(h:Closed C b es){e:Edge}(hn:¬ IsE C e):ind es e=0:=by unfold ind;rw[if_neg λm=>hn (h.1.2.2.1 e m)]
theorem zk6{e:Edge}(hw:e.w<4):gap (fac e)=e.c:=by obtain⟨⟨a,c⟩,v⟩:=e;simp only at hw;unfold fac;rcases way4 hw with rfl |rfl |rfl |rfl <;> simp[gap,go,mv] <;> lia
theorem zer{C:Cell->Bool}{b:Edge}{es:List Edge}(h:Closed C b es)(e:Edge)(hw:e.w<4)(hC:C e.c=C (gap e)):wd es e.c=wd es (gap e):=by
 have k:=zhH h e hw
 rw[zi1 h (e:=e) (λz=>by have:=z.2.1;have:=z.2.2;simp_all),zi1 h (e:=fac e) (λz=>by
  have h1:=z.2.1;have h2:=z.2.2;rw[zk6 hw]at h2;have h1':C (gap e)=true:=h1
  simp_all)]at k
 lia
theorem zcl{C:Cell->Bool}{b:Edge}{es:List Edge}(h:Closed C b es){e:Edge}(he:IsE C e):wd es e.c=wd es (gap e)+ind es e:=by have k:=zhH h e he.1;rw[zi1 h (e:=fac e) (λz=>by have h1:C (gap e)=true:=z.2.1;rw[he.2.2]at h1;cases h1)]at k;lia
inductive Rch (D:Cell->Bool) (S:List Nat) (a:Cell):Cell->Prop where
 |refl:Rch D S a a
 |step {c:Cell} {s:Nat}:Rch D S a c->s∈S->D (go c s)=true->Rch D S a (go c s)
theorem Rch.trans{D:Cell->Bool}{S:List Nat}{a b c:Cell}(h:Rch D S a b)(k:Rch D S b c):Rch D S a c:=by
 induction k with
 |refl=>exact h
 |step _ hs hd ih=>exact .step ih hs hd
theorem Rch.dom{D:Cell->Bool}{S:List Nat}{a b:Cell}(h:Rch D S a b)(ha:D a=true):D b=true:=by
 cases h with
 |refl=>exact ha
 |step _ _ hd=>exact hd
noncomputable def S8:List Nat:=[0,1,2,3,4,5,6,7]
noncomputable def S4:List Nat:=[0,2,4,6]
theorem zgZ{s:Nat}:s∈S8 ↔ s<8:=by unfold S8;simp;lia
theorem ziG{s:Nat}:s∈S4 ↔ ∃w,w<4/\s=(2*w+6) % 8:=by
 unfold S4;simp;constructor
 .rintro (rfl |rfl |rfl |rfl)
  .exact⟨1,by decide,by decide⟩
  .exact⟨2,by decide,by decide⟩
  .exact⟨3,by decide,by decide⟩
  .exact⟨0,by decide,by decide⟩
 .rintro⟨w,hw,rfl⟩;rcases way4 hw with rfl |rfl |rfl |rfl <;> decide
theorem Closed.mem_nxt{C:Cell->Bool}{b e:Edge}{es:List Edge}(h:Closed C b es)(he:e∈es):nxt C e∈es:=by
 obtain⟨⟨h0,hs,_,_⟩,l,hl,hb⟩:=h;obtain⟨i,hi,ei⟩:=Au he;rcases AX (i+1) es.length with z |z
 .have:=hs i e es[i+1] (by rw[Aa hi,ei]) (Aa z);rw[<- this];exact A7 _
 .have hi':i=es.length-1:=by lia
  have:some e=some l:=by rw[<- hl,<- hi',Aa hi,ei]
  cases this
  rw[hb];exact Aj h0
theorem Closed.nxt_mem{C:Cell->Bool}{b e:Edge}{es:List Edge}(h:Closed C b es)(hE:IsE C e)(he:nxt C e∈es):e∈es:=by
 obtain⟨⟨h0,hs,hE',_⟩,l,hl,hb⟩:=h;obtain⟨i,hi,ei⟩:=Au he
 cases i with
 |zero =>
  have:some (nxt C e)=some b:=by rw[<- h0,Aa hi,ei]
  cases this
  have lm:=Aj hl;rw[zdH hE (hE' l lm) hb.symm];exact lm
 |succ i =>
  have m:es[i]∈es:=A7 (by lia);have:=hs i es[i] _ (Aa (by lia)) (by rw[Aa hi,ei]);rw[zdH hE (hE' _ m) this];exact m
theorem Closed.ind_nxt{C:Cell->Bool}{b e:Edge}{es:List Edge}(h:Closed C b es)(hE:IsE C e):ind es (nxt C e)=ind es e:=by
 unfold ind
 by_cases z:e∈es
 .rw[if_pos z,if_pos (h.mem_nxt z)]
 .rw[if_neg z,if_neg λm=>z (h.nxt_mem hE m)]
theorem zju{C:Cell->Bool}{b:Edge}{es:List Edge}(h:Closed C b es){c:Cell}{w:Nat}(hw:w<4)(hc:C c=true)(hd:C (go c ((2*w+7) % 8))=true):wd es c=wd es (go c ((2*w+7) % 8)):=by
 have g1:gap ⟨go c ((2*w+7) % 8),(w+3) % 4⟩=gap ⟨c,w⟩:=by unfold gap;simp only;rw[go_go (f1 w hw)]
 have hw3:(w+3) % 4<4:=BA _ (by decide)
 by_cases hg:C (gap ⟨c,w⟩)=true
 .have a:=zer h ⟨c,w⟩ hw (by rw[hg];exact hc);have d:=zer h ⟨go c ((2*w+7) % 8),(w+3) % 4⟩ hw3 (by rw[g1,hg];exact hd);rw[g1]at d;exact a.trans d.symm
 .have hg':C (gap ⟨c,w⟩)=false:=by simpa using hg
  have hE:IsE C ⟨c,w⟩:=⟨hw,hc,hg'⟩;rcases zaT hE with⟨_,_,q⟩ |⟨z,_⟩ |⟨z,_⟩
  .have a:=zcl h hE;have hn:=zc9 hE;have i:=h.ind_nxt hE;have d:=zcl h hn;rw[i]at d;rw[q]at d;simp only at a d;rw[g1]at d;exact a.trans d.symm
  .simp only at z;rw[hd]at z;cases z
  .simp only at z;rw[hd]at z;cases z
theorem zkW{s:Nat}(h:s<8)(ho:s % 2=1):∃w,w<4/\s=(2*w+7) % 8:=⟨(s+1) / 2 % 4,BA _ (by decide),by lia⟩
theorem zjW{s:Nat}(h:s<8)(ho:s % 2=0):∃w,w<4/\s=(2*w+6) % 8:=⟨(s / 2+1) % 4,BA _ (by decide),by lia⟩
theorem zet{C:Cell->Bool}{b:Edge}{es:List Edge}(h:Closed C b es){a c:Cell}(hc:Rch C S8 a c)(ha:C a=true):wd es c=wd es a:=by
 induction hc with
 |refl=>rfl
 |@step c s k hs hd ih =>
  have hc:=k.dom ha;have h8:=zgZ.mp hs;rw[<- ih];rcases Nat.mod_two_eq_zero_or_one s with z |z
  .obtain⟨w,hw,rfl⟩:=zjW h8 z;exact (zer h ⟨c,w⟩ hw (hc.trans hd.symm)).symm
  .obtain⟨w,hw,rfl⟩:=zkW h8 z;exact (zju h hw hc hd).symm
noncomputable abbrev no(C:Cell->Bool):Cell->Bool:=λc=>!C c
theorem zf7{C:Cell->Bool}{b:Edge}{es:List Edge}(h:Closed C b es){a c:Cell}(hc:Rch (no C) S4 a c)(ha:C a=false):wd es c=wd es a:=by
 induction hc with
 |refl=>rfl
 |@step c s k hs hd ih =>
  have hc:=k.dom (by simp[no,ha]);simp only[no,Bool.not_eq_true']at hc hd;obtain⟨w,hw,rfl⟩:=ziG.mp hs;rw[<- ih];exact (zer h ⟨c,w⟩ hw (hc.trans hd.symm)).symm
theorem zjQ{C:Cell->Bool}{e:Edge}(h:IsE C e):Rch C S8 e.c (nxt C e).c:=by
 have hw:=h.1;rcases zaT h with⟨h1,_,q⟩ |⟨h1,h2,_,q⟩ |⟨h1,h2,_,q⟩ <;> rw[q]
 .exact .step .refl (zgZ.mpr (BA _ (by decide))) h1
 .exact .step .refl (zgZ.mpr (by lia)) h2
 .exact .refl
theorem f9:∀w<4,mvAdd ((2*w+6) % 8) (2*w) ((2*w+7) % 8)=true:=by decide
theorem f10:∀w<4,mvAdd ((2*w+7) % 8) ((2*w+2) % 8) (2*w)=true:=by decide
theorem zkX{C:Cell->Bool}{e:Edge}(h:IsE C e):Rch (no C) S4 (gap e) (gap (nxt C e)):=by
 have hw:=h.1;have s0:2*e.w∈S4:=ziG.mpr ⟨(e.w+1) % 4,BA _ (by decide),by lia⟩;have s2:(2*e.w+2) % 8∈S4:=ziG.mpr ⟨(e.w+2) % 4,BA _ (by decide),by lia⟩;rcases zaT h with⟨h1,_,q⟩ |⟨h1,h2,_,q⟩ |⟨h1,h2,_,q⟩ <;> rw[q]
 .have:gap ⟨go e.c ((2*e.w+7) % 8),(e.w+3) % 4⟩=gap e:=by unfold gap;simp only;rw[go_go (f1 _ hw)]
  rw[this];exact .refl
 .have e1:gap ⟨go e.c (2*e.w),e.w⟩=go (gap e) (2*e.w):=by unfold gap;simp only;rw[go_go (f2 _ hw),go_go (f9 _ hw)]
  rw[e1];refine .step .refl s0 ?_
  unfold gap;rw[go_go (f9 _ hw)];simp[no,h1]
 .have e1:gap ⟨e.c, (e.w + 1) % 4⟩ = go (go (gap e) (2 * e.w)) ((2 * e.w + 2) % 8) := by unfold gap;simp only;rw[f3 _ hw,go_go (f9 _ hw),go_go (f10 _ hw)]
  rw[e1];refine .step (.step .refl s0 ?_) s2 ?_
  .unfold gap;rw[go_go (f9 _ hw)];simp[no,h1]
  .unfold gap;rw[go_go (f9 _ hw),go_go (f10 _ hw)];simp[no,h2]
theorem Closed.reach{C:Cell->Bool}{b:Edge}{es:List Edge}(h:Closed C b es):∀e∈es,Rch C S8 b.c e.c/\Rch (no C) S4 (gap b) (gap e):=by
 have hE:IsE C b:=h.1.2.2.1 b (Aj h.1.1)
 have k:∀i,Rch C S8 b.c (it C b i).c/\Rch (no C) S4 (gap b) (gap (it C b i)):=by
  intro i
  induction i with
  |zero=>exact⟨.refl,.refl⟩
  |succ i ih=>exact⟨ih.1.trans (zjQ (it_ok hE i)),ih.2.trans (zkX (it_ok hE i))⟩
 intro e he;obtain⟨i,hi,ei⟩:=Au he;have:=h.1.get i hi;rw[Aa hi,ei]at this
 cases this
 exact k i
theorem Closed.from{C:Cell->Bool}{b e:Edge}{es:List Edge}(h:Closed C b es)(he:e∈es):∃fs,Closed C e fs/\(∀f,f∈fs ↔ f∈es)/\(fs.map (tt C)).sum=(es.map (tt C)).sum/\∀c,wd fs c=wd es c:=by
 obtain⟨j,hj,ej⟩:=Au he;have h1:=h.rot j (by rw[Aa hj,ej]);refine⟨_,h1,λf=>?_,?_,λc=>?_⟩
 .constructor
  .intro hf;rcases AW.mp hf with m |m
   .exact List.mem_of_mem_drop m
   .exact List.mem_of_mem_take m
  .intro hf;rw[<- List.take_append_drop j es]at hf;rcases AW.mp hf with m |m
   .exact Am _ m
   .exact Ck _ m
 .rw[AA,Dc,Dd,zf8]
 .unfold wd;rw[AA,Dc,Dd,zf8]
theorem zbM{es:List Edge}{c:Cell}(h:∀e∈es,e.w=1∨e.w=3->¬ (e.c.2=c.2/\c.1<px e)):wd es c=0:=by
 unfold wd
 induction es with
 |nil=>rfl
 |cons a r ih =>
  have ih':=ih λe he=>h e (At _ he)
  have h1:=h a AC;simp only[AT,BD,ih'];unfold wc dy;split
  .rename_i q
   split
   .rename_i w1;exact absurd q (h1 (.inl w1))
   .split
    .rename_i w3;exact absurd q (h1 (.inr w3))
    .rfl
  .rfl
theorem Closed.inside{C:Cell -> Bool}{b:Edge}{es:List Edge}(h:Closed C b es) :
  ((es.map (tt C)).sum=4/\∀e∈es,wd es e.c=1/\wd es (gap e)=0)∨((es.map (tt C)).sum=-4/\∀e∈es,wd es e.c=0/\wd es (gap e)=-1):=by
 have hp:=h.pos;obtain⟨a,ha,q⟩:=zcF es (by intro z;rw[z]at hp;simp at hp);obtain⟨fs,h1,hm,hs,hv⟩:=h.from ha;have lw:=h1.least_way λf hf=>q f ((hm f).mp hf)
 rw[hs]at lw;have hE:IsE C a:=h.1.2.2.1 a ha
 have all:∀{u v:Int},wd es a.c=u->wd es (gap a)=v->∀e∈es,wd es e.c=u/\wd es (gap e)=v:=λhu hv e he=>by obtain⟨r1,r2⟩:=h1.reach e ((hm e).mpr he);exact⟨(zet h r1 hE.2.1).trans hu,(zf7 h r2 hE.2.2).trans hv⟩
 have cr:=zcl h hE;have i1:ind es a=1:=by unfold ind;rw[if_pos ha]
 rw[i1]at cr;rcases lw with⟨w,s⟩ |⟨w,s⟩
 .left
  have z:wd es (gap a)=0:=zbM λe he hw ⟨k1,k2⟩=>by have:=(q e he).1;obtain⟨⟨x,y⟩,v⟩:=a;simp only at w;subst w;obtain⟨⟨x',y'⟩,v'⟩:=e;simp only at hw;rcases hw with rfl |rfl <;> simp[gap,go,mv,px,py,eV,bv]at this k1 k2 <;> lia
  exact⟨s,all (by lia) z⟩
 .right
  have z:wd es a.c=0:=zbM λe he hw ⟨k1,k2⟩=>by have:=(q e he).1;obtain⟨⟨x,y⟩,v⟩:=a;simp only at w;subst w;obtain⟨⟨x',y'⟩,v'⟩:=e;simp only at hw;rcases hw with rfl |rfl <;> simp[px,py,eV,bv]at this k1 k2 <;> lia
  exact⟨s,all z (by lia)⟩
noncomputable def cLe(c d:Cell):Prop:=c.2<d.2∨(c.2=d.2/\c.1<=d.1)
theorem cLe.refl(c:Cell):cLe c c:=.inr ⟨rfl,BG _⟩
theorem cLe.antisymm{c d:Cell}(h:cLe c d)(k:cLe d c):c=d:=by unfold cLe at h k;exact Cm (by lia) (by lia)
theorem cLe.trans{a b c:Cell}(h:cLe a b)(k:cLe b c):cLe a c:=by unfold cLe at *;lia
theorem cLe.total(a b:Cell):cLe a b∨cLe b a:=by unfold cLe;lia
theorem zbr(P:Cell->Prop):∀(cs:List Cell),(∃c∈cs,P c)->∃c∈cs,P c/\∀d∈cs,P d->cLe c d
 |[],h=>by obtain⟨c,hc,_⟩:=h;cases hc
 |a::r,h=>by
  by_cases hr:∃c∈r,P c
  .obtain⟨c,hc,pc,k⟩:=zbr P r hr
   by_cases pa:P a
   .rcases cLe.total a c with z |z
    .refine⟨a,AC,pa,λd hd pd=>?_⟩;rcases Aw.mp hd with rfl |hd
     .exact .refl _
     .exact z.trans (k d hd pd)
    .refine⟨c,At _ hc,pc,λd hd pd=>?_⟩;rcases Aw.mp hd with rfl |hd
     .exact z
     .exact k d hd pd
   .refine⟨c,At _ hc,pc,λd hd pd=>?_⟩;rcases Aw.mp hd with rfl |hd
    .exact absurd pd pa
    .exact k d hd pd
  .obtain⟨c,hc,pc⟩:=h;rcases Aw.mp hc with rfl |hc
   .refine⟨c,AC,pc,λd hd pd=>?_⟩;rcases Aw.mp hd with rfl |hd
    .exact .refl _
    .exact absurd ⟨d,hd,pd⟩ hr
   .exact absurd ⟨c,hc,pc⟩ hr
noncomputable def zdh(C:Cell->Bool)(c:Cell):Prop:=C c=true/\∀d,Rch C S8 c d->cLe c d
noncomputable def zb3(C:Cell->Bool)(g:Cell):Prop:=C g=false/\∀d,Rch (no C) S4 g d->cLe g d
theorem zdh.edge{C:Cell->Bool}{c:Cell}(h:zdh C c):IsE C ⟨c,0⟩:=by
 refine⟨(by show (0:Nat)<4;decide),h.1,?_⟩
 cases z:C (gap ⟨c,0⟩) with
 |false=>rfl
 |true =>
  have:=h.2 (go c 6) (.step .refl (zgZ.mpr (by decide)) z);simp[cLe,go,mv]at this;lia
theorem zdh.rim{C:Cell->Bool}{c:Cell}(h:zdh C c){b:Edge}{es:List Edge}(hc:Closed C b es)(hm:⟨c,0⟩∈es):(es.map (tt C)).sum=4/\∀e∈es,cLe c e.c:=by
 obtain⟨fs,h1,hmm,hs,hv⟩:=hc.from hm;have le:∀e∈es,cLe c e.c:=λe he=>h.2 _ (h1.reach e ((hmm e).mpr he)).1
 refine⟨?_,le⟩;rcases hc.inside with⟨s,_⟩ |⟨s,k⟩
 .exact s
 .have:=(k _ hm).2
  rw[zbM λe he _ ⟨k1,_⟩=>by have:=le e he;simp[gap,go,mv]at k1;unfold cLe at this;lia]at this
  lia
theorem zih{cs:List Cell}{b:Edge}{es:List Edge}(hc:Closed (isIn cs) b es)(hs:(es.map (tt (isIn cs))).sum=4){c:Cell}(hm:⟨c,0⟩∈es)(hmin:∀e∈es,e.w=0->cLe c e.c):zdh (isIn cs) c:=by
  have hE:=hc.1.2.2.1 _ hm;obtain⟨d,hd,rd,kd⟩:=zbr (λd=>Rch (isIn cs) S8 c d) cs ⟨c,of_decide_eq_true hE.2.1,.refl⟩;have hdC:isIn cs d=true:=decide_eq_true hd
  have ins:(∀e∈es,wd es e.c=1/\wd es (gap e)=0):=by
    rcases hc.inside with⟨_,k⟩ |⟨s,_⟩
    . exact k
    . lia
  obtain⟨fs,h1,hmm,_,_⟩:=hc.from hm
  have le:∀e∈es,cLe d e.c:=λe he=>by have r:=(h1.reach e ((hmm e).mpr he)).1;exact kd _ (of_decide_eq_true (r.dom hE.2.1)) r
  have w1:wd es d=1:=(zet hc rd hE.2.1).trans (ins _ hm).1
  have fd:zdh (isIn cs) d:=by refine⟨hdC,λx hx=>?_⟩;have rx:=rd.trans hx;exact kd x (of_decide_eq_true (rx.dom hE.2.1)) rx
  have cr:=zcl hc fd.edge
  rw[show (⟨d, 0⟩ : Edge).c=d from rfl, w1, zbM (c := gap ⟨d, 0⟩) λe he _ ⟨k1, _⟩ => by have:=le e he;simp[gap,go,mv]at k1;unfold cLe at this;lia]at cr
  have md:⟨d,0⟩∈es:=by
    unfold ind at cr
    by_cases z:⟨d,0⟩∈es
    . exact z
    . rw[if_neg z]at cr;lia
  have:c=d:=(hmin _ md rfl).antisymm (le _ hm);rw[this];exact fd
theorem gap2(c:Cell):gap ⟨c,2⟩=(c.1,c.2+1):=by simp[gap,go,mv]
theorem zi3{e:Edge}(h:e.w=1∨e.w=3):(gap e).2=e.c.2:=by obtain⟨⟨x,y⟩,v⟩:=e;simp only at h;rcases h with rfl |rfl <;> simp[gap,go,mv]
theorem zb3.edge{C:Cell->Bool}{g:Cell}(h:zb3 C g):IsE C ⟨(g.1,g.2-1),2⟩/\gap ⟨(g.1,g.2-1),2⟩=g:=by
 have e:gap ⟨(g.1,g.2-1),2⟩=g:=by rw[gap2];exact Cm rfl (by simp)
 refine⟨⟨(by show (2:Nat)<4;decide),?_,by rw[e];exact h.1⟩,e⟩
 cases z:C (g.1,g.2-1) with
 |true=>rfl
 |false =>
  have e6:go g 6=(g.1,g.2-1):=by simp[go,mv];lia
  have:=h.2 (go g 6) (.step .refl (by decide) (by rw[e6];simp[no,z]));rw[e6]at this;simp[cLe]at this;lia
theorem zb3.hole{C:Cell->Bool}{g:Cell}(h:zb3 C g){b:Edge}{es:List Edge}(hc:Closed C b es)(hm:⟨(g.1,g.2-1),2⟩∈es):(es.map (tt C)).sum=-4/\∀e∈es,cLe g (gap e):=by
 obtain⟨fs,h1,hmm,hs,hv⟩:=hc.from hm
 have le:∀e∈es,cLe g (gap e):=λe he=>by have:=(h1.reach e ((hmm e).mpr he)).2;rw[h.edge.2]at this;exact h.2 _ this
 refine⟨?_,le⟩;rcases hc.inside with⟨s,k⟩ |⟨s,k⟩
 .have:=(k _ hm).1
  rw[zbM λe he hw ⟨k1,_⟩=>by have:=le e he;rw[cLe,zi3 hw]at this;simp only at k1;lia]at this
  lia
 .exact s
theorem zhG{C:Cell->Bool}{b:Edge}{es:List Edge}(h:Closed C b es){c:Cell}(hl:∀e∈es,e.w=1∨e.w=3->e.c.2=c.2->c.1<px e):wd es c=0:=by
 have t:=h.tele (G:=λe=>if c.2<py e then (1:Int) else 0) (g:=wc c) (λe he=>by obtain⟨_,q⟩:=zfy (h.1.2.2.1 e he);have hw:=(h.1.2.2.1 e he).1;have hl':=hl e he;rw[q];unfold wc;obtain⟨⟨x,y⟩,v⟩:=e;simp only at hw;rcases way4 hw with rfl |rfl |rfl |rfl <;> simp[px,py,dy]at hl' ⊢ <;> (repeat' split) <;> lia)
 exact t
theorem zj7{C:Cell->Bool}{b:Edge}{es:List Edge}(h:Closed C b es){c:Cell}(hz:wd es c≠0):∃e∈es,∃f∈es,e.c.2=c.2/\f.c.2=c.2/\px e<=c.1/\c.1<px f/\(e.w=1∨e.w=3)/\(f.w=1∨f.w=3):=by
 apply Bh
 intro hn
 by_cases k:∃f∈es,f.c.2=c.2/\c.1<px f/\(f.w=1∨f.w=3)
 .obtain⟨f,hf,k1,k2,k3⟩:=k
  apply hz
  refine zhG h λe he hw hr=>?_
  rcases Int.lt_or_le c.1 (px e) with z |z
  .exact z
  .exact absurd ⟨e,he,f,hf,hr,k1,z,k2,hw,k3⟩ hn
 .apply hz
  exact zbM λe he hw ⟨k1,k2⟩=>k ⟨e,he,k1,k2,hw⟩
noncomputable def boxE(es:List Edge):List Cell:=es.flatMap λe=>es.flatMap λf=>(AG (px f-px e).toNat).map λi:Nat=>(px e+(i:Int),e.c.2)
theorem zgX{C:Cell->Bool}{b:Edge}{es:List Edge}(h:Closed C b es){c:Cell}(hz:wd es c≠0):c∈boxE es:=by obtain⟨e,he,f,hf,r1,r2,l1,l2,_⟩:=zj7 h hz;refine DT.mpr ⟨e,he,DT.mpr ⟨f,hf,Ay.mpr ⟨(c.1-px e).toNat,BB.mpr (by lia),?_⟩⟩⟩;exact Cm (by show px e+((c.1-px e).toNat:Int)=c.1;lia) r1
theorem zcZ{C:Cell->Bool}{b:Edge}{es:List Edge}(hc:Closed C b es)(hs:(es.map (tt C)).sum=-4){c:Cell}(hm:⟨c,2⟩∈es)(hmin:∀e∈es,e.w=2->cLe c e.c):zb3 C (gap ⟨c,2⟩)/\∀d,Rch (no C) S4 (gap ⟨c,2⟩) d->wd es d=-1:=by
  have hE:=hc.1.2.2.1 _ hm
  have ins:(∀e∈es,wd es e.c=0/\wd es (gap e)=-1):=by
    rcases hc.inside with⟨s,_⟩ |⟨_,k⟩
    . lia
    . exact k
  have wl:∀d,Rch (no C) S4 (gap ⟨c,2⟩) d->wd es d=-1:=λd hd=>(zf7 hc hd hE.2.2).trans (ins _ hm).2
  refine⟨?_,wl⟩;obtain⟨g,hg,rg,kg⟩:=zbr (λd=>Rch (no C) S4 (gap ⟨c,2⟩) d) (boxE es) ⟨gap ⟨c,2⟩,zgX hc (by rw[wl _ .refl];decide),.refl⟩;have kg':∀d,Rch (no C) S4 (gap ⟨c,2⟩) d->cLe g d:=λd hd=>kg d (zgX hc (by rw[wl _ hd];decide)) hd
  have gG:C g=false:=by have:=rg.dom (by simp[no,hE.2.2]);simpa[no]using this
  have fg:zb3 C g:=⟨gG,λd hd=>kg' d (rg.trans hd)⟩;obtain⟨fs,h1,hmm,_,_⟩:=hc.from hm;have le:∀e∈es,cLe g (gap e):=λe he=>kg' _ (h1.reach e ((hmm e).mpr he)).2
  obtain⟨eE,eg⟩:=fg.edge;have cr:=zcl hc eE
  rw[eg, wl g rg, zbM (c := (g.1, g.2-1)) λe he hw ⟨k1, _⟩ => by have:=le e he;rw[cLe,zi3 hw]at this;simp only at k1;lia]at cr
  have md:⟨(g.1,g.2-1),2⟩∈es:=by
    unfold ind at cr
    by_cases z:⟨(g.1,g.2-1),2⟩∈es
    . exact z
    . rw[if_neg z]at cr;lia
  have a:=hmin _ md rfl;have a2:=le _ hm;rw[gap2]at a2 ⊢
  have e:(c.1,c.2+1)=g:=by unfold cLe at a a2;simp only at a a2;exact Cm (by show c.1=g.1;lia) (by show c.2+1=g.2;lia)
  rw[e];exact fg
theorem zlW(c:Cell){s:Nat}(h:s<8):go (go c s) ((s+4) % 8)=c:=by
 have:∀s<8,mvNil s ((s+4) % 8)=true:=by decide
 exact zgt (this s h)
theorem Rch.symm{D:Cell->Bool}{S:List Nat}(hS:∀s∈S,s<8/\(s+4) % 8∈S){a c:Cell}(h:Rch D S a c)(ha:D a=true):Rch D S c a:=by
 induction h with
 |refl=>exact .refl
 |@step c s k hs hd ih =>
  obtain⟨h1,h2⟩:=hS s hs;have e:=zlW c h1
  have:Rch D S (go c s) c:=by have:=Rch.step (D:=D) (S:=S) (a:=go c s) .refl h2 (by rw[e];exact k.dom ha);rw[e]at this;exact this
  exact this.trans ih
theorem zjo:∀s∈S8,s<8/\(s+4) % 8∈S8:=by decide
theorem ze9:∀s∈S4,s<8/\(s+4) % 8∈S4:=by decide
theorem Rch.mono{D D':Cell->Bool}{S:List Nat}{a c:Cell}(h:Rch D S a c)(hD:∀x,D x=true->D' x=true):Rch D' S a c:=by
 induction h with
 |refl=>exact .refl
 |step _ hs hd ih=>exact .step ih hs (hD _ hd)
structure BoxOf (P:List Cell) (l lo r hi:Int):Prop where
 all:∀c∈P,l<c.1/\c.1<r/\lo<c.2/\c.2<hi
 bot:∃c∈P,c.2=lo+1
noncomputable def inBox(l lo r hi:Int)(c:Cell):Prop:=l<=c.1/\c.1<=r/\lo<=c.2/\c.2<=hi
theorem BoxOf.near{P:List Cell}{l lo r hi:Int}(h:BoxOf P l lo r hi){c:Cell}(hc:c∈P)(s:Nat):inBox l lo r hi (go c s):=by
 have:=h.all c hc
 have h1:-1<=(mv s).1/\(mv s).1<=1/\-1<=(mv s).2/\(mv s).2<=1:=by
  rcases AX s 8 with z |z
  .have:∀s<8,-1<=(mv s).1/\(mv s).1<=1/\-1<=(mv s).2/\(mv s).2<=1:=by decide
   exact this s z
  .unfold mv;rw[AS,Bw (by simpa using z)];decide
 unfold inBox go;simp only;lia
theorem wd_in{C:Cell->Bool}{b:Edge}{es:List Edge}(h:Closed C b es){P:List Cell}(hP:∀e∈es,e.c∈P){l lo r hi:Int}(hb:BoxOf P l lo r hi){c:Cell}(hz:wd es c≠0):l<=c.1/\c.1<=r/\lo<c.2/\c.2<hi:=by obtain⟨e,he,f,hf,r1,r2,l1,l2,w1,w2⟩:=zj7 h hz;have a1:=hb.all _ (hP e he);have a2:=hb.all _ (hP f hf);unfold px at l1 l2;split at l1 <;> split at l2 <;> lia
structure FreeOf (D:Cell->Bool) (P:List Cell) (l lo r hi:Int):Prop where
 iff:∀c,D c=true ↔ (inBox l lo r hi c/\c ∉ P)
section
variable {C D:Cell->Bool}{b:Edge}{es:List Edge}{P:List Cell}{l lo r hi:Int}
theorem wd_01(h:Closed C b es)(hs:(es.map (tt C)).sum=4)(c:Cell):wd es c=0∨wd es c=1:=by
 have ins:∀e∈es,wd es e.c=1/\wd es (gap e)=0:=by
  rcases h.inside with⟨_,k⟩ |⟨s,_⟩
  .exact k
  .lia
 have r:=zes (λe he=>(h.1.2.2.1 e he).1) h.1.2.2.2
 have far:∃M:Int,∀e∈es,px e<=M:=by
  generalize es=l
  induction l with
  |nil=>exact⟨0,λe he=>by cases he⟩
  |cons a l ih =>
   obtain⟨M,hM⟩:=ih
   exact⟨max M (px a),λe he=>by
    rcases Aw.mp he with rfl |he
    .lia
    .have:=hM e he;lia⟩
 obtain⟨M,hM⟩:=far
 have k:∀(n:Nat) (x y:Int),M-x<=n->wd es (x,y)=0∨wd es (x,y)=1:=by
  intro n
  induction n with
  |zero =>
   intro x y hx;exact .inl (zbM λe he _ ⟨_,k2⟩=>by have:=hM e he;simp only at k2;lia)
  |succ n ih =>
   intro x y hx;have i:=ih (x+1) y (by lia);have rr:=r x y
   by_cases m1:⟨(x,y),1⟩∈es
   .exact .inr (ins _ m1).1
   by_cases m3:⟨(x+1,y),3⟩∈es
   .have:=(ins _ m3).2;rw[show gap ⟨(x+1,y),3⟩=(x,y) by simp[gap,go,mv];lia]at this;exact .inl this
   .unfold ind at rr;rw[if_neg m1,if_neg m3]at rr;rcases i with i |i
    .left;lia
    .right;lia
 exact k (M-c.1).toNat c.1 c.2 (by lia)
theorem wd_0m(h:Closed C b es)(hs:(es.map (tt C)).sum=-4)(c:Cell):wd es c=0∨wd es c=-1:=by
 have ins:∀e∈es,wd es e.c=0/\wd es (gap e)=-1:=by
  rcases h.inside with⟨s,_⟩ |⟨_,k⟩
  .lia
  .exact k
 have r:=zes (λe he=>(h.1.2.2.1 e he).1) h.1.2.2.2
 have far:∃M:Int,∀e∈es,px e<=M:=by
  generalize es=l
  induction l with
  |nil=>exact⟨0,λe he=>by cases he⟩
  |cons a l ih =>
   obtain⟨M,hM⟩:=ih
   exact⟨max M (px a),λe he=>by
    rcases Aw.mp he with rfl |he
    .lia
    .have:=hM e he;lia⟩
 obtain⟨M,hM⟩:=far
 have k:∀(n:Nat) (x y:Int),M-x<=n->wd es (x,y)=0∨wd es (x,y)=-1:=by
  intro n
  induction n with
  |zero =>
   intro x y hx;exact .inl (zbM λe he _ ⟨_,k2⟩=>by have:=hM e he;simp only at k2;lia)
  |succ n ih =>
   intro x y hx;have i:=ih (x+1) y (by lia);have rr:=r x y
   by_cases m1:⟨(x,y),1⟩∈es
   .exact .inl (ins _ m1).1
   by_cases m3:⟨(x+1,y),3⟩∈es
   .have:=(ins _ m3).2;rw[show gap ⟨(x+1,y),3⟩=(x,y) by simp[gap,go,mv];lia]at this;exact .inr this
   .unfold ind at rr;rw[if_neg m1,if_neg m3]at rr;rcases i with i |i
    .left;lia
    .right;lia
 exact k (M-c.1).toNat c.1 c.2 (by lia)
end
noncomputable def isUp(y:Int)(e:Edge):Bool:=(e.w == 1 ||e.w == 3) && e.c.2 == y
noncomputable def upr(es:List Edge)(y:Int):List Int:=(es.filter (isUp y)).map px
theorem ze0{y:Int}{e:Edge}:isUp y e=true ↔ (e.w=1∨e.w=3)/\e.c.2=y:=by simp[isUp]
section
variable {D:Cell->Bool}{P:List Cell}{l lo r hi:Int}
theorem go_st(c:Cell):go c 0=(c.1+1,c.2)/\go c 2=(c.1,c.2+1)/\go c 4=(c.1-1,c.2)/\go c 6=(c.1,c.2-1):=by refine⟨?_,?_,?_,?_⟩ <;> simp[go,mv] <;> lia
theorem ring(hB:BoxOf P l lo r hi)(hF:FreeOf D P l lo r hi){c:Cell}(hin:inBox l lo r hi c)(hb:c.1=l∨c.1=r∨c.2=lo∨c.2=hi):Rch D S4 (l,lo) c:=by
 obtain⟨i1,i2,i3,i4⟩:=hin
 have hD:∀x y:Int,l<=x->x<=r->lo<=y->y<=hi->(x=l∨x=r∨y=lo∨y=hi)->D (x,y)=true:=λx y a1 a2 a3 a4 a5=>(hF.iff _).mpr ⟨⟨a1,a2,a3,a4⟩,λm=>by have:=hB.all _ m;simp only at this;lia⟩
 have rowB:∀n:Nat,l+n<=r->Rch D S4 (l,lo) (l+n,lo):=by
  intro n
  induction n with
  |zero=>intro _;simp;exact .refl
  |succ n ih =>
   intro hn;have e0:go (l+(n:Int),lo) 0=(l+((n+1:Nat):Int),lo):=by rw[(go_st _).1];exact Cm (by simp only;lia) rfl
   rw[<- e0];refine .step (ih (by lia)) (by decide) ?_
   rw[e0];exact hD _ _ (by lia) (by lia) (BG _) (by lia) (.inr (.inr (.inl rfl)))
 have colU:∀x:Int,(x=l∨x=r)->l<=x->x<=r->Rch D S4 (l,lo) (x,lo)->∀n:Nat,lo+n<=hi->Rch D S4 (l,lo) (x,lo+n):=by
  intro x hx x1 x2 h0 n
  induction n with
  |zero=>intro _;simpa using h0
  |succ n ih =>
   intro hn;have e2:go (x,lo+(n:Int)) 2=(x,lo+((n+1:Nat):Int)):=by rw[(go_st _).2.1];exact Cm rfl (by simp only;lia)
   rw[<- e2];refine .step (ih (by lia)) (by decide) ?_
   rw[e2];exact hD _ _ x1 x2 (by lia) (by lia) (hx.elim .inl λz=>.inr (.inl z))
 have b0:Rch D S4 (l,lo) (l,lo):=.refl
 have bR:Rch D S4 (l,lo) (r,lo):=by
  have:=rowB (r-l).toNat (by lia)
  rwa [show l+(((r-l).toNat:Nat):Int)=r by lia]at this
 have tL:Rch D S4 (l,lo) (l,hi):=by
  have:=colU l (.inl rfl) (BG _) (by lia) b0 (hi-lo).toNat (by lia)
  rwa [show lo+(((hi-lo).toNat:Nat):Int)=hi by lia]at this
 have rowT:∀n:Nat,l+n<=r->Rch D S4 (l,lo) (l+n,hi):=by
  intro n
  induction n with
  |zero=>intro _;simpa using tL
  |succ n ih =>
   intro hn;have e0:go (l+(n:Int),hi) 0=(l+((n+1:Nat):Int),hi):=by rw[(go_st _).1];exact Cm (by simp only;lia) rfl
   rw[<- e0];refine .step (ih (by lia)) (by decide) ?_
   rw[e0];exact hD _ _ (by lia) (by lia) (by lia) (BG _) (.inr (.inr (.inr rfl)))
 obtain⟨x,y⟩:=c;simp only at i1 i2 i3 i4 hb;have ey:lo+(((y-lo).toNat:Nat):Int)=y:=by lia
 have ex:l+(((x-l).toNat:Nat):Int)=x:=by lia
 rcases hb with rfl |rfl |rfl |rfl
 .have:=colU x (.inl rfl) (BG _) i2 b0 (y-lo).toNat (by lia)
  rwa [ey]at this
 .have:=colU x (.inr rfl) i1 (BG _) bR (y-lo).toNat (by lia)
  rwa [ey]at this
 .have:=rowB (x-l).toNat (by lia)
  rwa [ex]at this
 .have:=rowT (x-l).toNat (by lia)
  rwa [ex]at this
theorem zgs(hF:FreeOf D P l lo r hi){c d:Cell}(h:Rch D S4 c d):Rch (no (isIn P)) S4 c d:=h.mono λx hx=>by have:=((hF.iff x).mp hx).2;simp[no,isIn,this]
theorem zlO(hB:BoxOf P l lo r hi)(hF:FreeOf D P l lo r hi){c:Cell}(hc:D c=true)(hn:¬ Rch D S4 (l,lo) c){d:Cell}(h:Rch (no (isIn P)) S4 c d):Rch D S4 c d:=by
 induction h with
 |refl=>exact .refl
 |@step d s k hs hd ih =>
  have dD:=ih.dom hc;obtain⟨hin,_⟩:=(hF.iff d).mp dD;have hnb:¬ (d.1=l∨d.1=r∨d.2=lo∨d.2=hi):=λz=>hn ((ring hB hF hin z).trans (ih.symm ze9 hc))
  refine .step ih hs ((hF.iff _).mpr ⟨?_,?_⟩)
  .obtain⟨i1,i2,i3,i4⟩:=hin;have g:=go_st d;have:s=0∨s=2∨s=4∨s=6:=by simpa[S4]using hs
   unfold inBox;rcases this with rfl |rfl |rfl |rfl
   .rw[g.1];simp only;lia
   .rw[g.2.1];simp only;lia
   .rw[g.2.2.1];simp only;lia
   .rw[g.2.2.2];simp only;lia
  .intro m;simp[no,isIn,m]at hd
theorem zkx(hB:BoxOf P l lo r hi)(hF:FreeOf D P l lo r hi):D (l,lo)=true:=by obtain⟨c,hc,_⟩:=hB.bot;have:=hB.all c hc;refine (hF.iff _).mpr ⟨⟨by simp,by simp only;lia,by simp,by simp only;lia⟩,λm=>?_⟩;have:=hB.all _ m;simp only at this;lia
end
section
variable {C D:Cell->Bool}{b:Edge}{es:List Edge}{P:List Cell}{l lo r hi:Int}
end
noncomputable def zbc(s:Nat):Nat:=(s+1) / 2 % 4
noncomputable def wayB(s:Nat):Nat:=(zbc s+4-s % 2) % 4
noncomputable def dgo:Nat->List Nat->List (Option Nat)×Nat
 |w,[]=>([],w)
 |w,s::r=>(As ((zbc s+4-w) % 4) none++some s::(dgo (wayB s) r).1,(dgo (wayB s) r).2)
noncomputable def zaI(w:Nat)(row:List Nat):Nat:=if row.isEmpty then 4 else (w+4-(dgo w row).2) % 4
noncomputable def deeds(w:Nat)(row:List Nat):List (Option Nat):=(dgo w row).1++As (zaI w row) none
theorem zjw{C:Cell->Bool}{e:Edge}(h:IsE C e){s:Nat}(hs:stepB C e=some s):zbc s=e.w/\wayB s=(nxt C e).w/\s<8:=by have hw:=h.1;rcases zaT h with⟨_,q,n⟩ |⟨_,_,q,n⟩ |⟨_,_,q,n⟩ <;> rw[n] <;> rw[q]at hs <;> cases hs <;> unfold wayB zbc <;> simp only <;> rcases way4 hw with r |r |r |r <;> rw[r] <;> decide
theorem zgU{C:Cell->Bool}{e:Edge}(h:IsE C e)(hs:stepB C e=none):nxt C e=⟨e.c,(e.w+1) % 4⟩:=by
 rcases zaT h with⟨_,q,n⟩ |⟨_,_,q,n⟩ |⟨_,_,q,n⟩
 .rw[q]at hs;cases hs
 .rw[q]at hs;cases hs
 .exact n
noncomputable def zkB(C:Cell->Bool)(es:List Edge):Prop:=∀i,¬ ∀m,m<4->∃e,es[i+m]?=some e/\stepB C e=none
theorem ze1{C:Cell -> Bool}{b:Edge}{es:List Edge}(h:Chain C b es)(hE:IsE C b)(nf:zkB C es):∀(n p j w:Nat), es.length-p=n -> p <= es.length -> j <= 3 -> j <= p -> w < 4 -> (∀m, m < j -> ∃e, es[p-1-m]? = some e /\ stepB C e=none) ->
    (it C b p).w=(w+j) % 4->∃t,t<=3/\As j none++(es.drop p).map (stepB C)=(dgo w (((es.drop p).map (stepB C)).filterMap id)).1++As t none /\
      ((dgo w (((es.drop p).map (stepB C)).filterMap id)).2+t) % 4=(it C b es.length).w/\(dgo w (((es.drop p).map (stepB C)).filterMap id)).2<4
  | 0,p,j,w,hn,hp,hj,hjp,hw,hl,hway=>by
    have e:es.drop p=[]:=List.drop_eq_nil_iff.mpr (by lia);have hpe:p=es.length:=by lia
    rw[e,<- hpe];exact⟨j,hj,by simp[dgo],hway.symm,hw⟩
  |n+1,p,j,w,hn,hp,hj,hjp,hw,hl,hway=>by
    have hlt:p<es.length:=by lia
    have hd:es.drop p=es[p]::es.drop (p+1):=List.drop_eq_getElem_cons hlt;have hg:=h.get p hlt;rw[Aa hlt]at hg;have hg':es[p]=it C b p:=Bc hg;have hEp:IsE C (it C b p):=it_ok hE p;rw[hd,hg']
    cases hs:stepB C (it C b p) with
    |none =>
      have hj3:j+1<=3:=by
        rcases AX j 3 with q |q
        . lia
        . exfalso;have j3:j=3:=by lia
          subst j3;refine nf (p-3) λm hm=>?_
          rcases AX m 3 with a |a
          . obtain⟨e,h1,h2⟩:=hl (2-m) (by lia);exact⟨e,by rw[<- h1];congr 1;lia,h2⟩
          . have:m=3:=by lia
            subst this;exact⟨_,by rw[show p-3+3=p by lia,Aa hlt,hg'],hs⟩
      have hnx:=zgU hEp hs
      obtain⟨t, t3, q1, q2, q3⟩ := ze1 h hE nf n (p + 1) (j + 1) w (by lia) (by lia) hj3 (by lia) hw (λm hm => by
          cases m with
          |zero=>exact⟨_,by rw[show p+1-1-0=p by lia,Aa hlt,hg'],hs⟩
          |succ m =>
            obtain⟨e,h1,h2⟩:=hl m (by lia);exact⟨e,by rw[<- h1];congr 1;lia,h2⟩) (by
          show (nxt C (it C b p)).w=_;rw[hnx];simp only;rw[hway];lia)
      refine⟨t,t3,?_,?_,?_⟩
      . simp only[AT,hs];rw[show (none::(es.drop (p+1)).map (stepB C)).filterMap id=((es.drop (p+1)).map (stepB C)).filterMap id from rfl,<- q1,List.replicate_succ'];simp
      . simp only[AT,hs];exact q2
      . simp only[AT,hs];exact q3
    |some s =>
      obtain⟨w1,w2,_⟩:=zjw hEp hs;have hwB:wayB s<4:=BA _ (by decide)
      obtain⟨t, t3, q1, q2, q3⟩ := ze1 h hE nf n (p + 1) 0 (wayB s) (by lia) (by lia) (by lia) (by lia) hwB (λm hm => by lia) (by
          show (nxt C (it C b p)).w=_;rw[w2,Nat.add_zero];have:=(zc9 hEp).1;lia)
      refine⟨t,t3,?_,?_,?_⟩
      . simp only[AT,hs];rw[show (some s::(es.drop (p+1)).map (stepB C)).filterMap id=s::((es.drop (p+1)).map (stepB C)).filterMap id from rfl];show _=(As ((zbc s+4-w) % 4) none++some s::(dgo (wayB s) _).1)++As t none;have hk:(zbc s+4-w) % 4=j:=by rw[w1,hway];lia
        rw[hk];have q1':(es.drop (p+1)).map (stepB C)=(dgo (wayB s) (((es.drop (p+1)).map (stepB C)).filterMap id)).1++As t none:=by simpa using q1
        rw[Di,List.cons_append,<- q1']
      . simp only[AT,hs];exact q2
      . simp only[AT,hs];exact q3
theorem zeZ{C:Cell->Bool}{b:Edge}(hE:IsE C b){i:Nat}:∀m,(∀q,q<m->stepB C (it C b (i+q))=none)->it C b (i+m)=⟨(it C b i).c,((it C b i).w+m) % 4⟩
 | 0,_=>by
  have:=(it_ok hE i).1;show it C b i=_;rw[Nat.add_zero,Nat.mod_eq_of_lt this]
 |m+1,h=>by
  have ih:=zeZ hE m λq hq=>h q (by lia)
  show nxt C (it C b (i+m))=_;rw[zgU (it_ok hE (i+m)) (h m (by lia)),ih];simp only[Edge.mk.injEq,true_and];lia
theorem Closed.deeds{C:Cell->Bool}{b:Edge}{es:List Edge}(h:Closed C b es):es.map (stepB C)=RP.deeds b.w ((es.map (stepB C)).filterMap id):=by
 have hE:IsE C b:=h.1.2.2.1 b (Aj h.1.1);have hp:=h.pos;have hl:=h.it_len
 have four:∀i,(∀m,m<4->∃e,es[i+m]?=some e/\stepB C e=none)->i=0/\es.length=4:=λi hi=>by
  have hi3:i+3<es.length:=by obtain⟨e,h1,_⟩:=hi 3 (by decide);exact (Ad.mp h1).1
  have st:∀q,q<4->stepB C (it C b (i+q))=none:=λq hq=>by
   obtain⟨e,h1,h2⟩:=hi q hq;rw[h.1.get (i+q) (by lia)]at h1
   cases h1;exact h2
  have e4:=zeZ hE 4 st
  have e4':it C b (i+4)=it C b i:=by rw[e4];have:=(it_ok hE i).1;rw[show ((it C b i).w+4) % 4=(it C b i).w by lia]
  rcases AX (i+4) es.length with q |q
  .exfalso;have:=(CG (i:=i) (j:=i+4) (by lia) h.1.2.2.2).mp (by rw[h.1.get i (by lia),h.1.get (i+4) q,e4']);lia
  .have hn:es.length=i+4:=by lia
   rw[<- hn,hl]at e4';have:=(CG (i:=0) (j:=i) (by lia) h.1.2.2.2).mp (by rw[h.1.get 0 hp,h.1.get i (by lia),<- e4'];rfl);lia
 by_cases hr:(es.map (stepB C)).filterMap id=[]
 .have all:∀i, i < es.length -> stepB C (it C b i)=none := λi hi => by
   have hg:=h.1.get i hi
   cases hs:stepB C (it C b i) with
   |none=>rfl
   |some s =>
    exfalso;have:s∈(es.map (stepB C)).filterMap id:=List.mem_filterMap.mpr ⟨some s,Ay.mpr ⟨_,Aj hg,hs⟩,rfl⟩;rw[hr]at this;cases this
  have hn4:es.length=4:=by
   have el:=zeZ hE (i:=0) es.length (λq hq=>by rw[Nat.zero_add];exact all q hq);rw[Nat.zero_add,hl]at el;have ew:=congrArg Edge.w el;have hw:=hE.1;change b.w=(b.w+es.length) % 4 at ew;have h4:4<=es.length:=by lia
   refine (four 0 λm hm=>⟨it C b m,?_,all m (by lia)⟩).2;rw[Nat.zero_add];exact h.1.get m (by lia)
  rw[hr];show _=(dgo b.w []).1++As 4 none
  apply List.ext_getElem?
  intro i;rcases AX i 4 with q |q
  .rw[Az,h.1.get i (by lia),C1,all i (by lia)];show _=(As 4 (none:Option Nat))[i]?;rw[List.getElem?_replicate,if_pos q]
  .rw[Bw (by rw[Ag];lia),Bw (by simp[dgo];lia)]
 .have nf:zkB C es := λi hi => by
   obtain⟨_,h4⟩:=four i hi;have hi0:=(four i hi).1;subst hi0
   apply hr
   apply List.filterMap_eq_nil_iff.mpr
   intro o ho;obtain⟨e,he,rfl⟩:=Ay.mp ho;obtain⟨j,hj,ej⟩:=Au he;obtain⟨f,h1,h2⟩:=hi j (by lia);rw[Nat.zero_add,Aa hj,ej]at h1
   cases h1
   exact h2
  obtain⟨t,t3,q1,q2,q3⟩:=ze1 h.1 hE nf es.length 0 0 b.w (by lia) (by lia) (by lia) (by lia) hE.1 (λm hm=>by lia) (by
   show b.w=_;have:=hE.1;lia)
  rw[List.drop_zero]at q1 q2 q3;rw[hl]at q2
  have ht:zaI b.w ((es.map (stepB C)).filterMap id)=t:=by unfold zaI;rw[if_neg (by simpa using hr)];have:=hE.1;lia
  unfold RP.deeds;rw[ht];simpa using q1
end RP
namespace L2
open PySem PySem.Spec PyProof.Rows
noncomputable def But1(P:Addr)(H H':Hp):Prop:=∀b o,b≠P->H b=some o->H' b=some o
theorem But1.trans{P:Addr}{H H1 H2:Hp}(a:But1 P H H1)(b:But1 P H1 H2):But1 P H H2:=λc o n h=>b c o n (a c o n h)
theorem Same.but1{P:Addr}{H H':Hp}(h:Same H H'):But1 P H H':=λb o _ e=>h b o e
noncomputable abbrev anyO:HO:=.ext λ_=>True
noncomputable def LamAt(pos:Pos)(qual:Str)(P:Addr)(H:Hp):Prop :=
 ∃ps,H P=some (.tbl ps)/\(ps=#[]∨∃c' oc vs t,ps=#[CI pos.line,CI pos.col,.ref c']/\H c'=some (.frz oc anyO)/\oc.data=.fields vs/\vs[1]?=some (.str qual t))
theorem LamAt.same{pos:Pos}{qual:Str}{P:Addr}{H H':Hp}(h:LamAt pos qual P H)(s:Same H H'):LamAt pos qual P H':=by
 obtain⟨ps,e,h⟩:=h;refine⟨ps,s _ _ e,?_⟩;rcases h with h |⟨c',oc,vs,t,e1,e2,e3⟩
 .exact .inl h
 .exact .inr ⟨c',oc,vs,t,e1,s _ _ e2,e3⟩
theorem LamAt.ne{pos:Pos}{qual:Str}{P a:Addr}{H:Hp}{o:HO}(h:LamAt pos qual P H)(e:H a=some o)(n:∀ps,o≠.tbl ps):a≠P:=by rintro rfl;obtain⟨ps,e',_⟩:=h;rw[e]at e';exact n ps (Bc e')
theorem But1.seq{K:W.Frag}{pos:Pos}{qual:Str}{P a:Addr}{H H':Hp}{xs:List V}(e:But1 P H H')(l:LamAt pos qual P H)(h:SqL K H a xs):SqL K H' a xs:=by
 rcases h with (h |⟨o,h⟩) |h
 .exact .inl (.inl (e _ _ (l.ne h nofun) h))
 .exact .inl (.inr ⟨o,e _ _ (l.ne h nofun) h⟩)
 .exact .inr h
noncomputable def Bm(mg:Str->Option Ac)(base:Heap):Prop :=
 ∃bm o,mg "__builtins__" = some (.ref bm)/\bm≠builtinsNs/\bm≠AF/\base.get? bm=some o/\o.cls=.type "module" /\ o.dict=some builtinsNs/\o.data=.plain
section
variable {X:Cx}{pins:List (Addr×Obj)}{σ:St}{H:Hp}{s:Ae}
theorem Inv.lamNew{P c':Addr}{ps more:Array Ac}{h1:Heap}{oc fo:Obj}{tk:Nat}(I:Inv X pins σ H s)(hP:H P=some (.tbl ps))(hx:Heap.ExtBut P s.heap h1)(hge:s.heap.objs.size <= c')(hlt:c' < h1.objs.size)
  (hc:h1.get? c'=some oc) (htb:h1.get? P=some (W.tabObj (ps++more))) (hfo:fo.isFreed=false) :
  Inv X pins σ (upd (upd (upd H P (.tbl (ps++more))) c' (.frz oc anyO)) h1.objs.size (.frz fo anyO)) { s with heap:=h1.push fo,toks:=tk }:=by
 have hPs:s.heap.get? P=some (W.tabObj ps):=I.hok P _ hP;have lP:P<s.heap.objs.size:=Av hPs;have cP:c'≠P:=B4 (AB lP hge);have fP:h1.objs.size≠P:=B4 (Nat.lt_trans (AB lP hge) hlt);have fc:h1.objs.size≠c':=B4 hlt;have k1:∀b o,b≠P->s.heap.get? b=some o->(h1.push fo).get? b=some o:=λb o n e=>Af _ (hx b o n e)
 have old:∀b o,s.heap.get? b=some o->b≠c'/\b≠h1.objs.size:=λb o e =>
  ⟨AI (AB (Av e) hge),AI (AB (Av e) (AO hge (Bj hlt)))⟩
 have val:∀b u,b≠P->H b=some u->upd (upd (upd H P (.tbl (ps++more))) c' (.frz oc anyO)) h1.objs.size (.frz fo anyO) b=some u:=λb u n e=>by have lb:=I.hok.lt e;rw[zag (AI (AB lb (AO hge (Bj hlt)))),zag (AI (AB lb hge)),zag n];exact e
 have vP:upd (upd (upd H P (.tbl (ps++more))) c' (.frz oc anyO)) h1.objs.size (.frz fo anyO) P=some (.tbl (ps++more)):=by rw[zag fP.symm,zag cP.symm,zaa]
 have nP:∀b u,H b=some u->(∀qs,u≠.tbl qs)->b≠P:=λb u e n z=>by rw[z,hP]at e;exact n ps (Bc e).symm
 refine I.un ⟨λb o e n _ _=>?_,λb o e n _ _=>?_,λb o e n _=>?_,λb o e _=>?_,λb xs e=>?_,λb o u e=>?_,λb qs e=>?_⟩ λb u e=>?_
 .exact k1 b o (λz=>by rw[z,hP]at n;cases n) e
 .exact⟨o.slots,k1 b o (λz=>by rw[z,hP]at n;cases n) e⟩
 .obtain⟨n1,n2⟩:=old b o e;rw[zag n2,zag n1,zag (λz=>by rw[z,hP]at n;cases n)];exact n
 .by_cases z:b=P
  .rw[z];exact⟨_,Af _ htb⟩
  .exact⟨o,k1 b o z e⟩
 .exact val b _ (nP b _ e nofun) e
 .exact val b _ (nP b _ e nofun) e
 .by_cases z:b=P
  .rw[z,hP]at e
   cases e
   exact⟨more,by rw[z];exact vP⟩
  .exact⟨#[],by rw[val b _ z e];simp⟩
 .by_cases hf:b=h1.objs.size
  .rw[hf,zaa]at e
   cases e
   rw[hf];exact⟨Aq _ hfo,trivial,⟨fo,Aq _ hfo⟩,λ_ _ _ _=>trivial⟩
  .rw[zag hf]at e
   by_cases hb:b=c'
   .rw[hb,zaa]at e
    cases e
    rw[hb];exact⟨Af _ hc,trivial,⟨oc,Af _ hc⟩,λ_ _ _ _=>trivial⟩
   .rw[zag hb]at e
    by_cases hz:b=P
    .rw[hz,zaa]at e
     cases e
     rw[hz];exact Af _ htb
    .rw[zag hz]at e;refine (I.hok b u e).stay (λd v hd q=>k1 d v ?_ q) (λd q=>val d _ (nP d _ q nofun) q) λd xs q=>val d _ (nP d _ q nofun) q
     rcases hd with rfl |hd
     .exact hz
     .exact nP d _ hd nofun
noncomputable def IsLam(qual:Str)(params:Arguments)(body:Expr)(scope:Scope)(f:Addr)(H:Hp):Prop :=
 ∃c' ctv pm oc vs t,H f=some (.frz (Dw "<lambda>" qual params body scope [] pm c' ctv) anyO)/\H c'=some (.frz oc anyO)/\oc.data=.fields vs/\vs[1]?=some (.str qual t)
theorem IsLam.same{qual:Str}{params:Arguments}{body:Expr}{scope:Scope}{f:Addr}{H H':Hp}(h:IsLam qual params body scope f H)(s:Same H H'):IsLam qual params body scope f H' :=
 let ⟨c',ctv,pm,oc,vs,t,e1,e2,r⟩:=h
 ⟨c',ctv,pm,oc,vs,t,s _ _ e1,s _ _ e2,r⟩
noncomputable def tLam(P:Addr)(pos:Pos)(qual:Str)(params:Arguments)(body:Expr)(scope:Scope):TE:=λ_ H Q =>
 LamAt pos qual P H/\∀f H',But1 P H H'->LamAt pos qual P H'->H f=none->IsLam qual params body scope f H'->Q (.ref f) H'
theorem zkb{pos:Pos}{c:Ac}:TriplesOk (#[CI pos.line,CI pos.col,c]:Array Ac).toList:=by simp[TriplesOk,CI]
theorem zfl{pos:Pos}{c:Ac}:codeAmong pos (#[CI pos.line,CI pos.col,c]:Array Ac).toList=some c:=by simp[codeAmong,CI]
theorem zlG {c P:Addr}{params:Arguments}{body:Expr}{scope:Scope}{pos:Pos}{qual:Str}(hcd:X.env.code = .ref c) (hh:Ci X.K c P=true) (hB:Bm X.mg X.base) (hq:X.env.qual ++ "<lambda>" = qual)
  (hfree:∀x∈scope.names,x.2≠.free:=by decide) (hdef:defaultsOf params X.env=([],[]):=by rfl):PE X (.Lambda params body scope pos) (tLam P pos qual params body scope):=by
 intro pins s σ H Q I h;obtain⟨⟨ps,hP,hps⟩,h⟩:=h;have hPs:s.heap.get? P=some (W.tabObj ps):=I.hok P _ hP
 have nb:∀b o,X.base.get? b=some o->b≠P:=λb o e z=>by
  have:=(I.bs b o e).2;rw[z,hP]at this
  cases this
 have hg:s.heap.Ns AF X.mg:=I.mod.glob.keeps I.bk
 have hgP:AF≠P:=by obtain⟨o,es,ep,e,_⟩:=I.mod.glob;exact nb _ o e
 have C:W.CodeHd s.heap c P:=W.codeHd_of_K I.kIn hh
 have hb:s.heap.BuiltinsAt X.mg P:=by obtain⟨bm,o,b1,b2,b3,b4,b5⟩:=hB;exact⟨bm,o,b1,b2,b3,nb _ o b4,I.bk _ _ b4,b5⟩
 have fr:∀b,s.heap.objs.size<=b->H b=none:=λb e=>I.hok.fresh e
 refine W.kla_eval hdef ?_
 rw[hq];rcases hps with rfl |⟨c',oc,vs,t,rfl,hc',hd,hv⟩
 .refine W.kla_makeFunction (mg:=X.mg) (clos:=[]) (closureFor_none hfree) I.ok.glob hg hcd C hPs trivial rfl hgP hb λc' ctv h' tk hx hge hlt hrec htb=>?_
  obtain⟨c2,oc,vs,t,e2,hoc,hd,hv⟩:=hrec
  cases e2
  have lP:P<s.heap.objs.size:=Av hPs;have cP:c'≠P:=B4 (AB lP hge);have fP:h'.objs.size≠P:=B4 (Nat.lt_trans (AB lP hge) hlt);refine⟨.ref h'.objs.size,_,I.lamNew (more:=#[CI pos.line,CI pos.col,.ref c']) hP hx hge hlt hoc htb rfl,rfl,h _ _ ?_ ?_ (fr _ (AO hge (Bj hlt))) ⟨c',ctv,_,oc,vs,t,zaa,?_,hd,hv⟩⟩
  .intro b o n e;rw[zag (λz=>by rw[z,fr _ (AO hge (Bj hlt))]at e;cases e),zag (λz=>by rw[z,fr _ hge]at e;cases e),zag n];exact e
  .refine⟨#[]++#[CI pos.line,CI pos.col,.ref c'],?_,.inr ⟨c',oc,vs,t,by simp,?_,hd,hv⟩⟩
   .rw[zag fP.symm,zag cP.symm,zaa]
   .rw[zag (AI hlt),zaa]
  .rw[zag (AI hlt),zaa]
 .refine W.kla_makeFunctionHit (mg:=X.mg) (clos:=[]) (cv:=.ref c') (closureFor_none hfree) I.ok.glob hg hcd C hPs zkb zfl hb λctv h' tk hk hsz=>?_
  have hf:H h'.objs.size=none:=fr _ hsz;refine⟨.ref h'.objs.size,upd H h'.objs.size (.frz (Dw "<lambda>" qual params body scope [] ((X.mg "__name__").getD .none) c' ctv) anyO),?_,rfl,h _ _ ?_ ?_ hf ⟨c',ctv,(X.mg "__name__").getD .none,oc,vs,t,zaa,?_,hd,hv⟩⟩
  .have I1:Inv X pins σ H { s with heap:=h',toks:=tk }:=I.kept (t':=tk) hk;have I2:=I1.un (h':=h'.push (Dw "<lambda>" qual params body scope [] ((X.mg "__name__").getD .none) c' ctv)) (t':=tk) (Un.laid (a:=h'.objs.size) (o:=.frz (Dw "<lambda>" qual params body scope [] ((X.mg "__name__").getD .none) c' ctv) anyO) (λb u e=>Af _ e) (Ai _) hf) (I1.hok.laid (λb u e=>Af _ e) (Ai _) ⟨Aq _ rfl,trivial,⟨_,Aq _ rfl⟩,λ_ _ _ _=>trivial⟩);exact I2
  .intro b o n e;rw[zag (λz=>by rw[z,hf]at e;cases e)];exact e
  .refine⟨_,by rw[zag (zaj hP hf)];exact hP,.inr ⟨c',oc,vs,t,rfl,?_,hd,hv⟩⟩;rw[zag (zaj hc' hf)];exact hc'
  .rw[zag (zaj hc' hf)];exact hc'
end
theorem zlx{P:AH}{w:A4}{K:W.Frag}{mg:Str -> Option Ac}{base:Heap}{k:Nat}{f c':Addr}{qual:Str}{params:Arguments}{body:Expr}{scope:Scope}{pm ctv:Ac}{oc:Obj}{ws:Array Ac}{t:Tok}
  {N ps:List Str} {A:AJ} {outer:List Env} {s:Ae} {H:Hp} {us:List Ac} {vs:List V} {Q:VK} {te:TE} (hr:Room (k+1) A) (e0:Env0 P w K mg base A outer s H)
  (hf:H f=some (.frz (Dw "<lambda>" qual params body scope [] pm c' ctv) anyO)) (hc:H c'=some (.frz oc anyO)) (hd:oc.data=.fields ws) (hv:ws[1]?=some (.str qual t)) (S:FnScope N ps scope)
  (hb:CM (W.kla_fn "<lambda>" qual params body scope [] pm (.ref c') ctv) ⟨us,[]⟩=pure (ps.zip us)) (hl:vs.length=ps.length) (r:Vals vs us)
  (hbody:PE (cxOf CX0 P w K mg base N qual scope f (.ref c') A outer s H E0).nox body te) (hq:te (start N vs) H Q) :
  CU (Ax P w) A (.call (.ref f) ⟨us,[]⟩) (CR CX0 outer P w H s Q E0) s:=by
 have lim:s.heap.NoLimit:=e0.mod.nolimit.keeps λb o e=>(e0.bs b o e).1
 have hfo:=(e0.hok f _ hf).1;have hco:=(e0.hok c' _ hc).1
 have hkind:∀y∈ps.zip us,scope.names.lookup y.1=some .local∨(scope.names.lookup y.1=some .cell/\((cellsFrom (s.heap.objs.size+1) scope.names []).lookup y.1).isSome=true):=λ⟨n,v⟩ hy=>by
  rcases S.par n (List.of_mem_zip hy).1 with q |q
  .exact .inl q
  .exact .inr ⟨q,W.cellsFrom_some _ _ _ (.inl q)⟩
 refine W.kla_callFunE hr.depth hfo rfl S.co S.gen rfl ⟨c',oc,ws,t,rfl,hco,hd,hv⟩ ?_
 rw[hb];refine Ah ?_
 refine wpAny_newFunctionEnv_cells S.kind hkind λenv he s1 x=>?_
 subst he;refine⟨lim.keeps x.toInCall.keep,W.kla_codeExpr ?_⟩;have I:Inv (cxOf CX0 P w K mg base N qual scope f (.ref c') A outer s H E0) [] (start N vs) H s1:=zfI S hr.hd e0 hl r x;refine Bs (hbody.nox [] s1 (start N vs) H _ I hq) (λu s' hs=>?_) λe s' hs=>hs
 obtain⟨v,H',J,rv,q⟩:=hs;exact⟨v,H',J.os,J.bare,J.base,J.hok,rv,q⟩
section
variable {X:Cx}{f:Addr}{qual:Str}{params:Arguments}{body:Expr}{scope:Scope}{N ps:List Str}{σ:St}{H0:Hp}{k:Nat}{te:TE}{xs:List V}{κV:Nat->List V}
theorem zlT {x:Str}(L:IsLam qual params body scope f H0) (hr:Room (k + 1 + 1 + 1) X.A) (S:FnScope N [x] scope) (hb:∀(pm ctv:Ac) (c':Addr) (u:Ac), CM (W.kla_fn "<lambda>" qual params body scope [] pm (.ref c') ctv) ⟨[u], []⟩ = pure [(x, u)])
  (hbody:∀(c':Addr) (A:AJ) (outer:List Env) (s:Ae) (H:Hp),PE (cxOf CX0 X.prog X.w X.K X.mg X.base N qual scope f (.ref c') A outer s H E0).nox body te)
  (turn:∀i x H,xs[i]?=some x->Same H0 H->te (start N [x]) H (λv H'=>Same H H'/\∃a,v=.ref a/\SqT X.K H' a (κV i))):zhe X σ H0 f xs κV:=by
 intro pins i x u H s hx hS I ru;obtain⟨c',ctv,pm,oc,ws,t,e1,e2,e3,e4⟩:=L.same hS;refine wpAny_call (CD (zlx (k:=k) (vs:=[x]) (us:=[u]) hr.in1.in1 I.env0.in1.in1 e1 e2 e3 e4 S (hb pm ctv c' u) rfl (.cons ru .nil) (hbody c' _ _ _ _) (turn i x H hx hS)) λr s' hq=>?_)
 cases r with
 |error e=>exact Bk hq
 |ok fl =>
  cases fl with
  |ret u=>exact I.after hq
  |next=>exact Bk hq
  |brk=>exact Bk hq
  |cont=>exact Bk hq
end
section
variable {X:Cx}{p pos lpos kpos:Pos}{e body:Expr}{te tb:TE}{k:Nat}{c P:Addr}{params:Arguments}{scope:Scope}{qual x:Str}{N:List Str}
end
theorem ziQ{P:AH}{w:A4}{K:W.Frag}{mg mb:Str -> Option Ac}{CX:CXT}{k:Nat}{fa a:Addr}{fd:BC}{x:Str}{sp:Sp}{s₁ : Ae}{vs:List Ac}{ns:List Int}{ts:List Addr}
    (KX:K.In s₁.heap) (hns:s₁.heap.Ns AF mg) (hb:s₁.heap.Ns builtinsNs mb) (hbb:∀x:Str,x ≠ "__name__" -> mb x=bootBuiltins x) (hlim:s₁.heap.NoLimit) (hg:s₁.gens=#[])
    (ha:s₁.heap.get? a=some { cls:=.type "list",data:=.seq vs.toArray }) (hi:IntsAre vs ns) (hl:ns.length<=sizeLine) (hr:Room k callerA)
    (hts:∀P∈ts,s₁.heap.get? P=some (W.tabObj #[])) (hno:∀P∈ts,K.lookup P=none) (hcd:∀P∈ts,∃c,Ci K c P=true) (hBm:Bm mg s₁.heap)
    (F:∀base:Heap,K.In base->base.Ns AF mg->Bm mg base->FnOk P w K mg base CX k fa fd [x] sp) (hbind:∀(s:Ae) (u:Ac),BindsTo s fd ⟨[u],[]⟩ [(x,u)])
    (hsp:∀H:Hp,(∀P∈ts,H P=some (.tbl #[]))->SqL K H a (ns.map V.int)->sp [.ref a] H (λv _=>v=.bl true) λ_ _ _=>False)
    (hCX:∀H e s',CX [] H s₁ (λ_ _ _=>False) e s'->False) :
    CU (Ax P w) callerA (.call (.ref fa) ⟨[.ref a],[]⟩) (λr s'=>r=.ok (.ret (.bool true))/\OldK s₁.heap s'.heap/\s'.os=s₁.os/\AllBare s'.gens) s₁:=by
  have rv:=zfi hi;have lenV:=hi.length
  have aT:a ∉ ts:=λz=>by
    have:=hts a z;rw[ha]at this
    cases this
  have core:∀H:Hp, (∀b, H b=none ∨ (b ∈ ts /\ H b=some (.tbl #[])) ∨ (b=a /\ K.lookup a=none /\ ∃o xs, H b=some (.frz o (.lst xs)))) -> (∀P ∈ ts, H P=some (.tbl #[])) -> SqL K H a (ns.map V.int) -> HOk P w H s₁.heap ->
      CU (Ax P w) callerA (.call (.ref fa) ⟨[.ref a],[]⟩) (λr s'=>r=.ok (.ret (.bool true))/\OldK s₁.heap s'.heap/\s'.os=s₁.os/\AllBare s'.gens) s₁:=by
    intro H hO hT hS hok;have base_of:∀{b:Addr} {o:Obj},s₁.heap.get? b=some o->H b=none->(hidT s₁.heap H).get? b=some o:=λe n=>zjT e n
    have noA:∀{b:Addr} {o:Obj},s₁.heap.get? b=some o->(∀x n,o.data≠.seq x n)->(∀x,o.data≠.fields x)->H b=none:=λ{b o} e d1 d2=>by
      rcases hO b with z |⟨z,_⟩ |⟨rfl,_⟩
      . exact z
      . rw[hts b z]at e
        cases e
        exact absurd rfl (d2 _)
      . rw[ha]at e
        cases e
        exact absurd rfl (d1 _ _)
    have nsK:∀{b:Addr} {m:Str->Option Ac},s₁.heap.Ns b m->(hidT s₁.heap H).Ns b m:=λ{b m} ⟨o,es,ep,e,d,r⟩=>⟨o,es,ep,base_of e (noA e (λx n z=>by rw[d]at z;cases z) λx z=>by rw[d]at z;cases z),d,r⟩
    have hKb:K.In (hidT s₁.heap H):=λb o e=>base_of (KX b o e) (by
      rcases hO b with z |⟨z,_⟩ |⟨rfl,z,_⟩
      . exact z
      . rw[hno b z]at e;cases e
      . rw[z]at e;cases e)
    have hM:Mod K mg (hidT s₁.heap H):=⟨hKb,nsK hns,⟨mb,nsK hb,hbb⟩,let ⟨mc,h1,h2⟩:=hlim;⟨mc,nsK h1,h2⟩⟩
    have hBb:Bm mg (hidT s₁.heap H):=by obtain⟨bm,o,b1,b2,b3,b4,b5,b6,b7⟩:=hBm;exact⟨bm,o,b1,b2,b3,base_of b4 (noA b4 (λx n z=>by rw[b7]at z;cases z) λx z=>by rw[b7]at z;cases z),b5,b6,b7⟩
    have e0:Env0 P w K mg (hidT s₁.heap H) callerA [] s₁ H:=⟨rfl,hM,λb o e=>zkV e,Nat.le_of_eq (zi2 _ _),trivial,λb hb=>absurd (show b∈([]:List Addr) from hb) (by simp),hok,.of_eq hg⟩;refine CD ((F _ hKb (nsK hns) hBb).run callerA [] s₁ H ⟨[.ref a],[]⟩ [.ref a] [.ref a] _ _ hr e0 (hbind s₁ (.ref a)) (.cons rfl .nil) (hsp H hT hS)) λr s' h=>?_
    cases r with
    |error e=>exact (hCX H e s' h).elim
    |ok fl =>
      cases fl with
      |next=>exact Bk h
      |brk=>exact Bk h
      |cont=>exact Bk h
      |ret u =>
        obtain⟨v,H',os,bare,un,hok',r',q⟩:=h;have q':v=.bl true:=q;subst q';obtain rfl:u=Value.bool true:=r';refine⟨rfl,⟨λb o e=>?_,λb o e=>un.there b o e (by simp)⟩,os,bare⟩;rcases hO b with z |⟨z,z1⟩ |⟨rfl,_,ob,xs,z⟩
        . exact .inl (un.keep b o e z (by intro z;exact absurd (show b∈([]:List Addr) from z) (by simp)) (by simp))
        . have e':=hts b z;rw[e]at e'
          cases e'
          obtain⟨more,z2⟩:=un.tbls b _ z1;obtain⟨c,hc⟩:=hcd b z;obtain⟨oc,ws,_,_,_,_,_,_,_,c1,c2,c3,c4,_⟩:=W.codeHd_of_K KX hc;exact .inr (.inl ⟨⟨c,oc,ws,c1,c2,c3,c4⟩,rfl,#[],more,rfl,hok' b _ z2⟩)
        . have z2:=un.frzs b ob _ z;obtain⟨e1,_⟩:=hok b _ z;obtain⟨e2,_⟩:=hok' b _ z2;rw[e]at e1;cases e1;exact .inl e2
  cases hk:K.lookup a with
  |some o =>
    have e:=KX a o hk;rw[ha]at e
    cases e
    refine core (λb=>if b∈ts then some (.tbl #[]) else none) (λb=>?_) (λP hP=>if_pos hP) (.inr ⟨_,vs.toArray,_,hk,rfl,rfl,rfl,by rw[An,lenV];exact hl,by simpa using rv⟩) λb u z=>?_
    . by_cases hb:b∈ts
      . exact .inr (.inl ⟨hb,if_pos hb⟩)
      . exact .inl (if_neg hb)
    . by_cases hb:b∈ts
      . have z':=(if_pos hb).symm.trans z
        cases z'
        exact hts b hb
      . have z':=(if_neg hb).symm.trans z
        cases z'
  |none =>
    refine core (λb=>if b∈ts then some (.tbl #[]) else if b=a then some (.frz { cls:=.type "list",data:=.seq vs.toArray } (.lst (ns.map V.int))) else none) (λb=>?_) (λP hP=>if_pos hP) (.inl (.inr ⟨{ cls:=.type "list",data:=.seq vs.toArray },(if_neg aT).trans (if_pos rfl)⟩)) λb u z=>?_
    . by_cases hb:b∈ts
      . exact .inr (.inl ⟨hb,if_pos hb⟩)
      . by_cases hb2:b=a
        . exact .inr (.inr ⟨hb2,hk,_,_,(if_neg hb).trans (if_pos hb2)⟩)
        . exact .inl ((if_neg hb).trans (if_neg hb2))
    . by_cases hb:b∈ts
      . have z':=(if_pos hb).symm.trans z
        cases z'
        exact hts b hb
      . have z0:=(if_neg hb).symm.trans z
        by_cases hb2:b=a
        . have z':=(if_pos hb2).symm.trans z0
          cases z'
          subst hb2;exact⟨ha,by rw[Ag];exact hl,vs,_,rv,ha⟩
        . have z':=(if_neg hb2).symm.trans z0
          cases z'
theorem zlK{K:W.Frag}{as:List Addr}(e:as=K.map (·.1)){b:Addr}(h:b ∉ as):K.lookup b=none:=by
 cases q:K.lookup b with
 |none=>rfl
 |some o =>
  subst e;exact absurd (Ay.mpr ⟨(b,o),W.mem_of_lookupK q,rfl⟩:b∈List.map (λx=>x.fst) K) h
theorem km_all{K:Params -> W.Frag}{as:List Addr}{e:∀P, as=(K P).map (·.1)}{ts:List Addr}(d:(ts.all λt => !as.contains t)=true)(w:A4)(h:Heap)(Y:(W.kmHook K as e ts).says w h) :
  (K w.params).In h/\(∀P∈ts,h.get? P=some (W.tabObj #[]))/\∀P∈ts,(K w.params).lookup P=none :=
 ⟨W.km_in_of Y,W.km_tabs_of Y,λP hP=>zlK (e w.params) λz=>by have:=List.all_eq_true.mp d P hP;simp[z]at this⟩
theorem walk_ofL{l:W.OpenLaw}{n k:Nat}{q:AH}{loose:List Str}{XP:(Str -> Option Ac) -> Heap -> Prop}{YP:A4 -> Heap -> Prop}{d:DefRec}{K:Params -> W.Frag}{CX:A4 -> CXT}{sp:A4 -> Sp}{x:Str}{ts:List Addr}
  (hn:l.most=some n) (hn2:n<=sizeLine) (hdf:d.params.defaults=[]) (hr:Room k callerA)
  (hY:∀(w:A4) (h:Heap),YP w h->(K w.params).In h/\(∀P∈ts,h.get? P=some (W.tabObj #[]))/\∀P∈ts,(K w.params).lookup P=none)
  (F:∀(w:A4) (mg:Str->Option Ac) (fa:Addr) (h:Heap),(K w.params).In h->h.Ns AF mg->mg d.name=some (.ref fa) ->
   ∃fd:BC,(∀(s:Ae) (u:Ac),BindsTo s fd ⟨[u],[]⟩ [(x,u)])/\(∀P∈ts,∃c,Ci (K w.params) c P=true) /\
    ∀base:Heap,(K w.params).In base->base.Ns AF mg->Bm mg base->FnOk l.prog w (K w.params) mg base (CX w) k fa fd [x] (sp w))
  (hsp:∀(w:A4) (H:Hp) (a:Addr) (ns:List Int),ns.length<=n->(∀P∈ts,H P=some (.tbl #[]))->SqL (K w.params) H a (ns.map V.int)->sp w [.ref a] H (λv _=>v=.bl true) λ_ _ _=>False)
  (hCX:∀(w:A4) (H:Hp) (s:Ae) (e:Ac) (s':Ae),CX w [] H s (λ_ _ _=>False) e s'->False) :
  W.WalkO q loose XP YP l.row.toRowW d [] (λf vs=>PySem.call f vs):=by
 refine Att.attach_call hn hdf λw s₀ s₁ mg mb fa o pm cd doc a vs ns G Y ho hd hcd hmg hobj hints hlen hg=>?_
 obtain⟨KX,hts,hno⟩:=hY w _ Y;obtain⟨fd,hb,hc,hF⟩:=F w mg fa _ KX G.T.g hmg
 have hB:Bm mg s₁.heap:=by obtain⟨bm,ob,b1,b2,b3,b4,b5,b6⟩:=G.T.bmain;refine⟨bm,ob,b1,b2,λq=>?_,b3,b4,b5,b6⟩;obtain⟨o,es,ep,e,hd,_⟩:=G.T.g;rw[q,e]at b3;cases b3;rw[hd]at b6;cases b6
 exact ziQ KX G.T.g G.T.b G.T.builtins G.T.nolimit hg hobj hints (AO hlen hn2) hr hts hno hc hB hF hb (λH hT hS=>hsp w H a ns hlen hT hS) λH e s'=>hCX w H s₁ e s'
theorem Fun.okL{P:AH}{w:A4}{K:W.Frag}{mg:Str -> Option Ac}{base:Heap}{x qual:Str}{st:Stmt}{f c:Addr}{fd:BC}{N ps:List Str}{k:Nat}{sp:Sp}(F:Fun K x qual st f fd)(hc:fd.code = .ref c)(S:FnScope N ps (zaf st))(len:∀vs H Q E, sp vs H Q E -> vs.length=ps.length)
  (hbody:∀(A:AJ) (outer:List Env) (s:Ae) (H:Hp) (vs:List V) (Q:VK) (E:XK),Room k (A.deeper (envOfC qual (zaf st) s.heap.objs.size f (.ref c)))->sp vs H Q E ->
   ∃t,PSs (cxOf CX0 P w K mg base N qual (zaf st) f (.ref c) A outer s H E).nox (zaX st) t/\t { nx:=λ_ H'=>Q .non H',rt:=Q } (start N vs) H):FnOk P w K mg base CX0 (k+1) f fd ps sp:=by
 obtain⟨oc,od,kV,doc,pm,an,cdv,ct,osl,rfl,lk,hcd⟩:=F.ex
 cases (show cdv=.ref c from hc)
 refine fn_of lk hcd S len λA outer s H vs Q E hr hsp=>?_
 obtain⟨t,h,q⟩:=hbody A outer s H vs Q E hr hsp;exact⟨t,h.nox,q⟩
noncomputable def hdOk(vs:Array Ac)(c P:Addr):Bool := (match (vs[11]? : Option Ac) with |some (.ref P') => P' == P |_ => false) &&
   (match vs.getD 18 .none with |.str _ _=>true |_=>false) && (match vs.getD 7 .none with |.int _ _=>true |_=>false) &&
   (match vs.getD 9 .none with |.bool _=>true |_=>false) && (match vs.getD 10 .none with |.int _ _=>true |_=>false) && c != P
theorem hd_of {K:W.Frag}{c P:Addr}{od:Option Addr}{vs:Array Ac}{sl:Array (Option Ac)}(l:K.lookup c=some ⟨.type "code",od,.fields vs,sl⟩) (h:hdOk vs c P=true):Ci K c P=true:=by unfold Ci;rw[l];exact h
end L2
set_option maxHeartbeats 8000000
namespace TS
open PySem PyProof.Rows
section
variable {M:Model}{A:AJ}{E:Ac->Ae->Prop}{s:Ae}{kd:Ct}{S:Keyed->Prop}{L:Keyed->Keyed->Bool}
theorem zfE:∀n:Fin 64,minRun' n.1 n.1 0=n.1:=by decide
structure P1 (L:Keyed->Keyed->Bool) (a0:Array Keyed) (st:Ce):Prop where
 fail:C5 st=none
 perm:(AK st).Perm a0
 seg:Seg L (AK st) 0 a0.size
 one:(Db st).size=1
theorem sortRuns_small(O:LtOk M A E s kd S L){st:Ce}{Q:Unit -> Ce -> Prop}(h2 : 2 <= (AK st).size)(h64:(AK st).size < 64)(hk:kindOf st=kd)(hp:Db st = #[])(hf:C5 st=none)(hS:∀(k:Nat) x, (AK st)[k]? = some x -> S x)
  (hQ:∀st',(AK st').Perm (AK st)->C5 st'=none->Seg L (AK st') 0 (AK st).size->Q () st'):wpS M A E s sortRuns' Q st:=by
 rw[sortRuns'_eq];refine Bo (wpS_get ?_);dsimp only;have hmr:minRun' (AK st).size (AK st).size 0=(AK st).size:=zfE ⟨_,h64⟩;generalize ha0:AK st=a0 at h2 hmr hQ
 refine Bo (wpS_mono (Dv (I:=λx c st'=>∃lo,c=(none,lo)/\((x=0/\lo=0/\st'=st)∨(lo=a0.size/\P1 L a0 st')))
  (Q:=λc st'=>c=(none,a0.size)/\P1 L a0 st') ?step ?fin ⟨0,rfl,.inl ⟨rfl,rfl,rfl⟩⟩) ?post)
 case fin =>
  rintro c st' ⟨lo,rfl,h⟩;rcases h with⟨h,_⟩ |⟨rfl,h⟩
  .lia
  .exact⟨rfl,h⟩
 case step =>
  rintro x c st' _ hx ⟨lo,rfl,h⟩;dsimp only;rcases h with⟨rfl,rfl,rfl⟩ |⟨rfl,h⟩
  .rw[if_neg (by lia)];refine Bo (ze3 O (by lia) (by rw[ha0];lia) hk hS λm st1 sb1 hm1 hm2 sg1=>?_);dsimp only;rw[hmr]
   by_cases hlt:m<a0.size
   .rw[if_pos hlt];refine Bo (wpS_lift (wpAny_rule ⟨rfl,?_⟩));refine Bo (zdU O hm1 (by lia) (by rw[sb1.size,ha0];lia) sb1.kind sb1.all sg1 λst2 sb2 sg2=>?_)
    try dsimp only
    rw[if_neg (by decide)];refine Bo (wpS_get ?_);have hp2:Db st2=#[]:=by rw[sb2.pend,sb1.pend,hp]
    rw[hp2]
    try dsimp only
    refine Bo (wpS_modify (BO ⟨_,rfl,.inr ⟨by lia,?_⟩⟩));refine⟨?_,?_,?_,by show ((Db st2).push _).size=1;rw[hp2];rfl⟩
    .show C5 st2=none;rw[sb2.fail,sb1.fail,hf]
    .show (AK st2).Perm a0;rw[<- ha0];exact sb2.perm.trans sb1.perm
    .show Seg L (AK st2) 0 a0.size;have:min (a0.size-0) a0.size=a0.size:=by lia
     rw[this]at sg2;exact sg2
   .rw[if_neg hlt];have em:m=a0.size:=by lia
    subst em;refine Bo (wpS_get ?_);have hp1:Db st1=#[]:=by rw[sb1.pend,hp]
    rw[hp1]
    try dsimp only
    refine Bo (wpS_modify (BO ⟨_,rfl,.inr ⟨by lia,?_⟩⟩));refine⟨?_,?_,sg1,by show ((Db st1).push _).size=1;rw[hp1];rfl⟩
    .show C5 st1=none;rw[sb1.fail,hf]
    .show (AK st1).Perm a0;rw[<- ha0];exact sb1.perm
  .rw[if_pos (Ai _)];exact BO ⟨rfl,h⟩
 case post =>
  rintro c st1 ⟨rfl,p1⟩
  try dsimp only
  refine Bo (wpS_mono (Dv (I:=λx c st2=>c=(none,())/\P1 L a0 st2) (Q:=λc st2=>c=(none,())/\P1 L a0 st2) ?step ?fin ⟨rfl,p1⟩) ?post)
  case fin =>
   rintro c st2 h;exact h
  case step =>
   rintro x c st2 _ hx ⟨rfl,p2⟩;refine Bo (wpS_get ?_)
   try dsimp only
   rw[if_pos (show (Db st2).size<=1 by rw[p2.one];exact Ai _)];exact BO ⟨rfl,p2⟩
  case post =>
   rintro c st2 ⟨rfl,p2⟩;exact BO (hQ st2 p2.perm p2.fail p2.seg)
end
end TS
namespace L2
open PySem PySem.Spec PyProof.Rows
theorem zeM{α β:Type}{f:α->β}{xs ys:List β}(p:ys.Perm xs):∀{l:List α},xs=l.map f->∃l':List α,l'.Perm l/\ys=l'.map f:=by
 induction p with
 |nil=>intro l h;exact⟨l,List.Perm.refl _,h⟩
 |cons v _ ih =>
  intro l h
  match l,h with
  |x::l,h =>
   injection h with h1 h2;obtain⟨l',p',e⟩:=ih h2;exact⟨x::l',p'.cons x,by rw[e,h1];rfl⟩
 |swap a b r =>
  intro l h
  match l,h with
  |x::y::l,h =>
   injection h with h1 h2;injection h2 with h2 h3;exact⟨y::x::l,List.Perm.swap _ _ _,by rw[h1,h2,h3];rfl⟩
 |trans _ _ ih1 ih2 =>
  intro l h;obtain⟨l1,p1,h1⟩:=ih2 h;obtain⟨l2,p2,h2⟩:=ih1 h1;exact⟨l2,p2.trans p1,h2⟩
section
variable {X:Cx}{pins:List (Addr×Obj)}{σ:St}{H:Hp}{s:Ae}{D st:Addr}{e:Nat}{κV:Nat->List V}{ks:List Addr}{E:Ac->Ae->Prop}
noncomputable def OrddS(κ:Nat->List Int)(n:Nat)(p:Array Nat):Prop:=RK.Pm n p/\p.toList.Pairwise λi j=>HT.lexLt (κ j) (κ i)=false
noncomputable def zdN(κ:Nat->List Int)(ks:List Addr):Ac->List Int
 |.ref a=>κ (ks.idxOf a)
 |_=>[]
theorem zl2{vs:List Ac}{κ : Nat -> List Int}(K:SK X pins σ H s D st e κV ks)(hl:ks.length=vs.length)(h2 : 2 <= vs.length)(h64:vs.length < 64)
  (hcol:∀i j,i<ks.length->j<ks.length->∃n m r q rn rm,κV i=.int n::r/\κV j=.int m::q/\VCols r q rn rm/\κ i=n::rn/\κ j=m::rm) :
  zhf X (OrddS κ vs.length) (ks.map Ar) vs E s:=by
 unfold zhf
 obtain⟨fs,kt,hfl,hfi⟩:=ziV (as:=[]) (vs:=[]) K.inv (ks:=ks) (ns:=(AG ks.length).map λi=>((κ i).headD 0)) (λi a ha=>by
  have hi:i<ks.length:=(Ad.mp ha).1;obtain⟨n,m,r,q,rn,rm,e1,_,_,e2,_⟩:=hcol i i hi hi;refine⟨n,r,?_,?_⟩
  .rw[Az,DB hi,C1,e2];rfl
  .rw[<- e1];exact K.hk i a ha) (by simp)
 refine W.kat_kind (T:=.type "int") kt (by lia) (λv hv=>?_) rfl ⟨rfl,?_⟩
 .obtain⟨n,t,rfl⟩:=hfi v hv;exact .now
 have hl':(ks.map Ar).length=vs.length:=by simp[hl]
 have hsz0:((ks.map Ar).toArray.zip vs.toArray).size=vs.length:=by simp[hl]
 generalize hZ:(ks.map Ar).toArray.zip vs.toArray=Z at hsz0;have hsz:Z.size=vs.length:=hsz0
 have kap:∀i (hi:i<ks.length),zdN κ ks (Ar ks[i])=κ i:=λi hi=>by
  have hj:ks.idxOf ks[i]<ks.length:=List.idxOf_lt_length_iff.mpr (A7 hi);have ej:ks[ks.idxOf ks[i]]=ks[i]:=List.getElem_idxOf hj;obtain⟨n,m,r,q,rn,rm,e1,e2,vc,e3,e4⟩:=hcol (ks.idxOf ks[i]) i hj hi;have k1:=K.hk (ks.idxOf ks[i]) ks[i] (by rw[Aa hj,ej]);have k2:=K.hk i ks[i] (Aa hi);have eq:=K.inv.tuple_inj k1 k2;show κ (ks.idxOf ks[i])=κ i;rw[e1,e2]at eq;injection eq with q1 q2;injection q1 with q1;subst q1;subst q2;rw[e3,e4]
  congr 1
  have same:∀{xs:List V} {as bs:List Int},VCols xs xs as bs->as=bs:=λ{xs}=>by
   induction xs with
   |nil=>intro as bs h;cases h;rfl
   |cons x xs ih =>
    intro as bs h
    cases h with
    |cons c h=>cases c <;> rw[ih h]
  exact same vc
 have itm:∀i,i<vs.length->Ds Z i=(Ar (ks.getD i 0),vs.getD i BI):=λi hi=>by
  rw[<- hZ,W.kat_item hl'];have:(ks.map Ar).getD i BI=Ar (ks.getD i 0):=by simp[show i<ks.length by lia]
  rw[this]
 have O:TS.LtOk (Ax X.prog X.w) X.A.in1.in1 E s (tuples' true) (λx=>∃i,i<ks.length/\x.1=Ar (ks.getD i 0)) (λx y=>HT.lexLt (zdN κ ks x.1) (zdN κ ks y.1)):=by
  refine⟨λx y hx hy st' Q hk q=>?_,λx y z _ _ _ h1 h2=>?_,λx y _ _ h=>HT.lexLt_asym h⟩
  .obtain⟨i,hi,ex⟩:=hx;obtain⟨j,hj,ey⟩:=hy;have gi:ks.getD i 0=ks[i]:=by simp[hi]
   have gj:ks.getD j 0=ks[j]:=by simp[hj]
   rw[gi]at ex;rw[gj]at ey;rw[ex,ey,kap i hi,kap j hj]at q;rw[lt'_eq];refine Bo (wpS_get ?_);rw[hk,ex,ey];obtain⟨n,m,r,q',rn,rm,e1,e2,vc,e3,e4⟩:=hcol i j hi hj;have k1:=K.hk i ks[i] (Aa hi);have k2:=K.hk j ks[j] (Aa hj);rw[e1]at k1;rw[e2]at k2;obtain⟨its,rv,⟨o,ho,hcl,c,hd⟩,_⟩:=K.inv.tuple k1;obtain⟨its2,rv2,⟨o2,ho2,hcl2,c2,hd2⟩,_⟩:=K.inv.tuple k2;refine Bo (wpS_lift (wpAny_attempt (W.kat_lt ho hd ho2 hd2 ?_)))
   cases rv with
   |cons rx rr =>
    cases rv2 with
    |cons rx2 rr2 =>
     obtain⟨t1,rfl⟩:=rx;obtain⟨t2,rfl⟩:=rx2;have cs:=vc.vals rr rr2
     have hlen:∀{us vs:List Ac} {as bs:List Int},RK.Cols us vs as bs->us.length=vs.length:=λc=>by induction c with
      |nil=>rfl
      |cons _ _ ih=>simp[ih]
     simp only[An,A3,hlen cs,BY,decide_false];refine RK.kat_cols0 cs ?_
     rw[e3,e4]at q;exact⟨rfl,BO q⟩
  .cases q:HT.lexLt (zdN κ ks z.1) (zdN κ ks x.1) with
   |false=>rfl
   |true =>
    have:=HT.lexLt_of_not_lt_lt h2 q;rw[h1]at this;cases this
 have run:=TS.sortRuns_small O (st:=SortSt.mk' (tuples' true) Z #[] 7 none) (Q:=λ_ st'=>C5 st'=none/\∃p:Array Nat,OrddS κ vs.length p/\p.size=vs.length/\AK st'=p.map (Ds Z))
  (by show 2<=Z.size;lia) (by show Z.size<64;lia) rfl rfl rfl (λk x hx=>?_) (λst' hp hf hs=>?_)
 .exact Bs run (λr s' h=>⟨h.1,h.2⟩) λ_ _ z=>z
 .have hk':k<vs.length:=by rw[<- hsz];exact (Array.getElem?_eq_some_iff.mp hx).1
  have hx':Z[k]?=some x:=hx
  have e1:Ds Z k=x:=by unfold Ds;rw[Array.getD_eq_getD_getElem?,hx'];rfl
  rw[itm k hk']at e1;exact⟨k,by lia,by rw[<- e1]⟩
 .refine⟨hf,?_⟩;have hp':(AK st').Perm Z:=hp;have hrng:=W.kas_range Z;rw[hsz]at hrng;obtain⟨l,pl,el⟩:=zeM (Array.perm_iff_toList_perm.mp hp') (l:=AG vs.length) (f:=Ds Z) (by have:=congrArg Array.toList hrng;simpa using this.symm);have hll:l.length=vs.length:=by rw[pl.length_eq,Bp]
  refine⟨l.toArray,⟨?_,?_⟩,by simpa using hll,?_⟩
  .exact Array.perm_iff_toList_perm.mpr (by simpa using pl)
  .rw[List.pairwise_iff_getElem];intro i j hi hj hij;have hi':i<l.length:=by simpa using hi
   have hj':j<l.length:=by simpa using hj
   have ai:(AK st')[i]?=some (Ds Z l[i]):=by rw[<- De,el,Az,Aa hi'];rfl
   have aj:(AK st')[j]?=some (Ds Z l[j]):=by rw[<- De,el,Az,Aa hj'];rfl
   have li:l[i]<vs.length:=BB.mp (pl.mem_iff.mp (A7 hi'));have lj:l[j]<vs.length:=BB.mp (pl.mem_iff.mp (A7 hj'));have:=hs i j _ _ (by lia) (by show j<Z.size;lia) (by rw[Nat.zero_add];exact ai) (by rw[Nat.zero_add];exact aj);rw[itm _ li,itm _ lj]at this;have g1:ks.getD l[i] 0=ks[l[i]]'(by lia):=by simp[show l[i]<ks.length by lia]
   have g2:ks.getD l[j] 0=ks[l[j]]'(by lia):=by simp[show l[j]<ks.length by lia]
   simp only[g1,g2]at this;rw[kap _ (by lia),kap _ (by lia)]at this;simpa using this
  .apply Array.toList_inj.mp
   rw[el];simp
end
section
variable {X:Cx}{x:Str}{p pos kp kpos:Pos}{e:Expr}{te:TE}{k:Nat}{f:Addr}{fd:BC}{ps:List Str}{sp:Sp}{fn:Str}
end
section
variable {X:Cx}{p pos lpos kpos:Pos}{e body:Expr}{te tb:TE}{k:Nat}{c P:Addr}{params:Arguments}{scope:Scope}{qual x:Str}{N:List Str}
noncomputable def zkE(K:W.Frag)(lpos:Pos)(qual:Str)(P:Addr)(N:List Str)(te tb:TE):TE:=λσ H Q=>te σ H λv H1=>∃l xs,∃ κV:Nat->List V,∃ κ:Nat->List Int,[v]=[V.ref l]/\LamAt lpos qual P H1/\SqL K H1 l xs/\xs.length<=63 /\
 (∀i x H2,xs[i]?=some x->But1 P H1 H2->tb (start N [x]) H2 (λv H'=>Same H2 H'/\∃a,v=.ref a/\SqT K H' a (κV i))) /\
 (∀i j,i<xs.length->j<xs.length->∃n m r q rn rm,κV i=.int n::r/\κV j=.int m::q/\VCols r q rn rm/\κ i=n::rn/\κ j=m::rm)/\∀(p:List Nat) D H',p.Perm (AG xs.length)->p.Pairwise (λi j=>HT.lexLt (κ j) (κ i)=false)->H1 D=none->But1 P H1 H'->LamAt lpos qual P H'->H' D=some (.lst (p.map λi=>xs.getD i .non))->Q (.ref D) H'
theorem zir (hr:Room (k + 1 + 1 + 1) X.A) (hg:Gl X "sorted") (hm:X.mg "sorted" = none) (hcd:X.env.code = .ref c) (hh:Ci X.K c P=true) (hB:Bm X.mg X.base) (hq:X.env.qual ++ "<lambda>" = qual)
  (S:FnScope N [x] scope) (hb:∀(pm ctv:Ac) (c':Addr) (u:Ac),CM (W.kla_fn "<lambda>" qual params body scope [] pm (.ref c') ctv) ⟨[u],[]⟩=pure [(x,u)]) (he:PE X e te)
  (hbody:∀(f c':Addr) (A:AJ) (outer:List Env) (s:Ae) (H:Hp),PE (cxOf CX0 X.prog X.w X.K X.mg X.base N qual scope f (.ref c') A outer s H E0).nox body tb)
  (hfree:∀x∈scope.names,x.2≠.free:=by decide) (hdef:defaultsOf params X.env=([],[]):=by rfl)
  (hse:A8 [e] X.env=[(false,eval e X.env)]:=by rfl) (hh':X.calm=true:=by rfl)
  (hall:(CN pos (BW [⟨some "key",.Lambda params body scope lpos,kpos⟩] X.env)).all (·.1.isSome)=true:=by rfl) (hkw:(CN pos (BW [⟨some "key",.Lambda params body scope lpos,kpos⟩] X.env)).any (·.1.isNone)=false:=by rfl)
  (hks:(CN pos (BW [⟨some "key",.Lambda params body scope lpos,kpos⟩] X.env)).filterMap (·.1)=[Bd "key"]:=by rfl) :
  PE X (.Call (.Name "sorted" p) [e] [⟨some "key",.Lambda params body scope lpos,kpos⟩] pos) (zkE X.K lpos qual P N te tb):=by
 intro pins s σ H Q I h;refine BR (zch I hg hm boot_sorted ?_ (by decide) (by decide));refine callWith_kw (thn (zai he zab (hs:=hse) pos pins s σ H (λvs H1=>∃l xs,∃ κV:Nat->List V,∃ κ:Nat->List Int,vs=[V.ref l]/\LamAt lpos qual P H1/\SqL X.K H1 l xs/\xs.length<=63 /\
 (∀i x H2,xs[i]?=some x->But1 P H1 H2->tb (start N [x]) H2 (λv H'=>Same H2 H'/\∃a,v=.ref a/\SqT X.K H' a (κV i))) /\
 (∀i j,i<xs.length->j<xs.length->∃n m r q rn rm,κV i=.int n::r/\κV j=.int m::q/\VCols r q rn rm/\κ i=n::rn/\κ j=m::rm)/\∀(p:List Nat) D H',p.Perm (AG xs.length)->p.Pairwise (λi j=>HT.lexLt (κ j) (κ i)=false)->H1 D=none->But1 P H1 H'->LamAt lpos qual P H'->H' D=some (.lst (p.map λi=>xs.getD i .non))->Q (.ref D) H') I ?_) λus s1 ⟨vs,H1,I1,r,q⟩=>?_) (by rw[hse];rfl) (by rw[hse];rfl) hall hkw
 .show te σ H _;exact h
 .obtain⟨l,xs,κV,κ,rfl,hL,hsq,h64,turn,hcol,hQ⟩:=q;obtain⟨u,rfl,ru⟩:=Vals.one r
  cases (show u=Ar l from ru)
  refine thn (zeK (nm:=some "key") (kpos:=kpos) (zlG (pos:=lpos) (body:=body) hcd hh hB hq hfree hdef) zio pos pins s1 σ H1 (λzs H2=>∃f,zs=[.ref f]/\But1 P H1 H2/\LamAt lpos qual P H2/\IsLam qual params body scope f H2) I1 ⟨hL,λf H' h1 h2 h3 h4=>⟨f,rfl,h1,h2,h4⟩⟩) λws s2 ⟨zs,H2,I2,rz,q2⟩=>?_
  obtain⟨f,rfl,hbut,hL2,hIL⟩:=q2;obtain⟨u2,rfl,ru2⟩:=Vals.one rz
  cases (show u2=Ar f from ru2)
  rw[hks];refine zhz (G:=OrddS κ xs.length) (zlT hIL hr S hb (λc' A outer s H=>hbody f c' A outer s H) λi x H hx hS=>turn i x H hx (hbut.trans hS.but1)) (hbut.seq hL hsq) (λp hp i hi=>?_) (λh2=>⟨Array.Perm.refl _,?_⟩) (λ{vs ks H' s' D st e} r' K' hks h2=>?_) (λp D H' g hp hD hS hH=>hQ p.toList D H' ?_ g.2 ?_ (hbut.trans hS.but1) (hL2.same hS) hH) I2
  .have:=hp.1.mem_iff.mp (show i∈p by simpa using hi);simpa using this
  .rw[List.pairwise_iff_getElem];intro i j hi hj hij;simp at hi hj;lia
  .have hlx:xs.length=vs.length:=r'.length;rw[hlx];exact zl2 K' hks h2 (by rw[<- hlx];lia) λi j hi hj=>hcol i j (by lia) (by lia)
  .have:=Array.perm_iff_toList_perm.mp g.1;simpa using this
  .cases q:H1 D with
   |none=>rfl
   |some o =>
    by_cases hz:D=P
    .obtain⟨ps,e,_⟩:=hL2;rw[hz,e]at hD
     cases hD
    .rw[hbut D o hz q]at hD
     cases hD
end
theorem zhv (a v w:Ac):argsOk "max" ⟨[a],[(Bd "key",v),(Bd "default",w)]⟩:=by unfold argsOk;kernel_rfl
noncomputable def Most(κ:Nat->Int)(n i:Nat):Prop:=∀j,j<n->κ j<=κ i/\(j<i->κ j<κ i)
theorem Most.one{κ:Nat->Int}:Most κ 1 0:=λj hj=>by
 have e:j=0:=by lia
 rw[e];exact⟨BG _,λh=>absurd h (BY _)⟩
theorem Most.next{κ:Nat->Int}{n i:Nat}(h:Most κ n i)(e:¬ κ n > κ i)(hi:i<n:=by lia):Most κ (n+1) i:=λj hj=>by
 by_cases z:j=n
 .rw[z];exact⟨by lia,λq=>by lia⟩
 .exact h j (by lia)
theorem Most.take{κ:Nat->Int}{n i:Nat}(h:Most κ n i)(e:κ n > κ i):Most κ (n+1) n:=λj hj=>by
 by_cases z:j=n
 .rw[z];exact⟨BG _,λq=>absurd q (BY _)⟩
 .have:=(h j (by lia)).1;exact⟨by lia,λ_=>by lia⟩
noncomputable def zdW(X:Cx)(σ:St)(H0:Hp)(f:Addr)(xs:List V)(κ:Nat->Int):Prop:=∀(pins:List (Addr×Obj)) (i:Nat) (x:V) (u:Ac) (H:Hp) (s:Ae),xs[i]?=some x->Same H0 H->Inv X pins σ H s->RelV x u ->
 Ao (Ax X.prog X.w) X.A.in1 (call (.ref f) [u]) (EP X pins σ λv H'=>Same H H'/\v=.int (κ i)) (λ_ _=>False) s
section
variable {X:Cx}{f:Addr}{pins:List (Addr×Obj)}{σ:St}{H0:Hp}{Q:VK}{l it st:Addr}{xs:List V}{κ:Nat->Int}
theorem zie{H:Hp}{s:Ae}{u:Ac}{x:V}{E:Ac -> Ae -> Prop}{i j:Nat}{vb kb:Ac}(F:zdW X σ H0 f xs κ)(M:MK X pins σ H s it st l j vb kb)(hx:xs[i]? = some x)(hS:Same H0 H)(r:RelV x u) :
    Ao (Ax X.prog X.w) X.A.in1 (call (.ref f) [u]) (λv s'=>∃H' t,v=.int (κ i) t/\Same H H'/\MK X pins σ H' s' it st l j vb kb) E s:=by
  obtain⟨c,hc⟩:=M.hold;obtain⟨oi,hoi,ci,di⟩:=id M.iter
  have I1:Inv X (pins ++ zcu [it, st] s.heap) σ H s := M.inv.pinned (λb hb => by
      rcases Aw.mp hb with rfl |hb
      . exact M.fi
      . rw[Ap.mp hb];exact M.fs) (λb hb=>by
      rcases Aw.mp hb with rfl |hb
      . exact zbV M.iter
      . rw[Ap.mp hb];exact⟨_,hc,zbx⟩)
  refine Bs (F _ i x u H s hx hS I1 r) (λv s' hv=>?_) λ_ _ e=>e.elim
  obtain⟨y,H',I2,ry,hS2,rfl⟩:=hv;obtain⟨t,rfl⟩:=(show ∃t,v=CA (κ i) t from ry);have p1:=I2.pin (it,oi) (Am _ (Am _ (zay (by simp) hoi)));have p2:=I2.pin (st,Bg "list" #[vb,kb] c) (Am _ (Am _ (zay (by simp) hc)));exact⟨H',t,rfl,hS2,I2.unpinned,M.fi.again p1.2.1,M.fs.again p2.2.1,M.ne,⟨oi,p1.1,ci,di⟩,c,p2.1⟩
theorem zhl{H:Hp}{s:Ae}{u:Ac}{x:V}{E:Ac -> Ae -> Prop}{i j:Nat}(F:zdW X σ H0 f xs κ)(M:MK0 X pins σ H s it st l j)(hx:xs[i]? = some x)(hS:Same H0 H)(r:RelV x u) :
    Ao (Ax X.prog X.w) X.A.in1 (call (.ref f) [u]) (λv s'=>∃H' t,v=.int (κ i) t/\Same H H'/\MK0 X pins σ H' s' it st l j) E s:=by
  obtain⟨c,hc⟩:=M.hold;obtain⟨oi,hoi,ci,di⟩:=id M.iter
  have I1:Inv X (pins ++ zcu [it, st] s.heap) σ H s := M.inv.pinned (λb hb => by
      rcases Aw.mp hb with rfl |hb
      . exact M.fi
      . rw[Ap.mp hb];exact M.fs) (λb hb=>by
      rcases Aw.mp hb with rfl |hb
      . exact zbV M.iter
      . rw[Ap.mp hb];exact⟨_,hc,zbx⟩)
  refine Bs (F _ i x u H s hx hS I1 r) (λv s' hv=>?_) λ_ _ e=>e.elim
  obtain⟨y,H',I2,ry,hS2,rfl⟩:=hv;obtain⟨t,rfl⟩:=(show ∃t,v=CA (κ i) t from ry);have p1:=I2.pin (it,oi) (Am _ (Am _ (zay (by simp) hoi)));have p2:=I2.pin (st,Bg "list" #[] c) (Am _ (Am _ (zay (by simp) hc)));exact⟨H',t,rfl,hS2,I2.unpinned,M.fi.again p1.2.1,M.fs.again p2.2.1,M.ne,⟨oi,p1.1,ci,di⟩,c,p2.1⟩
theorem ziH{dv:Ac}(hh:X.A.handled=none)(F:zdW X σ H0 f xs κ)
  (hl:SqL X.K H0 l xs) (hli:l≠it) (hQ:∀i x H',xs[i]?=some x->Most κ xs.length i->Same H0 H'->Q x H') :
  ∀(r j i:Nat) (H:Hp) (s:Ae) (vb:Ac) (xb:V) (b:Tok),xs.length-(j+1)=r->j+1<=xs.length->Same H0 H->MK X pins σ H s it st l (j+1) vb (.int (κ i) b)->xs[i]?=some xb->RelV xb vb->i<=j->Most κ (j+1) i ->
   CU (Ax X.prog X.w) X.A (.builtin "max.loop" ⟨[.ref it,.ref f,.ref st],[(Bd "default",dv)]⟩) (MKR X pins σ Q) s:=by
 have nm:(CQ "max" ++ CQ ".loop" : String) = "max.loop":=by decide
 intro r
 induction r with
 |zero =>
  intro j i H s vb xb b hr0 hj hS M hxb rb hij best;have hend:j+1=xs.length:=by lia
  obtain⟨its,rv,pl,hz⟩:=M.inv.list (hS.seq hl);have hlen:its.length=xs.length:=rv.length.symm;have W:=Dr (prog:=X.prog) (w:=X.w) (A:=X.A.in1) hh it l hli its.toArray;obtain⟨c,hc⟩:=M.hold;refine Ca PySem.F.entry_max_loop ?_
  rw[Bz BN _];show Ao _ X.A.in1 (DS (.ref st) >>= _) _ _ _;refine Ab (Cn hc rfl ?_);show Ao _ X.A.in1 (Cw (Dy (.ref it)) _ >>= _) _ _ _;refine Ab (Bi (W.done _ _ _ ⟨by rw[An,hlen,<- hend];exact M.iter,pl.isList⟩ λh1 tk1 hk1=>?_));have I1:=M.inv.moved (t':=tk1) M.fi hk1;have hc1:=hk1 st _ (by simpa using M.ne) hc;have sb:=Br h1 st (AR λ_=>(#[]:Array Ac));show Ao _ X.A.in1 (updateSeq st (λ_=>#[]) >>= _) _ _ _;refine Ab ?_
  refine Cb hc1 rfl (Ab (Cc (Ah ?_)));have I2:Inv X pins σ H { s with heap:=h1.update st (AR λ_=>(#[]:Array Ac)),toks:=tk1 }:=I1.moved (s:={ s with heap:=h1,toks:=tk1 }) (t':=tk1) M.fs (λb o hb e=>(sb.2 b λz=>hb (by simp[z])).trans e);exact⟨xb,H,I2,rb,hQ i xb H hxb (by rw[<- hend];exact best) hS⟩
 |succ r ih =>
  intro j i H s vb xb b hr0 hj hS M hxb rb hij best;have hlt:j+1<xs.length:=by lia
  obtain⟨its,rv,pl,hz⟩:=M.inv.list (hS.seq hl);have hlen:its.length=xs.length:=rv.length.symm;have W:=Dr (prog:=X.prog) (w:=X.w) (A:=X.A.in1) hh it l hli its.toArray;obtain⟨c,hc⟩:=M.hold;refine Ca PySem.F.entry_max_loop ?_
  rw[Bz BN _];show Ao _ X.A.in1 (DS (.ref st) >>= _) _ _ _;refine Ab (Cn hc rfl ?_);show Ao _ X.A.in1 (Cw (Dy (.ref it)) _ >>= _) _ _ _;refine Ab (Bi (W.item (j+1) _ _ _ (by rw[An,hlen];exact hlt) ⟨M.iter,pl.isList⟩ λv h1 tk1 hP hst1 hk1=>?_));have hv:its[j+1]?=some v:=by simpa using hP
  obtain⟨x,hx⟩:∃x,xs[j+1]?=some x:=⟨_,Aa hlt⟩;obtain⟨v',hv',rx⟩:=rv.get hx;rw[hv]at hv'
  cases hv'
  have M1:MK X pins σ H { s with heap:=h1,toks:=tk1 } it st l (j+1+1) vb (.int (κ i) b):=⟨M.inv.moved (t':=tk1) M.fi hk1,M.fi,M.fs,M.ne,hst1.1,c,hk1 st _ (by simpa using M.ne) hc⟩;show Ao _ X.A.in1 (Cw (holding [v] (call (.ref f) [v])) _ >>= _) _ _ _;refine Ab (Bi (A1 (Bs (zie F M1 hx hS rx (E:=λ_ _=>False)) (λkv s2 he=>?_) λ_ _ hF=>hF.elim)));obtain⟨H2,t2,rfl,hS2,M2⟩:=he;have hS3:=hS.trans hS2;show Ao _ X.A.in1 (Cw (holding [v,.int (κ (j+1)) t2] (richCompare .Gt (.int (κ (j+1)) t2) (.int (κ i) b) >>= _)) _ >>= _) _ _ _;refine Ab (Bi (A1 (Ab (CmpOf.ints_gt (prog:=X.prog) (w:=X.w) (A:=X.A.in1) (P:=λi v=>∃t,v=.int (κ i) t) κ (λi v h=>h) (j+1) i _ _ _ _ _ ⟨t2,rfl⟩ ⟨b,rfl⟩ ?_))));refine Ab (A1 (BP ?_));refine Ab (Cc (Ah ?_));obtain⟨c2,hc2⟩:=M2.hold
  by_cases hbt:κ (j+1) > κ i
  .simp only[hbt,decide_true,if_true];refine Ab ?_
   refine Cb hc2 rfl (Ab (Cc ?_));rw[nm];exact Ah ⟨BK BN _,ih (j+1) (j+1) H2 _ v _ t2 (by lia) hlt hS3 M2.set hx rx (Ai _) (best.take hbt)⟩
  .simp only[hbt,decide_false,Bu,if_false];refine Ab (Cc ?_);rw[nm];exact Ah ⟨BK BN _,ih (j+1) i H2 _ vb _ b (by lia) hlt hS3 M2 hxb rb (by lia) (best.next hbt)⟩
theorem zhA{s:Ae}(hh:X.A.handled=none)(F:zdW X σ H0 f xs κ)
  (hl:SqL X.K H0 l xs) (hQ0:xs=[]->Q .non H0) (hQ:∀i x H',xs[i]?=some x->Most κ xs.length i->Same H0 H'->Q x H') (I:Inv X pins σ H0 s) :
  Ao (Ax X.prog X.w) X.A (call (.builtin "max") [.ref l] [(Bd "key",.ref f),(Bd "default",.none)]) (EP X pins σ Q) X.xe s:=by
 have nm:(CQ "max" ++ CQ ".loop" : String) = "max.loop":=by decide
 obtain⟨its,rv,pl,hz⟩:=I.list hl;have hlen:its.length=xs.length:=rv.length.symm;have hll:l<s.heap.objs.size:=by obtain⟨o,ho,_⟩:=pl.isList;exact Av ho
 refine kmk_tree PySem.F.kind_max PySem.F.plain_max PySem.F.entry_max (zhv _ _ _) ?_
 show Ao _ X.A.in1 (Bl "max" ["key","default"] 0 ⟨[],[(Bd "key",.ref f),(Bd "default",.none)]⟩ >>= _) _ _ s;refine Ab (wpAny_of_eq (show Bl "max" ["key","default"] 0 ⟨[],[(Bd "key",.ref f),(Bd "default",.none)]⟩=pure [some (.ref f),some .none] from rfl) ?_);refine Ab (Ah ?_);refine Ab (Dg pl.isList ?_);refine Ab (wpAny_newList ?_ (AZ _));rw[nm];refine Ah ⟨BK BN _,?_⟩;have keep:∀b o,s.heap.get? b=some o->((s.heap.push { cls:=.type "list_iterator",data:=.fields #[.ref l,.int 0 0] }).push (Bg "list" #[] 0)).get? b=some o:=λb o e=>Af _ (Af _ e)
 have gi:((s.heap.push { cls:=.type "list_iterator",data:=.fields #[.ref l,.int 0 0] }).push (Bg "list" #[] 0)).get? s.heap.objs.size=some { cls:=.type "list_iterator",data:=.fields #[.ref l,.int 0 0] }:=Af _ (Aq _ rfl);have hsS:(s.heap.push { cls:=.type "list_iterator",data:=.fields #[.ref l,.int 0 0] }).objs.size=s.heap.objs.size+1:=size_push' ..;have gs:((s.heap.push { cls:=.type "list_iterator",data:=.fields #[.ref l,.int 0 0] }).push (Bg "list" #[] 0)).get? (s.heap.objs.size+1)=some (Bg "list" #[] 0):=by rw[<- hsS];exact Aq _ rfl
 rw[hsS];have I1:Inv X pins σ H0 { s with heap:=(s.heap.push { cls:=.type "list_iterator",data:=.fields #[.ref l,.int 0 0] }).push (Bg "list" #[] 0) }:=I.kept (t':=s.toks) keep;have fi:FpOk X pins H0 s.heap.objs.size:=I.fpOk (Ai _) (I.hok.fresh (Ai _));have fs:FpOk X pins H0 (s.heap.objs.size+1):=I.fpOk (Cd _) (I.hok.fresh (Cd _));have M0:MK0 X pins σ H0 _ s.heap.objs.size (s.heap.objs.size+1) l 0:=⟨I1,fi,fs,B4 (Nat.lt_succ_self _),⟨_,gi,rfl,rfl⟩,⟨0,gs⟩⟩;have hli:l≠s.heap.objs.size:=AI hll;have W:=Dr (prog:=X.prog) (w:=X.w) (A:=X.A.in1) hh s.heap.objs.size l hli its.toArray;refine Ca PySem.F.entry_max_loop ?_
 rw[Bz BN _];show Ao _ X.A.in1 (DS (.ref _) >>= _) _ _ _;refine Ab (Cn gs rfl ?_);show Ao _ X.A.in1 (Cw (Dy (.ref s.heap.objs.size)) _ >>= _) _ _ _;obtain⟨its2,rv2,pl2,_⟩:=I1.list hl
 by_cases hne:0<xs.length
 rotate_left
 .have h0:xs=[]:=List.length_eq_zero_iff.mp (by lia);refine Ab (Bi (W.done _ _ _ ⟨by rw[show its.toArray.size=0 from (by rw[An,hlen,h0];rfl)];exact M0.iter,pl.isList.at λo e=>keep _ _ e⟩ λh' tk hk'=>?_));show Ao _ X.A.in1 (rule _ >>= _) _ _ _;refine Ab (wpAny_rule ?_);exact Ah ⟨.non,H0,I1.moved (t':=tk) fi hk',rfl,hQ0 h0⟩
 refine Ab (Bi (W.item 0 _ _ _ (by rw[An,hlen];exact hne) ⟨M0.iter,pl.isList.at λo e=>keep _ _ e⟩ λv h1 tk1 hP hst1 hk1=>?_));have hv:its[0]?=some v:=by simpa using hP
 obtain⟨x,hx⟩:∃x,xs[0]?=some x:=⟨_,Aa hne⟩;obtain⟨v',hv',rx⟩:=rv.get hx;rw[hv]at hv'
 cases hv'
 have M1:MK0 X pins σ H0 { s with heap:=h1,toks:=tk1 } s.heap.objs.size (s.heap.objs.size+1) l 1:=⟨I1.moved (t':=tk1) fi hk1,fi,fs,M0.ne,hst1.1,0,hk1 _ _ (by simp) gs⟩;show Ao _ X.A.in1 (Cw (holding [v] (call (.ref f) [v])) _ >>= _) _ _ _;refine Ab (Bi (A1 (Bs (zhl F M1 hx (Same.refl _) rx (E:=λ_ _=>False)) (λkv s2 he=>?_) λ_ _ hF=>hF.elim)));obtain⟨H2,t2,rfl,hS2,M2⟩:=he;obtain⟨c2,hc2⟩:=M2.hold;show Ao _ X.A.in1 (updateSeq (s.heap.objs.size+1) (λ_=>#[v,.int (κ 0) t2]) >>= _) _ _ _;refine Ab ?_
 refine Cb hc2 rfl ?_
 rw[nm];refine Ah ⟨BK BN _,?_⟩;exact CD (ziH hh F hl hli hQ _ 0 0 H2 _ v _ t2 rfl hne hS2 M2.set hx rx (Ai _) Most.one) λr s' hr'=>hr'
end
structure LamSc (scope:Scope) (x z:Str):Prop where
 kind:scope.kind=.function
 co:scope.isCoroutine=false
 gen:scope.isGenerator=false
 nocell:∀y∈scope.names,y.2≠.cell
 own:scope.names.lookup x=some .local
 free:scope.names.lookup z=some .free
 one:∀y∈scope.names,y.2=.free->y.1=z
 ne:x≠z
noncomputable abbrev zfN (qual:Str) (scope:Scope) (L f:Addr) (cd:Ac) (cl:List (Str×Addr)):Env:=newEnv scope L AF cl (qual ++ ".<locals>.") (some f) cd none builtinsNs
noncomputable abbrev cxLam(P:AH)(w:A4)(K:W.Frag)(mg:Str->Option Ac)(base:Heap)(x z:Str)(qual:Str)(scope:Scope)(f:Addr)(cd:Ac)(A:AJ)(outer:List Env)(s:Ae)(H:Hp)(cl:List (Str×Addr)):Cx :=
 { cxOf CX0 P w K mg base [x,z] qual scope f cd A outer s H E0 with A:=A.deeper (zfN qual scope s.heap.objs.size f cd cl),env:=zfN qual scope s.heap.objs.size f cd cl,stack:=zfN qual scope s.heap.objs.size f cd cl::outer,fn:=λ_=>false,xe:=λe s'=>Ao (Ax P w) (A.deeper (zfN qual scope s.heap.objs.size f cd cl)) (leaving (zfN qual scope s.heap.objs.size f cd cl) e) (λ_ s''=>CX0 outer H s E0 e s'') (λe' s''=>CX0 outer H s E0 e' s'') s' }
theorem zkL{P:AH}{w:A4}{K:W.Frag}{mg:Str -> Option Ac}{base:Heap}{k:Nat}{f c' c0:Addr}{qual:Str}{params:Arguments}{body:Expr}{scope:Scope}{pm ctv:Ac}{oc:Obj}{ws:Array Ac}{t:Tok}
  {x z:Str} {cl:List (Str×Addr)} {A:AJ} {outer:List Env} {s:Ae} {H:Hp} {u zu:Ac} {v zv:V} {Q:VK} {te:TE} (hr:Room (k+1) A) (e0:Env0 P w K mg base A outer s H)
  (hf:H f=some (.frz (Dw "<lambda>" qual params body scope cl pm c' ctv) anyO)) (hc:H c'=some (.frz oc anyO)) (hd:oc.data=.fields ws) (hv:ws[1]?=some (.str qual t)) (S:LamSc scope x z)
  (hb:CM (W.kla_fn "<lambda>" qual params body scope cl pm (.ref c') ctv) ⟨[u],[]⟩=pure [(x,u)]) (r:RelV v u)
  (hcl:∀y c,cl.lookup y=some c->y=z/\c=c0) (hcz:cl.lookup z=some c0) (hz:s.heap.IsCell c0 (some zu)) (rz:RelV zv zu) (hcn:H c0=none)
  (hbody:PE (cxLam P w K mg base x z qual scope f (.ref c') A outer s H cl).nox body te) (hq:te [some v,some zv] H Q) :
  CU (Ax P w) A (.call (.ref f) ⟨[u],[]⟩) (CR CX0 outer P w H s Q E0) s:=by
 have lim:s.heap.NoLimit:=e0.mod.nolimit.keeps λb o e=>(e0.bs b o e).1
 have hfo:=(e0.hok f _ hf).1;have hco:=(e0.hok c' _ hc).1;refine W.kla_callFunE hr.depth hfo rfl S.co S.gen rfl ⟨c',oc,ws,t,rfl,hco,hd,hv⟩ ?_
 rw[hb];refine Ah ?_
 refine wpAny_newFunctionEnv S.nocell (λy hy=>?_) (λh' hns hsb=>?_) S.kind
 .rw[Ap.mp hy];exact S.own
 have hk:∀b o,s.heap.get? b=some o->h'.get? b=some o:=λb o e=>(hsb.2 b (AI (Av e))).trans (Af _ e)
 refine⟨lim.keeps hk,W.kla_codeExpr ?_⟩
 have I:Inv (cxLam P w K mg base x z qual scope f (.ref c') A outer s H cl) [] [some v,some zv] H { s with heap:=h',toks:=s.toks+1 }:=by
  have noA:∀b:Addr,b ∉ (cxLam P w K mg base x z qual scope f (.ref c') A outer s H cl).ex:=λb q=>absurd (show b∈([]:List Addr) from q) (by simp)
  obtain⟨oz,hoz,hcz2⟩:=id hz;have hz':h'.IsCell c0 (some zu):=⟨oz,hk _ _ hoz,hcz2⟩
  refine⟨⟨e0.mod,S.kind,rfl,rfl,Ai _,λy y2 c h1 h2=>?_,λy hy=>?_,(λy c h _=>by cases h),λ_=>hr.hd,Around.frames_deeper e0.frames,.inr ⟨rfl,rfl⟩,λb q=>absurd q (noA b),e0.bs,e0.bsz,λb _ _=>noA b,λb q=>absurd q (noA b),e0.funs,e0.frf⟩,
   rfl,e0.bare,Un.kept hk,⟨_,hns,λi y vv h1 h2 _=>?_⟩,λy c h=>?_,e0.hok.fresh (Ai _),λy c h=>?_,λp hp=>absurd (show p∈([]:List (Addr×Obj)) from hp) (by simp),e0.hok.kept hk,rfl⟩
  .exact (hcl y c h1).1.trans (hcl y2 c h2).1.symm
  .have hy:scope.names.lookup y=some .cell∨scope.names.lookup y=some .free:=hy;rcases hy with hy |hy
   .exact absurd rfl (S.nocell _ (BE hy))
   .have:=S.one _ (BE hy) rfl;have e:y=z:=this;rw[e];exact⟨c0,hcz⟩
  .match i,h1,h2 with
   | 0,h1,h2 =>
    cases h1;cases h2
    refine⟨u,r,.inl ⟨S.own,?_⟩⟩;show List.lookup x [(x,u)]=some u;rw[Be,beq_self_eq_true]
   | 1,h1,h2 =>
    cases h1;cases h2
    exact⟨zu,rz,.inr ⟨.inr S.free,c0,hcz,hz'⟩⟩
   |i+2,h1,_=>cases h1
  .rw[(hcl y c h).2];exact⟨_,hz'⟩
  .rw[(hcl y c h).2];exact hcn
 refine Bs (hbody.nox [] _ [some v,some zv] H _ I hq) (λu s' hs=>?_) λe s' hs=>hs
 obtain⟨v2,H',J,rv,q⟩:=hs;exact⟨v2,H',J.os,J.bare,J.base,J.hok,rv,q⟩
noncomputable def zeq(env:Env)(qual:Str)(params:Arguments)(body:Expr)(scope:Scope)(f:Addr)(H:Hp):Prop :=
 ∃cl c' ctv pm oc vs t,Clo env scope cl/\H f=some (.frz (Dw "<lambda>" qual params body scope cl pm c' ctv) anyO)/\H c'=some (.frz oc anyO)/\oc.data=.fields vs/\vs[1]?=some (.str qual t)
theorem zeq.same{env:Env}{qual:Str}{params:Arguments}{body:Expr}{scope:Scope}{f:Addr}{H H':Hp}(h:zeq env qual params body scope f H)(s:Same H H'):zeq env qual params body scope f H' :=
 let ⟨cl,c',ctv,pm,oc,vs,t,C,e1,e2,r⟩:=h
 ⟨cl,c',ctv,pm,oc,vs,t,C,s _ _ e1,s _ _ e2,r⟩
section
variable {X:Cx}{f:Addr}{qual:Str}{params:Arguments}{body:Expr}{scope:Scope}{σ:St}{H0:Hp}{k:Nat}{te:TE}{xs:List V}{κ:Nat->Int}
theorem zk1{x z:Str}{j:Nat}{zv:V}(L:zeq X.env qual params body scope f H0)(hr:Room (k + 1 + 1) X.A)(S:LamSc scope x z)(hj:X.N[j]? = some z)(hzk:X.env.scope.names.lookup z=some .free ∨ X.env.scope.names.lookup z=some .cell)(hσ : σ[j]? = some (some zv))
  (hb:∀(cl:List (Str×Addr)) (pm ctv:Ac) (c':Addr) (u:Ac),CM (W.kla_fn "<lambda>" qual params body scope cl pm (.ref c') ctv) ⟨[u],[]⟩=pure [(x,u)])
  (hbody:∀(c':Addr) (A:AJ) (outer:List Env) (s:Ae) (H:Hp) (cl:List (Str×Addr)),PE (cxLam X.prog X.w X.K X.mg X.base x z qual scope f (.ref c') A outer s H cl).nox body te)
  (turn:∀i v H,xs[i]?=some v->Same H0 H->te [some v,some zv] H (λy H'=>Same H H'/\y=.int (κ i))):zdW X σ H0 f xs κ:=by
 intro pins i v u H s hx hS I ru;obtain⟨cl,c',ctv,pm,oc,ws,t,C,e1,e2,e3,e4⟩:=L.same hS;obtain⟨m,hns,hnm⟩:=I.loc;obtain⟨zu,rz,hlook⟩:=hnm j z zv hj hσ (by rcases hzk with q |q;exact .inr (.inr q);exact .inr (.inl q))
 obtain⟨c0,hc0,hcell⟩:∃c,X.env.cells.lookup z=some c/\s.heap.IsCell c (some zu):=by
  rcases hlook with⟨q,_⟩ |⟨_,q⟩
  .have q:X.env.scope.names.lookup z=some .local:=q;rcases hzk with w |w <;> rw[w]at q <;> cases q
  .exact q
 have hcz:cl.lookup z=some c0:=by obtain⟨c,hc⟩:=C.has _ (BE S.free) rfl;rw[hc,<- (C.old _ _ hc).1,hc0]
 have hcl:∀y c,cl.lookup y=some c->y=z/\c=c0:=λy c h=>by obtain⟨h1,h2⟩:=C.old y c h;have e:y=z:=S.one _ h2 rfl;refine⟨e,?_⟩;rw[e,hcz]at h;injection h with h;exact h.symm
 refine wpAny_call (CD (zkL (k:=k) (v:=v) (u:=u) hr.in1 I.env0.in1 e1 e2 e3 e4 S (hb cl pm ctv c' u) ru hcl hcz hcell rz (I.freeC z c0 hc0) (hbody c' _ _ _ _ cl) (turn i v H hx hS)) λr s' hq=>?_)
 cases r with
 |error e=>exact Bk hq
 |ok fl =>
  cases fl with
  |ret u=>exact I.after hq
  |next=>exact Bk hq
  |brk=>exact Bk hq
  |cont=>exact Bk hq
end
theorem zk9{X:Cx}{scope:Scope}{x z:Str}(ok:X.Ok)(S:LamSc scope x z)(hzk:X.env.scope.names.lookup z=some .free∨X.env.scope.names.lookup z=some .cell):∃cl,Clo X.env scope cl:=by
 have hc:∀y∈scope.names,y.2=.free->∃c,X.env.cells.lookup y.1=some c:=λy hy hf=>by rw[S.one y hy hf];exact ok.has z (by rcases hzk with q |q;exact .inr q;exact .inl q)
 obtain⟨cl,e,h1,h2,_⟩:=zbY (env:=X.env) scope.names [] hc;refine⟨cl,?_,λx c h=>?_,h2⟩
 .unfold closureFor;have e':=e;show (do let r <- forIn scope.names [] _;pure r)=_;simp only[bind_pure];exact e'
 .rcases h1 x c h with q |q
  .cases q
  .exact q
noncomputable def tLamF(env:Env)(P:Addr)(pos:Pos)(qual:Str)(params:Arguments)(body:Expr)(scope:Scope):TE:=λ_ H Q =>
 LamAt pos qual P H/\∀f H',But1 P H H'->LamAt pos qual P H'->H f=none->zeq env qual params body scope f H'->Q (.ref f) H'
section
variable {X:Cx}{pins:List (Addr×Obj)}{σ:St}{H:Hp}{s:Ae}
theorem zkR {c P:Addr}{x z:Str}{params:Arguments}{body:Expr}{scope:Scope}{pos:Pos}{qual:Str}(hcd:X.env.code = .ref c) (hh:Ci X.K c P=true) (hB:Bm X.mg X.base) (hq:X.env.qual ++ "<lambda>" = qual)
  (S:LamSc scope x z) (hzk:X.env.scope.names.lookup z=some .free∨X.env.scope.names.lookup z=some .cell) (hdef:defaultsOf params X.env=([],[]):=by rfl):PE X (.Lambda params body scope pos) (tLamF X.env P pos qual params body scope):=by
 intro pins s σ H Q I h;obtain⟨⟨ps,hP,hps⟩,h⟩:=h;have hPs:s.heap.get? P=some (W.tabObj ps):=I.hok P _ hP
 have nb:∀b o,X.base.get? b=some o->b≠P:=λb o e z=>by
  have:=(I.bs b o e).2;rw[z,hP]at this
  cases this
 have hg:s.heap.Ns AF X.mg:=I.mod.glob.keeps I.bk
 have hgP:AF≠P:=by obtain⟨o,es,ep,e,_⟩:=I.mod.glob;exact nb _ o e
 have C:W.CodeHd s.heap c P:=W.codeHd_of_K I.kIn hh
 have hb:s.heap.BuiltinsAt X.mg P:=by obtain⟨bm,o,b1,b2,b3,b4,b5⟩:=hB;exact⟨bm,o,b1,b2,b3,nb _ o b4,I.bk _ _ b4,b5⟩
 have fr:∀b,s.heap.objs.size<=b->H b=none:=λb e=>I.hok.fresh e
 obtain⟨cl,C0⟩:=zk9 I.ok S hzk;refine W.kla_eval hdef ?_
 rw[hq];rcases hps with rfl |⟨c',oc,vs,t,rfl,hc',hd,hv⟩
 .refine W.kla_makeFunction (mg:=X.mg) (clos:=cl) C0.run I.ok.glob hg hcd C hPs trivial rfl hgP hb λc' ctv h' tk hx hge hlt hrec htb=>?_
  obtain⟨c2,oc,vs,t,e2,hoc,hd,hv⟩:=hrec
  cases e2
  have lP:P<s.heap.objs.size:=Av hPs;have cP:c'≠P:=B4 (AB lP hge);have fP:h'.objs.size≠P:=B4 (Nat.lt_trans (AB lP hge) hlt);refine⟨.ref h'.objs.size,_,I.lamNew (more:=#[CI pos.line,CI pos.col,.ref c']) hP hx hge hlt hoc htb rfl,rfl,h _ _ ?_ ?_ (fr _ (AO hge (Bj hlt))) ⟨cl,c',ctv,_,oc,vs,t,C0,zaa,?_,hd,hv⟩⟩
  .intro b o n e;rw[zag (λz=>by rw[z,fr _ (AO hge (Bj hlt))]at e;cases e),zag (λz=>by rw[z,fr _ hge]at e;cases e),zag n];exact e
  .refine⟨#[]++#[CI pos.line,CI pos.col,.ref c'],?_,.inr ⟨c',oc,vs,t,by simp,?_,hd,hv⟩⟩
   .rw[zag fP.symm,zag cP.symm,zaa]
   .rw[zag (AI hlt),zaa]
  .rw[zag (AI hlt),zaa]
 .refine W.kla_makeFunctionHit (mg:=X.mg) (clos:=cl) (cv:=.ref c') C0.run I.ok.glob hg hcd C hPs zkb zfl hb λctv h' tk hk hsz=>?_
  have hf:H h'.objs.size=none:=fr _ hsz;refine⟨.ref h'.objs.size,upd H h'.objs.size (.frz (Dw "<lambda>" qual params body scope cl ((X.mg "__name__").getD .none) c' ctv) anyO),?_,rfl,h _ _ ?_ ?_ hf ⟨cl,c',ctv,(X.mg "__name__").getD .none,oc,vs,t,C0,zaa,?_,hd,hv⟩⟩
  .have I1:Inv X pins σ H { s with heap:=h',toks:=tk }:=I.kept (t':=tk) hk;have I2:=I1.un (h':=h'.push (Dw "<lambda>" qual params body scope cl ((X.mg "__name__").getD .none) c' ctv)) (t':=tk) (Un.laid (a:=h'.objs.size) (o:=.frz (Dw "<lambda>" qual params body scope cl ((X.mg "__name__").getD .none) c' ctv) anyO) (λb u e=>Af _ e) (Ai _) hf) (I1.hok.laid (λb u e=>Af _ e) (Ai _) ⟨Aq _ rfl,trivial,⟨_,Aq _ rfl⟩,λ_ _ _ _=>trivial⟩);exact I2
  .intro b o n e;rw[zag (λz=>by rw[z,hf]at e;cases e)];exact e
  .refine⟨_,by rw[zag (zaj hP hf)];exact hP,.inr ⟨c',oc,vs,t,rfl,?_,hd,hv⟩⟩;rw[zag (zaj hc' hf)];exact hc'
  .rw[zag (zaj hc' hf)];exact hc'
end
section
variable {X:Cx}{p pos lpos kpos dpos dp:Pos}{e body:Expr}{te tb:TE}{k j jc:Nat}{c P:Addr}{params:Arguments}{scope:Scope}{qual x z:Str}
noncomputable def zlh(K:W.Frag)(lpos:Pos)(qual:Str)(P:Addr)(j:Nat)(te tb:TE):TE:=λσ H Q=>te σ H λv H1=>∃l xs zv,∃ κ:Nat->Int,[v]=[V.ref l]/\LamAt lpos qual P H1/\SqL K H1 l xs/\σ[j]?=some (some zv) /\
 (∀i y H2,xs[i]?=some y->But1 P H1 H2->tb [some y,some zv] H2 (λr H'=>Same H2 H'/\r=.int (κ i))) /\
 (xs=[]->∀H',But1 P H1 H'->LamAt lpos qual P H'->Q .non H')/\∀i y H',xs[i]?=some y->Most κ xs.length i->But1 P H1 H'->LamAt lpos qual P H'->Q y H'
theorem zjJ {K:W.Frag}(hr:Room (k + 1 + 1) X.A) (hg:Gl X "max") (hm:X.mg "max" = none) (hcd:X.env.code = .ref c) (hh:Ci X.K c P=true) (hB:Bm X.mg X.base) (hq:X.env.qual ++ "<lambda>" = qual)
  (S:LamSc scope x z) (hj:X.N[j]?=some z) (hzk:X.env.scope.names.lookup z=some .free∨X.env.scope.names.lookup z=some .cell)
  (hb:∀(cl:List (Str×Addr)) (pm ctv:Ac) (c':Addr) (u:Ac),CM (W.kla_fn "<lambda>" qual params body scope cl pm (.ref c') ctv) ⟨[u],[]⟩=pure [(x,u)]) (he:PE X e te)
  (hbody:∀(f c':Addr) (A:AJ) (outer:List Env) (s:Ae) (H:Hp) (cl:List (Str×Addr)),PE (cxLam X.prog X.w X.K X.mg X.base x z qual scope f (.ref c') A outer s H cl).nox body tb)
  (hdef:defaultsOf params X.env=([],[]))
  (hK:X.K=K) (hse:A8 [e] X.env=[(false,eval e X.env)]) (hh':X.calm=true)
  (hall:(CN pos (BW [⟨some "key",.Lambda params body scope lpos,kpos⟩,⟨some "default",.Constant .none jc dp,dpos⟩] X.env)).all (·.1.isSome)=true) (hkw:(CN pos (BW [⟨some "key",.Lambda params body scope lpos,kpos⟩,⟨some "default",.Constant .none jc dp,dpos⟩] X.env)).any (·.1.isNone)=false)
  (hks:(CN pos (BW [⟨some "key",.Lambda params body scope lpos,kpos⟩,⟨some "default",.Constant .none jc dp,dpos⟩] X.env)).filterMap (·.1)=[Bd "key",Bd "default"]) :
  PE X (.Call (.Name "max" p) [e] [⟨some "key",.Lambda params body scope lpos,kpos⟩,⟨some "default",.Constant .none jc dp,dpos⟩] pos) (zlh K lpos qual P j te tb):=by
 subst hK;intro pins s σ H Q I h;refine BR (zch I hg hm boot_max ?_ (by decide) (by decide));refine callWith_kw (thn (zai he zab (hs:=hse) pos pins s σ H (λvs H1=>∃l xs zv,∃ κ:Nat->Int,vs=[V.ref l]/\LamAt lpos qual P H1/\SqL X.K H1 l xs/\σ[j]?=some (some zv) /\
 (∀i y H2,xs[i]?=some y->But1 P H1 H2->tb [some y,some zv] H2 (λr H'=>Same H2 H'/\r=.int (κ i))) /\
 (xs=[]->∀H',But1 P H1 H'->LamAt lpos qual P H'->Q .non H')/\∀i y H',xs[i]?=some y->Most κ xs.length i->But1 P H1 H'->LamAt lpos qual P H'->Q y H') I ?_) λus s1 ⟨vs,H1,I1,r,q⟩=>?_) (by rw[hse];rfl) (by rw[hse];rfl) hall hkw
 .show te σ H _;exact h
 .obtain⟨l,xs,zv,κ,rfl,hL,hsq,hσ,turn,hQ0,hQ⟩:=q;obtain⟨u,rfl,ru⟩:=Vals.one r
  cases (show u=Ar l from ru)
  refine thn (zeK (nm:=some "key") (kpos:=kpos) (zkR (pos:=lpos) (body:=body) hcd hh hB hq S hzk hdef) (zeK (nm:=some "default") (kpos:=dpos) (zbq) zio) pos pins s1 σ H1 (λzs H2=>∃f,zs=[.ref f,.non]/\But1 P H1 H2/\LamAt lpos qual P H2/\zeq X.env qual params body scope f H2) I1 ⟨hL,λf H' h1 h2 h3 h4=>⟨f,rfl,h1,h2,h4⟩⟩) λws s2 ⟨zs,H2,I2,rz,q2⟩=>?_
  obtain⟨f,rfl,hbut,hL2,hIL⟩:=q2
  cases rz with
  |cons rf rz =>
  cases rz with
  |cons rn rz =>
  cases rz
  cases rf
  cases rn
  rw[hks];refine zhA (I2.ok.hd hh') (zk1 hIL hr S hj hzk hσ hb (λc' A outer s H cl=>hbody f c' A outer s H cl) λi v H hx hS=>turn i v H hx (hbut.trans hS.but1)) (hbut.seq hL hsq) (λh0=>hQ0 h0 H2 hbut hL2) (λi y H' hx hm hS=>hQ i y H' hx hm (hbut.trans hS.but1) (hL2.same hS)) I2
end
end L2
namespace RP
noncomputable def upL(y x:Int)(e:Edge):Bool:=decide (e.c.2=y) && ((decide (e.w=1) && decide (e.c.1+1<=x)) || (decide (e.w=3) && decide (e.c.1<=x)))
end RP
namespace L2
open PySem
theorem sC{N P:List Str}{sc:Scope}(a:sc.kind = .function := by rfl)(b:sc.isCoroutine=false := by rfl)(c:sc.isGenerator=false := by rfl)(d:N.Nodup := by decide +kernel)(e:N.take P.length=P := by rfl)
  (f:∀x∈P,sc.names.lookup x=some .local∨sc.names.lookup x=some .cell:=by decide +kernel) (g:∀y∈sc.names,y.2≠.free:=by decide +kernel):FnScope N P sc:=⟨a,b,c,d,e,f,g⟩
section
variable {X:Cx}{k j:Nat}{x:Str}{ps:List Str}{sp:Sp}{e:Expr}{es:List Expr}{t:TA}{te:TE}{p pos pos':Pos}
theorem pC (g:Fn X.prog X.w X.K X.mg X.base k x ps sp) (hr:Room j X.A) (ha:PA X (e :: es) t) (hj:k <= j := by decide) (hg:Gl X x := by rfl) (hdb:(x == ("__debug__" : Str))=false := by decide)
  (he:A8 (e::es) X.env=(false,eval e X.env)::A8 es X.env:=by rfl) (hpl:(DM pos (A8 es X.env)).any (·.1)=false:=by rfl):PE X (.Call (.Name x p) (e::es) [] pos) (tCall sp [] E0 t) :=
 zkS g.ok (hr.mono hj) hg g.m g.kp g.b .nil pass0 ha hdb he hpl
theorem nG(i:Nat)(hN:X.N.Nodup)(hi:X.N[i]?=some x:=by rfl)(hx:Loc X.env.scope x:=by exact Or.inl rfl)(hf:X.fn x=true∨X.env.scope.names.lookup x=some .local:=by first |exact .inl rfl |exact .inr rfl |assumption):PG X (.Name x pos) (gName i) :=
 zbT hN hi hx hf
theorem sE(i:Nat)(hN:X.N.Nodup)(he:PE X e te)(hi:X.N[i]? = some x := by rfl)(hx:Loc X.env.scope x := by exact Or.inl rfl)(hs:swapsWith e (some (.Name x pos')) pos.line X.env=pure false := by rfl)
  (hf:X.fn x=true∨X.env.scope.names.lookup x=some .local:=by first |exact .inl rfl |exact .inr rfl |assumption):PS X (.Assign [.Name x pos'] e pos) (tAsg te (gName i)) :=
 zc8 hN hi hx he hs hf
end
theorem bO{osc:Scope}{N:List Str}{sc:Scope}{N':List Str}{sel:List (Option Nat)}(a:sc.kind = .function := by rfl)(b:∀y ∈ sc.names, y.2 ≠ .cell := by decide +kernel)(c:∀y ∈ sc.names, y.2 = .local -> sc.names.lookup y.1=some .local := by decide +kernel)
  (d:∀y∈sc.names,y.2=.free->osc.names.lookup y.1=some .cell∨osc.names.lookup y.1=some .free:=by decide +kernel) (e:sel.length=N'.length:=by rfl) (f:∀p∈sel.zip N',∀i∈p.1,N[i]?=some p.2/\sc.names.lookup p.2=some .free:=by decide +kernel):BlkOk osc N sc N' sel:=⟨a,b,c,d,e,f⟩
section
variable {K:W.Frag}{x qual:Str}{st:Stmt}{f:Addr}{fd:BC}
theorem Fun.b1{p0:Str}(F:Fun K x qual st f fd)(h:∀(kV doc pm:Ac) (an:Option Addr) (cdv ct a0:Ac),CM (Dm x qual (za6 st) (zaX st) (zaf st) .none kV doc pm an cdv ct) ⟨[a0],[]⟩=pure [(p0,a0)]:=by intros;rfl):Binds K fd [p0] [] :=
 F.binds λkV doc pm an cdv ct us hl=>match us,hl with |[a0],_=>h kV doc pm an cdv ct a0
theorem Fun.b2{p0 p1:Str}(F:Fun K x qual st f fd)(h:∀(kV doc pm:Ac) (an:Option Addr) (cdv ct a0 a1:Ac),CM (Dm x qual (za6 st) (zaX st) (zaf st) .none kV doc pm an cdv ct) ⟨[a0,a1],[]⟩=pure [(p0,a0),(p1,a1)]:=by intros;rfl):Binds K fd [p0,p1] [] :=
 F.binds λkV doc pm an cdv ct us hl=>match us,hl with |[a0,a1],_=>h kV doc pm an cdv ct a0 a1
theorem Fun.b3{p0 p1 p2:Str}(F:Fun K x qual st f fd)(h:∀(kV doc pm:Ac) (an:Option Addr) (cdv ct a0 a1 a2:Ac),CM (Dm x qual (za6 st) (zaX st) (zaf st) .none kV doc pm an cdv ct) ⟨[a0,a1,a2],[]⟩=pure [(p0,a0),(p1,a1),(p2,a2)]:=by intros;rfl):Binds K fd [p0,p1,p2] [] :=
 F.binds λkV doc pm an cdv ct us hl=>match us,hl with |[a0,a1,a2],_=>h kV doc pm an cdv ct a0 a1 a2
end
noncomputable def DA(K:W.Frag)(x:Str)(st:Stmt):Prop:=∃(f:Addr) (od an:Option Addr) (sl:Array (Option Ac)) (oc kV dc pm cd ct:Ac),CY K AF x=some (some (.ref f)) /\
 K.lookup f=some ⟨oc,od,.func (Dm x x (za6 st) (zaX st) (zaf st) .none kV dc pm an cd ct),sl⟩/\W.codeIn K cd x=true/\DD K (.ref f)=true
section
variable {K:W.Frag}{mg:Str->Option Ac}{h:Heap}{x:Str}{st:Stmt}
theorem DA.mk{f:Addr}{od an:Option Addr}{sl:Array (Option Ac)}{oc kV dc pm cd ct:Ac}(a:CY K AF x=some (some (.ref f)))
  (l:K.lookup f=some ⟨oc,od,.func (Dm x x (za6 st) (zaX st) (zaf st) .none kV dc pm an cd ct),sl⟩) (c:W.codeIn K cd x=true) (k:DD K (.ref f)=true):DA K x st :=
 ⟨f,od,an,sl,oc,kV,dc,pm,cd,ct,a,l,c,k⟩
theorem DA.d1{p0:Str}(D:DA K x st)(X:K.In h)(G:h.Ns AF mg)(hb:∀(kV doc pm:Ac) (an:Option Addr) (cdv ct a0:Ac),CM (Dm x x (za6 st) (zaX st) (zaf st) .none kV doc pm an cdv ct) ⟨[a0],[]⟩=pure [(p0,a0)]:=by intros;rfl):Nonempty (Df K mg x st [p0]):=by obtain⟨f,od,an,sl,oc,kV,dc,pm,cd,ct,a,l,c,k⟩:=D;exact⟨⟨f,_,zcP l c k,W.mg_of X G a,(zcP l c k).b1 hb⟩⟩
theorem DA.d2{p0 p1:Str}(D:DA K x st)(X:K.In h)(G:h.Ns AF mg)(hb:∀(kV doc pm:Ac) (an:Option Addr) (cdv ct a0 a1:Ac),CM (Dm x x (za6 st) (zaX st) (zaf st) .none kV doc pm an cdv ct) ⟨[a0,a1],[]⟩=pure [(p0,a0),(p1,a1)]:=by intros;rfl):Nonempty (Df K mg x st [p0,p1]):=by obtain⟨f,od,an,sl,oc,kV,dc,pm,cd,ct,a,l,c,k⟩:=D;exact⟨⟨f,_,zcP l c k,W.mg_of X G a,(zcP l c k).b2 hb⟩⟩
theorem DA.d3{p0 p1 p2:Str}(D:DA K x st)(X:K.In h)(G:h.Ns AF mg)(hb:∀(kV doc pm:Ac) (an:Option Addr) (cdv ct a0 a1 a2:Ac),CM (Dm x x (za6 st) (zaX st) (zaf st) .none kV doc pm an cdv ct) ⟨[a0,a1,a2],[]⟩=pure [(p0,a0),(p1,a1),(p2,a2)]:=by intros;rfl):Nonempty (Df K mg x st [p0,p1,p2]):=by obtain⟨f,od,an,sl,oc,kV,dc,pm,cd,ct,a,l,c,k⟩:=D;exact⟨⟨f,_,zcP l c k,W.mg_of X G a,(zcP l c k).b3 hb⟩⟩
end
open PySem RP
theorem zgC{es:List Edge}{e:Edge}(y:Int):upr (es++[e]) y=if isUp y e=true then upr es y++[px e] else upr es y:=by
 unfold upr;rw[BU,AA]
 by_cases h:isUp y e=true
 .simp[h]
 .simp[h]
structure UD (H0 H:Hp) (a:Addr) (es:List Edge) (kvs:List (Key×V)) (B:Int->Addr):Prop where
 dict:H a=some (.dK kvs)
 new:H0 a=none
 same:Same H0 H
 len:kvs.length<=es.length
 nd:(kvs.map (·.1)).Nodup
 keys:∀k∈kvs.map (·.1),∃y,k=CT y/\upr es y≠[]
 at_:∀y,upr es y≠[]->valV kvs (.inl y)=some (.ref (B y))/\H (B y)=some (.lst ((upr es y).map V.int))/\H0 (B y)=none/\B y≠a
 inj:∀y z,upr es y≠[]->upr es z≠[]->B y=B z->y=z
 no:∀y,upr es y=[]->valV kvs (.inl y)=none
theorem UD.start{H0:Hp}{a:Addr}(h:H0 a=none):UD H0 (upd H0 a (.dK [])) a [] [] λ_=>0 where
 dict:=zaa
 new:=h
 same:=λb u e=>by rw[zag (zaj e h)];exact e
 len:=Ai _
 nd:=.nil
 keys:=λ_ h=>(nomatch h)
 at_:=λy h=>absurd rfl h
 inj:=λy z h=>absurd rfl h
 no:=λ_ _=>rfl
variable {H0 H:Hp}{a z:Addr}{es:List Edge}{e:Edge}{kvs:List (Key×V)}{B:Int->Addr}
theorem UD.skip(h:UD H0 H a es kvs B)(hw:¬ (e.w=1∨e.w=3)):UD H0 H a (es++[e]) kvs B:=by
 have u:∀y,upr (es++[e]) y=upr es y:=λy=>by rw[zgC,if_neg (λq=>hw (ze0.mp q).1)]
 exact⟨h.dict,h.new,h.same,by rw[Ak];exact Nat.le_succ_of_le h.len,h.nd,λk hk=>by obtain⟨y,q,r⟩:=h.keys k hk;exact⟨y,q,by rw[u];exact r⟩,
  λy hy=>by rw[u]at hy ⊢;exact h.at_ y hy,λy z hy hz=>h.inj y z (by rwa [u]at hy) (by rwa [u]at hz),λy hy=>h.no y (by rwa [u]at hy)⟩
theorem zhL(hw:e.w=1∨e.w=3)(y:Int):upr (es++[e]) y=if y=e.c.2 then upr es y++[px e] else upr es y:=by
 rw[zgC]
 by_cases q:y=e.c.2
 .rw[if_pos (ze0.mpr ⟨hw,q.symm⟩),if_pos q]
 .rw[if_neg (λz=>q (ze0.mp z).2.symm),if_neg q]
theorem UD.more(h:UD H0 H a es kvs B)(hw:e.w=1 ∨ e.w=3)(hz:H z=none)(hy:upr es e.c.2 ≠ []) :
  UD H0 (upd (upd H z (.lst [])) (B e.c.2) (.lst ((upr es e.c.2).map V.int++[.int (px e)]))) a (es++[e]) kvs B:=by
 obtain⟨a1,a2,a3,a4⟩:=h.at_ _ hy;have u:=zhL (es:=es) hw;have nz:∀{b o},H b=some o->b≠z:=λq w=>by rw[w,hz]at q;cases q
 have ne:∀y,upr (es++[e]) y≠[] ↔ upr es y≠[]:=λy=>by
  rw[u]
  by_cases q:y=e.c.2
  .subst q;simp[hy]
  .simp[q]
 refine⟨?_,h.new,λb o q=>?_,by rw[Ak];exact Nat.le_succ_of_le h.len,h.nd,λk hk=>?_,λy hy'=>?_,λy z' h1 h2=>h.inj y z' ((ne y).mp h1) ((ne z').mp h2),λy hy'=>h.no y ?_⟩
 .rw[zag a4.symm,zag (nz h.dict)];exact h.dict
 .have q':=h.same b o q;rw[zag (zaj q a3),zag (nz q')];exact q'
 .obtain⟨y,q,r⟩:=h.keys k hk;exact⟨y,q,(ne y).mpr r⟩
 .obtain⟨b1,b2,b3,b4⟩:=h.at_ y ((ne y).mp hy');refine⟨b1,?_,b3,b4⟩;rw[u]
  by_cases q:y=e.c.2
  .subst q;rw[if_pos rfl,zaa,AA];rfl
  .rw[if_neg q,zag (λw=>q (h.inj y _ ((ne y).mp hy') hy w)),zag (nz b2)];exact b2
 .exact Bh λw=>(ne y).mpr w hy'
theorem UD.first(h:UD H0 H a es kvs B)(hw:e.w=1 ∨ e.w=3)(hz:H z=none)(hy:upr es e.c.2 = []) :
  UD H0 (upd (upd (upd H z (.lst [])) a (.dK (putK kvs (.inl e.c.2) (.ref z)))) z (.lst ([]++[.int (px e)]))) a (es++[e]) (putK kvs (.inl e.c.2) (.ref z)) λy=>if y=e.c.2 then z else B y:=by
 have u:=zhL (es:=es) hw;have nz:∀{b o},H b=some o->b≠z:=λq w=>by rw[w,hz]at q;cases q
 have haz:a≠z:=nz h.dict;have hv:=h.no _ hy
 have ne:∀y,upr (es++[e]) y≠[] ↔ y=e.c.2∨upr es y≠[]:=λy=>by
  rw[u]
  by_cases q:y=e.c.2
  .subst q;simp
  .simp[q]
 refine⟨?_,h.new,λb o q=>?_,?_,zkY _ h.nd hv,λk hk=>?_,λy hy'=>?_,λy z' h1 h2 q=>?_,λy hy'=>?_⟩
 .rw[zag haz,zaa]
 .have q':=h.same b o q;rw[zag (nz q'),zag (zaj q h.new),zag (nz q')];exact q'
 .have:=zaP kvs (CT e.c.2) (V.ref z);have:=h.len;rw[Ak];simp only[A3,C3];lia
 .rw[putK_new _ hv,AA]at hk;rcases AW.mp hk with hk |hk
  .obtain⟨y,q,r⟩:=h.keys k hk;exact⟨y,q,(ne y).mpr (.inr r)⟩
  .exact⟨e.c.2,Ap.mp hk,(ne _).mpr (.inl rfl)⟩
 .by_cases q:y=e.c.2
  .subst q;refine⟨by rw[zcI,if_pos rfl,if_pos rfl],?_,?_,?_⟩
   .rw[if_pos rfl,zaa,u,if_pos rfl,hy];rfl
   .rw[if_pos rfl];exact h.same.free hz
   .rw[if_pos rfl];exact haz.symm
  .obtain⟨b1,b2,b3,b4⟩:=h.at_ y (((ne y).mp hy').resolve_left q);rw[if_neg q];refine⟨by rw[zcI,if_neg (λw=>q (Dk w))];exact b1,?_,b3,b4⟩;rw[zag (nz b2),zag b4,zag (nz b2),u,if_neg q];exact b2
 .by_cases q1:y=e.c.2 <;> by_cases q2:z'=e.c.2 <;> simp only[q1,q2,if_true,if_false]at q
  .rw[q1,q2]
  .exact absurd q.symm (nz (h.at_ z' (((ne z').mp h2).resolve_left q2)).2.1)
  .exact absurd q (nz (h.at_ y (((ne y).mp h1).resolve_left q1)).2.1)
  .exact h.inj y z' (((ne y).mp h1).resolve_left q1) (((ne z').mp h2).resolve_left q2) q
 .have q:y≠e.c.2:=λw=>(ne y).mpr (.inl w) hy'
  rw[zcI,if_neg (λw=>q (Dk w))];exact h.no y (Bh λw=>(ne y).mpr (.inr w) hy')
end L2
namespace RR
open PySem L2
noncomputable def top(i:Nat):Stmt:=PySem.Challenge.pw_rimsteps_k16_one_in_another.main.body.getD i (.Pass ⟨0,0,0,0⟩)
noncomputable abbrev zcb:Stmt:=top 5
noncomputable abbrev zf3:List Str:=["cell"]
theorem zeG:FnScope zf3 ["cell"] (zaf zcb):=sC
noncomputable abbrev zib:Stmt:=top 6
noncomputable abbrev zl5:List Str:=["x","y","step","right","up"]
theorem zgc:FnScope zl5 ["x","y","step"] (zaf zib):=sC
noncomputable abbrev zb9:Stmt:=top 8
noncomputable abbrev zf1:List Str:=["edge","x","y","way"]
theorem zbu:FnScope zf1 ["edge"] (zaf zb9):=sC
noncomputable abbrev zbz:Stmt:=top 9
noncomputable abbrev zdV:List Str:=["way"]
theorem zdj:FnScope zdV ["way"] (zaf zbz):=sC
noncomputable abbrev zb8:Stmt:=top 10
noncomputable abbrev zf0:List Str:=["way"]
theorem zeF:FnScope zf0 ["way"] (zaf zb8):=sC
noncomputable abbrev zcR:Stmt:=top 11
noncomputable abbrev zhD:List Str:=["step"]
theorem zgb:FnScope zhD ["step"] (zaf zcR):=sC
noncomputable abbrev zbP:Stmt:=top 12
noncomputable abbrev zfb:List Str:=["edge","step","x","y","way","new_x","new_y"]
theorem zaU:FnScope zfb ["edge","step"] (zaf zbP):=sC
noncomputable abbrev zaH:Stmt:=top 15
noncomputable abbrev zbi:List Str:=["walk","lefts","slants"]
theorem za9:FnScope zbi ["walk"] (zaf zaH):=sC
noncomputable abbrev zbb:Stmt:=top 16
noncomputable abbrev zcH:List Str:=["walk","lefts","slants"]
theorem za5:FnScope zcH ["walk"] (zaf zbb):=sC
noncomputable abbrev zcp:Stmt:=top 17
noncomputable abbrev zep:List Str:=["walk","sort"]
theorem zge:FnScope zep ["walk","sort"] (zaf zcp):=sC
noncomputable abbrev zcc:Stmt:=top 20
noncomputable abbrev zf4:List Str:=["one","sort","x","y","row"]
theorem zbh:FnScope zf4 ["one"] (zaf zcc):=sC
noncomputable abbrev zdA:Stmt:=top 21
noncomputable abbrev zjq:List Str:=["step"]
theorem zhk:FnScope zjq ["step"] (zaf zdA):=sC
noncomputable abbrev zbQ:Stmt:=top 22
noncomputable abbrev zfc:List Str:=["begin_way","row","way","deeds","step","lefts"]
theorem zaV:FnScope zfc ["begin_way","row"] (zaf zbQ):=sC
noncomputable abbrev zdC:Stmt:=top 23
noncomputable abbrev zjs:List Str:=["begin","deeds","walk","edge","deed"]
theorem zbJ:FnScope zjs ["begin","deeds"] (zaf zdC):=sC
noncomputable abbrev zb7:Stmt:=top 24
noncomputable abbrev zfZ:List Str:=["begin","row"]
theorem zeE:FnScope zfZ ["begin","row"] (zaf zb7):=sC
noncomputable abbrev zbG:Stmt:=top 25
noncomputable abbrev zd5:List Str:=["edge","step","x","y","way","behind","seen"]
theorem zaL:FnScope zd5 ["edge","step"] (zaf zbG):=sC
noncomputable abbrev zbO:Stmt:=top 26
noncomputable abbrev zfa:List Str:=["walk","known","steps_gone","edge","step","cell","inside"]
theorem zaB:FnScope zfa ["walk"] (zaf zbO):=sC
noncomputable abbrev zca:Stmt:=top 27
noncomputable abbrev zf2:List Str:=["walk","edge","step"]
theorem zbN:FnScope zf2 ["walk"] (zaf zca):=sC
noncomputable abbrev zcA:Stmt:=top 28
noncomputable abbrev zgv:List Str:=["walk","sort"]
theorem zft:FnScope zgv ["walk","sort"] (zaf zcA):=sC
noncomputable abbrev zdB:Stmt:=top 29
noncomputable abbrev zjr:List Str:=["one","sort","x","y","row","begin","walk","at"]
theorem zbe:FnScope zjr ["one"] (zaf zdB):=sC
noncomputable abbrev zco:Stmt:=top 30
noncomputable abbrev zeo:List Str:=["one"]
theorem zgd:FnScope zeo ["one"] (zaf zco):=sC
noncomputable abbrev zcQ:Stmt:=top 32
noncomputable abbrev zhC:List Str:=["edges","places","x","y","way"]
theorem zby:FnScope zhC ["edges"] (zaf zcQ):=sC
noncomputable abbrev zbw:Stmt:=top 34
noncomputable abbrev zbZ:List Str:=["places","x","y","passed"]
theorem zct:FnScope zbZ ["places","x","y"] (zaf zbw):=sC
noncomputable abbrev zbD:Stmt:=top 35
noncomputable abbrev zde:List Str:=["some","lines","at","sort","x","y","row"]
theorem zbg:FnScope zde ["some","lines","at"] (zaf zbD):=sC
noncomputable abbrev zbk:Stmt:=top 36
noncomputable abbrev zds:List Str:=["some","lines","holders"]
theorem zdy:FnScope zds ["some"] (zaf zbk):=sC
noncomputable abbrev zbH:Stmt:=top 38
noncomputable abbrev zd6:List Str:=["_law_script","_law_k"]
theorem zdz:FnScope zd6 ["_law_script","_law_k"] (zaf zbH):=sC
noncomputable abbrev zcS:Stmt:=top 39
noncomputable abbrev zhE:List Str:=["_law_cell","_law_many","_law_base","_law_found","_law_left","_law_number","_law_k"]
theorem zba:FnScope zhE ["_law_cell","_law_many","_law_base"] (zaf zcS):=sC
noncomputable abbrev zbl:Stmt:=top 40
noncomputable abbrev zcw:List Str:=["_law_script","_law_start","_law_wide","_law_high","_law_share","_law_left","_law_low","_law_way","_law_far","_law_found","_law_y","_law_row_here"]
theorem zan:FnScope zcw ["_law_script","_law_start"] (zaf zbl):=sC
noncomputable abbrev zcB:Stmt:=top 41
noncomputable abbrev zgw:List Str:=["_law_x","_law_y","_law_step","_law_dx","_law_dy"]
theorem zb6:FnScope zgw ["_law_x","_law_y","_law_step"] (zaf zcB):=sC
noncomputable abbrev zcT:Stmt:=top 42
noncomputable abbrev zhF:List Str:=["_law_cells","_law_there","_law_cell"]
theorem zcy:FnScope zhF ["_law_cells"] (zaf zcT):=sC
noncomputable abbrev zbS:Stmt:=top 43
noncomputable abbrev zff:List Str:=["_law_there","_law_edge","_law_x","_law_y","_law_way","_law_right","_law_ahead"]
theorem zaW:FnScope zff ["_law_there","_law_edge"] (zaf zbS):=sC
noncomputable abbrev zbE:Stmt:=top 44
noncomputable abbrev zdg:List Str:=["_law_there","_law_found","_law_x","_law_y"]
theorem zbv:FnScope zdg ["_law_there"] (zaf zbE):=sC
noncomputable abbrev zbR:Stmt:=top 45
noncomputable abbrev zfd:List Str:=["_law_there","_law_first","_law_edges_here","_law_steps","_law_step","_law_edge"]
theorem zaJ:FnScope zfd ["_law_there","_law_first"] (zaf zbR):=sC
noncomputable abbrev zbj:Stmt:=top 46
noncomputable abbrev zb0:List Str:=["_law_edges_here","_law_steps","_law_swung","_law_way","_law_at","_law_row_here"]
theorem zbn:FnScope zb0 ["_law_edges_here","_law_steps"] (zaf zbj):=sC
noncomputable abbrev zaN:Stmt:=top 47
noncomputable abbrev zfe:List Str:=["_law_cells","_law_there","_law_seen","_law_found","_law_edge","_law_edges_here","_law_steps","_law_one"]
theorem zaC:FnScope zfe ["_law_cells"] (zaf zaN):=sC
noncomputable abbrev zcf:Stmt:=top 48
noncomputable abbrev zdf:List Str:=["_law_there","_law_first","_law_steps","_law_found","_law_left","_law_x","_law_y","_law_step","_law_cell"]
theorem zaM:FnScope zdf ["_law_there","_law_first","_law_steps"] (zaf zcf):=sC
noncomputable abbrev zbL:Stmt:=top 49
noncomputable abbrev zc5:List Str:=["_law_cells","_law_wide","_law_high"]
theorem zcz:FnScope zc5 ["_law_cells"] (zaf zbL):=sC
noncomputable abbrev zcd:Stmt:=top 50
noncomputable abbrev zf5:List Str:=["_law_found"]
theorem zeH:FnScope zf5 ["_law_found"] (zaf zcd):=sC
noncomputable abbrev zce:Stmt:=top 51
noncomputable abbrev zf6:List Str:=["_law_script","_law_wide","_law_high","_law_way","_law_found","_law_y","_law_row_here","_law_x"]
theorem zau:FnScope zf6 ["_law_script"] (zaf zce):=sC
noncomputable abbrev zcC:Stmt:=top 52
noncomputable abbrev zgx:List Str:=["_law_cells","_law_there","_law_left","_law_low","_law_right","_law_high","_law_gaps_here","_law_y","_law_x"]
theorem zaG:FnScope zgx ["_law_cells"] (zaf zcC):=sC
noncomputable abbrev zbK:Stmt:=top 53
noncomputable abbrev zcq:List Str:=["_law_cells","_law_some","_law_one","_law_sort","_law_x","_law_y","_law_row_here","_law_lot_here","_law_found"]
theorem za0:FnScope zcq ["_law_cells","_law_some","_law_one"] (zaf zbK):=sC
noncomputable abbrev s_law:Stmt:=top 54
noncomputable abbrev N_law:List Str:=["_law_script","_law_cells","_law_some","_law_handed","_law_found","_law_k"]
theorem zdx:FnScope N_law ["_law_script"] (zaf s_law):=sC
open PySem L2 RP
noncomputable def cellT(c:Cell):List V:=[.int c.1,.int c.2]
noncomputable def edgeT(e:Edge):List V:=[.int e.c.1,.int e.c.2,.int e.w]
noncomputable def sv:Option Nat->V
 |none=>.non
 |some s=>.int s
theorem Same.up{H:Hp}{p:Addr}{o:HO}(h:H p=none):Same H (upd H p o):=λb u e=>by rw[zag (zaj e h)];exact e
structure Txt (P:AH) (w:A4) (K:W.Frag) (mg:Str->Option Ac):Prop where
 moves:∃M,mg "MOVES" = some (.ref M)/\∀H,∃ms:List Addr,SqT K H M (ms.map V.ref)/\ms.length=8/\∀(i:Nat) a,ms[i]?=some a->SqT K H a [.int (mv i).1,.int (mv i).2]
 ways:Ways P w K mg
 more:Two P w K mg "MORE_LEFTS" 4 (-4)
 nrange:mg "range" = none
 nlen:mg "len" = none
 nmin:mg "min" = none
 nsorted:mg "sorted" = none
 ntuple:mg "tuple" = none
 nint:mg "int" = none
 nbool:mg "bool" = none
 nstr:mg "str" = none
 nisinstance:mg "isinstance" = none
 nlist:mg "list" = none
 nenumerate:mg "enumerate" = none
 nmax:mg "max" = none
theorem two:2<=sizeLine:=by decide
theorem three:3<=sizeLine:=by decide
section
variable {P:AH}{w:A4}{K:W.Frag}{mg:Str->Option Ac}{base:Heap}
noncomputable def zh0(K:W.Frag):Sp:=λvs H Q _=>∃(a:Addr) (x y:Int) (r:List V),vs=[.ref a]/\SqT K H a (.int x::.int y::r)/\∀(p:Addr) (H':Hp),H p=none->Same H H'->H' p=some (.tup [.int y,.int x])->Q (.ref p) H'
theorem zeW (d:Df K mg "cell_order" zcb ["cell"]):FnOk P w K mg base CX0 1 d.f d.fd ["cell"] (zh0 K):=by
 refine d.F.ok zeG (λvs H Q E h=>?_) (λcdv A outer s H vs Q E hr h=>?_)
 .obtain⟨a,x,y,r,rfl,_⟩:=h;rfl
 .obtain⟨a,x,y,r,rfl,hq,k⟩:=h;refine⟨_,(zah (zal (zar (zai (pe_ix zcO (pv 0) zae (λ_ _=>rfl)) (zai (pe_ix zcO (pv 0) zae (λ_ _=>rfl)) zab))))),?_⟩;refine⟨_,rfl,a,_,_,_,rfl,rfl,hq,zat (j:=1) rfl,_,rfl,a,_,_,_,rfl,rfl,hq,zat (j:=0) rfl,two,λp hp=>?_⟩;exact k p _ hp (Same.up hp) zaa
noncomputable def zc7:Sp:=λvs H Q _=>∃(c:Cell) (i:Nat),vs=[.int c.1,.int c.2,.int i]/\i<8/\∀(p:Addr) (H':Hp),H p=none->Same H H'->H' p=some (.tup (cellT (go c i)))->Q (.ref p) H'
theorem zkU (T:Txt P w K mg) (d:Df K mg "gone" zib ["x","y","step"]):FnOk P w K mg base CX0 1 d.f d.fd ["x","y","step"] zc7:=by
 refine d.F.ok zgc (λvs H Q E h=>?_) (λcdv A outer s H vs Q E hr h=>?_)
 .obtain⟨c,i,rfl,_⟩:=h;rfl
 .obtain⟨c,i,rfl,hi,k⟩:=h;obtain⟨M,hM,hms⟩:=T.moves;obtain⟨ms,hq,hl,hm⟩:=hms H
  refine⟨_,(zac (zbf (pe_ix zcO (zeN (v:=.ref M) rfl hM rfl) (pv 2) (λ_ _=>rfl)) (za2 (by rfl) (zad (nG 3 zgc.nd) (zad (nG 4 zgc.nd) zao))))
   (zah (zal (zar (pa_B (pe_op zax (pv 0) (pv 3)) (pa_B (pe_op zax (pv 1) (pv 4)) zab)))))),?_⟩
  have hi':i<ms.length:=by lia
  have e1:ms[i]?=some ms[i]:=by simp[hi']
  refine⟨_,rfl,M,_,(i:Int),.ref ms[i],rfl,rfl,hq,zat (by simp[hi']),ms[i],_,rfl,hm i _ e1,rfl,_,_,rfl,_,_,rfl,rfl,?_⟩;refine⟨_,rfl,_,rfl,_,_,rfl,rfl,_,rfl,_,rfl,_,_,rfl,rfl,two,λp hp=>?_⟩;exact k p _ hp (Same.up hp) zaa
noncomputable def zec:Sp:=λvs H Q _=>∃w:Nat,vs=[.int w]/\w<4/\Q (.int (2*w:Nat)) H
theorem zdk (d:Df K mg "straight_step" zbz ["way"]):FnOk P w K mg base CX0 1 d.f d.fd ["way"] zec:=by
 refine d.F.ok zdj (λvs H Q E h=>?_) (λcdv A outer s H vs Q E hr h=>?_)
 .obtain⟨w,rfl,_⟩:=h;rfl
 .obtain⟨w,rfl,hw,k⟩:=h;refine⟨_,(zah (zal (pe_op zbF zae (pv 0)))),?_⟩;refine⟨_,rfl,_,_,rfl,rfl,.inl ⟨by decide,by decide⟩,?_⟩;have e:(2*(w:Int))=((2*w:Nat):Int):=by lia
  show Q (.int (2*(w:Int))) H;rw[e];exact k
noncomputable def zhY:Sp:=λvs H Q _=>∃w:Nat,vs=[.int w]/\w<4/\Q (.int ((2*w+7) % 8:Nat)) H
theorem zeP (d:Df K mg "slant_step" zb8 ["way"]):FnOk P w K mg base CX0 1 d.f d.fd ["way"] zhY:=by
 refine d.F.ok zeF (λvs H Q E h=>?_) (λcdv A outer s H vs Q E hr h=>?_)
 .obtain⟨w,rfl,_⟩:=h;rfl
 .obtain⟨w,rfl,hw,k⟩:=h;refine⟨_,(zah (zal (pe_op zaF (pe_op zax (pe_op zbF zae (pv 0)) zae) zae))),?_⟩;refine⟨_,rfl,_,_,rfl,rfl,.inl ⟨by decide,by decide⟩,_,_,rfl,rfl,_,_,rfl,rfl,(by show (0:Int)<8;decide),?_⟩;have e:(2*(w:Int)+7) % 8=(((2*w+7) % 8:Nat):Int):=by lia
  show Q (.int ((2*(w:Int)+7) % 8)) H;rw[e];exact k
noncomputable def zcJ:Sp:=λvs H Q _=>∃o:Option Nat,vs=[sv o]/\Q (.bl (slant o)) H
theorem zgn (d:Df K mg "is_slant" zcR ["step"]):FnOk P w K mg base CX0 1 d.f d.fd ["step"] zcJ:=by
 refine d.F.ok zgb (λvs H Q E h=>?_) (λcdv A outer s H vs Q E hr h=>?_)
 .obtain⟨o,rfl,_⟩:=h;rfl
 .obtain⟨o,rfl,k⟩:=h;refine⟨_,(zah (zal (zit (zbU zcX (pv 0) zbq (zas _)) (zis (zbU op_eq (pe_op zaF (pv 0) zae) zae (zas _)))))),?_⟩
  cases o with
  |none=>exact⟨_,rfl,rfl,false,rfl,iteF k⟩
  |some n =>
   refine⟨_,rfl,rfl,true,rfl,iteT ⟨_,rfl,_,_,rfl,rfl,(by show (0:Int)<2;decide),rfl,?_⟩⟩
   have e:decide (V.int ((n:Int) % 2)=V.int 1)=slant (some n):=by
    show _=(n % 2 == 1)
    by_cases q:n % 2=1
    .rw[decide_eq_true (by rw[show (n:Int) % 2=1 by lia]),q];rfl
    .rw[decide_eq_false (λz=>by injection z with z;lia)];simp[q]
   rw[<- e]at k;exact k
noncomputable def spGap(K:W.Frag):Sp:=λvs H Q _=>∃(a:Addr) (e:Edge),vs=[.ref a]/\SqT K H a (edgeT e)/\e.w<4/\∀(p:Addr) (H':Hp),H p=none->Same H H'->H' p=some (.tup (cellT (gap e)))->Q (.ref p) H'
theorem zeU (g_gone:Fn P w K mg base 1 "gone" ["x","y","step"] zc7) (d:Df K mg "gap_beside" zb9 ["edge"]):FnOk P w K mg base CX0 2 d.f d.fd ["edge"] (spGap K):=by
 refine d.F.ok zbu (λvs H Q E h=>?_) (λcdv A outer s H vs Q E hr h=>?_)
 .obtain⟨a,e,rfl,_⟩:=h;rfl
 .obtain⟨a,e,rfl,hq,hw,k⟩:=h
  refine⟨_,(zac (zbf (pv 0) (za2 (by rfl) (zad (nG 1 zbu.nd) (zad (nG 2 zbu.nd) (zad (nG 3 zbu.nd) zao)))))
   (zah (zal (pC g_gone hr (pa_N (pv 1) (pa_N (pv 2) (pa_B (pe_op zaF (pe_op zax (pe_op zbF zae (pv 3)) zae) zae) zab))))))),?_⟩
  refine⟨_,rfl,a,_,rfl,hq,rfl,_,_,rfl,_,_,rfl,_,_,rfl,rfl,?_⟩;have e6:(2*(e.w:Int)+6) % 8=(((2*e.w+6) % 8:Nat):Int):=by lia
  refine⟨_,rfl,_,rfl,_,rfl,_,_,rfl,rfl,.inl ⟨by decide,by decide⟩,_,_,rfl,rfl,_,_,rfl,rfl,(by show (0:Int)<8;decide),e.c,(2*e.w+6) % 8,(by rw[<- e6];rfl),by lia,λp H' hp hS hH=>k p H' hp hS hH⟩
theorem iteN{b:Bool}{A B:Prop}(h:b=false)(q:B):if b=true then A else B:=by subst h;exact iteF q
theorem iteY{b:Bool}{A B:Prop}(h:b=true)(q:A):if b=true then A else B:=by subst h;exact iteT q
theorem zcn{tb:TS}{D:Ends}{σ:St}{H:Hp}(h:tb D σ H):tIfs (λ_ H Q=>Q true H) tb D σ H:=by
 show if true=true then tb D σ H else D.nx σ H
 exact iteT h
noncomputable def LR{α:Type}(K:W.Frag)(H:Hp)(a:Addr)(l:List α)(R:α->V->Hp->Prop):Prop:=∃vs:List V,SqL K H a vs/\vs.length=l.length/\∀(i:Nat) x v,l[i]?=some x->vs[i]?=some v->R x v H
noncomputable def cR(c:Cell)(v:V)(H:Hp):Prop:=∃b,v=.ref b/\H b=some (.tup (cellT c))
noncomputable def eR(e:Edge)(v:V)(H:Hp):Prop:=∃b,v=.ref b/\H b=some (.tup (edgeT e))
noncomputable def wR(q:Edge×Option Nat)(v:V)(H:Hp):Prop:=∃A b,v=.ref A/\H A=some (.tup [.ref b,sv q.2])/\H b=some (.tup (edgeT q.1))
theorem wR.same{c:Edge×Option Nat}{v:V}{H H':Hp}(h:wR c v H)(s:Same H H'):wR c v H':=let ⟨A,b,e,q,r⟩:=h;⟨A,b,e,s _ _ q,s _ _ r⟩
theorem LR.same{α:Type}{K:W.Frag}{H H':Hp}{a:Addr}{l:List α}{R:α->V->Hp->Prop}(h:LR K H a l R)(s:Same H H')(m:∀x v,R x v H->R x v H'):LR K H' a l R :=
 let ⟨vs,q,n,r⟩:=h;⟨vs,s.seq q,n,λi x v h1 h2=>m x v (r i x v h1 h2)⟩
theorem zcg{α:Type}{l:List α}{i:Nat}{x c:α}(h:l[i]?=some x):c∈l.take (i+1) ↔ c∈l.take i∨c=x:=by rw[Dt,h,List.mem_append];exact⟨λz=>z.elim .inl λz=>.inr (Ap.mp z),λz=>z.elim .inl λz=>.inr (List.mem_singleton.mpr z)⟩
noncomputable def InOrd(cs:List Cell):Prop:=∀(i:Nat) c d,cs[i]?=some c->cs[i+1]?=some d->HT.lexLt [c.2,c.1] [d.2,d.1]=true
noncomputable def kC(c:Cell):List Key:=[CT c.1,CT c.2]
theorem zei{c d:Cell}:kC c=kC d ↔ c=d:=by
 constructor
 .intro h;unfold kC at h;injection h with h1 h2;injection h2 with h2 _;exact Cm (Dk h1) (Dk h2)
 .rintro rfl;rfl
noncomputable def zeB(K:W.Frag):Sp:=λvs H Q _=>∃(a:Addr) (e:Edge) (o:Option Nat),vs=[.ref a,sv o]/\SqT K H a (edgeT e)/\e.w<4/\(∀s,o=some s->s<8)/\∀(p:Addr) (H':Hp),H p=none->Same H H'->H' p=some (.tup (edgeT (edgeB e o)))->Q (.ref p) H'
theorem zd1 (g_gone:Fn P w K mg base 1 "gone" ["x", "y", "step"] zc7) (g_is_slant:Fn P w K mg base 1 "is_slant" ["step"] zcJ)
  (d:Df K mg "edge_behind" zbP ["edge","step"]):FnOk P w K mg base CX0 2 d.f d.fd ["edge","step"] (zeB K):=by
 refine d.F.ok zaU (λvs H Q E h=>?_) (λcdv A outer s H vs Q E hr h=>?_)
 .obtain⟨a,e,o,rfl,_⟩:=h;rfl
 .obtain⟨a,e,o,rfl,hq,hw,ho,k⟩:=h
  refine⟨_,(zac (zbf (pv 0) (za2 (by rfl) (zad (nG 2 zaU.nd) (zad (nG 3 zaU.nd) (zad (nG 4 zaU.nd) zao)))))
   (zac (ps_if (zaq ziv (pv 1) zbq (zas _))
   (zah (zal (zar (pa_N (pv 2) (pa_N (pv 3) (pa_B (pe_op zaF (pe_op zax (pv 4) zae) zae) zab))))))
   zaK)
   (zac (zbf (pC g_gone hr (pa_N (pv 2) (pa_N (pv 3) (pa_N (pv 1) zab)))) (za2 (by rfl) (zad (nG 5 zaU.nd) (zad (nG 6 zaU.nd) zao))))
   (zac (ps_if (zdF (pC g_is_slant hr (pa_N (pv 1) zab)))
   (zah (zal (zar (pa_N (pv 5) (pa_N (pv 6) (pa_B (pe_op zaF (pe_op zax (pv 4) zae) zae) zab))))))
   zaK)
   (zah (zal (zar (pa_N (pv 5) (pa_N (pv 6) (pa_N (pv 4) zab)))))))))),?_⟩
  refine⟨_,rfl,a,_,rfl,hq,rfl,_,_,rfl,_,_,rfl,_,_,rfl,rfl,?_⟩
  cases o with
  |none =>
   refine⟨_,rfl,rfl,true,rfl,iteT ?_⟩;refine⟨_,rfl,_,rfl,_,rfl,_,_,rfl,rfl,_,_,rfl,rfl,(by show (0:Int)<4;decide),three,λp hp=>k p _ hp (Same.up hp) ?_⟩;rw[zaa];have e1:((e.w:Int)+1) % 4=(((e.w+1) % 4:Nat):Int):=by lia
   show some (HO.tup [.int e.c.1,.int e.c.2,.int (((e.w:Int)+1) % 4)])=_;rw[e1];rfl
  |some n =>
   refine⟨_,rfl,rfl,false,rfl,iteF ?_⟩;refine⟨_,rfl,_,rfl,_,rfl,e.c,n,rfl,ho n rfl,λp1 H1 hp1 s1 f1=>?_⟩;refine⟨p1,_,rfl,SqT.of f1,rfl,_,_,rfl,_,_,rfl,rfl,?_⟩;refine⟨_,rfl,some n,rfl,_,rfl,?_⟩;refine ite2 (λhs=>?_) (λhs=>?_)
   .refine⟨_,rfl,_,rfl,_,rfl,_,_,rfl,rfl,_,_,rfl,rfl,(by show (0:Int)<4;decide),three,λp hp=>k p _ (s1.free hp) (s1.trans (Same.up hp)) ?_⟩;rw[zaa];have e1:((e.w:Int)+3) % 4=(((e.w+3) % 4:Nat):Int):=by lia
    have hn:n % 2=1:=by simpa[slant]using hs
    show some (HO.tup [.int (go e.c n).1,.int (go e.c n).2,.int (((e.w:Int)+3) % 4)])=_;rw[e1];unfold edgeB;simp only[if_pos hn];rfl
   .refine⟨_,rfl,_,rfl,_,rfl,three,λp hp=>k p _ (s1.free hp) (s1.trans (Same.up hp)) ?_⟩;rw[zaa];have hn:¬ n % 2=1:=by simpa[slant]using hs
    unfold edgeB;simp only[if_neg hn];rfl
noncomputable def KT(H H':Hp):Prop:=∀b xs,H b=some (.tup xs)->H' b=some (.tup xs)
theorem KT.refl(H:Hp):KT H H:=λ_ _ h=>h
theorem KT.trans{H H1 H2:Hp}(a:KT H H1)(b:KT H1 H2):KT H H2:=λc o h=>b c o (a c o h)
theorem KT.of{H H':Hp}(s:Same H H'):KT H H':=λb xs e=>s b _ e
theorem KT.up{H:Hp}{p:Addr}{o:HO}(h:H p=none):KT H (upd H p o):=KT.of (Same.up h)
theorem KT.lst{H:Hp}{p:Addr}{xs:List V}{o:HO}(h:H p=some (.lst xs)):KT H (upd H p o):=λb ys e=>by rw[zag (ne_of e h (λz=>nomatch z))];exact e
theorem KT.dct{H:Hp}{p:Addr}{xs:List (List Key×V)}{o:HO}(h:H p=some (.dT xs)):KT H (upd H p o):=λb ys e=>by rw[zag (ne_of e h (λz=>nomatch z))];exact e
theorem cR.kt{c:Cell}{v:V}{H H':Hp}(h:cR c v H)(s:KT H H'):cR c v H':=let ⟨b,e,q⟩:=h;⟨b,e,s _ _ q⟩
theorem eR.kt{c:Edge}{v:V}{H H':Hp}(h:eR c v H)(s:KT H H'):eR c v H':=let ⟨b,e,q⟩:=h;⟨b,e,s _ _ q⟩
theorem wR.kt{c:Edge×Option Nat}{v:V}{H H':Hp}(h:wR c v H)(s:KT H H'):wR c v H':=let ⟨A,b,e,q,r⟩:=h;⟨A,b,e,s _ _ q,s _ _ r⟩
noncomputable def VR{α:Type}(vs:List V)(l:List α)(R:α->V->Hp->Prop)(H:Hp):Prop:=vs.length=l.length/\∀(i:Nat) x v,l[i]?=some x->vs[i]?=some v->R x v H
theorem VR.nil{α:Type}{R:α->V->Hp->Prop}{H:Hp}:VR [] ([]:List α) R H:=⟨rfl,λi x v h=>by simp at h⟩
theorem VR.snoc{α:Type}{vs:List V}{l:List α}{R:α->V->Hp->Prop}{H H':Hp}{x:α}{v:V}(h:VR vs l R H)(m:∀x v,R x v H->R x v H')(hx:R x v H'):VR (vs++[v]) (l++[x]) R H':=by
 refine⟨by simp[h.1],λi y u h1 h2=>?_⟩;rcases AX i l.length with hi |hi
 .rw[AE hi]at h1;rw[AE (by rw[h.1];exact hi)]at h2;exact m _ _ (h.2 i y u h1 h2)
 .rw[AQ hi]at h1;rw[AQ (by rw[h.1];exact hi)]at h2
  have hz:i-l.length=0:=by have:=(Ad.mp h1).1;simp at this;lia
  rw[hz]at h1;rw[h.1,hz]at h2
  cases h1;cases h2
  exact hx
theorem VR.mono{α:Type}{vs:List V}{l:List α}{R:α->V->Hp->Prop}{H H':Hp}(h:VR vs l R H)(m:∀x v,R x v H->R x v H'):VR vs l R H':=⟨h.1,λi x v h1 h2=>m _ _ (h.2 i x v h1 h2)⟩
theorem VR.at{α:Type}{vs:List V}{l:List α}{R:α->V->Hp->Prop}{H:Hp}(h:VR vs l R H){i:Nat}{v:V}(hv:vs[i]?=some v):∃x,l[i]?=some x/\R x v H:=by
 have hi:i<l.length:=by rw[<- h.1];exact (Ad.mp hv).1
 exact⟨l[i],Aa hi,h.2 i _ v (Aa hi) hv⟩
theorem zam{H H2:Hp}{p:Addr}{o:HO}(hp:H p=none)(s:Same H H2):Same H (upd H2 p o):=λz u e=>by rw[zag (zaj e hp)];exact s z u e
theorem zhj(cs:List Cell)(c:Cell):sides (cs++[c])=sides cs++(AG 4).map λw=>⟨c,w⟩:=by unfold sides;simp[List.flatMap_append]
theorem zaS{α:Type}{l:List α}{i:Nat}{x:α}(h:l[i]?=some x):l.take (i+1)=l.take i++[x]:=by rw[Dt,h];rfl
theorem zcG{α:Type}(p:α->Bool)(l:List α)(x:α):(l++[x]).filter p=l.filter p++(if p x=true then [x] else []):=by rw[BU];congr 1;simp[List.filter_cons]
noncomputable def eI(e:Edge):List Int:=[e.c.1,e.c.2,(e.w:Int)]
theorem zi6{e f:Edge}:eI e=eI f ↔ e=f:=by
 constructor
 .intro h;obtain⟨⟨x,y⟩,w⟩:=e;obtain⟨⟨x',y'⟩,w'⟩:=f;unfold eI at h;injection h with h1 h2;injection h2 with h2 h3;injection h3 with h3 _;simp only at h1 h2 h3;have:w=w':=by lia
  subst h1 h2 this;rfl
 .rintro rfl;rfl
theorem zcU{K:W.Frag}{H:Hp}{b:Addr}{e:Edge}(h:H b=some (.tup (edgeT e))):RD K H (.ref b) (tI (eI e)):=.tup (SqT.of h) (RDs.ints (eI e))
theorem zeA{C:Cell->Bool}{e:Edge}(hw:e.w<4):∀s,stepB C e=some s->s<8:=by
 intro s h;unfold stepB at h;split at h
 .cases h;lia
 .split at h
  .cases h;lia
  .cases h
noncomputable def wk(C:Cell->Bool)(es:List Edge):List (Edge×Option Nat):=es.map λe=>(e,stepB C e)
theorem zb4(C:Cell->Bool)(es:List Edge):(wk C es).length=es.length:=by unfold wk;simp
noncomputable def ziK:Option HO->Nat
 |some (.lst ws)=>ws.length
 |_=>0
noncomputable abbrev Wk:=List (Edge×Option Nat)
noncomputable def nL(W:Wk):Nat:=(W.filter λq=>q.2.isNone).length
noncomputable def nS(W:Wk):Nat:=(W.filter λq=>slant q.2).length
theorem zkd(o:Option Nat):decide (sv o=V.non)=o.isNone:=by cases o <;> simp[sv]
theorem zbW{α:Type}{p:α->Bool}{l:List α}{i:Nat}{x:α}(h:l[i]?=some x):((l.take (i+1)).filter p)=(l.take i).filter p++(if p x=true then [x] else []):=by rw[zaS h,zcG]
theorem LR.vr{α:Type}{K:W.Frag}{H:Hp}{a:Addr}{l:List α}{R:α->V->Hp->Prop}(h:LR K H a l R):∃vs,SqL K H a vs/\VR vs l R H:=let ⟨vs,q,n,r⟩:=h;⟨vs,q,n,r⟩
theorem LR.of{α:Type}{K:W.Frag}{H:Hp}{a:Addr}{vs:List V}{l:List α}{R:α->V->Hp->Prop}(e:H a=some (.lst vs))(h:VR vs l R H):LR K H a l R:=⟨vs,SqL.of e,h.1,h.2⟩
noncomputable def zh1(K:W.Frag):Sp:=λvs H Q _=>∃(a:Addr) (W:Wk),vs=[.ref a]/\LR K H a W wR/\W.length<=500/\∀p H',H p=none->Same H H'->H' p=some (.tup [.int (nL W),.int (nS W)])->Q (.ref p) H'
theorem zcE (T:Txt P w K mg) (g_is_slant:Fn P w K mg base 1 "is_slant" ["step"] zcJ) (d:Df K mg "lefts_and_slants" zaH ["walk"]):FnOk P w K mg base CX0 2 d.f d.fd ["walk"] (zh1 K):=by
 refine d.F.ok za9 (λvs H Q E h=>?_) (λcdv A outer s H vs Q E hr h=>?_)
 .obtain⟨a,W,rfl,_⟩:=h;rfl
 .obtain⟨a,W,rfl,hLR,hlen,k⟩:=h;obtain⟨ws,hq,hv⟩:=hLR.vr;have nb0:(["edge","step"]:List Str).Nodup:=by decide +kernel
  have nb1:(["edge","step"]:List Str).Nodup:=by decide +kernel
  refine⟨_,(zac (sE 1 za9.nd (zaw zav (by rfl) T.nlen (by rfl) (zai (zaZ (osc:=zaf zaH) (N:=zbi) (N':=["edge","step"]) (sel:=[none,none]) bO (zaO (pv 0)) (λ_ _ _ _ _=>(zbA (K:=K) (n:=2) (by rfl) (zad (nG 0 nb0) (zad (nG 1 nb0) zao)))) (λ_ _ _ _ _=>zbs (zaq ziv (pv 1) zbq (zas _))) (λ_ _ _ _ _=>(pv 1))) zab)))
   (zac (sE 2 za9.nd (zaw zav (by rfl) T.nlen (by rfl) (zai (zaZ (osc:=zaf zaH) (N:=zbi) (N':=["edge","step"]) (sel:=[none,none]) bO (zaO (pv 0)) (λ_ _ _ _ _=>(zbA (K:=K) (n:=2) (by rfl) (zad (nG 0 nb1) (zad (nG 1 nb1) zao)))) (λ_ _ _ _ _=>zbs (zdF (pC g_is_slant hr (pa_N (pv 1) zab)))) (λ_ _ _ _ _=>(pv 1))) zab)))
   (zah (zal (zar (pa_N (pv 1) (pa_N (pv 2) zab))))))),?_⟩
  refine⟨_,rfl,a,rfl,⟨_,hq⟩,λp hp=>?_⟩
  refine zaA (K:=K) (a:=a) (xs:=ws) (λi σ H2=>∃o1 o2,σ=[o1,o2]/\Same H H2/\∃ss:List V,H2 p=some (.lst ss)/\ss.length=((W.take i).filter λq=>q.2.isNone).length)
   ⟨_,_,rfl,Same.up hp,[],zaa,rfl⟩ (λi σ H2 _ ⟨_,_,_,s2,_⟩=>s2.seq hq) ?_ ?_
  .rintro i v σ H2 hi ⟨o1,o2,rfl,s2,ss,e2,hl⟩;obtain⟨⟨e,st⟩,he,B,b,rfl,q1,q2⟩:=hv.at hi
   have hl2:ss.length<=1000:=by have:=AY (λq:Edge×Option Nat=>q.2.isNone) (W.take i);rw[A6]at this;lia
   refine⟨B,_,rfl,SqT.of (s2 _ _ q1),rfl,_,_,rfl,_,_,rfl,rfl,?_⟩;refine⟨_,rfl,rfl,_,rfl,?_⟩;rw[zkd];rw[zbW he]at *;refine ite2 (λhy=>?_) (λhn=>?_)
   .refine⟨_,rfl,ss,e2,zak hl2,_,_,rfl,zam hp s2,_,zaa,?_⟩;rw[if_pos hy,Ak,Ak,hl];rfl
   .exact⟨_,_,rfl,s2,ss,e2,by rw[if_neg hn,A0];exact hl⟩
  .rintro σ H2 ⟨o1,o2,rfl,s2,ss,e2,hl⟩;refine⟨p,_,rfl,.inl (SqL.of e2),?_⟩;refine⟨_,rfl,a,rfl,⟨_,s2.seq hq⟩,λp2 hp2=>?_⟩
   refine zaA (K:=K) (a:=a) (xs:=ws) (λi σ H3=>∃o1 o2,σ=[o1,o2]/\Same H2 H3/\∃s3:List V,H3 p2=some (.lst s3)/\s3.length=((W.take i).filter λq=>slant q.2).length)
    ⟨_,_,rfl,Same.up hp2,[],zaa,rfl⟩ (λi σ H3 _ ⟨_,_,_,s3,_⟩=>(s2.trans s3).seq hq) ?_ ?_
   .rintro i v σ H3 hi ⟨o1,o2,rfl,s3,ss3,e3,hl3⟩;obtain⟨⟨e,st⟩,he,B,b,rfl,q1,q2⟩:=hv.at hi
    have hl2:ss3.length<=1000:=by have:=AY (λq:Edge×Option Nat=>slant q.2) (W.take i);rw[A6]at this;lia
    refine⟨B,_,rfl,SqT.of ((s2.trans s3) _ _ q1),rfl,_,_,rfl,_,_,rfl,rfl,?_⟩;refine⟨_,rfl,st,rfl,_,rfl,?_⟩;rw[zbW he]at *;refine ite2 (λhy=>?_) (λhn=>?_)
    .refine⟨_,rfl,ss3,e3,zak hl2,_,_,rfl,zam hp2 s3,_,zaa,?_⟩;rw[if_pos hy,Ak,Ak,hl3];rfl
    .exact⟨_,_,rfl,s3,ss3,e3,by rw[if_neg hn,A0];exact hl3⟩
   .rintro σ H3 ⟨o1,o2,rfl,s3,ss3,e3,hl3⟩;refine⟨p2,_,rfl,.inl (SqL.of e3),?_⟩;refine⟨_,rfl,_,rfl,two,λp4 hp4=>k p4 _ (s2.free (s3.free hp4)) ((s2.trans s3).trans (Same.up hp4)) ?_⟩;rw[hv.1,AV]at hl hl3;rw[zaa,hl,hl3];rfl
noncomputable def zkh(K:W.Frag):Sp:=λvs H Q _=>∃(a:Addr) (W:Wk),vs=[.ref a]/\LR K H a W wR/\W.length<=500/\∀H',Same H H'->Q (.int ((nL W:Int)-nS W)) H'
theorem zcr (g_lefts_and_slants:Fn P w K mg base 2 "lefts_and_slants" ["walk"] (zh1 K)) (d:Df K mg "lefts_less_slants" zbb ["walk"]):FnOk P w K mg base CX0 3 d.f d.fd ["walk"] (zkh K):=by
 refine d.F.ok za5 (λvs H Q E h=>?_) (λcdv A outer s H vs Q E hr h=>?_)
 .obtain⟨a,W,rfl,_⟩:=h;rfl
 .obtain⟨a,W,rfl,hLR,hlen,k⟩:=h
  refine⟨_,(zac (zbf (pC g_lefts_and_slants hr (pa_N (pv 0) zab)) (za2 (by rfl) (zad (nG 1 za5.nd) (zad (nG 2 za5.nd) zao))))
   (zah (zal (pe_op zbt (pv 1) (pv 2))))),?_⟩
  refine⟨_,rfl,a,W,rfl,hLR,hlen,λp H1 hp s1 f1=>?_⟩;refine⟨p,_,rfl,SqT.of f1,rfl,_,_,rfl,_,_,rfl,rfl,?_⟩;exact⟨_,rfl,_,rfl,_,_,rfl,rfl,k H1 s1⟩
noncomputable def sortS (W:Wk):Str:=if nS W<nL W then "rim" else "hole"
noncomputable def kOf (s:Str):Nat:=if s = "rim" then 0 else 2
noncomputable def zb1(W:Wk)(s:Str)(e:Edge):Prop:=e∈W.map (·.1)/\e.w=kOf s/\∀f∈W.map (·.1),f.w=kOf s->HT.lexLt [f.c.2,f.c.1] [e.c.2,e.c.1]=false
noncomputable def zh7 (K:W.Frag):Sp:=λvs H Q _=>∃(a:Addr) (W:Wk) (s:Str),vs=[.ref a,.str s]/\(s = "rim" ∨ s = "hole")/\LR K H a W wR/\W.length<=500/\(∃e∈W.map (·.1),e.w=kOf s) /\
 ∀b e H',Same H H'->H' b=some (.tup (edgeT e))->zb1 W s e->Q (.ref b) H'
theorem zgp (T:Txt P w K mg) (g_cell_order:Fn P w K mg base 1 "cell_order" ["cell"] (zh0 K)) (d:Df K mg "begin_of" zcp ["walk","sort"]):FnOk P w K mg base CX0 3 d.f d.fd ["walk","sort"] (zh7 K):=by
  refine d.F.ok zge (λvs H Q E h=>?_) (λcdv A outer s H vs Q E hr h=>?_)
  . obtain⟨a,W,s,rfl,_⟩:=h;rfl
  . obtain⟨a,W,so,rfl,hso,hLR,hlen,hex,k⟩:=h;obtain⟨ws,hq,hv⟩:=hLR.vr;have nb0:(["edge","step","sort"]:List Str).Nodup:=by decide +kernel
    refine⟨_,(zah (zal (zkQ g_cell_order.ok (hr.mono (by decide)) g_cell_order.b (by rfl) T.nmin (by rfl) g_cell_order.m (zaZ (osc:=zaf zcp) (N:=zep) (N':=["edge","step","sort"]) (sel:=[none,none,some 1]) bO (zaO (pv 0)) (λ_ _ _ _ _=>(zbA (K:=K) (n:=2) (by rfl) (zad (nG 0 nb0) (zad (nG 1 nb0) zao)))) (λ_ _ _ _ _=>zbs (zaq op_eq (pe_ix (zci (K:=K)) (pv 0) zae (λ_ _=>rfl)) (ziq (by rfl) T.ways (pv 2)) (zas _))) (λ_ _ _ _ _=>(pv 0)))))),?_⟩;refine⟨_,rfl,a,rfl,⟨_,hq⟩,λp hp=>?_⟩
    refine zaA (K:=K) (a:=a) (xs:=ws) (λi σ H2=>∃o1 o2,σ=[o1,o2,some (.str so)]/\Same H H2/\∃es:List V,H2 p=some (.lst es)/\VR es (((W.take i).filter λq=>q.1.w == kOf so).map (·.1)) eR H2)
      ⟨_,_,rfl,Same.up hp,[],zaa,VR.nil⟩ (λi σ H2 _ ⟨_,_,_,s2,_⟩=>s2.seq hq) ?_ ?_
    . rintro i v σ H2 hi ⟨o1,o2,rfl,s2,es,e2,hl⟩;obtain⟨⟨e,st⟩,he,B,b,rfl,q1,q2⟩:=hv.at hi
      have hl2:es.length<=1000:=by have:=AY (λq:Edge×Option Nat=>q.1.w == kOf so) (W.take i);rw[hl.1,Ag];rw[A6]at this;lia
      have fin:∀kk:Int, kk=(kOf so:Int) -> (if decide (V.int (e.w:Int)=V.int kk)=true then zdt p (tVar 0) { nx := λσ H2 => ∃o1 o2, σ = [o1, o2, some (V.str so)] /\ Same H H2 /\ ∃es, H2 p=some (.lst es) /\ VR es (List.map (λx => x.fst) (List.filter (λq => q.1.w == kOf so) (List.take (i + 1) W))) eR H2, rt := λ_ _ => False } [some (.ref b), some (sv st), some (.str so)] H2
          else (∃o1 o2,[some (.ref b),some (sv st),some (V.str so)]=[o1,o2,some (V.str so)]/\Same H H2/\∃es,H2 p=some (.lst es)/\VR es (List.map (λx=>x.fst) (List.filter (λq=>q.1.w == kOf so) (List.take (i+1) W))) eR H2)):=λkk hk=>by
        have hd:decide (V.int (e.w:Int)=V.int kk)=(e.w == kOf so):=by
          subst hk
          by_cases q:e.w=kOf so
          . rw[q];simp
          . rw[decide_eq_false (λz=>q (by injection z with z;lia))];simp[q]
        rw[hd,zbW he];refine ite2 (λhy=>?_) (λhn=>?_)
        . refine⟨_,rfl,es,e2,zak hl2,_,_,rfl,zam hp s2,_,zaa,?_⟩;rw[if_pos hy,AA];have k2:KT H2 (upd H2 p (.lst (es++[.ref b]))):=KT.lst e2;exact hl.snoc (λx v hx=>hx.kt k2) ⟨b,rfl,k2 _ _ (s2 _ _ q2)⟩
        . exact⟨_,_,rfl,s2,es,e2,by rw[if_neg hn,A0];exact hl⟩
      refine⟨B,_,rfl,SqT.of (s2 _ _ q1),rfl,_,_,rfl,_,_,rfl,rfl,?_⟩;rcases hso with z |z
      . have f0:=fin 0 (by rw[z];rfl);exact⟨_,rfl,b,_,_,_,rfl,rfl,SqT.of (s2 _ _ q2),zat (j:=2) rfl,_,rfl,.inl ⟨by rw[z],rfl,_,rfl,f0⟩⟩
      . have f2:=fin 2 (by rw[z];rfl);exact⟨_,rfl,b,_,_,_,rfl,rfl,SqT.of (s2 _ _ q2),zat (j:=2) rfl,_,rfl,.inr ⟨by rw[z],rfl,_,rfl,f2⟩⟩
    . rintro σ H2 ⟨o1,o2,rfl,s2,es,e2,hl⟩;rw[hv.1,AV]at hl;obtain⟨L,hL⟩:∃L,L=((W.filter λq=>q.1.w == kOf so).map (·.1)):=⟨_,rfl⟩;rw[<- hL]at hl
      have memL:∀f,f∈L ↔ f∈W.map (·.1)/\f.w=kOf so:=λf=>by
        rw[hL];constructor
        . intro h;obtain⟨q,hq1,rfl⟩:=Ay.mp h;obtain⟨h1,h2⟩:=CZ.mp hq1;exact⟨Ay.mpr ⟨q,h1,rfl⟩,by simpa using h2⟩
        . rintro⟨h1,h2⟩;obtain⟨q,hq1,rfl⟩:=Ay.mp h1;exact Ay.mpr ⟨q,List.mem_filter.mpr ⟨hq1,by simpa using h2⟩,rfl⟩
      have hpos:0<es.length:=by obtain⟨f,h1,h2⟩:=hex;rw[hl.1];exact CW ((memL f).mpr ⟨h1,h2⟩)
      have kap:∀(i:Nat) e,L[i]?=some e->(λi=>(L[i]?.map λe:Edge=>[e.c.2,e.c.1]).getD []) i=[e.c.2,e.c.1]:=λi e h=>by simp only[h];rfl
      refine⟨p,es,λi=>(L[i]?.map λe:Edge=>[e.c.2,e.c.1]).getD [],rfl,SqL.of e2,hpos,λi x H3 hx s3=>?_,λi x H3 hx hle s3=>?_⟩
      . obtain⟨e,he,b,rfl,q⟩:=hl.at hx;refine⟨b,e.c.1,e.c.2,_,rfl,SqT.of (s3 _ _ q),λp4 H4 hp4 s4 f4=>⟨s4,p4,rfl,SqT.of ?_⟩⟩;rw[kap i e he];exact f4
      . obtain⟨e,he,b,rfl,q⟩:=hl.at hx;have hm:=(memL e).mp (Aj he);refine k b e H3 (s2.trans s3) (s3 _ _ q) ⟨hm.1,hm.2,λf h1 h2=>?_⟩;obtain⟨j,hj,ej⟩:=Au ((memL f).mpr ⟨h1,h2⟩);have hj':L[j]?=some f:=by rw[Aa hj,ej]
        have:=(hle j (by rw[hl.1];exact hj)).1;rw[kap j f hj',kap i e he]at this;exact this
theorem zic(n d j:Nat):HT.sIx n d (some (j:Int))=min j n:=by show (if (j:Int)<0 then ((j:Int)+(n:Int)).toNat else min (j:Int).toNat n)=min j n;rw[if_neg (by lia),Dj]
theorem zj2(xs:List V){j:Nat}(h:j<=xs.length):cutV xs (some (j:Int)) none=xs.drop j:=by unfold cutV;rw[zic,Nat.min_eq_left h];exact List.take_of_length_le (by rw[List.length_drop];exact Ai _)
theorem zl1(xs:List V){j:Nat}(h:j<=xs.length):cutV xs none (some (j:Int))=xs.take j:=by unfold cutV;rw[zic,Nat.min_eq_left h];rfl
structure Rnd where
 so:Str
 x:Int
 y:Int
 row:List Nat
 deriving DecidableEq
noncomputable def rowV(row:List Nat):List V:=row.map λn:Nat=>V.int (n:Int)
noncomputable def rR(r:Rnd)(v:V)(H:Hp):Prop:=∃a b,v=.ref a/\H a=some (.tup [.str r.so,.int r.x,.int r.y,.ref b])/\H b=some (.tup (rowV r.row))
theorem rR.kt{r:Rnd}{v:V}{H H':Hp}(h:rR r v H)(s:KT H H'):rR r v H':=let ⟨a,b,e,q1,q2⟩:=h;⟨a,b,e,s _ _ q1,s _ _ q2⟩
noncomputable def IsRnd(W:Wk)(r:Rnd):Prop:=r.so=sortS W/\∃(j:Nat) (e:Edge),(W.map (·.1))[j]?=some e/\zb1 W (sortS W) e/\r.x=e.c.1/\r.y=e.c.2/\r.row=(W.drop j++W.take j).filterMap (·.2)
theorem zeC (W:Wk):sortS W = "rim" ∨ sortS W = "hole":=by unfold sortS;split <;> simp
noncomputable def keyV (r:Rnd):List V:=[.int r.y,.int r.x,.bl (decide (V.str r.so=V.str "hole"))]
theorem VR.cons{α:Type}{v:V}{vs:List V}{x:α}{l:List α}{R:α->V->Hp->Prop}{H:Hp}:VR (v::vs) (x::l) R H ↔ R x v H/\VR vs l R H:=by
 constructor
 .intro h;exact⟨h.2 0 x v rfl rfl,by simpa using h.1,λi y u h1 h2=>h.2 (i+1) y u (by simpa using h1) (by simpa using h2)⟩
 .rintro⟨h1,h2⟩;refine⟨by simp[h2.1],λi y u e1 e2=>?_⟩
  match i,e1,e2 with
  | 0,e1,e2=>cases e1;cases e2;exact h1
  |i+1,e1,e2=>exact h2.2 i y u (by simpa using e1) (by simpa using e2)
noncomputable def kE(e:Edge):List Key:=[CT e.c.1,CT e.c.2,CT (e.w:Int)]
theorem zkr{e f:Edge}:kE e=kE f ↔ e=f:=by
 constructor
 .intro h;refine zi6.mp ?_
  unfold kE at h;injection h with h1 h2;injection h2 with h2 h3;injection h3 with h3 _;unfold eI;rw[Dk h1,Dk h2,Dk h3]
 .rintro rfl;rfl
theorem _root_.RP.Closed.back{C:Cell->Bool}{b x:Edge}{es:List Edge}(h:Closed C b es)(hx:IsE C x)(hm:nxt C x∈es):x∈es:=by
 obtain⟨⟨h0,hs,hE,hnd⟩,l,hl,hb⟩:=h;obtain⟨i,hi,ei⟩:=Au hm;have hlm:l∈es:=Aj hl;rcases Nat.eq_zero_or_pos i with rfl |hp
 .rw[Aa hi,ei]at h0;have e:=Bc h0;rw[<- hb]at e;rw[zdH hx (hE l hlm) e];exact hlm
 .have hi':i-1<es.length:=by lia
  have e1:=hs (i-1) es[i-1] (nxt C x) (Aa hi') (by rw[show i-1+1=i by lia,Aa hi,ei]);rw[zdH hx (hE _ (A7 hi')) e1];exact A7 hi'
theorem _root_.RP.Closed.apart{C:Cell->Bool}{b:Edge}{es done:List Edge}(h:Closed C b es)(hd:∀x,IsE C x->nxt C x∈done->x∈done)(hb:b ∉ done):∀e∈es,e ∉ done:=by
 obtain⟨⟨h0,hs,hE,hnd⟩,_⟩:=h
 have key:∀(i:Nat) e,es[i]?=some e->e ∉ done:=by
  intro i
  induction i with
  |zero=>intro e he;rw[he]at h0;cases h0;exact hb
  |succ i ih =>
   intro e he hm;have hi:i+1<es.length:=(Ad.mp he).1;have h1:es[i]?=some es[i]:=Aa (by lia)
   have hn:=hs i _ e h1 he;rw[hn]at hm;exact ih _ h1 (hd _ (hE _ (A7 _)) hm)
 intro e he;obtain⟨i,hi,ei⟩:=Au he;exact key i e (by rw[Aa hi,ei])
structure Part (C:Cell->Bool) (ESS:List (List Edge)) (R:List Rnd):Prop where
 len:R.length=ESS.length
 each:∀(i:Nat) es r,ESS[i]?=some es->R[i]?=some r->(∃b,Closed C b es)/\IsRnd (wk C es) r
 nd:ESS.flatten.Nodup
theorem Part.closed{C:Cell->Bool}{ESS:List (List Edge)}{R:List Rnd}(h:Part C ESS R):∀es∈ESS,∃b,Closed C b es:=λes he=>by
 obtain⟨i,hi,ei⟩:=Au he;have hr:i<R.length:=by rw[h.len];exact hi
 exact (h.each i es R[i] (by rw[Aa hi,ei]) (Aa hr)).1
theorem Part.isE{C:Cell->Bool}{ESS:List (List Edge)}{R:List Rnd}(h:Part C ESS R):∀e∈ESS.flatten,IsE C e:=λe he=>by obtain⟨es,h1,h2⟩:=Cj.mp he;obtain⟨b,hc⟩:=h.closed es h1;exact hc.1.2.2.1 e h2
theorem Part.back{C:Cell->Bool}{ESS:List (List Edge)}{R:List Rnd}(h:Part C ESS R):∀x,IsE C x->nxt C x∈ESS.flatten->x∈ESS.flatten:=λx hx hm=>by obtain⟨es,h1,h2⟩:=Cj.mp hm;obtain⟨b,hc⟩:=h.closed es h1;exact Cj.mpr ⟨es,h1,hc.back hx h2⟩
theorem Part.nil{C:Cell->Bool}:Part C [] []:=⟨rfl,λi es r h=>by simp at h,by simp⟩
theorem Part.snoc{C:Cell->Bool}{ESS:List (List Edge)}{R:List Rnd}{b:Edge}{es:List Edge}{r:Rnd}(h:Part C ESS R)(hc:Closed C b es)(hr:IsRnd (wk C es) r)(hb:b ∉ ESS.flatten):Part C (ESS++[es]) (R++[r]):=by
 refine⟨by simp[h.len],λi fs q h1 h2=>?_,?_⟩
 .rcases AX i ESS.length with hi |hi
  .rw[AE hi]at h1;rw[AE (by rw[h.len];exact hi)]at h2;exact h.each i fs q h1 h2
  .rw[AQ hi]at h1;rw[AQ (by rw[h.len];exact hi)]at h2
   have hz:i-ESS.length=0:=by have:=(Ad.mp h1).1;simp at this;lia
   rw[hz]at h1;rw[h.len,hz]at h2
   cases h1;cases h2
   exact⟨⟨b,hc⟩,hr⟩
 .have ap:=hc.apart h.back hb;rw[DC,CF];refine⟨h.nd,by simpa using hc.1.2.2.2,λx hx y hy e=>?_⟩;subst e;exact ap x (by simpa using hy) hx
theorem zdo{p:Edge->Bool}:∀(ESS:List (List Edge)),(∀es∈ESS,∃e∈es,p e=true)->ESS.length<=(ESS.flatten.filter p).length
 |[],_=>AZ _
 |es::r,h=>by
  have ih:=zdo r λes he=>h es (At _ he)
  obtain⟨e,he,hp⟩:=h es AC;rw[Bt,BU,Ak,A3];have:0<(es.filter p).length:=CW (List.mem_filter.mpr ⟨he,hp⟩);lia
theorem Part.few{cs:List Cell}{ESS:List (List Edge)}{R:List Rnd}(h:Part (isIn cs) ESS R):R.length<=cs.length:=by
 rw[h.len];refine AO (zdo (p:=λe=>e.w == 0) ESS λes he=>?_) ?_
 .obtain⟨b,hc⟩:=h.closed es he;obtain⟨e,h1,h2⟩:=hc.has (k:=0) (.inl rfl);exact⟨e,h1,by simpa using h2⟩
 .rw[<- Ag (f:=λc:Cell=>(⟨c,0⟩:Edge)) (as:=cs)];refine zap (List.Pairwise.filter _ h.nd) λe he=>?_
  obtain⟨h1,h2⟩:=CZ.mp he;have hE:=h.isE e h1;refine Ay.mpr ⟨e.c,of_decide_eq_true hE.2.1,?_⟩;obtain⟨c,w⟩:=e;simp only at h2 ⊢;have:w=0:=by simpa using h2
  rw[this]
theorem Part.small{cs:List Cell}{ESS:List (List Edge)}{R:List Rnd}(h:Part (isIn cs) ESS R):ESS.flatten.length<=4*cs.length:=by rw[<- zb5];exact zap h.nd λe he=>zdJ.mpr ⟨of_decide_eq_true (h.isE e he).2.1,(h.isE e he).1⟩
noncomputable def keyI (r:Rnd):List Int:=[r.y,r.x,PyProof.Rows.b2i (decide (V.str r.so=V.str "hole"))]
noncomputable def Slim(cs:List Cell):Prop:=∀ESS R,Part (isIn cs) ESS R->R.length<=63
noncomputable def Whole(cs:List Cell)(R:List Rnd):Prop:=∃ESS,Part (isIn cs) ESS R/\∀e,e∈ESS.flatten ↔ IsE (isIn cs) e
noncomputable def Boxed(m:Nat)(cs:List Cell):Prop:=∃(x y:Int) (w h:Nat),w*h<=m/\∀c∈cs,x<=c.1/\c.1<x+w/\y<=c.2/\c.2<y+h
theorem Boxed.slim{m:Nat}{cs:List Cell}(hb:Boxed m cs)(hm:m<=120):Slim cs:=by
 intro ESS R hP;obtain⟨x,y,w,h,hwh,hbx⟩:=hb;have isE:=hP.isE;rw[hP.len];rcases box63 (AO hwh hm) with b |b
 .refine AO (zdo (p:=λe=>e.w == 0) ESS λes he=>?_) (AO ?_ b)
  .obtain⟨b,hc⟩:=hP.closed es he;obtain⟨e,h1,h2⟩:=hc.has (k:=0) (.inl rfl);exact⟨e,h1,by simpa using h2⟩
  .rw[<- zdL,<- Ag (f:=λe:Edge=>((e.c.1-x).toNat,(e.c.2-y).toNat / 2))]
   have key:∀e∈ESS.flatten.filter (λe=>e.w == 0),e.w=0/\e.c∈cs/\(e.c.1,e.c.2-1) ∉ cs:=λe he=>by
    obtain⟨h1,h2⟩:=CZ.mp he;have hw:e.w=0:=by simpa using h2
    obtain⟨_,h3,h4⟩:=isE e h1;refine⟨hw,of_decide_eq_true h3,λz=>?_⟩
    have eg:gap e=(e.c.1,e.c.2-1):=by unfold gap;rw[hw];show (e.c.1+0,e.c.2+-1)=_;rw[Int.add_zero];rfl
    rw[eg]at h4;exact absurd (decide_eq_true z) (by rw[show decide ((e.c.1,e.c.2-1)∈cs)=false from h4];simp)
   refine zap (zfF (List.Pairwise.filter _ hP.nd) λa ha c hc e=>?_) λp hp=>?_
   .obtain⟨wa,ma,ga⟩:=key a ha;obtain⟨wc,mc,gc⟩:=key c hc;have ba:=hbx _ ma;have bc:=hbx _ mc;injection e with e1 e2;have ex:a.c.1=c.c.1:=by lia
    have ey:a.c.2=c.c.2∨a.c.2=c.c.2-1∨c.c.2=a.c.2-1:=by lia
    obtain⟨⟨ax,ay⟩,aw⟩:=a;obtain⟨⟨cx,cy⟩,cw⟩:=c;simp only at ex ey wa wc ga gc ma mc;subst ex wa wc;rcases ey with z |z |z
    .rw[z]
    .rw[z]at ma;exact absurd ma gc
    .rw[z]at mc;exact absurd mc ga
   .obtain⟨e,he,rfl⟩:=Ay.mp hp;obtain⟨_,me,_⟩:=key e he;have:=hbx _ me;exact zgW.mpr ⟨by show (e.c.1-x).toNat<w;lia,by show (e.c.2-y).toNat / 2<(h+1) / 2;lia⟩
 .refine AO (zdo (p:=λe=>e.w == 1) ESS λes he=>?_) (AO ?_ b)
  .obtain⟨b,hc⟩:=hP.closed es he;obtain⟨e,h1,h2⟩:=hc.has1;exact⟨e,h1,by simpa using h2⟩
  .rw[<- zdL,<- Ag (f:=λe:Edge=>((e.c.2-y).toNat,(e.c.1-x).toNat / 2))]
   have key:∀e∈ESS.flatten.filter (λe=>e.w == 1),e.w=1/\e.c∈cs/\(e.c.1+1,e.c.2) ∉ cs:=λe he=>by
    obtain⟨h1,h2⟩:=CZ.mp he;have hw:e.w=1:=by simpa using h2
    obtain⟨_,h3,h4⟩:=isE e h1;refine⟨hw,of_decide_eq_true h3,λz=>?_⟩
    have eg:gap e=(e.c.1+1,e.c.2):=by unfold gap;rw[hw];show (e.c.1+1,e.c.2+0)=_;rw[Int.add_zero]
    rw[eg]at h4;exact absurd (decide_eq_true z) (by rw[show decide ((e.c.1+1,e.c.2)∈cs)=false from h4];simp)
   refine zap (zfF (List.Pairwise.filter _ hP.nd) λa ha c hc e=>?_) λp hp=>?_
   .obtain⟨wa,ma,ga⟩:=key a ha;obtain⟨wc,mc,gc⟩:=key c hc;have ba:=hbx _ ma;have bc:=hbx _ mc;injection e with e1 e2;have ex:a.c.2=c.c.2:=by lia
    have ey:a.c.1=c.c.1∨a.c.1=c.c.1+1∨c.c.1=a.c.1+1:=by lia
    obtain⟨⟨ax,ay⟩,aw⟩:=a;obtain⟨⟨cx,cy⟩,cw⟩:=c;simp only at ex ey wa wc ga gc ma mc;subst ex wa wc;rcases ey with z |z |z
    .rw[z]
    .rw[z]at ma;exact absurd ma gc
    .rw[z]at mc;exact absurd mc ga
   .obtain⟨e,he,rfl⟩:=Ay.mp hp;obtain⟨_,me,_⟩:=key e he;have:=hbx _ me;exact zgW.mpr ⟨by show (e.c.2-y).toNat<h;lia,by show (e.c.1-x).toNat / 2<(w+1) / 2;lia⟩
theorem zjB{α:Type}(l:List α)(j:Nat):(l.drop j++l.take j).Perm l:=by have:=List.perm_append_comm (l₁:=l.drop j) (l₂:=l.take j);rw[List.take_append_drop]at this;exact this
theorem zcs{C:Cell->Bool}(es:List Edge):(wk C es).map (·.1)=es:=by unfold wk;rw[List.map_map];exact List.map_id' _
theorem zhi{C:Cell->Bool}{es fs:List Edge}(p:es.Perm fs):sortS (wk C es)=sortS (wk C fs):=by have q:(wk C es).Perm (wk C fs):=p.map _;unfold sortS nL nS;have a:=(q.filter λq=>q.2.isNone).length_eq;have b:=(q.filter λq=>slant q.2).length_eq;rw[a,b]
theorem lex2{a b c d:Int}(h1:HT.lexLt [a,b] [c,d]=false)(h2:HT.lexLt [c,d] [a,b]=false):a=c/\b=d:=by have:=HT.lexLt_total h1 h2;simpa using this
theorem zb1.one{W W':Wk}{s:Str}{e f:Edge}(p:(W.map (·.1)).Perm (W'.map (·.1)))(h:zb1 W s e)(k:zb1 W' s f):e=f:=by obtain⟨h1,h2,h3⟩:=h;obtain⟨k1,k2,k3⟩:=k;have a:=h3 f (p.mem_iff.mpr k1) k2;have b:=k3 e (p.mem_iff.mp h1) h2;obtain⟨q1,q2⟩:=lex2 a b;obtain⟨⟨x,y⟩,w⟩:=e;obtain⟨⟨x',y'⟩,w'⟩:=f;simp only at q1 q2 h2 k2;rw[h2,k2,q1,q2]
noncomputable def begE(r:Rnd):Edge:=⟨(r.x,r.y),kOf r.so⟩
theorem IsRnd.beg {C:Cell->Bool}{es:List Edge}{r:Rnd}(h:IsRnd (wk C es) r):begE r∈es/\(r.so = "rim" ∨ r.so = "hole"):=by
 obtain⟨r0,i,f,rf,⟨rb,rw',_⟩,rx,ry,rr⟩:=h;rw[zcs]at rb;refine⟨?_,by rw[r0];exact zeC _⟩
 have:begE r=f:=by obtain⟨⟨x,y⟩,w⟩:=f;unfold begE;rw[rx,ry,r0];simp only at rw' ⊢;rw[rw']
 rw[this];exact rb
theorem Part.got{C:Cell->Bool}{ESS:List (List Edge)}{R:List Rnd}(h:Part C ESS R){i:Nat}{r:Rnd}(hr:R[i]?=some r):∃es b,ESS[i]?=some es/\Closed C b es/\IsRnd (wk C es) r:=by have hi:=(Ad.mp hr).1;rw[h.len]at hi;obtain⟨⟨b,hb⟩,q⟩:=h.each i _ r (Aa hi) hr;exact⟨_,b,Aa hi,hb,q⟩
theorem zjV{α:Type}{L:List (List α)}(h:L.flatten.Nodup):∀{i j:Nat}{a b:List α}{x:α},L[i]?=some a->L[j]?=some b->x∈a->x∈b->i=j:=by
 induction L with
 |nil=>intro i j a b x h1;simp at h1
 |cons l r ih =>
  rw[Bt,CF]at h;obtain⟨_,h2,h3⟩:=h;intro i j a b x h1 h4 xa xb
  cases i with
  |zero =>
   cases j with
   |zero=>rfl
   |succ j =>
    simp only[List.getElem?_cons_zero,Option.some.injEq,CS]at h1 h4;subst h1;exact absurd rfl (h3 x xa x (Cj.mpr ⟨b,Aj h4,xb⟩))
  |succ i =>
   cases j with
   |zero =>
    simp only[List.getElem?_cons_zero,Option.some.injEq,CS]at h1 h4;subst h4;exact absurd rfl (h3 x xb x (Cj.mpr ⟨a,Aj h1,xa⟩))
   |succ j =>
    have:=ih h2 (i:=i) (j:=j) (by simpa using h1) (by simpa using h4) xa xb;rw[this]
theorem Part.so {C:Cell->Bool}{ESS:List (List Edge)}{R:List Rnd}(h:Part C ESS R){r:Rnd}(hr:r∈R):r.so = "rim" ∨ r.so = "hole":=by obtain⟨i,hi,ei⟩:=Au hr;obtain⟨es,b,h1,h2,h3⟩:=h.got (by rw[Aa hi,ei]);exact h3.beg.2
theorem zg9(s:Nat):∀(l:List Nat) (w:Nat),dgo w (l++[s])=((dgo w l).1++(As ((zbc s+4-(dgo w l).2) % 4) none++[some s]),wayB s)
 |[],w=>by simp[dgo]
 |a::l,w=>by
  have ih:=zg9 s l (wayB a);show (As ((zbc a+4-w) % 4) none++some a::(dgo (wayB a) (l++[s])).1,(dgo (wayB a) (l++[s])).2)=_;rw[ih];show _=((As ((zbc a+4-w) % 4) none++some a::(dgo (wayB a) l).1)++_,_);simp;rfl
theorem ze2:∀(l:List Nat) (w:Nat),(dgo w l).1.length<=4*l.length
 |[],w=>by simp[dgo]
 |a::l,w=>by
  have ih:=ze2 l (wayB a);show (As ((zbc a+4-w) % 4) none++some a::(dgo (wayB a) l).1).length<=_;have:(zbc a+4-w) % 4<4:=BA _ (by decide);simp only[Ak,Cf,A3];lia
theorem zgu:∀(l:List Nat) (w:Nat),w<4->(dgo w l).2<4
 |[],w,h=>h
 |a::l,w,h=>zgu l (wayB a) (BA _ (by decide))
theorem zhI(s:Nat):zbc s<4:=BA _ (by decide)
theorem zg5(n:Nat):(As n [V.non]).flatten=(As n (none:Option Nat)).map sv:=by
 induction n with
 |zero=>rfl
 |succ n ih=>rw[Cs,Bt,ih];rfl
theorem zbd{n:Nat}(h:n<=5000):n<sizeLine:=DN h (by decide)
theorem zko:1<=sizeLine:=by decide
noncomputable def zfo:Sp:=λvs H Q _=>∃(v:V) (r:Rnd),vs=[v]/\rR r v H/\(r.so = "rim" ∨ r.so = "hole")/\∀p H',H p=none->Same H H'->H' p=some (.tup (edgeT (begE r)))->Q (.ref p) H'
theorem zeX (T:Txt P w K mg) (d:Df K mg "begin_edge" zcc ["one"]):FnOk P w K mg base CX0 1 d.f d.fd ["one"] zfo:=by
 refine d.F.ok zbh (λvs H Q E h=>?_) (λcdv A outer s H vs Q E hr h=>?_)
 .obtain⟨v,r,rfl,_⟩:=h;rfl
 .obtain⟨v,r,rfl,⟨a,b,rfl,q1,q2⟩,hso,k⟩:=h
  refine⟨_,(zac (zbf (pv 0) (za2 (by rfl) (zad (nG 1 zbh.nd) (zad (nG 2 zbh.nd) (zad (nG 3 zbh.nd) (zad (nG 4 zbh.nd) zao))))))
   (zah (zal (zar (pa_N (pv 2) (pa_N (pv 3) (zai (ziq (by rfl) T.ways (pv 1)) zab))))))),?_⟩
  refine⟨_,rfl,a,_,rfl,SqT.of q1,rfl,_,_,rfl,_,_,rfl,_,_,rfl,_,_,rfl,rfl,?_⟩;refine⟨_,rfl,_,rfl,_,rfl,?_⟩;rcases hso with e |e
  .refine .inl ⟨by rw[e],three,λp hp=>k p _ hp (Same.up hp) ?_⟩;rw[zaa];unfold begE edgeT kOf;simp only[e];rfl
  .refine .inr ⟨by rw[e],three,λp hp=>k p _ hp (Same.up hp) ?_⟩;rw[zaa];unfold begE edgeT kOf;simp only[e];rfl
noncomputable def zgF:Sp:=λvs H Q _=>∃s:Nat,vs=[.int s]/\Q (.int (zbc s:Nat)) H
theorem zho (d:Df K mg "way_for" zdA ["step"]):FnOk P w K mg base CX0 1 d.f d.fd ["step"] zgF:=by
 refine d.F.ok zhk (λvs H Q E h=>?_) (λcdv A outer s H vs Q E hr h=>?_)
 .obtain⟨s,rfl,_⟩:=h;rfl
 .obtain⟨t,rfl,k⟩:=h;refine⟨_,(zah (zal (pe_op zaF (pe_op zgi (pe_op zax (pv 0) zae) zae) zae))),?_⟩;refine⟨_,rfl,_,_,rfl,rfl,_,_,rfl,rfl,⟨by decide,by decide⟩,_,_,rfl,rfl,(by show (0:Int)<4;decide),?_⟩;have e:((t:Int)+1) / 2 % 4=(zbc t:Nat):=by unfold zbc;lia
  show Q (V.int (((t:Int)+1) / 2 % 4)) H;rw[e];exact k
noncomputable def zh5(K:W.Frag):Sp:=λvs H Q _=>∃(wn:Nat) (b:Addr) (row:List Nat),vs=[.int (wn:Int),.ref b]/\wn<4/\SqT K H b (rowV row)/\row.length<=500 /\
 ∀p H',H p=none->Same H H'->H' p=some (.lst ((deeds wn row).map sv))->Q (.ref p) H'
theorem zd2 (g_way_for:Fn P w K mg base 1 "way_for" ["step"] zgF) (d:Df K mg "deeds_along" zbQ ["begin_way","row"]):FnOk P w K mg base CX0 2 d.f d.fd ["begin_way","row"] (zh5 K):=by
 refine d.F.ok zaV (λvs H Q E h=>?_) (λcdv A outer s H vs Q E hr h=>?_)
 .obtain⟨wn,b,row,rfl,_⟩:=h;rfl
 .obtain⟨wn,b,row,rfl,hw,hq,hlen,k⟩:=h
  refine⟨_,(zac (sE 2 zaV.nd (pv 0))
   (zac (sE 3 zaV.nd (zaY zab))
   (zac (zbo A5 rfl (zlC (pv 1)) (nG 4 zaV.nd)
   (zac (za1 (pe_bm AD DG DH zdI (pv 3) (pa_B (pe_op zkm (zaY (pa_C zbq zab)) (pe_op zaF (pe_op zbt (pC g_way_for hr (pa_N (pv 4) zab)) (pv 2)) zae)) zab)))
   (zac (za1 (pe_bm AD AL AM zaE (pv 3) (pa_N (pv 4) zab)))
   (zah (sE 2 zaV.nd (pe_op zaF (pe_op zbt (pC g_way_for hr (pa_N (pv 4) zab)) (pe_op zaF (pv 4) zae)) zae))))))
   (zac (sE 5 zaV.nd (zjK (zjG (pv 1) (λ_=>rfl)) (pe_op zaF (pe_op zbt (pv 0) (pv 2)) zae) zae))
   (zah (zal (pe_op zgS (pv 3) (pe_op zkm (zaY (pa_C zbq zab)) (pv 5))))))))),?_⟩
  refine⟨_,rfl,(by show 0<=sizeLine;decide),λp hp=>?_⟩;have s0:Same H (upd H p (.lst [])):=Same.up hp;have e0:upd H p (.lst []) p=some (.lst []):=zaa;generalize upd H p (.lst [])=H0 at s0 e0;refine⟨_,rfl,b,rfl,⟨_,s0.seqT hq⟩,?_⟩;have hrl:(rowV row).length=row.length:=by unfold rowV;exact Ag _
  refine zk7 (K:=K) (a:=b) (xs:=rowV row) (λi σ H1=>∃o4 o5,σ=[some (.int (wn:Int)),some (.ref b),some (.int ((dgo wn (row.take i)).2:Nat)),some (.ref p),o4,o5]/\Same H H1/\H1 p=some (.lst ((dgo wn (row.take i)).1.map sv)))
   ⟨_,_,rfl,s0,e0⟩ (λi σ H1 _ ⟨_,_,_,s1,_⟩=>s1.seqT hq) ?_ ?_
  .rintro i v σ H1 hi ⟨o4,o5,rfl,s1,e1⟩;have hi':i<row.length:=by rw[<- hrl];exact (Ad.mp hi).1
   unfold rowV at hi;rw[Az,Aa hi']at hi
   cases hi
   have hdl:=ze2 (row.take i) wn;rw[A6]at hdl;have hdw:=zgu (row.take i) wn hw;have hwf:=zhI row[i];have hn:=zg9 row[i] (row.take i) wn;rw[<- zaS (Aa hi')]at hn;refine⟨_,rfl,.inl ⟨rfl,_,SqL.of e1⟩,zko,λl hl=>?_⟩;have s2:Same H1 (upd H1 l (.lst [.non])):=Same.up hl;have e2:upd H1 l (.lst [.non]) l=some (.lst [.non]):=zaa;generalize upd H1 l (.lst [.non])=H2 at s2 e2;refine⟨_,rfl,row[i],rfl,?_⟩;refine⟨_,rfl,_,_,rfl,rfl,_,_,rfl,rfl,(by show (0:Int)<4;decide),?_⟩;have ek:(((zbc row[i]:Nat):Int)-((dgo wn (row.take i)).2:Nat)) % 4=(((zbc row[i]+4-(dgo wn (row.take i)).2) % 4:Nat):Int):=by lia
   have k4:(zbc row[i]+4-(dgo wn (row.take i)).2) % 4<4:=BA _ (by decide);generalize hk:(zbc row[i]+4-(dgo wn (row.take i)).2) % 4=kk at *;refine⟨l,(kk:Int),_,rfl,congrArg V.int ek,e2,by lia,by lia,(Bj (zak (by simp;lia))),λq hq'=>?_⟩;rw[Dj,zg5];have s3:Same H2 (upd H2 q (.lst ((As kk (none:Option Nat)).map sv))):=Same.up hq';have e3:upd H2 q (.lst ((As kk (none:Option Nat)).map sv)) q=some (.lst ((As kk (none:Option Nat)).map sv)):=zaa;have hpq:p≠q:=λz=>by subst z;rw[s2 _ _ e1]at hq';cases hq'
   generalize upd H2 q (.lst ((As kk (none:Option Nat)).map sv))=H3 at s3 e3;have e13:=s3 _ _ (s2 _ _ e1);refine⟨p,q,_,_,rfl,rfl,e13,e3,?_,?_⟩
   .simp only[Ag,Cf];exact Bj (zbd (by lia))
   have hp2:H p=none:=hp;have s4:Same H (upd H3 p (.lst ((dgo wn (row.take i)).1.map sv++(As kk (none:Option Nat)).map sv))):=zam hp2 (s1.trans (s2.trans s3));have e4:upd H3 p (.lst ((dgo wn (row.take i)).1.map sv++(As kk (none:Option Nat)).map sv)) p=some (.lst ((dgo wn (row.take i)).1.map sv++(As kk (none:Option Nat)).map sv)):=zaa;generalize upd H3 p (.lst ((dgo wn (row.take i)).1.map sv++(As kk (none:Option Nat)).map sv))=H4 at s4 e4;refine⟨_,rfl,.inl ⟨rfl,_,SqL.of e4⟩,_,rfl,p,_,_,rfl,rfl,e4,?_,?_⟩
   .simp only[Ak,Ag,Cf];exact zbd (by lia)
   have s5:Same H (upd H4 p (.lst (((dgo wn (row.take i)).1.map sv++(As kk (none:Option Nat)).map sv)++[V.int (row[i]:Nat)]))):=zam hp2 s4
   have e5:upd H4 p (.lst (((dgo wn (row.take i)).1.map sv++(As kk (none:Option Nat)).map sv)++[V.int (row[i]:Nat)])) p=some (.lst ((dgo wn (row.take (i+1))).1.map sv)):=by rw[zaa,hn];simp[sv]
   generalize upd H4 p (.lst (((dgo wn (row.take i)).1.map sv++(As kk (none:Option Nat)).map sv)++[V.int (row[i]:Nat)]))=H5 at s5 e5;refine⟨_,rfl,row[i],rfl,?_⟩;refine⟨_,rfl,_,_,rfl,rfl,(by show (0:Int)<2;decide),_,_,rfl,rfl,_,_,rfl,rfl,(by show (0:Int)<4;decide),?_⟩
   have ew:(((zbc row[i]:Nat):Int)-(row[i]:Int) % 2) % 4=((dgo wn (row.take (i+1))).2:Nat):=by rw[hn];show _=((wayB row[i]:Nat):Int);unfold wayB;lia
   refine⟨some (V.int (row[i]:Nat)),o5,?_,s5,e5⟩;exact congrArg (λz:Int=>[some (V.int (wn:Int)),some (V.ref b),some (V.int z),some (V.ref p),some (V.int (row[i]:Nat)),o5]) ew
  .rintro σ H1 ⟨o4,o5,rfl,s1,e1⟩;rw[hrl,AV]at e1;rw[hrl,AV];have hdl:=ze2 row wn;have hdw:=zgu row wn hw
   have fin:∀z:Int,z=(zaI wn row:Nat)->tRet (tOp rCat (tVar 3) (tOp rRep (tLst (tCons (tC .non) tNil)) (tVar 5))) { nx:=λ_ H'=>Q .non H',rt:=Q } [some (.int (wn:Int)),some (.ref b),some (.int ((dgo wn row).2:Nat)),some (.ref p),o4,some (.int z)] H1:=λz hz=>by
    have hll:zaI wn row<=4:=by
     unfold zaI;split
     .decide
     .exact Bj (BA _ (by decide))
    refine⟨_,rfl,zko,λl hl=>?_⟩;have s2:Same H1 (upd H1 l (.lst [.non])):=Same.up hl;have e2:upd H1 l (.lst [.non]) l=some (.lst [.non]):=zaa;generalize upd H1 l (.lst [.non])=H2 at s2 e2;subst hz;refine⟨_,rfl,l,_,_,rfl,rfl,e2,by lia,by lia,(Bj (zak (by simp;lia))),λq hq'=>?_⟩;rw[Dj,zg5];have s3:Same H2 (upd H2 q (.lst ((As (zaI wn row) (none:Option Nat)).map sv))):=Same.up hq';have e3:upd H2 q (.lst ((As (zaI wn row) (none:Option Nat)).map sv)) q=some (.lst ((As (zaI wn row) (none:Option Nat)).map sv)):=zaa;generalize upd H2 q (.lst ((As (zaI wn row) (none:Option Nat)).map sv))=H3 at s3 e3;refine⟨p,q,_,_,rfl,rfl,s3 _ _ (s2 _ _ e1),e3,?_,λx hx=>?_⟩
    .simp only[Ag,Cf];exact Bj (zbd (by lia))
    .have s13:=s1.trans (s2.trans s3);refine k x _ (s13.free hx) (s13.trans (Same.up hx)) ?_
     rw[zaa];unfold deeds;rw[AA]
   refine⟨_,rfl,_,.inr (.inl ⟨_,s1.seqT hq,rfl⟩),?_⟩
   by_cases he:row=[]
   .exact iteN (by rw[he];rfl) (fin 4 (by rw[he];rfl))
   .refine iteY (by cases row with |nil=>exact absurd rfl he |cons x r=>rfl) ⟨_,rfl,_,rfl,_,_,rfl,rfl,_,_,rfl,rfl,(by show (0:Int)<4;decide),fin _ ?_⟩
    have hl:zaI wn row=(wn+4-(dgo wn row).2) % 4:=by unfold zaI;rw[if_neg (by simpa using he)]
    rw[hl];lia
noncomputable def wby:Edge->List (Option Nat)->List (Edge×Option Nat)
 |_,[]=>[]
 |e,d::r=>(e,d)::wby (edgeB e d) r
noncomputable def eAt:Edge->List (Option Nat)->Edge
 |e,[]=>e
 |e,d::r=>eAt (edgeB e d) r
theorem zg7(d:Option Nat):∀(l:List (Option Nat)) (e:Edge),eAt e (l++[d])=edgeB (eAt e l) d
 |[],_=>rfl
 |_::l,e=>zg7 d l _
theorem zgz(d:Option Nat):∀(l:List (Option Nat)) (e:Edge),wby e (l++[d])=wby e l++[(eAt e l,d)]
 |[],_=>rfl
 |a::l,e=>by
  show (e,a)::wby (edgeB e a) (l++[d])=_;rw[zgz d l];rfl
theorem zd8:∀(l:List (Option Nat)) (e:Edge),(wby e l).length=l.length
 |[],_=>rfl
 |a::l,e=>by show (wby (edgeB e a) l).length+1=_;rw[zd8 l];rfl
theorem zjY{e:Edge}{o:Option Nat}(h:e.w<4):(edgeB e o).w<4:=by
 unfold edgeB
 cases o with
 |none=>exact BA _ (by decide)
 |some s=>simp only;split <;> simp only <;> lia
theorem zkt:∀(l:List (Option Nat)){e:Edge},e.w<4->(eAt e l).w<4
 |[],_,h=>h
 |_::l,_,h=>zkt l (zjY h)
theorem zfg{C:Cell->Bool}:∀(es:List Edge){b:Edge},es[0]?=some b∨es=[]->(∀i e f,es[i]?=some e->es[i+1]?=some f->f=nxt C e)->wby b (es.map (stepB C))=wk C es
 |[],_,_,_=>rfl
 |e::r,b,h0,hs=>by
  have hb:e=b:=by rcases h0 with h |h;simpa using h;cases h
  subst hb;show (e,stepB C e)::wby (nxt C e) (r.map (stepB C))=(e,stepB C e)::wk C r;rw[zfg r (b:=nxt C e) ?_ λi x y h1 h2=>hs (i+1) x y (by simpa using h1) (by simpa using h2)]
  cases r with
  |nil=>exact .inr rfl
  |cons f r=>exact .inl (by have:=hs 0 e f rfl rfl;rw[<- this];rfl)
noncomputable def zgI(K:W.Frag):Sp:=λvs H Q _=>∃(a l:Addr) (b:Edge) (ds:List (Option Nat)),vs=[.ref a,.ref l]/\H a=some (.tup (edgeT b))/\b.w<4/\H l=some (.lst (ds.map sv))/\(∀s,some s∈ds->s<8)/\ds.length<=3000 /\
 ∀p H' ws,H p=none->Same H H'->H' p=some (.lst ws)->VR ws (wby b ds) wR H'->Q (.ref p) H'
theorem zhq (g_edge_behind:Fn P w K mg base 2 "edge_behind" ["edge","step"] (zeB K)) (d:Df K mg "walk_by" zdC ["begin","deeds"]):FnOk P w K mg base CX0 3 d.f d.fd ["begin","deeds"] (zgI K):=by
 refine d.F.ok zbJ (λvs H Q E h=>?_) (λcdv A outer s H vs Q E hr h=>?_)
 .obtain⟨a,l,b,ds,rfl,_⟩:=h;rfl
 .obtain⟨a,l,b,ds,rfl,ha,hb,hl,h8,hlen,k⟩:=h
  refine⟨_,(zac (sE 2 zbJ.nd (zaY zab))
   (zac (sE 3 zbJ.nd (pv 0))
   (zac (zbo A5 rfl (zaO (pv 1)) (nG 4 zbJ.nd)
   (zac (za1 (pe_bm AD AL AM zaE (pv 2) (pa_T (zar (pa_N (pv 3) (pa_N (pv 4) zab))) zab)))
   (zah (sE 3 zbJ.nd (pC g_edge_behind hr (pa_N (pv 3) (pa_N (pv 4) zab)))))))
   (zah (zal (pv 2)))))),?_⟩
  refine⟨(by show 0<=sizeLine;decide),λp hp=>?_⟩;have s0:Same H (upd H p (.lst [])):=Same.up hp;have e0:upd H p (.lst []) p=some (.lst []):=zaa;generalize upd H p (.lst [])=H0 at s0 e0;refine⟨_,rfl,_,rfl,l,rfl,⟨_,SqL.of (s0 _ _ hl)⟩,?_⟩
  refine zaA (K:=K) (a:=l) (xs:=ds.map sv) (λi σ H1=>∃(c:Addr) (o4:Option V) (ws:List V),σ=[some (.ref a),some (.ref l),some (.ref p),some (.ref c),o4]/\Same H H1/\H1 c=some (.tup (edgeT (eAt b (ds.take i))))/\H1 p=some (.lst ws)/\VR ws (wby b (ds.take i)) wR H1)
   ⟨a,_,[],rfl,s0,s0 _ _ ha,e0,VR.nil⟩ (λi σ H1 _ ⟨_,_,_,_,s1,_⟩=>SqL.of (s1 _ _ hl)) ?_ ?_
  .rintro i v σ H1 hi ⟨c,o4,ws,rfl,s1,hc,e1,hv⟩;have hi':i<ds.length:=by have:=(Ad.mp hi).1;rwa [Ag]at this
   rw[Az,Aa hi']at hi
   cases hi
   have tk:=zaS (Aa hi');have wl:ws.length<=3000:=by rw[hv.1,zd8,A6];lia
   refine⟨_,rfl,.inl ⟨rfl,_,SqL.of e1⟩,_,rfl,_,rfl,two,λt ht=>?_⟩;have s2:Same H1 (upd H1 t (.tup [.ref c,sv ds[i]])):=Same.up ht;have e2:upd H1 t (.tup [.ref c,sv ds[i]]) t=some (.tup [.ref c,sv ds[i]]):=zaa;generalize upd H1 t (.tup [.ref c,sv ds[i]])=H2 at s2 e2;have e12:=s2 _ _ e1;refine⟨p,ws,_,rfl,rfl,e12,zbd (by lia),?_⟩;have kt3:KT H2 (upd H2 p (.lst (ws++[.ref t]))):=KT.lst e12;have s3:Same H (upd H2 p (.lst (ws++[.ref t]))):=zam hp (s1.trans s2);have e3:upd H2 p (.lst (ws++[.ref t])) p=some (.lst (ws++[.ref t])):=zaa;generalize upd H2 p (.lst (ws++[.ref t]))=H3 at kt3 s3 e3;have hc3:=kt3 _ _ (s2 _ _ hc);refine⟨_,rfl,_,rfl,c,eAt b (ds.take i),ds[i],rfl,SqT.of hc3,zkt _ hb,λz hz=>h8 z (hz ▸ A7 _),λq H4 hq s4 e4=>?_⟩;refine⟨q,_,ws++[.ref t],rfl,s3.trans s4,?_,s4 _ _ e3,?_⟩
   .rw[tk,zg7];exact e4
   .rw[tk,zgz];exact hv.snoc (λx v h=>((h.kt (KT.of s2)).kt kt3).kt (KT.of s4)) ⟨t,c,rfl,s4 _ _ (kt3 _ _ e2),s4 _ _ hc3⟩
  .rintro σ H1 ⟨c,o4,ws,rfl,s1,hc,e1,hv⟩;rw[Ag,AV]at hv;exact⟨_,rfl,k p H1 ws hp s1 e1 hv⟩
noncomputable def zdv(K:W.Frag):Sp:=λvs H Q _=>∃(a b:Addr) (e:Edge) (row:List Nat),vs=[.ref a,.ref b]/\H a=some (.tup (edgeT e))/\e.w<4/\SqT K H b (rowV row)/\row.length<=500/\(∀s,some s∈deeds e.w row->s<8) /\
 ∀p H' ws,H p=none->Same H H'->H' p=some (.lst ws)->VR ws (wby e (deeds e.w row)) wR H'->Q (.ref p) H'
theorem zeO (g_walk_by:Fn P w K mg base 3 "walk_by" ["begin","deeds"] (zgI K)) (g_deeds_along:Fn P w K mg base 2 "deeds_along" ["begin_way","row"] (zh5 K)) (d:Df K mg "walk_along" zb7 ["begin","row"]):FnOk P w K mg base CX0 4 d.f d.fd ["begin","row"] (zdv K):=by
 refine d.F.ok zeE (λvs H Q E h=>?_) (λcdv A outer s H vs Q E hr h=>?_)
 .obtain⟨a,b,e,row,rfl,_⟩:=h;rfl
 .obtain⟨a,b,e,row,rfl,ha,hw,hq,hlen,h8,k⟩:=h;refine⟨_,(zah (zal (pC g_walk_by hr (pa_N (pv 0) (zai (pC g_deeds_along hr (zai (pe_ix zcO (pv 0) zae (λ_ _=>rfl)) (pa_N (pv 1) zab))) zab))))),?_⟩;refine⟨_,rfl,_,rfl,a,_,_,_,rfl,rfl,SqT.of ha,zat (j:=2) rfl,_,rfl,e.w,b,row,rfl,hw,hq,hlen,λp H1 hp s1 e1=>?_⟩
  have hd:(deeds e.w row).length<=3000:=by
   unfold deeds;have:=ze2 row e.w
   have:zaI e.w row<=4:=by
    unfold zaI;split
    .decide
    .exact Bj (BA _ (by decide))
   simp only[Ak,Cf];lia
  exact⟨a,p,e,_,rfl,s1 _ _ ha,hw,e1,h8,hd,λq H2 ws hq2 s2 e2 hv=>k q H2 ws (s1.free hq2) (s1.trans s2) e2 hv⟩
noncomputable def sR(q:Cell×Bool)(v:V)(H:Hp):Prop:=∃A b,v=.ref A/\H A=some (.tup [.ref b,.bl q.2])/\H b=some (.tup (cellT q.1))
theorem sR.kt{q:Cell×Bool}{v:V}{H H':Hp}(h:sR q v H)(s:KT H H'):sR q v H':=let ⟨A,b,e,q1,q2⟩:=h;⟨A,b,e,s _ _ q1,s _ _ q2⟩
noncomputable def zke(K:W.Frag):Sp:=λvs H Q _=>∃(a:Addr) (C:Cell->Bool) (e:Edge),vs=[.ref a,sv (stepB C e)]/\H a=some (.tup (edgeT e))/\IsE C e /\
 ∀p H' ss L,H p=none->Same H H'->H' p=some (.lst ss)->VR ss L sR H'->(∀q∈L,C q.1=q.2)->L.length<=6->Q (.ref p) H'
theorem zdG (g_edge_behind:Fn P w K mg base 2 "edge_behind" ["edge", "step"] (zeB K)) (g_gap_beside:Fn P w K mg base 2 "gap_beside" ["edge"] (spGap K)) (g_is_slant:Fn P w K mg base 1 "is_slant" ["step"] zcJ)
  (g_gone:Fn P w K mg base 1 "gone" ["x","y","step"] zc7) (g_slant_step:Fn P w K mg base 1 "slant_step" ["way"] zhY) (g_straight_step:Fn P w K mg base 1 "straight_step" ["way"] zec)
  (d:Df K mg "seen_between" zbG ["edge","step"]):FnOk P w K mg base CX0 3 d.f d.fd ["edge","step"] (zke K):=by
 refine d.F.ok zaL (λvs H Q E h=>?_) (λcdv A outer s H vs Q E hr h=>?_)
 .obtain⟨a,C,e,rfl,_⟩:=h;rfl
 .obtain⟨a,C,e,rfl,ha,hE,k⟩:=h
  refine⟨_,(zac (zbf (pv 0) (za2 (by rfl) (zad (nG 2 zaL.nd) (zad (nG 3 zaL.nd) (zad (nG 4 zaL.nd) zao)))))
   (zac (sE 5 zaL.nd (pC g_edge_behind hr (pa_N (pv 0) (pa_N (pv 1) zab))))
   (zac (sE 6 zaL.nd (zaY (pa_T (zar (pa_T (zar (pa_N (pv 2) (pa_N (pv 3) zab))) (pa_C pe_bl zab))) (pa_T (zar (zai (pC g_gap_beside hr (pa_N (pv 0) zab)) (pa_C pe_bl zab))) (pa_T (zar (zai (zcL zh9 (pv 5) zeJ (zcW zae)) (pa_C pe_bl zab))) (pa_T (zar (zai (pC g_gap_beside hr (pa_N (pv 5) zab)) (pa_C pe_bl zab))) zab))))))
   (zac (ps_if (zgN (zdF (pC g_is_slant hr (pa_N (pv 1) zab))))
   (zah (za1 (pe_bm AD AL AM zaE (pv 6) (pa_T (zar (zai (pC g_gone hr (pa_N (pv 2) (pa_N (pv 3) (zai (pC g_slant_step hr (pa_N (pv 4) zab)) zab)))) (pa_C pe_bl zab))) zab))))
   zaK)
   (zac (ps_if (zaq ziv (pv 1) zbq (zas _))
   (zah (za1 (pe_bm AD AL AM zaE (pv 6) (pa_T (zar (zai (pC g_gone hr (pa_N (pv 2) (pa_N (pv 3) (zai (pC g_straight_step hr (pa_N (pv 4) zab)) zab)))) (pa_C pe_bl zab))) zab))))
   zaK)
   (zah (zal (pv 6)))))))),?_⟩
  have hw:=hE.1;have hN:=zc9 hE;refine⟨_,rfl,a,_,rfl,SqT.of ha,rfl,_,_,rfl,_,_,rfl,_,_,rfl,rfl,?_⟩;refine⟨_,rfl,_,rfl,a,e,stepB C e,rfl,SqT.of ha,hw,zeA hw,λp1 H1 hp1 s1 e1=>?_⟩;change H1 p1=some (.tup (edgeT (nxt C e))) at e1;refine⟨_,rfl,_,rfl,two,λt1 ht1=>⟨two,λt2 ht2=>?_⟩⟩;have s2:Same H1 (upd (upd H1 t1 (.tup [.int e.c.1,.int e.c.2])) t2 (.tup [.ref t1,.bl true])):=(Same.up ht1).trans (Same.up ht2);have r1:sR (e.c,true) (.ref t2) (upd (upd H1 t1 (.tup [.int e.c.1,.int e.c.2])) t2 (.tup [.ref t1,.bl true])):=⟨t2,t1,rfl,zaa,by rw[zag (λz=>by subst z;rw[zaa]at ht2;cases ht2),zaa];rfl⟩;generalize upd (upd H1 t1 (.tup [.int e.c.1,.int e.c.2])) t2 (.tup [.ref t1,.bl true])=H2 at s2 r1;refine⟨_,rfl,a,e,rfl,SqT.of ((s1.trans s2) _ _ ha),hw,λp3 H3 hp3 s3 e3=>⟨two,λt3 ht3=>?_⟩⟩;have s4:Same H3 (upd H3 t3 (.tup [.ref p3,.bl false])):=Same.up ht3;have r2:sR (gap e,false) (.ref t3) (upd H3 t3 (.tup [.ref p3,.bl false])):=⟨t3,p3,rfl,zaa,s4 _ _ e3⟩;generalize upd H3 t3 (.tup [.ref p3,.bl false])=H4 at s4 r2;have s14:=s2.trans (s3.trans s4);have e14:=s14 _ _ e1;have hs1:HT.sIx 3 3 (some 2)=2:=by decide
  refine⟨_,rfl,_,rfl,p1,_,rfl,SqT.of e14,λhx=>absurd (show (3:Nat)=2 from hx.2.symm.trans hs1) (by decide),λ_ t5 ht5=>⟨two,λt6 ht6=>?_⟩⟩;have ec:cutV (edgeT (nxt C e)) none (some 2)=cellT (nxt C e).c:=rfl;have s6:Same H4 (upd (upd H4 t5 (.tup (cutV (edgeT (nxt C e)) none (some 2)))) t6 (.tup [.ref t5,.bl true])):=(Same.up ht5).trans (Same.up ht6);have r3:sR ((nxt C e).c,true) (.ref t6) (upd (upd H4 t5 (.tup (cutV (edgeT (nxt C e)) none (some 2)))) t6 (.tup [.ref t5,.bl true])):=⟨t6,t5,rfl,zaa,by rw[zag (λz=>by subst z;rw[zaa]at ht6;cases ht6),zaa,ec]⟩;generalize upd (upd H4 t5 (.tup (cutV (edgeT (nxt C e)) none (some 2)))) t6 (.tup [.ref t5,.bl true])=H6 at s6 r3;refine⟨_,rfl,p1,nxt C e,rfl,SqT.of (s6 _ _ e14),hN.1,λp7 H7 hp7 s7 e7=>⟨two,λt7 ht7=>?_⟩⟩;have s8:Same H7 (upd H7 t7 (.tup [.ref p7,.bl false])):=Same.up ht7;have r4:sR (gap (nxt C e),false) (.ref t7) (upd H7 t7 (.tup [.ref p7,.bl false])):=⟨t7,p7,rfl,zaa,s8 _ _ e7⟩;generalize upd H7 t7 (.tup [.ref p7,.bl false])=H8 at s8 r4;refine⟨(by show 4<=sizeLine;decide),λl hl=>?_⟩;have s48:=s6.trans (s7.trans s8);have s28:=s3.trans (s4.trans s48);have s08:=s1.trans (s2.trans s28);have kl:KT H8 (upd H8 l (.lst [.ref t2,.ref t3,.ref t6,.ref t7])):=KT.up hl;have sl:Same H (upd H8 l (.lst [.ref t2,.ref t3,.ref t6,.ref t7])):=s08.trans (Same.up hl);have el:upd H8 l (.lst [.ref t2,.ref t3,.ref t6,.ref t7]) l=some (.lst [.ref t2,.ref t3,.ref t6,.ref t7]):=zaa;have hl0:H l=none:=s08.free hl
  have hv:VR [.ref t2,.ref t3,.ref t6,.ref t7] [(e.c,true),(gap e,false),((nxt C e).c,true),(gap (nxt C e),false)] sR (upd H8 l (.lst [.ref t2,.ref t3,.ref t6,.ref t7])) :=
   VR.cons.mpr ⟨(r1.kt (KT.of s28)).kt kl,VR.cons.mpr ⟨(r2.kt (KT.of s48)).kt kl,VR.cons.mpr ⟨(r3.kt (KT.of (s7.trans s8))).kt kl,VR.cons.mpr ⟨r4.kt kl,VR.nil⟩⟩⟩⟩
  generalize upd H8 l (.lst [.ref t2,.ref t3,.ref t6,.ref t7])=H9 at kl sl el hv
  have hL:∀q∈[(e.c,true),(gap e,false),((nxt C e).c,true),(gap (nxt C e),false)],C q.1=q.2:=by
   intro q hq;simp only[List.mem_cons,List.not_mem_nil,or_false]at hq;rcases hq with rfl |rfl |rfl |rfl
   .exact hE.2.1
   .exact hE.2.2
   .exact hN.2.1
   .exact hN.2.2
  rcases zaT hE with⟨c1,hs,_⟩ |⟨c1,c2,hs,_⟩ |⟨c1,c2,hs,_⟩ <;> rw[hs]
  .refine⟨_,rfl,some ((2*e.w+7) % 8),rfl,_,rfl,?_⟩;have:slant (some ((2*e.w+7) % 8))=true:=by show ((2*e.w+7) % 8 % 2 == 1)=true;rw[odd7];rfl
   rw[this];refine iteF ?_
   refine⟨_,rfl,rfl,_,rfl,iteF ?_⟩;exact⟨_,rfl,k l H9 _ _ hl0 sl el hv hL (by show 4<=6;decide)⟩
  .refine⟨_,rfl,some (2*e.w),rfl,_,rfl,?_⟩;have:slant (some (2*e.w))=false:=by show ((2*e.w) % 2 == 1)=false;rw[show 2*e.w % 2=0 by lia];rfl
   rw[this];refine iteT ?_
   refine⟨_,rfl,.inl ⟨rfl,_,SqL.of el⟩,_,rfl,_,rfl,_,rfl,e.w,rfl,hw,e.c,(2*e.w+7) % 8,rfl,BA _ (by decide),λp10 H10 hp10 s10 e10=>⟨two,λt11 ht11=>?_⟩⟩;have s11:Same H10 (upd H10 t11 (.tup [.ref p10,.bl false])):=Same.up ht11;have r5:sR (go e.c ((2*e.w+7) % 8),false) (.ref t11) (upd H10 t11 (.tup [.ref p10,.bl false])):=⟨t11,p10,rfl,zaa,s11 _ _ e10⟩;generalize upd H10 t11 (.tup [.ref p10,.bl false])=H11 at s11 r5;have el11:=(s10.trans s11) _ _ el;refine⟨l,_,_,rfl,rfl,el11,zbd (by show 4<=5000;decide),?_⟩;have kt12:KT H11 (upd H11 l (.lst ([.ref t2,.ref t3,.ref t6,.ref t7]++[.ref t11]))):=KT.lst el11;have s12:Same H (upd H11 l (.lst ([.ref t2,.ref t3,.ref t6,.ref t7]++[.ref t11]))):=zam hl0 (sl.trans (s10.trans s11));have e12:upd H11 l (.lst ([.ref t2,.ref t3,.ref t6,.ref t7]++[.ref t11])) l=some (.lst ([.ref t2,.ref t3,.ref t6,.ref t7]++[.ref t11])):=zaa;have hv12:=hv.snoc (λx v h=>(h.kt (KT.of (s10.trans s11))).kt kt12) (r5.kt kt12);generalize upd H11 l (.lst ([.ref t2,.ref t3,.ref t6,.ref t7]++[.ref t11]))=H12 at kt12 s12 e12 hv12;refine⟨_,rfl,rfl,_,rfl,iteF ?_⟩;refine⟨_,rfl,k l H12 _ _ hl0 s12 e12 hv12 (λq hq=>?_) (by show 5<=6;decide)⟩;rcases AW.mp hq with m |m
   .exact hL q m
   .rw[Ap.mp m];exact c1
  .refine⟨_,rfl,none,rfl,_,rfl,iteT ?_⟩;refine⟨_,rfl,.inl ⟨rfl,_,SqL.of el⟩,_,rfl,_,rfl,_,rfl,e.w,rfl,hw,e.c,(2*e.w+7) % 8,rfl,BA _ (by decide),λp10 H10 hp10 s10 e10=>⟨two,λt11 ht11=>?_⟩⟩;have s11:Same H10 (upd H10 t11 (.tup [.ref p10,.bl false])):=Same.up ht11;have r5:sR (go e.c ((2*e.w+7) % 8),false) (.ref t11) (upd H10 t11 (.tup [.ref p10,.bl false])):=⟨t11,p10,rfl,zaa,s11 _ _ e10⟩;generalize upd H10 t11 (.tup [.ref p10,.bl false])=H11 at s11 r5;have el11:=(s10.trans s11) _ _ el;refine⟨l,_,_,rfl,rfl,el11,zbd (by show 4<=5000;decide),?_⟩;have kt12:KT H11 (upd H11 l (.lst ([.ref t2,.ref t3,.ref t6,.ref t7]++[.ref t11]))):=KT.lst el11;have s12:Same H (upd H11 l (.lst ([.ref t2,.ref t3,.ref t6,.ref t7]++[.ref t11]))):=zam hl0 (sl.trans (s10.trans s11));have e12:upd H11 l (.lst ([.ref t2,.ref t3,.ref t6,.ref t7]++[.ref t11])) l=some (.lst ([.ref t2,.ref t3,.ref t6,.ref t7]++[.ref t11])):=zaa;have hv12:=hv.snoc (λx v h=>(h.kt (KT.of (s10.trans s11))).kt kt12) (r5.kt kt12);generalize upd H11 l (.lst ([.ref t2,.ref t3,.ref t6,.ref t7]++[.ref t11]))=H12 at kt12 s12 e12 hv12;refine⟨_,rfl,rfl,_,rfl,iteT ?_⟩;refine⟨_,rfl,.inl ⟨rfl,_,SqL.of e12⟩,_,rfl,_,rfl,_,rfl,e.w,rfl,hw,e.c,2*e.w,rfl,by lia,λp13 H13 hp13 s13 e13=>⟨two,λt14 ht14=>?_⟩⟩;have s14':Same H13 (upd H13 t14 (.tup [.ref p13,.bl false])):=Same.up ht14;have r6:sR (go e.c (2*e.w),false) (.ref t14) (upd H13 t14 (.tup [.ref p13,.bl false])):=⟨t14,p13,rfl,zaa,s14' _ _ e13⟩;generalize upd H13 t14 (.tup [.ref p13,.bl false])=H14 at s14' r6;have e14':=(s13.trans s14') _ _ e12;refine⟨l,_,_,rfl,rfl,e14',zbd (by show 5<=5000;decide),?_⟩;have kt15:KT H14 (upd H14 l (.lst (([.ref t2,.ref t3,.ref t6,.ref t7]++[.ref t11])++[.ref t14]))):=KT.lst e14';have s15:Same H (upd H14 l (.lst (([.ref t2,.ref t3,.ref t6,.ref t7]++[.ref t11])++[.ref t14]))):=zam hl0 (s12.trans (s13.trans s14'));have e15:upd H14 l (.lst (([.ref t2,.ref t3,.ref t6,.ref t7]++[.ref t11])++[.ref t14])) l=some (.lst (([.ref t2,.ref t3,.ref t6,.ref t7]++[.ref t11])++[.ref t14])):=zaa;have hv15:=hv12.snoc (λx v h=>(h.kt (KT.of (s13.trans s14'))).kt kt15) (r6.kt kt15);refine⟨_,rfl,k l _ _ _ hl0 s15 e15 hv15 (λq hq=>?_) (by show 6<=6;decide)⟩;rcases AW.mp hq with m |m
   .rcases AW.mp m with m |m
    .exact hL q m
    .rw[Ap.mp m];exact c1
   .rw[Ap.mp m];exact c2
noncomputable def Known(C:Cell->Bool)(kvs:List (List Key×V)):Prop:=∀c v,valV kvs (kC c)=some v->v=.bl (C c)
noncomputable def zee(K:W.Frag):Sp:=λvs H Q _=>∃(a:Addr) (C:Cell->Bool) (es:List Edge),vs=[.ref a]/\LR K H a (wk C es) wR/\(∀e∈es,IsE C e)/\es.length<=500/\∀H',Same H H'->Q .non H'
theorem zd0 (g_seen_between:Fn P w K mg base 3 "seen_between" ["edge","step"] (zke K)) (d:Df K mg "gainsaid_at" zbO ["walk"]):FnOk P w K mg base CX0 4 d.f d.fd ["walk"] (zee K):=by
 refine d.F.ok zaB (λvs H Q E h=>?_) (λcdv A outer s H vs Q E hr h=>?_)
 .obtain⟨a,C,es,rfl,_⟩:=h;rfl
 .obtain⟨a,C,es,rfl,hLR,hE,hlen,k⟩:=h;have hu1:=hu_of hr
  refine⟨_,(zac (sE 1 zaB.nd zdn)
   (zac (sE 2 zaB.nd zae)
   (zac (zbo A5 rfl (zaO (pv 0)) (za2 (by rfl) (zad (nG 3 zaB.nd) (zad (nG 4 zaB.nd) zao)))
   (zac (zbo A5 rfl (zaO (pC g_seen_between hr (pa_N (pv 3) (pa_N (pv 4) zab)))) (za2 (by rfl) (zad (nG 5 zaB.nd) (zad (nG 6 zaB.nd) zao)))
   (zah (ps_if (zaq op_ne (zjL hu1 (pv 1) (pv 5) (pv 6) ⟨rfl,rfl,rfl,rfl⟩) (pv 6) (zas _))
   (zah (zal (pv 2)))
   zaK)))
   (zah (ps_if (zaq zcX (pv 4) zbq (zas _))
   (zah (zlB (i:=2) zaB.nd (by rfl) (Or.inl rfl) zae zlU))
   zaK))))
   (zah (zal zbq))))),?_⟩
  obtain⟨ws,hq,hv⟩:=hLR.vr;have hwl:ws.length=es.length:=by rw[hv.1,zb4]
  refine λdd hdd=>?_
  have s0:Same H (upd H dd (.dT [])):=Same.up hdd;have d0:upd H dd (.dT []) dd=some (.dT []):=zaa;generalize upd H dd (.dT [])=H0 at s0 d0;refine⟨_,rfl,a,rfl,⟨_,s0.seq hq⟩,?_⟩
  refine zaA (K:=K) (a:=a) (xs:=ws) (λi σ H1=>∃(n:Int) (o3 o4 o5 o6:Option V) (kvs:List (List Key×V)),σ=[some (.ref a),some (.ref dd),some (.int n),o3,o4,o5,o6]/\Same H H1/\H1 dd=some (.dT kvs)/\Known C kvs/\kvs.length<=6*i)
   ⟨_,_,_,_,_,[],rfl,s0,d0,(λc v h=>by cases h),AZ _⟩ (λi σ H1 _ ⟨_,_,_,_,_,_,_,s1,_⟩=>s1.seq hq) ?_ ?_
  .rintro i v σ H1 hi ⟨n,o3,o4,o5,o6,kvs,rfl,s1,d1,hk,hkl⟩;obtain⟨⟨e,st⟩,he,B,b,rfl,q1,q2⟩:=hv.at hi;have hi':i<es.length:=by rw[<- hwl];exact (Ad.mp hi).1
   have he':es[i]?=some e/\st=stepB C e:=by
    unfold wk at he;rw[Az]at he;obtain⟨g,hg,eg⟩:=Bn.mp he
    cases eg
    exact⟨hg,rfl⟩
   obtain⟨he1,rfl⟩:=he';have hEe:=hE e (Aj he1);refine⟨B,_,rfl,SqT.of (s1 _ _ q1),rfl,_,_,rfl,_,_,rfl,rfl,?_⟩;refine⟨_,rfl,_,rfl,b,C,e,rfl,s1 _ _ q2,hEe,λp H2 ss L hp s2 e2 hs2 hL hLl=>?_⟩;have hpd:p≠dd:=λz=>by subst z;rw[d1]at hp;cases hp
   have d2:=s2 _ _ d1;refine⟨p,rfl,⟨_,SqL.of e2⟩,?_⟩
   refine zaA (K:=K) (a:=p) (xs:=ss) (λj σ H3=>∃(o5 o6:Option V) (kv3:List (List Key×V)),σ=[some (.ref a),some (.ref dd),some (.int n),some (.ref b),some (sv (stepB C e)),o5,o6]/\(∀z o,z≠dd->H2 z=some o->H3 z=some o)/\H3 dd=some (.dT kv3)/\Known C kv3/\kv3.length<=6*i+j)
    ⟨_,_,kvs,rfl,(λz o _ h=>h),d2,hk,by lia⟩ (λj σ H3 _ ⟨_,_,_,_,k3,_⟩=>SqL.of (k3 _ _ hpd e2)) ?_ ?_
   .rintro j u σ H3 hj ⟨o5,o6,kv3,rfl,k3,d3,hk3,hl3⟩;obtain⟨⟨c,t⟩,hq',A2,b2,rfl,r1,r2⟩:=hs2.at hj;have hjl:j<L.length:=by rw[<- hs2.1];exact (Ad.mp hj).1
    have hct:C c=t:=hL _ (Aj hq');have nA:A2≠dd:=ne_of r1 d2 (λz=>nomatch z);have nb:b2≠dd:=ne_of r2 d2 (λz=>nomatch z);refine⟨A2,_,rfl,SqT.of (k3 _ _ nA r1),rfl,_,_,rfl,_,_,rfl,rfl,?_⟩;refine⟨_,rfl,dd,rfl,.inr ⟨_,Rd.of d3⟩,_,rfl,_,rfl,kv3,kC c,b2,d3,rfl,k3 _ _ nb r2,zbd (by lia),λv hv'=>?_,λhn=>?_⟩
    .have hv2:v=.bl t:=by rw[hk3 c v hv',hct]
     subst hv2;refine⟨_,rfl,rfl,_,rfl,iteN (by simp) ?_⟩;exact⟨_,_,kv3,rfl,k3,d3,hk3,by lia⟩
    .refine⟨_,rfl,rfl,_,rfl,iteN (by simp) ?_⟩;refine⟨_,_,putK kv3 (kC c) (.bl t),rfl,(λz o hz h=>by rw[zag hz];exact k3 z o hz h),zaa,(λc' v' hv'=>?_),AO (zaP _ _ _) (by lia)⟩;rw[zcI]at hv'
     by_cases ec:c'=c
     .subst ec;rw[if_pos rfl]at hv'
      cases hv'
      rw[hct]
     .rw[if_neg (λz=>ec (zei.mp z))]at hv';exact hk3 c' v' hv'
   .rintro σ H3 ⟨o5,o6,kv3,rfl,k3,d3,hk3,hl3⟩;have s3:Same H H3:=λz o h=>k3 z o (zaj h hdd) (s2 _ _ (s1 _ _ h))
    have hl4:kv3.length<=6*(i+1):=by have:=hs2.1;lia
    cases hst:stepB C e with
    |none =>
     refine⟨_,rfl,rfl,_,rfl,iteF ?_⟩;exact⟨_,_,_,_,_,kv3,rfl,s3,d3,hk3,hl4⟩
    |some z =>
     refine⟨_,rfl,rfl,_,rfl,iteT ?_⟩;refine⟨_,rfl,_,_,rfl,rfl,?_⟩;exact⟨_,_,_,_,_,kv3,rfl,s3,d3,hk3,hl4⟩
  .rintro σ H1 ⟨n,o3,o4,o5,o6,kvs,rfl,s1,d1,hk,hkl⟩;exact k H1 s1
theorem zj6{α:Type}{xs:List α}(h:0<xs.length):atI xs (-1)=xs[xs.length-1]?:=by unfold atI ixN;rw[if_neg (by decide),if_pos (by lia)];show xs[((-1:Int)+xs.length).toNat]?=_;rw[show ((-1:Int)+xs.length).toNat=xs.length-1 by lia]
noncomputable def zh6(K:W.Frag):Sp:=λvs H Q _=>∃(a:Addr) (C:Cell->Bool) (b:Edge) (es:List Edge),vs=[.ref a]/\LR K H a (wk C es) wR/\Closed C b es/\es.length<=500/\∀H',Same H H'->Q (.bl true) H'
theorem zeV (g_edge_behind:Fn P w K mg base 2 "edge_behind" ["edge","step"] (zeB K)) (d:Df K mg "comes_back" zca ["walk"]):FnOk P w K mg base CX0 3 d.f d.fd ["walk"] (zh6 K):=by
 refine d.F.ok zbN (λvs H Q E h=>?_) (λcdv A outer s H vs Q E hr h=>?_)
 .obtain⟨a,C,b,es,rfl,_⟩:=h;rfl
 .obtain⟨a,C,b,es,rfl,hLR,hcl,hlen,k⟩:=h;have hu64:=hr.units
  refine⟨_,(zac (zbf (pe_ix zaR (pv 0) (pe_un zc6 zae) (λ_ _=>rfl)) (za2 (by rfl) (zad (nG 1 zbN.nd) (zad (nG 2 zbN.nd) zao))))
   (zah (zal (zbU (zkn hu64) (pC g_edge_behind hr (pa_N (pv 1) (pa_N (pv 2) zab))) (pe_ix zcO (pe_ix zaR (pv 0) zae (λ_ _=>rfl)) zae (λ_ _=>rfl)) (zas _))))),?_⟩
  obtain⟨ws,hq,hv⟩:=hLR.vr;have hwl:ws.length=es.length:=by rw[hv.1,zb4]
  have hp:=hcl.pos;obtain⟨hch,l,hl,hb⟩:=id hcl;obtain⟨v1,hv1⟩:∃v,ws[ws.length-1]?=some v:=⟨_,Aa (by lia)⟩;obtain⟨⟨e1,st1⟩,he1,B1,b1,rfl,q1,q2⟩:=hv.at hv1;obtain⟨v0,hv0⟩:∃v,ws[0]?=some v:=⟨_,Aa (by lia)⟩;obtain⟨⟨e0,st0⟩,he0,B0,b0,rfl,r1,r2⟩:=hv.at hv0
  have h1:e1=l/\st1=stepB C l:=by
   unfold wk at he1;rw[hwl,Az,hl]at he1
   cases he1;exact⟨rfl,rfl⟩
  obtain⟨rfl,rfl⟩:=h1
  have h0:e0=b:=by
   unfold wk at he0;rw[Az,hch.1]at he0
   cases he0;rfl
  subst h0;have hEl:IsE C e1:=hch.2.2.1 e1 (Aj hl);refine⟨_,rfl,_,rfl,a,ws,_,_,rfl,rfl,hq,(zj6 (by lia)).trans hv1,?_⟩;refine⟨B1,_,rfl,SqT.of q1,rfl,_,_,rfl,_,_,rfl,rfl,?_⟩;refine⟨_,rfl,_,rfl,b1,e1,stepB C e1,rfl,SqT.of q2,hEl.1,zeA hEl.1,λp H1 hp1 s1 f1=>?_⟩;refine⟨_,rfl,a,ws,_,_,rfl,rfl,s1.seq hq,(zat (j:=0) hv0),B0,_,_,_,rfl,rfl,SqT.of (s1 _ _ r1),zat (j:=0) rfl,?_⟩;refine⟨_,_,zcU f1,zcU (s1 _ _ r2),zbm _,zbm _,?_⟩;rw[zg6,decide_eq_true (by show eI (nxt C e1)=eI e0;rw[hb])];exact k H1 s1
theorem nL_wk(C:Cell->Bool)(es:List Edge):nL (wk C es)=(es.filter λe=>(stepB C e).isNone).length:=by unfold nL wk;rw[List.filter_map,Ag];rfl
theorem nS_wk(C:Cell->Bool)(es:List Edge):nS (wk C es)=(es.filter λe=>slant (stepB C e)).length:=by unfold nS wk;rw[List.filter_map,Ag];rfl
theorem zhN{C:Cell->Bool}{b:Edge}{es:List Edge}(h:Closed C b es):(nL (wk C es):Int)-nS (wk C es)=4∨(nL (wk C es):Int)-nS (wk C es)=-4:=by rw[nL_wk,nS_wk,<- zev];exact h.turning
noncomputable def zed(K:W.Frag):Sp:=λvs H Q _=>∃(a:Addr) (C:Cell->Bool) (b:Edge) (es:List Edge),vs=[.ref a,.str (sortS (wk C es))]/\LR K H a (wk C es) wR/\Closed C b es/\es.length<=500/\∀H',Same H H'->Q (.bl true) H'
theorem zfD (T:Txt P w K mg) (g_comes_back:Fn P w K mg base 3 "comes_back" ["walk"] (zh6 K)) (g_lefts_less_slants:Fn P w K mg base 3 "lefts_less_slants" ["walk"] (zkh K)) (d:Df K mg "is_closed" zcA ["walk","sort"]):FnOk P w K mg base CX0 4 d.f d.fd ["walk","sort"] (zed K):=by
 refine d.F.ok zft (λvs H Q E h=>?_) (λcdv A outer s H vs Q E hr h=>?_)
 .obtain⟨a,C,b,es,rfl,_⟩:=h;rfl
 .obtain⟨a,C,b,es,rfl,hLR,hcl,hlen,k⟩:=h;refine⟨_,(zah (zal (zit (pC g_comes_back hr (pa_N (pv 0) zab)) (zis (zbU op_eq (pC g_lefts_less_slants hr (pa_N (pv 0) zab)) (zlE (by rfl) T.more (pv 1)) (zas _)))))),?_⟩;refine⟨_,rfl,a,C,b,es,rfl,hLR,hcl,hlen,λH1 s1=>⟨_,rfl,iteT ?_⟩⟩;refine⟨_,rfl,a,wk C es,rfl,hLR.same s1 (λx v h=>h.same s1),by rw[zb4];lia,λH2 s2=>⟨_,rfl,?_⟩⟩;rcases zhN hcl with t |t
  .refine .inl ⟨?_,rfl,?_⟩
   .unfold sortS;rw[if_pos (by lia)]
   .rw[t,decide_eq_true rfl];exact k H2 (s1.trans s2)
  .refine .inr ⟨?_,rfl,?_⟩
   .unfold sortS;rw[if_neg (by lia)]
   .rw[t,decide_eq_true rfl];exact k H2 (s1.trans s2)
theorem IsRnd.walk{C:Cell -> Bool}{b:Edge}{es:List Edge}{r:Rnd}(h:Closed C b es)(k:IsRnd (wk C es) r) :
  ∃es',Closed C (begE r) es'/\es'.Perm es/\r.row=(es'.map (stepB C)).filterMap id/\zb1 (wk C es') r.so (begE r)/\r.so=sortS (wk C es')/\IsRnd (wk C es') r:=by
 obtain⟨r0,j,f,rf,⟨rb,rw',rl⟩,rx,ry,rr⟩:=id k;rw[zcs]at rf rb rl
 have ef:begE r=f:=by obtain⟨⟨x,y⟩,w⟩:=f;unfold begE;rw[rx,ry,r0];simp only at rw' ⊢;rw[rw']
 have h1:=h.rot j rf;have pm:=zjB es j;have ss:=zhi (C:=C) pm
 have hrow:r.row=((es.drop j++es.take j).map (stepB C)).filterMap id:=by rw[rr];unfold wk;rw[<- Dc,<- Dd,<- AA,Ch,Ch];rfl
 have hb:zb1 (wk C (es.drop j++es.take j)) r.so f:=⟨by rw[zcs];exact pm.mem_iff.mpr rb,by rw[rw',r0],λg hg hw=>by rw[zcs]at hg;exact rl g (pm.mem_iff.mp hg) (by rw[hw,r0])⟩
 rw[ef];refine⟨_,h1,pm,hrow,hb,by rw[r0,ss],by rw[r0,ss],0,f,by rw[zcs];exact h1.1.1,by rw[ss,<- r0];exact hb,rx,ry,?_⟩;rw[hrow,List.drop_zero,List.take_zero,A0];unfold wk;rw[Ch,Ch];rfl
noncomputable def zgH(K:W.Frag):Sp:=λvs H Q _=>∃(v:V) (r:Rnd) (C:Cell->Bool) (es:List Edge),vs=[v]/\rR r v H/\Closed C (begE r) es/\r.row=(es.map (stepB C)).filterMap id/\zb1 (wk C es) r.so (begE r)/\r.so=sortS (wk C es)/\es.length<=500 /\
 ∀p H' ws,H p=none->Same H H'->H' p=some (.lst ws)->VR ws (wk C es) wR H'->Q (.ref p) H'
theorem zhp (g_begin_edge:Fn P w K mg base 1 "begin_edge" ["one"] zfo) (g_walk_along:Fn P w K mg base 4 "walk_along" ["begin", "row"] (zdv K)) (g_gainsaid_at:Fn P w K mg base 4 "gainsaid_at" ["walk"] (zee K))
  (g_is_closed:Fn P w K mg base 4 "is_closed" ["walk","sort"] (zed K)) (g_begin_of:Fn P w K mg base 3 "begin_of" ["walk","sort"] (zh7 K)) (d:Df K mg "walk_of" zdB ["one"]):FnOk P w K mg base CX0 5 d.f d.fd ["one"] (zgH K):=by
 refine d.F.ok zbe (λvs H Q E h=>?_) (λcdv A outer s H vs Q E hr h=>?_)
 .obtain⟨v,r,C,es,rfl,_⟩:=h;rfl
 .obtain⟨v,r,C,es,rfl,hv,hcl,hrow,hbg,hso,hlen,k⟩:=h;have hu64:=hr.units
  refine⟨_,(zac (zbf (pv 0) (za2 (by rfl) (zad (nG 1 zbe.nd) (zad (nG 2 zbe.nd) (zad (nG 3 zbe.nd) (zad (nG 4 zbe.nd) zao))))))
   (zac (sE 5 zbe.nd (pC g_begin_edge hr (pa_N (pv 0) zab)))
   (zac (sE 6 zbe.nd (pC g_walk_along hr (pa_N (pv 5) (pa_N (pv 4) zab))))
   (zac (sE 7 zbe.nd (pC g_gainsaid_at hr (pa_N (pv 6) zab)))
   (zac (ps_if (zaq zcX (pv 7) zbq (zas _))
   (zah zgP)
   zaK)
   (zac (ps_if (pw_or (zgN (zdF (pC g_is_closed hr (pa_N (pv 6) (pa_N (pv 1) zab))))) (zik (zaq (zgR hu64) (pC g_begin_of hr (pa_N (pv 6) (pa_N (pv 1) zab))) (pv 5) (zas _)))).pt
   (zah zgP)
   zaK)
   (zah (zal (pv 6))))))))),?_⟩
  obtain⟨a,b,rfl,q1,q2⟩:=id hv;have hE:IsE C (begE r):=hcl.1.2.2.1 _ (Aj hcl.1.1);have so2:r.so = "rim" ∨ r.so = "hole":=by rw[hso];exact zeC _
  have hrl:r.row.length<=500:=by rw[hrow];exact AO (List.length_filterMap_le _ _) (by rw[Ag];exact hlen)
  have hdd:deeds (begE r).w r.row=es.map (stepB C):=by rw[hrow];exact hcl.deeds.symm
  refine⟨_,rfl,a,_,rfl,SqT.of q1,rfl,_,_,rfl,_,_,rfl,_,_,rfl,_,_,rfl,rfl,?_⟩;refine⟨_,rfl,.ref a,r,rfl,hv,so2,λp1 H1 hp1 s1 e1=>?_⟩;refine⟨_,rfl,_,rfl,p1,b,begE r,r.row,rfl,e1,hE.1,SqT.of (s1 _ _ q2),hrl,(λz hz=>?_),λp H2 ws hp s2 e2 hw=>?_⟩
  .rw[hdd]at hz;obtain⟨e,he,ez⟩:=Ay.mp hz;exact zeA (hcl.1.2.2.1 e he).1 z ez
  rw[hdd,zfg es (.inl hcl.1.1) hcl.1.2.1]at hw;have lr:LR K H2 p (wk C es) wR:=LR.of e2 hw;refine⟨_,rfl,p,C,es,rfl,lr,hcl.1.2.2.1,hlen,λH3 s3=>?_⟩;refine⟨_,rfl,rfl,_,rfl,iteF ?_⟩;have lr3:=lr.same s3 (λx v h=>h.same s3);refine⟨_,rfl,_,rfl,p,C,begE r,es,(by rw[<- hso];rfl),lr3,hcl,hlen,λH4 s4=>⟨_,rfl,iteF ?_⟩⟩;have lr4:=lr3.same s4 (λx v h=>h.same s4);refine⟨_,rfl,_,rfl,p,wk C es,r.so,rfl,so2,lr4,by rw[zb4];lia,⟨begE r,hbg.1,hbg.2.1⟩,λb5 e5 H5 s5 f5 ib=>?_⟩;have ee:e5=begE r:=ib.one (List.Perm.refl _) hbg;subst ee;have s25:=s3.trans (s4.trans s5);refine⟨_,rfl,_,_,zcU f5,zcU ((s2.trans s25) _ _ e1),zbm _,zbm _,_,rfl,iteN (by rw[zg6,decide_eq_true rfl];rfl) ?_⟩;refine⟨_,rfl,k p H5 ws (s1.free hp) (s1.trans (s2.trans s25)) (s25 _ _ e2) (hw.mono λx v h=>h.same s25)⟩
noncomputable def rowI(row:List Nat):List Int:=row.map λn:Nat=>(n:Int)
noncomputable def dR(r:Rnd):PyData:=.tuple [.str r.so,.int r.x,.int r.y,tI (rowI r.row)]
theorem zlz(row:List Nat):rowV row=(rowI row).map V.int:=by unfold rowV rowI;rw[List.map_map];rfl
theorem zjA{a b:List Nat}(h:rowI a=rowI b):a=b:=by unfold rowI at h;exact List.map_inj_right (f:=λn:Nat=>(n:Int)) (λx y e=>by lia) |>.mp h
theorem zjC{K:W.Frag}{H:Hp}{r:Rnd}{v:V}(h:rR r v H):RD K H v (dR r):=by obtain⟨a,b,rfl,q1,q2⟩:=h;refine .tup (SqT.of q1) (.cons (.str _) (.cons (.int _) (.cons (.int _) (.cons (.tup (SqT.of q2) ?_) .nil))));rw[zlz];exact RDs.ints _
theorem zlZ(r q:Rnd):Dq (dR r) (dR q)=decide (r=q):=by
 show ((r.so == q.so) && ((r.x == q.x) && ((r.y == q.y) && (Dq (tI (rowI r.row)) (tI (rowI q.row)) && true))))=_;rw[zg6,Bool.and_true];obtain⟨a,b,c,d⟩:=r;obtain⟨a',b',c',d'⟩:=q;simp only
 by_cases h1:a=a'
 .by_cases h2:b=b'
  .by_cases h3:c=c'
   .by_cases h4:d=d'
    .subst h1 h2 h3 h4;simp
    .have:¬ rowI d=rowI d':=λz=>h4 (zjA z)
     simp[h4,this]
   .simp[h3]
  .simp[h2]
 .have:(a == a')=false:=by rw[beq_eq_false_iff_ne];exact h1
  rw[this];simp[h1]
noncomputable abbrev SoOk (r:Rnd):Prop:=r.so = "rim" ∨ r.so = "hole"
theorem zjf{r:Rnd}(h:SoOk r):B6 (dR r)=true:=by have:=zbm (rowI r.row);unfold BL at this;rw[A9]at this;show (PyData.strOk r.so && (true && (true && (B6 (tI (rowI r.row)) && true))))=true;rw[this.1];rcases h with h |h <;> rw[h] <;> decide +kernel
theorem zha(ns:List Int):BM (tI ns)=1:=by unfold tI;rw[BM,zbX]
theorem zj0(r:Rnd):BM (dR r)=2:=by show BM (.tuple [.str r.so,.int r.x,.int r.y,tI (rowI r.row)])=2;rw[BM];show max 0 (max 0 (max 0 (max (BM (tI (rowI r.row))) 0)))+1=2;rw[zha];rfl
noncomputable def lR(R:List Rnd):PyData:=.list (R.map dR)
theorem zfM:∀R S:List Rnd,DE (R.map dR) (S.map dR)=decide (R=S)
 |[],[]=>rfl
 |[],_::_=>rfl
 |_::_,[]=>rfl
 |r::R,q::S=>by
  show (Dq (dR r) (dR q) && DE (R.map dR) (S.map dR))=_;rw[zfM R S,zlZ]
  by_cases e:r=q
  .subst e;by_cases e2:R=S <;> simp[e2]
  .simp[e]
theorem zlX(R S:List Rnd):Dq (lR R) (lR S)=decide (R=S):=zfM R S
theorem zdd:∀R:List Rnd,(∀r∈R,SoOk r)->B5 (R.map dR)=true
 |[],_=>rfl
 |r::R,h=>by show (B6 (dR r) && B5 (R.map dR))=true;rw[zjf (h r AC),zdd R λq hq=>h q (At _ hq)];rfl
theorem zdS:∀R:List Rnd,Cq (R.map dR)<=2
 |[]=>AZ _
 |r::R=>by show max (BM (dR r)) (Cq (R.map dR))<=2;rw[zj0];have:=zdS R;lia
theorem zfr{R:List Rnd}(h:∀r∈R,SoOk r):BL (lR R)=true:=by unfold BL lR;rw[B6,zdd R h,BM];have:=zdS R;simp only[Bool.true_and,decide_eq_true_eq];lia
theorem zeg{K:W.Frag}{H:Hp}:∀{vs:List V}{R:List Rnd},VR vs R rR H->RDs K H vs (R.map dR)
 |[],[],_=>.nil
 |[],_::_,h=>by have:=h.1;cases this
 |_::_,[],h=>by have:=h.1;cases this
 |v::vs,r::R,h=>by
  obtain⟨h1,h2⟩:=VR.cons.mp h;exact .cons (zjC h1) (zeg h2)
theorem zfv{K:W.Frag}{H:Hp}{a:Addr}{vs:List V}{R:List Rnd}(e:SqL K H a vs)(h:VR vs R rR H):RD K H (.ref a) (lR R):=.lst e (zeg h)
theorem Whole.so{cs:List Cell}{R:List Rnd}(h:Whole cs R):∀r∈R,SoOk r:=λr hr=>let ⟨_,hP,_⟩:=h;hP.so hr
structure Can (C:Cell->Bool) (es:List Edge) (r:Rnd):Prop where
 cl:Closed C (begE r) es
 row:r.row=(es.map (stepB C)).filterMap id
 bg:zb1 (wk C es) r.so (begE r)
 so:r.so=sortS (wk C es)
inductive Al {α β:Type} (P:α->β->Prop):List α->List β->Prop where
 |nil:Al P [] []
 |cons {a:α} {b:β} {l:List α} {m:List β}:P a b->Al P l m->Al P (a::l) (b::m)
theorem Al.of{α β:Type}{P:α->β->Prop}:∀{l:List α}{m:List β},l.length=m.length->(∀(i:Nat) a b,m[i]?=some b->l[i]?=some a->P a b)->Al P l m
 |[],[],_,_=>.nil
 |[],_::_,h,_=>by cases h
 |_::_,[],h,_=>by cases h
 |a::l,b::m,h,q=>.cons (q 0 a b rfl rfl) (Al.of (by simpa using h) λi x y h1 h2=>q (i+1) x y (by simpa using h1) (by simpa using h2))
theorem Al.length{α β:Type}{P:α->β->Prop}{l:List α}{m:List β}(h:Al P l m):l.length=m.length:=by
 induction h with
 |nil=>rfl
 |cons _ _ ih=>simp[ih]
theorem Al.at{α β:Type}{P:α->β->Prop}{l:List α}{m:List β}(h:Al P l m):∀{i:Nat}{a:α}{b:β},m[i]?=some b->l[i]?=some a->P a b:=by
 induction h with
 |nil=>intro i a b h1;simp at h1
 |cons p _ ih =>
  intro i a b h1 h2
  cases i with
  |zero=>simp at h1 h2;subst h1 h2;exact p
  |succ i=>exact ih (by simpa using h1) (by simpa using h2)
theorem Al.perm{α β:Type}{P:α->β->Prop}{l' l:List α}(p:l'.Perm l):∀{m:List β},Al P l m->∃m',m'.Perm m/\Al P l' m':=by
 induction p with
 |nil=>intro m h;exact⟨m,.refl _,h⟩
 |cons a _ ih =>
  intro m h
  cases h with
  |cons p t =>
   obtain⟨m',q,r⟩:=ih t;exact⟨_::m',q.cons _,.cons p r⟩
 |swap a b l =>
  intro m h
  cases h with
  |cons p t =>
   cases t with
   |cons p2 t2=>exact⟨_::_::_,.swap _ _ _,.cons p2 (.cons p t2)⟩
 |trans _ _ ih1 ih2 =>
  intro m h;obtain⟨m1,q1,r1⟩:=ih2 h;obtain⟨m2,q2,r2⟩:=ih1 r1;exact⟨m2,q2.trans q1,r2⟩
theorem Al.bind{α γ:Type}{P Q:α->List γ->Prop}(f:∀a b,P a b->∃c,Q a c/\c.Perm b){l:List α}{m:List (List γ)}(h:Al P l m):∃m',Al Q l m'/\m'.flatten.Perm m.flatten:=by
 induction h with
 |nil=>exact⟨[],.nil,.refl _⟩
 |cons p _ ih =>
  obtain⟨c,q1,q2⟩:=f _ _ p;obtain⟨m',r1,r2⟩:=ih;exact⟨c::m',.cons q1 r1,by rw[Bt,Bt];exact q2.append r2⟩
theorem zfK{γ:Type}{a b:List (List γ)}(p:a.Perm b):a.flatten.Perm b.flatten:=by
 induction p with
 |nil=>exact .refl _
 |cons x _ ih=>rw[Bt,Bt];exact ih.append_left _
 |swap x y l =>
  simp only[Bt];rw[<- Di,<- Di];exact List.perm_append_comm.append_right _
 |trans _ _ i1 i2=>exact i1.trans i2
structure Cans (C:Cell->Bool) (ESS:List (List Edge)) (R:List Rnd):Prop where
 al:Al (λr es=>Can C es r) R ESS
 nd:ESS.flatten.Nodup
 all:∀e,e∈ESS.flatten ↔ IsE C e
theorem Whole.cans{cs:List Cell}{R R0:List Rnd}(p:R.Perm R0)(h:Whole cs R0):∃ESS,Cans (isIn cs) ESS R:=by
 obtain⟨E,h1,h2⟩:=h;have a1:Al (λr es=>(∃b,Closed (isIn cs) b es)/\IsRnd (wk (isIn cs) es) r) R0 E:=Al.of h1.len λi r es e1 e2=>h1.each i es r e1 e2
 obtain⟨F,q1,a2⟩:=a1.perm p
 obtain⟨G,a3,q2⟩:=Al.bind (Q:=λr es=>Can (isIn cs) es r) (λr es ⟨⟨b,hb⟩,hr⟩=>by obtain⟨es',k1,k2,k3,k4,k5,_⟩:=IsRnd.walk hb hr;exact⟨es',⟨k1,k3,k4,k5⟩,k2⟩) a2
 have pm:=q2.trans (zfK q1);exact⟨G,a3,pm.nodup_iff.mpr h1.nd,λe=>by rw[pm.mem_iff];exact h2 e⟩
theorem Cans.so{C:Cell->Bool}{ESS:List (List Edge)}{R:List Rnd}(h:Cans C ESS R){i:Nat}{r:Rnd}(hr:R[i]?=some r):∃es,ESS[i]?=some es/\Can C es r:=by have hi:=(Ad.mp hr).1;rw[h.al.length]at hi;exact⟨_,Aa hi,h.al.at (Aa hi) hr⟩
inductive Lnk (C:Cell->Bool):Edge->List Edge->Prop where
 |one (e:Edge):Lnk C e []
 |more {e:Edge} {es:List Edge}:Lnk C (nxt C e) es->Lnk C e (nxt C e::es)
structure Box where
 (a b c d:Int)
theorem zda{α:Type}(f:α->Int):∀{l:List α},l≠[]->∃x∈l,∀y∈l,f x<=f y
 |[],h=>absurd rfl h
 |[x],_=>⟨x,by simp,λy hy=>by rw[Ap.mp hy];exact BG _⟩
 |x::z::l,_=>by
  obtain⟨y,hy,h⟩:=zda f (l:=z::l) (by simp)
  by_cases q:f x<=f y
  .refine⟨x,by simp,λw hw=>?_⟩;rcases Aw.mp hw with rfl |hw
   .exact BG _
   .have:=h w hw;lia
  .refine⟨y,At _ hy,λw hw=>?_⟩;rcases Aw.mp hw with rfl |hw
   .lia
   .exact h w hw
theorem VR.app{α:Type}{vs ws:List V}{l m:List α}{R:α->V->Hp->Prop}{H:Hp}(h:VR vs l R H)(k:VR ws m R H):VR (vs++ws) (l++m) R H:=by
 refine⟨by rw[Ak,Ak,h.1,k.1],λi x v h1 h2=>?_⟩
 by_cases hi:i<l.length
 .rw[AE hi]at h1;rw[AE (by rw[h.1];exact hi)]at h2;exact h.2 i x v h1 h2
 .rw[AQ (by lia)]at h1;rw[AQ (by rw[h.1];lia),h.1]at h2;exact k.2 _ x v h1 h2
noncomputable abbrev Bfr(a b:Cell):Prop:=HT.lexLt [a.2,a.1] [b.2,b.1]=true
noncomputable def lT(l:List (List Int)):PyData:=.list (l.map tI)
theorem zdb:∀l:List (List Int),B5 (l.map tI)=true
 |[]=>rfl
 |x::l=>by
  have:=zbm x;unfold BL at this;rw[A9]at this;show (B6 (tI x) && B5 (l.map tI))=true;rw[this.1,zdb l];rfl
theorem zdQ:∀l:List (List Int),Cq (l.map tI)<=1
 |[]=>AZ _
 |x::l=>by show max (BM (tI x)) (Cq (l.map tI))<=1;rw[zha];have:=zdQ l;lia
theorem zfq(l:List (List Int)):BL (lT l)=true:=by unfold BL lT;rw[B6,zdb l,BM];have:=zdQ l;simp only[Bool.true_and,decide_eq_true_eq];lia
noncomputable def cI(c:Cell):List Int:=[c.1,c.2]
theorem zfu{K:W.Frag}{H:Hp}:∀{vs:List V}{cs:List Cell},VR vs cs cR H->RDs K H vs ((cs.map cI).map tI)
 |[],[],_=>.nil
 |[],_::_,h=>by have:=h.1;cases this
 |_::_,[],h=>by have:=h.1;cases this
 |v::vs,r::R,h=>by
  obtain⟨⟨b,rfl,q⟩,h2⟩:=VR.cons.mp h;exact .cons (.tup (SqT.of q) (RDs.ints (cI r))) (zfu h2)
theorem zjD{K:W.Frag}{H:Hp}{a:Addr}{vs:List V}{cs:List Cell}(e:SqL K H a vs)(h:VR vs cs cR H):RD K H (.ref a) (lT (cs.map cI)):=.lst e (zfu h)
noncomputable def zfn(K:W.Frag):Sp:=λvs H Q _=>∃(v:V) (r:Rnd) (C:Cell->Bool) (es:List Edge),vs=[v]/\rR r v H/\Can C es r/\es.length<=480/\∀p H' us,H p=none->Same H H'->H' p=some (.lst us)->VR us es eR H'->Q (.ref p) H'
theorem zgo (g_walk_of:Fn P w K mg base 5 "walk_of" ["one"] (zgH K)) (d:Df K mg "edges_of" zco ["one"]):FnOk P w K mg base CX0 6 d.f d.fd ["one"] (zfn K):=by
 refine d.F.ok zgd (λvs H Q E h=>?_) (λcdv A outer s H vs Q E hr h=>?_)
 .obtain⟨v,r,C,es,rfl,_⟩:=h;rfl
 .obtain⟨v,r,C,es,rfl,hv,hc,hlen,k⟩:=h;have nb0:(["edge","step"]:List Str).Nodup:=by decide +kernel
  refine⟨_,(zah (zal (zaZ (osc:=zaf zco) (N:=zeo) (N':=["edge","step"]) (sel:=[none,none]) bO (zaO (pC g_walk_of hr (pa_N (pv 0) zab))) (λ_ _ _ _ _=>(zbA (K:=K) (n:=2) (by rfl) (zad (nG 0 nb0) (zad (nG 1 nb0) zao)))) (λ_ _ _ _ _=>zcV) (λ_ _ _ _ _=>(pv 0))))),?_⟩;refine⟨_,rfl,v,r,C,es,rfl,hv,hc.cl,hc.row,hc.bg,hc.so,by lia,λp H1 ws hp s1 e1 hw=>?_⟩;refine⟨p,rfl,⟨_,SqL.of e1⟩,λg hg=>?_⟩;have wl:ws.length=es.length:=by rw[hw.1,zb4]
  refine zaA (K:=K) (a:=p) (xs:=ws) (λj σ H2=>∃o0 o1,σ=[o0,o1]/\Same H1 H2/\∃zs,H2 g=some (.lst zs)/\VR zs (es.take j) eR H2)
   ⟨_,_,rfl,Same.up hg,[],zaa,VR.nil⟩ (λj σ H2 _ ⟨_,_,_,s2,_⟩=>SqL.of (s2 _ _ e1)) ?_ ?_
  .rintro j u σ H2 hj ⟨o0,o1,rfl,s2,zs,e2,hz⟩;have hjl:j<ws.length:=(Ad.mp hj).1;obtain⟨⟨f,st⟩,he,B,bb,rfl,q1,q2⟩:=hw.at hj
   have hf:es[j]?=some f:=by
    unfold wk at he;rw[Az]at he;obtain⟨y,hy,ey⟩:=Bn.mp he
    cases ey;exact hy
   have hl3:zs.length<=480:=by rw[hz.1,A6];lia
   refine⟨B,_,rfl,SqT.of (s2 _ _ q1),rfl,_,_,rfl,_,_,rfl,rfl,?_⟩;refine zcn ?_
   refine⟨_,rfl,zs,e2,zak (by lia),_,_,rfl,zam hg s2,_,zaa,?_⟩;rw[zaS hf];exact hz.snoc (λx v h=>h.kt (KT.lst e2)) ⟨bb,rfl,KT.lst e2 _ _ (s2 _ _ q2)⟩
  .rintro σ H2 ⟨o0,o1,rfl,s2,zs,e2,hz⟩;rw[wl,AV]at hz;exact k g H2 zs (s1.free hg) (s1.trans s2) e2 hz
theorem cpow{i j:Int}(h:0<=j/\j<=1000000/\i.natAbs<2 ^ 64):CPow i j:=h
theorem zh8{b:Int}(h0:0<b)(h:b<=6000):b.natAbs.log2<9000:=by refine (Nat.log2_lt (by lia)).mpr (AB (show b.natAbs<2 ^ 13 by lia) (Nat.pow_le_pow_right (by decide) (by decide)))
theorem zlI{cs:List Cell}(h:cs.Pairwise Bfr):InOrd cs:=by intro i c d h1 h2;have hi:=(Ad.mp h1).1;have hj:=(Ad.mp h2).1;have e1:=(Ad.mp h1).2;have e2:=(Ad.mp h2).2;have a:=List.pairwise_iff_getElem.mp h i (i+1) hi hj (by lia);rw[e1,e2]at a;exact a
theorem zjk{a b y:Int}(h:a<b):Bfr (a,y) (b,y):=by show HT.lexLt [y,a] [y,b]=true;rw[HT.lexLt_cons,if_pos rfl,HT.lexLt_cons,if_neg (by lia)];exact decide_eq_true h
theorem zkA{a b:Cell}(h:a.2<b.2):Bfr a b:=by show HT.lexLt [a.2,a.1] [b.2,b.1]=true;rw[HT.lexLt_cons,if_neg (by lia)];exact decide_eq_true h
noncomputable def zdl(K:W.Frag):Sp:=λvs H Q _=>∃(a:Addr) (ns:List Int) (k:Nat),vs=[.ref a,.int k]/\SqL K H a (ns.map V.int)/\∀n,Q (.int n) H
theorem zdZ (T:Txt P w K mg) (d:Df K mg "_law_cell_at" zbH ["_law_script","_law_k"]):FnOk P w K mg base CX0 1 d.f d.fd ["_law_script","_law_k"] (zdl K):=by
 refine d.F.ok zdz (λvs H Q E h=>?_) (λcdv A outer s H vs Q E hr h=>?_)
 .obtain⟨a,ns,k,rfl,_⟩:=h;rfl
 .obtain⟨a,ns,i,rfl,hq,k⟩:=h
  refine⟨_,(zac (ps_if (zaq op_lt (pv 1) (zaw zav (by rfl) T.nlen (by rfl) (pa_N (pv 0) zab)) (zas _))
   (zah (zal (pe_ix zaR (pv 0) (pv 1) (λ_ _=>rfl))))
   zaK)
   (zah (zal zae))),?_⟩
  refine⟨_,rfl,_,rfl,a,_,rfl,.inl hq,_,_,rfl,rfl,_,rfl,?_⟩;refine ite2 (λhy=>?_) (λhn=>k 0)
  have hlt:i<ns.length:=by have:=of_decide_eq_true hy;rw[Ag]at this;lia
  exact⟨_,rfl,_,rfl,a,_,_,_,rfl,rfl,hq,zat (v:=.int ns[i]) (by simp[hlt]),k _⟩
noncomputable def spRow:Sp:=λvs H Q _=>∃(c b:Int) (m:Nat),vs=[.int c,.int m,.int b]/\m<=60/\0<b/\b<=6000/\∀p H' (ns:List Int),H p=none->Same H H'->H' p=some (.lst (ns.map V.int))->ns.length=m->(∀n∈ns,0<=n/\n<b)->Q (.ref p) H'
theorem zhr (T:Txt P w K mg) (d:Df K mg "_law_row" zcS ["_law_cell","_law_many","_law_base"]):FnOk P w K mg base CX0 1 d.f d.fd ["_law_cell","_law_many","_law_base"] spRow:=by
 refine d.F.ok zba (λvs H Q E h=>?_) (λcdv A outer s H vs Q E hr h=>?_)
 .obtain⟨c,b,m,rfl,_⟩:=h;rfl
 .obtain⟨c,b,m,rfl,hm,hb,hb2,k⟩:=h
  refine⟨_,(zac (sE 3 zba.nd (zaY zab))
   (zac (sE 4 zba.nd (pe_op zbt (pv 0) (pe_op ziu zae zae)))
   (zac (sE 5 zba.nd (pe_op zaF (pv 0) zae))
   (zac (zbo A5 rfl (zbp (by rfl) T.nrange (pa_N (pv 1) zab)) (nG 6 zba.nd)
   (zah (ps_if (zaq op_ge (pv 0) (pe_op ziu zae zae) (zas _))
   (zac (za1 (pe_bm AD AL AM zaE (pv 3) (pa_B (pe_op zaF (pv 4) (pv 2)) zab)))
   (zah (sE 4 zba.nd (pe_op zjP (pv 4) (pv 2)))))
   (zac (sE 5 zba.nd (pe_op zaF (pe_op zax (pe_op zax (pe_op zbF (pv 5) zae) (pe_op zbF (pe_op zbF (pv 6) (pv 6)) zae)) zae) zae))
   (zah (za1 (pe_bm AD AL AM zaE (pv 3) (pa_B (pe_op zaF (pe_op zgi (pe_op zaF (pe_op zbF (pv 5) (pv 5)) zae) zae) (pv 2)) zab))))))))
   (zah (zal (pv 3))))))),?_⟩
  have hmod:∀z:Int,0<=z % b/\z % b<b:=λz=>⟨C6 _ (by lia),Cy _ hb⟩
  have hnum:∀z:Int,0<=z % 2147483629/\z % 2147483629<2147483629:=λz=>⟨C6 _ (by decide),Cy _ (by decide)⟩
  refine⟨(by show 0<=sizeLine;decide),λp hp=>?_⟩;have s1:Same H (upd H p (.lst [])):=Same.up hp;have e1:upd H p (.lst []) p=some (.lst []):=zaa;generalize upd H p (.lst [])=H1 at s1 e1;refine⟨_,rfl,_,_,rfl,rfl,(by refine cpow ?_;decide),_,_,rfl,rfl,?_⟩;refine⟨_,rfl,_,_,rfl,rfl,(by show (0:Int)<2147483629;decide),?_⟩;refine⟨_,rfl,_,rfl,(by lia),(by lia),?_⟩
  refine za7 (lo:=0) (n:=m) (λi σ H2=>∃(l q:Int) (o:Option V) (ns:List Int),σ=[some (.int c),some (.int m),some (.int b),some (.ref p),some (.int l),some (.int q),o]/\0<=q/\q<2147483629/\Same H H2/\H2 p=some (.lst (ns.map V.int))/\ns.length=i/\∀n∈ns,0<=n/\n<b)
   ⟨_,_,_,[],rfl,(hnum c).1,(hnum c).2,s1,e1,rfl,by simp⟩ ?_ ?_
  .rintro i σ H2 hi ⟨l,q,o,ns,rfl,q0,q1,s2,e2,hl,hall⟩
   have snoc:∀z:Int,0<=z->z<b->(ns++[z]).length=i+1/\∀n∈ns++[z],0<=n/\n<b:=λz z0 z1=>⟨by rw[Ak,hl];rfl,λn hn=>by
    rcases AW.mp hn with h |h
    .exact hall n h
    .rw[Ap.mp h];exact⟨z0,z1⟩⟩
   refine⟨_,rfl,_,_,rfl,rfl,(by refine cpow ?_;decide),_,_,rfl,rfl,_,rfl,?_⟩;refine ite2 (λ_=>?_) (λ_=>?_)
   .refine⟨_,rfl,.inl ⟨rfl,_,SqL.of e2⟩,_,rfl,_,rfl,_,_,rfl,rfl,hb,p,_,_,rfl,rfl,e2,zak (by rw[Ag];lia),?_⟩;refine⟨_,rfl,_,rfl,_,_,rfl,rfl,⟨hb,zh8 hb hb2⟩,?_⟩;obtain⟨z1,z2⟩:=snoc (l % b) (hmod l).1 (hmod l).2;exact⟨_,q,_,ns++[l % b],rfl,q0,q1,zam hp s2,by rw[zaa,AA];rfl,z1,z2⟩
   .refine⟨_,rfl,_,_,rfl,rfl,.inr ⟨by decide,by decide⟩,_,rfl,_,rfl,_,_,rfl,rfl,.inl ⟨by lia,by lia⟩,_,_,rfl,rfl,.inr ⟨by decide,by decide⟩,_,_,rfl,rfl,_,_,rfl,rfl,_,_,rfl,rfl,(by show (0:Int)<2147483629;decide),?_⟩;obtain⟨n0,n1⟩:=hnum (q*48271+(0+(i:Int))*(0+(i:Int))*69621+11);refine⟨_,rfl,.inl ⟨rfl,_,SqL.of e2⟩,_,rfl,_,rfl,_,_,rfl,rfl,.inl ⟨by lia,by lia⟩,_,_,rfl,rfl,(by show (0:Int)<2147483647;decide),_,_,rfl,rfl,⟨by decide,by decide⟩,_,rfl,_,_,rfl,rfl,hb,p,_,_,rfl,rfl,e2,zak (by rw[Ag];lia),?_⟩;obtain⟨z1,z2⟩:=snoc (((q*48271+(0+(i:Int))*(0+(i:Int))*69621+11) % 2147483629)*((q*48271+(0+(i:Int))*(0+(i:Int))*69621+11) % 2147483629) % 2147483647 / 64 % b) (hmod _).1 (hmod _).2;exact⟨l,((q*48271+(0+(i:Int))*(0+(i:Int))*69621+11) % 2147483629),_,ns++[((q*48271+(0+(i:Int))*(0+(i:Int))*69621+11) % 2147483629)*((q*48271+(0+(i:Int))*(0+(i:Int))*69621+11) % 2147483629) % 2147483647 / 64 % b],rfl,n0,n1,zam hp s2,by rw[zaa,AA];rfl,z1,z2⟩
  .rintro σ H2 ⟨l,q,o,ns,rfl,q0,q1,s2,e2,hl,hall⟩;exact⟨_,rfl,k p H2 ns hp s2 e2 hl hall⟩
noncomputable def rowX(ns:List Int)(sh dx y:Int)(n:Nat):List Cell:=((AG n).filter λx=>decide (ns.getD x 0<=sh)).map λx:Nat=>((x:Int)+dx,y)
theorem zig(ns:List Int)(sh dx y:Int)(n:Nat):rowX ns sh dx y (n+1)=rowX ns sh dx y n++(if ns.getD n 0<=sh then [((n:Int)+dx,y)] else []):=by
 unfold rowX;rw[C7,BU,AA]
 congr 1
 by_cases h:ns.getD n 0<=sh
 .rw[if_pos h]
  have e:(List.filter (λx=>decide (ns.getD x 0<=sh)) [n])=[n]:=by show (match decide (ns.getD n 0<=sh) with |true=>[n] |false=>[])=[n];rw[decide_eq_true h]
  rw[e];rfl
 .rw[if_neg h]
  have e:(List.filter (λx=>decide (ns.getD x 0<=sh)) [n])=[]:=by show (match decide (ns.getD n 0<=sh) with |true=>[n] |false=>[])=[];rw[decide_eq_false h]
  rw[e];rfl
theorem zdD(ns:List Int)(sh dx y:Int)(n:Nat):(rowX ns sh dx y n).length<=n:=by
 unfold rowX;rw[Ag];refine AO (AY _ _) ?_
 rw[Bp];exact Ai _
theorem zkM(ns:List Int)(sh dx y:Int)(n:Nat):(rowX ns sh dx y n).Pairwise Bfr:=by unfold rowX;rw[List.pairwise_map];refine (List.pairwise_lt_range.filter _).imp λ{a b} h=>zjk (by lia)
theorem zkk{ns:List Int}{sh dx y:Int}{n:Nat}{c:Cell}(h:c∈rowX ns sh dx y n):c.2=y:=by obtain⟨x,_,rfl⟩:=Ay.mp h;rfl
theorem zly{ns:List Int}{sh dx y:Int}{n:Nat}{c:Cell}(h:c∈rowX ns sh dx y n):dx<=c.1/\c.1<dx+n:=by obtain⟨x,hx,rfl⟩:=Ay.mp h;have:=BB.mp (CZ.mp hx).1;show dx<=(x:Int)+dx/\(x:Int)+dx<dx+n;lia
noncomputable def zkf(K:W.Frag):Sp:=λvs H Q _=>∃(a:Addr) (ns:List Int) (st:Nat),vs=[.ref a,.int st]/\SqL K H a (ns.map V.int)/\∀p H' vs cs,H p=none->Same H H'->H' p=some (.lst vs)->VR vs cs cR H'->cs.Pairwise Bfr->cs.length<=120->(∃l lo:Int,∀c∈cs,l<=c.1/\c.1<l+12/\lo<=c.2/\c.2<lo+10)->Q (.ref p) H'
theorem six{α:Type}{l:List α}(h:l.length=6):∃a b c d e f,l=[a,b,c,d,e,f]:=by
 match l,h with
 |[a,b,c,d,e,f],_=>exact⟨a,b,c,d,e,f,rfl⟩
theorem zdY (T:Txt P w K mg) (g__law_cell_at:Fn P w K mg base 1 "_law_cell_at" ["_law_script", "_law_k"] (zdl K)) (g__law_row:Fn P w K mg base 1 "_law_row" ["_law_cell", "_law_many", "_law_base"] spRow)
    (d:Df K mg "_law_picture" zbl ["_law_script","_law_start"]):FnOk P w K mg base CX0 2 d.f d.fd ["_law_script","_law_start"] (zkf K):=by
  refine d.F.ok zan (λvs H Q E h=>?_) (λcdv A outer s H vs Q E hr h=>?_)
  . obtain⟨a,ns,st,rfl,_⟩:=h;rfl
  . obtain⟨a,ns,st,rfl,hS,k⟩:=h;have nb0:(["_law_x","_law_y","_law_far","_law_row_here","_law_share","_law_left","_law_low"]:List Str).Nodup:=by decide +kernel
    refine⟨_,(zac (zbf (pC g__law_row hr (zai (pC g__law_cell_at hr (pa_N (pv 0) (pa_N (pv 1) zab))) (pa_C zae (pa_C zae zab)))) (zkl (by rfl) (zad (nG 2 zan.nd) (zad (nG 3 zan.nd) (zad (zbT (i:=4) zan.nd (by rfl) (CP rfl)) (zad (zbT (i:=5) zan.nd (by rfl) (CP rfl)) (zad (zbT (i:=6) zan.nd (by rfl) (CP rfl)) (zad (nG 7 zan.nd) zao))))))))
      (zac (zc8 (i:=8) zan.nd (by rfl) (CP rfl) (pe_ix zaR (zaY (pa_C zae (pa_B (pe_op ziu zae zae) zab))) (pe_op zgi (pv 7) zae) (λ_ _=>rfl)))
      (zac (sE 9 zan.nd (zaY zab))
      (zac (zbo A5 rfl (zbp (by rfl) T.nrange (pa_B (pe_op zax zae (pe_op zaF (pv 3) zae)) zab)) (zbT (i:=10) zan.nd (by rfl) (CP rfl))
      (zac (zc8 (i:=11) zan.nd (by rfl) (CP rfl) (pC g__law_row hr (pa_B (pe_op zax (pC g__law_cell_at hr (pa_N (pv 0) (pa_B (pe_op zax (pe_op zax (pv 1) zae) (pv 10)) zab))) (pv 10)) (pa_B (pe_op zax zae (pe_op zaF (pv 2) zae)) (pa_C zae zab)))))
      (zah (za1 (pe_bm AD DG DH zdI (pv 9) (zai (zaZ (osc:=zaf zbl) (N:=zcw) (N':=["_law_x","_law_y","_law_far","_law_row_here","_law_share","_law_left","_law_low"]) (sel:=[none,some 10,some 8,some 11,some 4,some 5,some 6]) bO (zbp (by rfl) T.nrange (zai (zaw zav (by rfl) T.nlen (by rfl) (pa_N (pv 11) zab)) zab)) (λ_ _ _ _ _=>(nG 0 nb0)) (λ_ _ _ _ _=>zbs (zaq op_le (pe_ix (zg3 (K:=K)) (pv 3) (pv 0) (λ_ _=>rfl)) (pe_op zaF (pv 4) zae) (zas _))) (λ_ _ _ _ _=>(zar (pa_B (pe_op zax (pv 0) (pe_op zbF (pe_op zbt (pv 5) zae) (pv 2))) (pa_B (pe_op zax (pv 1) (pe_op zbF (pe_op zbt (pv 6) zae) (pv 2))) zab))))) zab))))))
      (zah (zal (pv 9))))))),?_⟩
    refine⟨_,rfl,_,rfl,a,ns,st,rfl,hS,λc0=>⟨c0,60,6,rfl,by decide,by decide,by decide,λp1 H1 ms hp1 s1 e1 hl1 hb1=>?_⟩⟩;obtain⟨wd,hg,sh,lf,lw,wy,rfl⟩:=six hl1;have bw:=hb1 wd (by simp);have bh:=hb1 hg (by simp);have bl:=hb1 lf (by simp);have bo:=hb1 lw (by simp);have by':=hb1 wy (by simp);refine⟨p1,_,rfl,SqL.of e1,rfl,_,_,rfl,_,_,rfl,_,_,rfl,_,_,rfl,_,_,rfl,_,_,rfl,rfl,?_⟩;refine⟨_,_,rfl,rfl,(by refine cpow ?_;decide),two,λl2 hl2=>?_⟩;have s2:Same H1 (upd H1 l2 (.lst [.int 1,.int (10 ^ (28:Int).toNat)])):=Same.up hl2;have e2:upd H1 l2 (.lst [.int 1,.int (10 ^ (28:Int).toNat)]) l2=some (.lst [.int 1,.int (10 ^ (28:Int).toNat)]):=zaa;generalize upd H1 l2 (.lst [.int 1,.int (10 ^ (28:Int).toNat)])=H2 at s2 e2
    obtain⟨far,hfar⟩:∃far:Int,atI [V.int 1,V.int (10 ^ (28:Int).toNat)] (wy / 50)=some (.int far):=by
      have:wy / 50=0∨wy / 50=1:=by lia
      rcases this with z |z <;> rw[z]
      . exact⟨_,rfl⟩
      . exact⟨_,rfl⟩
    refine⟨_,rfl,_,_,rfl,rfl,⟨by decide,by decide⟩,l2,_,_,_,rfl,rfl,SqL.of e2,hfar,?_⟩;refine⟨(by show 0<=sizeLine;decide),λf hf=>?_⟩;have s3:Same H2 (upd H2 f (.lst [])):=Same.up hf;have e3:upd H2 f (.lst []) f=some (.lst []):=zaa;generalize upd H2 f (.lst [])=H3 at s3 e3;have s02:=s1.trans s2;have hf0:H f=none:=s02.free hf;have s03:=s02.trans s3;have hh0:=C6 hg (show (10:Int)≠0 by decide);have hh1:=Cy hg (show (0:Int)<10 by decide);have hw0:=C6 wd (show (12:Int)≠0 by decide);have hw1:=Cy wd (show (0:Int)<12 by decide);refine⟨_,rfl,_,_,rfl,rfl,(by show (0:Int)<10;decide),_,_,rfl,rfl,_,rfl,(by show -(2 ^ 62)<=1+hg % 10;lia),(by show 1+hg % 10<2 ^ 62;lia),?_⟩
    refine za7 (lo := 0) (n := (1 + hg % 10).toNat) (λi σ H4 => ∃o10 o11, σ = [some (.ref a), some (.int st), some (.int wd), some (.int hg), some (.int sh), some (.int lf), some (.int lw), some (.int wy), some (.int far), some (.ref f), o10, o11] /\ Same H H4 /\
        ∃vs cs,H4 f=some (.lst vs)/\VR vs cs cR H4/\cs.Pairwise Bfr/\(∀c∈cs,c.2<(i:Int)+(lw-30)*far/\(lw-30)*far<=c.2/\(lf-30)*far<=c.1/\c.1<(lf-30)*far+12)/\cs.length<=12*i)
      ⟨_,_,rfl,s03,[],[],e3,VR.nil,.nil,by simp,AZ _⟩ ?_ ?_
    . rintro i σ H4 hi ⟨o10,o11,rfl,s4,vs,cs,e4,hv4,hpw,hup,hcl⟩;have hi10:i<10:=by lia
      refine⟨_,rfl,_,rfl,_,_,rfl,rfl,_,rfl,_,_,rfl,rfl,a,ns,st+1+i,(by rw[CH];rfl),s4.seq hS,λc1=>⟨_,rfl,_,_,rfl,rfl,?_⟩⟩;refine⟨_,rfl,_,_,rfl,rfl,(by show (0:Int)<12;decide),_,_,rfl,rfl,_,4,(1+wd % 12).toNat,(by rw[Int.toNat_of_nonneg (by lia)];rfl),by lia,by decide,by decide,λp5 H5 rs hp5 s5 e5 hl5 _=>?_⟩;have e45:=s5 _ _ e4;refine⟨_,rfl,.inl ⟨rfl,_,SqL.of e45⟩,_,rfl,p5,_,rfl,.inl (SqL.of e5),_,rfl,(by rw[Ag];lia),(by rw[Ag];lia),λg hg5=>?_⟩;rw[show ((((rs.map V.int).length:Nat):Int)).toNat=rs.length by rw[Ag];rfl];have hrl:rs.length<=12:=by lia
      refine za7 (lo:=0) (n:=rs.length) (λj σ H6=>∃o0,σ=[o0,some (.int (0+(i:Int))),some (.int far),some (.ref p5),some (.int sh),some (.int lf),some (.int lw)]/\Same H5 H6/\∃zs,H6 g=some (.lst zs)/\VR zs (rowX rs (sh % 3) ((lf-30)*far) ((i:Int)+(lw-30)*far) j) cR H6)
        ⟨_,rfl,Same.up hg5,[],zaa,VR.nil⟩ ?_ ?_
      . rintro j σ H6 hj ⟨o0,rfl,s6,zs,e6,hz6⟩;have hzl:zs.length<=12:=by rw[hz6.1];have:=zdD rs (sh % 3) ((lf-30)*far) ((i:Int)+(lw-30)*far) j;lia
        have hget:(rs.map V.int)[j]?=some (.int (rs.getD j 0)):=by rw[Az,AS,Aa hj];rfl
        refine⟨_,rfl,_,rfl,p5,_,_,_,rfl,rfl,SqL.of (s6 _ _ e5),(by rw[CH];exact zat hget),_,rfl,_,_,rfl,rfl,(by show (0:Int)<3;decide),_,_,rfl,rfl,_,rfl,?_⟩;rw[zig];refine ite2 (λhy=>?_) (λhn=>?_)
        . rw[if_pos (of_decide_eq_true hy)];refine⟨_,rfl,_,rfl,_,_,rfl,rfl,_,rfl,_,_,rfl,rfl,.inl ⟨by lia,by lia⟩,_,_,rfl,rfl,?_⟩;refine⟨_,rfl,_,rfl,_,_,rfl,rfl,_,rfl,_,_,rfl,rfl,.inl ⟨by lia,by lia⟩,_,_,rfl,rfl,two,λt ht=>?_⟩;have s7:Same H6 (upd H6 t (.tup [.int (0+(j:Int)+(lf-30)*far),.int (0+(i:Int)+(lw-30)*far)])):=Same.up ht;have r7:cR ((j:Int)+(lf-30)*far,(i:Int)+(lw-30)*far) (.ref t) (upd H6 t (.tup [.int (0+(j:Int)+(lf-30)*far),.int (0+(i:Int)+(lw-30)*far)])):=⟨t,rfl,by rw[zaa,CH,CH];rfl⟩;generalize upd H6 t (.tup [.int (0+(j:Int)+(lf-30)*far),.int (0+(i:Int)+(lw-30)*far)])=H7 at s7 r7;have e7:=s7 _ _ e6;refine⟨zs,e7,zak (by lia),_,rfl,zam hg5 (s6.trans s7),_,zaa,?_⟩;exact hz6.snoc (λx v h=>(h.kt (KT.of s7)).kt (KT.lst e7)) (r7.kt (KT.lst e7))
        . rw[if_neg (by simpa using hn)];exact⟨_,rfl,s6,zs,e6,by rw[A0];exact hz6⟩
      . rintro σ H6 ⟨o0,rfl,s6,zs,e6,hz6⟩;have hrx:=zdD rs (sh % 3) ((lf-30)*far) ((i:Int)+(lw-30)*far) rs.length;have hzl:zs.length<=12:=by rw[hz6.1];lia
        have hvl:vs.length<=120:=by rw[hv4.1];lia
        have e46:=s6 _ _ e45;refine⟨f,g,_,_,rfl,rfl,e46,e6,Bj (zak (by lia)),?_⟩;have k7:KT H6 (upd H6 f (.lst (vs++zs))):=KT.lst e46;refine⟨_,_,rfl,zam hf0 (s4.trans (s5.trans s6)),_,_,zaa,(hv4.mono λx v h=>(h.kt (KT.of (s5.trans s6))).kt k7).app (hz6.mono λx v h=>h.kt k7),?_,?_,?_⟩
        . refine DV.mpr ⟨hpw,zkM _ _ _ _ _,λx hx y hy=>zkA ?_⟩;have:=(hup x hx).1;rw[zkk hy];exact this
        . intro c hc;rcases AW.mp hc with h |h
          . have:=hup c h;lia
          . have e1:=zkk h;have e2:=zly h;lia
        . rw[Ak];lia
    . rintro σ H4 ⟨o10,o11,rfl,s4,vs,cs,e4,hv4,hpw,hup,hcl⟩;exact⟨_,rfl,k f H4 vs cs hf0 s4 e4 hv4 hpw (by lia) ⟨(lf-30)*far,(lw-30)*far,λc hc=>by have:=hup c hc;lia⟩⟩
theorem mv8{i:Nat}(h:i < 8){t0 t1 t2 t3 t4 t5 t6 t7:Addr}{H:Hp}(f0:H t0=some (.tup [.int 1, .int 0]))(f1:H t1=some (.tup [.int 1, .int 1]))(f2:H t2=some (.tup [.int 0, .int 1]))(f3:H t3=some (.tup [.int (-1), .int 1]))
  (f4:H t4=some (.tup [.int (-1),.int 0])) (f5:H t5=some (.tup [.int (-1),.int (-1)])) (f6:H t6=some (.tup [.int 0,.int (-1)])) (f7:H t7=some (.tup [.int 1,.int (-1)])) :
  ∃t,([V.ref t0,.ref t1,.ref t2,.ref t3,.ref t4,.ref t5,.ref t6,.ref t7]:List V)[i]?=some (.ref t)/\H t=some (.tup [.int (mv i).1,.int (mv i).2]):=by
 have:i=0∨i=1∨i=2∨i=3∨i=4∨i=5∨i=6∨i=7:=by lia
 rcases this with rfl |rfl |rfl |rfl |rfl |rfl |rfl |rfl
 .exact⟨_,rfl,f0⟩
 .exact⟨_,rfl,f1⟩
 .exact⟨_,rfl,f2⟩
 .exact⟨_,rfl,f3⟩
 .exact⟨_,rfl,f4⟩
 .exact⟨_,rfl,f5⟩
 .exact⟨_,rfl,f6⟩
 .exact⟨_,rfl,f7⟩
theorem zgl (d:Df K mg "_law_gone" zcB ["_law_x","_law_y","_law_step"]):FnOk P w K mg base CX0 1 d.f d.fd ["_law_x","_law_y","_law_step"] zc7:=by
 refine d.F.ok zb6 (λvs H Q E h=>?_) (λcdv A outer s H vs Q E hr h=>?_)
 .obtain⟨c,i,rfl,_⟩:=h;rfl
 .obtain⟨c,i,rfl,hi,k⟩:=h
  refine⟨_,(zac (zbf (pe_ix zaR (zaY (zai (zar (zai zae (zai zae zab))) (zai (zar (zai zae (zai zae zab))) (zai (zar (zai zae (zai zae zab))) (zai (zar (zai (pe_un zc6 zae) (zai zae zab))) (zai (zar (zai (pe_un zc6 zae) (zai zae zab))) (zai (zar (zai (pe_un zc6 zae) (zai (pe_un zc6 zae) zab))) (zai (zar (zai zae (zai (pe_un zc6 zae) zab))) (zai (zar (zai zae (zai (pe_un zc6 zae) zab))) zab))))))))) (pv 2) (λ_ _=>rfl)) (za2 (by rfl) (zad (nG 3 zb6.nd) (zad (nG 4 zb6.nd) zao))))
   (zah (zal (zar (zai (pe_op zax (pv 0) (pv 3)) (zai (pe_op zax (pv 1) (pv 4)) zab)))))),?_⟩
  refine⟨two,λt0 h0=>?_⟩;have s0:=Same.up (o:=.tup [.int 1,.int 0]) h0;have f0:upd H t0 (.tup [.int 1,.int 0]) t0=some (.tup [.int 1,.int 0]):=zaa;generalize upd H t0 (.tup [.int 1,.int 0])=H0 at s0 f0;refine⟨two,λt1 h1=>?_⟩;have s1:=Same.up (o:=.tup [.int 1,.int 1]) h1;have f1:upd H0 t1 (.tup [.int 1,.int 1]) t1=some (.tup [.int 1,.int 1]):=zaa;generalize upd H0 t1 (.tup [.int 1,.int 1])=H1 at s1 f1;refine⟨two,λt2 h2=>?_⟩;have s2:=Same.up (o:=.tup [.int 0,.int 1]) h2;have f2:upd H1 t2 (.tup [.int 0,.int 1]) t2=some (.tup [.int 0,.int 1]):=zaa;generalize upd H1 t2 (.tup [.int 0,.int 1])=H2 at s2 f2;refine⟨_,rfl,two,λt3 h3=>?_⟩;have s3:=Same.up (o:=.tup [.int (-1),.int 1]) h3;have f3:upd H2 t3 (.tup [.int (-1),.int 1]) t3=some (.tup [.int (-1),.int 1]):=zaa;generalize upd H2 t3 (.tup [.int (-1),.int 1])=H3 at s3 f3;refine⟨_,rfl,two,λt4 h4=>?_⟩;have s4:=Same.up (o:=.tup [.int (-1),.int 0]) h4;have f4:upd H3 t4 (.tup [.int (-1),.int 0]) t4=some (.tup [.int (-1),.int 0]):=zaa;generalize upd H3 t4 (.tup [.int (-1),.int 0])=H4 at s4 f4;refine⟨_,rfl,_,rfl,two,λt5 h5=>?_⟩;have s5:=Same.up (o:=.tup [.int (-1),.int (-1)]) h5;have f5:upd H4 t5 (.tup [.int (-1),.int (-1)]) t5=some (.tup [.int (-1),.int (-1)]):=zaa;generalize upd H4 t5 (.tup [.int (-1),.int (-1)])=H5 at s5 f5;refine⟨_,rfl,two,λt6 h6=>?_⟩;have s6:=Same.up (o:=.tup [.int 0,.int (-1)]) h6;have f6:upd H5 t6 (.tup [.int 0,.int (-1)]) t6=some (.tup [.int 0,.int (-1)]):=zaa;generalize upd H5 t6 (.tup [.int 0,.int (-1)])=H6 at s6 f6;refine⟨_,rfl,two,λt7 h7=>?_⟩;have s7:=Same.up (o:=.tup [.int 1,.int (-1)]) h7;have f7:upd H6 t7 (.tup [.int 1,.int (-1)]) t7=some (.tup [.int 1,.int (-1)]):=zaa;generalize upd H6 t7 (.tup [.int 1,.int (-1)])=H7 at s7 f7;refine⟨(by show 8<=sizeLine;decide),λl hl=>?_⟩;have s8:=Same.up (o:=.lst [.ref t0,.ref t1,.ref t2,.ref t3,.ref t4,.ref t5,.ref t6,.ref t7]) hl;have f8:upd H7 l (.lst [.ref t0,.ref t1,.ref t2,.ref t3,.ref t4,.ref t5,.ref t6,.ref t7]) l=some (.lst [.ref t0,.ref t1,.ref t2,.ref t3,.ref t4,.ref t5,.ref t6,.ref t7]):=zaa;generalize upd H7 l (.lst [.ref t0,.ref t1,.ref t2,.ref t3,.ref t4,.ref t5,.ref t6,.ref t7])=H8 at s8 f8;have s67:=s7.trans s8;have s57:=s6.trans s67;have s47:=s5.trans s57;have s37:=s4.trans s47;have s27:=s3.trans s37;have s17:=s2.trans s27;have s07:=s1.trans s17;obtain⟨t,ht,ft⟩:=mv8 hi (s07 _ _ f0) (s17 _ _ f1) (s27 _ _ f2) (s37 _ _ f3) (s47 _ _ f4) (s57 _ _ f5) (s67 _ _ f6) (s8 _ _ f7);refine⟨_,rfl,l,_,_,_,rfl,rfl,SqL.of f8,zat ht,t,_,rfl,SqT.of ft,rfl,_,_,rfl,_,_,rfl,rfl,?_⟩;refine⟨_,rfl,_,rfl,_,_,rfl,rfl,_,rfl,_,rfl,_,_,rfl,rfl,two,λp hp=>?_⟩;have s08:=s0.trans s07;exact k p _ (s08.free hp) (s08.trans (Same.up hp)) zaa
noncomputable def keyR(k:List Key)(v:V)(H:Hp):Prop:=∃b,v=.ref b/\H b=some (.tup (k.map kV))
noncomputable def tru(ks:List (List Key)):List (List Key×V):=ks.map λk=>(k,V.bl true)
theorem putK_new{ks:List (List Key)}{k:List Key}(h:k ∉ ks):putK (tru ks) k (.bl true)=tru (ks++[k]):=by
 unfold putK tru;rw[if_neg (λz=>?_),AA]
 .rfl
 .obtain⟨x,hx,e⟩:=List.any_eq_true.mp z;obtain⟨y,hy,rfl⟩:=Ay.mp hx;exact h (by rw[<- of_decide_eq_true e];exact hy)
theorem zhT:∀{ks:List (List Key)}{k:List Key},k ∉ ks->valV (tru ks) k=none
 |[],_,_=>rfl
 |x::xs,k,h=>by
  show valV ((x,V.bl true)::tru xs) k=none;rw[za3 (λe=>h (by rw[<- e];exact AC))];exact zhT λm=>h (At _ m)
theorem zka:∀{ks:List (List Key)}{k:List Key},k∈ks->valV (tru ks) k=some (.bl true)
 |x::xs,k,h=>by
  show valV ((x,V.bl true)::tru xs) k=some (V.bl true)
  by_cases e:x=k
  .rw[za8 e]
  .rw[za3 e];exact zka ((Aw.mp h).resolve_left λz=>e z.symm)
noncomputable def spLot(K:W.Frag):Sp:=λvs H Q _=>∃(a:Addr) (us:List V) (ks:List (List Key)),vs=[.ref a]/\SqL K H a us/\VR us ks keyR H/\ks.Nodup/\ks.length<=1000/\∀t H',H t=none->Same H H'->H' t=some (.dT (tru ks))->Q (.ref t) H'
theorem zhs (d:Df K mg "_law_lot" zcT ["_law_cells"]):FnOk P w K mg base CX0 1 d.f d.fd ["_law_cells"] (spLot K):=by
 refine d.F.ok zcy (λvs H Q E h=>?_) (λcdv A outer s H vs Q E hr h=>?_)
 .obtain⟨a,us,ks,rfl,_⟩:=h;rfl
 .obtain⟨a,us,ks,rfl,hq,hv,hnd,hlen,k⟩:=h;have hu1:=hu_of hr
  refine⟨_,(zac (sE 1 zcy.nd zdn)
   (zac (zbo A5 rfl (zaO (pv 0)) (nG 2 zcy.nd)
   (zah (zeI hu1 (pv 1) (pv 2) pe_bl rfl)))
   (zah (zal (pv 1))))),?_⟩
  refine λp hp=>?_
  refine⟨_,rfl,a,rfl,⟨_,(Same.up hp).seq hq⟩,?_⟩
  refine zaA (K:=K) (a:=a) (xs:=us) (λi σ H2=>∃o,σ=[some (.ref a),some (.ref p),o]/\Same H H2/\H2 p=some (.dT (tru (ks.take i))))
   ⟨_,rfl,Same.up hp,zaa⟩ (λi σ H2 _ ⟨_,_,s2,_⟩=>s2.seq hq) ?_ ?_
  .rintro i v σ H2 hi ⟨o,rfl,s2,e2⟩;obtain⟨x,hx,b,rfl,q⟩:=hv.at hi;have hil:i<ks.length:=(Ad.mp hx).1
   have hn:x ∉ ks.take i:=λhm=>by
    obtain⟨j,hj,ej⟩:=Au hm;rw[A6]at hj;have h1:ks[j]?=some x:=by rw[<- ej,List.getElem_take];exact Aa (by lia)
    have:=(CG (i:=j) (j:=i) (by lia) hnd).mp (by rw[h1,hx]);lia
   refine⟨_,rfl,_,rfl,p,_,rfl,.inr ⟨tru (ks.take i),x,b,e2,rfl,s2 _ _ q,zak (by unfold tru;rw[Ag,A6];lia),rfl⟩,?_⟩;refine⟨_,rfl,λz o e=>?_,?_⟩
   .rw[zag (zaj e hp)];exact s2 z o e
   .rw[zaa,putK_new hn,zaS hx]
  .rintro σ H2 ⟨o,rfl,s2,e2⟩;rw[hv.1,AV]at e2;exact⟨_,rfl,k p H2 hp s2 e2⟩
noncomputable def TabR(H:Hp)(t:Addr)(C:Cell->Bool):Prop:=∃kvs:List (List Key×V),Rd H t (.dT kvs)/\∀c:Cell,(valV kvs [CT c.1,CT c.2]).isSome=C c
theorem Same.rd{H H':Hp}{a:Addr}{o:HO}(s:Same H H')(h:Rd H a o):Rd H' a o:=h.elim (λe=>.inl (s _ _ e)) λ⟨x,e⟩=>.inr ⟨x,s _ _ e⟩
theorem TabR.same{H H':Hp}{t:Addr}{C:Cell->Bool}(h:TabR H t C)(s:Same H H'):TabR H' t C:=let ⟨kvs,e,q⟩:=h;⟨kvs,Same.rd s e,q⟩
theorem zgD(cs:List Cell)(c:Cell):(valV (tru (cs.map kC)) (kC c)).isSome=isIn cs c:=by
 show _=decide (c∈cs)
 by_cases m:c∈cs
 .rw[zka (Ay.mpr ⟨c,m,rfl⟩),decide_eq_true m];rfl
 .rw[zhT (λz=>by obtain⟨x,hx,e⟩:=Ay.mp z;exact m ((zei.mp e) ▸ hx)),decide_eq_false m];rfl
theorem TabR.of{H:Hp}{t:Addr}{cs:List Cell}(h:Rd H t (.dT (tru (cs.map kC)))):TabR H t (isIn cs):=⟨_,h,zgD cs⟩
noncomputable def zgK(K:W.Frag):Sp:=λvs H Q _=>∃(t a:Addr) (C:Cell->Bool) (e:Edge),vs=[.ref t,.ref a]/\TabR H t C/\SqT K H a (edgeT e)/\e.w<4/\∀p q H',Same H H'->H' p=some (.tup [sv (stepB C e),.ref q])->H' q=some (.tup (edgeT (nxt C e)))->Q (.ref p) H'
theorem zeS (g__law_gone:Fn P w K mg base 1 "_law_gone" ["_law_x","_law_y","_law_step"] zc7) (d:Df K mg "_law_behind" zbS ["_law_there","_law_edge"]):FnOk P w K mg base CX0 2 d.f d.fd ["_law_there","_law_edge"] (zgK K):=by
 refine d.F.ok zaW (λvs H Q E h=>?_) (λcdv A outer s H vs Q E hr h=>?_)
 .obtain⟨t,a,C,e,rfl,_⟩:=h;rfl
 .obtain⟨t,a,C,e,rfl,tab,hq,hw,k⟩:=h;have hu1:=hu_of hr
  refine⟨_,(zac (zbf (pv 1) (za2 (by rfl) (zad (nG 2 zaW.nd) (zad (nG 3 zaW.nd) (zad (nG 4 zaW.nd) zao)))))
   (zac (sE 5 zaW.nd (pC g__law_gone hr (pa_N (pv 2) (pa_N (pv 3) (pa_B (pe_op zaF (pe_op zax (pe_op zbF zae (pv 4)) zae) zae) zab)))))
   (zac (sE 6 zaW.nd (pC g__law_gone hr (pa_N (pv 2) (pa_N (pv 3) (pa_B (pe_op zbF zae (pv 4)) zab)))))
   (zac (ps_if (zcK (zfx hu1 (pv 5) (pv 0)))
   (zah (zal (zar (pa_B (pe_op zaF (pe_op zax (pe_op zbF zae (pv 4)) zae) zae) (pa_B (pe_op ziw (pv 5) (zar (pa_B (pe_op zaF (pe_op zax (pv 4) zae) zae) zab))) zab)))))
   zaK)
   (zac (ps_if (zcK (zfx hu1 (pv 6) (pv 0)))
   (zah (zal (zar (pa_B (pe_op zbF zae (pv 4)) (pa_B (pe_op ziw (pv 6) (zar (pa_N (pv 4) zab))) zab)))))
   zaK)
   (zah (zal (zar (pa_C zbq (pa_T (zar (pa_N (pv 2) (pa_N (pv 3) (pa_B (pe_op zaF (pe_op zax (pv 4) zae) zae) zab)))) zab)))))))))),?_⟩
  refine⟨_,rfl,a,_,rfl,hq,rfl,_,_,rfl,_,_,rfl,_,_,rfl,rfl,?_⟩;have m7:(2*(e.w:Int)+7) % 8=(((2*e.w+7) % 8:Nat):Int):=by lia
  have m2:2*(e.w:Int)=((2*e.w:Nat):Int):=by lia
  refine⟨_,rfl,_,rfl,_,rfl,_,_,rfl,rfl,.inl ⟨by decide,by decide⟩,_,_,rfl,rfl,_,_,rfl,rfl,(by show (0:Int)<8;decide),e.c,(2*e.w+7) % 8,(by rw[<- m7];rfl),BA _ (by decide),λp1 H1 hp1 s1 e1=>?_⟩;refine⟨_,rfl,_,rfl,_,rfl,_,_,rfl,rfl,.inl ⟨by decide,by decide⟩,e.c,2*e.w,(by rw[<- m2];rfl),by lia,λp2 H2 hp2 s2 e2=>?_⟩;have s12:=s1.trans s2;obtain⟨kvs,et,hC⟩:=tab;have e12:=s2 _ _ e1;refine⟨_,rfl,_,rfl,t,_,rfl,.inr ⟨kvs,kC (go e.c ((2*e.w+7) % 8)),p1,(Same.rd s12 et),rfl,e12,rfl⟩,_,rfl,?_⟩;have hc1:=hC (go e.c ((2*e.w+7) % 8));change (valV kvs (kC (go e.c ((2*e.w+7) % 8)))).isSome=_ at hc1;rw[hc1]
  cases c1:C (go e.c ((2*e.w+7) % 8)) with
  |true =>
   refine iteT ?_
   have hs:stepB C e=some ((2*e.w+7) % 8):=by unfold stepB;rw[c1,if_pos rfl]
   refine⟨_,rfl,_,_,rfl,rfl,.inl ⟨by decide,by decide⟩,_,_,rfl,rfl,_,_,rfl,rfl,(by show (0:Int)<8;decide),?_⟩;refine⟨_,rfl,_,rfl,_,_,rfl,rfl,_,_,rfl,rfl,(by show (0:Int)<4;decide),(by show 1<=sizeLine;decide),λt3 h3=>?_⟩;have s3:=Same.up (o:=.tup [.int (((e.w:Int)+3) % 4)]) h3;have f3:upd H2 t3 (.tup [.int (((e.w:Int)+3) % 4)]) t3=some (.tup [.int (((e.w:Int)+3) % 4)]):=zaa;generalize upd H2 t3 (.tup [.int (((e.w:Int)+3) % 4)])=H3 at s3 f3;refine⟨p1,t3,_,_,rfl,rfl,SqT.of (s3 _ _ e12),SqT.of f3,(by simp[cellT]),three,(λz=>by cases z),λ_ q hq'=>?_⟩;have s4:=Same.up (o:=.tup (cellT (go e.c ((2*e.w+7) % 8))++[.int (((e.w:Int)+3) % 4)])) hq';have f4:upd H3 q (.tup (cellT (go e.c ((2*e.w+7) % 8))++[.int (((e.w:Int)+3) % 4)])) q=some (.tup (cellT (go e.c ((2*e.w+7) % 8))++[.int (((e.w:Int)+3) % 4)])):=zaa;generalize upd H3 q (.tup (cellT (go e.c ((2*e.w+7) % 8))++[.int (((e.w:Int)+3) % 4)]))=H4 at s4 f4;refine⟨two,λp5 h5=>?_⟩;refine k p5 q _ (s12.trans (s3.trans (s4.trans (Same.up h5)))) ?_ ?_
   .rw[zaa,hs];show some (HO.tup [.int ((2*(e.w:Int)+7) % 8),.ref q])=some (HO.tup [.int (((2*e.w+7) % 8:Nat):Int),.ref q]);rw[m7]
   .rw[Same.up h5 _ _ f4];unfold nxt;rw[hs];show _=some (HO.tup (edgeT (if (2*e.w+7) % 8 % 2=1 then ⟨go e.c ((2*e.w+7) % 8),(e.w+3) % 4⟩ else ⟨go e.c ((2*e.w+7) % 8),e.w⟩)));rw[if_pos (by lia)];show some (HO.tup [.int _,.int _,.int (((e.w:Int)+3) % 4)])=some (HO.tup [.int _,.int _,.int (((e.w+3) % 4:Nat):Int)]);rw[show ((e.w:Int)+3) % 4=(((e.w+3) % 4:Nat):Int) by lia]
  |false =>
   refine iteF ?_
   refine⟨_,rfl,_,rfl,t,_,rfl,.inr ⟨kvs,kC (go e.c (2*e.w)),p2,(Same.rd s12 et),rfl,e2,rfl⟩,_,rfl,?_⟩;have hc2:=hC (go e.c (2*e.w));change (valV kvs (kC (go e.c (2*e.w)))).isSome=_ at hc2;rw[hc2]
   cases c2:C (go e.c (2*e.w)) with
   |true =>
    refine iteT ?_
    have hs:stepB C e=some (2*e.w):=by unfold stepB;rw[c1,if_neg (by simp),c2,if_pos rfl]
    refine⟨_,rfl,_,_,rfl,rfl,.inl ⟨by decide,by decide⟩,?_⟩;refine⟨_,rfl,_,rfl,(by show 1<=sizeLine;decide),λt3 h3=>?_⟩;have s3:=Same.up (o:=.tup [.int (e.w:Int)]) h3;have f3:upd H2 t3 (.tup [.int (e.w:Int)]) t3=some (.tup [.int (e.w:Int)]):=zaa;generalize upd H2 t3 (.tup [.int (e.w:Int)])=H3 at s3 f3;refine⟨p2,t3,_,_,rfl,rfl,SqT.of (s3 _ _ e2),SqT.of f3,(by simp[cellT]),three,(λz=>by cases z),λ_ q hq'=>?_⟩;have s4:=Same.up (o:=.tup (cellT (go e.c (2*e.w))++[.int (e.w:Int)])) hq';have f4:upd H3 q (.tup (cellT (go e.c (2*e.w))++[.int (e.w:Int)])) q=some (.tup (cellT (go e.c (2*e.w))++[.int (e.w:Int)])):=zaa;generalize upd H3 q (.tup (cellT (go e.c (2*e.w))++[.int (e.w:Int)]))=H4 at s4 f4;refine⟨two,λp5 h5=>?_⟩;refine k p5 q _ (s12.trans (s3.trans (s4.trans (Same.up h5)))) ?_ ?_
    .rw[zaa,hs];show some (HO.tup [.int (2*(e.w:Int)),.ref q])=some (HO.tup [.int ((2*e.w:Nat):Int),.ref q]);rw[m2]
    .rw[Same.up h5 _ _ f4];unfold nxt;rw[hs];show _=some (HO.tup (edgeT (if 2*e.w % 2=1 then ⟨go e.c (2*e.w),(e.w+3) % 4⟩ else ⟨go e.c (2*e.w),e.w⟩)));rw[if_neg (by lia)];rfl
   |false =>
    refine iteF ?_
    have hs:stepB C e=none:=by unfold stepB;rw[c1,if_neg (by simp),c2,if_neg (by simp)]
    refine⟨_,rfl,_,rfl,_,rfl,_,_,rfl,rfl,_,_,rfl,rfl,(by show (0:Int)<4;decide),three,λq hq'=>?_⟩;have s4:=Same.up (o:=.tup [.int e.c.1,.int e.c.2,.int (((e.w:Int)+1) % 4)]) hq';have f4:upd H2 q (.tup [.int e.c.1,.int e.c.2,.int (((e.w:Int)+1) % 4)]) q=some (.tup [.int e.c.1,.int e.c.2,.int (((e.w:Int)+1) % 4)]):=zaa;generalize upd H2 q (.tup [.int e.c.1,.int e.c.2,.int (((e.w:Int)+1) % 4)])=H4 at s4 f4;refine⟨two,λp5 h5=>?_⟩;refine k p5 q _ (s12.trans (s4.trans (Same.up h5))) ?_ ?_
    .rw[zaa,hs];rfl
    .rw[Same.up h5 _ _ f4];unfold nxt;rw[hs];show some (HO.tup [.int _,.int _,.int (((e.w:Int)+1) % 4)])=some (HO.tup [.int _,.int _,.int (((e.w+1) % 4:Nat):Int)]);rw[show ((e.w:Int)+1) % 4=(((e.w+1) % 4:Nat):Int) by lia];rfl
noncomputable def dC(L:List Cell):List (List Key×V):=L.map λc=>(kC c,V.bl true)
theorem zkw(L:List Cell):(dC L).length=L.length:=by unfold dC;rw[Ag]
theorem zcx(c:Cell):∀L:List Cell,(valV (dC L) (kC c)).isSome=isIn L c
 |[]=>by simp[dC,valV,isIn]
 |d::L=>by
  have ih:=zcx c L;unfold isIn at *
  by_cases e:d=c
  .subst e;simp[dC,valV]
  .have e2:¬ kC d=kC c:=λz=>e (zei.mp z)
   have e3:¬ c=d:=λz=>e z.symm
   have e4:valV (dC (d::L)) (kC c)=valV (dC L) (kC c):=by simp[dC,valV,CC,e2]
   rw[e4,ih];simp[e3]
theorem zil{L:List Cell}{c:Cell}(h:c ∉ L):putK (dC L) (kC c) (.bl true)=dC (L++[c]):=by
 rw[L2.putK_new]
 .unfold dC;rw[AA];rfl
 .have:=zcx c L;unfold isIn at this;rw[decide_eq_false h]at this
  cases z:valV (dC L) (kC c) with
  |none=>rfl
  |some v=>rw[z]at this;cases this
theorem zlM{K:W.Frag}{H:Hp}{a:Addr}{vs:List V}{cs:List Cell}(e:SqL K H a vs)(h:VR vs cs cR H){q:Addr}{Q:VK}(f:H q=some (.lst []))(k:Q (.bl (!decide (cs=[]))) H):rNeD K (.ref a) (.ref q) H Q:=by
 refine⟨lT (cs.map cI),lT [],zjD e h,.lst (SqL.of f) .nil,zfq _,zfq _,?_⟩
 cases cs with
 |nil=>exact k
 |cons c l=>exact k
theorem zkv(L:List Cell):dC L=tru (L.map kC):=by unfold dC tru;rw[List.map_map];rfl
structure Fld (D:Cell->Bool) (S:List Nat) (a:Cell) (F L:List Cell):Prop where
 nd:F.Nodup
 st:a∈F
 rch:∀c∈F,Rch D S a c
 sub:∀c∈L,c∈F
 cls:∀c∈F,c∈L∨∀s∈S,D (go c s)=true->go c s∈F
 le:L.length<=F.length
theorem Fld.init(D:Cell->Bool)(S:List Nat)(a:Cell):Fld D S a [a] [a]:=⟨by simp,by simp,λc hc=>by rw[Ap.mp hc];exact .refl,λc h=>h,λc h=>.inl h,Ai _⟩
theorem Fld.done{D:Cell->Bool}{S:List Nat}{a:Cell}{F:List Cell}(h:Fld D S a F [])(c:Cell):c∈F ↔ Rch D S a c:=by
 refine⟨h.rch c,λr=>?_⟩
 induction r with
 |refl=>exact h.st
 |step k hs hd ih =>
  rcases h.cls _ ih with z |z
  .cases z
  .exact z _ hs hd
structure FS (D:Cell->Bool) (S:List Nat) (a c:Cell) (F L:List Cell) (i:Nat):Prop where
 nd:F.Nodup
 st:a∈F
 rch:∀y∈F,Rch D S a y
 sub:∀y∈L,y∈F
 cf:c∈F
 cls:∀y∈F,y∈L∨y=c∨∀s∈S,D (go y s)=true->go y s∈F
 dn:∀(j:Nat) s,j<i->S[j]?=some s->D (go c s)=true->go c s∈F
 le:L.length<=F.length
section
variable {D:Cell->Bool}{S:List Nat}{a c:Cell}{F L B:List Cell}{i s:Nat}
theorem Fld.pop(h:Fld D S a F (L++[c])):FS D S a c F L 0:=by
 refine⟨h.nd,h.st,h.rch,λy hy=>h.sub y (Ck _ hy),h.sub c (by simp),λy hy=>?_,λj s hj=>absurd hj (Nat.not_lt_zero _),by have:=h.le;rw[Ak,Bf]at this;lia⟩;rcases h.cls y hy with z |z
 .rcases AW.mp z with z |z
  .exact .inl z
  .exact .inr (.inl (Ap.mp z))
 .exact .inr (.inr z)
theorem FS.skip(h:FS D S a c F L i)(hs:S[i]?=some s)(t:D (go c s)=true->go c s∈F):FS D S a c F L (i+1):=by
 refine⟨h.nd,h.st,h.rch,h.sub,h.cf,h.cls,λj u hj hu hd=>?_,h.le⟩;rcases AX j i with z |z
 .exact h.dn j u z hu hd
 .have e:j=i:=by lia
  subst e;rw[hs]at hu
  cases hu
  exact t hd
theorem FS.more(h:FS D S a c F L i)(hs:S[i]?=some s)(hd:D (go c s)=true)(hn:go c s ∉ F):FS D S a c (F++[go c s]) (L++[go c s]) (i+1):=by
 have sF:∀y,y∈F->y∈F++[go c s]:=λy hy=>Ck _ hy
 refine⟨zgq h.nd hn,sF _ h.st,λy hy=>?_,λy hy=>?_,sF _ h.cf,λy hy=>?_,λj u hj hu hd'=>?_,by simpa using h.le⟩
 .rcases AW.mp hy with z |z
  .exact h.rch y z
  .rw[Ap.mp z];exact .step (h.rch c h.cf) (Aj hs) hd
 .rcases AW.mp hy with z |z
  .exact sF _ (h.sub y z)
  .exact Am _ z
 .rcases AW.mp hy with z |z
  .rcases h.cls y z with q |q |q
   .exact .inl (Ck _ q)
   .exact .inr (.inl q)
   .exact .inr (.inr λu hu hd'=>sF _ (q u hu hd'))
  .exact .inl (Am _ z)
 .rcases AX j i with z |z
  .exact sF _ (h.dn j u z hu hd')
  .have e:j=i:=by lia
   subst e;rw[hs]at hu
   cases hu
   exact Am _ (by simp)
theorem FS.done(h:FS D S a c F L S.length):Fld D S a F L:=by
 refine⟨h.nd,h.st,h.rch,h.sub,λy hy=>?_,h.le⟩;rcases h.cls y hy with q |q |q
 .exact .inl q
 .subst q;refine .inr λu hu hd=>?_
  obtain⟨j,hj,ej⟩:=Au hu;exact h.dn j u hj (by rw[Aa hj,ej]) hd
 .exact .inr q
theorem FS.few(h:FS D S a c F L i)(hB:∀c,Rch D S a c->c∈B):F.length<=B.length:=zap h.nd λy hy=>hB y (h.rch y hy)
end
theorem zlA{Ls:List Cell}{S:List Nat}{a c:Cell}(h:Rch (isIn Ls) S a c):c∈a::Ls:=by
 cases h with
 |refl=>exact AC
 |step _ _ hd=>exact At _ (of_decide_eq_true hd)
noncomputable def FI(H0:Hp)(f l:Addr)(H:Hp)(F L:List Cell):Prop:=Same H0 H/\H f=some (.dT (dC F))/\∃zs,H l=some (.lst zs)/\VR zs L cR H
theorem VR.pop{H:Hp}{zs:List V}{L:List Cell}{c:Cell}(h:VR zs (L++[c]) cR H):zs.length=L.length+1/\(∃x,zs[L.length]?=some (.ref x)/\H x=some (.tup (cellT c)))/\VR zs.dropLast L cR H:=by
 have zl:zs.length=L.length+1:=by rw[h.1];simp
 obtain⟨z,hz⟩:∃z,zs[L.length]?=some z:=⟨_,Aa (by lia)⟩;obtain⟨c',hc',x,hx,ex⟩:=h.at hz;have e:c'=c:=by rw[AQ (Ai _)]at hc';simpa using hc'.symm
 subst e;subst hx;refine⟨zl,⟨x,hz,ex⟩,by rw[List.length_dropLast,zl];lia,λi y v h1 h2=>?_⟩;have hi:=(Ad.mp h1).1;rw[List.getElem?_dropLast]at h2;split at h2
 .exact h.2 i y v (by rw[AE hi];exact h1) h2
 .cases h2
theorem bigF{n:Nat}(h:n<=60001):n<sizeLine:=DN h (by decide)
noncomputable def zh3(K:W.Frag):Sp:=λvs H Q _=>∃(t b q:Addr) (a:Cell) (Ls:List Cell) (S:List Nat),vs=[.ref t,.ref b,.ref q]/\Rd H t (.dT (dC Ls))/\H b=some (.tup (cellT a))/\H q=some (.lst (S.map λs:Nat=>V.int (s:Int)))/\(∀s∈S,s<8)/\Ls.length<=60000 /\
 ∀f H' F,H f=none->Same H H'->H' f=some (.dT (dC F))->F.Nodup->(∀c,c∈F ↔ Rch (isIn Ls) S a c)->Q (.ref f) H'
theorem zfB (g__law_gone:Fn P w K mg base 1 "_law_gone" ["_law_x","_law_y","_law_step"] zc7) (d:Df K mg "_law_flood" zcf ["_law_there","_law_first","_law_steps"]):FnOk P w K mg base CX0 2 d.f d.fd ["_law_there","_law_first","_law_steps"] (zh3 K):=by
 refine d.F.ok zaM (λvs H Q E h=>?_) (λcdv A outer s H vs Q E hr h=>?_)
 .obtain⟨t,b,q,a,Ls,S,rfl,_⟩:=h;rfl
 .obtain⟨t,b,q,a,Ls,S,rfl,ht,hb,hq,hS,hlen,k⟩:=h;have hu1:=hu_of hr;have hu64:=hr.units
  refine⟨_,(zac (sE 3 zaM.nd (zjN hu1 (pv 1) pe_bl))
   (zac (sE 4 zaM.nd (zaY (pa_N (pv 1) zab)))
   (zac (zgO A5 (zaq (zgR hu64) (pv 4) (zaY zab) (zas _))
   (zac (zbf (zlH AD PySem.F.slot_list_pop PySem.F.type_list_pop zlN (pv 4)) (za2 (by rfl) (zad (nG 5 zaM.nd) (zad (nG 6 zaM.nd) zao))))
   (zah (zbo A5 rfl (zaO (pv 2)) (nG 7 zaM.nd)
   (zac (sE 8 zaM.nd (pC g__law_gone hr (pa_N (pv 5) (pa_N (pv 6) (pa_N (pv 7) zab)))))
   (zah (ps_if (zdE (zcK (zfx hu1 (pv 8) (pv 0))) (zcD (zcK (zcN hu1 (pv 8) (pv 3))))).pt
   (zac (zeI hu1 (pv 3) (pv 8) pe_bl rfl)
   (zah (za1 (pe_bm AD AL AM zaE (pv 4) (pa_N (pv 8) zab)))))
   zaK)))))))
   (zah (zal (pv 3)))))),?_⟩
  have hσ:L2.start zdf [V.ref t,V.ref b,V.ref q]=[some (.ref t),some (.ref b),some (.ref q),none,none,none,none,none,none]:=rfl;rw[hσ];refine λf hf=>?_
  have hfb:f≠b:=λz=>by subst z;rw[hb]at hf;cases hf
  have b1:upd H f (.dT []) b=some (.tup (cellT a)):=by rw[zag (BX hfb)];exact hb
  refine⟨_,rfl,_,.inr ⟨[],kC a,b,zaa,rfl,b1,(by show 0<sizeLine;decide),rfl⟩,?_⟩;have e0:putK ([]:List (List Key×V)) (kC a) (.bl true)=dC [a]:=zil (L:=[]) (by simp);rw[e0,zkC];have s1:Same H (upd H f (.dT (dC [a]))):=Same.up hf;have f1:upd H f (.dT (dC [a])) f=some (.dT (dC [a])):=zaa;simp only[za4,Ba,Bb];generalize upd H f (.dT (dC [a]))=H1 at s1 f1;refine⟨_,rfl,(by show 1<=sizeLine;decide),λl hl=>?_⟩;have hl0:H l=none:=s1.free hl;have hlf:l≠f:=λz=>by subst z;rw[f1]at hl;cases hl
  have s2:Same H (upd H1 l (.lst [.ref b])):=s1.trans (Same.up hl);have f2:=Same.up (o:=.lst [.ref b]) hl _ _ f1;have l2:upd H1 l (.lst [.ref b]) l=some (.lst [.ref b]):=zaa;simp only[za4,Ba,Bb];generalize upd H1 l (.lst [.ref b])=H2 at s2 f2 l2;have hB:∀c,Rch (isIn Ls) S a c->c∈a::Ls:=λc h=>zlA h
  refine⟨λm σ H3=>∃F L o5 o6 o7 o8,m=2*((a::Ls).length-F.length)+L.length/\σ=[some (.ref t),some (.ref b),some (.ref q),some (.ref f),some (.ref l),o5,o6,o7,o8]/\FI H f l H3 F L/\Fld (isIn Ls) S a F L,
   ⟨_,[a],[a],_,_,_,_,rfl,rfl,⟨s2,f2,_,l2,VR.cons.mpr ⟨⟨b,rfl,s2 _ _ hb⟩,VR.nil⟩⟩,Fld.init _ _ _⟩,?_⟩
  rintro m σ H3 ⟨F,L,o5,o6,o7,o8,rfl,rfl,⟨s3,f3,zs,l3,v3⟩,fld⟩;refine⟨_,rfl,AZ _,λe he=>?_⟩;have s4:=s3.trans (Same.up (o:=.lst []) he);have f4:=Same.up (o:=.lst []) he _ _ f3;have l4:=Same.up (o:=.lst []) he _ _ l3;have v4:=v3.mono λx v h=>h.kt (KT.up (o:=.lst []) he)
  have e4:upd H3 e (.lst []) e=some (.lst []):=zaa;generalize upd H3 e (.lst [])=H4 at s4 f4 l4 v4 e4;refine zlM (SqL.of l4) v4 e4 ⟨_,rfl,?_⟩
  by_cases hL:L=[]
  .subst hL;refine iteN (by simp) ?_
   exact⟨_,rfl,k f H4 F hf s4 f4 fld.nd fld.done⟩
  .refine iteY (by simp[hL]) ?_
   obtain⟨L',c,rfl⟩:∃L' c,L=L'++[c]:=⟨L.dropLast,L.getLast hL,(List.dropLast_concat_getLast hL).symm⟩;obtain⟨zl,⟨x,hz,ex⟩,v5⟩:=v4.pop
   refine⟨λσ' H'=>∃F2 L2 o5 o6 o7 o8,2*((a::Ls).length-F2.length)+L2.length<2*((a::Ls).length-F.length)+(L'++[c]).length/\σ'=[some (.ref t),some (.ref b),some (.ref q),some (.ref f),some (.ref l),o5,o6,o7,o8]/\FI H f l H' F2 L2/\Fld (isIn Ls) S a F2 L2,
    λσ' H' ⟨F2,L2,o5,o6,o7,o8,h1,h2,h3,h4⟩=>⟨_,h1,F2,L2,o5,o6,o7,o8,rfl,h2,h3,h4⟩,?_⟩
   refine⟨_,rfl,.inl ⟨rfl,_,SqL.of l4⟩,l,zs,_,rfl,rfl,l4,(by rw[zl];exact hz),?_⟩;have kl:KT H4 (upd H4 l (.lst zs.dropLast)):=KT.lst l4;have s5:Same H (upd H4 l (.lst zs.dropLast)):=zam hl0 s4;have f5:upd H4 l (.lst zs.dropLast) f=some (.dT (dC F)):=by rw[zag (BX hlf)];exact f4
   have l5:upd H4 l (.lst zs.dropLast) l=some (.lst zs.dropLast):=zaa;have v5:=v5.mono λx v h=>h.kt kl
   have ex5:=kl _ _ ex;generalize upd H4 l (.lst zs.dropLast)=H5 at s5 f5 l5 v5 ex5;refine⟨x,_,rfl,SqT.of ex5,rfl,_,_,rfl,_,_,rfl,rfl,?_⟩;refine⟨_,rfl,q,rfl,⟨_,SqL.of (s5 _ _ hq)⟩,?_⟩
   refine zaA (K:=K) (a:=q) (xs:=S.map λs:Nat=>V.int (s:Int)) (λi σ H6=>∃F2 L2 o7 o8,σ=[some (.ref t),some (.ref b),some (.ref q),some (.ref f),some (.ref l),some (.int c.1),some (.int c.2),o7,o8]/\FI H f l H6 F2 L2/\FS (isIn Ls) S a c F2 L2 i/\2*((a::Ls).length-F2.length)+L2.length<=2*((a::Ls).length-F.length)+L'.length)
    ⟨F,L',_,_,rfl,⟨s5,f5,_,l5,v5⟩,fld.pop,Ai _⟩ (λi σ H6 _ ⟨_,_,_,_,_,⟨s6,_⟩,_⟩=>SqL.of (s6 _ _ hq)) ?_ ?_
   .rintro i v σ H6 hi ⟨F2,L2,o7,o8,rfl,⟨s6,f6,ys,l6,v6⟩,fs,hm⟩;rw[Az]at hi;obtain⟨sn,hsn,rfl⟩:=Bn.mp hi;have hs8:sn<8:=hS sn (Aj hsn);refine⟨_,rfl,_,rfl,_,rfl,c,sn,rfl,hs8,λp1 H7 hp1 s67 g7=>?_⟩;have s7:=s6.trans s67;have f7:=s67 _ _ f6;have l7:=s67 _ _ l6;have v7:=v6.mono λx v h=>h.kt (KT.of s67)
    refine⟨_,rfl,_,rfl,t,_,rfl,.inr ⟨_,kC (go c sn),p1,Same.rd s7 ht,rfl,g7,rfl⟩,_,rfl,?_⟩;rw[zcx]
    by_cases hD:isIn Ls (go c sn)=true
    .refine iteY hD ?_
     refine⟨_,rfl,_,rfl,f,_,rfl,.inr ⟨_,kC (go c sn),p1,Rd.of f7,rfl,g7,rfl⟩,_,rfl,?_⟩;rw[zcx]
     by_cases hF:go c sn∈F2
     .refine iteN (by rw[show isIn F2 (go c sn)=true from decide_eq_true hF];rfl) ?_
      exact⟨F2,L2,_,_,rfl,⟨s7,f7,_,l7,v7⟩,fs.skip hsn λ_=>hF,hm⟩
     .refine iteY (by rw[show isIn F2 (go c sn)=false from decide_eq_false hF];rfl) ?_
      have fm:=fs.more hsn hD hF;have few:=fm.few hB;rw[Ak,Bf,A3]at few;have hF2:F2.length<=60000:=by lia
      refine⟨_,rfl,_,rfl,f,_,rfl,.inr ⟨dC F2,kC (go c sn),p1,f7,rfl,g7,(by rw[zkw];exact bigF (by lia)),rfl⟩,?_⟩;rw[zil hF];have s8:Same H (upd H7 f (.dT (dC (F2++[go c sn])))):=zam hf s7;have k8:KT H7 (upd H7 f (.dT (dC (F2++[go c sn])))):=KT.dct f7;have l8:upd H7 f (.dT (dC (F2++[go c sn]))) l=some (.lst ys):=by rw[zag hlf];exact l7
      have f8:upd H7 f (.dT (dC (F2++[go c sn]))) f=some (.dT (dC (F2++[go c sn]))):=zaa;have v8:=v7.mono λx v h=>h.kt k8
      have g8:=k8 _ _ g7;generalize upd H7 f (.dT (dC (F2++[go c sn])))=H8 at s8 k8 l8 f8 v8 g8;have hyl:ys.length<=60000:=by rw[v8.1];have:=fs.le;lia
      refine⟨_,rfl,.inl ⟨rfl,_,SqL.of l8⟩,_,rfl,l,ys,_,rfl,rfl,l8,bigF (by lia),?_⟩;have k9:KT H8 (upd H8 l (.lst (ys++[.ref p1]))):=KT.lst l8;refine⟨F2++[go c sn],L2++[go c sn],_,_,rfl,⟨zam hl0 s8,by rw[zag (BX hlf)];exact f8,_,zaa,v8.snoc (λx v h=>h.kt k9) ⟨p1,rfl,k9 _ _ g8⟩⟩,fm,?_⟩;rw[Ak,Ak,Bf,A3];rw[A3]at hm;lia
    .refine iteN (by simpa using hD) ?_
     exact⟨F2,L2,_,_,rfl,⟨s7,f7,_,l7,v7⟩,fs.skip hsn λz=>absurd z hD,hm⟩
   .rintro σ H6 ⟨F2,L2,o7,o8,rfl,fi,fs,hm⟩;rw[Ag]at fs;exact⟨F2,L2,_,_,_,_,by rw[Ak,Bf];lia,rfl,fi,fs.done⟩
theorem zgM{F:List Cell}(h:F.Pairwise Bfr):F.Nodup:=h.imp λ{a b} q e=>by subst e;have q:HT.lexLt [a.2,a.1] [a.2,a.1]=true:=q;rw[HT.lexLt_irrefl]at q;cases q
noncomputable def zgG(K:W.Frag):Sp:=λvs H Q _=>∃(t a:Addr) (cs:List Cell) (b:Edge),vs=[.ref t,.ref a]/\TabR H t (isIn cs)/\H a=some (.tup (edgeT b))/\IsE (isIn cs) b/\cs.length<=120 /\
 ∀p pe pq H' us es,Same H H'->H' p=some (.tup [.ref pe,.ref pq])->H' pe=some (.lst us)->VR us es eR H'->H' pq=some (.lst ((es.map (stepB (isIn cs))).map sv))->Closed (isIn cs) b es->Q (.ref p) H'
theorem zeQ (g__law_behind:Fn P w K mg base 2 "_law_behind" ["_law_there","_law_edge"] (zgK K)) (d:Df K mg "_law_walked" zbR ["_law_there","_law_first"]):FnOk P w K mg base CX0 3 d.f d.fd ["_law_there","_law_first"] (zgG K):=by
 refine d.F.ok zaJ (λvs H Q E h=>?_) (λcdv A outer s H vs Q E hr h=>?_)
 .obtain⟨t,a,cs,b,rfl,_⟩:=h;rfl
 .obtain⟨t,a,cs,b,rfl,tab,ha,hb,hlen,k⟩:=h;have hu64:=hr.units
  refine⟨_,(zac (sE 2 zaJ.nd (zaY (pa_N (pv 1) zab)))
   (zac (sE 3 zaJ.nd (zaY zab))
   (zac (zbf (pC g__law_behind hr (pa_N (pv 0) (pa_N (pv 1) zab))) (za2 (by rfl) (zad (nG 4 zaJ.nd) (zad (nG 5 zaJ.nd) zao))))
   (zac (zgO A5 (zaq (zgR hu64) (pv 5) (pv 1) (zas _))
   (zac (za1 (pe_bm AD AL AM zaE (pv 2) (pa_N (pv 5) zab)))
   (zac (za1 (pe_bm AD AL AM zaE (pv 3) (pa_N (pv 4) zab)))
   (zah (zbf (pC g__law_behind hr (pa_N (pv 0) (pa_N (pv 5) zab))) (za2 (by rfl) (zad (nG 4 zaJ.nd) (zad (nG 5 zaJ.nd) zao))))))))
   (zah (zal (zar (pa_N (pv 2) (pa_B (pe_op zgS (pv 3) (zaY (pa_N (pv 4) zab))) zab))))))))),?_⟩
  refine⟨_,rfl,(by show 1<=sizeLine;decide),λpe hpe=>?_⟩;have s1:=Same.up (o:=.lst [.ref a]) hpe;have e1:upd H pe (.lst [.ref a]) pe=some (.lst [.ref a]):=zaa;generalize upd H pe (.lst [.ref a])=H1 at s1 e1;refine⟨(by show 0<=sizeLine;decide),λps hps=>?_⟩;have s2:=Same.up (o:=.lst []) hps;have e2:upd H1 ps (.lst []) ps=some (.lst []):=zaa;generalize upd H1 ps (.lst [])=H2 at s2 e2;have s02:=s1.trans s2;have hps0:H ps=none:=s1.free hps;have hne:pe≠ps:=zaj e1 hps;refine⟨_,rfl,_,rfl,t,a,isIn cs,b,rfl,tab.same s02,SqT.of (s02 _ _ ha),hb.1,λp3 q3 H3 s3 f3 g3=>?_⟩;refine⟨p3,_,rfl,SqT.of f3,rfl,_,_,rfl,_,_,rfl,rfl,?_⟩;have s03:=s02.trans s3
  refine zjt (λσ H4=>∃us es l re,σ=[some (.ref t),some (.ref a),some (.ref pe),some (.ref ps),some (sv (stepB (isIn cs) l)),some (.ref re)]/\Same H H4/\H4 pe=some (.lst us)/\VR us (es++[l]) eR H4/\H4 ps=some (.lst ((es.map (stepB (isIn cs))).map sv))/\Chain (isIn cs) b (es++[l])/\H4 re=some (.tup (edgeT (nxt (isIn cs) l))))
   (λ_ H4=>4*cs.length+1-ziK (H4 pe)) ?_ ?_ ?_
  .refine⟨[.ref a],[],b,q3,rfl,s03,(s2.trans s3) _ _ e1,⟨rfl,λi x v h1 h2=>?_⟩,s3 _ _ e2,Chain.start hb,g3⟩
   match i,h1,h2 with
   | 0,h1,h2 =>
    cases h1;cases h2
    exact⟨a,rfl,s03 _ _ ha⟩
   |i+1,h1,h2=>simp at h2
  .rintro σ H4 ⟨us,es,l,re,rfl,s4,e4,hv,q4,hch,er⟩;have hw4:(nxt (isIn cs) l).w<4:=(zc9 (hch.2.2.1 l (by simp))).1;have hl4:us.length=(es++[l]).length:=hv.1;have hsh0:=hch.short;refine⟨_,rfl,_,rfl,_,_,zcU er,zcU (s4 _ _ ha),zbm _,zbm _,_,rfl,?_⟩;rw[zg6]
   by_cases hnb:nxt (isIn cs) l=b
   .rw[decide_eq_true (zi6.mpr hnb)];refine iteF ?_
    refine⟨_,rfl,_,rfl,_,rfl,(by show 1<=sizeLine;decide),λl5 h5=>?_⟩;have s5:=Same.up (o:=.lst [sv (stepB (isIn cs) l)]) h5;have e5:upd H4 l5 (.lst [sv (stepB (isIn cs) l)]) l5=some (.lst [sv (stepB (isIn cs) l)]):=zaa;generalize upd H4 l5 (.lst [sv (stepB (isIn cs) l)])=H5 at s5 e5;rw[Ak,Bf]at hsh0;refine⟨ps,l5,_,_,rfl,rfl,s5 _ _ q4,e5,Bj (zak (by simp;lia)),λl6 h6=>?_⟩;have em:(es.map (stepB (isIn cs))).map sv++[sv (stepB (isIn cs) l)]=((es++[l]).map (stepB (isIn cs))).map sv:=by rw[AA,AA];rfl
    rw[em];have s6:=Same.up (o:=.lst (((es++[l]).map (stepB (isIn cs))).map sv)) h6;have e6:upd H5 l6 (.lst (((es++[l]).map (stepB (isIn cs))).map sv)) l6=some (.lst (((es++[l]).map (stepB (isIn cs))).map sv)):=zaa;generalize upd H5 l6 (.lst (((es++[l]).map (stepB (isIn cs))).map sv))=H6 at s6 e6;refine⟨two,λp7 h7=>?_⟩;have s7:=Same.up (o:=.tup [.ref pe,.ref l6]) h7;have s47:=s5.trans (s6.trans s7);exact k p7 pe l6 _ us (es++[l]) (s4.trans s47) zaa (s47 _ _ e4) (hv.mono λx v h=>h.kt (KT.of s47)) (s7 _ _ e6) ⟨hch,l,by simp,hnb⟩
   .rw[decide_eq_false (λz=>hnb (zi6.mp z))];refine iteT ?_
    have hch2:=hch.more hnb;have hsh:=hch2.short;have hl5:us.length+1<=4*cs.length:=by rw[hl4];rw[Ak,Bf]at hsh;exact hsh
    refine⟨_,rfl,.inl ⟨rfl,_,SqL.of e4⟩,_,rfl,pe,us,_,rfl,rfl,e4,zak (by lia),?_⟩;have k5:KT H4 (upd H4 pe (.lst (us++[.ref re]))):=KT.lst e4;have e5:upd H4 pe (.lst (us++[.ref re])) pe=some (.lst (us++[.ref re])):=zaa;have s5:Same H (upd H4 pe (.lst (us++[.ref re]))):=zam hpe s4;have q5:upd H4 pe (.lst (us++[.ref re])) ps=some (.lst ((es.map (stepB (isIn cs))).map sv)):=by rw[zag (BX hne)];exact q4
    generalize upd H4 pe (.lst (us++[.ref re]))=H5 at k5 e5 s5 q5;have hel:es.length<=480:=by rw[Ak,Ak]at hsh;lia
    refine⟨_,rfl,.inl ⟨rfl,_,SqL.of q5⟩,_,rfl,ps,_,_,rfl,rfl,q5,zak (by simp;lia),?_⟩;have em:(es.map (stepB (isIn cs))).map sv++[sv (stepB (isIn cs) l)]=((es++[l]).map (stepB (isIn cs))).map sv:=by rw[AA,AA];rfl
    rw[em];have k6:KT H5 (upd H5 ps (.lst (((es++[l]).map (stepB (isIn cs))).map sv))):=KT.lst q5;have q6:upd H5 ps (.lst (((es++[l]).map (stepB (isIn cs))).map sv)) ps=some (.lst (((es++[l]).map (stepB (isIn cs))).map sv)):=zaa;have s6:Same H (upd H5 ps (.lst (((es++[l]).map (stepB (isIn cs))).map sv))):=zam hps0 s5;have e6:upd H5 ps (.lst (((es++[l]).map (stepB (isIn cs))).map sv)) pe=some (.lst (us++[.ref re])):=by rw[zag hne];exact e5
    generalize upd H5 ps (.lst (((es++[l]).map (stepB (isIn cs))).map sv))=H6 at k6 q6 s6 e6;have kt:=k5.trans k6;have r6:=kt _ _ er;refine⟨_,rfl,_,rfl,t,re,isIn cs,nxt (isIn cs) l,rfl,tab.same s6,SqT.of r6,hw4,λp7 q7 H7 s7 f7 g7=>?_⟩;refine⟨p7,_,rfl,SqT.of f7,rfl,_,_,rfl,_,_,rfl,rfl,?_⟩;have e7:=s7 _ _ e6;refine⟨⟨us++[.ref re],es++[l],nxt (isIn cs) l,q7,rfl,s6.trans s7,e7,?_,s7 _ _ q6,hch2,g7⟩,?_⟩
    .exact hv.snoc (λx v hx=>(hx.kt kt).kt (KT.of s7)) ⟨re,rfl,s7 _ _ r6⟩
    .show 4*cs.length+1-ziK (H7 pe)<4*cs.length+1-ziK (H4 pe);rw[e7,e4];show 4*cs.length+1-(us++[V.ref re]).length<4*cs.length+1-us.length;rw[Ak,Bf];lia
  .rintro σ H4 Q1 Q2 hQ ⟨v,h1,v2,h2,dd,ee,r1,r2,x1,x2,kk,h3,q⟩;exact⟨v,h1,v2,h2,dd,ee,r1,r2,x1,x2,kk,h3,hQ _ _ q⟩
noncomputable def zhW:Sp:=λvs H Q _=>∃n:Int,vs=[.int n]/\Q (.bl true) H
theorem zfz (T:Txt P w K mg) (d:Df K mg "_law_whole" zcd ["_law_found"]):FnOk P w K mg base CX0 1 d.f d.fd ["_law_found"] zhW:=by
 refine d.F.ok zeH (λvs H Q E h=>?_) (λcdv A outer s H vs Q E hr h=>?_)
 .obtain⟨n,rfl,_⟩:=h;rfl
 .obtain⟨n,rfl,k⟩:=h;refine⟨_,(zah (zal (zit (zaw ze6 (by rfl) T.nisinstance (by rfl) (pa_N (pv 0) (pa_N (zgg (v:=.ty "int") (by rfl) T.nint (by rfl) rfl) zab))) (zis (zlF (zaw ze6 (by rfl) T.nisinstance (by rfl) (pa_N (pv 0) (pa_N (zgg (v:=.ty "bool") (by rfl) T.nbool (by rfl) rfl) zab)))))))),?_⟩;refine⟨_,rfl,.int n,"int",_,true,rfl,.int n,zg1 _ _,_,rfl,iteT ?_⟩;exact⟨_,rfl,.int n,"bool",_,false,rfl,.int n,zfG _,_,rfl,k⟩
noncomputable def Frz(t:Addr)(kvs:List (List Key×V))(H H':Hp):Prop:=(∀b o,b≠t->H b=some o->H' b=some o)/\∃od,H' t=some (.frz od (.dT kvs))
noncomputable def zh4(K:W.Frag):Sp:=λvs H Q _=>∃(t:Addr) (cs:List Cell),vs=[.ref t]/\H t=some (.dT (tru (cs.map kC)))/\cs.length<=120/\∀p H' us,H p=none->Frz t (tru (cs.map kC)) H H'->H' p=some (.lst us)->VR us (allE cs) eR H'->Q (.ref p) H'
theorem zfC (T:Txt P w K mg) (g__law_gone:Fn P w K mg base 1 "_law_gone" ["_law_x","_law_y","_law_step"] zc7) (d:Df K mg "_law_edges" zbE ["_law_there"]):FnOk P w K mg base CX0 2 d.f d.fd ["_law_there"] (zh4 K):=by
 refine d.F.ok zbv (λvs H Q E h=>?_) (λcdv A outer s H vs Q E hr h=>?_)
 .obtain⟨t,cs,rfl,_⟩:=h;rfl
 .obtain⟨t,cs,rfl,ht,hlen,k⟩:=h;have hu1:=hu_of hr;have nb0:(["_law_way","_law_x","_law_y","_law_there"]:List Str).Nodup:=by decide +kernel
  refine⟨_,(zac (sE 1 zbv.nd (zaY zab))
   (zac (zbo A5 rfl (zjI (pv 0)) (za2 (by rfl) (zad (zbT (i:=2) zbv.nd (by rfl) (CP rfl)) (zad (zbT (i:=3) zbv.nd (by rfl) (CP rfl)) zao)))
   (zah (za1 (pe_bm AD DG DH zdI (pv 1) (zai (zaZ (osc:=zaf zbE) (N:=zdg) (N':=["_law_way","_law_x","_law_y","_law_there"]) (sel:=[none,some 2,some 3,some 0]) bO (zbp (by rfl) T.nrange (pa_C zae zab)) (λ_ _ _ _ _=>(nG 0 nb0)) (λ_ _ _ _ _=>zbs (zcK (zcN hu1 (pC g__law_gone hr (pa_N (pv 1) (pa_N (pv 2) (pa_B (pe_op zaF (pe_op zax (pe_op zbF zae (pv 0)) zae) zae) zab)))) (pv 3)))) (λ_ _ _ _ _=>(zar (pa_N (pv 1) (pa_N (pv 2) (pa_N (pv 0) zab)))))) zab)))))
   (zah (zal (pv 1))))),?_⟩
  refine⟨(by show 0<=sizeLine;decide),λp hp=>?_⟩;have s1:=Same.up (o:=.lst []) hp;have e1:upd H p (.lst []) p=some (.lst []):=zaa;generalize upd H p (.lst [])=H1 at s1 e1;have ht1:=s1 _ _ ht;have hpt:p≠t:=ne_of e1 ht1 (λz=>nomatch z);refine⟨_,rfl,t,_,rfl,ht1,λod=>?_⟩;have kt2:KT H1 (upd H1 t (.frz od (.dT (tru (cs.map kC))))):=KT.dct ht1;have sb2:∀b o,b≠t->H1 b=some o->upd H1 t (.frz od (.dT (tru (cs.map kC)))) b=some o:=λb o hb e=>by rw[zag hb];exact e
  have e2:upd H1 t (.frz od (.dT (tru (cs.map kC)))) t=some (.frz od (.dT (tru (cs.map kC)))):=zaa;have hp2:upd H1 t (.frz od (.dT (tru (cs.map kC)))) p=some (.lst []):=by rw[zag hpt];exact e1
  generalize upd H1 t (.frz od (.dT (tru (cs.map kC))))=H2 at kt2 sb2 e2 hp2
  refine zjU (a:=t) (od:=od) (kvs:=tru (cs.map kC)) (λi σ H3=>∃o2 o3,σ=[some (.ref t),some (.ref p),o2,o3]/\(∀b o,b≠p->H2 b=some o->H3 b=some o)/\∃us,H3 p=some (.lst us)/\VR us ((sides (cs.take i)).filter λe=>!isIn cs (gap e)) eR H3)
   ⟨_,_,rfl,λ_ _ _ e=>e,[],hp2,VR.nil⟩ (λi σ H3 _ ⟨_,_,_,s3,_⟩=>s3 _ _ (BX hpt) e2) ?_ ?_
  .rintro i b kk v σ H3 hi hb ⟨o2,o3,rfl,s3,us,e3,hv3⟩;have hil:i<cs.length:=by have:=(Ad.mp hi).1;unfold tru at this;simpa using this
   have ci:cs[i]?=some cs[i]:=Aa hil
   have hk:kk=kC cs[i]:=by
    unfold tru at hi;rw[Az,Az,ci]at hi
    cases hi;rfl
   subst hk;have t3:=s3 _ _ (BX hpt) e2;refine⟨b,_,rfl,SqT.of hb,rfl,_,_,rfl,_,_,rfl,rfl,?_⟩;refine⟨_,rfl,.inl ⟨rfl,_,SqL.of e3⟩,4,rfl,by decide,by decide,λg hg=>?_⟩
   refine za7 (lo:=0) (n:=4) (λj σ H4=>∃o,σ=[o,some (.int cs[i].1),some (.int cs[i].2),some (.ref t)]/\Same H3 H4/\∃zs,H4 g=some (.lst zs)/\VR zs (((AG j).map λw=>(⟨cs[i],w⟩:Edge)).filter λe=>!isIn cs (gap e)) eR H4)
    ⟨_,rfl,Same.up hg,[],zaa,VR.nil⟩ ?_ ?_
   .rintro j σ H4 hj ⟨o,rfl,s4,zs,e4,hz⟩;have m6:(2*(0+(j:Int))+6) % 8=(((2*j+6) % 8:Nat):Int):=by lia
    have hzl:zs.length<=4:=by rw[hz.1];have:=AY (λe=>!isIn cs (gap e)) ((AG j).map λw=>(⟨cs[i],w⟩:Edge));rw[Ag,Bp]at this;lia
    refine⟨_,rfl,_,rfl,_,rfl,_,_,rfl,rfl,.inl ⟨by decide,by decide⟩,_,_,rfl,rfl,_,_,rfl,rfl,(by show (0:Int)<8;decide),cs[i],(2*j+6) % 8,(by rw[<- m6];rfl),BA _ (by decide),λp5 H5 hp5 s5 e5=>?_⟩;have t5:=(s4.trans s5) _ _ t3;refine⟨_,rfl,t,_,rfl,.inr ⟨tru (cs.map kC),kC (gap ⟨cs[i],j⟩),p5,.inr ⟨od,t5⟩,rfl,e5,rfl⟩,_,rfl,?_⟩;rw[zgD,C7,AA,List.map_singleton,zcG];refine ite2 (λhy=>?_) (λhn'=>?_)
    .rw[if_pos hy];refine⟨_,rfl,_,rfl,_,rfl,three,λq hq'=>?_⟩;have s6:=Same.up (o:=.tup [.int cs[i].1,.int cs[i].2,.int (0+(j:Int))]) hq';have r6:eR ⟨cs[i],j⟩ (.ref q) (upd H5 q (.tup [.int cs[i].1,.int cs[i].2,.int (0+(j:Int))])):=⟨q,rfl,by rw[zaa,CH];rfl⟩;generalize upd H5 q (.tup [.int cs[i].1,.int cs[i].2,.int (0+(j:Int))])=H6 at s6 r6;have e6:=(s5.trans s6) _ _ e4;refine⟨zs,e6,zak (by lia),_,rfl,zam hg (s4.trans (s5.trans s6)),_,zaa,?_⟩;exact hz.snoc (λx v h=>(h.kt (KT.of (s5.trans s6))).kt (KT.lst e6)) (r6.kt (KT.lst e6))
    .rw[if_neg hn',A0];exact⟨_,rfl,s4.trans s5,zs,s5 _ _ e4,hz.mono λx v h=>h.kt (KT.of s5)⟩
   .rintro σ H4 ⟨o,rfl,s4,zs,e4,hz⟩
    have hzl:zs.length<=4:=by rw[hz.1];have:=AY (λe=>!isIn cs (gap e)) ((AG 4).map λw=>(⟨cs[i],w⟩:Edge));rw[Ag,Bp]at this;exact this
    have hul:us.length<=480:=by rw[hv3.1];have:=AY (λe=>!isIn cs (gap e)) (sides (cs.take i));rw[zb5,A6]at this;lia
    have e34:=s4 _ _ e3;refine⟨p,g,_,_,rfl,rfl,e34,e4,Bj (zak (by lia)),?_⟩;have k7:KT H4 (upd H4 p (.lst (us++zs))):=KT.lst e34;refine⟨_,_,rfl,λb o hb e=>?_,_,zaa,?_⟩
    .rw[zag hb];exact s4 _ _ (s3 _ _ hb e)
    .rw[zaS ci,zhj,BU];exact (hv3.mono λx v h=>(h.kt (KT.of s4)).kt k7).app (hz.mono λx v h=>h.kt k7)
  .rintro σ H3 ⟨o2,o3,rfl,s3,us,e3,hv3⟩;rw[show (tru (cs.map kC)).length=cs.length by unfold tru;rw[Ag,Ag],AV]at hv3;refine⟨_,rfl,k p H3 us hp ⟨λb o hb e=>?_,od,s3 _ _ (BX hpt) e2⟩ e3 hv3⟩;exact s3 _ _ (zaj e hp) (sb2 _ _ hb (s1 _ _ e))
noncomputable def stI(o:Option Nat):Option Int:=o.map λn:Nat=>(n:Int)
theorem zlq(o:Option Nat):(stI o).elim V.non V.int=sv o:=by cases o <;> rfl
theorem zhy(C:Cell->Bool)(es:List Edge):((es.map (stepB C)).map stI).countP (·.isNone)=nL (wk C es):=by
 rw[nL_wk,List.countP_map,List.countP_map,List.countP_eq_length_filter]
 congr 1
 apply List.filter_congr
 intro e _;show (stI (stepB C e)).isNone=(stepB C e).isNone
 cases stepB C e <;> rfl
noncomputable def plR(es:List Edge)(k:Nat)(v:V)(H:Hp):Prop:=∃e p,es[k]?=some e/\v=.ref p/\H p=some (.tup [.int e.c.2,.int e.c.1,.int (k:Int)])
theorem plR.kt{es:List Edge}{k:Nat}{v:V}{H H':Hp}(h:plR es k v H)(s:KT H H'):plR es k v H':=let ⟨e,p,a,b,c⟩:=h;⟨e,p,a,b,s _ _ c⟩
noncomputable def keyP(es:List Edge)(k:Nat):List Int:=match es[k]? with |some e=>[e.c.2,e.c.1,(k:Int)] |none=>[]
theorem lex3{a b c d x y:Int}(h:HT.lexLt [a,b] [c,d]=true):HT.lexLt [a,b,x] [c,d,y]=true:=by
 simp only[HT.lexLt]at h ⊢
 by_cases e:a=c
 .rw[if_pos e]at h ⊢
  by_cases f:b=d
  .rw[if_pos f]at h;cases h
  .rw[if_neg f]at h ⊢;exact h
 .rw[if_neg e]at h ⊢;exact h
noncomputable def zhX(K:W.Frag):Sp:=λvs H Q _=>∃(pe pq:Addr) (us:List V) (C:Cell->Bool) (es:List Edge),vs=[.ref pe,.ref pq]/\H pe=some (.lst us)/\VR us es eR H/\H pq=some (.lst ((es.map (stepB C)).map sv))/\es.length<=480 /\
 (∃e∈es,e.w=0)/\(∃e∈es,e.w=2)/\∀v H' r,Same H H'->rR r v H'->IsRnd (wk C es) r->Q v H'
theorem zgk (T:Txt P w K mg) (d:Df K mg "_law_told" zbj ["_law_edges_here","_law_steps"]):FnOk P w K mg base CX0 2 d.f d.fd ["_law_edges_here","_law_steps"] (zhX K):=by
 refine d.F.ok zbn (λvs H Q E h=>?_) (λcdv A outer s H vs Q E hr h=>?_)
 .obtain⟨pe,pq,us,C,es,rfl,_⟩:=h;rfl
 .obtain⟨pe,pq,us,C,es,rfl,e10,hv10,q10,hel,hw0,hw2,k⟩:=h;have hu1:=hu_of hr;have nb0:(["_law_step"]:List Str).Nodup:=by decide +kernel
  have nb1:(["_law_k","_law_x","_law_y","_law_here","_law_way"]:List Str).Nodup:=by decide +kernel
  have nb2:(["_law_step"]:List Str).Nodup:=by decide +kernel
  refine⟨_,(zac (sE 2 zbn.nd (pe_op zbt (pe_bm AD PySem.F.slot_list_count PySem.F.type_list_count ziA (pv 1) (pa_C zbq zab)) (zaw zav (by rfl) T.nlen (by rfl) (zai (zaZ (osc:=zaf zbj) (N:=zb0) (N':=["_law_step"]) (sel:=[none]) bO (zaO (pv 1)) (λ_ _ _ _ _=>(nG 0 nb0)) (λ_ _ _ _ _=>zbs (zdE (zaq zcX (pv 0) zbq (zas _)) (zcD (zaq op_eq (pe_op zaF (pv 0) zae) zae (zas _)))).pt) (λ_ _ _ _ _=>(pv 0))) zab))))
   (zac (zc8 (i:=3) zbn.nd (by rfl) (CP rfl) (pe_ix zaR (zaY (pa_C zae (pa_C zae zab))) (zcM zfU (by rfl) T.nint (by rfl) (zai (zbU op_gt (pv 2) zae (zas _)) zab)) (λ_ _=>rfl)))
   (zac (sE 4 zbn.nd (pe_ix zcO (zaw (zjh hu1 rfl) (by rfl) T.nmin (by rfl) (zai (zaZ (osc:=zaf zbj) (N:=zb0) (N':=["_law_k","_law_x","_law_y","_law_here","_law_way"]) (sel:=[none,none,none,none,some 3]) bO (zeL (by rfl) T.nenumerate (pa_N (pv 0) zab)) (λ_ _ _ _ _=>(zbA (K:=K) (n:=2) (by rfl) (zad (nG 0 nb1) (zad (zbA (K:=K) (n:=3) (by rfl) (zad (nG 1 nb1) (zad (nG 2 nb1) (zad (nG 3 nb1) zao)))) zao)))) (λ_ _ _ _ _=>zbs (zaq op_eq (pv 3) (pv 4) (zas _))) (λ_ _ _ _ _=>(zar (pa_N (pv 2) (pa_N (pv 1) (pa_N (pv 0) zab)))))) zab)) zae (λ_ _=>rfl)))
   (zac (sE 5 zbn.nd (zcM ze4 (by rfl) T.ntuple (by rfl) (zai (zaZ (osc:=zaf zbj) (N:=zb0) (N':=["_law_step"]) (sel:=[none]) bO (zaO (pe_op zgS (zcL zga (pv 1) (zcW (pv 4)) zeJ) (zcL zga (pv 1) zeJ (zcW (pv 4))))) (λ_ _ _ _ _=>(nG 0 nb2)) (λ_ _ _ _ _=>zbs (zaq zcX (pv 0) zbq (zas _))) (λ_ _ _ _ _=>(pv 0))) zab)))
   (zah (zal (zar (zai (pe_ix zaR (zaY (pa_C zeh (pa_C zeh zab))) (zcM zfU (by rfl) T.nint (by rfl) (zai (zbU op_gt (pv 2) zae (zas _)) zab)) (λ_ _=>rfl)) (zai (pe_ix zcO (pe_ix zaR (pv 0) (pv 4) (λ_ _=>rfl)) zae (λ_ _=>rfl)) (zai (pe_ix zcO (pe_ix zaR (pv 0) (pv 4) (λ_ _=>rfl)) zae (λ_ _=>rfl)) (pa_N (pv 5) zab))))))))))),?_⟩
  have qs:H pq=some (.lst (((es.map (stepB C)).map stI).map λo=>o.elim V.non V.int)):=by
   rw[q10]
   congr 2
   simp only[List.map_map]
   apply List.map_congr_left
   intro o _;exact (zlq _).symm
  refine⟨_,rfl,.inl ⟨rfl,_,SqL.of q10⟩,pq,_,rfl,rfl,qs,?_⟩;rw[zhy];refine⟨_,rfl,pq,rfl,⟨_,SqL.of q10⟩,λg hg=>?_⟩
  refine zaA (K:=K) (a:=pq) (xs:=(es.map (stepB C)).map sv) (λi σ H1=>∃o,σ=[o]/\Same H H1/\∃zs:List V,H1 g=some (.lst zs)/\zs.length=((es.take i).filter λe=>slant (stepB C e)).length)
   ⟨_,rfl,Same.up hg,[],zaa,rfl⟩ (λi σ H1 _ ⟨_,_,s1,_⟩=>SqL.of (s1 _ _ q10)) ?_ ?_
  .rintro i u σ H1 hi ⟨o,rfl,s1,zs,e1,hz⟩;rw[Az,Az]at hi;obtain⟨so,hso',rfl⟩:=Bn.mp hi;obtain⟨f,hf,rfl⟩:=Bn.mp hso';have hil:i<es.length:=(Ad.mp hf).1
   have hzl:zs.length<=480:=by have:=AY (λe=>slant (stepB C e)) (es.take i);rw[A6]at this;lia
   rw[zbW hf]
   cases hst:stepB C f with
   |none=>exact⟨_,rfl,rfl,_,rfl,iteF ⟨_,rfl,s1,zs,e1,by rw[if_neg (by decide),A0];exact hz⟩⟩
   |some n =>
    have hd:decide (V.int ((n:Int) % 2)=V.int 1)=slant (some n):=by
     show _=(n % 2 == 1)
     by_cases q:n % 2=1
     .rw[decide_eq_true (by rw[show (n:Int) % 2=1 by lia]),q];rfl
     .rw[decide_eq_false (λz=>q (by injection z with z;lia))];simp[q]
    refine⟨_,rfl,rfl,_,rfl,iteT ⟨_,rfl,_,_,rfl,rfl,(by show (0:Int)<2;decide),rfl,_,rfl,?_⟩⟩;rw[hd];refine ite2 (λhy=>?_) (λhn=>?_)
    .refine⟨_,rfl,zs,e1,zak (by lia),_,rfl,zam hg s1,_,zaa,?_⟩;rw[if_pos hy,Ak,Ak,hz];rfl
    .exact⟨_,rfl,s1,zs,e1,by rw[if_neg hn,A0];exact hz⟩
  .rintro σ H1 ⟨o,rfl,s1,zs,e1,hz⟩;rw[List.take_of_length_le (by rw[Ag,Ag];exact Ai _),<- nS_wk]at hz;refine⟨g,zs,rfl,.inl (SqL.of e1),?_⟩;rw[hz];obtain⟨kk,hkk⟩:∃kk:Nat,kk=kOf (sortS (wk C es)):=⟨_,rfl⟩;have hgt:decide ((0:Int)<(nL (wk C es):Int)-(nS (wk C es):Int))=decide (nS (wk C es)<nL (wk C es)):=decide_eq_decide.mpr (by lia)
   have way:atI [V.int 2,V.int 0] (if decide (nS (wk C es)<nL (wk C es))=true then 1 else 0)=some (.int (kk:Int)):=by
    rw[hkk];unfold kOf sortS
    by_cases z:nS (wk C es)<nL (wk C es)
    .rw[if_pos z,decide_eq_true z];rfl
    .rw[if_neg z,decide_eq_false z];rfl
   have sor:atI [V.str "hole",V.str "rim"] (if decide (nS (wk C es)<nL (wk C es))=true then 1 else 0)=some (.str (sortS (wk C es))):=by
    unfold sortS
    by_cases z:nS (wk C es)<nL (wk C es)
    .rw[if_pos z,decide_eq_true z];rfl
    .rw[if_neg z,decide_eq_false z];rfl
   refine⟨_,_,rfl,rfl,two,λl2 h2=>?_⟩;have s2:=Same.up (o:=.lst [.int 2,.int 0]) h2;have e2:upd H1 l2 (.lst [.int 2,.int 0]) l2=some (.lst [.int 2,.int 0]):=zaa;generalize upd H1 l2 (.lst [.int 2,.int 0])=H2 at s2 e2;refine⟨_,rfl,_,_,rfl,rfl,.inr ⟨_,rfl,l2,_,_,_,rfl,rfl,SqL.of e2,(by rw[hgt];exact way),?_⟩⟩;have s12:=s1.trans s2;have pe2:=s12 _ _ e10;have pq2:=s12 _ _ q10;have hv2:=hv10.mono λx v h=>h.kt (KT.of s12)
   have hul:us.length=es.length:=hv10.1;refine⟨_,rfl,pe,rfl,⟨_,SqL.of pe2⟩,λg2 hg2=>?_⟩
   refine zdp (K:=K) (a:=pe) (xs:=us) (λi σ H3=>∃o0 o1 o2 o3,σ=[o0,o1,o2,o3,some (.int (kk:Int))]/\Same H2 H3/\∃zs,H3 g2=some (.lst zs)/\VR zs ((AG i).filter λk=>(es[k]?).any (·.w == kk)) (plR es) H3)
    ⟨_,_,_,_,rfl,Same.up hg2,[],zaa,VR.nil⟩ (λi σ H3 _ ⟨_,_,_,_,_,s3,_⟩=>SqL.of (s3 _ _ pe2)) ?_ ?_
   .rintro i u σ H3 p hi ⟨o0,o1,o2,o3,rfl,s3,zs3,e3,hz3⟩ hp;obtain⟨f,hf,bf,rfl,qf⟩:=hv2.at hi;have s4:=Same.up (o:=.tup [.int i,.ref bf]) hp;have e4:upd H3 p (.tup [.int i,.ref bf]) p=some (.tup [.int i,.ref bf]):=zaa;generalize upd H3 p (.tup [.int i,.ref bf])=H4 at s4 e4;have qf4:=(s3.trans s4) _ _ qf;have hil:i<es.length:=(Ad.mp hf).1
    have hzl:zs3.length<=480:=by rw[hz3.1];have:=AY (λk=>(es[k]?).any (·.w == kk)) (AG i);rw[Bp]at this;lia
    have hd:decide (V.int (f.w:Int)=V.int (kk:Int))=(es[i]?).any (·.w == kk):=by
     rw[hf];show _=(f.w == kk)
     by_cases q:f.w=kk
     .rw[q];simp
     .rw[decide_eq_false (λz=>q (by injection z with z;lia))];simp[q]
    refine⟨p,_,rfl,SqT.of e4,rfl,_,_,rfl,_,_,rfl,bf,_,rfl,SqT.of qf4,rfl,_,_,rfl,_,_,rfl,_,_,rfl,rfl,rfl,_,rfl,_,rfl,rfl,_,rfl,?_⟩;rw[hd,C7,zcG];refine ite2 (λhy=>?_) (λhn=>?_)
    .rw[if_pos hy];refine⟨_,rfl,_,rfl,_,rfl,three,λq hq=>?_⟩;have s5:=Same.up (o:=.tup [.int f.c.2,.int f.c.1,.int (i:Int)]) hq;have r5:plR es i (.ref q) (upd H4 q (.tup [.int f.c.2,.int f.c.1,.int (i:Int)])):=⟨f,q,hf,rfl,zaa⟩;generalize upd H4 q (.tup [.int f.c.2,.int f.c.1,.int (i:Int)])=H5 at s5 r5;have e5:=(s4.trans s5) _ _ e3;refine⟨zs3,e5,zak (by lia),_,_,_,_,rfl,zam hg2 (s3.trans (s4.trans s5)),_,zaa,?_⟩;exact hz3.snoc (λx v h=>(h.kt (KT.of (s4.trans s5))).kt (KT.lst e5)) (r5.kt (KT.lst e5))
    .rw[if_neg hn,A0];exact⟨_,_,_,_,rfl,s3.trans s4,zs3,s4 _ _ e3,hz3.mono λx v h=>h.kt (KT.of s4)⟩
   .rintro σ H3 ⟨o0,o1,o2,o3,rfl,s3,zs3,e3,hz3⟩;rw[hul]at hz3;obtain⟨L,hL⟩:∃L,L=(AG es.length).filter λk=>(es[k]?).any (·.w == kk):=⟨_,rfl⟩
    rw[<- hL]at hz3
    have memL:∀j,j∈L ↔ ∃e,es[j]?=some e/\e.w=kk:=λj=>by
     rw[hL,List.mem_filter,List.mem_range];constructor
     .rintro⟨h1,h2⟩;rw[Aa h1]at h2;exact⟨es[j],Aa h1,by simpa using h2⟩
     .rintro⟨e,h1,h2⟩;exact⟨(Ad.mp h1).1,by rw[h1];simpa using h2⟩
    have hex:∃e∈es,e.w=kk:=by
     rw[hkk];rcases zeC (wk C es) with z |z <;> rw[z]
     .exact hw0
     .exact hw2
    have hpos:0<zs3.length:=by obtain⟨e,h1,h2⟩:=hex;obtain⟨j,hj,ej⟩:=Au h1;rw[hz3.1];exact CW ((memL j).mpr ⟨e,by rw[Aa hj,ej],h2⟩)
    refine⟨g2,zs3,λi=>keyP es (L.getD i 0),rfl,SqL.of e3,hpos,λi x hx=>?_,λi x H4 hx hle s4=>?_⟩
    .obtain⟨j,hj,e,p,he,rfl,q⟩:=hz3.at hx;refine⟨p,rfl,SqT.of ?_⟩;show H3 p=some (HO.tup ((keyP es (L.getD i 0)).map V.int));rw[AS,hj,Option.getD_some];unfold keyP;rw[he,q];rfl
    .obtain⟨j,hj,e,p,he,rfl,q⟩:=hz3.at hx;have q4:=s4 _ _ q;have hjl:j<es.length:=(Ad.mp he).1
     have hwj:e.w=kk:=by obtain⟨e',h1,h2⟩:=(memL j).mp (Aj hj);rw[he]at h1;cases h1;exact h2
     obtain⟨ws,hws⟩:∃ws,ws=(es.map (stepB C)).map sv:=⟨_,rfl⟩;have hwl:ws.length=es.length:=by rw[hws,Ag,Ag]
     have pq4:=(s3.trans s4) _ _ pq2;have pe4:=(s3.trans s4) _ _ pe2;rw[<- hws]at pq4;refine⟨p,_,_,_,rfl,rfl,SqT.of q4,zat (j:=2) rfl,?_⟩;refine⟨_,rfl,_,rfl,_,rfl,pq,ws,rfl,SqL.of pq4,λp5 hp5=>?_⟩;rw[zj2 ws (by lia:j<=ws.length)];have s5:=Same.up (o:=.lst (ws.drop j)) hp5;refine⟨_,rfl,_,rfl,_,rfl,pq,ws,rfl,SqL.of (s5 _ _ pq4),λp6 hp6=>?_⟩;rw[zl1 ws (by lia:j<=ws.length)];have s6:=Same.up (o:=.lst (ws.take j)) hp6;refine⟨p5,p6,_,_,rfl,rfl,s6 _ _ zaa,zaa,Bj (zak (by simp;lia)),λp7 hp7=>?_⟩;have s7:=Same.up (o:=.lst (ws.drop j++ws.take j)) hp7;have s47:=s5.trans (s6.trans s7);have e7:upd (upd (upd H4 p5 (.lst (ws.drop j))) p6 (.lst (ws.take j))) p7 (.lst (ws.drop j++ws.take j)) p7=some (.lst (ws.drop j++ws.take j)):=zaa;generalize upd (upd (upd H4 p5 (.lst (ws.drop j))) p6 (.lst (ws.take j))) p7 (.lst (ws.drop j++ws.take j))=H7 at s47 e7 ⊢;obtain⟨os,hos⟩:∃os:List (Option Nat),os=(es.map (stepB C)).drop j++(es.map (stepB C)).take j:=⟨_,rfl⟩;have hwo:ws.drop j++ws.take j=os.map sv:=by rw[hws,hos,AA,Dc,Dd]
     have hol:os.length<=480:=by rw[hos];simp;lia
     rw[hwo]at e7;refine⟨p7,rfl,⟨_,SqL.of e7⟩,λg8 hg8=>?_⟩
     refine zaA (K:=K) (a:=p7) (xs:=os.map sv) (λi σ H8=>∃o,σ=[o]/\Same H7 H8/\H8 g8=some (.lst (rowV ((os.take i).filterMap id))))
      ⟨_,rfl,Same.up hg8,zaa⟩ (λi σ H8 _ ⟨_,_,s8,_⟩=>SqL.of (s8 _ _ e7)) ?_ ?_
     .rintro i u σ H8 hi ⟨o,rfl,s8,e8⟩;rw[Az]at hi;obtain⟨so,hso,rfl⟩:=Bn.mp hi
      have hl2:(rowV ((os.take i).filterMap id)).length<=1000:=by unfold rowV;rw[Ag];have:=List.length_filterMap_le id (os.take i);rw[A6]at this;lia
      refine⟨_,rfl,rfl,_,rfl,?_⟩;rw[zkd,zaS hso,List.filterMap_append]
      cases so with
      |none=>exact iteF ⟨_,rfl,s8,by simpa using e8⟩
      |some n =>
       refine iteT ⟨_,rfl,_,e8,zak hl2,_,rfl,zam hg8 s8,?_⟩;rw[zaa];simp[rowV,sv]
     .rintro σ H8 ⟨o,rfl,s8,e8⟩;rw[Ag,AV]at e8;refine⟨g8,_,rfl,.inl ⟨SqL.of e8,λp9 hp9=>?_⟩⟩;have s9:=Same.up (o:=.tup (rowV (os.filterMap id))) hp9;have e9:upd H8 p9 (.tup (rowV (os.filterMap id))) p9=some (.tup (rowV (os.filterMap id))):=zaa;generalize upd H8 p9 (.tup (rowV (os.filterMap id)))=H9 at s9 e9;refine⟨two,λl10 h10=>?_⟩;have s10:=Same.up (o:=.lst [.str "hole",.str "rim"]) h10;have e10':upd H9 l10 (.lst [.str "hole",.str "rim"]) l10=some (.lst [.str "hole",.str "rim"]):=zaa;generalize upd H9 l10 (.lst [.str "hole",.str "rim"])=H10 at s10 e10';have s210:=(s3.trans s4).trans (s47.trans (s8.trans (s9.trans s10)));have pe10:=s210 _ _ pe2;have huj:us[j]?=some us[j]:=Aa (by lia)
      obtain⟨e',he',bf,ebf,qf⟩:=hv2.at huj;rw[he]at he'
      cases he'
      have qf10:=s210 _ _ qf;have hat:atI us (j:Int)=some (.ref bf):=zat (by rw[huj,ebf]);refine⟨_,rfl,_,_,rfl,rfl,.inr ⟨_,rfl,l10,_,_,_,rfl,rfl,SqL.of e10',(by rw[hgt];exact sor),?_⟩⟩;refine⟨_,rfl,_,rfl,pe,_,_,_,rfl,rfl,SqL.of pe10,hat,bf,_,_,_,rfl,rfl,SqT.of qf10,zat (j:=0) rfl,?_⟩;refine⟨_,rfl,_,rfl,pe,_,_,_,rfl,rfl,SqL.of pe10,hat,bf,_,_,_,rfl,rfl,SqT.of qf10,zat (j:=1) rfl,?_⟩;refine⟨_,rfl,(by show 4<=sizeLine;decide),λp11 hp11=>?_⟩;refine k _ _ ⟨sortS (wk C es),e.c.1,e.c.2,os.filterMap id⟩ (s12.trans (s210.trans (Same.up hp11))) ⟨p11,p9,rfl,zaa,Same.up hp11 _ _ (s10 _ _ e9)⟩ ⟨rfl,j,e,?_,⟨?_,?_,λf h1 h2=>?_⟩,rfl,rfl,?_⟩
      .rw[zcs];exact he
      .rw[zcs];exact Aj he
      .rw[hwj,hkk]
      .rw[zcs]at h1;obtain⟨m,hm,em⟩:=Au h1;have hmL:=(memL m).mpr ⟨f,by rw[Aa hm,em],by rw[h2,hkk]⟩;obtain⟨n,hn,en⟩:=Au hmL;have hnl:n<zs3.length:=by rw[hz3.1];exact hn
       have:=(hle n hnl).1
       have kn:keyP es (L.getD n 0)=[f.c.2,f.c.1,(m:Int)]:=by rw[AS,Aa hn,en,Option.getD_some];unfold keyP;rw[Aa hm,em]
       have ki:keyP es (L.getD i 0)=[e.c.2,e.c.1,(j:Int)]:=by rw[AS,hj,Option.getD_some];unfold keyP;rw[he]
       simp only[kn,ki]at this
       cases q':HT.lexLt [f.c.2,f.c.1] [e.c.2,e.c.1] with
       |false=>rfl
       |true=>rw[lex3 q']at this;cases this
      .rw[hos];unfold wk;rw[<- Dc,<- Dd,<- AA,<- Dc,<- Dd,<- AA,Ch,Ch];rfl
theorem InOrd.pw{cs:List Cell}(h:InOrd cs):cs.Pairwise λa b=>HT.lexLt [a.2,a.1] [b.2,b.1]=true:=by
 induction cs with
 |nil=>exact .nil
 |cons a r ih =>
  have ih':=ih λi c d h1 h2=>h (i+1) c d (by simpa using h1) (by simpa using h2)
  refine List.pairwise_cons.mpr ⟨λb hb=>?_,ih'⟩
  cases r with
  |nil=>cases hb
  |cons c r =>
   have h0:HT.lexLt [a.2,a.1] [c.2,c.1]=true:=h 0 a c rfl rfl;rcases Aw.mp hb with rfl |hb
   .exact h0
   .exact HT.lexLt_trans h0 ((List.pairwise_cons.mp ih').1 b hb)
theorem InOrd.nodup{cs:List Cell}(h:InOrd cs):cs.Nodup:=h.pw.imp λ{a b} q e=>by subst e;rw[HT.lexLt_irrefl]at q;cases q
theorem cR.key{c:Cell}{v:V}{H:Hp}(h:cR c v H):keyR (kC c) v H:=let ⟨b,e1,q⟩:=h;⟨b,e1,q⟩
theorem VR.keys{α:Type}{vs:List V}{l:List α}{R:α->V->Hp->Prop}{H:Hp}{f:α->List Key}(h:VR vs l R H)(m:∀x v,R x v H->keyR (f x) v H):VR vs (l.map f) keyR H:=by refine⟨by rw[Ag];exact h.1,λi x v h1 h2=>?_⟩;rw[Az]at h1;obtain⟨y,hy,rfl⟩:=Bn.mp h1;exact m y v (h.2 i y v hy h2)
theorem _root_.L2.But1.kt{pos:Pos}{qual:Str}{P:Addr}{H H':Hp}(b:But1 P H H')(l:LamAt pos qual P H):KT H H':=λz xs e=>b z _ (l.ne e nofun) e
noncomputable def lamQ (f:Str):Str:=f ++ ".<locals>." ++ "<lambda>"
noncomputable abbrev lpT:Pos:=(⟨197,34,197,100⟩:Pos)
noncomputable abbrev LamT (P:Addr) (H:Hp):Prop:=LamAt lpT (lamQ "_law_traced") P H
noncomputable def zgJ(K:W.Frag)(L:Addr):Sp:=λvs H Q _=>∃(a:Addr) (us:List V) (cs:List Cell),vs=[.ref a]/\H a=some (.lst us)/\VR us cs cR H/\InOrd cs/\cs.length<=120/\Slim cs/\LamT L H /\
 ∀p H' rs R R0,H p=none->But1 L H H'->LamT L H'->H' p=some (.lst rs)->VR rs R rR H'->R.Perm R0->R.Pairwise (λr q=>HT.lexLt (keyI q) (keyI r)=false)->Whole cs R0->Q (.ref p) H'
theorem zeR {L c:Addr}(T:Txt P w K mg) (hB:Bm mg base) (hh:Ci K c L=true) (g__law_lot:Fn P w K mg base 1 "_law_lot" ["_law_cells"] (spLot K)) (g__law_edges:Fn P w K mg base 2 "_law_edges" ["_law_there"] (zh4 K))
    (g__law_walked:Fn P w K mg base 3 "_law_walked" ["_law_there","_law_first"] (zgG K)) (g__law_told:Fn P w K mg base 2 "_law_told" ["_law_edges_here","_law_steps"] (zhX K))
    (d:Df K mg "_law_traced" zaN ["_law_cells"]) (hc:d.fd.code=.ref c):FnOk P w K mg base CX0 5 d.f d.fd ["_law_cells"] (zgJ K L):=by
  refine d.F.okL hc zaC (λvs H Q E h=>?_) (λA outer s H vs Q E hr h=>?_)
  . obtain⟨a,us,cs,rfl,_⟩:=h;rfl
  . obtain⟨a,us,cs,rfl,ea,hva,hord,hlen,hslim,hlam,k⟩:=h;have hu1:=hu_of hr
    refine⟨_,(zac (sE 1 zaC.nd (pC g__law_lot hr (pa_N (pv 0) zab)))
      (zac (sE 2 zaC.nd zdn)
      (zac (sE 3 zaC.nd (zaY zab))
      (zac (zbo A5 rfl (zaO (pC g__law_edges hr (pa_N (pv 1) zab))) (nG 4 zaC.nd)
      (zah (ps_if (zcK (zcN hu1 (pv 4) (pv 2)))
      (zac (zbf (pC g__law_walked hr (pa_N (pv 1) (pa_N (pv 4) zab))) (za2 (by rfl) (zad (nG 5 zaC.nd) (zad (nG 6 zaC.nd) zao))))
      (zac (zbo A5 rfl (zaO (pv 5)) (nG 7 zaC.nd)
      (zah (zeI hu1 (pv 2) (pv 7) pe_bl rfl)))
      (zah (za1 (pe_bm AD AL AM zaE (pv 3) (zai (pC g__law_told hr (pa_N (pv 5) (pa_N (pv 6) zab))) zab))))))
      zaK)))
      (zah (zal (zir (k:=0) (N:=["_law_one"]) (hr.mono (by decide)) (by rfl) T.nsorted rfl hh hB (by rfl) ⟨rfl,rfl,rfl,by decide +kernel,rfl,by decide +kernel,by decide +kernel⟩ (λ_ _ _ _=>rfl) (pv 3) (λ_ _ _ _ _ _=>(zar (zai (pe_ix (zci (K:=K)) (pv 0) zae (λ_ _=>rfl)) (zai (pe_ix (zci (K:=K)) (pv 0) zae (λ_ _=>rfl)) (zai (zbU op_eq (pe_ix (zci (K:=K)) (pv 0) zae (λ_ _=>rfl)) zeh (zas _)) zab)))))))))))),?_⟩
    have hnd:=hord.nodup;have hcn:(cs.map kC).Nodup:=List.Pairwise.map _ (λa b hab e=>hab (zei.mp e)) hnd;refine⟨_,rfl,a,us,cs.map kC,rfl,SqL.of ea,hva.keys (f:=kC) λx v h=>h.key,hcn,by rw[Ag];lia,λt H1 ht s1 e1=>?_⟩;refine λdd hdd=>⟨(by show 0<=sizeLine;decide),λp hp=>?_⟩
    have hpd:p≠dd:=λz=>by subst z;rw[zaa]at hp;cases hp
    have s4:Same H1 (upd (upd H1 dd (.dT [])) p (.lst [])):=(Same.up hdd).trans (Same.up hp);have d4:upd (upd H1 dd (.dT [])) p (.lst []) dd=some (.dT []):=by rw[zag (BX hpd),zaa]
    have p4:upd (upd H1 dd (.dT [])) p (.lst []) p=some (.lst []):=zaa;have n2:H1 dd=none:=hdd;have n2p:H1 p=none:=by rw[zag hpd]at hp;exact hp
    generalize upd (upd H1 dd (.dT [])) p (.lst [])=H4 at s4 d4 p4;have t4:=s4 _ _ e1;have a4:=(s1.trans s4) _ _ ea;have s14:=s1.trans s4;refine⟨_,rfl,t,cs,rfl,t4,hlen,λpe H5 es hpe f5 e5 hvE=>?_⟩;obtain⟨f5,od,t5⟩:=f5;have kt5:KT H4 H5:=λb xs e=>f5 b _ (ne_of e t4 (λz=>nomatch z)) e
    have s15:Same H H5:=λb o e=>f5 b o (zaj e ht) (s14 _ _ e)
    have d5:H5 dd=some (.dT []):=f5 _ _ (zaj e1 n2).symm d4;have p5:H5 p=some (.lst []):=f5 _ _ (zaj e1 n2p).symm p4;have hped:pe≠dd:=(zaj d4 hpe).symm;have hpep:pe≠p:=(zaj p4 hpe).symm;have htd:t≠dd:=zaj e1 n2;have htp:t≠p:=zaj e1 n2p;have nHd:H dd=none:=s1.free n2;have nHp:H p=none:=s1.free n2p;refine⟨pe,rfl,⟨_,SqL.of e5⟩,?_⟩
    refine zaA (K := K) (a := pe) (xs := es) (λi σ H6 => ∃o4 o5 o6 o7, σ = [some (.ref a), some (.ref t), some (.ref dd), some (.ref p), o4, o5, o6, o7] /\ Same H H6 /\ H6 t=some (.frz od (.dT (tru (cs.map kC)))) /\ H6 pe=some (.lst es) /\ KT H5 H6 /\
        ∃kvs rs ESS R,H6 dd=some (.dT kvs)/\H6 p=some (.lst rs)/\VR rs R rR H6/\Part (isIn cs) ESS R/\(∀e,(valV kvs (kE e)).isSome=decide (e∈ESS.flatten))/\kvs.length<=ESS.flatten.length/\∀e∈(allE cs).take i,e∈ESS.flatten)
      ⟨_,_,_,_,rfl,s15,t5,e5,KT.refl _,[],[],[],[],d5,p5,VR.nil,Part.nil,(λe=>by simp[valV]),Ai _,(λe he=>by simp at he)⟩ (λi σ H6 _ ⟨_,_,_,_,_,_,_,e6,_⟩=>SqL.of e6) ?_ ?_
    . rintro i v σ H6 hi ⟨o4,o5,o6,o7,rfl,s6,t6,e6,kt6,kvs,rs,ESS,R,d6,p6,hR,hP,hkv,hkl,hall⟩;obtain⟨e,he,b,rfl,qb⟩:=hvE.at hi;have hE:IsE (isIn cs) e:=zgY.mp (Aj he);have qb6:=kt6 _ _ qb;refine⟨_,rfl,_,rfl,dd,_,rfl,.inr ⟨kvs,kE e,b,Rd.of d6,rfl,qb6,rfl⟩,_,rfl,?_⟩;rw[hkv]
      by_cases hin:e∈ESS.flatten
      . rw[decide_eq_true hin];refine iteF ⟨_,_,_,_,rfl,s6,t6,e6,kt6,kvs,rs,ESS,R,d6,p6,hR,hP,hkv,hkl,λf hf=>?_⟩;rcases (zcg he).mp hf with z |z
        . exact hall f z
        . rw[z];exact hin
      . rw[decide_eq_false hin];refine iteT ?_
        have tab6:TabR H6 t (isIn cs):=TabR.of (.inr ⟨od,t6⟩);refine⟨_,rfl,_,rfl,t,b,cs,e,rfl,tab6,qb6,hE,hlen,λpw pu pq H7 ws fs s7 f7 e7 hv7 q7 hcl=>?_⟩;have hfs:fs.length<=4*cs.length:=hcl.1.short;have hap:=hcl.apart hP.back hin;have d7:=s7 _ _ d6;have hud:pu≠dd:=ne_of e7 d7 (λz=>nomatch z);have hws:ws.length=fs.length:=hv7.1;refine⟨pw,_,rfl,SqT.of f7,rfl,_,_,rfl,_,_,rfl,rfl,?_⟩;refine⟨_,rfl,pu,rfl,⟨_,SqL.of e7⟩,?_⟩
        refine zaA (K := K) (a := pu) (xs := ws) (λj σ H8 => ∃o7, σ = [some (.ref a), some (.ref t), some (.ref dd), some (.ref p), some (.ref b), some (.ref pu), some (.ref pq), o7] /\ (∀z o, z ≠ dd -> H7 z=some o -> H8 z=some o) /\
            ∃kv8,H8 dd=some (.dT kv8)/\(∀f,(valV kv8 (kE f)).isSome=decide (f∈ESS.flatten∨f∈fs.take j))/\kv8.length<=ESS.flatten.length+j)
          ⟨_,rfl,(λz o _ h=>h),kvs,d7,(λf=>by rw[hkv];simp),by lia⟩ (λj σ H8 _ ⟨_,_,k8,_⟩=>SqL.of (k8 _ _ hud e7)) ?_ ?_
        . rintro j u σ H8 hj ⟨o7,rfl,k8,kv8,d8,hk8,hl8⟩;obtain⟨f,hf',bb,rfl,q2⟩:=hv7.at hj;have nb:bb≠dd:=ne_of q2 d7 (λz=>nomatch z);have hjl:j<fs.length:=by rw[<- hws];exact (Ad.mp hj).1
          have hsm:=hP.small;refine⟨_,rfl,_,rfl,dd,_,rfl,.inr ⟨kv8,kE f,bb,d8,rfl,k8 _ _ nb q2,zak (by lia),rfl⟩,?_⟩;refine⟨_,rfl,(λz o hz h=>by rw[zag hz];exact k8 z o hz h),_,zaa,(λg=>?_),AO (zaP _ _ _) (by lia)⟩;rw[zcI]
          by_cases eg:g=f
          . rw[if_pos (zkr.mpr eg),decide_eq_true (.inr ((zcg hf').mpr (.inr eg)))];rfl
          . rw[if_neg (λz=>eg (zkr.mp z)),hk8];refine decide_eq_decide.mpr ⟨λz=>z.imp id λq=>(zcg hf').mpr (.inl q),λz=>z.imp id λq=>((zcg hf').mp q).resolve_right eg⟩
        . rintro σ H8 ⟨o7,rfl,k8,kv8,d8,hk8,hl8⟩;rw[hws,AV]at hk8;have p8:=k8 _ _ hpd (s7 _ _ p6);have kt8:KT H7 H8:=λz xs h=>k8 z _ (ne_of h d7 (λq=>nomatch q)) h
          have u8:H8 pu=some (.lst ws):=k8 _ _ hud e7;have q8:H8 pq=some (.lst ((fs.map (stepB (isIn cs))).map sv)):=k8 _ _ (ne_of q7 d7 (λz=>nomatch z)) q7;have hrl:rs.length<=120:=by rw[hR.1];exact AO hP.few hlen
          refine⟨_,rfl,.inl ⟨rfl,_,SqL.of p8⟩,_,rfl,_,rfl,pu,pq,ws,isIn cs,fs,rfl,u8,hv7.mono (λx v hx=>hx.kt kt8),q8,by lia,hcl.has (.inl rfl),hcl.has (.inr rfl),λvr H9 r s9 hr9 hrn=>?_⟩;have p9:=s9 _ _ p8;refine⟨p,rs,_,rfl,rfl,p9,zak (by lia),?_⟩;have kt9:KT H9 (upd H9 p (.lst (rs++[vr]))):=KT.lst p9;have ktA:KT H6 (upd H9 p (.lst (rs++[vr]))):=(KT.of s7).trans (kt8.trans ((KT.of s9).trans kt9));refine⟨_,_,_,_,rfl,(λz o h=>?_),?_,?_,kt6.trans ktA,kv8,rs++[vr],ESS++[fs],R++[r],?_,zaa,hR.snoc (λx v hx=>hx.kt ktA) (hr9.kt kt9),hP.snoc hcl hrn hin,(λf=>?_),?_,(λf hf=>?_)⟩
          . rw[zag (zaj h nHp)];exact s9 _ _ (k8 _ _ (zaj h nHd) (s7 _ _ (s6 _ _ h)))
          . rw[zag htp];exact s9 _ _ (k8 _ _ htd (s7 _ _ t6))
          . rw[zag hpep];exact s9 _ _ (k8 _ _ hped (s7 _ _ e6))
          . rw[zag (BX hpd)];exact s9 _ _ d8
          . rw[hk8];refine decide_eq_decide.mpr ?_
            rw[DC,List.mem_append];simp
          . rw[DC,Ak,show [fs].flatten=fs by simp];lia
          . rw[DC,List.mem_append];rcases (zcg he).mp hf with z |z
            . exact .inl (hall f z)
            . rw[z];refine .inr ?_
              have:=hcl.1.1;simpa using Aj this
    . rintro σ H6 ⟨o4,o5,o6,o7,rfl,s6,t6,e6,kt6,kvs,rs,ESS,R,d6,p6,hR,hP,hkv,hkl,hall⟩;rw[hvE.1,AV]at hall;have hrl:rs.length<=63:=by rw[hR.1];exact hslim _ _ hP
      have ge:∀(i:Nat) r,R[i]?=some r->R.getD i ⟨"",0,0,[]⟩=r:=λi r h=>by simp only[AS,h,Option.getD_some]
      have lam6:LamT L H6:=hlam.same s6
      refine⟨_,rfl,p,rs,λi=>keyV (R.getD i ⟨"",0,0,[]⟩),λi=>keyI (R.getD i ⟨"",0,0,[]⟩),rfl,lam6,SqL.of p6,by lia,λi x H7 hx b7=>?_,
        λi j hi hj=>⟨_,_,_,_,_,_,rfl,rfl,.cons (.int _ _) (.cons (.bl _ _) .nil),rfl,rfl⟩,λpp D H7 hpm hpo hD b7 l7 f7=>?_⟩
      . obtain⟨r,hr',x1,x2,rfl,q1,q2⟩:=hR.at hx;have q7:=b7.kt lam6 _ _ q1;refine⟨_,rfl,x1,_,_,_,rfl,rfl,SqT.of q7,zat (j:=2) rfl,_,rfl,x1,_,_,_,rfl,rfl,SqT.of q7,zat (j:=1) rfl,_,rfl,x1,_,_,_,rfl,rfl,SqT.of q7,zat (j:=0) rfl,rfl,three,λq hq=>⟨Same.up hq,q,rfl,SqT.of ?_⟩⟩;show upd H7 q _ q=some (HO.tup (keyV (R.getD i ⟨"",0,0,[]⟩)));rw[ge i r hr',zaa];rfl
      . have kt7:=b7.kt lam6;have hpl:pp.length=R.length:=by rw[hpm.length_eq,Bp,hR.1]
        have hlt:∀i∈pp,i<R.length:=λi hi=>by have:=BB.mp (hpm.mem_iff.mp hi);rw[hR.1]at this;exact this
        have hRR:(pp.map λi=>R.getD i ⟨"",0,0,[]⟩).Perm R:=by
          have h1:=hpm.map λi=>R.getD i (⟨"",0,0,[]⟩:Rnd)
          rw[hR.1]at h1
          have h2:((AG R.length).map λi=>R.getD i (⟨"",0,0,[]⟩:Rnd))=R:=by
            apply List.ext_getElem
            . simp
            . intro i a b;simp[show i<R.length by simpa using a]
          rw[h2]at h1;exact h1
        have vR:VR (pp.map λi=>rs.getD i V.non) (pp.map λi=>R.getD i ⟨"",0,0,[]⟩) rR H7:=by
          refine⟨by simp,λi r v h1 h2=>?_⟩;rw[Az]at h1 h2;obtain⟨a,ha,rfl⟩:=Bn.mp h1;rw[ha]at h2
          cases h2
          have hal:=hlt a (Aj ha);have hal2:a<rs.length:=by rw[hR.1];exact hal
          have e1:R.getD a ⟨"",0,0,[]⟩=R[a]:=by simp[hal]
          have e2:rs.getD a V.non=rs[a]:=by simp[hal2]
          rw[e1];show rR R[a] (rs.getD a V.non) H7;rw[e2];exact (hR.2 a _ _ (Aa hal) (Aa hal2)).kt kt7
        refine k D H7 _ _ R (s6.free hD) (s6.but1.trans b7) l7 f7 vR hRR ?_ ⟨ESS,hP,λe=>⟨hP.isE e,λh=>hall e (zgY.mpr h)⟩⟩
        rw[List.pairwise_map];exact hpo
end
theorem Can.sum {C:Cell->Bool}{es:List Edge}{r:Rnd}(h:Can C es r):(r.so = "rim" /\ (es.map (tt C)).sum=4)∨(r.so = "hole" /\ (es.map (tt C)).sum=-4):=by
 have e:(es.map (tt C)).sum=(nL (wk C es):Int)-nS (wk C es):=by rw[nL_wk,nS_wk,<- zev]
 rw[h.so,e];unfold sortS;rcases zhN h.cl with z |z
 .left;rw[if_pos (by lia)];exact⟨rfl,z⟩
 .right;rw[if_neg (by lia)];exact⟨rfl,z⟩
theorem zjl {r:Rnd}(h:r.so = "hole"):begE r=⟨(r.x,r.y),2⟩:=by unfold begE;rw[h];rfl
theorem ziM{a b:Cell}:HT.lexLt [a.2,a.1] [b.2,b.1]=false ↔ cLe b a:=by
 unfold cLe;simp only[HT.lexLt]
 by_cases e:a.2=b.2
 .rw[if_pos e]
  by_cases f:a.1=b.1
  .rw[if_pos f];simp;lia
  .rw[if_neg f];simp;lia
 .rw[if_neg e];simp;lia
theorem Can.least {C:Cell->Bool}{es:List Edge}{r:Rnd}(h:Can C es r) (hs:r.so = "hole"):⟨(r.x,r.y),2⟩∈es/\∀e∈es,e.w=2->cLe (r.x,r.y) e.c:=by obtain⟨b1,b2,b3⟩:=h.bg;rw[zcs]at b1 b3;rw[zjl hs]at b1 b2 b3;refine⟨b1,λe he hw=>?_⟩;have:=b3 e he (by rw[hw,hs];rfl);exact ziM.mp this
theorem Cans.head {cs:List Cell}{ESS:List (List Edge)}{R:List Rnd}(h:Cans (isIn cs) ESS R) (g:Cell):zb3 (isIn cs) g ↔ ∃r∈R,r.so = "hole" /\ g=(r.x,r.y+1):=by
 constructor
 .intro fg;obtain⟨hE,hgap⟩:=fg.edge;obtain⟨es,h1,h2⟩:=Cj.mp ((h.all _).mpr hE);obtain⟨i,hi,ei⟩:=Au h1;have hiR:i<R.length:=by rw[h.al.length];exact hi
  have hr:R[i]?=some R[i]:=Aa hiR;obtain⟨es',e1,hcan⟩:=h.so hr;rw[Aa hi,ei]at e1
  cases e1
  obtain⟨hs,hle⟩:=fg.hole hcan.cl h2
  have hso:R[i].so = "hole":=by
   rcases hcan.sum with⟨_,z⟩ |⟨z,_⟩
   .lia
   .exact z
  refine⟨R[i],A7 hiR,hso,?_⟩;obtain⟨m1,m2⟩:=hcan.least hso;have a:=m2 _ h2 rfl;have b:=hle _ m1;rw[gap2]at b;unfold cLe at a b;simp only at a b;exact Cm (by simp only;lia) (by simp only;lia)
 .rintro⟨r,hr,hso,rfl⟩;obtain⟨i,hi,ei⟩:=Au hr;obtain⟨es,e1,hcan⟩:=h.so (show R[i]?=some r by rw[Aa hi,ei]);obtain⟨m1,m2⟩:=hcan.least hso
  have hs:(es.map (tt (isIn cs))).sum=-4:=by
   rcases hcan.sum with⟨z,_⟩ |⟨_,z⟩
   .rw[hso]at z;exact absurd z (by decide)
   .exact z
  have:=(zcZ hcan.cl hs m1 m2).1;rw[gap2]at this;exact this
theorem Cans.inb{cs:List Cell}{ESS:List (List Edge)}{R:List Rnd}(h:Cans (isIn cs) ESS R){g d:Cell}(fg:zb3 (isIn cs) g)(hd:Rch (no (isIn cs)) S4 g d){l lo r hi:Int}(hB:BoxOf cs l lo r hi) :
  (l<=d.1/\d.1<=r/\lo<d.2/\d.2<hi):=by
 obtain⟨rr,hr,hso,eg⟩:=(h.head g).mp fg;obtain⟨i,hi',ei⟩:=Au hr;obtain⟨es,e1,hcan⟩:=h.so (show R[i]?=some rr by rw[Aa hi',ei]);obtain⟨m1,m2⟩:=hcan.least hso
 have hs:(es.map (tt (isIn cs))).sum=-4:=by
  rcases hcan.sum with⟨z,_⟩ |⟨_,z⟩
  .rw[hso]at z;exact absurd z (by decide)
  .exact z
 have hw:=(zcZ hcan.cl hs m1 m2).2 d (by rw[gap2];rw[eg]at hd;exact hd);exact wd_in hcan.cl (λe he=>of_decide_eq_true (hcan.cl.1.2.2.1 e he).2.1) hB (by rw[hw];decide)
theorem Cans.shut{cs:List Cell}{ESS:List (List Edge)}{R:List Rnd}(h:Cans (isIn cs) ESS R){g:Cell}(fg:zb3 (isIn cs) g){D:Cell -> Bool}{l lo r hi:Int}(hB:BoxOf cs l lo r hi)(hF:FreeOf D cs l lo r hi) :
  D g=true/\¬ Rch D S4 (l,lo) g:=by
 have hin:=h.inb fg .refl hB
 have hD:D g=true:=(hF.iff g).mpr ⟨⟨hin.1,hin.2.1,by lia,by lia⟩,λm=>by have:=fg.1;rw[show isIn cs g=true from decide_eq_true m]at this;cases this⟩
 refine⟨hD,λk=>?_⟩;have:=h.inb fg (zgs hF (k.symm ze9 (zkx hB hF))) hB;simp only at this;lia
end RR
namespace RP
theorem zkD{x0 x y:Int}(h0:x0<=x){e:Edge}(h4:e.w<4)(hp:x0<px e):(if upL y x e=true then (1:Int) else 0) % 2=(wc (x0,y) e-wc (x,y) e) % 2:=by
 obtain⟨⟨a,b⟩,w⟩:=e;simp only at h4;unfold upL wc
 by_cases hy:b=y
 .have:w=0∨w=1∨w=2∨w=3:=by lia
  rcases this with rfl |rfl |rfl |rfl <;> simp[px,dy,hy]at hp ⊢
  all_goals (repeat' split) <;> lia
 .simp[hy]
theorem zhM{x0 x y:Int}(h0:x0<=x):∀{es:List Edge},(∀e∈es,e.w<4/\x0<px e)->(((es.filter (upL y x)).length:Nat):Int) % 2=(wd es (x0,y)-wd es (x,y)) % 2
 |[],_=>rfl
 |e::l,h=>by
  have ih:=zhM (y:=y) h0 (es:=l) λf hf=>h f (At _ hf)
  obtain⟨h4,hp⟩:=h e AC;have w1:∀c,wd (e::l) c=wc c e+wd l c:=λc=>by unfold wd;rw[AT,BD]
  have k:=zkD (y:=y) h0 h4 hp;rw[w1,w1,List.filter_cons];split at k
  .rename_i z
   rw[if_pos z,A3];lia
  .rename_i z
   rw[if_neg z];lia
theorem ziN(x:Int):∀es:List Edge,∃x0,x0<=x/\∀e∈es,x0<px e
 |[]=>⟨x,BG _,λ_ h=>absurd h List.not_mem_nil⟩
 |e::l=>by
  obtain⟨x0,h1,h2⟩:=ziN x l;refine⟨min x0 (px e-1),by lia,λf hf=>?_⟩;rcases Aw.mp hf with rfl |hf
  .lia
  .have:=h2 f hf;lia
theorem zld{C:Cell->Bool}{b:Edge}{es:List Edge}(h:Closed C b es)(x y:Int):(es.filter (upL y x)).length % 2=1 ↔ wd es (x,y)≠0:=by
 obtain⟨x0,h0,h1⟩:=ziN x es;have p:=zhM (y:=y) h0 λe he=>⟨(h.1.2.2.1 e he).1,h1 e he⟩
 rw[zhG h (c:=(x0,y)) λe he _ _=>h1 e he]at p;rcases h.inside with⟨s,_⟩ |⟨s,_⟩
 .rcases wd_01 h s (x,y) with z |z <;> rw[z]at p ⊢ <;> lia
 .rcases wd_0m h s (x,y) with z |z <;> rw[z]at p ⊢ <;> lia
end RP
namespace RR
open PySem L2 RP
noncomputable abbrev wdk(ESS:List (List Edge))(k:Nat)(c:Cell):Int:=wd (ESS[k]?.getD []) c
noncomputable abbrev atR(r:Rnd):Cell:=(r.x,r.y)
noncomputable def hsOf(ESS:List (List Edge))(c:Cell)(i:Nat):List Nat:=(AG ESS.length).filter λk=>decide (k≠i) && decide (wdk ESS k c≠0)
theorem zdK{ESS:List (List Edge)}{c:Cell}{i k:Nat}:k∈hsOf ESS c i ↔ k≠i/\wdk ESS k c≠0:=by
 unfold hsOf;rw[List.mem_filter,List.mem_range];simp only[A9,decide_eq_true_eq];refine⟨λz=>z.2,λz=>⟨?_,z⟩⟩
 apply Bh
 intro n
 apply z.2
 unfold wdk;rw[Bw (Nat.le_of_not_lt n)];rfl
theorem nd_hs{ESS:List (List Edge)}{c:Cell}{i:Nat}:(hsOf ESS c i).Nodup:=List.nodup_range.filter _
noncomputable def hsR(ESS:List (List Edge))(R:List Rnd)(i:Nat):List Nat:=hsOf ESS ((R[i]?.map atR).getD (0,0)) i
theorem zel{ESS:List (List Edge)}{R:List Rnd}{i:Nat}{r:Rnd}(h:R[i]?=some r):hsR ESS R i=hsOf ESS (r.x,r.y) i:=by unfold hsR;rw[h];rfl
theorem zkp{ESS:List (List Edge)}{R:List Rnd}{i:Nat}:(hsR ESS R i).Nodup:=nd_hs
noncomputable def Near(ESS:List (List Edge))(R:List Rnd)(i:Nat):Option Nat->Prop
 |none=>hsR ESS R i=[]
 |some m=>m<R.length/\∀k,k∈hsR ESS R i ↔ k=m∨k∈hsR ESS R m
theorem Near.len{ESS:List (List Edge)}{R:List Rnd}{i m:Nat}(h:Near ESS R i (some m)):(hsR ESS R i).length=(hsR ESS R m).length+1:=by
 have hm:m ∉ hsR ESS R m:=λq=>(zdK.mp q).1 rfl
 have p:(hsR ESS R i).Perm (m::hsR ESS R m):=(List.perm_ext_iff_of_nodup zkp (List.nodup_cons.mpr ⟨hm,zkp⟩)).mpr λk=>by rw[h.2,List.mem_cons]
 rw[p.length_eq,A3]
theorem Near.less{ESS:List (List Edge)}{R:List Rnd}(h:∀i<R.length,∃o,Near ESS R i o):∀(n i:Nat),(hsR ESS R i).length=n->i<R.length->∀k∈hsR ESS R i,(hsR ESS R k).length<n
 | 0,i,e,_,k,hk=>by rw[List.length_eq_zero_iff.mp e]at hk;cases hk
 |n+1,i,e,hi,k,hk=>by
  obtain⟨o,ho⟩:=h i hi
  cases o with
  |none=>rw[show hsR ESS R i=[] from ho]at hk;cases hk
  |some m =>
   have l:=ho.len;rcases (ho.2 k).mp hk with rfl |hk
   .lia
   .have:=Near.less h n m (by lia) ho.1 k hk;lia
theorem Near.most{ESS:List (List Edge)}{R:List Rnd}(h:∀i < R.length, ∃o, Near ESS R i o){i m j y:Nat}(hi:i < R.length)(hm:Near ESS R i (some m))(hj:(hsR ESS R i)[j]? = some y){κ : Nat -> Int}
  (hκ:∀(u v:Nat),(hsR ESS R i)[u]?=some v->κ u=((hsR ESS R v).length:Nat)) (hM:Most κ (hsR ESS R i).length j):y=m:=by
 have hmi:m∈hsR ESS R i:=(hm.2 m).mpr (.inl rfl);obtain⟨u,hu,eu⟩:=Au hmi;have h1:=(hM u hu).1;rw[hκ u m (by rw[Aa hu,eu]),hκ j y hj]at h1;rcases (hm.2 y).mp (Aj hj) with z |z
 .exact z
 .have:=Near.less h _ m rfl hm.1 y z;lia
theorem Near.held{ESS:List (List Edge)}{R:List Rnd}{i m:Nat}(hm:Near ESS R i (some m)):hsR ESS R i≠[]:=λz=>by have:=(hm.2 m).mpr (.inl rfl);rw[z]at this;cases this
section
variable {cs:List Cell}{ESS:List (List Edge)}{R:List Rnd}
theorem zj4 {r:Rnd}(h:r.so = "rim"):begE r=⟨(r.x,r.y),0⟩:=by unfold begE;rw[h];rfl
theorem gap0(c:Cell):gap ⟨c,0⟩=(c.1,c.2-1):=by simp[gap,go,mv];lia
theorem Can.leastR {C:Cell->Bool}{es:List Edge}{r:Rnd}(h:Can C es r) (hs:r.so = "rim"):⟨(r.x,r.y),0⟩∈es/\∀e∈es,e.w=0->cLe (r.x,r.y) e.c:=by obtain⟨b1,b2,b3⟩:=h.bg;rw[zcs]at b1 b3;rw[zj4 hs]at b1 b2 b3;refine⟨b1,λe he hw=>?_⟩;have:=b3 e he (by rw[hw,hs];rfl);exact ziM.mp this
theorem Cans.one(h:Cans (isIn cs) ESS R){i j:Nat}{a b:List Edge}{e:Edge}(hi:ESS[i]?=some a)(hj:ESS[j]?=some b)(ha:e∈a)(hb:e∈b):i=j:=zjV h.nd hi hj ha hb
theorem Cans.wdk(h:Cans (isIn cs) ESS R)(k:Nat):(∀a c, Rch (isIn cs) S8 a c -> isIn cs a=true -> wdk ESS k c=wdk ESS k a) /\ (∀a c, Rch (no (isIn cs)) S4 a c -> isIn cs a=false -> wdk ESS k c=wdk ESS k a) /\
  ∀i es e,ESS[i]?=some es->e∈es->k≠i->wdk ESS k e.c=wdk ESS k (gap e):=by
 unfold RR.wdk
 by_cases hk:k<R.length
 .obtain⟨fs,hf,hcan⟩:=h.so (Aa hk);rw[hf];refine⟨λa c r ha=>zet hcan.cl r ha,λa c r ha=>zf7 hcan.cl r ha,λi es e hi he hn=>?_⟩;have hE:IsE (isIn cs) e:=(h.all e).mp (Cj.mpr ⟨es,Aj hi,he⟩);show wd fs e.c=wd fs (gap e);rw[zcl hcan.cl hE];unfold ind;rw[if_neg λm=>hn (h.one hf hi m he)];lia
 .rw[Bw (by rw[<- h.al.length];lia)];exact⟨λ_ _ _ _=>rfl,λ_ _ _ _=>rfl,λ_ _ _ _ _ _=>rfl⟩
theorem ze7{a b:Cell}(h:cLe a b)(k:cLe b a):a=b:=by unfold cLe at h k;exact Cm (by lia) (by lia)
theorem zf9 {C:Cell->Bool}{es:List Edge}{r:Rnd}(h:Can C es r) (hs:r.so = "rim"):(es.map (tt C)).sum=4:=by
 rcases h.sum with⟨_,z⟩ |⟨z,_⟩
 .exact z
 .rw[hs]at z;exact absurd z (by decide)
theorem zey {C:Cell->Bool}{es:List Edge}{r:Rnd}(h:Can C es r) (hs:r.so = "hole"):(es.map (tt C)).sum=-4:=by
 rcases h.sum with⟨z,_⟩ |⟨_,z⟩
 .rw[hs]at z;exact absurd z (by decide)
 .exact z
theorem Can.firstC {es:List Edge}{r:Rnd}(h:Can (isIn cs) es r) (hs:r.so = "rim"):zdh (isIn cs) (r.x,r.y):=zih h.cl (zf9 h hs) (h.leastR hs).1 (h.leastR hs).2
theorem Can.firstG {es:List Edge}{r:Rnd}(h:Can (isIn cs) es r) (hs:r.so = "hole"):zb3 (isIn cs) (r.x,r.y+1):=by
 have:=(zcZ h.cl (zey h hs) (h.least hs).1 (h.least hs).2).1
 rwa [gap2]at this
theorem Cans.nearH (h:Cans (isIn cs) ESS R){i m:Nat}{r q:Rnd}(hi:R[i]?=some r) (hr:r.so = "hole") (hm:R[m]?=some q) (hq:q.so = "rim") (hp:Rch (isIn cs) S8 (r.x,r.y) (q.x,q.y)):Near ESS R i (some m):=by
 obtain⟨es,e1,c1⟩:=h.so hi;obtain⟨fs,e2,c2⟩:=h.so hm;have hE:=(c1.cl.1.2.2.1 _ (c1.least hr).1);have w1:=λk=>(h.wdk k).1 _ _ hp hE.2.1
 have i1:RR.wdk ESS i (r.x,r.y)=0:=by
  unfold RR.wdk;rw[e1];rcases c1.cl.inside with⟨s,_⟩ |⟨_,k⟩
  .rw[zey c1 hr]at s;lia
  .exact (k _ (c1.least hr).1).1
 have m1:RR.wdk ESS m (q.x,q.y)=1:=by
  unfold RR.wdk;rw[e2];rcases c2.cl.inside with⟨_,k⟩ |⟨s,_⟩
  .exact (k _ (c2.leastR hq).1).1
  .rw[zf9 c2 hq]at s;lia
 have him:m≠i:=λz=>by rw[z,hi]at hm;cases hm;rw[hr]at hq;exact absurd hq (by decide)
 refine⟨(Ad.mp hm).1,λk=>?_⟩;rw[zel hi,zel hm,zdK,zdK,w1 k];constructor
 .rintro⟨a,b⟩
  by_cases z:k=m
  .exact .inl z
  .exact .inr ⟨z,b⟩
 .rintro (rfl |⟨a,b⟩)
  .exact⟨him,by rw[<- w1,m1];decide⟩
  .refine⟨λz=>b ?_,b⟩;rw[z,i1]
theorem Cans.rimOf (h:Cans (isIn cs) ESS R){c:Cell}(hc:c∈cs):∃(m:Nat) (q:Rnd),R[m]?=some q/\q.so = "rim" /\ Rch (isIn cs) S8 c (q.x,q.y):=by
 have hcC:isIn cs c=true:=decide_eq_true hc;obtain⟨d,hd,rd,kd⟩:=zbr (λd=>Rch (isIn cs) S8 c d) cs ⟨c,hc,.refl⟩;have fd:zdh (isIn cs) d:=⟨rd.dom hcC,λx hx=>kd x (of_decide_eq_true ((rd.trans hx).dom hcC)) (rd.trans hx)⟩;obtain⟨es,h1,h2⟩:=Cj.mp ((h.all _).mpr fd.edge);obtain⟨m,hm,em⟩:=Au h1;have hmR:m<R.length:=by rw[h.al.length];exact hm
 obtain⟨es',e1,hcan⟩:=h.so (Aa hmR);rw[Aa hm,em]at e1
 cases e1
 obtain⟨hs,hle⟩:=fd.rim hcan.cl h2
 have hso:R[m].so = "rim":=by
  rcases hcan.sum with⟨z,_⟩ |⟨_,z⟩
  .exact z
  .lia
 refine⟨m,R[m],Aa hmR,hso,?_⟩;have e:d=(R[m].x,R[m].y):=ze7 (hle _ (hcan.leastR hso).1) ((hcan.leastR hso).2 _ h2 rfl);rw[<- e];exact rd
theorem Cans.nearR (h:Cans (isIn cs) ESS R){i m:Nat}{r q:Rnd}(hi:R[i]?=some r) (hr:r.so = "rim") (hm:R[m]?=some q) (hq:q.so = "hole") (hp:Rch (no (isIn cs)) S4 (r.x,r.y-1) (q.x,q.y+1)):Near ESS R i (some m):=by
 obtain⟨es,e1,c1⟩:=h.so hi;obtain⟨fs,e2,c2⟩:=h.so hm;have hE:=c1.cl.1.2.2.1 _ (c1.leastR hr).1;have g1:gap ⟨(r.x,r.y),0⟩=(r.x,r.y-1):=gap0 _;have g2:gap ⟨(q.x,q.y),2⟩=(q.x,q.y+1):=gap2 _;have hg:isIn cs (r.x,r.y-1)=false:=by rw[<- g1];exact hE.2.2
 have w1:=λk=>(h.wdk k).2.1 _ _ hp hg
 have w2:=λk (n:k≠i)=>(h.wdk k).2.2 _ _ _ e1 (c1.leastR hr).1 n
 have w3:=λk (n:k≠m)=>(h.wdk k).2.2 _ _ _ e2 (c2.least hq).1 n
 rw[g1]at w2;rw[g2]at w3;simp only at w2 w3
 have i1:RR.wdk ESS i (r.x,r.y-1)=0:=by
  unfold RR.wdk;rw[e1,<- g1];rcases c1.cl.inside with⟨_,k⟩ |⟨s,_⟩
  .exact (k _ (c1.leastR hr).1).2
  .rw[zf9 c1 hr]at s;lia
 have m1:RR.wdk ESS m (q.x,q.y+1)=-1:=by
  unfold RR.wdk;rw[e2,<- g2];rcases c2.cl.inside with⟨s,_⟩ |⟨_,k⟩
  .rw[zey c2 hq]at s;lia
  .exact (k _ (c2.least hq).1).2
 have him:m≠i:=λz=>by rw[z,hi]at hm;cases hm;rw[hr]at hq;exact absurd hq (by decide)
 refine⟨(Ad.mp hm).1,λk=>?_⟩;rw[zel hi,zel hm,zdK,zdK];constructor
 .rintro⟨a,b⟩
  by_cases z:k=m
  .exact .inl z
  .exact .inr ⟨z,by rw[w3 k z,w1 k,<- w2 k a];exact b⟩
 .rintro (rfl |⟨a,b⟩)
  .exact⟨him,by rw[w2 k him,<- w1 k,m1];decide⟩
  .have hki:k≠i:=λz=>b (by rw[w3 k a,w1 k,z,i1])
   exact⟨hki,by rw[w2 k hki,<- w1 k,<- w3 k a];exact b⟩
theorem Cans.under (h:Cans (isIn cs) ESS R){i:Nat}{r:Rnd}(hi:R[i]? = some r) (hr:r.so = "rim"){D:Cell -> Bool}{l lo r' hi':Int}(hB:BoxOf cs l lo r' hi') (hF:FreeOf D cs l lo r' hi') :
  (Near ESS R i none/\∀(k:Nat) (q:Rnd),R[k]?=some q->q.so = "hole" -> ¬ Rch D S4 (r.x,r.y-1) (q.x,q.y+1)) ∨
  ∃(m:Nat) (q:Rnd),R[m]?=some q/\q.so = "hole" /\ Rch D S4 (r.x,r.y-1) (q.x,q.y+1)/\Near ESS R i (some m)/\∀(k:Nat) (q':Rnd),R[k]?=some q'->q'.so = "hole" -> Rch D S4 (r.x,r.y-1) (q'.x,q'.y+1)->k=m:=by
 obtain⟨es,e1,c1⟩:=h.so hi;have hE:=c1.cl.1.2.2.1 _ (c1.leastR hr).1;have g1:gap ⟨(r.x,r.y),0⟩=(r.x,r.y-1):=gap0 _;have hg:isIn cs (r.x,r.y-1)=false:=by rw[<- g1];exact hE.2.2
 have hin:inBox l lo r' hi' (r.x,r.y-1):=by rw[<- g1];exact hB.near (of_decide_eq_true hE.2.1) _
 have hD:D (r.x,r.y-1)=true:=(hF.iff _).mpr ⟨hin,of_decide_eq_false hg⟩
 have fg:∀{k:Nat} {q:Rnd},R[k]?=some q->q.so = "hole" -> zb3 (isIn cs) (q.x,q.y+1):=λ{k q} hk hq=>by obtain⟨fs,_,c2⟩:=h.so hk;exact c2.firstG hq
 by_cases hc:Rch D S4 (l,lo) (r.x,r.y-1)
 .left;refine⟨?_,λk q hk hq hR=>(h.shut (fg hk hq) hB hF).2 (hc.trans hR)⟩;show hsR ESS R i=[];rw[zel hi];refine DU.mpr λk hk=>?_
  obtain⟨n,z⟩:=zdK.mp hk;have w2:=(h.wdk k).2.2 _ _ _ e1 (c1.leastR hr).1 n;rw[g1,(h.wdk k).2.1 _ _ (zgs hF hc) (by have:=((hF.iff _).mp (zkx hB hF)).2;exact decide_eq_false this)]at w2;simp only at w2;rw[w2]at z;unfold RR.wdk at z
  by_cases hk:k<R.length
  .obtain⟨fs,hf,c2⟩:=h.so (Aa hk);rw[hf]at z;have:=wd_in c2.cl (λe he=>of_decide_eq_true (c2.cl.1.2.2.1 e he).2.1) hB z;simp only at this;lia
  .rw[Bw (by rw[<- h.al.length];lia)]at z;exact z rfl
 .right;have tr:∀d,Rch (no (isIn cs)) S4 (r.x,r.y-1) d->Rch D S4 (r.x,r.y-1) d:=λd hd=>zlO hB hF hD hc hd
  have mB:∀d:Cell,inBox l lo r' hi' d->d∈((AG (r'-l+1).toNat).flatMap λi:Nat=>(AG (hi'-lo+1).toNat).map λj:Nat=>((l+(i:Int),lo+(j:Int)):Cell)):=λd hd=>by unfold inBox at hd;exact DT.mpr ⟨(d.1-l).toNat,BB.mpr (by lia),Ay.mpr ⟨(d.2-lo).toNat,BB.mpr (by lia),Cm (by show l+(((d.1-l).toNat:Nat):Int)=d.1;lia) (by show lo+(((d.2-lo).toNat:Nat):Int)=d.2;lia)⟩⟩
  obtain⟨f,_,rf,kf⟩:=zbr (λd=>Rch (no (isIn cs)) S4 (r.x,r.y-1) d) _ ⟨_,mB _ hin,.refl⟩;have gN:no (isIn cs) (r.x,r.y-1)=true:=by simp[no,hg]
  have ff:zb3 (isIn cs) f:=⟨by have:=rf.dom gN;simpa[no]using this,λd hd=>kf d (mB d ((hF.iff d).mp ((tr _ (rf.trans hd)).dom hD)).1) (rf.trans hd)⟩;obtain⟨q,hq,hso,rfl⟩:=(h.head f).mp ff;obtain⟨m,hm,em⟩:=Au hq;have hmq:R[m]?=some q:=by rw[Aa hm,em]
  refine⟨m,q,hmq,hso,tr _ rf,h.nearR hi hr hmq hso rf,λk q' hk hq' hR=>?_⟩;have f':=fg hk hq';have ho:=zgs hF hR;have h1:=ff.2 _ ((rf.symm ze9 gN).trans ho);have h2:=f'.2 _ ((ho.symm ze9 gN).trans rf);have e:=ze7 h1 h2;obtain⟨a,ea,ca⟩:=h.so hmq;obtain⟨b,eb,cb⟩:=h.so hk;have m1:=(ca.least hso).1;have m2:=(cb.least hq').1;rw[show ((q'.x,q'.y):Cell)=(q.x,q.y) from Cm (congrArg Prod.fst e).symm (by have:=congrArg Prod.snd e;simp only at this ⊢;lia)]at m2;exact h.one eb ea m2 m1
theorem Cans.rim_one (h:Cans (isIn cs) ESS R){c:Cell}(hc:c∈cs){i j:Nat}{r q:Rnd}(hi:R[i]?=some r) (hr:r.so = "rim") (h1:Rch (isIn cs) S8 c (r.x,r.y)) (hj:R[j]?=some q) (hq:q.so = "rim") (h2:Rch (isIn cs) S8 c (q.x,q.y)):i=j:=by obtain⟨a,ea,ca⟩:=h.so hi;obtain⟨b,eb,cb⟩:=h.so hj;have hcC:isIn cs c=true:=decide_eq_true hc;have e:=ze7 ((ca.firstC hr).2 _ ((h1.symm zjo hcC).trans h2)) ((cb.firstC hq).2 _ ((h2.symm zjo hcC).trans h1));have m1:=(ca.leastR hr).1;rw[e]at m1;exact h.one ea eb m1 (cb.leastR hq).1
theorem Cans.near(h:Cans (isIn cs) ESS R){l lo r' hi':Int}(hB:BoxOf cs l lo r' hi'){D:Cell->Bool}(hF:FreeOf D cs l lo r' hi'):∀i<R.length,∃o,Near ESS R i o:=λi hi=>by
 have hr:=Aa hi;obtain⟨es,e1,hcan⟩:=h.so hr;rcases hcan.sum with⟨z,_⟩ |⟨z,_⟩
 .rcases h.under hr z hB hF with⟨k,_⟩ |⟨m,q,_,_,_,k,_⟩
  .exact⟨_,k⟩
  .exact⟨_,k⟩
 .obtain⟨m,q,h1,h2,h3⟩:=h.rimOf (of_decide_eq_true (hcan.cl.1.2.2.1 _ (hcan.least z).1).2.1);exact⟨_,h.nearH hr z h1 h2 h3⟩
end
noncomputable def oV:Option Nat->V
 |none=>.non
 |some m=>.int (m:Int)
noncomputable def hsV(l:List Nat):List V:=l.map λk:Nat=>V.int (k:Int)
section
variable {P:AH}{w:A4}{K:W.Frag}{mg:Str->Option Ac}{base:Heap}
noncomputable def spUp(K:W.Frag):Sp:=λvs H Q _=>∃(p:Addr) (us:List V) (es:List Edge),vs=[.ref p]/\H p=some (.lst us)/\VR us es eR H/\es.length<=480/\∀a H' kvs B,UD H H' a es kvs B->Q (.ref a) H'
theorem zgj (T:Txt P w K mg) (d:Df K mg "uprights" zcQ ["edges"]):FnOk P w K mg base CX0 1 d.f d.fd ["edges"] (spUp K):=by
 refine d.F.ok zby (λvs H Q E h=>?_) (λcdv A outer s H vs Q E hr h=>?_)
 .obtain⟨p,us,es,rfl,_⟩:=h;rfl
 .obtain⟨p,us,es,rfl,hp,hw,hlen,k⟩:=h
  refine⟨_,(zac (sE 1 zby.nd zjM)
   (zac (zbo A5 rfl (zaO (pv 0)) (za2 (by rfl) (zad (nG 2 zby.nd) (zad (nG 3 zby.nd) (zad (nG 4 zby.nd) zao))))
   (zah (ps_if (zaq op_eq (pv 4) zae (zas _))
   (zah (za1 (pe_bm AD AL AM zaE (zgQ (pv 1) (pv 3) (zaY zab) ⟨rfl,rfl,rfl,rfl⟩) (pa_B (pe_op zax (pv 2) zae) zab))))
   (zah (ps_if (zaq op_eq (pv 4) zae (zas _))
   (zah (za1 (pe_bm AD AL AM zaE (zgQ (pv 1) (pv 3) (zaY zab) ⟨rfl,rfl,rfl,rfl⟩) (pa_N (pv 2) zab))))
   zaK)))))
   (zah (zal (pv 1))))),?_⟩
  intro a ha;have U0:=UD.start ha;refine⟨_,rfl,p,rfl,⟨_,SqL.of (U0.same _ _ hp)⟩,?_⟩
  refine zaA (K:=K) (a:=p) (xs:=us) (λj σ H2=>∃o2 o3 o4 kvs B,σ=[some (.ref p),some (.ref a),o2,o3,o4]/\UD H H2 a (es.take j) kvs B)
   ⟨_,_,_,_,_,rfl,U0⟩ (λj σ H2 _ ⟨_,_,_,_,_,_,U⟩=>SqL.of (U.same _ _ hp)) ?_ ?_
  .rintro j u σ H2 hj ⟨o2,o3,o4,kvs,B,rfl,U⟩;obtain⟨f,hf,bf,rfl,qf⟩:=hw.at hj;have hjl:j<es.length:=(Ad.mp hf).1;have hkl:kvs.length<=480:=by have:=U.len;rw[A6]at this;lia
   have hul:∀y,(upr (es.take j) y).length<=480:=λy=>by have h1:=AY (isUp y) (es.take j);have h2:=List.length_take_le j es;unfold upr;rw[Ag];lia
   refine⟨bf,_,rfl,SqT.of (U.same _ _ qf),rfl,_,_,rfl,_,_,rfl,_,_,rfl,rfl,?_⟩;refine⟨_,rfl,rfl,_,rfl,?_⟩;rw[zaS hf];refine ite2 (λhy=>?_) (λhn=>?_)
   .have hw1:f.w=1 := by have:=of_decide_eq_true hy;injection this with this;lia
    have hpx:V.int (px f)=V.int (f.c.1+1):=by simp[px,hw1]
    refine⟨_,rfl,a,rfl,.inl ⟨kvs,.inl U.dict⟩,_,rfl,AZ _,λz hz=>?_⟩;have nz:∀{b o},H2 b=some o->b≠z:=λq w=>by rw[w,hz]at q;cases q
    refine⟨kvs,.inl f.c.2,by rw[zag (nz U.dict)];exact U.dict,rfl,zak (by lia),λv hv=>?_,λhv=>?_⟩
    .by_cases hy:upr (es.take j) f.c.2=[]
     .rw[U.no _ hy]at hv;cases hv
     .obtain⟨b1,b2,b3,b4⟩:=U.at_ _ hy;rw[b1]at hv
      cases hv
      have e3:upd H2 z (.lst []) (B f.c.2)=some (.lst ((upr (es.take j) f.c.2).map V.int)):=by rw[zag (nz b2)];exact b2
      have U':=U.more (Or.inl hw1) hz hy;rw[hpx]at U';exact⟨.inl ⟨rfl,_,SqL.of e3⟩,_,rfl,_,_,rfl,rfl,_,_,_,rfl,rfl,e3,zak (by rw[Ag];have:=hul f.c.2;lia),_,_,_,kvs,B,rfl,U'⟩
    .have hy:upr (es.take j) f.c.2=[]:=Bh λhy=>by rw[(U.at_ _ hy).1]at hv;cases hv
     have e3:upd (upd H2 z (.lst [])) a (.dK (putK kvs (.inl f.c.2) (.ref z))) z=some (.lst []):=by rw[zag (nz U.dict).symm];exact zaa
     have U':=U.first (Or.inl hw1) hz hy;rw[hpx]at U';exact⟨.inl ⟨rfl,_,SqL.of e3⟩,_,rfl,_,_,rfl,rfl,_,_,_,rfl,rfl,e3,zak (by simp),_,_,_,_,_,rfl,U'⟩
   .have hw1:f.w≠1:=λz=>hn (by rw[z];rfl)
    refine⟨_,rfl,rfl,_,rfl,?_⟩;refine ite2 (λhy=>?_) (λhn3=>?_)
    .have hw1:f.w=3 := by have:=of_decide_eq_true hy;injection this with this;lia
     have hpx:V.int (px f)=V.int f.c.1:=by simp[px,hw1]
     refine⟨_,rfl,a,rfl,.inl ⟨kvs,.inl U.dict⟩,_,rfl,AZ _,λz hz=>?_⟩;have nz:∀{b o},H2 b=some o->b≠z:=λq w=>by rw[w,hz]at q;cases q
     refine⟨kvs,.inl f.c.2,by rw[zag (nz U.dict)];exact U.dict,rfl,zak (by lia),λv hv=>?_,λhv=>?_⟩
     .by_cases hy:upr (es.take j) f.c.2=[]
      .rw[U.no _ hy]at hv;cases hv
      .obtain⟨b1,b2,b3,b4⟩:=U.at_ _ hy;rw[b1]at hv
       cases hv
       have e3:upd H2 z (.lst []) (B f.c.2)=some (.lst ((upr (es.take j) f.c.2).map V.int)):=by rw[zag (nz b2)];exact b2
       have U':=U.more (CP hw1) hz hy;rw[hpx]at U';exact⟨.inl ⟨rfl,_,SqL.of e3⟩,_,rfl,_,_,_,rfl,rfl,e3,zak (by rw[Ag];have:=hul f.c.2;lia),_,_,_,kvs,B,rfl,U'⟩
     .have hy:upr (es.take j) f.c.2=[]:=Bh λhy=>by rw[(U.at_ _ hy).1]at hv;cases hv
      have e3:upd (upd H2 z (.lst [])) a (.dK (putK kvs (.inl f.c.2) (.ref z))) z=some (.lst []):=by rw[zag (nz U.dict).symm];exact zaa
      have U':=U.first (CP hw1) hz hy;rw[hpx]at U';exact⟨.inl ⟨rfl,_,SqL.of e3⟩,_,rfl,_,_,_,rfl,rfl,e3,zak (by simp),_,_,_,_,_,rfl,U'⟩
    .have hw3:f.w≠3:=λz=>hn3 (by rw[z];rfl)
     exact⟨_,_,_,kvs,B,rfl,U.skip (λz=>z.elim hw1 hw3)⟩
  .rintro σ H2 ⟨o2,o3,o4,kvs,B,rfl,U⟩;rw[show us.length=es.length from hw.1,AV]at U;exact⟨_,rfl,k a H2 kvs B U⟩
theorem zhK(es:List Edge)(y x:Int):((upr es y).filter λp=>decide (p<=x)).length=(es.filter (upL y x)).length:=by
 unfold upr;rw[List.filter_map,Ag,List.filter_filter]
 congr 1
 refine List.filter_congr λe _=>?_
 rw[DI];unfold upL isUp px;simp only[Function.comp,A9,Bool.or_eq_true,decide_eq_true_eq,beq_iff_eq];constructor
 .rintro⟨h1,h2⟩;rcases h2.1 with z |z
  .rw[if_pos (.inl z)]at h1;exact⟨h2.2,.inl ⟨z,h1⟩⟩
  .rw[if_neg (by lia)]at h1;exact⟨h2.2,.inr ⟨z,by lia⟩⟩
 .rintro⟨h1,⟨z,h2⟩ |⟨z,h2⟩⟩
  .rw[if_pos (.inl z)];exact⟨h2,.inl z,h1⟩
  .rw[if_neg (by lia)];exact⟨by lia,.inr z,h1⟩
theorem zi4{α:Type}(p:α->Bool){l:List α}{j:Nat}{x:α}(h:l[j]?=some x):(l.take (j+1)).filter p=(l.take j).filter p++(if p x=true then [x] else []):=by
 rw[zaS h,BU]
 congr 1
 cases z:p x <;> simp[z]
noncomputable def uR(G:Addr->Prop)(es:List Edge)(v:V)(H:Hp):Prop:=∃(a:Addr) (kvs:List (Key×V)) (B:Int->Addr),v=.ref a/\H a=some (.dK kvs)/\¬ G a/\(∀y,upr es y≠[]->valV kvs (.inl y)=some (.ref (B y))/\H (B y)=some (.lst ((upr es y).map V.int))/\¬ G (B y))/\∀y,upr es y=[]->valV kvs (.inl y)=none
theorem uR.keep{G:Addr->Prop}{es:List Edge}{v:V}{H H':Hp}(h:uR G es v H)(k:∀b o,¬ G b->H b=some o->H' b=some o):uR G es v H' :=
 let ⟨a,kvs,B,e,h1,n1,h2,h3⟩:=h
 ⟨a,kvs,B,e,k _ _ n1 h1,n1,λy hy=>⟨(h2 y hy).1,k _ _ (h2 y hy).2.2 (h2 y hy).2.1,(h2 y hy).2.2⟩,h3⟩
noncomputable abbrev uR0:List Edge->V->Hp->Prop:=uR λ_=>False
theorem uR.zero{G:Addr->Prop}{es:List Edge}{v:V}{H:Hp}(h:uR G es v H):uR0 es v H :=
 let ⟨a,kvs,B,e,h1,n1,h2,h3⟩:=h
 ⟨a,kvs,B,e,h1,id,λy hy=>⟨(h2 y hy).1,(h2 y hy).2.1,id⟩,h3⟩
noncomputable def zkg:Sp:=λvs H Q _=>∃(v:V) (x y:Int) (es:List Edge),vs=[v,.int x,.int y]/\uR0 es v H/\es.length<=480/\∀H',Same H H'->Q (.bl (decide ((es.filter (upL y x)).length % 2=1))) H'
theorem zdX (T:Txt P w K mg) (d:Df K mg "lies_within" zbw ["places","x","y"]):FnOk P w K mg base CX0 1 d.f d.fd ["places","x","y"] zkg:=by
 refine d.F.ok zct (λvs H Q E h=>?_) (λcdv A outer s H vs Q E hr h=>?_)
 .obtain⟨v,x,y,es,rfl,_⟩:=h;rfl
 .obtain⟨v,x,y,es,rfl,⟨a,kvs,B,rfl,hdict,_,hat,hno⟩,hlen,k⟩:=h;have hu1:=hu_of hr;have nb0:(["place","x"]:List Str).Nodup:=by decide +kernel
  refine⟨_,(zac (zdm (i:=3) (osc:=zaf zbw) (N:=zbZ) (N':=["place","x"]) (sel:=[none,some 1]) bO zct.nd (by rfl) (Or.inl rfl) (zaO (zjO hu1 (pv 0) (pv 2) (zaY zab) ⟨rfl,rfl,rfl,rfl⟩)) (λ_ _ _ _ _=>(nG 0 nb0)) (λ_ _ _ _ _=>zbs (zaq op_le (pv 0) (pv 1) (zas _))) (λ_ _ _ _ _=>(pv 0)))
   (zah (zal (zbU op_eq (pe_op zaF (zaw zav (by rfl) T.nlen (by rfl) (pa_N (pv 3) zab)) zae) zae (zas _))))),?_⟩
  have hσ:L2.start zbZ [.ref a,.int x,.int y]=[some (.ref a),some (.int x),some (.int y),none]:=rfl;rw[hσ];refine⟨_,rfl,a,rfl,.inl ⟨kvs,.inl hdict⟩,_,rfl,AZ _,λz hz=>?_⟩;have s1:=Same.up (o:=.lst []) hz;have e1:upd H z (.lst []) z=some (.lst []):=zaa;generalize upd H z (.lst [])=H1 at s1 e1 ⊢
  obtain⟨o,l,hDG,hol,hl⟩:∃o l,DGet H1 a (.int y) o/\o.getD (.ref z)=.ref l/\H1 l=some (.lst ((upr es y).map V.int)):=by
   by_cases hy:upr es y=[]
   .exact⟨none,z,.inl ⟨kvs,.inl y,.inl (s1 _ _ hdict),rfl,(hno _ hy).symm⟩,rfl,by rw[hy];exact e1⟩
   .obtain⟨b1,b2,_⟩:=hat _ hy;exact⟨some (.ref (B y)),B y,.inl ⟨kvs,.inl y,.inl (s1 _ _ hdict),rfl,b1.symm⟩,rfl,s1 _ _ b2⟩
  refine⟨o,hDG,l,hol,⟨_,SqL.of hl⟩,λg hg=>?_⟩
  have hul:(upr es y).length<=480:=by unfold upr;rw[Ag];exact AO (AY _ _) hlen
  have eml:((upr es y).map V.int).length=(upr es y).length:=Ag _;refine zaA (K:=K) (a:=l) (xs:=(upr es y).map V.int) (λj σ H2=>∃o,σ=[o,some (.int x)]/\Same H1 H2/\H2 g=some (.lst ((((upr es y).take j).filter λp=>decide (p<=x)).map V.int))) ⟨_,rfl,Same.up hg,zaa⟩ (λj σ H2 _ ⟨_,_,s2,_⟩=>SqL.of (s2 _ _ hl)) ?_ ?_
  .rintro j v σ H2 hj ⟨o,rfl,s2,e2⟩;have hjl:j<(upr es y).length:=by have:=(Ad.mp hj).1;rw[eml]at this;exact this
   rw[Az,Aa hjl]at hj
   cases hj
   simp only[za4,Ba,Bb];refine⟨_,rfl,_,rfl,_,_,rfl,rfl,_,rfl,?_⟩;rw[zi4 _ (Aa hjl)];refine ite2 (λhy=>?_) (λhn=>?_)
   .rw[if_pos hy];refine⟨_,rfl,_,e2,zak ?_,_,rfl,zam hg s2,?_⟩
    .rw[Ag];have:=AY (λp=>decide (p<=x)) ((upr es y).take j);rw[A6]at this;lia
    .rw[zaa,AA];rfl
   .rw[if_neg hn,A0];exact⟨_,rfl,s2,e2⟩
  .rintro σ H2 ⟨o,rfl,s2,e2⟩;rw[eml,AV]at e2;simp only[za4,Ba,Bb];refine⟨_,rfl,g,_,rfl,.inl (SqL.of e2),_,_,rfl,rfl,(by show (0:Int)<2;decide),rfl,?_⟩;have hq:=k H2 (s1.trans s2)
   have e3:decide (V.int ((((((upr es y).filter λp=>decide (p<=x)).map V.int).length:Nat):Int) % 2)=V.int 1)=decide ((es.filter (upL y x)).length % 2=1):=by
    rw[Ag,zhK];refine decide_eq_decide.mpr ⟨λq=>?_,λq=>?_⟩
    .injection q with q;lia
    .congr 1;lia
   rw[<- e3]at hq;exact hq
noncomputable def zki(K:W.Frag):Sp:=λvs H Q _=>∃(a l:Addr) (i:Nat) (us ls:List V) (cs:List Cell) (ESS:List (List Edge)) (R:List Rnd),vs=[.ref a,.ref l,.int (i:Int)]/\H a=some (.lst us)/\VR us R rR H/\H l=some (.lst ls)/\VR ls ESS uR0 H/\Cans (isIn cs) ESS R/\cs.length<=120/\R.length<=480/\i<R.length /\
 ∀p H',H p=none->Same H H'->H' p=some (.lst (hsV (hsR ESS R i)))->Q (.ref p) H'
theorem zk5{ESS:List (List Edge)}{c:Cell}{i:Nat}(j:Nat):(AG (j+1)).filter (λk=>decide (k≠i) && decide (wdk ESS k c≠0))=(AG j).filter (λk=>decide (k≠i) && decide (wdk ESS k c≠0))++(if j≠i/\wdk ESS j c≠0 then [j] else []):=by
 rw[C7,BU]
 congr 1
 by_cases h:j≠i/\wdk ESS j c≠0
 .rw[if_pos h,List.filter_cons_of_pos (by simpa using h)];rfl
 .rw[if_neg h,List.filter_cons_of_neg (by simpa using h)];rfl
theorem zeT (T:Txt P w K mg) (g_lies_within:Fn P w K mg base 1 "lies_within" ["places","x","y"] zkg) (d:Df K mg "holders_of" zbD ["some","lines","at"]):FnOk P w K mg base CX0 2 d.f d.fd ["some","lines","at"] (zki K):=by
 refine d.F.ok zbg (λvs H Q E h=>?_) (λcdv A outer s H vs Q E hr h=>?_)
 .obtain⟨a,l,i,us,ls,cs,ESS,R,rfl,_⟩:=h;rfl
 .obtain⟨a,l,i,us,ls,cs,ESS,R,rfl,ha,hv,hl,hL,hc,hcl,hRl,hi,k⟩:=h;have hu1:=hu_of hr;have nb0:(["other","places","at","x","y"]:List Str).Nodup:=by decide +kernel
  refine⟨_,(zac (zbf (pe_ix zaR (pv 0) (pv 2) (λ_ _=>rfl)) (za2 (by rfl) (zad (nG 3 zbg.nd) (zad (zbT (i:=4) zbg.nd (by rfl) (CP rfl)) (zad (zbT (i:=5) zbg.nd (by rfl) (CP rfl)) (zad (nG 6 zbg.nd) zao))))))
   (zah (zal (zaZ (osc:=zaf zbD) (N:=zde) (N':=["other","places","at","x","y"]) (sel:=[none,none,some 2,some 4,some 5]) bO (zeL (by rfl) T.nenumerate (pa_N (pv 1) zab)) (λ_ _ _ _ _=>(zbA (K:=K) (n:=2) (by rfl) (zad (nG 0 nb0) (zad (nG 1 nb0) zao)))) (λ_ _ _ _ _=>zbs (zdE (zaq op_ne (pv 0) (pv 2) (zas _)) (zcD (zdF (pC g_lies_within hr (pa_N (pv 1) (pa_N (pv 3) (pa_N (pv 4) zab))))))).pt) (λ_ _ _ _ _=>(pv 0)))))),?_⟩
  obtain⟨r,hr'⟩:∃r,R[i]?=some r:=⟨_,Aa hi⟩;have hul:us.length=R.length:=hv.1;obtain⟨v,hvi⟩:∃v,us[i]?=some v:=⟨_,Aa (by lia)⟩;obtain⟨b,b',rfl,q1,q2⟩:=hv.2 _ _ _ hr' hvi;rw[zel hr']at k;have hEl:ESS.length=R.length:=hc.al.length.symm;refine⟨_,rfl,_,rfl,a,us,(i:Int),_,rfl,rfl,SqL.of ha,zat hvi,?_⟩;refine⟨b,_,rfl,SqT.of q1,rfl,_,_,rfl,_,_,rfl,_,_,rfl,_,_,rfl,rfl,?_⟩;refine⟨_,rfl,l,rfl,⟨_,SqL.of hl⟩,λg hg=>?_⟩;have s1:=Same.up (o:=.lst []) hg;have e1:upd H g (.lst []) g=some (.lst []):=zaa
  refine zdp (K:=K) (a:=l) (xs:=ls) (λj σ H2=>∃o0 o1,σ=[o0,o1,some (.int (i:Int)),some (.int r.x),some (.int r.y)]/\Same H H2/\H2 g=some (.lst (hsV ((AG j).filter λk=>decide (k≠i) && decide (wdk ESS k (r.x,r.y)≠0)))))
   ⟨_,_,rfl,s1,e1⟩ (λj σ H2 _ ⟨_,_,_,s2,_⟩=>SqL.of (s2 _ _ hl)) ?_ ?_
  .rintro j v σ H2 t hj ⟨o0,o1,rfl,s2,e2⟩ ht;obtain⟨es,hes,hu⟩:=hL.at hj;have hjl:=(Ad.mp hes).1;obtain⟨q,hq⟩:∃q,R[j]?=some q:=⟨_,Aa (by lia)⟩;obtain⟨es',e',hcan⟩:=hc.so hq;rw[hes]at e';cases e';have hesl:es.length<=480:=by have:=hcan.cl.1.short;lia
   have s3:Same H2 (upd H2 t (.tup [.int (j:Int),v])):=Same.up ht;have e3:upd H2 t (.tup [.int (j:Int),v]) t=some (.tup [.int (j:Int),v]):=zaa;generalize upd H2 t (.tup [.int (j:Int),v])=H3 at s3 e3
   have hlen:((AG j).filter λk=>decide (k≠i) && decide (wdk ESS k (r.x,r.y)≠0)).length<=480:=by have:=AY (λk=>decide (k≠i) && decide (wdk ESS k (r.x,r.y)≠0)) (AG j);rw[Bp]at this;lia
   refine⟨t,_,rfl,SqT.of e3,rfl,_,_,rfl,_,_,rfl,rfl,?_⟩;refine⟨_,rfl,_,rfl,rfl,_,rfl,?_⟩;rw[zk5]
   by_cases hji:j=i
   .refine iteN (by rw[hji];simp) ?_
    rw[if_neg (λz=>z.1 hji),A0];exact⟨_,_,rfl,s2.trans s3,s3 _ _ e2⟩
   .have hne:(V.int (j:Int))≠V.int (i:Int):=λz=>hji (by injection z with z;lia)
    refine iteY (by simpa using hne) ?_
    refine⟨_,rfl,_,rfl,_,rfl,v,r.x,r.y,es,rfl,hu.keep (λb o _ h=>(s2.trans s3) b o h),hesl,λH4 s4=>?_⟩
    have hw:(es.filter (upL r.y r.x)).length % 2=1 ↔ wdk ESS j (r.x,r.y)≠0:=by rw[zld hcan.cl];unfold wdk;rw[hes];exact Iff.rfl
    have e4:=s4 _ _ (s3 _ _ e2)
    by_cases hz:wdk ESS j (r.x,r.y)≠0
    .rw[if_pos ⟨hji,hz⟩];refine⟨_,rfl,iteY (decide_eq_true (hw.mpr hz)) ?_⟩;refine⟨_,rfl,_,e4,zak (by unfold hsV;rw[Ag];lia),_,_,rfl,zam hg (s2.trans (s3.trans s4)),?_⟩;rw[zaa];unfold hsV;rw[AA];rfl
    .rw[if_neg (λz=>hz z.2),A0];refine⟨_,rfl,iteN (decide_eq_false λz=>hz (hw.mp z)) ?_⟩;exact⟨_,_,rfl,s2.trans (s3.trans s4),e4⟩
  .rintro σ H2 ⟨o0,o1,rfl,s2,e2⟩;rw[hL.1]at e2;exact k g H2 hg s2 e2
noncomputable abbrev lpA:Pos:=(⟨124,26,124,59⟩:Pos)
noncomputable abbrev LamA (P:Addr) (H:Hp):Prop:=LamAt lpA (lamQ "around") P H
noncomputable def hR(g:Addr)(ESS:List (List Edge))(R:List Rnd)(i:Nat)(v:V)(H:Hp):Prop:=∃b,v=.ref b/\b≠g/\H b=some (.lst (hsV (hsR ESS R i)))
theorem zks{l:List Nat}{i:Nat}{y:V}(h:(hsV l)[i]?=some y):∃k:Nat,l[i]?=some k/\y=.int (k:Int):=by unfold hsV at h;rw[Az]at h;obtain⟨k,h1,h2⟩:=Bn.mp h;exact⟨k,h1,h2.symm⟩
noncomputable def zgL(K:W.Frag)(L:Addr):Sp:=λvs H Q _=>∃(a:Addr) (us:List V) (cs:List Cell) (ESS:List (List Edge)) (R:List Rnd),vs=[.ref a]/\H a=some (.lst us)/\VR us R rR H/\Cans (isIn cs) ESS R/\cs.length<=120/\R.length<=480/\(∀i<R.length,∃o,Near ESS R i o)/\LamA L H /\
 ∀p H' (os:List (Option Nat)),H p=none->But1 L H H'->LamA L H'->H' p=some (.lst (os.map oV))->os.length=R.length->(∀i o,os[i]?=some o->Near ESS R i o)->Q (.ref p) H'
theorem zix {L c:Addr}(T:Txt P w K mg) (hB:Bm mg base) (hh:Ci K c L=true) (g_edges_of:Fn P w K mg base 6 "edges_of" ["one"] (zfn K)) (g_uprights:Fn P w K mg base 1 "uprights" ["edges"] (spUp K)) (g_holders_of:Fn P w K mg base 2 "holders_of" ["some", "lines", "at"] (zki K))
  (d:Df K mg "around" zbk ["some"]) (hc:d.fd.code=.ref c):FnOk P w K mg base CX0 7 d.f d.fd ["some"] (zgL K L):=by
 refine d.F.okL hc zdy (λvs H Q E h=>?_) (λA outer s H vs Q E hr h=>?_)
 .obtain⟨a,us,cs,ESS,R,rfl,_⟩:=h;rfl
 .obtain⟨a,us,cs,ESS,R,rfl,ha,hv,hcs,hcl,hRl,hnr,hlam,k⟩:=h;have nb0:(["one"]:List Str).Nodup:=by decide +kernel
  have nb1:(["at","some","lines"]:List Str).Nodup:=by decide +kernel
  have nb2:(["held","holders"]:List Str).Nodup:=by decide +kernel
  refine⟨_,(zac (zc8 (i:=1) zdy.nd (by rfl) (CP rfl) (zaZ (osc:=zaf zbk) (N:=zds) (N':=["one"]) (sel:=[none]) bO (zaO (pv 0)) (λ_ _ _ _ _=>(nG 0 nb0)) (λ_ _ _ _ _=>zcV) (λ_ _ _ _ _=>(pC g_uprights hr (zai (pC g_edges_of hr (pa_N (pv 0) zab)) zab)))))
   (zac (zc8 (i:=2) zdy.nd (by rfl) (CP rfl) (zaZ (osc:=zaf zbk) (N:=zds) (N':=["at","some","lines"]) (sel:=[none,some 0,some 1]) bO (zbp (by rfl) T.nrange (zai (zaw zav (by rfl) T.nlen (by rfl) (pa_N (pv 0) zab)) zab)) (λ_ _ _ _ _=>(nG 0 nb1)) (λ_ _ _ _ _=>zcV) (λ_ _ _ _ _=>(pC g_holders_of hr (pa_N (pv 1) (pa_N (pv 2) (pa_N (pv 0) zab)))))))
   (zah (zal (zaZ (osc:=zaf zbk) (N:=zds) (N':=["held","holders"]) (sel:=[none,some 2]) bO (zaO (pv 2)) (λ_ _ _ _ _=>(nG 0 nb2)) (λ_ _ _ _ _=>zcV) (λ_ _ _ _ _=>(zjJ (K:=K) (k:=0) (j:=1) (x:="other") (z:="holders") (qual:=lamQ "around") (hr.mono (by decide)) (by rfl) T.nmax rfl hh hB (by rfl) ⟨rfl,rfl,rfl,by decide +kernel,rfl,rfl,by decide +kernel,by decide⟩ (by rfl) (by first |exact .inl rfl |exact .inr rfl) (λ_ _ _ _ _=>rfl) (pv 0) (λ_ _ _ _ _ _ _=>(zaw (ze5 (K:=K)) (by rfl) T.nlen (by rfl) (zai (pe_ix (zg3 (K:=K)) (pv 1) (pv 0) (λ_ _=>rfl)) zab))) (by rfl) (by rfl) (by rfl) (by rfl) (by rfl) (by rfl) (by rfl)))))))),?_⟩
  have hul:us.length=R.length:=hv.1;have hEl:ESS.length=R.length:=hcs.al.length.symm;refine⟨_,rfl,a,rfl,⟨_,SqL.of ha⟩,λg hg=>?_⟩;have s1:=Same.up (o:=.lst []) hg;have e1:upd H g (.lst []) g=some (.lst []):=zaa
  refine zaA (K:=K) (a:=a) (xs:=us) (λj σ H2=>∃o0 ls,σ=[o0]/\Same H H2/\H2 g=some (.lst ls)/\VR ls (ESS.take j) (uR (·=g)) H2)
   ⟨_,[],rfl,s1,e1,VR.nil⟩ (λj σ H2 _ ⟨_,_,_,s2,_⟩=>SqL.of (s2 _ _ ha)) ?_ ?_
  .rintro j v σ H2 hj ⟨o0,ls,rfl,s2,e2,hls⟩;obtain⟨r,hr',hrv⟩:=hv.at hj;obtain⟨es,hes,hcan⟩:=hcs.so hr';have hjl:=(Ad.mp hes).1;simp only[za4,Ba,Bb];refine zcn ?_
   have hesl:es.length<=480:=by have:=hcan.cl.1.short;lia
   refine⟨_,rfl,v,r,isIn cs,es,rfl,rR.kt hrv (KT.of s2),hcan,hesl,λpe H3 ws hpe s3 e3 hw=>?_⟩;refine⟨pe,ws,es,rfl,e3,hw,hesl,λb H4 kvs B U=>?_⟩;have g3:=s3 _ _ e2;have e4:=U.same _ _ g3;have hll:ls.length<=480:=by rw[hls.1,A6];lia
   refine⟨_,e4,zak (by lia),v,ls++[.ref b],rfl,zam hg (s2.trans (s3.trans U.same)),zaa,?_⟩;rw[zaS hes];have kp:∀b' o,¬ b'=g->H4 b'=some o->upd H4 g (.lst (ls++[.ref b])) b'=some o:=λb' o n h=>by rw[zag n];exact h
   have nb:∀{b'},H3 b'=none->¬ b'=g:=λh z=>by rw[z,g3]at h;cases h
   refine hls.snoc (λx v h=>h.keep λb' o n q=>kp _ _ n (U.same _ _ (s3 _ _ q))) ?_
   exact⟨b,kvs,B,rfl,kp _ _ (nb U.new) U.dict,nb U.new,λy hy=>⟨(U.at_ y hy).1,kp _ _ (nb (U.at_ y hy).2.2.1) (U.at_ y hy).2.1,nb (U.at_ y hy).2.2.1⟩,U.no⟩
  .rintro σ H2 ⟨o0,ls,rfl,s2,e2,hls⟩;rw[hul,<- hEl,AV]at hls;have hL:VR ls ESS uR0 H2:=⟨hls.1,λi x v h1 h2=>(hls.2 i x v h1 h2).zero⟩;refine⟨_,rfl,a,us,rfl,.inl (SqL.of (s2 _ _ ha)),_,rfl,(by show -(2 ^ 62)<=((us.length:Nat):Int);lia),(by show ((us.length:Nat):Int)<2 ^ 62;lia),λg2 hg2=>?_⟩;have s3:=Same.up (o:=.lst []) hg2;have e3:upd H2 g2 (.lst []) g2=some (.lst []):=zaa
   refine za7 (lo:=0) (n:=((us.length:Nat):Int).toNat) (λj σ H3=>∃o0 hs,σ=[o0,some (.ref a),some (.ref g)]/\Same H2 H3/\H3 g2=some (.lst hs)/\VR hs (AG j) (hR g2 ESS R) H3)
    ⟨_,[],rfl,s3,e3,VR.nil⟩ ?_ ?_
   .rintro j σ H3 hj ⟨o0,hs,rfl,s3,e3,hh3⟩;have hjR:j<R.length:=by lia
    simp only[za4,Ba,Bb,CH];refine zcn ?_
    have s23:=s2.trans s3;refine⟨_,rfl,_,rfl,_,rfl,a,g,j,us,ls,cs,ESS,R,rfl,s23 _ _ ha,hv.mono λx v h=>rR.kt h (KT.of s23),s3 _ _ e2,hL.mono λx v h=>h.keep λb o _ q=>s3 _ _ q,hcs,hcl,hRl,hjR,λp H4 hp s4 e4=>?_⟩;have g4:=s4 _ _ e3;have hsl:hs.length<=480:=by rw[hh3.1,Bp];lia
    refine⟨_,g4,zak (by lia),_,hs++[.ref p],rfl,zam hg2 (s3.trans s4),zaa,?_⟩;rw[C7];have kp:∀b' o,b'≠g2->H4 b'=some o->upd H4 g2 (.lst (hs++[.ref p])) b'=some o:=λb' o n h=>by rw[zag n];exact h
    refine hh3.snoc (λx v h=>?_) ⟨p,rfl,(λz=>by rw[z,e3]at hp;cases hp),kp _ _ (λz=>by rw[z,e3]at hp;cases hp) e4⟩;obtain⟨b,h1,h2,h3⟩:=h;exact⟨b,h1,h2,kp _ _ h2 (s4 _ _ h3)⟩
   .rintro σ H3 ⟨o0,hs,rfl,s3,e3,hh3⟩;rw[show ((us.length:Nat):Int).toNat=R.length by lia]at hh3;have hhl:hs.length=R.length:=by rw[hh3.1,Bp]
    have s23:=s2.trans s3;have lam3:=hlam.same s23;refine⟨_,rfl,g2,rfl,⟨_,SqL.of e3⟩,λg3 hg3=>?_⟩;have s4:=Same.up (o:=.lst []) hg3;have e4:upd H3 g3 (.lst []) g3=some (.lst []):=zaa;have n3:g2≠L:=lam3.ne e3 λps z=>by cases z
    refine zaA (K:=K) (a:=g2) (xs:=hs) (λj σ H4=>∃(o0:Option V) (os:List (Option Nat)),σ=[o0,some (.ref g2)]/\But1 L H3 H4/\LamA L H4/\H4 g3=some (.lst (os.map oV))/\os.length=j/\∀i o,os[i]?=some o->Near ESS R i o)
     ⟨_,[],rfl,s4.but1,lam3.same s4,e4,rfl,λi o h=>by cases h⟩ (λj σ H4 _ ⟨_,_,_,q4,_⟩=>SqL.of (q4 _ _ n3 e3)) ?_ ?_
    .rintro j v σ H4 hj ⟨o0,os,rfl,q4,lam4,e4,hol,hos⟩;have hjR:j<R.length:=by have:=(Ad.mp hj).1;lia
     obtain⟨i,hi,b,rfl,hbg,eb⟩:=hh3.at hj;rw[DB hjR]at hi
     cases hi
     simp only[za4,Ba,Bb];refine zcn ?_
     have nb:b≠L:=lam3.ne eb λps z=>by cases z
     have n4:g3≠L:=lam4.ne e4 λps z=>by cases z
     have fin:∀(o:Option Nat) (v':V) (H5:Hp),v'=oV o->Near ESS R j o->But1 L H4 H5->LamA L H5->∃xs,H5 g3=some (.lst xs)/\xs.length<sizeLine/\∃(o0:Option V) (os:List (Option Nat)),[some (V.ref b),some (.ref g2)]=[o0,some (.ref g2)]/\But1 L H3 (upd H5 g3 (.lst (xs++[v'])))/\LamA L (upd H5 g3 (.lst (xs++[v'])))/\upd H5 g3 (.lst (xs++[v'])) g3=some (.lst (os.map oV))/\os.length=j+1/\∀i o,os[i]?=some o->Near ESS R i o:=by
      rintro o v' H5 rfl hn q5 lam5;have e5:=q5 _ _ n4 e4;refine⟨_,e5,zak (by rw[Ag];lia),_,os++[o],rfl,λx u n h=>?_,?_,?_,by rw[Ak,hol];rfl,λi o' h=>?_⟩
      .rw[zag (zaj h hg3)];exact q5 _ _ n (q4 _ _ n h)
      .obtain⟨ps,h1,h2⟩:=lam5;refine⟨ps,by rw[zag (BX n4)];exact h1,h2.imp id λ⟨c',oc,vs,t,z1,z2,z3⟩=>⟨c',oc,vs,t,z1,?_,z3⟩⟩;rw[zag λz=>by rw[z,e5]at z2;cases z2];exact z2
      .rw[zaa,AA];rfl
      .by_cases z:i<os.length
       .rw[AE z]at h;exact hos i o' h
       .rw[AQ (by lia)]at h
        have:i=j:=by have:=(Ad.mp h).1;rw[Bf]at this;lia
        rw[this,hol,Nat.sub_self]at h
        cases h
        rw[this];exact hn
     obtain⟨o,ho⟩:=hnr j hjR;refine⟨_,rfl,b,_,.ref g2,λu=>(((hsR ESS R ((hsR ESS R j)[u]?.getD 0)).length:Nat):Int),rfl,lam4,SqL.of (q4 _ _ nb eb),rfl,λi y H5 hy q5=>?_,λh0 H5 q5 lam5=>?_,λi y H5 hy hM q5 lam5=>?_⟩
     .obtain⟨k',hk,rfl⟩:=zks hy
      have hkR:k'<R.length:=by
       have hz:=(zdK.mp (Aj hk)).2
       apply Bh
       intro n
       apply hz
       unfold wdk;rw[Bw (by lia)];rfl
      obtain⟨x,hx⟩:∃x,hs[k']?=some x:=⟨_,Aa (by lia)⟩;obtain⟨i2,hi2,b2,rfl,hb2,e2'⟩:=hh3.at hx;rw[DB hkR]at hi2
      cases hi2
      have n2:b2≠L:=lam3.ne e2' λps z=>by cases z
      refine⟨_,rfl,_,rfl,g2,hs,(k':Int),_,rfl,rfl,SqL.of (q5 _ _ n3 (q4 _ _ n3 e3)),zat hx,?_⟩;refine⟨b2,_,rfl,.inl (SqL.of (q5 _ _ n2 (q4 _ _ n2 e2'))),Same.refl _,?_⟩;show _=V.int (((hsR ESS R ((hsR ESS R j)[i]?.getD 0)).length:Nat):Int);rw[hk];unfold hsV;rw[Ag];rfl
     .refine fin none .non H5 rfl ?_ q5 lam5;show hsR ESS R j=[];exact List.map_eq_nil_iff.mp h0
     .obtain⟨k',hk,rfl⟩:=zks hy
      cases o with
      |none =>
       rw[show hsR ESS R j=[] from ho]at hk
       cases hk
      |some m =>
       have hl:(hsV (hsR ESS R j)).length=(hsR ESS R j).length:=Ag _;rw[hl]at hM;have:=Near.most hnr hjR ho hk (λu v hu=>by simp only[hu];rfl) hM;subst this;exact fin (some k') _ H5 rfl ho q5 lam5
    .rintro σ H4 ⟨o0,os,rfl,q4,lam4,e4,hol,hos⟩;refine k g3 H4 os (s23.free hg3) (λx u n h=>q4 _ _ n (s23 _ _ h)) lam4 e4 (by lia) hos
noncomputable def Small(cs:List Cell):Prop:=∃l lo:Int,∀c∈cs,l<=c.1/\c.1<l+12/\lo<=c.2/\c.2<lo+10
theorem Small.box{cs:List Cell}(h:Small cs)(hne:cs≠[]):∃l lo m:Int,BoxOf cs (l-1) (m-1) (l+12) (lo+10)/\lo<=m:=by obtain⟨l,lo,h⟩:=h;obtain⟨c,hc,hm⟩:=zda (λc:Cell=>c.2) hne;refine⟨l,lo,c.2,⟨λd hd=>?_,c,hc,by lia⟩,(h c hc).2.2.1⟩;have:=h d hd;have:=hm d hd;lia
noncomputable def boxL(l lo:Int):List Cell:=(AG 14).flatMap λi:Nat=>(AG 12).map λj:Nat=>(l-1+(i:Int),lo-1+(j:Int))
theorem zjR{l lo:Int}{d:Cell}(h:l-1<=d.1/\d.1<=l+12/\lo-1<=d.2/\d.2<=lo+10):d∈boxL l lo :=
 DT.mpr ⟨(d.1-(l-1)).toNat,BB.mpr (by lia),Ay.mpr ⟨(d.2-(lo-1)).toNat,BB.mpr (by lia),Cm (by show l-1+(((d.1-(l-1)).toNat:Nat):Int)=d.1;lia) (by show lo-1+(((d.2-(lo-1)).toNat:Nat):Int)=d.2;lia)⟩⟩
theorem zj3(l lo:Int):(boxL l lo).length=168:=by
 unfold boxL;simp
 decide
structure Grd (P:List Cell) (l lo r:Int) (i j:Nat) (Fr:List Cell):Prop where
 nd:Fr.Nodup
 iff:∀c,c∈Fr ↔ c ∉ P/\l<=c.1/\c.1<=r/\lo<=c.2/\(c.2<lo+i∨(c.2=lo+i/\c.1<l+j))
theorem Grd.skip{P:List Cell}{l lo r:Int}{i j:Nat}{Fr:List Cell}(h:Grd P l lo r i j Fr)(hm:(l+(j:Int),lo+(i:Int))∈P):Grd P l lo r i (j+1) Fr:=⟨h.nd,λc=>by
 rw[h.iff];constructor
 .rintro⟨h1,h2,h3,h4,h5⟩;exact⟨h1,h2,h3,h4,by lia⟩
 .rintro⟨h1,h2,h3,h4,h5⟩;refine⟨h1,h2,h3,h4,?_⟩;rcases h5 with z |⟨z,y⟩
  .exact .inl z
  .rcases Int.lt_or_le c.1 (l+j) with u |u
   .exact .inr ⟨z,u⟩
   .exfalso;have:c=(l+(j:Int),lo+(i:Int)):=Cm (by show c.1=l+j;lia) z;rw[this]at h1;exact h1 hm⟩
theorem Grd.more{P:List Cell}{l lo r:Int}{i j:Nat}{Fr:List Cell}(h:Grd P l lo r i j Fr)(hm:(l+(j:Int),lo+(i:Int)) ∉ P)(hr:l+j<=r):(l+(j:Int),lo+(i:Int)) ∉ Fr/\Grd P l lo r i (j+1) (Fr++[(l+(j:Int),lo+(i:Int))]):=by
 have hn:(l+(j:Int),lo+(i:Int)) ∉ Fr:=λm=>by have:=((h.iff _).mp m).2.2.2.2;simp only at this;lia
 refine⟨hn,?_,λc=>?_⟩
 .rw[CF];exact⟨h.nd,by simp,λu hu v hv e=>by rw[Ap.mp hv]at e;exact hn (e ▸ hu)⟩
 .rw[List.mem_append,List.mem_singleton,h.iff];constructor
  .rintro (⟨h1,h2,h3,h4,h5⟩ |rfl)
   .exact⟨h1,h2,h3,h4,by lia⟩
   .exact⟨hm,by simp only;lia,hr,by simp only;lia,.inr ⟨rfl,by simp only;lia⟩⟩
  .rintro⟨h1,h2,h3,h4,h5⟩;rcases h5 with z |⟨z,y⟩
   .exact .inl ⟨h1,h2,h3,h4,.inl z⟩
   .rcases Int.lt_or_le c.1 (l+j) with u |u
    .exact .inl ⟨h1,h2,h3,h4,.inr ⟨z,u⟩⟩
    .exact .inr (Cm (by show c.1=l+j;lia) z)
theorem Grd.row{P:List Cell}{l lo r:Int}{i j:Nat}{Fr:List Cell}(h:Grd P l lo r i j Fr)(hr:r<l+j):Grd P l lo r (i+1) 0 Fr:=⟨h.nd,λc=>by
 rw[h.iff];constructor
 .rintro⟨h1,h2,h3,h4,h5⟩;exact⟨h1,h2,h3,h4,by lia⟩
 .rintro⟨h1,h2,h3,h4,h5⟩;refine⟨h1,h2,h3,h4,by lia⟩⟩
noncomputable def zkj(K:W.Frag):Sp:=λvs H Q _=>∃(a:Addr) (us:List V) (cs:List Cell),vs=[.ref a]/\H a=some (.lst us)/\VR us cs cR H/\cs≠[]/\cs.length<=120 /\
 ∀p H' l lo r hi,H p=none->Same H H'->H' p=some (.tup [.int (l-1),.int (lo-1),.int (r+1),.int (hi+1)])->IsMin (cs.map (·.1)) l->IsMin (cs.map (·.2)) lo->IsMax (cs.map (·.1)) r->IsMax (cs.map (·.2)) hi->Q (.ref p) H'
theorem zhu (T:Txt P w K mg) (d:Df K mg "_law_box" zbL ["_law_cells"]):FnOk P w K mg base CX0 1 d.f d.fd ["_law_cells"] (zkj K):=by
 refine d.F.ok zcz (λvs H Q E h=>?_) (λcdv A outer s H vs Q E hr h=>?_)
 .obtain⟨a,us,cs,rfl,_⟩:=h;rfl
 .obtain⟨a,us,cs,rfl,ea,hva,hne,hlen,k⟩:=h;have hu1:=hu_of hr;have nb0:(["_law_x","_law_y"]:List Str).Nodup:=by decide +kernel
  have nb1:(["_law_x","_law_y"]:List Str).Nodup:=by decide +kernel
  refine⟨_,(zac (zdm (i:=1) (osc:=zaf zbL) (N:=zc5) (N':=["_law_x","_law_y"]) (sel:=[none,none]) bO zcz.nd (by rfl) (Or.inl rfl) (zaO (pv 0)) (λ_ _ _ _ _=>(zbA (K:=K) (n:=2) (by rfl) (zad (nG 0 nb0) (zad (nG 1 nb0) zao)))) (λ_ _ _ _ _=>zcV) (λ_ _ _ _ _=>(pv 0)))
   (zac (zdm (i:=2) (osc:=zaf zbL) (N:=zc5) (N':=["_law_x","_law_y"]) (sel:=[none,none]) bO zcz.nd (by rfl) (Or.inl rfl) (zaO (pv 0)) (λ_ _ _ _ _=>(zbA (K:=K) (n:=2) (by rfl) (zad (nG 0 nb1) (zad (nG 1 nb1) zao)))) (λ_ _ _ _ _=>zcV) (λ_ _ _ _ _=>(pv 1)))
   (zah (zal (zar (pa_B (pe_op zbt (zaw (zfR rfl) (by rfl) T.nmin (by rfl) (pa_N (pv 1) zab)) zae) (pa_B (pe_op zbt (zaw (zfR rfl) (by rfl) T.nmin (by rfl) (pa_N (pv 2) zab)) zae) (pa_B (pe_op zax (zaw (zfS rfl) (by rfl) T.nmax (by rfl) (pa_N (pv 1) zab)) zae) (pa_B (pe_op zax (zaw (zfS rfl) (by rfl) T.nmax (by rfl) (pa_N (pv 2) zab)) zae) zab))))))))),?_⟩
  have hul:us.length=cs.length:=hva.1;refine⟨_,rfl,a,rfl,⟨_,SqL.of ea⟩,λg hg=>?_⟩
  refine zaA (K:=K) (a:=a) (xs:=us) (λi σ H2=>∃o0 o1,σ=[o0,o1]/\Same H H2/\H2 g=some (.lst (((cs.take i).map (·.1)).map V.int)))
   ⟨_,_,rfl,Same.up hg,zaa⟩ (λi σ H2 _ ⟨_,_,_,s2,_⟩=>SqL.of (s2 _ _ ea)) ?_ ?_
  .rintro i v σ H2 hi ⟨o0,o1,rfl,s2,e2⟩;obtain⟨c,hc,b,rfl,qb⟩:=hva.at hi;have hil:i<cs.length:=(Ad.mp hc).1;refine⟨b,_,rfl,SqT.of (s2 _ _ qb),rfl,_,_,rfl,_,_,rfl,rfl,?_⟩;refine zcn ?_
   refine⟨_,rfl,_,e2,zak (by simp;lia),_,_,rfl,zam hg s2,?_⟩;rw[zaa,zaS hc];simp
  .rintro σ H2 ⟨o0,o1,rfl,s2,e2⟩;rw[hul,AV]at e2;refine⟨_,rfl,a,rfl,⟨_,SqL.of (s2 _ _ ea)⟩,λg2 hg2=>?_⟩
   refine zaA (K:=K) (a:=a) (xs:=us) (λi σ H3=>∃o0 o1,σ=[o0,o1]/\Same H2 H3/\H3 g2=some (.lst (((cs.take i).map (·.2)).map V.int)))
    ⟨_,_,rfl,Same.up hg2,zaa⟩ (λi σ H3 _ ⟨_,_,_,s3,_⟩=>SqL.of (s3 _ _ (s2 _ _ ea))) ?_ ?_
   .rintro i v σ H3 hi ⟨o0,o1,rfl,s3,e3⟩;obtain⟨c,hc,b,rfl,qb⟩:=hva.at hi;have hil:i<cs.length:=(Ad.mp hc).1;refine⟨b,_,rfl,SqT.of (s3 _ _ (s2 _ _ qb)),rfl,_,_,rfl,_,_,rfl,rfl,?_⟩;refine zcn ?_
    refine⟨_,rfl,_,e3,zak (by simp;lia),_,_,rfl,zam hg2 s3,?_⟩;rw[zaa,zaS hc];simp
   .rintro σ H3 ⟨o0,o1,rfl,s3,e3⟩;rw[hul,AV]at e3;have e23:=s3 _ _ e2;have n1:cs.map (·.1)≠[]:=λz=>hne (List.map_eq_nil_iff.mp z)
    have n2:cs.map (·.2)≠[]:=λz=>hne (List.map_eq_nil_iff.mp z)
    refine⟨_,rfl,g,_,rfl,SqL.of e23,n1,λl hl=>?_⟩;refine⟨_,_,rfl,rfl,_,rfl,g2,_,rfl,SqL.of e3,n2,λlo hlo=>?_⟩;refine⟨_,_,rfl,rfl,_,rfl,g,_,rfl,SqL.of e23,n1,λr hr'=>?_⟩;refine⟨_,_,rfl,rfl,_,rfl,g2,_,rfl,SqL.of e3,n2,λhi hhi=>?_⟩;refine⟨_,_,rfl,rfl,(by show 4<=sizeLine;decide),λp hp=>?_⟩;exact k p _ l lo r hi (s2.free (s3.free hp)) (s2.trans (s3.trans (Same.up hp))) zaa hl hlo hr' hhi
noncomputable def zhZ(K:W.Frag):Sp:=λvs H Q _=>∃(a:Addr) (ns:List Int),vs=[.ref a]/\SqL K H a (ns.map V.int)/\∀p H' vs cs,H p=none->Same H H'->H' p=some (.lst vs)->VR vs cs cR H'->cs.Pairwise Bfr->cs.length<=120->Small cs->Q (.ref p) H'
theorem zlf{α:Type}{l:List α}(h:l.length=3):∃a b c,l=[a,b,c]:=by
 match l,h with
 |[a,b,c],_=>exact⟨a,b,c,rfl⟩
theorem zfA (T:Txt P w K mg) (g__law_cell_at:Fn P w K mg base 1 "_law_cell_at" ["_law_script", "_law_k"] (zdl K)) (g__law_row:Fn P w K mg base 1 "_law_row" ["_law_cell", "_law_many", "_law_base"] spRow)
    (d:Df K mg "_law_rings" zce ["_law_script"]):FnOk P w K mg base CX0 2 d.f d.fd ["_law_script"] (zhZ K):=by
  refine d.F.ok zau (λvs H Q E h=>?_) (λcdv A outer s H vs Q E hr h=>?_)
  . obtain⟨a,ns,rfl,_⟩:=h;rfl
  . obtain⟨a,ns,rfl,hS,k⟩:=h
    refine⟨_,(zac (zbf (pC g__law_row hr (zai (pC g__law_cell_at hr (pa_N (pv 0) (pa_C zae zab))) (pa_C zae (pa_C zae zab)))) (zkl (by rfl) (zad (nG 1 zau.nd) (zad (nG 2 zau.nd) (zad (nG 3 zau.nd) zao)))))
      (zac (sE 1 zau.nd (pe_op zax zae (pe_op zaF (pv 1) zae)))
      (zac (sE 2 zau.nd (pe_op zax zae (pe_op zaF (pv 2) zae)))
      (zac (sE 4 zau.nd (zaY zab))
      (zac (zbo A5 rfl (zbp (by rfl) T.nrange (pa_N (pv 2) zab)) (nG 5 zau.nd)
      (zac (sE 6 zau.nd (pC g__law_row hr (pa_B (pe_op zax (pC g__law_cell_at hr (pa_N (pv 0) (pa_B (pe_op zax zae (pv 5)) zab))) (pv 5)) (pa_N (pv 1) (pa_C zae zab)))))
      (zah (zbo A5 rfl (zbp (by rfl) T.nrange (pa_N (pv 1) zab)) (nG 7 zau.nd)
      (zah (ps_if (pw_or (zdE (zaq op_eq (pe_op zaF (zaw (zjj rfl) (by rfl) T.nmin (by rfl) (pa_N (pv 7) (pa_N (pv 5) (pa_B (pe_op zbt (pe_op zbt (pv 1) zae) (pv 7)) (pa_B (pe_op zbt (pe_op zbt (pv 2) zae) (pv 5)) zab))))) zae) (pe_op zaF (pv 3) zae) (zas _)) (zcD (zaq op_gt (pe_ix zaR (pv 6) (pv 7) (λ_ _=>rfl)) zae (zas _)))).pt (zik (zaq op_eq (pe_ix zaR (pv 6) (pv 7) (λ_ _=>rfl)) zae (zas _)))).pt
      (zah (za1 (pe_bm AD AL AM zaE (pv 4) (pa_T (zar (pa_B (pe_op zbt (pv 7) zae) (pa_B (pe_op zax (pv 5) zae) zab))) zab))))
      zaK))))))
      (zah (zal (pv 4)))))))),?_⟩
    refine⟨_,rfl,a,ns,1,rfl,hS,λc0=>⟨c0,60,3,rfl,by decide,by decide,by decide,λp1 H1 ms hp1 s1 e1 hl1 hb1=>?_⟩⟩;obtain⟨wd,hg,wy,rfl⟩:=zlf hl1;have bw:=hb1 wd (by simp);have bh:=hb1 hg (by simp);have by':=hb1 wy (by simp);refine⟨p1,_,rfl,SqL.of e1,rfl,_,_,rfl,_,_,rfl,_,_,rfl,rfl,?_⟩;refine⟨_,rfl,_,_,rfl,rfl,(by show (0:Int)<8;decide),_,_,rfl,rfl,?_⟩;refine⟨_,rfl,_,_,rfl,rfl,(by show (0:Int)<6;decide),_,_,rfl,rfl,?_⟩;have hw0:=C6 wd (show (8:Int)≠0 by decide);have hw1:=Cy wd (show (0:Int)<8 by decide);have hh0:=C6 hg (show (6:Int)≠0 by decide);have hh1:=Cy hg (show (0:Int)<6 by decide);refine⟨(by show 0<=sizeLine;decide),λf hf=>?_⟩;have s3:Same H1 (upd H1 f (.lst [])):=Same.up hf;have e3:upd H1 f (.lst []) f=some (.lst []):=zaa;generalize upd H1 f (.lst [])=H3 at s3 e3;have hf0:H f=none:=s1.free hf;have s03:=s1.trans s3;refine⟨_,rfl,_,rfl,(by show -(2 ^ 62)<=5+hg % 6;lia),(by show 5+hg % 6<2 ^ 62;lia),?_⟩;obtain⟨W,hW⟩:∃W,W=5+wd % 8:=⟨_,rfl⟩;obtain⟨G,hG⟩:∃G,G=5+hg % 6:=⟨_,rfl⟩;rw[<- hG]
    refine za7 (lo := 0) (n := G.toNat) (λi σ H4 => ∃o5 o6 o7, σ = [some (.ref a), some (.int W), some (.int G), some (.int wy), some (.ref f), o5, o6, o7] /\ Same H H4 /\
        ∃vs cs,H4 f=some (.lst vs)/\VR vs cs cR H4/\cs.Pairwise Bfr/\(∀c∈cs,c.2<(i:Int)+2/\2<=c.2/\-3<=c.1/\c.1<W-3)/\cs.length<=12*i)
      ⟨_,_,_,by rw[hW,hG];rfl,s03,[],[],e3,VR.nil,.nil,by simp,AZ _⟩ ?_ ?_
    . rintro i σ H4 hi ⟨o5,o6,o7,rfl,s4,vs,cs,e4,hv4,hpw,hup,hcl⟩;have hi10:i<10:=by lia
      simp only[za4,Ba,Bb,CH];refine⟨_,rfl,_,rfl,_,_,rfl,rfl,a,ns,2+i,rfl,s4.seq hS,λc1=>⟨_,rfl,_,_,rfl,rfl,?_⟩⟩;refine⟨_,rfl,_,12,W.toNat,(by rw[Int.toNat_of_nonneg (by lia)];rfl),by lia,by decide,by decide,λp5 H5 rs hp5 s5 e5 hl5 _=>?_⟩;have s45:=s4.trans s5;refine⟨_,rfl,_,rfl,(by lia),(by lia),?_⟩
      refine za7 (lo := 0) (n := W.toNat) (λj σ H6 => ∃o7, σ = [some (.ref a), some (.int W), some (.int G), some (.int wy), some (.ref f), some (.int (i:Int)), some (.ref p5), o7] /\ (∀b o, b ≠ f -> H5 b=some o -> H6 b=some o) /\
          ∃vs ds,H6 f=some (.lst vs)/\VR vs (cs++ds) cR H6/\ds.Pairwise Bfr/\(∀c∈ds,c.2=(i:Int)+2/\-3<=c.1/\c.1<(j:Int)-3)/\ds.length<=j)
        ⟨_,rfl,(λb o _ h=>h),vs,[],s5 _ _ e4,by rw[A0];exact hv4.mono λx v h=>h.kt (KT.of s5),.nil,by simp,Ai _⟩ ?_ ?_
      . rintro j σ H6 hj ⟨o7,rfl,q6,vs6,ds,e6,hv6,hdw,hdc,hdl⟩;simp only[za4,Ba,Bb,CH];have hjW:j<rs.length:=by lia
        have n5:p5≠f:=λz=>by rw[z]at hp5;rw[e4]at hp5;cases hp5
        have e65:H6 p5=some (.lst (rs.map V.int)):=q6 _ _ n5 e5;have hget:(rs.map V.int)[j]?=some (.int rs[j]):=by rw[Az,Aa hjW];rfl
        refine⟨_,rfl,_,rfl,_,rfl,_,_,rfl,rfl,_,rfl,_,_,rfl,rfl,_,rfl,_,_,rfl,rfl,_,rfl,_,_,rfl,rfl,_,_,_,_,rfl,λn=>?_⟩;refine⟨_,_,rfl,rfl,(by show (0:Int)<2;decide),_,rfl,_,_,rfl,rfl,(by show (0:Int)<2;decide),rfl,_,rfl,?_⟩;have hvl:vs6.length<=130:=by rw[hv6.1,Ak];lia
        have app:∀t, H6 t=none -> ∃vs, upd H6 t (.tup [.int ((j:Int)-3), .int ((i:Int) + 2)]) f=some (.lst vs) /\ vs.length < sizeLine /\ ∃o7, [some (V.ref a), some (.int W), some (.int G), some (.int wy), some (.ref f), some (.int (i:Int)), some (.ref p5), some (.int (j:Int))] = [some (.ref a), some (.int W), some (.int G), some (.int wy), some (.ref f), some (.int (i:Int)), some (.ref p5), o7] /\
            (∀b o,b≠f->H5 b=some o->upd (upd H6 t (.tup [.int ((j:Int)-3),.int ((i:Int)+2)])) f (.lst (vs++[.ref t])) b=some o) /\
            ∃vs' ds,upd (upd H6 t (.tup [.int ((j:Int)-3),.int ((i:Int)+2)])) f (.lst (vs++[.ref t])) f=some (.lst vs')/\VR vs' (cs++ds) cR (upd (upd H6 t (.tup [.int ((j:Int)-3),.int ((i:Int)+2)])) f (.lst (vs++[.ref t])))/\ds.Pairwise Bfr/\(∀c∈ds,c.2=(i:Int)+2/\-3<=c.1/\c.1<((j+1:Nat):Int)-3)/\ds.length<=j+1:=λt ht=>by
          have s7:Same H6 (upd H6 t (.tup [.int ((j:Int)-3),.int ((i:Int)+2)])):=Same.up ht;have r7:cR ((j:Int)-3,(i:Int)+2) (.ref t) (upd H6 t (.tup [.int ((j:Int)-3),.int ((i:Int)+2)])):=⟨t,rfl,zaa⟩;generalize upd H6 t (.tup [.int ((j:Int)-3),.int ((i:Int)+2)])=H7 at s7 r7;have e7:=s7 _ _ e6;refine⟨vs6,e7,zak (by lia),_,rfl,λb o n h=>?_,_,ds++[((j:Int)-3,(i:Int)+2)],zaa,?_,?_,λc hc=>?_,by rw[Ak,Bf];lia⟩
          . rw[zag n];exact s7 _ _ (q6 _ _ n h)
          . rw[<- Di];exact hv6.snoc (λx v h=>(h.kt (KT.of s7)).kt (KT.lst e7)) (r7.kt (KT.lst e7))
          . refine DV.mpr ⟨hdw,List.pairwise_singleton _ _,λx hx y hy=>?_⟩;rw[Ap.mp hy];obtain⟨h1,h2,h3⟩:=hdc x hx;obtain⟨x1,x2⟩:=x;simp only at h1 h2 h3;rw[h1];exact zjk h3
          . rcases AW.mp hc with h |h
            . have:=hdc c h;lia
            . have e:=Ap.mp h;have e1:=congrArg Prod.fst e;have e2:=congrArg Prod.snd e;simp only at e1 e2;lia
        have skip:∃o7, [some (V.ref a), some (.int W), some (.int G), some (.int wy), some (.ref f), some (.int (i:Int)), some (.ref p5), some (.int (j:Int))] = [some (.ref a), some (.int W), some (.int G), some (.int wy), some (.ref f), some (.int (i:Int)), some (.ref p5), o7] /\
            (∀b o,b≠f->H5 b=some o->H6 b=some o)/\∃vs ds,H6 f=some (.lst vs)/\VR vs (cs++ds) cR H6/\ds.Pairwise Bfr/\(∀c∈ds,c.2=(i:Int)+2/\-3<=c.1/\c.1<((j+1:Nat):Int)-3)/\ds.length<=j+1:=⟨_,rfl,q6,vs6,ds,e6,hv6,hdw,λc hc=>by have:=hdc c hc;lia,by lia⟩
        refine ite2 (λ_=>?_) (λ_=>?_)
        . refine⟨_,rfl,_,rfl,p5,_,(j:Int),_,rfl,rfl,SqL.of e65,zat hget,_,_,rfl,rfl,_,rfl,?_⟩;refine ite2 (λ_=>?_) (λ_=>?_)
          . refine iteY rfl ⟨_,rfl,.inl ⟨rfl,_,SqL.of e6⟩,_,rfl,_,_,rfl,rfl,_,rfl,_,_,rfl,rfl,two,λt ht=>?_⟩;obtain⟨vs,h1,h2,h3⟩:=app t ht;exact⟨f,vs,_,rfl,rfl,h1,h2,h3⟩
          . refine⟨_,rfl,_,rfl,p5,_,(j:Int),_,rfl,rfl,SqL.of e65,zat hget,rfl,_,rfl,?_⟩;refine ite2 (λ_=>?_) (λ_=>skip);refine⟨_,rfl,.inl ⟨rfl,_,SqL.of e6⟩,_,rfl,_,_,rfl,rfl,_,rfl,_,_,rfl,rfl,two,λt ht=>?_⟩;obtain⟨vs,h1,h2,h3⟩:=app t ht;exact⟨f,vs,_,rfl,rfl,h1,h2,h3⟩
        . refine iteN rfl ⟨_,rfl,_,rfl,p5,_,(j:Int),_,rfl,rfl,SqL.of e65,zat hget,rfl,_,rfl,?_⟩;refine ite2 (λ_=>?_) (λ_=>skip);refine⟨_,rfl,.inl ⟨rfl,_,SqL.of e6⟩,_,rfl,_,_,rfl,rfl,_,rfl,_,_,rfl,rfl,two,λt ht=>?_⟩;obtain⟨vs,h1,h2,h3⟩:=app t ht;exact⟨f,vs,_,rfl,rfl,h1,h2,h3⟩
      . rintro σ H6 ⟨o7,rfl,q6,vs6,ds,e6,hv6,hdw,hdc,hdl⟩;refine⟨_,_,_,rfl,λb o h=>q6 _ _ (zaj h hf0) (s45 _ _ h),vs6,cs++ds,e6,hv6,?_,?_,?_⟩
        . refine DV.mpr ⟨hpw,hdw,λx hx y hy=>zkA ?_⟩;have:=(hup x hx).1;have:=(hdc y hy).1;lia
        . intro c hc;rcases AW.mp hc with h |h
          . have:=hup c h;lia
          . have:=hdc c h;lia
        . rw[Ak];lia
    . rintro σ H4 ⟨o5,o6,o7,rfl,s4,vs,cs,e4,hv4,hpw,hup,hcl⟩;exact⟨_,rfl,k f H4 vs cs hf0 s4 e4 hv4 hpw (by lia) ⟨-3,2,λc hc=>by have:=hup c hc;lia⟩⟩
noncomputable def zh2(K:W.Frag):Sp:=λvs H Q _=>∃(a:Addr) (us:List V) (cs:List Cell),vs=[.ref a]/\H a=some (.lst us)/\VR us cs cR H/\cs.Pairwise Bfr/\cs.length<=120/\Small cs/\cs≠[] /\
 ∀p H' Fr l lo r hi,H p=none->Same H H'->H' p=some (.dT (dC Fr))->BoxOf cs l lo r hi->FreeOf (isIn Fr) cs l lo r hi->Fr.length<=168->Q (.ref p) H'
theorem zgm (T:Txt P w K mg) (g__law_lot:Fn P w K mg base 1 "_law_lot" ["_law_cells"] (spLot K)) (g__law_box:Fn P w K mg base 1 "_law_box" ["_law_cells"] (zkj K)) (d:Df K mg "_law_gaps" zcC ["_law_cells"]):FnOk P w K mg base CX0 2 d.f d.fd ["_law_cells"] (zh2 K):=by
 refine d.F.ok zaG (λvs H Q E h=>?_) (λcdv A outer s H vs Q E hr h=>?_)
 .obtain⟨a,us,cs,rfl,_⟩:=h;rfl
 .obtain⟨a,us,cs,rfl,ea,hva,hord,hlen,hsm,hne,k⟩:=h;have hu1:=hu_of hr
  refine⟨_,(zac (sE 1 zaG.nd (pC g__law_lot hr (pa_N (pv 0) zab)))
   (zac (zbf (pC g__law_box hr (pa_N (pv 0) zab)) (za2 (by rfl) (zad (nG 2 zaG.nd) (zad (nG 3 zaG.nd) (zad (nG 4 zaG.nd) (zad (nG 5 zaG.nd) zao))))))
   (zac (sE 6 zaG.nd zdn)
   (zac (zbo A5 rfl (zfw (by rfl) T.nrange (pa_N (pv 3) (pa_B (pe_op zax (pv 5) zae) zab))) (nG 7 zaG.nd)
   (zah (zbo A5 rfl (zfw (by rfl) T.nrange (pa_N (pv 2) (pa_B (pe_op zax (pv 4) zae) zab))) (nG 8 zaG.nd)
   (zah (ps_if (zcK (zcN hu1 (zar (pa_N (pv 8) (pa_N (pv 7) zab))) (pv 1)))
   (zah (zeI hu1 (pv 6) (zar (pa_N (pv 8) (pa_N (pv 7) zab))) pe_bl rfl))
   zaK)))))
   (zah (zal (pv 6))))))),?_⟩
  have hkn:(cs.map kC).Nodup:=List.Pairwise.map _ (λa b hab e=>hab (zei.mp e)) (zgM hord);refine⟨_,rfl,a,us,cs.map kC,rfl,SqL.of ea,hva.keys (f:=kC) (λx v h=>h.key),hkn,by rw[Ag];lia,λt H2 ht s2 e2=>?_⟩;rw[<- zkv]at e2;refine⟨_,rfl,a,us,cs,rfl,s2 _ _ ea,hva.mono (λx v h=>h.kt (KT.of s2)),hne,hlen,λpb H3 l lo r hi hpb s3 e3 hl hlo hr' hhi=>?_⟩;refine⟨pb,_,rfl,SqT.of e3,rfl,_,_,rfl,_,_,rfl,_,_,rfl,_,_,rfl,rfl,?_⟩
  have hBx:BoxOf cs (l-1) (lo-1) (r+1) (hi+1):=by
   refine⟨λc hc=>?_,?_⟩
   .have q1:=hl.2 _ (Ay.mpr ⟨c,hc,rfl⟩);have q2:=hlo.2 _ (Ay.mpr ⟨c,hc,rfl⟩);have q3:=hr'.2 _ (Ay.mpr ⟨c,hc,rfl⟩);have q4:=hhi.2 _ (Ay.mpr ⟨c,hc,rfl⟩);lia
   .obtain⟨c,hc,e⟩:=Ay.mp hlo.1;exact⟨c,hc,by rw[e];lia⟩
  have hdim:r-l<=11/\hi-lo<=9/\l<=r/\lo<=hi:=by obtain⟨l',lo',hs⟩:=hsm;obtain⟨c1,m1,q1⟩:=Ay.mp hl.1;obtain⟨c2,m2,q2⟩:=Ay.mp hlo.1;obtain⟨c3,m3,q3⟩:=Ay.mp hr'.1;obtain⟨c4,m4,q4⟩:=Ay.mp hhi.1;have p1:=hs c1 m1;have p2:=hs c2 m2;have p3:=hs c3 m3;have p4:=hs c4 m4;have b1:=hBx.all c1 m1;lia
  refine λgd hgd=>?_
  have s23:=s2.trans s3;have g0:upd H3 gd (.dT []) gd=some (.dT []):=zaa;have sg:=Same.up (o:=.dT []) hgd;generalize upd H3 gd (.dT [])=H9 at sg g0;have t3:=s3 _ _ e2;have t9:=sg _ _ t3;have ntg:t≠gd:=zaj t3 hgd;have hgd0:H gd=none:=s23.free hgd
  have few:∀{i j Fr},Grd cs (l-1) (lo-1) (r+1) i j Fr->i<(hi+1+1-(lo-1)).toNat∨(i=(hi+1+1-(lo-1)).toNat/\j=0)->Fr.length<=168:=λ{i j Fr} grd hi'=>by
   have:=zap grd.nd (b:=boxL l lo) λc hc=>zjR (by
    obtain⟨_,q1,q2,q3,q4⟩:=(grd.iff c).mp hc;lia)
   rw[zj3]at this;exact this
  simp only[za4,Ba,Bb];refine⟨_,rfl,_,rfl,_,_,rfl,rfl,_,_,rfl,?_⟩
  refine za7 (lo:=lo-1) (n:=(hi+1+1-(lo-1)).toNat) (λi σ HA=>∃o7 o8 Fr,σ=[some (.ref a),some (.ref t),some (.int (l-1)),some (.int (lo-1)),some (.int (r+1)),some (.int (hi+1)),some (.ref gd),o7,o8]/\(∀b o,b≠gd->H9 b=some o->HA b=some o)/\HA gd=some (.dT (dC Fr))/\Grd cs (l-1) (lo-1) (r+1) i 0 Fr)
   ⟨_,_,[],rfl,(λ_ _ _ h=>h),g0,⟨List.nodup_nil,λc=>⟨λh=>(by cases h),λh=>(by obtain⟨_,_,_,h4,h5⟩:=h;lia)⟩⟩⟩ ?_ ?_
  .rintro i σ HA hi' ⟨o7,o8,Fr,rfl,kA,gA,grd⟩;refine⟨_,rfl,_,rfl,_,_,rfl,rfl,_,_,rfl,?_⟩
   refine za7 (lo:=l-1) (n:=(r+1+1-(l-1)).toNat) (λj σ HB=>∃o8 Fr,σ=[some (.ref a),some (.ref t),some (.int (l-1)),some (.int (lo-1)),some (.int (r+1)),some (.int (hi+1)),some (.ref gd),some (.int (lo-1+(i:Int))),o8]/\(∀b o,b≠gd->H9 b=some o->HB b=some o)/\HB gd=some (.dT (dC Fr))/\Grd cs (l-1) (lo-1) (r+1) i j Fr)
    ⟨_,Fr,rfl,kA,gA,grd⟩ ?_ ?_
   .rintro j σ HB hj ⟨o8,Fr,rfl,kB,gB,grd⟩;have hFl:Fr.length<=168:=few grd (.inl hi');refine⟨_,rfl,_,rfl,two,λpa hpa=>?_⟩;have sa:=Same.up (o:=.tup [.int (l-1+(j:Int)),.int (lo-1+(i:Int))]) hpa;have ea':upd HB pa (.tup [.int (l-1+(j:Int)),.int (lo-1+(i:Int))]) pa=some (.tup [.int (l-1+(j:Int)),.int (lo-1+(i:Int))]):=zaa;generalize upd HB pa (.tup [.int (l-1+(j:Int)),.int (lo-1+(i:Int))])=HC at sa ea';have tC:=sa _ _ (kB _ _ ntg t9);refine⟨_,rfl,t,_,rfl,.inr ⟨_,kC (l-1+(j:Int),lo-1+(i:Int)),pa,Rd.of tC,rfl,ea',rfl⟩,_,rfl,?_⟩;rw[zcx]
    by_cases hm:(l-1+(j:Int),lo-1+(i:Int))∈cs
    .rw[show isIn cs (l-1+(j:Int),lo-1+(i:Int))=true from decide_eq_true hm];exact iteF ⟨_,Fr,rfl,λb o n e=>sa _ _ (kB _ _ n e),sa _ _ gB,grd.skip hm⟩
    .rw[show isIn cs (l-1+(j:Int),lo-1+(i:Int))=false from decide_eq_false hm];obtain⟨hn',grd'⟩:=grd.more hm (by lia);refine iteT ⟨_,rfl,_,rfl,_,rfl,two,λpb' hpb'=>?_⟩;have sb:=Same.up (o:=.tup [.int (l-1+(j:Int)),.int (lo-1+(i:Int))]) hpb';have eb:upd HC pb' (.tup [.int (l-1+(j:Int)),.int (lo-1+(i:Int))]) pb'=some (.tup [.int (l-1+(j:Int)),.int (lo-1+(i:Int))]):=zaa;generalize upd HC pb' (.tup [.int (l-1+(j:Int)),.int (lo-1+(i:Int))])=HD at sb eb;have gD:=(sa.trans sb) _ _ gB;refine⟨gd,_,rfl,.inr ⟨dC Fr,kC (l-1+(j:Int),lo-1+(i:Int)),pb',gD,rfl,eb,(by rw[zkw];exact bigF (by lia)),rfl⟩,?_⟩;rw[zil hn'];refine⟨_,_,rfl,λb o n e=>?_,zaa,grd'⟩;rw[zag n];exact (sa.trans sb) _ _ (kB _ _ n e)
   .rintro σ HB ⟨o8,Fr,rfl,kB,gB,grd⟩;exact⟨_,_,Fr,rfl,kB,gB,grd.row (by lia)⟩
  .rintro σ HA ⟨o7,o8,Fr,rfl,kA,gA,grd⟩
   have hF:FreeOf (isIn Fr) cs (l-1) (lo-1) (r+1) (hi+1):=⟨λc=>by
    show decide (c∈Fr)=true ↔ _;rw[decide_eq_true_iff,grd.iff];unfold inBox;constructor
    .rintro⟨h1,h2,h3,h4,h5⟩;exact⟨⟨h2,h3,h4,by lia⟩,h1⟩
    .rintro⟨⟨h2,h3,h4,h5⟩,h1⟩;exact⟨h1,h2,h3,h4,.inl (by lia)⟩⟩
   exact⟨_,rfl,k gd HA Fr _ _ _ _ hgd0 (λb o h=>kA _ _ (zaj h hgd0) (sg _ _ (s23 _ _ h))) gA hBx hF (few grd (.inr ⟨rfl,rfl⟩))⟩
noncomputable def kR(p:Rnd->Bool)(R:List Rnd)(n:Nat):List Nat:=(AG n).filter λk=>(R[k]?.map p).getD false
theorem ziW{p:Rnd->Bool}{R:List Rnd}{j:Nat}{r:Rnd}(h:R[j]?=some r):kR p R (j+1)=kR p R j++(if p r=true then [j] else []):=by
 unfold kR;rw[C7,BU]
 congr 1
 by_cases z:p r=true
 .rw[if_pos z,List.filter_cons_of_pos (by rw[h];exact z)];rfl
 .rw[if_neg z,List.filter_cons_of_neg (by rw[h];exact z)];rfl
theorem ziX{p:Rnd->Bool}{R:List Rnd}(n:Nat):(kR p R n).length<=n:=by have:=AY (λk=>(R[k]?.map p).getD false) (AG n);rw[Bp]at this;exact this
theorem ziF{p:Rnd->Bool}{R:List Rnd}{n k:Nat}:k∈kR p R n ↔ k<n/\∃r,R[k]?=some r/\p r=true:=by
 unfold kR;rw[List.mem_filter,List.mem_range];refine and_congr_right λ_=>?_
 cases h:R[k]? with
 |none=>simp
 |some r=>simp
theorem zkq{p:Rnd->Bool}{R:List Rnd}{m:Nat}{r:Rnd}(h:R[m]?=some r)(hp:p r=true)(one:∀k q,R[k]?=some q->p q=true->k=m):∃l,kR p R R.length=m::l:=by
 have hm:m∈kR p R R.length:=ziF.mpr ⟨(Ad.mp h).1,r,h,hp⟩
 cases e:kR p R R.length with
 |nil=>rw[e]at hm;cases hm
 |cons x l =>
  obtain⟨_,q,h1,h2⟩:=ziF.mp (show x∈kR p R R.length by rw[e];exact AC);rw[one x q h1 h2];exact⟨l,rfl⟩
theorem Near.uniq{ESS:List (List Edge)}{R:List Rnd}(h:∀i<R.length,∃o,Near ESS R i o){i:Nat}{o o':Option Nat}(h1:Near ESS R i o)(h2:Near ESS R i o'):o=o':=by
 have key:∀{m m'},Near ESS R i (some m)->Near ESS R i (some m')->m=m':=λ{m m'} a b=>by
  rcases (a.2 m').mp ((b.2 m').mpr (.inl rfl)) with z |z
  .exact z.symm
  .have:=Near.less h _ m rfl a.1 m' z;have l1:=a.len;have l2:=b.len;lia
 cases o with
 |none =>
  cases o' with
  |none=>rfl
  |some m=>exact absurd h1 h2.held
 |some m =>
  cases o' with
  |none=>exact absurd h2 h1.held
  |some m'=>rw[key h1 h2]
noncomputable def spDue(K:W.Frag):Sp:=λvs H Q _=>∃(a b:Addr) (v:V) (us ws:List V) (cs:List Cell) (ESS:List (List Edge)) (R:List Rnd) (i:Nat) (r:Rnd),vs=[.ref a,.ref b,v]/\H a=some (.lst us)/\VR us cs cR H/\cs.Pairwise Bfr/\cs.length<=120/\Small cs/\H b=some (.lst ws)/\VR ws R rR H/\Cans (isIn cs) ESS R/\R.length<=480/\R[i]?=some r/\rR r v H /\
 ∀H' o,Same H H'->Near ESS R i o->Q (oV o) H'
theorem zht (T:Txt P w K mg) (g__law_lot:Fn P w K mg base 1 "_law_lot" ["_law_cells"] (spLot K)) (g__law_flood:Fn P w K mg base 2 "_law_flood" ["_law_there", "_law_first", "_law_steps"] (zh3 K)) (g__law_gaps:Fn P w K mg base 2 "_law_gaps" ["_law_cells"] (zh2 K))
  (d:Df K mg "_law_due" zbK ["_law_cells","_law_some","_law_one"]):FnOk P w K mg base CX0 3 d.f d.fd ["_law_cells","_law_some","_law_one"] (spDue K):=by
 refine d.F.ok za0 (λvs H Q E h=>?_) (λcdv A outer s H vs Q E hr h=>?_)
 .obtain⟨a,b,v,us,ws,cs,ESS,R,i,r,rfl,_⟩:=h;rfl
 .obtain⟨a,b,v,us,ws,cs,ESS,R,i,r,rfl,ea,hva,hord,hlen,hsm,ew,hvw,hcans,hRl,hri,⟨x,b',rfl,q1,q2⟩,k⟩:=h;have hu1:=hu_of hr;have nb0:(["_law_k","_law_other","_law_lot_here"]:List Str).Nodup:=by decide +kernel
  have nb1:(["_law_k","_law_other","_law_lot_here"]:List Str).Nodup:=by decide +kernel
  refine⟨_,(zac (zbf (pv 2) (za2 (by rfl) (zad (nG 3 za0.nd) (zad (nG 4 za0.nd) (zad (nG 5 za0.nd) (zad (nG 6 za0.nd) zao))))))
   (zac (ps_if (zaq op_eq (pv 3) zeh (zas _))
   (zac (zc8 (i:=7) za0.nd (by rfl) (CP rfl) (pC g__law_flood hr (zai (pC g__law_lot hr (pa_N (pv 0) zab)) (pa_T (zar (pa_N (pv 4) (pa_N (pv 5) zab))) (zai (zhn (by rfl) T.nlist (by rfl) T.nrange (pa_C zae zab)) zab)))))
   (zah (zal (pe_ix zaR (zaZ (osc:=zaf zbK) (N:=zcq) (N':=["_law_k","_law_other","_law_lot_here"]) (sel:=[none,none,some 7]) bO (zeL (by rfl) T.nenumerate (pa_N (pv 1) zab)) (λ_ _ _ _ _=>(zbA (K:=K) (n:=2) (by rfl) (zad (nG 0 nb0) (zad (nG 1 nb0) zao)))) (λ_ _ _ _ _=>zbs (zdE (zaq op_eq (pe_ix (zci (K:=K)) (pv 1) zae (λ_ _=>rfl)) zeh (zas _)) (zcD (zcK (zfx hu1 (zcL (zjx (K:=K)) (pv 1) (zcW zae) (zcW zae)) (pv 2))))).pt) (λ_ _ _ _ _=>(pv 0))) zae (λ_ _=>rfl)))))
   zaK)
   (zac (zc8 (i:=7) za0.nd (by rfl) (CP rfl) (pC g__law_flood hr (zai (pC g__law_gaps hr (pa_N (pv 0) zab)) (pa_T (zar (pa_N (pv 4) (pa_B (pe_op zbt (pv 5) zae) zab))) (zai (zaY (pa_C zae (pa_C zae (pa_C zae (pa_C zae zab))))) zab)))))
   (zac (zdm (i:=8) (osc:=zaf zbK) (N:=zcq) (N':=["_law_k","_law_other","_law_lot_here"]) (sel:=[none,none,some 7]) bO za0.nd (by rfl) (Or.inl rfl) (zeL (by rfl) T.nenumerate (pa_N (pv 1) zab)) (λ_ _ _ _ _=>(zbA (K:=K) (n:=2) (by rfl) (zad (nG 0 nb1) (zad (nG 1 nb1) zao)))) (λ_ _ _ _ _=>zbs (zdE (zaq op_eq (pe_ix (zci (K:=K)) (pv 1) zae (λ_ _=>rfl)) zeh (zas _)) (zcD (zcK (zfx hu1 (zar (zai (pe_ix (zci (K:=K)) (pv 1) zae (λ_ _=>rfl)) (pa_B (pe_op zax (pe_ix (zci (K:=K)) (pv 1) zae (λ_ _=>rfl)) zae) zab))) (pv 2))))).pt) (λ_ _ _ _ _=>(pv 0)))
   (zah (zal (pe_ix zaR (pe_op zgS (pv 8) (zaY (pa_C zbq zab))) zae (λ_ _=>rfl)))))))),?_⟩
  have hσ:L2.start zcq [V.ref a,V.ref b,V.ref x]=[some (.ref a),some (.ref b),some (.ref x),none,none,none,none,none,none]:=rfl;rw[hσ];obtain⟨es,hes,hcan⟩:=hcans.so hri;have hbC:=(hcan.cl.1.2.2.1 _ (Aj hcan.cl.1.1))
  have hne:cs≠[]:=λz=>by have:=of_decide_eq_true hbC.2.1;rw[z]at this;cases this
  have hkn:(cs.map kC).Nodup:=List.Pairwise.map _ (λa b hab e=>hab (zei.mp e)) (zgM hord);refine⟨_,rfl,x,_,rfl,SqT.of q1,rfl,_,_,rfl,_,_,rfl,_,_,rfl,_,_,rfl,rfl,?_⟩;refine⟨_,rfl,rfl,_,rfl,?_⟩;refine ite2 (λhy=>?_) (λhn=>?_)
  .have hso:r.so = "hole" := by have:=of_decide_eq_true hy;injection this with this
   refine⟨_,rfl,a,us,cs.map kC,rfl,SqL.of ea,hva.keys (f:=kC) (λx v h=>h.key),hkn,by rw[Ag];lia,λt H2 ht s2 e2=>?_⟩;rw[<- zkv]at e2;refine⟨_,rfl,_,rfl,two,λp6 hp6=>?_⟩;have s6:=Same.up (o:=.tup [.int r.x,.int r.y]) hp6;have e6:upd H2 p6 (.tup [.int r.x,.int r.y]) p6=some (.tup [.int r.x,.int r.y]):=zaa;generalize upd H2 p6 (.tup [.int r.x,.int r.y])=H6 at s6 e6;refine⟨8,rfl,by decide,λq7 hq7=>?_⟩;have s7:=Same.up (o:=.lst ((AG 8).map λi:Nat=>V.int (i:Int))) hq7;have e7:upd H6 q7 (.lst ((AG 8).map λi:Nat=>V.int (i:Int))) q7=some (.lst ((AG 8).map λi:Nat=>V.int (i:Int))):=zaa;generalize upd H6 q7 (.lst ((AG 8).map λi:Nat=>V.int (i:Int)))=H7 at s7 e7;refine⟨t,p6,q7,(r.x,r.y),cs,AG 8,rfl,Rd.of ((s6.trans s7) _ _ e2),s7 _ _ e6,e7,(λs hs=>BB.mp hs),by lia,λf H8 F hf s8 e8 hn8 hr8=>?_⟩;rw[show AG 8=S8 by decide]at hr8;have s08:=s2.trans (s6.trans (s7.trans s8));refine⟨_,rfl,b,rfl,⟨_,SqL.of (s08 _ _ ew)⟩,λg hg=>?_⟩;have s9:=Same.up (o:=.lst []) hg;have e9:upd H8 g (.lst []) g=some (.lst []):=zaa;generalize upd H8 g (.lst [])=H9 at s9 e9
   refine zdp (K:=K) (a:=b) (xs:=ws) (λj σ HA=>∃o0 o1,σ=[o0,o1,some (.ref f)]/\(∀b o,b≠g->H9 b=some o->HA b=some o)/\HA g=some (.lst (hsV (kR (λq=>decide (q.so = "rim") && isIn F (q.x,q.y)) R j))))
    ⟨_,_,rfl,(λ_ _ _ h=>h),e9⟩ (λj σ HA _ ⟨_,_,_,kA,_⟩=>SqL.of (kA _ _ (zaj ew (s08.free hg)) (s9 _ _ (s08 _ _ ew)))) ?_ ?_
   .rintro j u σ HA tp hj ⟨o0,o1,rfl,kA,gA⟩ htp;obtain⟨q,hq,y,y',rfl,z1,z2⟩:=hvw.at hj;have hg0:=s08.free hg;have zA:=kA _ _ (zaj z1 hg0) (s9 _ _ (s08 _ _ z1));have sB:=Same.up (o:=.tup [.int (j:Int),.ref y]) htp;have eB:upd HA tp (.tup [.int (j:Int),.ref y]) tp=some (.tup [.int (j:Int),.ref y]):=zaa;generalize upd HA tp (.tup [.int (j:Int),.ref y])=HB at sB eB;refine⟨tp,_,rfl,SqT.of eB,rfl,_,_,rfl,_,_,rfl,rfl,?_⟩;have zB:=sB _ _ zA;rw[ziW hq];have gB:=sB _ _ gA;have kgl:=ziX (p:=λq=>decide (q.so = "rim") && isIn F (q.x,q.y)) (R:=R) j;have hjl:=(Ad.mp hq).1;have keepB:∀b o,b≠g->H9 b=some o->HB b=some o:=λb o n e=>sB _ _ (kA _ _ n e)
    refine⟨_,rfl,y,_,0,_,rfl,rfl,SqT.of zB,rfl,rfl,_,rfl,?_⟩
    by_cases hqs:q.so = "rim"
    .refine iteY (by rw[hqs];exact decide_eq_true rfl) ?_
     rw[show (decide (q.so = "rim") && isIn F (q.x,q.y))=isIn F (q.x,q.y) by rw[decide_eq_true hqs,Bool.true_and]];have nfg:f≠g:=λz=>by rw[z]at e8;rw[e8]at hg;cases hg
     have fB:=keepB _ _ nfg (s9 _ _ e8);refine⟨_,rfl,1,rfl,3,rfl,y,_,rfl,SqT.of zB,(λh=>absurd h.1 (by show ¬ (HT.sIx 4 0 (some 1)=0);decide)),λ_ p hp=>?_⟩;have sC:=Same.up (o:=.tup [.int q.x,.int q.y]) hp;have eC:upd HB p (.tup [.int q.x,.int q.y]) p=some (.tup [.int q.x,.int q.y]):=zaa;rw[show cutV [V.str q.so,.int q.x,.int q.y,.ref y'] (some 1) (some 3)=[.int q.x,.int q.y] from rfl];generalize upd HB p (.tup [.int q.x,.int q.y])=HC at sC eC;refine⟨_,rfl,f,_,rfl,.inr ⟨_,kC (q.x,q.y),p,Rd.of (sC _ _ fB),rfl,eC,rfl⟩,_,rfl,?_⟩;rw[zcx];have gC:=sC _ _ gB;have keepC:∀b o,b≠g->H9 b=some o->HC b=some o:=λb o n e=>sC _ _ (keepB _ _ n e)
     by_cases hF:isIn F (q.x,q.y)=true
     .rw[hF];refine iteY rfl ⟨_,rfl,_,gC,zak (by unfold hsV;rw[Ag];lia),_,_,rfl,λb o n e=>by rw[zag n];exact keepC _ _ n e,?_⟩;rw[zaa,if_pos rfl];unfold hsV;rw[AA];rfl
     .rw[Bool.eq_false_iff.mpr hF];exact iteN rfl ⟨_,_,rfl,keepC,by rw[if_neg (by simp),A0];exact gC⟩
    .refine iteN (decide_eq_false λz=>hqs (by injection z)) ?_
     rw[show (decide (q.so = "rim") && isIn F (q.x,q.y))=false by rw[decide_eq_false hqs,Bool.false_and]];exact iteN rfl ⟨_,_,rfl,keepB,by rw[if_neg (by simp),A0];exact gB⟩
   .rintro σ HA ⟨o0,o1,rfl,kA,gA⟩;have hbc:(r.x,r.y)∈cs:=of_decide_eq_true hbC.2.1;obtain⟨m,q,hm1,hm2,hm3⟩:=hcans.rimOf hbc;rw[hvw.1]at gA
    obtain⟨l,hl⟩:=zkq (p:=λq=>decide (q.so = "rim") && isIn F (q.x,q.y)) hm1 (by simp only[A9,decide_eq_true_eq];exact⟨hm2,decide_eq_true ((hr8 _).mpr hm3)⟩) λk' q' h1 h2=>by simp only[A9,decide_eq_true_eq]at h2;exact hcans.rim_one hbc h1 h2.1 ((hr8 _).mp (of_decide_eq_true h2.2)) hm1 hm2 hm3
    rw[hl]at gA;refine⟨g,_,0,_,rfl,rfl,SqL.of gA,zat (j:=0) (v:=.int (m:Int)) rfl,?_⟩;exact k HA (some m) (λb o h=>kA _ _ (zaj h (s08.free hg)) (s9 _ _ (s08 _ _ h))) (hcans.nearH hri hso hm1 hm2 hm3)
  .have hso:r.so = "rim" := by
    rcases hcan.sum with⟨z,_⟩ |⟨z,_⟩
    .exact z
    .exact absurd (decide_eq_true (by rw[z])) hn
   refine⟨_,rfl,a,us,cs,rfl,ea,hva,hord,hlen,hsm,hne,λp3 H3 Fr l lo r' hi' hp3 s3 e3 hB hF hFl=>?_⟩;refine⟨_,rfl,_,rfl,_,_,rfl,rfl,two,λp6 hp6=>?_⟩;have s6:=Same.up (o:=.tup [.int r.x,.int (r.y-1)]) hp6;have e6:upd H3 p6 (.tup [.int r.x,.int (r.y-1)]) p6=some (.tup [.int r.x,.int (r.y-1)]):=zaa;generalize upd H3 p6 (.tup [.int r.x,.int (r.y-1)])=H6 at s6 e6;refine⟨(by show 4<=sizeLine;decide),λq7 hq7=>?_⟩;have s7:=Same.up (o:=.lst [.int 0,.int 2,.int 4,.int 6]) hq7;have e7:upd H6 q7 (.lst [.int 0,.int 2,.int 4,.int 6]) q7=some (.lst [.int 0,.int 2,.int 4,.int 6]):=zaa;generalize upd H6 q7 (.lst [.int 0,.int 2,.int 4,.int 6])=H7 at s7 e7;refine⟨p3,p6,q7,(r.x,r.y-1),Fr,S4,rfl,Rd.of ((s6.trans s7) _ _ e3),s7 _ _ e6,e7,(by decide),by lia,λf H8 F hf s8 e8 hn8 hr8=>?_⟩;have s08:=s3.trans (s6.trans (s7.trans s8));refine⟨_,rfl,b,rfl,⟨_,SqL.of (s08 _ _ ew)⟩,λg hg=>?_⟩;have s9:=Same.up (o:=.lst []) hg;have e9:upd H8 g (.lst []) g=some (.lst []):=zaa;generalize upd H8 g (.lst [])=H9 at s9 e9
   refine zdp (K:=K) (a:=b) (xs:=ws) (λj σ HA=>∃o0 o1,σ=[o0,o1,some (.ref f)]/\(∀b o,b≠g->H9 b=some o->HA b=some o)/\HA g=some (.lst (hsV (kR (λq=>decide (q.so = "hole") && isIn F (q.x,q.y+1)) R j))))
    ⟨_,_,rfl,(λ_ _ _ h=>h),e9⟩ (λj σ HA _ ⟨_,_,_,kA,_⟩=>SqL.of (kA _ _ (zaj ew (s08.free hg)) (s9 _ _ (s08 _ _ ew)))) ?_ ?_
   .rintro j u σ HA tp hj ⟨o0,o1,rfl,kA,gA⟩ htp;obtain⟨q,hq,y,y',rfl,z1,z2⟩:=hvw.at hj;have hg0:=s08.free hg;have zA:=kA _ _ (zaj z1 hg0) (s9 _ _ (s08 _ _ z1));have sB:=Same.up (o:=.tup [.int (j:Int),.ref y]) htp;have eB:upd HA tp (.tup [.int (j:Int),.ref y]) tp=some (.tup [.int (j:Int),.ref y]):=zaa;generalize upd HA tp (.tup [.int (j:Int),.ref y])=HB at sB eB;refine⟨tp,_,rfl,SqT.of eB,rfl,_,_,rfl,_,_,rfl,rfl,?_⟩;have zB:=sB _ _ zA;rw[ziW hq];have gB:=sB _ _ gA;have kgl:=ziX (p:=λq=>decide (q.so = "hole") && isIn F (q.x,q.y+1)) (R:=R) j;have hjl:=(Ad.mp hq).1;have keepB:∀b o,b≠g->H9 b=some o->HB b=some o:=λb o n e=>sB _ _ (kA _ _ n e)
    refine⟨_,rfl,y,_,0,_,rfl,rfl,SqT.of zB,rfl,rfl,_,rfl,?_⟩
    by_cases hqs:q.so = "hole"
    .refine iteY (by rw[hqs];exact decide_eq_true rfl) ?_
     rw[show (decide (q.so = "hole") && isIn F (q.x,q.y+1))=isIn F (q.x,q.y+1) by rw[decide_eq_true hqs,Bool.true_and]];have nfg:f≠g:=λz=>by rw[z]at e8;rw[e8]at hg;cases hg
     have fB:=keepB _ _ nfg (s9 _ _ e8);refine⟨_,rfl,y,_,1,_,rfl,rfl,SqT.of zB,rfl,_,rfl,y,_,2,_,rfl,rfl,SqT.of zB,rfl,_,_,rfl,rfl,two,λp hp=>?_⟩;have sC:=Same.up (o:=.tup [.int q.x,.int (q.y+1)]) hp;have eC:upd HB p (.tup [.int q.x,.int (q.y+1)]) p=some (.tup [.int q.x,.int (q.y+1)]):=zaa;generalize upd HB p (.tup [.int q.x,.int (q.y+1)])=HC at sC eC;refine⟨_,rfl,f,_,rfl,.inr ⟨_,kC (q.x,q.y+1),p,Rd.of (sC _ _ fB),rfl,eC,rfl⟩,_,rfl,?_⟩;rw[zcx];have gC:=sC _ _ gB;have keepC:∀b o,b≠g->H9 b=some o->HC b=some o:=λb o n e=>sC _ _ (keepB _ _ n e)
     by_cases hF:isIn F (q.x,q.y+1)=true
     .rw[hF];refine iteY rfl ⟨_,rfl,_,gC,zak (by unfold hsV;rw[Ag];lia),_,_,rfl,λb o n e=>by rw[zag n];exact keepC _ _ n e,?_⟩;rw[zaa,if_pos rfl];unfold hsV;rw[AA];rfl
     .rw[Bool.eq_false_iff.mpr hF];exact iteN rfl ⟨_,_,rfl,keepC,by rw[if_neg (by simp),A0];exact gC⟩
    .refine iteN (decide_eq_false λz=>hqs (by injection z)) ?_
     rw[show (decide (q.so = "hole") && isIn F (q.x,q.y+1))=false by rw[decide_eq_false hqs,Bool.false_and]];exact iteN rfl ⟨_,_,rfl,keepB,by rw[if_neg (by simp),A0];exact gB⟩
   .rintro σ HA ⟨o0,o1,rfl,kA,gA⟩;rw[hvw.1]at gA;have kgl:=ziX (p:=λq=>decide (q.so = "hole") && isIn F (q.x,q.y+1)) (R:=R) R.length;have s0A:Same H HA:=λb o h=>kA _ _ (zaj h (s08.free hg)) (s9 _ _ (s08 _ _ h))
    refine⟨_,rfl,(by show 1<=sizeLine;decide),λn1 hn1=>?_⟩;have sB:=Same.up (o:=.lst [V.non]) hn1;have eB:upd HA n1 (.lst [V.non]) n1=some (.lst [V.non]):=zaa;generalize upd HA n1 (.lst [V.non])=HB at sB eB;refine⟨g,n1,_,_,rfl,rfl,sB _ _ gA,eB,(by unfold hsV;rw[Ag];exact Bj (zak (by show _+1<=1000;lia))),λp4 hp4=>?_⟩;have sC:=Same.up (o:=.lst (hsV (kR (λq=>decide (q.so = "hole") && isIn F (q.x,q.y+1)) R R.length)++[V.non])) hp4;have eC:upd HB p4 (.lst (hsV (kR (λq=>decide (q.so = "hole") && isIn F (q.x,q.y+1)) R R.length)++[V.non])) p4=some (.lst (hsV (kR (λq=>decide (q.so = "hole") && isIn F (q.x,q.y+1)) R R.length)++[V.non])):=zaa;generalize upd HB p4 (.lst (hsV (kR (λq=>decide (q.so = "hole") && isIn F (q.x,q.y+1)) R R.length)++[V.non]))=HC at sC eC;have s0C:=s0A.trans (sB.trans sC);rcases hcans.under hri hso hB hF with⟨hn0,hno⟩ |⟨m,q,hm1,hm2,hm3,hnear,huni⟩
    .have e0:kR (λq => decide (q.so = "hole") && isIn F (q.x, q.y + 1)) R R.length = [] := DU.mpr λk' hk => by obtain⟨_,q,h1,h2⟩:=ziF.mp hk;simp only[A9,decide_eq_true_eq]at h2;exact hno k' q h1 h2.1 ((hr8 _).mp (of_decide_eq_true h2.2))
     rw[e0]at eC;refine⟨p4,_,0,_,rfl,rfl,SqL.of eC,zat (j:=0) (v:=.non) rfl,?_⟩;exact k HC none s0C hn0
    .obtain⟨l', hl⟩ := zkq (p := λq => decide (q.so = "hole") && isIn F (q.x, q.y + 1)) hm1 (by simp only[A9, decide_eq_true_eq]; exact⟨hm2, decide_eq_true ((hr8 _).mpr hm3)⟩) λk' q' h1 h2 => by simp only[A9,decide_eq_true_eq]at h2;exact huni k' q' h1 h2.1 ((hr8 _).mp (of_decide_eq_true h2.2))
     rw[hl]at eC;refine⟨p4,_,0,_,rfl,rfl,SqL.of eC,zat (j:=0) (v:=.int (m:Int)) rfl,?_⟩;exact k HC (some m) s0C hnear
noncomputable def dO:Option Nat->PyData
 |none=>.none
 |some m=>.int (m:Int)
noncomputable def lO(l:List (Option Nat)):PyData:=.list (l.map dO)
theorem zjc(o:Option Nat):Dq (dO o) (dO o)=true/\B6 (dO o)=true/\BM (dO o)=0:=by
 cases o with
 |none=>exact⟨rfl,rfl,rfl⟩
 |some m=>exact⟨by show decide ((m:Int)=m)=true;exact decide_eq_true rfl,rfl,rfl⟩
theorem zfL:∀l:List (Option Nat),DE (l.map dO) (l.map dO)=true
 |[]=>rfl
 |x::l=>by
  show (Dq (dO x) (dO x) && DE (l.map dO) (l.map dO))=true;rw[(zjc x).1,zfL l];rfl
theorem zlY(l:List (Option Nat)):Dq (lO l) (lO l)=true:=zfL l
theorem zdc:∀l:List (Option Nat),B5 (l.map dO)=true
 |[]=>rfl
 |x::l=>by
  show (B6 (dO x) && B5 (l.map dO))=true;rw[(zjc x).2.1,zdc l];rfl
theorem zdR:∀l:List (Option Nat),Cq (l.map dO)<=1
 |[]=>AZ _
 |x::l=>by
  show max (BM (dO x)) (Cq (l.map dO))<=1;rw[(zjc x).2.2];have:=zdR l;lia
theorem zfs(l:List (Option Nat)):BL (lO l)=true:=by unfold BL lO;rw[B6,zdc l,BM];have:=zdR l;simp only[Bool.true_and,decide_eq_true_eq];lia
theorem zii{K:W.Frag}{H:Hp}:∀l:List (Option Nat),RDs K H (l.map oV) (l.map dO)
 |[]=>.nil
 |none::l=>.cons .non (zii l)
 |some m::l=>.cons (.int _) (zii l)
theorem rd_lO{K:W.Frag}{H:Hp}{a:Addr}{l:List (Option Nat)}(e:SqL K H a (l.map oV)):RD K H (.ref a) (lO l):=.lst e (zii l)
theorem LamAt.other{pos pos':Pos}{qual qual':Str}{L M:Addr}{H H':Hp}(h:LamAt pos qual M H)(h0:LamAt pos' qual' L H)(hne:L≠M)(b:But1 L H H'):LamAt pos qual M H':=by
 obtain⟨qs,q1,q2⟩:=h;refine⟨qs,b _ _ (BX hne) q1,?_⟩;rcases q2 with q2 |⟨c',oc,vs',t',q2,q3,q4⟩
 .exact .inl q2
 .exact .inr ⟨c',oc,vs',t',q2,b _ _ (h0.ne q3 nofun) q3,q4⟩
theorem zj1(xs:List V)(v:V):cutV (xs++[v]) none (some (-1))=xs:=by
 unfold cutV
 have e:∀n:Nat,HT.sIx n n (some (-1))=n-1:=λn=>by unfold HT.sIx;simp;lia
 rw[e,HT.sIx_none,List.drop_zero,Nat.sub_zero,Ak,Bf,Nat.add_sub_cancel,List.take_left]
noncomputable def spLaw(K:W.Frag)(L0 L1:Addr):Sp:=λvs H Q _=>∃(a:Addr) (ns:List Int),vs=[.ref a]/\SqL K H a (ns.map V.int)/\ns.length<=63/\LamT L0 H/\LamA L1 H/\∀H',Q (.bl true) H'
theorem zlJ {L0 L1:Addr}(hL:L0 ≠ L1) (T:Txt P w K mg) (g__law_cell_at:Fn P w K mg base 1 "_law_cell_at" ["_law_script", "_law_k"] (zdl K)) (g__law_picture:Fn P w K mg base 2 "_law_picture" ["_law_script", "_law_start"] (zkf K)) (g__law_rings:Fn P w K mg base 2 "_law_rings" ["_law_script"] (zhZ K))
  (g__law_traced:Fn P w K mg base 5 "_law_traced" ["_law_cells"] (zgJ K L0)) (g_around:Fn P w K mg base 7 "around" ["some"] (zgL K L1)) (g__law_due:Fn P w K mg base 3 "_law_due" ["_law_cells","_law_some","_law_one"] (spDue K)) (g__law_whole:Fn P w K mg base 1 "_law_whole" ["_law_found"] zhW)
  (d:Df K mg "law" s_law ["_law_script"]):FnOk P w K mg base CX0 10 d.f d.fd ["_law_script"] (spLaw K L0 L1):=by
 refine d.F.ok zdx (λvs H Q E h=>?_) (λcdv A outer s H vs Q E hr h=>?_)
 .obtain⟨a,ns,rfl,_⟩:=h;rfl
 .obtain⟨a,ns,rfl,hS,hnl,hlT,hlA,k⟩:=h;have hu1:=hu_of hr;have hu64:=hr.units
  refine⟨_,(zac (sE 1 zdx.nd (pC g__law_picture hr (pa_N (pv 0) (pa_C zae zab))))
   (zac (ps_if (zaq op_eq (pe_op zaF (pC g__law_cell_at hr (pa_N (pv 0) (pa_C zae zab))) zae) zae (zas _))
   (zah (sE 1 zdx.nd (pC g__law_rings hr (pa_N (pv 0) zab))))
   zaK)
   (zac (sE 2 zdx.nd (pC g__law_traced hr (pa_N (pv 1) zab)))
   (zac (sE 3 zdx.nd (zcM zfT (by rfl) T.nlist (by rfl) (pa_N (pv 2) zab)))
   (zac (sE 4 zdx.nd (pC g_around hr (pa_N (pv 3) zab)))
   (zac (ps_if (pw_or (zgN (zdF (zaw ze6 (by rfl) T.nisinstance (by rfl) (pa_N (pv 4) (pa_N (zgg (v:=.ty "list") (by rfl) T.nlist (by rfl) rfl) zab))))) (pw_or (zaq op_ne (zaw zav (by rfl) T.nlen (by rfl) (pa_N (pv 4) zab)) (zaw zav (by rfl) T.nlen (by rfl) (pa_N (pv 2) zab)) (zas _)) (zik (zaq (zgR hu64) (pv 3) (pv 2) (zas _))))).pt
   (zah (zal pe_bl))
   zaK)
   (zac (zbo A5 rfl (zbp (by rfl) T.nrange (zai (zaw zav (by rfl) T.nlen (by rfl) (pa_N (pv 2) zab)) zab)) (nG 5 zdx.nd)
   (zac (ps_if (zaq op_ne (pe_ix zaR (pv 4) (pv 5) (λ_ _=>rfl)) (pC g__law_due hr (pa_N (pv 1) (pa_N (pv 2) (zai (pe_ix zaR (pv 2) (pv 5) (λ_ _=>rfl)) zab)))) (zas _))
   (zah (zal pe_bl))
   zaK)
   (zah (ps_if (zdE (zaq zcX (pe_ix zaR (pv 4) (pv 5) (λ_ _=>rfl)) zbq (zas _)) (zcD (zgN (zdF (pC g__law_whole hr (zai (pe_ix zaR (pv 4) (pv 5) (λ_ _=>rfl)) zab)))))).pt
   (zah (zal pe_bl))
   zaK))))
   (zac (za1 (pe_bm AD AL AM zaE (pv 4) (pa_C zbq zab)))
   (zah (zal (zbU (zkn hu64) (pC g_around hr (pa_N (pv 3) zab)) (zcL zga (pv 4) zeJ (zcW (pe_un zc6 zae))) (zas _)))))))))))),?_⟩
  have hσ:L2.start N_law [V.ref a]=[some (.ref a),none,none,none,none,none]:=rfl;rw[hσ];refine⟨_,rfl,a,ns,1,rfl,hS,λpc0 H1 cvs0 cs0 hpc0 s1 e1 hv1 hpw0 hcl0 hsm0=>?_⟩;simp only[za4,Ba,Bb];refine zkK (I:=λσ' H'=>∃(pc:Addr) (cvs:List V) (cs:List Cell),σ'=[some (.ref a),some (.ref pc),none,none,none,none]/\Same H H'/\H pc=none/\H' pc=some (.lst cvs)/\VR cvs cs cR H'/\cs.Pairwise Bfr/\cs.length<=120/\Small cs) (λnxt=>?_) (λσ' H2 hI=>?_)
  .refine⟨_,rfl,a,ns,0,rfl,s1.seq hS,λc0=>?_⟩;refine⟨_,_,rfl,rfl,(by show (0:Int)<3;decide),rfl,_,rfl,?_⟩;refine ite2 (λ_=>?_) (λ_=>nxt _ _ ⟨pc0,cvs0,cs0,rfl,s1,hpc0,e1,hv1,hpw0,hcl0,hsm0⟩);exact⟨_,rfl,a,ns,rfl,s1.seq hS,λp H2 vs2 cs2 hp s2 e2 hv2 hpw2 hcl2 hsm2=>nxt _ _ ⟨p,vs2,cs2,rfl,s1.trans s2,s1.free hp,e2,hv2,hpw2,hcl2,hsm2⟩⟩
  .obtain⟨pc,cvs,cs,rfl,s2,hpc,e2,hv2,hpw,hcl,hsm⟩:=hI;clear hpw0 hcl0 hsm0
   have hslim:Slim cs:=Boxed.slim (m:=120) (by
    obtain⟨l,lo,hs⟩:=hsm;exact⟨l,lo,12,10,by decide,λc hc=>hs c hc⟩) (by decide)
   refine⟨_,rfl,pc,cvs,cs,rfl,e2,hv2,zlI hpw,hcl,hslim,hlT.same s2,λpr H3 rv R R0 hpr b3 lT3 e3 hvr hpm hpo hwh=>?_⟩;have lT2:LamT L0 H2:=hlT.same s2;have lA3:LamA L1 H3:=LamAt.other (hlA.same s2) lT2 hL b3;have c3:=b3 _ _ (lT2.ne e2 nofun) e2;have hv3:=hv2.mono λx v h=>h.kt (b3.kt lT2)
   obtain⟨ESS,hcans⟩:=hwh.cans hpm
   have hRl:R.length<=480:=by obtain⟨E0,w1,w2⟩:=hwh;rw[hpm.length_eq];exact AO (hslim _ _ w1) (by decide)
   have hnr:∀i<R.length,∃o,Near ESS R i o:=by
    by_cases hne:cs=[]
    .intro i hi;obtain⟨es,he,hcan⟩:=hcans.so (Aa hi);have:=of_decide_eq_true (hcan.cl.1.2.2.1 _ (Aj hcan.cl.1.1)).2.1;rw[hne]at this;cases this
    .obtain⟨l,lo,m,hB,_⟩:=hsm.box hne;refine hcans.near hB (D:=λc=>decide (l-1<=c.1/\c.1<=l+12/\m-1<=c.2/\c.2<=lo+10) && !isIn cs c) ⟨λc=>?_⟩;unfold inBox isIn;simp
   refine⟨_,rfl,pr,rv,rfl,.inl (SqL.of e3),λph hph=>?_⟩;have s4:=Same.up (o:=.lst rv) hph;have e4:upd H3 ph (.lst rv) ph=some (.lst rv):=zaa;generalize upd H3 ph (.lst rv)=H4 at s4 e4;have hvr4:=hvr.mono λx v h=>rR.kt h (KT.of s4)
   have lA4:LamA L1 H4:=lA3.same s4;simp only[za4,Ba,Bb];refine⟨_,rfl,ph,rv,cs,ESS,R,rfl,e4,hvr4,hcans,hcl,hRl,hnr,lA4,λpf H5 os hpf b5 lA5 e5 hol hos=>?_⟩;have n4:∀{b o},H4 b=some o->(∀ps,o≠.tbl ps)->b≠L1:=λh n=>lA4.ne h n
   have e3':=b5 _ _ (n4 (s4 _ _ e3) nofun) (s4 _ _ e3);have e4':=b5 _ _ (n4 e4 nofun) e4;have c5:=b5 _ _ (n4 (s4 _ _ c3) nofun) (s4 _ _ c3);have kt45:=b5.kt lA4;have hvr5:=hvr4.mono λx v h=>rR.kt h kt45
   have hv5:=hv3.mono λx v h=>(h.kt (KT.of s4)).kt kt45
   refine⟨_,rfl,.ref pf,"list",_,true,rfl,.lst e5,zg1 _ _,_,rfl,iteF ?_⟩;have hso:∀r∈R,SoOk r:=λr h=>hwh.so r (hpm.mem_iff.mp h)
   have hol':(os.map oV).length=rv.length:=by rw[Ag,hol,hvr.1]
   refine⟨_,rfl,pf,_,rfl,.inl (SqL.of e5),_,rfl,pr,_,rfl,.inl (SqL.of e3'),rfl,_,rfl,?_⟩;refine iteN (by rw[hol'];simp) ?_
   refine⟨_,rfl,_,rfl,lR R,lR R,zfv (SqL.of e4') hvr5,zfv (SqL.of e3') hvr5,zfr hso,zfr hso,_,rfl,iteN (by rw[zlX,decide_eq_true rfl];rfl) ?_⟩;simp only[Ba,Bb];refine⟨_,rfl,pr,_,rfl,.inl (SqL.of e3'),_,rfl,(by show -(2 ^ 62)<=((rv.length:Nat):Int);lia),(by show ((rv.length:Nat):Int)<2 ^ 62;have:=hvr.1;lia),?_⟩;refine za7 (lo:=0) (n:=((rv.length:Nat):Int).toNat) (λj σ H6=>∃o5,σ=[some (.ref a),some (.ref pc),some (.ref pr),some (.ref ph),some (.ref pf),o5]/\Same H5 H6) ⟨_,rfl,Same.refl _⟩ ?_ ?_
   .rintro j σ H6 hj ⟨o5,rfl,s6⟩;have hjr:j<rv.length:=by lia
    obtain⟨v,hv⟩:∃v,rv[j]?=some v:=⟨_,Aa hjr⟩;obtain⟨r,hr',hrv⟩:=hvr5.at hv;obtain⟨o,ho⟩:∃o,os[j]?=some o:=⟨_,Aa (by rw[hol,<- hvr.1];exact hjr)⟩;have hfj:(os.map oV)[j]?=some (oV o):=by rw[Az,ho];rfl
    have hno:=hos j o ho;simp only[za4,Ba,Bb,CH];refine⟨_,rfl,_,rfl,pf,_,(j:Int),_,rfl,rfl,SqL.of (s6 _ _ e5),zat hfj,?_⟩;refine⟨_,rfl,_,rfl,_,rfl,_,rfl,pr,_,(j:Int),_,rfl,rfl,SqL.of (s6 _ _ e3'),zat hv,?_⟩;refine⟨pc,pr,v,cvs,rv,cs,ESS,R,j,r,rfl,s6 _ _ c5,hv5.mono (λx v h=>h.kt (KT.of s6)),hpw,hcl,hsm,s6 _ _ e3',hvr5.mono (λx v h=>rR.kt h (KT.of s6)),hcans,hRl,hr',rR.kt hrv (KT.of s6),λH7 o' s7 hn'=>?_⟩;have eo:=Near.uniq hnr hn' hno;subst eo;refine⟨(by cases o' <;> rfl),_,rfl,iteN (by simp) ?_⟩;have e7:=s7 _ _ (s6 _ _ e5);refine⟨_,rfl,_,rfl,pf,_,(j:Int),_,rfl,rfl,SqL.of e7,zat hfj,rfl,_,rfl,?_⟩
    cases o' with
    |none=>exact iteN rfl (iteN rfl ⟨_,rfl,s6.trans s7⟩)
    |some m =>
     refine iteY rfl ⟨_,rfl,_,rfl,pf,_,(j:Int),_,rfl,rfl,SqL.of e7,zat hfj,(m:Int),rfl,_,rfl,?_⟩;exact iteF ⟨_,rfl,s6.trans s7⟩
   .rintro σ H6 ⟨o5,rfl,s6⟩;have e6:=s6 _ _ e5;refine⟨_,rfl,.inl ⟨rfl,_,SqL.of e6⟩,pf,_,.non,rfl,rfl,e6,zak (by rw[Ag];lia),?_⟩;have lA6:=lA5.same s6;have hph:ph≠pf:=λz=>by rw[z]at e4;rw[e4]at hpf;cases hpf
    have keep:∀b o,b≠pf->H6 b=some o->upd H6 pf (.lst (os.map oV++[.non])) b=some o:=λb o n h=>by rw[zag n];exact h
    have lA7:LamA L1 (upd H6 pf (.lst (os.map oV++[.non]))):=by obtain⟨ps,h1,h2⟩:=lA6;refine⟨ps,keep _ _ (λz=>by rw[<- z,h1]at e6;cases e6) h1,h2.imp id λ⟨c',oc,vs,t,z1,z2,z3⟩=>⟨c',oc,vs,t,z1,?_,z3⟩⟩;exact keep _ _ (λz=>by rw[z,e6]at z2;cases z2) z2
    have e7:upd H6 pf (.lst (os.map oV++[.non])) pf=some (.lst (os.map oV++[.non])):=zaa;have hvr7:=hvr5.mono λx v h=>(rR.kt h (KT.of s6)).kt (KT.lst (o:=.lst (os.map oV++[.non])) e6)
    have e7':=keep _ _ hph (s6 _ _ e4');generalize upd H6 pf (.lst (os.map oV++[.non]))=H7 at lA7 e7 e7' hvr7;refine⟨_,rfl,ph,rv,cs,ESS,R,rfl,e7',hvr7,hcans,hcl,hRl,hnr,lA7,λp8 H8 os' hp8 b8 lA8 e8 hol8 hos8=>?_⟩
    have eos:os'=os:=List.ext_getElem? λi=>by
     by_cases hi:i<R.length
     .have h1:os'[i]?=some (os'[i]'(by lia)):=Aa (by lia)
      have h2:os[i]?=some (os[i]'(by lia)):=Aa (by lia)
      rw[h1,h2,Near.uniq hnr (hos8 i _ h1) (hos i _ h2)]
     .rw[Bw (by lia),Bw (by lia)]
    subst eos;have f8:=b8 _ _ (lA7.ne e7 nofun) e7;refine⟨_,rfl,1,rfl,-1,rfl,pf,_,rfl,SqL.of f8,λp9 hp9=>?_⟩;have s9:=Same.up (o:=.lst (cutV (os'.map oV++[V.non]) none (some (-1)))) hp9;have e9:upd H8 p9 (.lst (cutV (os'.map oV++[V.non]) none (some (-1)))) p9=some (.lst (cutV (os'.map oV++[V.non]) none (some (-1)))):=zaa;generalize upd H8 p9 (.lst (cutV (os'.map oV++[V.non]) none (some (-1))))=H9 at s9 e9;rw[zj1]at e9;refine⟨lO os',lO os',rd_lO (SqL.of (s9 _ _ e8)),rd_lO (SqL.of e9),zfs _,zfs _,?_⟩;rw[zlY];exact k H9
end
theorem all_mk {L0 L1:Addr}{l:W.OpenLaw}{w:A4}{K:W.Frag}{h:Heap}{mg:Str -> Option Ac}{fa:Addr}(X:K.In h) (G:h.Ns AF mg) (hfa:mg "law" = some (.ref fa)){fx24 fx34 fx41:Addr}{od24 an24 od34 an34 od41 an41:Option Addr}{sl24 sl34 sl41:Array (Option Ac)}{oc24 kV24 dc24 pm24 ct24 oc34 kV34 dc34 pm34 ct34 oc41 kV41 dc41 pm41 ct41 cd41:Ac}{cc0:Addr}{hd0:Option Addr}{hv0:Array Ac}{hs0:Array (Option Ac)}{cc1:Addr}{hd1:Option Addr}{hv1:Array Ac}{hs1:Array (Option Ac)}
  (h0:DA K "cell_order" zcb)
  (h1:DA K "gone" zib)
  (h2:DA K "gap_beside" zb9)
  (h3:DA K "straight_step" zbz)
  (h4:DA K "slant_step" zb8)
  (h5:DA K "is_slant" zcR)
  (h6:DA K "edge_behind" zbP)
  (h7:DA K "lefts_and_slants" zaH)
  (h8:DA K "lefts_less_slants" zbb)
  (h9:DA K "begin_of" zcp)
  (h10:DA K "begin_edge" zcc)
  (h11:DA K "way_for" zdA)
  (h12:DA K "deeds_along" zbQ)
  (h13:DA K "walk_by" zdC)
  (h14:DA K "walk_along" zb7)
  (h15:DA K "seen_between" zbG)
  (h16:DA K "gainsaid_at" zbO)
  (h17:DA K "comes_back" zca)
  (h18:DA K "is_closed" zcA)
  (h19:DA K "walk_of" zdB)
  (h20:DA K "edges_of" zco)
  (h21:DA K "uprights" zcQ)
  (h22:DA K "lies_within" zbw)
  (h23:DA K "holders_of" zbD)
  (a24:CY K AF "around" = some (some (.ref fx24))) (l24:K.lookup fx24=some ⟨oc24,od24,.func (Dm "around" "around" (za6 zbk) (zaX zbk) (zaf zbk) .none kV24 dc24 pm24 an24 (.ref cc1) ct24),sl24⟩) (c24:W.codeIn K (.ref cc1) "around" = true) (k24:DD K (.ref fx24)=true)
  (lc1:K.lookup cc1=some ⟨.type "code",hd1,.fields hv1,hs1⟩) (lh1:hdOk hv1 cc1 L1=true)
  (h25:DA K "_law_cell_at" zbH)
  (h26:DA K "_law_row" zcS)
  (h27:DA K "_law_picture" zbl)
  (h28:DA K "_law_gone" zcB)
  (h29:DA K "_law_lot" zcT)
  (h30:DA K "_law_behind" zbS)
  (h31:DA K "_law_edges" zbE)
  (h32:DA K "_law_walked" zbR)
  (h33:DA K "_law_told" zbj)
  (a34:CY K AF "_law_traced" = some (some (.ref fx34))) (l34:K.lookup fx34=some ⟨oc34,od34,.func (Dm "_law_traced" "_law_traced" (za6 zaN) (zaX zaN) (zaf zaN) .none kV34 dc34 pm34 an34 (.ref cc0) ct34),sl34⟩) (c34:W.codeIn K (.ref cc0) "_law_traced" = true) (k34:DD K (.ref fx34)=true)
  (lc0:K.lookup cc0=some ⟨.type "code",hd0,.fields hv0,hs0⟩) (lh0:hdOk hv0 cc0 L0=true)
  (h35:DA K "_law_flood" zcf)
  (h36:DA K "_law_box" zbL)
  (h37:DA K "_law_whole" zcd)
  (h38:DA K "_law_rings" zce)
  (h39:DA K "_law_gaps" zcC)
  (h40:DA K "_law_due" zbK)
  (a41:CY K AF "law" = some (some (.ref fx41))) (l41:K.lookup fx41=some ⟨oc41,od41,.func (Dm "law" "law" (za6 s_law) (zaX s_law) (zaf s_law) .none kV41 dc41 pm41 an41 cd41 ct41),sl41⟩) (c41:W.codeIn K cd41 "law" = true) (k41:DD K (.ref fx41)=true)
  {M m0 m1 m2 m3 m4 m5 m6 m7:Addr}{odM:Option Addr}{nM:Nat}{slM:Array (Option Ac)}
  (aM:CY K AF "MOVES" = some (some (.ref M))) (lM:K.lookup M=some ⟨.type "tuple",odM,.seq #[.ref m0,.ref m1,.ref m2,.ref m3,.ref m4,.ref m5,.ref m6,.ref m7] nM,slM⟩)
  {odm0:Option Addr}{nm0:Nat}{slm0:Array (Option Ac)}{tm0 um0:Tok} (x0:K.lookup m0=some ⟨.type "tuple",odm0,.seq #[.int (1) tm0,.int (0) um0] nm0,slm0⟩)
  {odm1:Option Addr}{nm1:Nat}{slm1:Array (Option Ac)}{tm1 um1:Tok} (x1:K.lookup m1=some ⟨.type "tuple",odm1,.seq #[.int (1) tm1,.int (1) um1] nm1,slm1⟩)
  {odm2:Option Addr}{nm2:Nat}{slm2:Array (Option Ac)}{tm2 um2:Tok} (x2:K.lookup m2=some ⟨.type "tuple",odm2,.seq #[.int (0) tm2,.int (1) um2] nm2,slm2⟩)
  {odm3:Option Addr}{nm3:Nat}{slm3:Array (Option Ac)}{tm3 um3:Tok} (x3:K.lookup m3=some ⟨.type "tuple",odm3,.seq #[.int (-1) tm3,.int (1) um3] nm3,slm3⟩)
  {odm4:Option Addr}{nm4:Nat}{slm4:Array (Option Ac)}{tm4 um4:Tok} (x4:K.lookup m4=some ⟨.type "tuple",odm4,.seq #[.int (-1) tm4,.int (0) um4] nm4,slm4⟩)
  {odm5:Option Addr}{nm5:Nat}{slm5:Array (Option Ac)}{tm5 um5:Tok} (x5:K.lookup m5=some ⟨.type "tuple",odm5,.seq #[.int (-1) tm5,.int (-1) um5] nm5,slm5⟩)
  {odm6:Option Addr}{nm6:Nat}{slm6:Array (Option Ac)}{tm6 um6:Tok} (x6:K.lookup m6=some ⟨.type "tuple",odm6,.seq #[.int (0) tm6,.int (-1) um6] nm6,slm6⟩)
  {odm7:Option Addr}{nm7:Nat}{slm7:Array (Option Ac)}{tm7 um7:Tok} (x7:K.lookup m7=some ⟨.type "tuple",odm7,.seq #[.int (1) tm7,.int (-1) um7] nm7,slm7⟩)
  {B:Addr}{t1 t2 t3 t4:Tok}{nB:Nat} (aB:CY K AF "BEGIN_WAYS" = some (some (.ref B))) (lB:K.lookup B=some ⟨.type "dict",none,.dict #[⟨BJ w.params "rim",.str "rim" t1,.int 0 t2⟩,⟨BJ w.params "hole",.str "hole" t3,.int 2 t4⟩] nB,#[]⟩)
  {B2:Addr}{u1 u2 u3 u4:Tok}{nB2:Nat} (aB2:CY K AF "MORE_LEFTS" = some (some (.ref B2))) (lB2:K.lookup B2=some ⟨.type "dict",none,.dict #[⟨BJ w.params "rim",.str "rim" u1,.int 4 u2⟩,⟨BJ w.params "hole",.str "hole" u3,.int (-4) u4⟩] nB2,#[]⟩)
  (z_range:CY K AF "range" = some none)
  (z_len:CY K AF "len" = some none)
  (z_min:CY K AF "min" = some none)
  (z_sorted:CY K AF "sorted" = some none)
  (z_tuple:CY K AF "tuple" = some none)
  (z_int:CY K AF "int" = some none)
  (z_bool:CY K AF "bool" = some none)
  (z_str:CY K AF "str" = some none)
  (z_isinstance:CY K AF "isinstance" = some none)
  (z_list:CY K AF "list" = some none)
  (z_enumerate:CY K AF "enumerate" = some none)
  (z_max:CY K AF "max" = some none)
  (hL01:L0≠L1) :
  ∃fd:BC,(∀(s:Ae) (v:Ac),BindsTo s fd ⟨[v],[]⟩ [("_law_script",v)])/\(∀P∈[L0,L1],∃c,Ci K c P=true)/\∀base:Heap,K.In base->base.Ns AF mg->Bm mg base->FnOk l.prog w K mg base CX0 10 fa fd ["_law_script"] (spLaw K L0 L1):=by
 have e:=hfa.symm.trans (W.mg_of X G a41)
 cases e
 have moves:∃M,mg "MOVES" = some (.ref M)/\∀H,∃ms:List Addr,SqT K H M (ms.map V.ref)/\ms.length=8/\∀(i:Nat) a,ms[i]?=some a->SqT K H a [.int (mv i).1,.int (mv i).2]:=by
  refine⟨M,W.mg_of X G aM,λH=>⟨[m0,m1,m2,m3,m4,m5,m6,m7],.inr ⟨_,_,_,lM,rfl,rfl,(by show 8<=sizeLine;decide),.cons rfl (.cons rfl (.cons rfl (.cons rfl (.cons rfl (.cons rfl (.cons rfl (.cons rfl .nil)))))))⟩,rfl,λi a e=>?_⟩⟩
  match i,e with
  | 0,e=>cases e;exact .inr ⟨_,_,_,x0,rfl,rfl,(by show 2<=sizeLine;decide),.cons ⟨_,rfl⟩ (.cons ⟨_,rfl⟩ .nil)⟩
  | 1,e=>cases e;exact .inr ⟨_,_,_,x1,rfl,rfl,(by show 2<=sizeLine;decide),.cons ⟨_,rfl⟩ (.cons ⟨_,rfl⟩ .nil)⟩
  | 2,e=>cases e;exact .inr ⟨_,_,_,x2,rfl,rfl,(by show 2<=sizeLine;decide),.cons ⟨_,rfl⟩ (.cons ⟨_,rfl⟩ .nil)⟩
  | 3,e=>cases e;exact .inr ⟨_,_,_,x3,rfl,rfl,(by show 2<=sizeLine;decide),.cons ⟨_,rfl⟩ (.cons ⟨_,rfl⟩ .nil)⟩
  | 4,e=>cases e;exact .inr ⟨_,_,_,x4,rfl,rfl,(by show 2<=sizeLine;decide),.cons ⟨_,rfl⟩ (.cons ⟨_,rfl⟩ .nil)⟩
  | 5,e=>cases e;exact .inr ⟨_,_,_,x5,rfl,rfl,(by show 2<=sizeLine;decide),.cons ⟨_,rfl⟩ (.cons ⟨_,rfl⟩ .nil)⟩
  | 6,e=>cases e;exact .inr ⟨_,_,_,x6,rfl,rfl,(by show 2<=sizeLine;decide),.cons ⟨_,rfl⟩ (.cons ⟨_,rfl⟩ .nil)⟩
  | 7,e=>cases e;exact .inr ⟨_,_,_,x7,rfl,rfl,(by show 2<=sizeLine;decide),.cons ⟨_,rfl⟩ (.cons ⟨_,rfl⟩ .nil)⟩
  |i+8,e=>exact absurd (Ad.mp e).1 (by simp)
 have ways:Ways l.prog w K mg:=⟨⟨B,t1,t2,t3,t4,nB,W.mg_of X G aB,lB⟩⟩;have T:Txt l.prog w K mg:={ moves:=moves,ways:=ways,more:=⟨⟨B2,u1,u2,u3,u4,nB2,W.mg_of X G aB2,lB2⟩⟩,nrange:=B8 X G z_range,nlen:=B8 X G z_len,nmin:=B8 X G z_min,nsorted:=B8 X G z_sorted,ntuple:=B8 X G z_tuple,nint:=B8 X G z_int,nbool:=B8 X G z_bool,nstr:=B8 X G z_str,nisinstance:=B8 X G z_isinstance,nlist:=B8 X G z_list,nenumerate:=B8 X G z_enumerate,nmax:=B8 X G z_max };obtain⟨d'0⟩:=h0.d1 X G (p0:="cell");obtain⟨d'1⟩:=h1.d3 X G (p0:="x") (p1:="y") (p2:="step");obtain⟨d'2⟩:=h2.d1 X G (p0:="edge");obtain⟨d'3⟩:=h3.d1 X G (p0:="way");obtain⟨d'4⟩:=h4.d1 X G (p0:="way");obtain⟨d'5⟩:=h5.d1 X G (p0:="step");obtain⟨d'6⟩:=h6.d2 X G (p0:="edge") (p1:="step");obtain⟨d'7⟩:=h7.d1 X G (p0:="walk");obtain⟨d'8⟩:=h8.d1 X G (p0:="walk");obtain⟨d'9⟩:=h9.d2 X G (p0:="walk") (p1:="sort");obtain⟨d'a⟩:=h10.d1 X G (p0:="one");obtain⟨d'b⟩:=h11.d1 X G (p0:="step");obtain⟨d'c⟩:=h12.d2 X G (p0:="begin_way") (p1:="row");obtain⟨d'd⟩:=h13.d2 X G (p0:="begin") (p1:="deeds");obtain⟨d'e⟩:=h14.d2 X G (p0:="begin") (p1:="row");obtain⟨d'f⟩:=h15.d2 X G (p0:="edge") (p1:="step");obtain⟨d'10⟩:=h16.d1 X G (p0:="walk");obtain⟨d'11⟩:=h17.d1 X G (p0:="walk");obtain⟨d'12⟩:=h18.d2 X G (p0:="walk") (p1:="sort");obtain⟨d'13⟩:=h19.d1 X G (p0:="one");obtain⟨d'14⟩:=h20.d1 X G (p0:="one");obtain⟨d'15⟩:=h21.d1 X G (p0:="edges");obtain⟨d'16⟩:=h22.d3 X G (p0:="places") (p1:="x") (p2:="y");obtain⟨d'17⟩:=h23.d3 X G (p0:="some") (p1:="lines") (p2:="at");have F24:=zcP (st:=zbk) l24 c24 k24;have b24:=F24.b1 (p0:="some");obtain⟨d'18,hc_1⟩:∃d:Df K mg "around" zbk ["some"],d.fd.code=.ref cc1:=⟨⟨fx24,_,F24,W.mg_of X G a24,b24⟩,rfl⟩;obtain⟨d'19⟩:=h25.d2 X G (p0:="_law_script") (p1:="_law_k");obtain⟨d'1a⟩:=h26.d3 X G (p0:="_law_cell") (p1:="_law_many") (p2:="_law_base");obtain⟨d'1b⟩:=h27.d2 X G (p0:="_law_script") (p1:="_law_start");obtain⟨d'1c⟩:=h28.d3 X G (p0:="_law_x") (p1:="_law_y") (p2:="_law_step");obtain⟨d'1d⟩:=h29.d1 X G (p0:="_law_cells");obtain⟨d'1e⟩:=h30.d2 X G (p0:="_law_there") (p1:="_law_edge");obtain⟨d'1f⟩:=h31.d1 X G (p0:="_law_there");obtain⟨d'20⟩:=h32.d2 X G (p0:="_law_there") (p1:="_law_first");obtain⟨d'21⟩:=h33.d2 X G (p0:="_law_edges_here") (p1:="_law_steps");have F34:=zcP (st:=zaN) l34 c34 k34;have b34:=F34.b1 (p0:="_law_cells");obtain⟨d'22,hc_0⟩:∃d:Df K mg "_law_traced" zaN ["_law_cells"],d.fd.code=.ref cc0:=⟨⟨fx34,_,F34,W.mg_of X G a34,b34⟩,rfl⟩;obtain⟨d'23⟩:=h35.d3 X G (p0:="_law_there") (p1:="_law_first") (p2:="_law_steps");obtain⟨d'24⟩:=h36.d1 X G (p0:="_law_cells");obtain⟨d'25⟩:=h37.d1 X G (p0:="_law_found");obtain⟨d'26⟩:=h38.d1 X G (p0:="_law_script");obtain⟨d'27⟩:=h39.d1 X G (p0:="_law_cells");obtain⟨d'28⟩:=h40.d3 X G (p0:="_law_cells") (p1:="_law_some") (p2:="_law_one");have F41:=zcP (st:=s_law) l41 c41 k41;have b41:=F41.b1 (p0:="_law_script");have hh_0:Ci K cc0 L0=true:=hd_of lc0 lh0;have hh_1:Ci K cc1 L1=true:=hd_of lc1 lh1;refine⟨Dm "law" "law" (za6 s_law) (zaX s_law) (zaf s_law) .none kV41 dc41 pm41 an41 cd41 ct41,λs v=>.of_eq rfl,List.forall_mem_cons.mpr ⟨⟨cc0,hh_0⟩,List.forall_mem_cons.mpr ⟨⟨cc1,hh_1⟩,λ_ z=>nomatch z⟩⟩,λbase _ _ hB=>?_⟩;have fn:∀{k:Nat}{x:Str}{s:Stmt}{ps:List Str}{sp:Sp} (d:Df K mg x s ps),FnOk l.prog w K mg base CX0 k d.f d.fd ps sp->Fn l.prog w K mg base k x ps sp:=λd h=>d.fn h
 have g'29:=fn d'0 (zeW d'0);have g'2a:=fn d'1 (zkU T d'1);have g'2b:=fn d'3 (zdk d'3);have g'2c:=fn d'4 (zeP d'4);have g'2d:=fn d'5 (zgn d'5);have g'2e:=fn d'2 (zeU g'2a d'2);have g'2f:=fn d'6 (zd1 g'2a g'2d d'6);have g'30:=fn d'7 (zcE T g'2d d'7);have g'31:=fn d'8 (zcr g'30 d'8);have g'32:=fn d'9 (zgp T g'29 d'9);have g'33:=fn d'a (zeX T d'a);have g'34:=fn d'b (zho d'b);have g'35:=fn d'c (zd2 g'34 d'c);have g'36:=fn d'd (zhq g'2f d'd);have g'37:=fn d'e (zeO g'36 g'35 d'e);have g'38:=fn d'f (zdG g'2f g'2e g'2d g'2a g'2c g'2b d'f);have g'39:=fn d'10 (zd0 g'38 d'10);have g'3a:=fn d'11 (zeV g'2f d'11);have g'3b:=fn d'12 (zfD T g'3a g'31 d'12);have g'3c:=fn d'13 (zhp g'33 g'37 g'39 g'3b g'32 d'13);have g'3d:=fn d'14 (zgo g'3c d'14);have g'3e:=fn d'15 (zgj T d'15);have g'3f:=fn d'16 (zdX T d'16);have g'40:=fn d'17 (zeT T g'3f d'17);have g'41:=fn d'18 (zix T hB hh_1 g'3d g'3e g'40 d'18 hc_1);have g'42:=fn d'19 (zdZ T d'19);have g'43:=fn d'1a (zhr T d'1a);have g'44:=fn d'1b (zdY T g'42 g'43 d'1b);have g'45:=fn d'1c (zgl d'1c);have g'46:=fn d'1d (zhs d'1d);have g'47:=fn d'1e (zeS g'45 d'1e);have g'48:=fn d'20 (zeQ g'47 d'20);have g'49:=fn d'1f (zfC T g'45 d'1f);have g'4a:=fn d'21 (zgk T d'21);have g'4b:=fn d'22 (zeR T hB hh_0 g'46 g'49 g'48 g'4a d'22 hc_0);have g'4c:=fn d'23 (zfB g'45 d'23);have g'4d:=fn d'24 (zhu T d'24);have g'4e:=fn d'25 (zfz T d'25);have g'4f:=fn d'26 (zfA T g'42 g'43 d'26);have g'50:=fn d'27 (zgm T g'46 g'4d d'27);have g'51:=fn d'28 (zht T g'46 g'4c g'50 d'28);exact zlJ hL01 T g'42 g'44 g'4f g'4b g'41 g'51 g'4e ⟨_,_,F41,W.mg_of X G a41,b41⟩
theorem walk{L0 L1:Addr}{l:W.OpenLaw}{q:AH}{loose:List Str}{XP:(Str -> Option Ac) -> Heap -> Prop}{YP:A4 -> Heap -> Prop}{d:DefRec}{K:Params -> W.Frag}(hn:l.most=some 63)(hdf:d.params.defaults = [])
  (hY:∀(w:A4) (h:Heap),YP w h->(K w.params).In h/\(∀P∈[L0,L1],h.get? P=some (W.tabObj #[]))/\∀P∈[L0,L1],(K w.params).lookup P=none)
  (F:∀(w:A4) (mg:Str->Option Ac) (fa:Addr) (h:Heap),(K w.params).In h->h.Ns AF mg->mg d.name=some (.ref fa) ->
   ∃fd:BC,(∀(s:Ae) (u:Ac),BindsTo s fd ⟨[u],[]⟩ [("_law_script",u)])/\(∀P∈[L0,L1],∃c,Ci (K w.params) c P=true)/\∀base:Heap,(K w.params).In base->base.Ns AF mg->Bm mg base->FnOk l.prog w (K w.params) mg base CX0 10 fa fd ["_law_script"] (spLaw (K w.params) L0 L1)) :
  W.WalkO q loose XP YP l.row.toRowW d [] (λf vs=>PySem.call f vs) :=
 L2.walk_ofL (n:=63) (k:=10) (x:="_law_script") (CX:=λ_=>CX0) (sp:=λw=>spLaw (K w.params) L0 L1) (ts:=[L0,L1]) hn (by decide) hdf ⟨rfl,by decide,by decide,rfl⟩ hY F (λ_ _ a ns hl hT hS=>⟨a,ns,rfl,hS,hl,⟨#[],hT L0 (by simp),.inl rfl⟩,⟨#[],hT L1 (by simp),.inl rfl⟩,λ_=>rfl⟩) λ_ _ _ _ _ z=>z
end RR
namespace PySem.W.Fast
noncomputable def tw9723021584601102585:=()
noncomputable def tw6413456236068659102:=()
noncomputable def tw6841633874180982864:=()
noncomputable def tw17261564147155666797:=()
noncomputable def tw4903762060434440438:=()
noncomputable def tw16616898912110796947:=()
noncomputable def tw14979702693258645440:=()
noncomputable def tw8165444376656382645:=()
noncomputable def tw5046637186403998369:=()
noncomputable def tw228793939637799405:=()
noncomputable def tw9239301054768130576:=()
noncomputable def tw11217618479903006904:=()
noncomputable def tw8456747482345339901:=()
noncomputable def tw16630766000658549929:=()
noncomputable def tw3791851307444317502:=()
noncomputable def tw6449143969388086140:=()
noncomputable def tw44380448381807266:=()
noncomputable def tw15306236257910242323:=()
noncomputable def tw16721354208951688267:=()
noncomputable def tw7564818924011825548:=()
noncomputable def tw3167229030416050723:=()
noncomputable def tw14080419816941253670:=()
noncomputable def tw3597186684750077154:=()
noncomputable def tw3757726126679521795:=()
noncomputable def tw2469775505101392831:=()
noncomputable def tw15564184978165690436:=()
noncomputable def tw109589206922054176:=()
noncomputable def tw294537572363521068:=()
noncomputable def tw5371076517563427475:=()
noncomputable def tw18161548899590663864:=()
noncomputable def tw10721683267235885261:=()
noncomputable def tw10349228296992562885:=()
noncomputable def tw15545450165189858480:=()
noncomputable def tw13205284621386491355:=()
noncomputable def tw5613595209596008781:=()
noncomputable def tw8129530596769193706:=()
noncomputable def tw15662996627696101667:=()
noncomputable def tw7379383067612485606:=()
noncomputable def tw4075413539315857956:=()
noncomputable def tw16532076836484134950:=()
noncomputable def tw7364580111833033689:=()
noncomputable def tw10083801401246603770:=()
noncomputable def tw11419505289814381097:=()
noncomputable def tw10272135535687926809:=()
noncomputable def tw9199792380020925011:=()
noncomputable def tw5794284662438738901:=()
noncomputable def tw15355626719216529660:=()
noncomputable def tw13500400383320315024:=()
noncomputable def tw324785945656202203:=()
noncomputable def tw1530220550509797516:=()
noncomputable def tw5267499645085986831:=()
noncomputable def tw1776277556642779806:=()
noncomputable def tw11789725069643151899:=()
noncomputable def tw11316704057670594524:=()
noncomputable def tw10888023056005783630:=()
noncomputable def tw88505984953989987:=()
noncomputable def tw2999946150734889863:=()
noncomputable def tw16417227808188554023:=()
noncomputable def tw14572531029371016057:=()
noncomputable def tw1972344610186815952:=()
noncomputable def tw8348557338299021943:=()
noncomputable def tw10312480150142779923:=()
noncomputable def tw6965530593103970535:=()
noncomputable def tw1887390992697385631:=()
noncomputable def tw18444154614923972618:=()
noncomputable def tw8962198675588586365:=()
noncomputable def tw15498368540444569359:=()
noncomputable def tw2314455935478002645:=()
noncomputable def tw17250819520306605996:=()
noncomputable def tw7531870838169465425:=()
noncomputable def tw4286551454557794003:=()
noncomputable def tw12821408790624799513:=()
noncomputable def tw12880347262722724321:=()
noncomputable def tw14781012751181370413:=()
noncomputable def tw7686152847889875474:=()
noncomputable def tw13184229846575881210:=()
noncomputable def tw6090502973150215935:=()
noncomputable def tw695730987701576028:=()
noncomputable def tw11341796591281608053:=()
noncomputable def tw2691752577728121524:=()
noncomputable def tw9470553174056563841:=()
noncomputable def tw6316209597210487819:=()
noncomputable def tw12113450741560397154:=()
noncomputable def tw13336188039651099685:=()
noncomputable def tw1498525260935041055:=()
noncomputable def tw15133637229159507406:=()
noncomputable def tw1637023576885491401:=()
noncomputable def tw17194233419302525924:=()
noncomputable def tw8938145862374360826:=()
noncomputable def tw9576931424310163110:=()
noncomputable def tw3495130764532258251:=()
noncomputable def tw1559391727400730846:=()
noncomputable def tw12672961068923295929:=()
noncomputable def tw17343313537185559020:=()
noncomputable def tw17560139415453127526:=()
noncomputable def tw11564300568663092773:=()
noncomputable def tw11230983180664521206:=()
noncomputable def tw16583379657030467751:=()
noncomputable def tw13035300489698183012:=()
noncomputable def tw11150217534183494401:=()
noncomputable def tw6090167681488306604:=()
noncomputable def tw6097637022752602875:=()
noncomputable def tw2879817939574558807:=()
noncomputable def tw14299132437757828865:=()
noncomputable def tw17107021024843431572:=()
noncomputable def tw18076182643157284958:=()
noncomputable def tw3147076791108597656:=()
noncomputable def tw17289811119108232186:=()
noncomputable def tw16227842986636330179:=()
noncomputable def tw7705862184697284247:=()
noncomputable def tw15469027229781342764:=()
noncomputable def tw12392856498628352286:=()
noncomputable def tw18303615143268886887:=()
noncomputable def tw16042099991661341238:=()
noncomputable def tw6587902484511981663:=()
noncomputable def tw5088717553430725453:=()
noncomputable def tw13585262064046945262:=()
noncomputable def tw43874829144593028:=()
noncomputable def tw4362863249165289526:=()
noncomputable def tw5253047588863230544:=()
noncomputable def tw16813343972702072754:=()
noncomputable def tw7201542011613752835:=()
noncomputable def tw8032102110103064086:=()
noncomputable def tw12755748056175442771:=()
noncomputable def tw7786266261695536209:=()
noncomputable def tw15376038943496443288:=()
noncomputable def tw10756543461541995583:=()
noncomputable def tw16727015093592740893:=()
noncomputable def tw18317506350862611881:=()
noncomputable def tw16836341378777156925:=()
noncomputable def tw227621503899724765:=()
noncomputable def tw10344887689740767110:=()
noncomputable def tw8832140895978955431:=()
noncomputable def tw9654663564077845915:=()
noncomputable def tw2643739478647907939:=()
noncomputable def tw18337905003642812456:=()
noncomputable def tw8599928786681991253:=()
noncomputable def tw2573704217320986760:=()
noncomputable def tw5947466960082454494:=()
noncomputable def tw3455010451141861847:=()
noncomputable def tw6201193146643210572:=()
noncomputable def tw14174984364576085732:=()
noncomputable def tw8758949806369581999:=()
noncomputable def tw5101877423137116659:=()
noncomputable def tw6003915702670294781:=()
noncomputable def tw9777070204574097931:=()
noncomputable def tw777397117836543837:=()
noncomputable def tw16987435498171251471:=()
noncomputable def tw9090046146860546753:=()
noncomputable def tw15985652856858749949:=()
noncomputable def tw3650914684471264176:=()
noncomputable def tw10386853290219750526:=()
noncomputable def tw10538844783397220278:=()
noncomputable def tw16312185088271881706:=()
noncomputable def tw7295083714216003612:=()
noncomputable def tw13870933472659957834:=()
noncomputable def tw15451946483720505589:=()
noncomputable def tw10655488604325163236:=()
noncomputable def tw6842349033695616615:=()
noncomputable def tw1056173552019391776:=()
noncomputable def tw12789357730734817362:=()
noncomputable def tw13167884627637979637:=()
noncomputable def tw3444119736031731580:=()
noncomputable def tw1224953642692618014:=()
noncomputable def tw8911707552342430214:=()
noncomputable def tw12155252777631616268:=()
noncomputable def tw9193879281258331187:=()
noncomputable def tw14984193188038815848:=()
noncomputable def tw603059810979580192:=()
noncomputable def tw14286456347608645123:=()
noncomputable def tw4940306540511066720:=()
noncomputable def tw13328118477355377479:=()
noncomputable def tw12956244383062684863:=()
noncomputable def tw12530314507847374239:=()
noncomputable def tw17665210660513768958:=()
noncomputable def tw712620179382521770:=()
noncomputable def tw17155292652623702432:=()
noncomputable def tw13021721258380172042:=()
noncomputable def tw6534188153450592640:=()
noncomputable def tw4843018629504047446:=()
noncomputable def tw5625983426713999254:=()
noncomputable def tw11091327456220874220:=()
noncomputable def tw12343677900303594157:=()
noncomputable def tw440927895063574245:=()
noncomputable def tw6434997430433157351:=()
noncomputable def tw18291842929065874005:=()
noncomputable def tw4759681770849647120:=()
noncomputable def tw6114473121973772:=()
noncomputable def tw15818729793886426776:=()
noncomputable def tw17550320784341316015:=()
noncomputable def tw18326301407862742751:=()
noncomputable def tw9560335149317357822:=()
noncomputable def tw12320561007602723804:=()
noncomputable def tw7600729579168843520:=()
noncomputable def tw11396502945207782960:=()
noncomputable def tw17120903631888700702:=()
noncomputable def tw11260511291016744942:=()
noncomputable def tw1713397768512565463:=()
noncomputable def tw1218243347651694422:=()
noncomputable def tw8419904564726437580:=()
noncomputable def tw12824637755799827178:=()
noncomputable def tw6485057511434629617:=()
noncomputable def tw5030607725791471171:=()
noncomputable def tw1390108979117082872:=()
noncomputable def tw16903829918810584663:=()
noncomputable def tw13391922635449896270:=()
noncomputable def tw388588822600458151:=()
noncomputable def tw3355013765307532565:=()
noncomputable def tw8695407146776587863:=()
noncomputable def tw1212318700182754192:=()
noncomputable def tw3419791015265835165:=()
noncomputable def tw3240736404015853694:=()
noncomputable def tw17642087691679135117:=()
noncomputable def tw8545339054020570535:=()
noncomputable def tw4437504663458789845:=()
noncomputable def tw2109539709195675623:=()
noncomputable def tw6571877844847101903:=()
noncomputable def tw7164055730859607515:=()
noncomputable def tw17306104738705788581:=()
noncomputable def tw676950222176285767:=()
noncomputable def tw15962130357483581441:=()
end PySem.W.Fast
open PySem PySem.W PyProof.Rows
set_option maxRecDepth 100000 in
set_option maxHeartbeats 0 in
theorem PySem.Challenge.cw_rimsteps_k16_one_in_another_holds : PySem.Challenge.rw_rimsteps_k16_one_in_another.Holds := by
 w_on;o_law;k_head;(case hw=>w_witness2)
 k_fill
 refine RR.walk (l:=PySem.Challenge.rw_rimsteps_k16_one_in_another) rfl rfl (L2.km_all (by decide)) ?F
 case F =>
  intro w mg fa h KX G hmg
  refine' RR.all_mk KX G hmg (.mk ?a0 ?l0 ?c0 ?k0) (.mk ?a1 ?l1 ?c1 ?k1) (.mk ?a2 ?l2 ?c2 ?k2) (.mk ?a3 ?l3 ?c3 ?k3) (.mk ?a4 ?l4 ?c4 ?k4) (.mk ?a5 ?l5 ?c5 ?k5) (.mk ?a6 ?l6 ?c6 ?k6) (.mk ?a7 ?l7 ?c7 ?k7) (.mk ?a8 ?l8 ?c8 ?k8) (.mk ?a9 ?l9 ?c9 ?k9) (.mk ?a10 ?l10 ?c10 ?k10) (.mk ?a11 ?l11 ?c11 ?k11) (.mk ?a12 ?l12 ?c12 ?k12) (.mk ?a13 ?l13 ?c13 ?k13) (.mk ?a14 ?l14 ?c14 ?k14) (.mk ?a15 ?l15 ?c15 ?k15) (.mk ?a16 ?l16 ?c16 ?k16) (.mk ?a17 ?l17 ?c17 ?k17) (.mk ?a18 ?l18 ?c18 ?k18) (.mk ?a19 ?l19 ?c19 ?k19) (.mk ?a20 ?l20 ?c20 ?k20) (.mk ?a21 ?l21 ?c21 ?k21) (.mk ?a22 ?l22 ?c22 ?k22) (.mk ?a23 ?l23 ?c23 ?k23) ?a24 ?l24 ?c24 ?k24 ?lc1 ?lh1 (.mk ?a25 ?l25 ?c25 ?k25) (.mk ?a26 ?l26 ?c26 ?k26) (.mk ?a27 ?l27 ?c27 ?k27) (.mk ?a28 ?l28 ?c28 ?k28) (.mk ?a29 ?l29 ?c29 ?k29) (.mk ?a30 ?l30 ?c30 ?k30) (.mk ?a31 ?l31 ?c31 ?k31) (.mk ?a32 ?l32 ?c32 ?k32) (.mk ?a33 ?l33 ?c33 ?k33) ?a34 ?l34 ?c34 ?k34 ?lc0 ?lh0 (.mk ?a35 ?l35 ?c35 ?k35) (.mk ?a36 ?l36 ?c36 ?k36) (.mk ?a37 ?l37 ?c37 ?k37) (.mk ?a38 ?l38 ?c38 ?k38) (.mk ?a39 ?l39 ?c39 ?k39) (.mk ?a40 ?l40 ?c40 ?k40) ?a41 ?l41 ?c41 ?k41 ?aM ?lM ?x0 ?x1 ?x2 ?x3 ?x4 ?x5 ?x6 ?x7 ?aB ?lB ?aB2 ?lB2 ?z_range ?z_len ?z_min ?z_sorted ?z_tuple ?z_int ?z_bool ?z_str ?z_isinstance ?z_list ?z_enumerate ?z_max ?hL01
  (case a0=>k_is)
  (case l0=>k_is)
  (case c0=>k_is)
  (case k0=>k_is)
  (case a1=>k_is)
  (case l1=>k_is)
  (case c1=>k_is)
  (case k1=>k_is)
  (case a2=>k_is)
  (case l2=>k_is)
  (case c2=>k_is)
  (case k2=>k_is)
  (case a3=>k_is)
  (case l3=>k_is)
  (case c3=>k_is)
  (case k3=>k_is)
  (case a4=>k_is)
  (case l4=>k_is)
  (case c4=>k_is)
  (case k4=>k_is)
  (case a5=>k_is)
  (case l5=>k_is)
  (case c5=>k_is)
  (case k5=>k_is)
  (case a6=>k_is)
  (case l6=>k_is)
  (case c6=>k_is)
  (case k6=>k_is)
  (case a7=>k_is)
  (case l7=>k_is)
  (case c7=>k_is)
  (case k7=>k_is)
  (case a8=>k_is)
  (case l8=>k_is)
  (case c8=>k_is)
  (case k8=>k_is)
  (case a9=>k_is)
  (case l9=>k_is)
  (case c9=>k_is)
  (case k9=>k_is)
  (case a10=>k_is)
  (case l10=>k_is)
  (case c10=>k_is)
  (case k10=>k_is)
  (case a11=>k_is)
  (case l11=>k_is)
  (case c11=>k_is)
  (case k11=>k_is)
  (case a12=>k_is)
  (case l12=>k_is)
  (case c12=>k_is)
  (case k12=>k_is)
  (case a13=>k_is)
  (case l13=>k_is)
  (case c13=>k_is)
  (case k13=>k_is)
  (case a14=>k_is)
  (case l14=>k_is)
  (case c14=>k_is)
  (case k14=>k_is)
  (case a15=>k_is)
  (case l15=>k_is)
  (case c15=>k_is)
  (case k15=>k_is)
  (case a16=>k_is)
  (case l16=>k_is)
  (case c16=>k_is)
  (case k16=>k_is)
  (case a17=>k_is)
  (case l17=>k_is)
  (case c17=>k_is)
  (case k17=>k_is)
  (case a18=>k_is)
  (case l18=>k_is)
  (case c18=>k_is)
  (case k18=>k_is)
  (case a19=>k_is)
  (case l19=>k_is)
  (case c19=>k_is)
  (case k19=>k_is)
  (case a20=>k_is)
  (case l20=>k_is)
  (case c20=>k_is)
  (case k20=>k_is)
  (case a21=>k_is)
  (case l21=>k_is)
  (case c21=>k_is)
  (case k21=>k_is)
  (case a22=>k_is)
  (case l22=>k_is)
  (case c22=>k_is)
  (case k22=>k_is)
  (case a23=>k_is)
  (case l23=>k_is)
  (case c23=>k_is)
  (case k23=>k_is)
  (case a24=>k_is)
  (case l24=>k_is)
  (case c24=>k_is)
  (case k24=>k_is)
  (case lc1=>k_is)
  (case lh1=>exact rfl)
  (case a25=>k_is)
  (case l25=>k_is)
  (case c25=>k_is)
  (case k25=>k_is)
  (case a26=>k_is)
  (case l26=>k_is)
  (case c26=>k_is)
  (case k26=>k_is)
  (case a27=>k_is)
  (case l27=>k_is)
  (case c27=>k_is)
  (case k27=>k_is)
  (case a28=>k_is)
  (case l28=>k_is)
  (case c28=>k_is)
  (case k28=>k_is)
  (case a29=>k_is)
  (case l29=>k_is)
  (case c29=>k_is)
  (case k29=>k_is)
  (case a30=>k_is)
  (case l30=>k_is)
  (case c30=>k_is)
  (case k30=>k_is)
  (case a31=>k_is)
  (case l31=>k_is)
  (case c31=>k_is)
  (case k31=>k_is)
  (case a32=>k_is)
  (case l32=>k_is)
  (case c32=>k_is)
  (case k32=>k_is)
  (case a33=>k_is)
  (case l33=>k_is)
  (case c33=>k_is)
  (case k33=>k_is)
  (case a34=>k_is)
  (case l34=>k_is)
  (case c34=>k_is)
  (case k34=>k_is)
  (case lc0=>k_is)
  (case lh0=>exact rfl)
  (case a35=>k_is)
  (case l35=>k_is)
  (case c35=>k_is)
  (case k35=>k_is)
  (case a36=>k_is)
  (case l36=>k_is)
  (case c36=>k_is)
  (case k36=>k_is)
  (case a37=>k_is)
  (case l37=>k_is)
  (case c37=>k_is)
  (case k37=>k_is)
  (case a38=>k_is)
  (case l38=>k_is)
  (case c38=>k_is)
  (case k38=>k_is)
  (case a39=>k_is)
  (case l39=>k_is)
  (case c39=>k_is)
  (case k39=>k_is)
  (case a40=>k_is)
  (case l40=>k_is)
  (case c40=>k_is)
  (case k40=>k_is)
  (case a41=>k_is)
  (case l41=>k_is)
  (case c41=>k_is)
  (case k41=>k_is)
  (case aM=>k_is)
  (case lM=>k_is)
  (case x0=>k_is)
  (case x1=>k_is)
  (case x2=>k_is)
  (case x3=>k_is)
  (case x4=>k_is)
  (case x5=>k_is)
  (case x6=>k_is)
  (case x7=>k_is)
  (case aB=>k_is)
  (case lB=>k_is)
  (case aB2=>k_is)
  (case lB2=>k_is)
  (case z_range=>k_is)
  (case z_len=>k_is)
  (case z_min=>k_is)
  (case z_sorted=>k_is)
  (case z_tuple=>k_is)
  (case z_int=>k_is)
  (case z_bool=>k_is)
  (case z_str=>k_is)
  (case z_isinstance=>k_is)
  (case z_list=>k_is)
  (case z_enumerate=>k_is)
  (case z_max=>k_is)
  (case hL01=>decide)

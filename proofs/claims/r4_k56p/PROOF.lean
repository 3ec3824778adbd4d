import PyProof.Rows.All
import Wide.All
import OpenK.AllK
import Wide.FinOn
import Lean
import PyProof.EqAt
import PyProof.EqKinds
import PyProof.TupleCall
import PySem.Challenge.RW_rimsteps_k56_how_rounds_are_alike
set_option Elab.async false
set_option linter.all false
set_option maxRecDepth 100000
open List renaming getElem?_eq_getElem → Aa,getElem?_eq_some_iff → Ac,mem_of_getElem? → Af,length_map → Ai,getElem?_map → Ak,mem_singleton → Am,length_append → An,size_toArray → Ao,replicate → Ap,mem_map → Aq,getElem?_append_left → As,mem_cons_of_mem → At,mem_append_right → Au,mem_cons → Aw,length_take → AB,mem_cons_self → AC,getElem_of_mem → AD,getElem?_append_right → AF,take_length → AG,mem_append → AH,getD_eq_getElem?_getD → AI,map_append → AN,getElem_mem → AV,map_cons → AW,set_cons_succ → AY,set_cons_zero → AZ,length_cons → A7,length_singleton → A9,range → Ba,mem_append_left → Bc,lookup_cons → Bh,flatten_cons → Bn,pairwise_map → Bv,mem_range → Bx,sum_cons → Bz,length_drop → BB,getElem?_eq_none → BJ,length_filter_le → BK,append_nil → BL,map_map → BM,length_replicate → BY,not_mem_nil → B6,nodup_append → Ca,getElem?_inj → Cb,nodup_cons → Cd,length_nil → Ce,replicate_succ → Ch,map_congr_left → Cj,take_of_length_le → Co,find?_cons → Cw,filterMap_map → CO,append_assoc → CZ,length_range → C3,take_succ → C8,getElem?_zip_eq_some → De,flatten_append → Dh,sum_append → Dv,zip_cons_cons → Dy,getElem?_drop → Dz,mem_filter → DF,length_pos_iff → DG
open PySem renaming wpAny_bind → Ab,Value → Ad,Shared → Ae,wpAny_pure → Ah,wpAny → Ar,model → Ax,mainGlobals → AE,Program → AJ,Around → AT,World → A1,starEach → A3,wpAny_newObj_type → A6,wpAny_holding → A8,foldedSetIterable → Bm,FuncData → Bo,Spec → Bp,compareOp → BA,sysModules → BF,wpAny_mono → BG,wpAny_truthy_bool → BH,wpAny_Call_Name_kw → B4,wpAny_standAt → B7,wpAny_typeNameOfWhole_keyiter → B8,codeAny → B9,wpAny_loadPart' → Cf,mem_of_lookup → Cg,keywordEach → Cq,wpAny_passesOwn → Cv,sizeLine_eq → CA,wpAny_comprehension_free → CH,bindArgs → CK,wpAny_callSpecial?_slot → CL,compEnvC → CM,wpAny_updateSeq → CQ,wpAny_rule → C4,wpAny_tryCatch → C6,wpAny_call_entry → Db,backToKw → Dj,plainId_quiet → Dk,holding → Do,letOwnedTupleGo → Dp,assignEach → Dw,tupleKind_room_in1 → Dx,tupleKind → DC,sliceBounds → DD
open PySem.Heap renaming get?_push_of_some → Ag,lt_size → Ay,get?_push_size → Az,get?_update_other → A4,get?_update_self → BZ,SameBut → Cz
open Nat renaming le_refl → Aj,lt_or_ge → AL,ne_of_lt → AR,lt_of_lt_of_le → AS,mod_lt → AU,zero_le → A5,le_trans → Bb,le_of_lt → BU,lt_irrefl → Cp,le_add_right → Cs,mul_le_mul_left → Di,not_lt_zero → Du,le_succ → DE
open PySem.Value renaming ref → Av,none → B3,type → CN,int → Da
open Option renaming map_eq_some_iff → AA,map_some → CP
open Bool renaming false_ne_true → AK,false_eq_true → BN,and_eq_true → BQ,eq_iff_iff → Dq
open PySem.Obj renaming mapSeq → AM
open PySem.PassesOwn renaming never → AO
open PyProof.Rows renaming arrOf → AQ,wpS_bind → Bd,slot_tuple_getitem → Bk,seqObj → Bq,getElem?_mirror_all → Bs,wpS_pure → BD,callWith_type1 → BR,SortSt → BX,SortKind → Ci,IntsAre → Ck,failedOf → CS,pendingOf → CW,wpS_forRange → Dc,get?_update_seq → Dt
open Option.some renaming inj → AX
open PySem.F renaming plainAttrs_list → A0,slot_list_append → Be,type_list_append → Bg,plain_min_loop → BC,slot_dict_keyiterator_next → BP,args_dict_keyiterator_next_1 → Dg,entry_dict_keyiterator_next → Dl
open PySem.NameKind renaming free → Bi,cell → CU
open Prod renaming ext → Bj
open PySem.SeqAt renaming shaped → Bl
open PySem.Heap.SameBut renaming update → Br
open False renaming elim → Bt
open Ne renaming symm → Bu
open PySem.W renaming mg_none_of → Bw,fnOf → CC,nsIn → CI,kia_one → CT,kas_item → C7,mg_of → Dr
open PySem.PyData renaming keyHash → By,canLayAll0 → BI,depth → BW,eqv → B5,canLay0 → Ct,depthAll → Cy,eqvAll → CV,int → C5
open Classical renaming byContradiction → BE
open Lean renaming maxHeartbeats → BS
open PySem.Str renaming ofString → BV
open True renaming intro → Cc
open PySem.Builtin.Builtins renaming bindParams → Cm
open PySem.Builtin.List renaming listExtendWith → Cn,listTooLong → CG
open Int renaming le_refl → Cr,toNat_natCast → C0,emod_lt_of_pos → DB
open PySem.Builtin.Slice renaming slicePlaces → Cu,sliceAdjust → Dd
open PySem.Paired renaming length → CB
open PySem.Builtin.Tuple renaming tupleExact → CF
open Array renaming length_toList → CJ,getElem?_toList → CY
open Sum renaming inl → C9
open List.Pairwise renaming imp_of_mem → Dm
open ForInStep renaming yield → Ds
namespace L2
open PySem PySem.Spec PyProof.Rows
noncomputable abbrev Key:=Sum Int Str
noncomputable def keyIs:Key->Ad->Bool
 |.inl k,v=>Value.isInt k v
 |.inr x,v=>Value.isStrOf x v
noncomputable def keyH(w:A1):Key->Int
 |.inl k=>hashInt k
 |.inr x=>hashStr w x
theorem zaV:∀{k:Key}{v:Ad},keyIs k v=true->(∃i t,k=C9 i/\v=Da i t)∨(∃x t,k=Sum.inr x/\v=Value.str x t)
 |.inl i,v,h=>by
  obtain⟨t,e⟩:=Value.isInt_shape (k:=i) (v:=v) h;exact .inl ⟨i,t,rfl,e⟩
 |.inr x,v,h=>by
  obtain⟨t,e⟩:=Value.isStrOf_shape (x:=x) (v:=v) h;exact .inr ⟨x,t,rfl,e⟩
theorem zk1(i:Int)(t:Tok):keyIs (.inl i) (.int i t)=true:=by simp[keyIs,Value.isInt]
theorem zk0(x:Str)(t:Tok):keyIs (.inr x) (.str x t)=true:=by simp[keyIs,Value.isStrOf]
theorem znZ(a b:Int):decide ((C9 a:Key)=C9 b)=(a == b):=by
 by_cases e:a=b
 .subst e;simp
 .have h:¬ (C9 a:Key)=C9 b:=λq=>e (Sum.inl.inj q)
  rw[decide_eq_false h];exact (beq_eq_false_iff_ne.mpr e).symm
theorem znW(a b:Str):decide ((Sum.inr a:Key)=Sum.inr b)=decide (a=b):=by
 by_cases e:a=b
 .subst e;simp
 .have h:¬ (Sum.inr a:Key)=Sum.inr b:=λq=>e (Sum.inr.inj q)
  rw[decide_eq_false h,decide_eq_false e]
theorem znY(a:Int)(b:Str):decide ((C9 a:Key)=Sum.inr b)=false:=decide_eq_false (λq=>nomatch q)
theorem znX(a:Str)(b:Int):decide ((Sum.inr a:Key)=C9 b)=false:=decide_eq_false (λq=>nomatch q)
noncomputable def zaJ(prog:AJ)(w:A1):PySem.KeyKind prog w Key where
 is:=keyIs
 hash:=keyH w
 inj:=λv a b ha hb=>by
  rcases zaV ha with⟨i,t,rfl,rfl⟩ |⟨x,t,rfl,rfl⟩
  .rcases zaV hb with⟨j,u,rfl,e⟩ |⟨y,u,rfl,e⟩
   .injection e with e1 _;rw[e1]
   .exact nomatch e
  .rcases zaV hb with⟨j,u,rfl,e⟩ |⟨y,u,rfl,e⟩
   .exact nomatch e
   .injection e with e1 _;rw[e1]
 byValue:=λk v h=>by rcases zaV h with⟨i,t,rfl,rfl⟩ |⟨x,t,rfl,rfl⟩ <;> rfl
 pyHash:=λhv h=>by
  rcases zaV hv with⟨i,t,rfl,rfl⟩ |⟨x,t,rfl,rfl⟩
  .exact wpAny_pyHash_int h
  .exact wpAny_pyHash_str h
 eqBool:=λhu hv h=>by
  rcases zaV hu with⟨i,t,rfl,rfl⟩ |⟨x,t,rfl,rfl⟩
  .rcases zaV hv with⟨j,u,rfl,rfl⟩ |⟨y,u,rfl,rfl⟩
   .rw[znZ]at h;exact wpAny_eqBool_int h
   .rw[znY]at h;exact SeqAt.EqAt.int_str i t y u _ _ _ _ h
  .rcases zaV hv with⟨j,u,rfl,rfl⟩ |⟨y,u,rfl,rfl⟩
   .rw[znX]at h;exact SeqAt.EqAt.str_int x t j u _ _ _ _ h
   .rw[znW]at h;exact wpAny_eqBool_str h
 «strs»:=λk x t v h=>by
  rcases zaV h with⟨i,u,rfl,e⟩ |⟨y,u,rfl,e⟩
  .exact nomatch e
  .injection e with e1 _;subst e1
   cases v <;> rfl
theorem zh8(prog:AJ)(w:A1)(i:Int)(t:Tok):(zaJ prog w).is (.inl i) (.int i t)=true:=zk1 i t
theorem zbO(prog:AJ)(w:A1)(x:Str)(t:Tok):(zaJ prog w).is (.inr x) (.str x t)=true:=zk0 x t
inductive V where
 |non |bl (b:Bool) |int (i:Int) |str (x:Str) |byt (b:Array UInt8) |flt (b:UInt64) |ref (a:Addr) |ty (n:String)
 deriving DecidableEq
noncomputable def RelV:V->Ad->Prop
 |.non,u=>u=B3
 |.bl b,u=>u=Value.bool b
 |.int i,u=>∃t,u=Da i t
 |.str x,u=>∃t,u=Value.str x t
 |.byt b,u=>∃t,u=Value.bytes b t
 |.flt b,u=>∃t,u=Value.float b t
 |.ref a,u=>u=Av a
 |.ty n,u=>u=CN n
noncomputable abbrev Vals:List V->List Ad->Prop:=Paired RelV
theorem Vals.length{xs:List V}{us:List Ad}(r:Vals xs us):xs.length=us.length:=CB r
theorem Vals.get:∀{xs:List V}{us:List Ad}{i:Nat}{x:V},Vals xs us->xs[i]?=some x->∃u,us[i]?=some u/\RelV x u
 |_,_,_,_,.nil,e=>by simp at e
 |_,_,0,_,.cons r _,e=>by simp at e;subst e;exact⟨_,rfl,r⟩
 |_,_,i+1,x,.cons _ t,e=>by
  obtain⟨u,h1,h2⟩:=Vals.get (i:=i) (x:=x) t (by simpa using e);exact⟨u,by simpa using h1,h2⟩
theorem Vals.set{x:V}{u:Ad}(r:RelV x u):∀{xs:List V}{us:List Ad}(i:Nat),Vals xs us->Vals (xs.set i x) (us.set i u)
 |_,_,_,.nil=>.nil
 |_,_,0,.cons _ t=>.cons r t
 |_,_,i+1,.cons q t=>.cons q (Vals.set r i t)
theorem Vals.append:∀{xs ys:List V}{us ws:List Ad},Vals xs us->Vals ys ws->Vals (xs++ys) (us++ws)
 |_,_,_,_,.nil,s=>s
 |_,_,_,_,.cons r t,s=>.cons r (Vals.append t s)
theorem Vals.take:∀{xs:List V}{us:List Ad}(n:Nat),Vals xs us->Vals (xs.take n) (us.take n)
 |_,_,0,_=>.nil
 |_,_,_+1,.nil=>.nil
 |_,_,n+1,.cons r t=>.cons r (Vals.take n t)
theorem Vals.drop:∀{xs:List V}{us:List Ad}(n:Nat),Vals xs us->Vals (xs.drop n) (us.drop n)
 |_,_,0,r=>r
 |_,_,_+1,.nil=>.nil
 |_,_,n+1,.cons _ t=>Vals.drop n t
noncomputable def RelO:Option V->Option Ad->Prop
 |some v,some u=>RelV v u
 |none,none=>True
 |_,_=>False
noncomputable def KV{κ:Type}:List (κ×V)->List (κ×Ad)->Prop:=Paired λ(p:κ×V) (q:κ×Ad)=>p.1=q.1/\RelV p.2 q.2
noncomputable def kV:Key->V
 |.inl i=>.int i
 |.inr x=>.str x
inductive HO where
 /-- a list -/
 |lst (xs:List V)
 /-- a tuple (never changes) -/
 |tup (xs:List V)
 /-- a dict whose keys are ints and texts;one whose keys are tuples of ints and texts (the empty one is both) -/
 |dK (kvs:List (Key×V)) |dT (kvs:List (List Key×V))
 /-- a set of ints: its members,its size -/
 |set (S:Int->Bool) (n:Nat)
 /-- an instance of the class at C,its dict at dx,its attributes -/
 |ins (C dx:Addr) (fs:List (Str×V))
 /-- the dict of the instance at x -/
 |own (x:Addr)
 /-- the dict of an exception -/
 |xd (fs:List (Str×V))
 /-- a bound method,f of x -/
 |met (f x:Addr)
 /-- a range object lo,lo+1,.. below hi -/
 |rng (lo hi:Int)
 /-- a thing that is known to the object (the script;a dict while a loop walks it): read,never written while it is so -/
 |frz (o:Obj) (u:HO)
 /-- a code object's table -/
 |tbl (ps:Array Ad)
 /-- any other thing,by what is true of its one object (a def of one's own: SetO a S n:=HO.ext λh=>..) -/
 |ext (φ:Heap->Prop)
noncomputable abbrev Hp:=Addr->Option HO
noncomputable def upd(H:Hp)(a:Addr)(o:HO):Hp:=λb=>if b=a then some o else H b
theorem zaa{H:Hp}{a:Addr}{o:HO}:upd H a o a=some o:=by unfold upd;rw[if_pos rfl]
theorem zaj{H:Hp}{a b:Addr}{o:HO}(h:b≠a):upd H a o b=H b:=by unfold upd;rw[if_neg h]
theorem zjZ{H:Hp}{a:Addr}{o u:HO}:upd (upd H a o) a u=upd H a u:=by
 funext b;unfold upd;split <;> rfl
theorem ne_of{H:Hp}{a b:Addr}{o u:HO}(h:H a=some o)(h':H b=some u)(d:o≠u):a≠b:=by intro e;subst e;rw[h]at h';exact d (AX h')
theorem zan{H:Hp}{a b:Addr}{o:HO}(h:H a=some o)(h':H b=none):a≠b:=by intro e;subst e;rw[h]at h';cases h'
section
variable (P:AJ) (w:A1)
noncomputable def ObjOk(H:Hp)(h:Heap)(a:Addr):HO->Prop
  |.lst xs=>xs.length<=sizeLine/\∃(its:List Ad) (n:Nat),Vals xs its/\h.get? a=some { cls:=.type "list",data:=.seq its.toArray n }
  |.tup xs=>xs.length<=sizeLine/\∃its:List Ad,Vals xs its/\IsTup h a its.toArray
  |.dK kvs=>kvs.length<=sizeLine/\(a == BF)=false/\∃vs,KV kvs vs/\h.DictOf (zaJ P w) a vs
  |.dT kvs => kvs.length <= sizeLine /\ (a == BF)=false /\ ∃xs:List (List Key × Addr × Ad),
      Paired (λ(p:List Key×V) (q:List Key×Addr×Ad)=>p.1=q.1/\H q.2.1=some (.tup (p.1.map kV))/\RelV p.2 q.2.2) kvs xs /\
      ∃o es ep,h.get? a=some o/\o.ExactDict/\o.data=.dict es ep/\es.toList=xs.map (entryOfKey (DC (zaJ P w)))/\(xs.map (·.1)).Nodup
  |.set S n=>h.SetOf (intKind P w) a S n
  |.ins C dx fs => H dx=some (.own a) /\ fs.length <= 1000 /\ dx ≠ a /\ h.get? a=some (W.instObj C dx) /\
      ∃mA,h.Ns1 dx mA/\(∀f,RelO (fs.lookup f) (mA f))/\PySem.Within mA (fs.map (·.1))
  |.own _=>∃o,h.get? a=some o
  |.xd fs=>∃mA,h.Ns1 a mA/\∀f,RelO (fs.lookup f) (mA f)
  |.rng lo hi=>∃t u v,h.get? a=some { cls:=.type "range",data:=.fields #[.int lo t,.int hi u,.int 1 v] }
  |.frz o u=>h.get? a=some o/\ObjOk H h a u
  |.tbl ps=>h.get? a=some { cls:=.none,data:=.fields ps }
  |.met f x=>h.get? a=some (W.methodObj (.ref f) (.ref x))
  |.ext φ=>φ h/\(∃o,h.get? a=some o)/\∀h1 h2:Heap,φ h1->(∀o,h1.get? a=some o->h2.get? a=some o)->φ h2
noncomputable def HOk(H:Hp)(h:Heap):Prop:=∀a o,H a=some o->ObjOk P w H h a o
end
section
variable {P:AJ}{w:A1}{H H':Hp}{h h':Heap}{a:Addr}{o:HO}
theorem ObjOk.lt(x:ObjOk P w H h a o):a<h.objs.size:=by
 cases o with
 |lst xs=>obtain⟨_,_,_,_,e⟩:=x;exact Ay e
 |tup xs=>obtain⟨_,_,_,p⟩:=x;exact p.lt
 |dK kvs=>obtain⟨_,_,_,_,o,_,_,e,_⟩:=x;exact Ay e
 |dT kvs=>obtain⟨_,_,_,_,o,_,_,e,_⟩:=x;exact Ay e
 |set S n=>obtain⟨o,_,_,_,e,_⟩:=x;exact Ay e
 |ins C dx fs=>obtain⟨_,_,_,e,_⟩:=x;exact Ay e
 |own y=>obtain⟨_,e⟩:=x;exact Ay e
 |xd fs=>obtain⟨_,⟨_,_,_,e,_⟩,_⟩:=x;exact Ay e
 |rng lo hi=>obtain⟨_,_,_,e⟩:=x;exact Ay e
 |frz ob u=>obtain⟨e,_⟩:=x;exact Ay e
 |tbl ps=>exact Ay (show h.get? a=some _ from x)
 |met f y=>exact Ay (show h.get? a=some _ from x)
 |ext φ=>obtain⟨_,⟨_,e⟩,_⟩:=x;exact Ay e
theorem Paired.mapP{α β:Type}{F G:α->β->Prop}:∀{l₁:List α}{l₂:List β},Paired F l₁ l₂->(∀a b,F a b->G a b)->Paired G l₁ l₂
 |_,_,.nil,_=>.nil
 |_,_,.cons r t,f=>.cons (f _ _ r) (Paired.mapP t f)
theorem ObjOk.stay(x:ObjOk P w H h a o)(k:∀b u, (b=a ∨ H b=some (.own a)) -> h.get? b=some u -> h'.get? b=some u)
  (ho:∀b,H b=some (.own a)->H' b=some (.own a)) (ht:∀b xs,H b=some (.tup xs)->H' b=some (.tup xs)):ObjOk P w H' h' a o:=by
 induction o with
 |lst xs=>obtain⟨z,its,n,r,e⟩:=x;exact⟨z,its,n,r,k _ _ (.inl rfl) e⟩
 |tup xs=>obtain⟨z,its,r,ob,e,c⟩:=x;exact⟨z,its,r,ob,k _ _ (.inl rfl) e,c⟩
 |dK kvs=>obtain⟨z,y,vs,r,ob,es,ep,e,c⟩:=x;exact⟨z,y,vs,r,ob,es,ep,k _ _ (.inl rfl) e,c⟩
 |dT kvs =>
  obtain⟨z,y,xs,r,ob,es,ep,e,c⟩:=x;exact⟨z,y,xs,Paired.mapP r λp q z=>⟨z.1,ht _ _ z.2.1,z.2.2⟩,ob,es,ep,k _ _ (.inl rfl) e,c⟩
 |set S n=>obtain⟨ob,es,ep,t,e,c⟩:=x;exact⟨ob,es,ep,t,k _ _ (.inl rfl) e,c⟩
 |ins C dx fs =>
  obtain⟨d,z,ne,e,mA,⟨od,es,ep,e2,c⟩,r⟩:=x;exact⟨ho _ d,z,ne,k _ _ (.inl rfl) e,mA,⟨od,es,ep,k _ _ (.inr d) e2,c⟩,r⟩
 |own y=>obtain⟨ob,e⟩:=x;exact⟨ob,k _ _ (.inl rfl) e⟩
 |xd fs=>obtain⟨mA,⟨od,es,ep,e,c⟩,r⟩:=x;exact⟨mA,⟨od,es,ep,k _ _ (.inl rfl) e,c⟩,r⟩
 |rng lo hi=>obtain⟨t,u,v,e⟩:=x;exact⟨t,u,v,k _ _ (.inl rfl) e⟩
 |frz ob u ih=>obtain⟨e,q⟩:=x;exact⟨k _ _ (.inl rfl) e,ih q⟩
 |tbl ps =>
  have e:h.get? a=some { cls:=.none,data:=.fields ps }:=x;show h'.get? a=some { cls:=.none,data:=.fields ps };exact k a _ (.inl rfl) e
 |met f y =>
  have e:h.get? a=some (W.methodObj (.ref f) (.ref y)):=x;show h'.get? a=some (W.methodObj (.ref f) (.ref y));exact k a _ (.inl rfl) e
 |ext φ=>obtain⟨p,⟨o,e⟩,st⟩:=x;exact⟨st _ _ p λo q=>k _ _ (.inl rfl) q,⟨o,k _ _ (.inl rfl) e⟩,st⟩
theorem HOk.lt(x:HOk P w H h)(e:H a=some o):a<h.objs.size:=(x a o e).lt
theorem HOk.fresh(x:HOk P w H h)(e:h.objs.size<=a):H a=none:=by
 cases q:H a with
 |none=>rfl
 |some u=>exact absurd (AS (x.lt q) e) (Cp _)
theorem HOk.kept(x:HOk P w H h)(k:∀b u,h.get? b=some u->h'.get? b=some u):HOk P w H h':=λa o e =>
 (x a o e).stay (λb u _ q=>k b u q) (λ_ q=>q) λ_ _ q=>q
theorem HOk.laid(x:HOk P w H h)(k:∀b u,h.get? b=some u->h'.get? b=some u)(hp:h.objs.size<=a)(new:ObjOk P w (upd H a o) h' a o):HOk P w (upd H a o) h':=λb u e=>by
 have hn:=x.fresh hp
 by_cases hb:b=a
 .subst hb;rw[zaa]at e;cases e;exact new
 .rw[zaj hb]at e;exact (x b u e).stay (λc v _ q=>k c v q) (λc q=>by rw[zaj (zan q hn)];exact q) λc xs q=>by rw[zaj (zan q hn)];exact q
end
noncomputable def Rd(H:Hp)(a:Addr)(u:HO):Prop:=H a=some u∨∃o,H a=some (.frz o u)
theorem Rd.of{H:Hp}{a:Addr}{u:HO}(h:H a=some u):Rd H a u:=.inl h
theorem Rd.ok{P:AJ}{w:A1}{H:Hp}{h:Heap}{a:Addr}{u:HO}(r:Rd H a u)(x:HOk P w H h):ObjOk P w H h a u:=by
 rcases r with r |⟨o,r⟩
 .exact x a u r
 .obtain⟨_,q⟩:=x a _ r;exact q
noncomputable def Mut:Option HO->Prop
 |some (.lst _)=>True
 |some (.dK _)=>True
 |some (.dT _)=>True
 |some (.set _ _)=>True
 |some (.ins _ _ _)=>True
 |some (.ext _)=>True
 |_=>False
section
variable {P:AJ}{w:A1}{H:Hp}{h h':Heap}{x e:Addr}{o':HO}
theorem HOk.write(ok:HOk P w H h)(mu:Mut (H x))(he:e=x ∨ H e=some (.own x))(k:∀b u, b ≠ e -> h.get? b=some u -> h'.get? b=some u)(heo:∃u, h'.get? e=some u)
  (new:ObjOk P w (upd H x o') h' x o'):HOk P w (upd H x o') h':=λb u q=>by
 have nown:∀c y,H c=some (.own y)->c≠x:=λc y r z=>by subst z;rw[r]at mu;exact mu
 have ntup:∀c xs,H c=some (.tup xs)->c≠x:=λc xs r z=>by subst z;rw[r]at mu;exact mu
 by_cases hb:b=x
 .subst hb;rw[zaa]at q;cases q;exact new
 .rw[zaj hb]at q
  by_cases hbe:b=e
  .have q':H b=some (.own x) := by
    rcases he with z |z
    .exact absurd (hbe.trans z) hb
    .rw[hbe];exact z
   rw[q]at q';cases q';obtain⟨v,hv⟩:=heo;exact⟨v,by rw[hbe];exact hv⟩
  .refine (ok b u q).stay (λc v hc r=>k c v ?_ r) (λc r=>by rw[zaj (nown c b r)];exact r) λc xs r=>by rw[zaj (ntup c xs r)];exact r
   rcases hc with rfl |hc
   .exact hbe
   .rintro rfl;rcases he with z |z
    .exact nown c b hc z
    .rw[hc]at z;cases z;exact hb rfl
end
structure Un (fs ex:List Addr) (H H':Hp) (h h':Heap):Prop where
 keep:∀b o,h.get? b=some o->H b=none->b ∉ fs->b ∉ ex->h'.get? b=some o
 slot:∀b o,h.get? b=some o->H b=none->b∈fs->b ∉ ex->∃sl,h'.get? b=some { o with slots:=sl }
 free:∀b o,h.get? b=some o->H b=none->b ∉ ex->H' b=none
 there:∀b o,h.get? b=some o->b ∉ ex->∃o',h'.get? b=some o'
 tups:∀b xs,H b=some (.tup xs)->H' b=some (.tup xs)
 frzs:∀b o u,H b=some (.frz o u)->H' b=some (.frz o u)
 tbls:∀b ps,H b=some (.tbl ps)->∃more,H' b=some (.tbl (ps++more))
section
variable {fs fs' ex ex':List Addr}{H H1 H2:Hp}{h h1 h2 h':Heap}{a x e:Addr}{o:HO}
theorem Un.any(u:Un fs ex H H1 h h1){b:Addr}{ob:Obj}(q:h.get? b=some ob)(n:H b=none)(hx:b ∉ ex):∃sl,h1.get? b=some { ob with slots:=sl }:=by
 by_cases hb:b∈fs
 .exact u.slot b ob q n hb hx
 .exact⟨ob.slots,u.keep b ob q n hb hx⟩
theorem Un.kept(k:∀b u,h.get? b=some u->h'.get? b=some u):Un fs ex H H h h' :=
 ⟨λb ob q _ _ _=>k b ob q,λb ob q _ _ _=>⟨ob.slots,k b ob q⟩,λ_ _ _ n _=>n,λb ob q _=>⟨ob,k b ob q⟩,λ_ _ q=>q,λ_ _ _ q=>q,λ_ ps q=>⟨#[],by rw[q];simp⟩⟩
theorem Un.refl:Un fs ex H H h h:=Un.kept λ_ _ q=>q
theorem Un.laid(k:∀b u,h.get? b=some u->h'.get? b=some u)(hp:h.objs.size<=a)(hn:H a=none):Un fs ex H (upd H a o) h h' where
 keep:=λb u q _ _ _=>k b u q
 slot:=λb u q _ _ _=>⟨u.slots,k b u q⟩
 free:=λb u q n _=>by rw[zaj (AR (AS (Ay q) hp))];exact n
 there:=λb u q _=>⟨u,k b u q⟩
 tups:=λb xs q=>by rw[zaj (zan q hn)];exact q
 frzs:=λb u xs q=>by rw[zaj (zan q hn)];exact q
 tbls:=λb ps q=>⟨#[],by rw[zaj (zan q hn),q];simp⟩
theorem Un.write(mu:Mut (H x))(he:e=x∨H e=some (.own x))(k:∀b u,b≠e->h.get? b=some u->h'.get? b=some u)(heo:∃u,h'.get? e=some u):Un fs ex H (upd H x o) h h':=by
 have hx:∀b,H b=none->b≠x:=λb n z=>by subst z;rw[n]at mu;exact mu
 have hb:∀b,H b=none->b≠e:=λb n z=>by
  subst z;rcases he with r |r
  .exact hx b n r
  .rw[n]at r;cases r
 have hm:∀b u,H b=some u->¬ Mut (some u)->b≠x:=λb u q nm z=>by subst z;rw[q]at mu;exact nm mu
 refine⟨λb u q n _ _=>k b u (hb b n) q,λb u q n _ _=>⟨u.slots,k b u (hb b n) q⟩,λb u q n _=>by rw[zaj (hx b n)];exact n,λb u q _=>?_,
  λb xs q=>by rw[zaj (hm b _ q λz=>z)];exact q,λb u xs q=>by rw[zaj (hm b _ q λz=>z)];exact q,λb ps q=>⟨#[],by rw[zaj (hm b _ q λz=>z),q];simp⟩⟩
 by_cases hbe:b=e
 .subst hbe;exact heo
 .exact⟨u,k b u hbe q⟩
end
noncomputable def trk(h:Heap)(H:Hp):List Addr:=(Ba h.objs.size).filter λa=>(H a).isSome
noncomputable def hidT(h:Heap)(H:Hp):Heap:=W.hideAll h (trk h H)
theorem zle(h:Heap)(H:Hp):(hidT h H).objs.size=h.objs.size:=W.hideAll_size _ _
theorem zl2{h:Heap}{H:Hp}{b:Addr}{o:Obj}(e:h.get? b=some o)(n:H b=none):(hidT h H).get? b=some o :=
 W.hideAll_get _ e λhm=>by have q:(H b).isSome=true:=(DF.mp hm).2;rw[n]at q;simp at q
theorem zm8{h:Heap}{H:Hp}{b:Addr}{o:Obj}(e:(hidT h H).get? b=some o):h.get? b=some o/\H b=none:=by
 have e':h.get? b=some o:=W.of_hideAll (trk h H) e;refine⟨e',?_⟩
 cases q:H b with
 |none=>rfl
 |some x =>
  have hm:b∈trk h H:=List.mem_filter.mpr ⟨Bx.mpr (Ay e'),by simp[q]⟩;have z:(hidT h H).get? b=none:=W.hideAll_none (trk h H) hm;rw[z]at e;cases e
noncomputable def znp(g h:Heap)(L:Addr):List (Addr×Obj):=(Ba h.objs.size).filterMap λa=>if a=L∨(g.get? a).isSome=true then none else (h.get? a).map λo=>(a,o)
noncomputable def rest(g h:Heap)(L d:Addr):List (Addr×Obj):=(znp g h L).filter λp=>decide (p.1≠d)
structure Mod (K:W.Frag) (mg:Str->Option Ad) (base:Heap):Prop where
 kin:K.In base
 glob:base.Ns AE mg
 blt:∃mb,base.Ns builtinsNs mb/\∀x:Str,x ≠ "__name__" -> mb x=bootBuiltins x
 nolimit:base.NoLimit
structure Cx where
 prog:AJ
 w:A1
 K:W.Frag
 mg:Str->Option Ad
 base:Heap
 A:AT
 N:List Str
 s₀:Ae
 H₀:Hp
 env:Env
 outer:List Env
 stack:List Env
 ex:List Addr
 fn:Str->Bool
 calm:Bool
 pn:List (Addr×Obj)
 xe:Ad->Ae->Prop
noncomputable def frs(l:List Env):List Addr:=l.filterMap (·.frame)
noncomputable abbrev Cx.fs(X:Cx):List Addr:=frs X.outer
noncomputable def Vis(sc:Scope)(x:Str):Prop:=sc.names.lookup x=some .local∨sc.names.lookup x=some .cell∨sc.names.lookup x=some .free
noncomputable def Loc(sc:Scope)(x:Str):Prop:=sc.names.lookup x=some .local∨sc.names.lookup x=some .cell
noncomputable def Look(env:Env)(h:Heap)(m:Str->Option Ad)(x:Str)(u:Ad):Prop :=
 (env.kindOf x=some .local/\m x=some u)∨((env.kindOf x=some .cell∨env.kindOf x=some .free)/\∃c,env.cells.lookup x=some c/\h.IsCell c (some u))
structure Cx.Ok (X:Cx):Prop where
 mod:Mod X.K X.mg X.base
 kind:X.env.scope.kind=.function
 glob:X.env.globals=AE
 blt:X.env.builtins=builtinsNs
 above:X.s₀.heap.objs.size<=X.env.locals
 inj:∀x y c,X.env.cells.lookup x=some c->X.env.cells.lookup y=some c->x=y
 has:∀x,(X.env.kindOf x=some .cell∨X.env.kindOf x=some .free)->∃c,X.env.cells.lookup x=some c
 cab:∀x c,X.fn x=true->X.env.cells.lookup x=some c->X.s₀.heap.objs.size<=c
 hd:X.calm=true->X.A.handled=none
 frames:X.A.frames=some X.stack
 stk:X.stack=X.outer∨(X.stack=X.env::X.outer/\X.env.frame=some X.env.locals)
 exf:∀b∈X.ex,b≠X.env.locals/\∀x c,X.env.cells.lookup x=some c->c≠b
 bs:∀b o,X.base.get? b=some o->X.s₀.heap.get? b=some o/\X.H₀ b=none
 bsz:X.base.objs.size<=X.s₀.heap.objs.size
 noex:∀b o,X.base.get? b=some o->b ∉ X.ex
 exfs:∀b∈X.ex,b ∉ X.fs
 funs:X.s₀.heap.FunFrames X.base X.outer
 frf:∀b∈X.fs,X.H₀ b=none
structure Inv (X:Cx) (pins:List (Addr×Obj)) (σ:List (Option V)) (H:Hp) (s:Ae):Prop where
 ok:X.Ok
 os:s.os=X.s₀.os
 bare:AllBare s.gens
 base:Un X.fs X.ex X.H₀ H X.s₀.heap s.heap
 loc:∃m,s.heap.Ns X.env.locals m/\∀(i:Nat) (x:Str) (v:V),X.N[i]?=some x->σ[i]?=some (some v)->Vis X.env.scope x->∃u,RelV v u/\Look X.env s.heap m x u
 cell:∀x c,X.env.cells.lookup x=some c->∃v,s.heap.IsCell c v
 free:H X.env.locals=none
 freeC:∀x c,X.env.cells.lookup x=some c->H c=none
 pin:∀p∈X.pn++pins,s.heap.get? p.1=some p.2/\H p.1=none/\p.1≠X.env.locals/\p.1 ∉ X.fs/\∀v,p.2.data≠.cell v
 hok:HOk X.prog X.w H s.heap
 len:σ.length=X.N.length
section
variable {X:Cx}{pins:List (Addr×Obj)}{σ:List (Option V)}{H H':Hp}{s:Ae}{h':Heap}
theorem Cx.Ok.nofr(ok:X.Ok){b:Addr}{o:Obj}(e:X.base.get? b=some o):b ∉ X.fs:=λhb=>by have:=(ok.funs.mem hb).1;rw[e]at this;cases this
theorem Inv.bs(I:Inv X pins σ H s):∀b o,X.base.get? b=some o->s.heap.get? b=some o/\H b=none:=λb o e =>
 ⟨I.base.keep b o (I.ok.bs b o e).1 (I.ok.bs b o e).2 (I.ok.nofr e) (I.ok.noex b o e),I.base.free b o (I.ok.bs b o e).1 (I.ok.bs b o e).2 (I.ok.noex b o e)⟩
theorem Inv.bk(I:Inv X pins σ H s):∀b o,X.base.get? b=some o->s.heap.get? b=some o:=λb o e=>(I.bs b o e).1
theorem Inv.mod(I:Inv X pins σ H s):Mod X.K X.mg X.base:=I.ok.mod
theorem Inv.kIn(I:Inv X pins σ H s):X.K.In s.heap:=I.ok.mod.kin.keeps I.bk
theorem Inv.lt(I:Inv X pins σ H s):X.env.locals<s.heap.objs.size:=let ⟨_,hn,_⟩:=I.loc;hn.lt
theorem Inv.sz(I:Inv X pins σ H s):X.s₀.heap.objs.size<=s.heap.objs.size:=Bb I.ok.above (BU I.lt)
theorem Inv.nofs(I:Inv X pins σ H s){a:Addr}(h:s.heap.objs.size<=a):a ∉ X.fs:=λhb=>by obtain⟨_,o,ho,_⟩:=I.ok.funs.mem hb;exact absurd (AS (Ay ho) (Bb I.sz h)) (Cp _)
theorem Inv.cne(I:Inv X pins σ H s):∀x c,X.env.cells.lookup x=some c->c≠X.env.locals:=λx c e z=>by obtain⟨v,o,ho,hd⟩:=I.cell x c e;obtain⟨m,⟨o',es,ep,ho',hd',_⟩,_⟩:=I.loc;rw[z,ho']at ho;cases ho;rw[hd']at hd;cases hd
theorem Inv.funs(I:Inv X pins σ H s):s.heap.FunFrames X.base X.outer:=by
 have all:∀(l:List Env),(∀b∈frs l,b∈X.fs)->X.s₀.heap.FunFrames X.base l->s.heap.FunFrames X.base l:=by
  intro l
  induction l with
  |nil=>intro _ _;trivial
  |cons env r ih =>
   intro hs hl;obtain⟨hk,⟨L,o,hf,hn,ho,hd⟩,hr⟩:=hl;have hL:L∈X.fs:=hs L (by unfold frs;rw[List.filterMap_cons,hf];exact AC);obtain⟨sl,e⟩:=I.base.slot L o ho (I.ok.frf L hL) hL λz=>I.ok.exfs L z hL
   exact⟨hk,⟨L,_,hf,hn,e,hd⟩,ih (λb hb=>hs b (by unfold frs;rw[List.filterMap_cons,hf];exact At _ hb)) hr⟩
 exact all X.outer (λ_ hb=>hb) I.ok.funs
theorem Inv.stack(I:Inv X pins σ H s):s.heap.FunFrames X.base X.stack:=by
 rcases I.ok.stk with e |⟨e,hf⟩
 .rw[e];exact I.funs
 .rw[e];obtain⟨m,hn,_⟩:=I.loc;refine .cons (by rw[I.ok.kind];decide) hf hn ?_ I.funs;exact Heap.get?_none_of_le (Bb I.ok.bsz I.ok.above)
theorem Inv.stkSub(I:Inv X pins σ H s):∀b∈frs X.stack,b∈X.env.locals::X.fs:=λb hb=>by
 rcases I.ok.stk with e |⟨e,hf⟩
 .rw[e]at hb;exact At _ hb
 .rw[e]at hb;unfold frs at hb;rw[List.filterMap_cons,hf]at hb;exact hb
theorem Inv.stkFree(I:Inv X pins σ H s):∀b∈frs X.stack,H b=none:=λb hb=>by
 rcases Aw.mp (I.stkSub b hb) with e |hb
 .rw[e];exact I.free
 .obtain⟨_,o,ho,_⟩:=I.ok.funs.mem hb;exact I.base.free b o ho (I.ok.frf b hb) λz=>I.ok.exfs b z hb
theorem Inv.step{g':Array GenState}{t':Nat}{d':Drawn}{ch:List Addr}(I:Inv X pins σ H s)
  (hch:∀b∈ch,(b∈X.ex∨X.s₀.heap.objs.size<=b)/\b≠X.env.locals/\(∀x c,X.env.cells.lookup x=some c->c≠b)/\∀p∈X.pn++pins,p.1≠b)
  (keep:∀b o,b≠X.env.locals->b ∉ X.fs->b ∉ ch->s.heap.get? b=some o->H b=none->h'.get? b=some o)
  (slot:∀b o,b≠X.env.locals->b∈X.fs->b ∉ ch->s.heap.get? b=some o->H b=none->∃sl,h'.get? b=some { o with slots:=sl }) (free:∀b o,b ∉ ch->s.heap.get? b=some o->H b=none->H' b=none)
  (there:∀b o,b ∉ ch->s.heap.get? b=some o->∃o',h'.get? b=some o')
  (tups:∀b xs,H b=some (.tup xs)->H' b=some (.tup xs)) (frzs:∀b o u,H b=some (.frz o u)->H' b=some (.frz o u)) (tbls:∀b ps,H b=some (.tbl ps)->∃more,H' b=some (.tbl (ps++more)))
  (ns:∀m,s.heap.Ns X.env.locals m->h'.Ns X.env.locals m) (hok:HOk X.prog X.w H' h') (hg:AllBare g') :
  Inv X pins σ H' { s with heap:=h',gens:=g',drawn:=d',toks:=t' }:=by
 have neL:∀b o,X.s₀.heap.get? b=some o->b≠X.env.locals:=λb o e=>AR (AS (Ay e) I.ok.above)
 have neC:∀b o,X.s₀.heap.get? b=some o->b ∉ X.ex->b ∉ ch:=λb o e hx hb=>by
  rcases (hch b hb).1 with z |z
  .exact hx z
  .exact absurd (AS (Ay e) z) (Cp _)
 have cellK:∀x c,X.env.cells.lookup x=some c->∀v,s.heap.IsCell c v->h'.IsCell c v:=λx c e v ⟨o,ho,hd⟩=>by
  have nch:c ∉ ch:=λz=>(hch c z).2.2.1 x c e rfl
  by_cases hc:c∈X.fs
  .obtain⟨sl,q⟩:=slot c o (I.cne x c e) hc nch ho (I.freeC x c e);exact⟨_,q,hd⟩
  .exact⟨o,keep c o (I.cne x c e) hc nch ho (I.freeC x c e),hd⟩
 refine⟨I.ok,I.os,hg,⟨λb o e n hb hx=>?_,λb o e n hb hx=>?_,λb o e n hx=>?_,λb o e hx=>?_,λb xs e=>tups b xs (I.base.tups b xs e),λb o xs e=>frzs b o xs (I.base.frzs b o xs e),λb ps e=>?_⟩,?_,λx c e=>?_,?_,λx c e=>?_,λp hp=>?_,hok,I.len⟩
 .exact keep b o (neL b o e) hb (neC b o e hx) (I.base.keep b o e n hb hx) (I.base.free b o e n hx)
 .obtain⟨sl,e1⟩:=I.base.slot b o e n hb hx;obtain⟨sl',e2⟩:=slot b _ (neL b o e) hb (neC b o e hx) e1 (I.base.free b o e n hx);exact⟨sl',e2⟩
 .obtain⟨o',e1⟩:=I.base.there b o e hx;exact free b o' (neC b o e hx) e1 (I.base.free b o e n hx)
 .obtain⟨o',e1⟩:=I.base.there b o e hx;exact there b o' (neC b o e hx) e1
 .obtain⟨m1,e1⟩:=I.base.tbls b ps e;obtain⟨m2,e2⟩:=tbls b _ e1;exact⟨m1++m2,by rw[e2,Array.append_assoc]⟩
 .obtain⟨m,hn,hl⟩:=I.loc;refine⟨m,ns m hn,λi x v e1 e2 e3=>?_⟩;obtain⟨u,r,l⟩:=hl i x v e1 e2 e3;refine⟨u,r,?_⟩;rcases l with l |⟨k,c,e,z⟩
  .exact .inl l
  .exact .inr ⟨k,c,e,cellK x c e _ z⟩
 .obtain⟨v,z⟩:=I.cell x c e;exact⟨v,cellK x c e v z⟩
 .obtain⟨m,⟨o,_,_,ho,_⟩,_⟩:=I.loc;exact free _ o (λz=>(hch _ z).2.1 rfl) ho I.free
 .obtain⟨v,o,ho,hd⟩:=I.cell x c e;exact free c o (λz=>(hch c z).2.2.1 x c e rfl) ho (I.freeC x c e)
 .obtain⟨e,n,ne,nf,d⟩:=I.pin p hp;have nch:p.1 ∉ ch:=λz=>(hch p.1 z).2.2.2 p hp rfl
  exact⟨keep p.1 p.2 ne nf nch e n,free p.1 p.2 nch e n,ne,nf,d⟩
theorem Inv.un{t':Nat}(I:Inv X pins σ H s)(u:Un X.fs [] H H' s.heap h')(hok:HOk X.prog X.w H' h'):Inv X pins σ H' { s with heap:=h',toks:=t' }:=by
 obtain⟨m,⟨o,es,ep,ho,r⟩,_⟩:=id I.loc;obtain⟨sl,hL⟩:=u.any ho I.free (by simp)
 exact I.step (g':=s.gens) (d':=s.drawn) (ch:=[]) (λ_ z=>nomatch z) (λb o _ hb _ e n=>u.keep b o e n hb (by simp)) (λb o _ hb _ e n=>u.slot b o e n hb (by simp)) (λb o _ e n=>u.free b o e n (by simp)) (λb o _ e=>u.there b o e (by simp)) u.tups u.frzs u.tbls (λm' hm=>by obtain⟨o',es',ep',ho',r'⟩:=hm;rw[ho]at ho';cases ho';exact⟨_,es',ep',hL,r'⟩) hok I.bare
theorem Inv.call{g':Array GenState}{t':Nat}{d':Drawn}{ch:List Addr}(I:Inv X pins σ H s)(u:Un (frs X.stack) ch H H' s.heap h')(hok:HOk X.prog X.w H' h')(hg:AllBare g')
  (hch:∀b∈ch,(b∈X.ex∨X.s₀.heap.objs.size<=b)/\b≠X.env.locals/\(∀x c,X.env.cells.lookup x=some c->c≠b)/\∀p∈X.pn++pins,p.1≠b) :
  Inv X pins σ H' { s with heap:=h',gens:=g',drawn:=d',toks:=t' }:=by
 obtain⟨m,⟨o,es,ep,ho,r⟩,_⟩:=id I.loc;obtain⟨sl,hL⟩:=u.any ho I.free λz=>(hch _ z).2.1 rfl
 exact I.step (ch:=ch) hch (λb o hL hb hc e n=>u.keep b o e n (λz=>(Aw.mp (I.stkSub b z)).elim hL hb) hc) (λb o _ _ hc e n=>u.any e n hc) (λb o hc e n=>u.free b o e n hc) (λb o hc e=>u.there b o e hc) u.tups u.frzs u.tbls (λm' hm=>by obtain⟨o',es',ep',ho',r'⟩:=hm;rw[ho]at ho';cases ho';exact⟨_,es',ep',hL,r'⟩) hok hg
theorem Inv.turned{t':Nat}{it:Addr}(I:Inv X pins σ H s)(k:∀b o, b ≠ it -> s.heap.get? b=some o -> h'.get? b=some o)(hn:H it=none)(hL:it ≠ X.env.locals)
  (h1:it∈X.ex∨X.s₀.heap.objs.size<=it) (h2:∀x c,X.env.cells.lookup x=some c->c≠it) (h3:∀p∈X.pn++pins,p.1≠it):Inv X pins σ H { s with heap:=h',toks:=t' }:=by
 have nit:∀b u,H b=some u->b≠it:=λb u e z=>by rw[z,hn]at e;cases e
 refine I.step (g':=s.gens) (d':=s.drawn) (ch:=[it]) (λb hb=>?_) (λb o _ _ hc e _=>k b o (λz=>hc (by simp[z])) e) (λb o _ _ hc e _=>⟨o.slots,k b o (λz=>hc (by simp[z])) e⟩) (λ_ _ _ _ n=>n)
  (λb o hc e=>⟨o,k b o (λz=>hc (by simp[z])) e⟩) (λ_ _ e=>e) (λ_ _ _ e=>e) (λb ps e=>⟨#[],by rw[e];simp⟩) (λm hm=>?_) (λb u e=>?_) I.bare
 .have e:b=it:=by simpa using hb
  subst e;exact⟨h1,hL,h2,h3⟩
 .obtain⟨o,es,ep,ho,r⟩:=hm;exact⟨o,es,ep,k _ o (Bu hL) ho,r⟩
 .refine (I.hok b u e).stay (λc v hc q=>k c v ?_ q) (λ_ q=>q) λ_ _ q=>q
  rcases hc with z |z
  .rw[z];exact nit b u e
  .exact nit c _ z
theorem Inv.tok(I:Inv X pins σ H s)(t:Nat):Inv X pins σ H { s with toks:=t }:=I.un (h':=s.heap) (t':=t) Un.refl I.hok
theorem Inv.kept{t':Nat}(I:Inv X pins σ H s)(k:∀b u,s.heap.get? b=some u->h'.get? b=some u):Inv X pins σ H { s with heap:=h',toks:=t' }:=I.un (Un.kept k) (I.hok.kept k)
theorem Inv.laid{a:Addr}{o:HO}{t':Nat}(I:Inv X pins σ H s)(k:∀b u, s.heap.get? b=some u -> h'.get? b=some u)(hp:s.heap.objs.size <= a)(new:ObjOk X.prog X.w (upd H a o) h' a o) :
  Inv X pins σ (upd H a o) { s with heap:=h',toks:=t' }:=I.un (Un.laid k hp (I.hok.fresh hp)) (I.hok.laid k hp new)
theorem Inv.write{x e:Addr}{o:HO}{t':Nat}(I:Inv X pins σ H s)(mu:Mut (H x))(he:e=x ∨ H e=some (.own x))(k:∀b u, b ≠ e -> s.heap.get? b=some u -> h'.get? b=some u)(heo:∃u, h'.get? e=some u)
  (new:ObjOk X.prog X.w (upd H x o) h' x o):Inv X pins σ (upd H x o) { s with heap:=h',toks:=t' }:=I.un (Un.write mu he k heo) (I.hok.write mu he k heo new)
theorem Inv.pins_of{pins':List (Addr×Obj)}(I:Inv X pins σ H s)(h:∀p∈pins',s.heap.get? p.1=some p.2/\H p.1=none/\p.1≠X.env.locals/\p.1 ∉ X.fs/\∀v,p.2.data≠.cell v):Inv X pins' σ H s :=
 ⟨I.ok,I.os,I.bare,I.base,I.loc,I.cell,I.free,I.freeC,λp hp=>(AH.mp hp).elim (λz=>I.pin p (Bc _ z)) (h p),I.hok,I.len⟩
theorem ziW{N:List Str}(hN:N.Nodup){i j:Nat}{x:Str}(a:N[i]?=some x)(b:N[j]?=some x):i=j:=by obtain⟨h1,e1⟩:=Ac.mp a;obtain⟨h2,e2⟩:=Ac.mp b;exact (List.getElem_inj hN).mp (e1.trans e2.symm)
theorem zea{M:Model}{A:AT}{E:Ad -> Ae -> Prop}{i:Nat}{x:Str}{v:V}{u:Ad}{Q:Unit -> Ae -> Prop}(I:Inv X pins σ H s)(hN:X.N.Nodup)(hi:X.N[i]? = some x)(hx:Loc X.env.scope x)(r:RelV v u)
  (h:∀s',Inv X pins (σ.set i (some v)) H s'->(∃a,Cz a s.heap s'.heap/\(a=X.env.locals∨X.env.cells.lookup x=some a))->Q () s') (hf:X.fn x=true∨X.env.scope.names.lookup x=some .local:=by first |exact .inl rfl |exact .inr rfl |assumption):Ar M A (storeName X.env x u) Q E s:=by
 obtain⟨m,hn,hl⟩:=id I.loc;have hcls:(X.env.scope.kind == .class || (X.env.scope.kind == .module && X.env.locals != X.env.globals))=false:=by rw[I.ok.kind];rfl
 have hiσ:i<σ.length:=by rw[I.len];exact (Ac.mp hi).1
 have cne:=I.cne
 have tracked:∀{a:Addr} {h':Heap},(∃o,s.heap.get? a=some o/\H a=none)->Cz a s.heap h'->HOk X.prog X.w H h':=λ{a h'} ha hs b ob e=>by
  obtain⟨_,_,hfree⟩:=ha;refine (I.hok b ob e).stay (λc w' hc q=>(hs.2 c ?_).trans q) (λ_ q=>q) λ_ _ q=>q
  rintro rfl;rcases hc with rfl |hc
  .rw[hfree]at e;cases e
  .rw[hfree]at hc;cases hc
 rcases hx with hk |hk
 .refine wpAny_storeName_local hk hn (λh' hn' hs=>?_) hcls;obtain⟨oL,_,_,hoL,_⟩:=id hn;refine h _ ⟨I.ok,I.os,I.bare,⟨λb o e n hb hx=>?_,λb o e n hb hx=>?_,I.base.free,λb o e hx=>?_,I.base.tups,I.base.frzs,I.base.tbls⟩,⟨_,hn',λj y v' e1 e2 e3=>?_⟩,λy c e=>?_,I.free,I.freeC,λp hp=>?_,tracked ⟨oL,hoL,I.free⟩ hs,by simpa using I.len⟩ ⟨_,hs,.inl rfl⟩
  .exact (hs.2 b (AR (AS (Ay e) I.ok.above))).trans (I.base.keep b o e n hb hx)
  .obtain⟨sl,e1⟩:=I.base.slot b o e n hb hx;exact⟨sl,(hs.2 b (AR (AS (Ay e) I.ok.above))).trans e1⟩
  .obtain⟨o',e1⟩:=I.base.there b o e hx;exact⟨o',(hs.2 b (AR (AS (Ay e) I.ok.above))).trans e1⟩
  .by_cases hj:j=i
   .subst hj;rw[hi]at e1;cases e1;rw[List.getElem?_set_self hiσ]at e2
    cases e2
    exact⟨u,r,.inl ⟨hk,by simp⟩⟩
   .rw[List.getElem?_set_ne (Bu hj)]at e2;obtain⟨u',r',q⟩:=hl j y v' e1 e2 e3;refine⟨u',r',?_⟩;rcases q with⟨k,e⟩ |⟨k,c,e,z⟩
    .refine .inl ⟨k,?_⟩;have:y≠x:=λe=>hj (ziW hN e1 (e ▸ hi))
     simp[this,e]
    .exact .inr ⟨k,c,e,z.sameBut hs (cne y c e)⟩
  .obtain⟨w',z⟩:=I.cell y c e;exact⟨w',z.sameBut hs (cne y c e)⟩
  .obtain⟨e,n,ne,nf,d⟩:=I.pin p hp;exact⟨(hs.2 p.1 ne).trans e,n,ne,nf,d⟩
 .have hfn:X.fn x=true := by
   rcases hf with z |z
   .exact z
   .rw[z]at hk;cases hk
  obtain⟨c,hc⟩:=I.ok.has x (.inl hk);obtain⟨w',z⟩:=I.cell x c hc;refine wpAny_storeName_cell I.ok.kind hk hc z (λh' hc' hs=>?_);obtain⟨oc,hoc,hocd⟩:=id z;refine h { s with heap:=h' } ⟨I.ok,I.os,I.bare,⟨λb o e n hb hx=>?_,λb o e n hb hx=>?_,I.base.free,λb o e hx=>?_,I.base.tups,I.base.frzs,I.base.tbls⟩,⟨m,hn.sameBut hs (Bu (cne x c hc)),λj y v' e1 e2 e3=>?_⟩,λy c' e=>?_,I.free,I.freeC,λp hp=>?_,tracked ⟨oc,hoc,I.freeC x c hc⟩ hs,by simpa using I.len⟩ ⟨c,hs,.inr hc⟩
  .exact (hs.2 b (AR (AS (Ay e) (I.ok.cab x c hfn hc)))).trans (I.base.keep b o e n hb hx)
  .obtain⟨sl,e1⟩:=I.base.slot b o e n hb hx;exact⟨sl,(hs.2 b (AR (AS (Ay e) (I.ok.cab x c hfn hc)))).trans e1⟩
  .obtain⟨o',e1⟩:=I.base.there b o e hx;exact⟨o',(hs.2 b (AR (AS (Ay e) (I.ok.cab x c hfn hc)))).trans e1⟩
  .by_cases hj:j=i
   .subst hj;rw[hi]at e1;cases e1;rw[List.getElem?_set_self hiσ]at e2
    cases e2
    exact⟨u,r,.inr ⟨.inl hk,c,hc,hc'⟩⟩
   .rw[List.getElem?_set_ne (Bu hj)]at e2;obtain⟨u',r',q⟩:=hl j y v' e1 e2 e3;refine⟨u',r',?_⟩;rcases q with q |⟨k,c',e,z'⟩
    .exact .inl q
    .refine .inr ⟨k,c',e,z'.sameBut hs ?_⟩;rintro rfl;exact hj (ziW hN e1 (I.ok.inj _ _ _ e hc ▸ hi))
  .by_cases hcc:c'=c
   .subst hcc;exact⟨_,hc'⟩
   .obtain⟨w2,z2⟩:=I.cell y c' e;exact⟨w2,z2.sameBut hs hcc⟩
  .obtain⟨e,n,ne,nf,d⟩:=I.pin p hp;refine⟨(hs.2 p.1 ?_).trans e,n,ne,nf,d⟩;intro q;rw[q,hoc]at e;have q':oc=p.2:=AX e;exact d w' (by rw[<- q'];exact hocd)
theorem zdb{M:Model}{A:AT}{E:Ad -> Ae -> Prop}{i:Nat}{x:Str}{v:V}{u:Ad}{Q:Unit -> Ae -> Prop}(I:Inv X pins σ H s)(hN:X.N.Nodup)(hi:X.N[i]? = some x)(hx:Loc X.env.scope x)(r:RelV v u)
  (h:∀s',Inv X pins (σ.set i (some v)) H s'->Q () s') (hf:X.fn x=true∨X.env.scope.names.lookup x=some .local:=by first |exact .inl rfl |exact .inr rfl |assumption):Ar M A (storeName X.env x u) Q E s :=
 zea I hN hi hx r (λs' I' _=>h s' I') hf
theorem Inv.call'{s':Ae}{ch:List Addr}(I:Inv X pins σ H s)(ho:s'.os=s.os)(u:Un (frs X.stack) ch H H' s.heap s'.heap)(hok:HOk X.prog X.w H' s'.heap)(hg:AllBare s'.gens)
  (hch:∀b∈ch,(b∈X.ex∨X.s₀.heap.objs.size<=b)/\b≠X.env.locals/\(∀x c,X.env.cells.lookup x=some c->c≠b)/\∀p∈X.pn++pins,p.1≠b):Inv X pins σ H' s':=by
 obtain⟨h',g',d',t',o'⟩:=s';have e:o'=s.os:=ho;subst e;exact I.call (g':=g') (t':=t') (d':=d') u hok hg hch
end
noncomputable abbrev XK:=Ad->Option Addr->Hp->Prop
noncomputable abbrev St:=List (Option V)
noncomputable abbrev VK:=V->Hp->Prop
noncomputable abbrev TE:=St->Hp->VK->Prop
noncomputable abbrev TT:=St->Hp->(Bool->Hp->Prop)->Prop
noncomputable abbrev TA:=St->Hp->(List V->Hp->Prop)->Prop
structure Ends where
 nx:St->Hp->Prop
 rt:VK
 bk:St->Hp->Prop:=λ_ _=>False
 ct:St->Hp->Prop:=λ_ _=>False
noncomputable abbrev TS:=Ends->St->Hp->Prop
noncomputable def EP(X:Cx)(pins:List (Addr×Obj))(σ:St)(Q:VK)(u:Ad)(s':Ae):Prop:=∃v H',Inv X pins σ H' s'/\RelV v u/\Q v H'
noncomputable def TP(X:Cx)(pins:List (Addr×Obj))(σ:St)(Q:Bool->Hp->Prop)(b:Bool)(s':Ae):Prop:=∃H',Inv X pins σ H' s'/\Q b H'
noncomputable def AP(X:Cx)(pins:List (Addr×Obj))(σ:St)(Q:List V->Hp->Prop)(us:List Ad)(s':Ae):Prop:=∃vs H',Inv X pins σ H' s'/\Vals vs us/\Q vs H'
noncomputable def SP(X:Cx)(pins:List (Addr×Obj))(D:Ends)(f:Flow)(s':Ae):Prop :=
 match f with
 |.next=>∃ σ' H',Inv X pins σ' H' s'/\D.nx σ' H'
 |.brk=>∃ σ' H',Inv X pins σ' H' s'/\D.bk σ' H'
 |.cont=>∃ σ' H',Inv X pins σ' H' s'/\D.ct σ' H'
 |.ret u=>∃v σ' H',Inv X pins σ' H' s'/\RelV v u/\D.rt v H'
noncomputable def PE(X:Cx)(e:Expr)(t:TE):Prop :=
 ∀(pins:List (Addr×Obj)) (s:Ae) (σ:St) (H:Hp) (Q:VK),Inv X pins σ H s->t σ H Q->Ar (Ax X.prog X.w) X.A (eval e X.env) (EP X pins σ Q) X.xe s
noncomputable def PT(X:Cx)(e:Expr)(t:TT):Prop :=
 ∀(pins:List (Addr×Obj)) (s:Ae) (σ:St) (H:Hp) (Q:Bool->Hp->Prop),Inv X pins σ H s->t σ H Q->Ar (Ax X.prog X.w) X.A (isTrue e X.env (eval e X.env)) (TP X pins σ Q) X.xe s
noncomputable def PW(X:Cx)(e:Expr)(t:TT):Prop :=
 ∀(whole:Sem Ad) (pins:List (Addr×Obj)) (s:Ae) (σ:St) (H:Hp) (Q:Bool->Hp->Prop),Inv X pins σ H s->t σ H Q->Ar (Ax X.prog X.w) X.A (isTrue e X.env whole) (TP X pins σ Q) X.xe s
theorem PW.pt{X:Cx}{e:Expr}{t:TT}(h:PW X e t):PT X e t:=h _
noncomputable def PA(X:Cx)(es:List Expr)(t:TA):Prop :=
 ∀(pos:Pos) (pins:List (Addr×Obj)) (s:Ae) (σ:St) (H:Hp) (Q:List V->Hp->Prop),Inv X pins σ H s->t σ H Q->Ar (Ax X.prog X.w) X.A (spliced (backTo pos (A3 es X.env))) (AP X pins σ Q) X.xe s
noncomputable def PS(X:Cx)(st:Stmt)(t:TS):Prop :=
 ∀(pins:List (Addr×Obj)) (s:Ae) (σ:St) (H:Hp) (D:Ends),Inv X pins σ H s->t D σ H->Ar (Ax X.prog X.w) X.A (exec st X.env) (SP X pins D) X.xe s
noncomputable def PSs(X:Cx)(st:List Stmt)(t:TS):Prop :=
 ∀(pins:List (Addr×Obj)) (s:Ae) (σ:St) (H:Hp) (D:Ends),Inv X pins σ H s->t D σ H->Ar (Ax X.prog X.w) X.A (execs st X.env) (SP X pins D) X.xe s
theorem thn{α:Type}{t:Sem α}{Q Q':α->Ae->Prop}{M:Model}{A:AT}{E:Ad->Ae->Prop}{s:Ae}(h:Ar M A t Q E s)(hQ:∀a s,Q a s->Q' a s):Ar M A t Q' E s:=BG h hQ λ_ _ x=>x
section
variable {X:Cx}
noncomputable def tVar(i:Nat):TE:=λσ H Q=>∃v,σ[i]?=some (some v)/\Q v H
noncomputable def tC(v:V):TE:=λ_ H Q=>Q v H
theorem znM {i:Nat}{x:Str}{pos:Pos}(hN:X.N[i]?=some x) (hv:Vis X.env.scope x) (hd:(x == ("__debug__" : Str))=false:=by decide) (hcd:(x == ("__classdict__" : Str))=false:=by decide):PE X (.Name x pos) (tVar i):=by
 intro pins s σ H Q I h;obtain⟨v,e,h⟩:=h;obtain⟨m,hn,hl⟩:=I.loc;obtain⟨u,r,l⟩:=hl i x v hN e hv;have fin:EP X pins σ Q u s:=⟨v,H,I,r,h⟩;rcases l with⟨hk,hm⟩ |⟨hk,c,hc,hcell⟩
 .exact wpAny_Name (wpAny_loadName_local I.ok.kind hk hn hm fin) hd
 .rcases hk with hk |hk
  .exact wpAny_Name (wpAny_loadName_cell I.ok.kind hk hc hcell fin) hd
  .exact wpAny_Name (wpAny_loadName_free I.ok.kind hk hc hcell fin hcd) hd
theorem zae{i j pos}:PE X (.Constant (.int i) j pos) (tC (.int i)):=λ_ _ _ H _ I h=>wpAny_Constant_int ⟨.int i,H,I.tok _,⟨_,rfl⟩,h⟩
theorem pe_bl{b j pos}:PE X (.Constant (.bool b) j pos) (tC (.bl b)):=λ_ _ _ H _ I h=>Constant_bool ⟨.bl b,H,I,rfl,h⟩
theorem zaY{j pos}:PE X (.Constant .none j pos) (tC .non):=λ_ _ _ H _ I h=>Constant_none ⟨.non,H,I,rfl,h⟩
theorem ziO{x j pos}:PE X (.Constant (.str x) j pos) (tC (.str x)):=λ_ _ _ H _ I h=>Calls.Constant_str ⟨.str x,H,I.tok _,⟨_,rfl⟩,h⟩
noncomputable def Gl(X:Cx)(x:Str):Prop:=X.env.kindOf x=some .globalImplicit
theorem zid{E:Ad -> Ae -> Prop}{pins:List (Addr × Obj)}{s:Ae}{σ : St}{H:Hp}{x:Str}{u:Ad}{pos:Pos}{Q:Ad -> Ae -> Prop}(I:Inv X pins σ H s)(hg:Gl X x)(hm:X.mg x=some u)(h:Q u s)
  (hd:(x == ("__debug__" : Str))=false:=by decide):Ar (Ax X.prog X.w) X.A (eval (.Name x pos) X.env) Q E s :=
 Calls.Name_function_global I.ok.kind hg (Calls.loadGlobal_global (by rw[I.ok.glob];exact I.mod.glob.keeps I.bk) hm h) hd
theorem zdp{E:Ad -> Ae -> Prop}{pins:List (Addr × Obj)}{s:Ae}{σ : St}{H:Hp}{x:Str}{u:Ad}{pos:Pos}{Q:Ad -> Ae -> Prop}(I:Inv X pins σ H s)(hg:Gl X x)(hm:X.mg x=none)(hv:bootBuiltins x=some u)(h:Q u s)
  (hn:x ≠ "__name__":=by decide) (hd:(x == ("__debug__" : Str))=false:=by decide):Ar (Ax X.prog X.w) X.A (eval (.Name x pos) X.env) Q E s:=by
 obtain⟨mb,h1,h2⟩:=I.mod.blt;exact Calls.Name_function_global I.ok.kind hg (Calls.loadGlobal_builtin (by rw[I.ok.glob];exact I.mod.glob.keeps I.bk) hm (by rw[I.ok.blt];exact h1.keeps I.bk) ((h2 x hn).trans hv) h) hd
theorem zdE {x:Str}{v:V}{u:Ad}{pos:Pos}(hg:Gl X x) (hm:X.mg x=some u) (r:RelV v u) (hd:(x == ("__debug__" : Str))=false:=by decide):PE X (.Name x pos) (tC v) :=
 λ_ _ _ H _ I h=>zid I hg hm ⟨v,H,I,r,h⟩ hd
theorem zf5 {x:Str}{v:V}{u:Ad}{pos:Pos}(hg:Gl X x) (hm:X.mg x=none) (hv:bootBuiltins x=some u) (r:RelV v u) (hn:x ≠ "__name__":=by decide) (hd:(x == ("__debug__" : Str))=false:=by decide):PE X (.Name x pos) (tC v) :=
 λ_ _ _ H _ I h=>zdp I hg hm hv ⟨v,H,I,r,h⟩ hn hd
variable {a b:Expr}{ta tb:TE}{pos:Pos}
noncomputable def PC(X:Cx)(op:CmpOp)(a b:Expr)(t:TE):Prop :=
 ∀(pins:List (Addr×Obj)) (s:Ae) (σ:St) (H:Hp) (Q:VK),Inv X pins σ H s->t σ H Q ->
  Ar (Ax X.prog X.w) X.A (eval a X.env) (λv s₁=>Ar (Ax X.prog X.w) X.A (eval b X.env) (λu s₂=>Ar (Ax X.prog X.w) X.A (BA op v u) (EP X pins σ Q) X.xe s₂) X.xe s₁) X.xe s
noncomputable def tB(t:TE):TT:=λσ H Q=>t σ H λx H1=>∃c,x=.bl c/\Q c H1
theorem zep{op:CmpOp}{t:TE}(h:PC X op a b t)(h1:behindInMarks op b=false:=by first |exact nobehind _ (by decide) (by decide) |rfl):PT X (.Compare a [op] [b] pos) (tB t):=by
 intro pins s σ H Q I hw;refine wpAny_isTrue_Compare1 (thn (h pins s σ H _ I hw) λv s1 h1=>thn h1 λu s2 h2=>thn h2 λc s3 ⟨x,H1,I1,r1,q1⟩=>?_) h1;obtain⟨d,rfl,q⟩:=q1
 cases r1
 exact BH ⟨H1,I1,q⟩
theorem zcQ{e:Expr}{t:TE}(h:PE X e t)(he:∀whole,isTrue e X.env whole=(do let v <- whole;standAt e.pos;Do [v] (truthy v)):=by intro _;rfl):PT X e (tB t):=by
 intro pins s σ H Q I hw;refine isTrue_plain (thn (h pins s σ H _ I hw) λv s1 ⟨x,H1,I1,r1,q1⟩=>?_) (he _);obtain⟨d,rfl,q⟩:=q1
 cases r1
 exact BH ⟨H1,I1,q⟩
variable {tA tB':TT}{rest:List Expr}
noncomputable def tAnd(t u:TT):TT:=λσ H Q=>t σ H λc H1=>if c=true then u σ H1 Q else Q false H1
noncomputable def tOr(t u:TT):TT:=λσ H Q=>t σ H λc H1=>if c=true then Q true H1 else u σ H1 Q
noncomputable def tNot(t:TT):TT:=λσ H Q=>t σ H λc H1=>Q (!c) H1
theorem zkB(ha:PT X a tA):PW X (.BoolOp .And [a] pos) tA:=by
 intro wh pins s σ H Q I h;refine isTrue_and (thn (ha pins s σ H Q I h) λc s1 e=>?_)
 cases c with
 |true=>exact isTrue_and_nil e
 |false=>exact e
theorem zkA(ha:PT X a tA):PW X (.BoolOp .Or [a] pos) tA:=by
 intro wh pins s σ H Q I h;refine isTrue_or (thn (ha pins s σ H Q I h) λc s1 e=>?_)
 cases c with
 |false=>exact isTrue_or_nil e
 |true=>exact e
theorem zmx(ha:PT X a tA)(hb:PW X (.BoolOp .And (b::rest) pos) tB'):PW X (.BoolOp .And (a::b::rest) pos) (tAnd tA tB'):=by
 intro wh pins s σ H Q I h;refine isTrue_and (thn (ha pins s σ H _ I h) λc s1 ⟨H1,I1,q1⟩=>?_)
 cases c with
 |true=>exact hb wh pins s1 σ H1 Q I1 q1
 |false=>exact⟨H1,I1,q1⟩
theorem pw_or(ha:PT X a tA)(hb:PW X (.BoolOp .Or (b::rest) pos) tB'):PW X (.BoolOp .Or (a::b::rest) pos) (tOr tA tB'):=by
 intro wh pins s σ H Q I h;refine isTrue_or (thn (ha pins s σ H _ I h) λc s1 ⟨H1,I1,q1⟩=>?_)
 cases c with
 |true=>exact⟨H1,I1,q1⟩
 |false=>exact hb wh pins s1 σ H1 Q I1 q1
theorem zeo(ha:PT X a tA):PT X (.UnaryOp .Not a pos) (tNot tA):=by intro pins s σ H Q I h;exact isTrue_not (ha pins s σ H (λc H1=>Q (!c) H1) I h)
noncomputable def tAndV(ta tb:TE):TE:=λσ H Q=>ta σ H λx H1=>∃c,x=.bl c/\if c=true then tb σ H1 Q else Q (.bl false) H1
noncomputable def tOrV(ta tb:TE):TE:=λσ H Q=>ta σ H λx H1=>∃c,x=.bl c/\if c=true then Q (.bl true) H1 else tb σ H1 Q
noncomputable def tNotV(ta:TE):TE:=λσ H Q=>ta σ H λx H1=>∃c,x=.bl c/\Q (.bl (!c)) H1
theorem zfu{op}{t:TE}(h:PE X a t):PE X (.BoolOp op [a] pos) t:=λpins s σ H Q I hw=>BoolOp_one (h pins s σ H Q I hw)
theorem ziQ(ha:PE X a ta)(hb:PE X (.BoolOp .And (b::rest) pos) tb):PE X (.BoolOp .And (a::b::rest) pos) (tAndV ta tb):=by
 intro pins s σ H Q I h;refine BoolOp_and (thn (ha pins s σ H _ I h) λv s1 ⟨x,H1,I1,r1,q1⟩=>?_);obtain⟨c,rfl,q1⟩:=q1
 cases r1
 refine BH ?_
 cases c with
 |true=>exact hb pins s1 σ H1 Q I1 q1
 |false=>exact⟨.bl false,H1,I1,rfl,q1⟩
theorem pe_or(ha:PE X a ta)(hb:PE X (.BoolOp .Or (b::rest) pos) tb):PE X (.BoolOp .Or (a::b::rest) pos) (tOrV ta tb):=by
 intro pins s σ H Q I h;refine BoolOp_or (thn (ha pins s σ H _ I h) λv s1 ⟨x,H1,I1,r1,q1⟩=>?_);obtain⟨c,rfl,q1⟩:=q1
 cases r1
 refine BH ?_
 cases c with
 |false=>exact hb pins s1 σ H1 Q I1 q1
 |true=>exact⟨.bl true,H1,I1,rfl,q1⟩
theorem zmA(ha:PE X a ta):PE X (.UnaryOp .Not a pos) (tNotV ta):=by
 intro pins s σ H Q I h;refine UnaryOp_ (thn (ha pins s σ H _ I h) λv s1 ⟨x,H1,I1,r1,q1⟩=>?_);obtain⟨c,rfl,q1⟩:=q1
 cases r1
 exact not_of (BH ⟨.bl (!c),H1,I1,rfl,q1⟩)
noncomputable def tIf(t:TT)(ta tb:TE):TE:=λσ H Q=>t σ H λc H1=>if c=true then ta σ H1 Q else tb σ H1 Q
theorem zcn{c:Expr}(hc:PT X c tA)(ha:PE X a ta)(hb:PE X b tb):PE X (.IfExp c a b pos) (tIf tA ta tb):=by
 intro pins s σ H Q I h;refine wpAny_IfExp (thn (hc pins s σ H _ I h) λd s1 ⟨H1,I1,q1⟩=>?_)
 cases d with
 |true=>exact ha pins s1 σ H1 Q I1 q1
 |false=>exact hb pins s1 σ H1 Q I1 q1
end
noncomputable def SqL(K:W.Frag)(H:Hp)(a:Addr)(xs:List V):Prop :=
 Rd H a (.lst xs) ∨
  ∃(o:Obj) (its:Array Ad) (n:Nat),K.lookup a=some o/\o.cls=.type "list" /\ o.dict=none/\o.data=.seq its n/\its.size<=sizeLine/\Vals xs its.toList
noncomputable def SqT(K:W.Frag)(H:Hp)(a:Addr)(xs:List V):Prop :=
 Rd H a (.tup xs) ∨
  ∃(o:Obj) (its:Array Ad) (n:Nat),K.lookup a=some o/\o.cls=.type "tuple" /\ o.data=.seq its n/\its.size<=sizeLine/\Vals xs its.toList
noncomputable def absV:Ad->Option V
 |.none=>some .non
 |.bool b=>some (.bl b)
 |.int i _=>some (.int i)
 |.str x _=>some (.str x)
 |.bytes b _=>some (.byt b)
 |.float b _=>some (.flt b)
 |.ref a=>some (.ref a)
 |.type n=>some (.ty n)
 |_=>none
theorem RelV.abs{x:V}{u:Ad}(r:RelV x u):absV u=some x:=by
 cases x with
 |non=>cases r;rfl
 |bl _=>cases r;rfl
 |int _=>obtain⟨t,rfl⟩:=r;rfl
 |str _=>obtain⟨t,rfl⟩:=r;rfl
 |byt _=>obtain⟨t,rfl⟩:=r;rfl
 |flt _=>obtain⟨t,rfl⟩:=r;rfl
 |ref _=>cases r;rfl
 |ty _=>cases r;rfl
theorem RelV.inj{x y:V}{u:Ad}(r:RelV x u)(q:RelV y u):x=y:=AX (r.abs.symm.trans q.abs)
theorem Vals.inj:∀{xs ys:List V}{us:List Ad},Vals xs us->Vals ys us->xs=ys
 |_,_,_,.nil,.nil=>rfl
 |_,_,_,.cons r t,.cons r' t'=>by rw[r.inj r',Vals.inj t t']
section
variable {X:Cx}{pins:List (Addr×Obj)}{σ:St}{H:Hp}{s:Ae}{a:Addr}{xs ys:List V}
theorem SqL.of{K:W.Frag}(h:H a=some (.lst xs)):SqL K H a xs:=.inl (.inl h)
theorem SqT.of{K:W.Frag}(h:H a=some (.tup xs)):SqT K H a xs:=.inl (.inl h)
theorem Inv.list(I:Inv X pins σ H s)(h:SqL X.K H a xs):∃its:List Ad,Vals xs its/\PlainL s.heap a its.toArray/\xs.length<=sizeLine:=by
 rcases h with h |⟨o,its,n,hk,hc,hd,hs,hz,r⟩
 .obtain⟨z,its,n,r,e⟩:=h.ok I.hok;exact⟨its,r,⟨_,n,e,rfl,rfl,rfl⟩,z⟩
 .refine⟨its.toList,r,⟨o,n,I.kIn a o hk,hc,hd,by simpa using hs⟩,?_⟩;have e:=r.length;simp only[CJ]at e;lia
theorem Inv.tuple(I:Inv X pins σ H s)(h:SqT X.K H a xs):∃its:List Ad,Vals xs its/\IsTup s.heap a its.toArray/\xs.length<=sizeLine:=by
 rcases h with h |⟨o,its,n,hk,hc,hs,hz,r⟩
 .obtain⟨z,its,r,p⟩:=h.ok I.hok;exact⟨its,r,p,z⟩
 .refine⟨its.toList,r,⟨o,I.kIn a o hk,hc,n,by simpa using hs⟩,?_⟩;have e:=r.length;simp only[CJ]at e;lia
theorem Inv.list_inj(I:Inv X pins σ H s)(h:SqL X.K H a xs)(h':SqL X.K H a ys):xs=ys:=by
 obtain⟨its,r,⟨o,n,e,_,_,d⟩,_⟩:=I.list h;obtain⟨its',r',⟨o',n',e',_,_,d'⟩,_⟩:=I.list h';rw[e]at e';cases e';rw[d]at d';injection d' with d1 _;have:its=its':=by simpa using congrArg Array.toList d1
 subst this;exact r.inj r'
theorem Inv.tuple_inj(I:Inv X pins σ H s)(h:SqT X.K H a xs)(h':SqT X.K H a ys):xs=ys:=by
 obtain⟨its,r,⟨o,e,_,n,d⟩,_⟩:=I.tuple h;obtain⟨its',r',⟨o',e',_,n',d'⟩,_⟩:=I.tuple h';rw[e]at e';cases e';rw[d]at d';injection d' with d1 _;have:its=its':=by simpa using congrArg Array.toList d1
 subst this;exact r.inj r'
end
noncomputable abbrev Cx.wish(X:Cx)(E:Ad->Ae->Prop):Cx:={ X with xe:=E }
noncomputable abbrev Cx.nox(X:Cx):Cx:=X.wish λ_ _=>False
theorem Cx.Ok.wish{X:Cx}(ok:X.Ok)(E:Ad->Ae->Prop):(X.wish E).Ok :=
 ⟨ok.mod,ok.kind,ok.glob,ok.blt,ok.above,ok.inj,ok.has,ok.cab,ok.hd,ok.frames,ok.stk,ok.exf,ok.bs,ok.bsz,ok.noex,ok.exfs,ok.funs,ok.frf⟩
theorem Cx.Ok.unwish{X:Cx}{E:Ad->Ae->Prop}(ok:(X.wish E).Ok):X.Ok :=
 ⟨ok.mod,ok.kind,ok.glob,ok.blt,ok.above,ok.inj,ok.has,ok.cab,ok.hd,ok.frames,ok.stk,ok.exf,ok.bs,ok.bsz,ok.noex,ok.exfs,ok.funs,ok.frf⟩
section
variable {X:Cx}{pins:List (Addr×Obj)}{σ:St}{H:Hp}{s:Ae}{E:Ad->Ae->Prop}
theorem Inv.wish(I:Inv X pins σ H s)(E:Ad->Ae->Prop):Inv (X.wish E) pins σ H s:=⟨I.ok.wish E,I.os,I.bare,I.base,I.loc,I.cell,I.free,I.freeC,I.pin,I.hok,I.len⟩
theorem Inv.unwish(I:Inv (X.wish E) pins σ H s):Inv X pins σ H s:=⟨I.ok.unwish,I.os,I.bare,I.base,I.loc,I.cell,I.free,I.freeC,I.pin,I.hok,I.len⟩
theorem SP.unwish{D:Ends}{f:Flow}{s':Ae}(h:SP (X.wish E) pins D f s'):SP X pins D f s':=by
 cases f with
 |next=>obtain⟨σ',H',I,q⟩:=h;exact⟨σ',H',I.unwish,q⟩
 |brk=>obtain⟨σ',H',I,q⟩:=h;exact⟨σ',H',I.unwish,q⟩
 |cont=>obtain⟨σ',H',I,q⟩:=h;exact⟨σ',H',I.unwish,q⟩
 |ret u=>obtain⟨v,σ',H',I,r,q⟩:=h;exact⟨v,σ',H',I.unwish,r,q⟩
theorem PSs.nox{st:List Stmt}{t:TS}(h:PSs X.nox st t):PSs X st t:=λpins s σ H D I hw =>
 BG (h pins s σ H D (I.wish _) hw) (λ_ _ q=>q.unwish) λ_ _ z=>Bt z
end
section
variable {X:Cx}{st:Stmt}{rest:List Stmt}{t u:TS}{e:Expr}{te:TE}{pos:Pos}
noncomputable def tNext:TS:=λD σ H=>D.nx σ H
noncomputable def tSeq(t u:TS):TS:=λD σ H=>t { D with nx:=u D } σ H
theorem zat:PSs X [] tNext:=λ_ _ σ H _ I h=>wpAny_execs_nil ⟨σ,H,I,h⟩
theorem zac(h1:PS X st t)(h2:PSs X rest u):PSs X (st::rest) (tSeq t u):=by
 intro pins s σ H D I h;refine wpAny_execs_cons (thn (h1 pins s σ H { D with nx:=u D } I h) λf s1 q=>?_)
 cases f with
 |next =>
  obtain⟨σ',H',I',q⟩:=q;exact h2 pins s1 σ' H' D I' q
 |ret v=>exact q
 |brk=>exact q
 |cont=>exact q
theorem zaf(h1:PS X st t):PSs X [st] t:=by
 intro pins s σ H D I h;refine wpAny_execs_cons (thn (h1 pins s σ H D I h) λf s1 q=>?_)
 cases f with
 |next=>exact wpAny_execs_nil q
 |ret v=>exact q
 |brk=>exact q
 |cont=>exact q
theorem Inv.quiet{pins:List (Addr×Obj)}{σ:St}{H:Hp}{s:Ae}(I:Inv X pins σ H s):interactive X.env=false:=by simp[interactive,I.ok.kind]
noncomputable def tDrop(te:TE):TS:=λD σ H=>te σ H λ_ H1=>D.nx σ H1
theorem zbN(he:PE X e te)(hs:swapsWith e none pos.line X.env=pure false:=by rfl):PS X (.Expr e pos) (tDrop te):=by intro pins s σ H D I h;exact wpAny_Expr_any (thn (he pins s σ H _ I h) λv s1 ⟨x,H1,I1,r1,q1⟩=>⟨σ,H1,I1,q1⟩) I.quiet hs
noncomputable def tRet(te:TE):TS:=λD σ H=>te σ H D.rt
theorem zai(he:PE X e te):PS X (.Return (some e) pos) (tRet te):=by intro pins s σ H D I h;exact wpAny_Return_some (thn (he pins s σ H _ I h) λv s1 ⟨x,H1,I1,r1,q1⟩=>⟨x,σ,H1,I1,r1,q1⟩)
noncomputable def tIfS(c:TT)(t u:TS):TS:=λD σ H=>c σ H λb H1=>if b=true then t D σ H1 else u D σ H1
theorem ps_if{c:Expr}{a b:List Stmt}{tc:TT}(hc:PT X c tc)(ha:PSs X a t)(hb:PSs X b u):PS X (.If c a b pos) (tIfS tc t u):=by
 intro pins s σ H D I h;refine wpAny_If (thn (hc pins s σ H _ I h) λd s1 ⟨H1,I1,q1⟩=>?_)
 cases d with
 |true=>exact ha pins s1 σ H1 D I1 q1
 |false=>exact hb pins s1 σ H1 D I1 q1
noncomputable def znw:TS:=λ_ _ _=>False
theorem zf2:PS X st znw:=λ_ _ _ _ _ _ h=>h.elim
end
noncomputable abbrev TG:=V->St->Hp->(St->Hp->Prop)->Prop
noncomputable abbrev TGs:=List V->St->Hp->(St->Hp->Prop)->Prop
noncomputable def PG(X:Cx)(target:Expr)(t:TG):Prop :=
 ∀(pins:List (Addr×Obj)) (s:Ae) (σ:St) (H:Hp) (v:V) (u:Ad) (Q:St->Hp->Prop),Inv X pins σ H s->RelV v u->t v σ H Q ->
  Ar (Ax X.prog X.w) X.A (assign target X.env u) (λ_ s'=>∃ σ' H',Inv X pins σ' H' s'/\Q σ' H') X.xe s
noncomputable def PGs(X:Cx)(ts:List Expr)(t:TGs):Prop :=
 ∀(pins:List (Addr×Obj)) (s:Ae) (σ:St) (H:Hp) (vs:List V) (us:List Ad) (Q:St->Hp->Prop),Inv X pins σ H s->Vals vs us->t vs σ H Q ->
  Ar (Ax X.prog X.w) X.A (assignInOrder ((Dw ts X.env).map (·.2)) us) (λ_ s'=>∃ σ' H',Inv X pins σ' H' s'/\Q σ' H') X.xe s
noncomputable abbrev TSet:=V->V->V->Hp->(Hp->Prop)->Prop
noncomputable def PSet(X:Cx)(t:TSet):Prop :=
 ∀(pins:List (Addr×Obj)) (s:Ae) (σ:St) (H:Hp) (o i v:V) (ov iv u:Ad) (Q:Hp->Prop),Inv X pins σ H s->RelV o ov->RelV i iv->RelV v u->t o i v H Q ->
  Ar (Ax X.prog X.w) X.A (setItem ov iv u) (λ_ s'=>∃H',Inv X pins σ H' s'/\Q H') X.xe s
noncomputable abbrev TIp:=V->V->Hp->VK->Prop
noncomputable def PIp(X:Cx)(op:Operator)(t:TIp):Prop :=
 ∀(pins:List (Addr×Obj)) (s:Ae) (σ:St) (H:Hp) (x y:V) (v u:Ad) (Q:VK),Inv X pins σ H s->RelV x v->RelV y u->t x y H Q ->
  Ar (Ax X.prog X.w) X.A (inplaceOp op v u) (EP X pins σ Q) X.xe s
section
variable {X:Cx}{pos:Pos}
noncomputable def gName(i:Nat):TG:=λv σ H Q=>Q (σ.set i (some v)) H
theorem zm1{i:Nat}{x:Str}(hN:X.N.Nodup)(hi:X.N[i]?=some x)(hx:Loc X.env.scope x)(hf:X.fn x=true∨X.env.scope.names.lookup x=some .local:=by first |exact .inl rfl |exact .inr rfl |assumption):PG X (.Name x pos) (gName i):=by intro pins s σ H v u Q I r h;exact wpAny_assign_Name (zdb I hN hi hx r (λs' I'=>⟨_,H,I',h⟩) hf)
noncomputable def gNil:TGs:=λvs σ H Q=>vs=[]/\Q σ H
noncomputable def gCons(t:TG)(u:TGs):TGs:=λvs σ H Q=>∃v r,vs=v::r/\t v σ H λσ' H'=>u r σ' H' Q
theorem zao:PGs X [] gNil:=by
 intro pins s σ H vs us Q I r h;obtain⟨e,h⟩:=h;subst e
 cases r
 exact assignInOrder_nil ⟨σ,H,I,h⟩
theorem zag{e:Expr}{es:List Expr}{t:TG}{u:TGs}(h1:PG X e t)(h2:PGs X es u)
  (hs:(Dw (e::es) X.env).map (·.2)=assign e X.env::(Dw es X.env).map (·.2):=by rfl):PGs X (e::es) (gCons t u):=by
 intro pins s σ H vs us Q I r h;obtain⟨v,vr,e1,h⟩:=h;subst e1
 cases r with
 |cons r rr =>
  rw[hs];refine assignInOrder_cons (thn (h1 pins s σ H _ _ _ I r h) λ_ s1 ⟨σ1,H1,I1,q1⟩=>?_);exact h2 pins s1 σ1 H1 _ _ Q I1 rr q1
noncomputable def gTup(K:W.Frag)(n:Nat)(t:TGs):TG:=λv σ H Q=>∃a xs,v=.ref a/\SqT K H a xs/\xs.length=n/\t xs σ H Q
theorem zaX{es:List Expr}{k:Nat}{t:TGs}{n:Nat}(hc:X.calm=true)(h:PGs X es t)
  (hn:(Dw es X.env).length=n:=by rfl) (hst:(Dw es X.env).findIdx? (·.1)=none:=by rfl):PG X (.Tuple es k pos) (gTup X.K n t):=by
 intro pins s σ H v u Q I r hw;obtain⟨a,xs,e1,hq,hl,hw⟩:=hw;subst e1
 cases r
 obtain⟨its,rv,ht,hz⟩:=I.tuple hq;refine assign_Tuple_tuple (I.ok.hd hc) ht (by simp[hn,<- hl,rv.length]) hst λh' hx=>?_
 have I1:Inv X pins σ H { s with heap:=h' }:=I.kept (t':=s.toks) λb o e=>hx b o (AR (Ay e)) e
 exact h pins _ σ H xs _ Q I1 (by simpa using rv) hw
noncomputable def gSub(to ti:TE)(t:TSet):TG:=λv σ H Q=>to σ H λo H1=>ti σ H1 λi H2=>t o i v H2 λH3=>Q σ H3
theorem zmz{o i:Expr}{to ti:TE}{t:TSet}(ho:PE X o to)(hi:PE X i ti)(hs:PSet X t)
  (ha:∀v,assign (.Subscript o i pos) X.env v=(do
   let ov <- Do [v] (eval o X.env)
   let iv <- Do [v,ov] (eval i X.env)
   standAt pos
   Do [v,ov,iv] (setItem ov iv v)
   release [v,ov,iv] []):=by intro _;rfl):PG X (.Subscript o i pos) (gSub to ti t):=by
 intro pins s σ H v u Q I r h;rw[ha];refine Ab (A8 (thn (ho pins s σ H _ I h) λov s1 ⟨x,H1,I1,r1,q1⟩=>?_));refine Ab (A8 (thn (hi pins s1 σ H1 _ I1 q1) λiv s2 ⟨y,H2,I2,r2,q2⟩=>?_));refine Ab (B7 (Ab (A8 (thn (hs pins s2 σ H2 x y v ov iv u _ I2 r1 r2 r q2) λ_ s3 ⟨H3,I3,q3⟩=>?_))));exact wpAny_release ⟨σ,H3,I3,q3⟩
noncomputable def tAsg(te:TE)(g:TG):TS:=λD σ H=>te σ H λx H1=>g x σ H1 D.nx
theorem zbs{tg e:Expr}{te:TE}{g:TG}(he:PE X e te)(hg:PG X tg g)(hs:swapsWithSole [tg] e pos.line X.env=pure false := by rfl)(hw:swappedStores [tg] e X.env=pure none := by rfl)
  (h1:(Dw [tg] X.env).map (·.2)=[assign tg X.env]:=by rfl):PS X (.Assign [tg] e pos) (tAsg te g):=by
 intro pins s σ H D I h;refine wpAny_Assign_stores (thn (he pins s σ H _ I h) λv s1 ⟨x,H1,I1,r1,q1⟩=>?_) hs hw;rw[h1];exact thn (hg pins s1 σ H1 x v _ I1 r1 q1) λ_ s2 q=>q
theorem zft{i:Nat}{x:Str}{e:Expr}{te:TE}{pos':Pos}(hN:X.N.Nodup)(hi:X.N[i]? = some x)(hx:Loc X.env.scope x)(he:PE X e te)(hs:swapsWith e (some (.Name x pos')) pos.line X.env=pure false := by rfl)(hf:X.fn x=true ∨ X.env.scope.names.lookup x=some .local := by first |exact .inl rfl |exact .inr rfl |assumption) :
  PS X (.Assign [.Name x pos'] e pos) (tAsg te (gName i)):=by
 intro pins s σ H D I h;refine wpAny_Assign_Name (thn (he pins s σ H _ I h) λv s1 ⟨y,H1,I1,r1,q1⟩=>?_) hs;exact zdb I1 hN hi hx r1 (λs2 I2=>⟨_,H1,I2,q1⟩) hf
noncomputable def tPar(i j:Nat)(ta:TA):TS:=λD σ H=>ta σ H λvs H1=>∃v w,vs=[v,w]/\D.nx ((σ.set i (some v)).set j (some w)) H1
theorem znJ{i j:Nat}{x y:Str}{a b:Expr}{ta:TA}{px py pt:Pos}{kt k2 pt2}(hc:X.calm=true)(hN:X.N.Nodup)(hi:X.N[i]? = some x)(hj:X.N[j]? = some y)(hij:i ≠ j)
  (hx:X.env.scope.names.lookup x=some .local) (hy:X.env.scope.names.lookup y=some .local) (ha:PA X [a,b] ta)
  (hw:swappedStores [.Tuple [.Name x px,.Name y py] kt pt] (.Tuple [a,b] k2 pt2) X.env=pure (some [x,y]))
  (hs:swapsWithSole [.Tuple [.Name x px,.Name y py] kt pt] (.Tuple [a,b] k2 pt2) pos.line X.env=pure false:=by rfl) :
  PS X (.Assign [.Tuple [.Name x px,.Name y py] kt pt] (.Tuple [a,b] k2 pt2) pos) (tPar i j ta):=by
 intro pins s σ H D I h;rw[exec_Assign_arm];refine Ab (B7 ?_);rw[hs];refine Ab (Ah ?_);rw[if_neg (by decide)];refine Ab (Tuple_ (thn (ha _ pins s σ H _ I h) λus s1 ⟨vs,H1,I1,r1,q1⟩=>?_));obtain⟨v,w,e1,q1⟩:=q1;subst e1
 obtain⟨u1,u2,rfl,rv,rw'⟩:∃u1 u2,us=[u1,u2]/\RelV v u1/\RelV w u2:=by
  cases r1 with
  |cons p q =>
   cases q with
   |cons p' q' =>
    cases q'
    exact⟨_,_,rfl,p,p'⟩
 refine A6 ?_ (by show 2<=sizeLine;decide)
 have I2:Inv X pins σ H1 { s1 with heap:=s1.heap.push { cls:=.type "tuple",data:=.seq [u1,u2].toArray } }:=I1.kept (t':=s1.toks) λb o e=>Ag _ e
 rw[hw];refine Ab (Ah ?_);show Ar (Ax X.prog X.w) X.A (do rule "assign.swapped-stores";let items <- unpackItems (.ref s1.heap.objs.size) 2 none;assignInOrder [λv=>bindName X.env y v,λv=>bindName X.env x v] items.reverse;pure Flow.next) _ _ _;refine Ab (C4 (Ab (unpackItems_tuple (items:=#[u1,u2]) (I.ok.hd hc) (IsTup.new s1.heap _) λh' hx'=>?_)));have I3:=I2.kept (h':=h') (t':=s1.toks) λb o e=>hx' b o (AR (Ay e)) e
 show Ar _ _ (assignInOrder [λv=>bindName X.env y v,λv=>bindName X.env x v] [u2,u1] >>= λ_=>pure Flow.next) _ _ _;refine Ab (assignInOrder_cons (wpAny_bindName (zdb I3 hN hj (.inl hy) rw' (λs2 I4=>?_) (.inr hy))));refine assignInOrder_cons (wpAny_bindName (zdb I4 hN hi (.inl hx) rv (λs3 I5=>assignInOrder_nil (Ah ?_)) (.inr hx)));rw[List.set_comm _ _ (Bu hij)]at I5;exact⟨_,H1,I5,q1⟩
noncomputable def tAug(i:Nat)(te:TE)(ti:TIp):TS:=λD σ H=>∃x,σ[i]?=some (some x)/\te σ H λy H1=>ti x y H1 λz H2=>D.nx (σ.set i (some z)) H2
theorem znK{i:Nat}{x:Str}{e:Expr}{te:TE}{op:Operator}{ti:TIp}{pos':Pos}(hN:X.N.Nodup)(hi:X.N[i]? = some x)(hx:Loc X.env.scope x)(he:PE X e te)(ho:PIp X op ti)(hf:X.fn x=true ∨ X.env.scope.names.lookup x=some .local := by first |exact .inl rfl |exact .inr rfl |assumption) :
  PS X (.AugAssign (.Name x pos') op e pos) (tAug i te ti):=by
 intro pins s σ H D I h;obtain⟨v,e1,h⟩:=h;obtain⟨m,hn,hl⟩:=I.loc;have vis:Vis X.env.scope x:=by rcases hx with k |k;exact .inl k;exact .inr (.inl k)
 obtain⟨u,r,l⟩:=hl i x v hi e1 vis;refine wpAny_AugAssign_Name ?_
 have go:Ar (Ax X.prog X.w) X.A (eval e X.env) (λw s₂=>Ar (Ax X.prog X.w) X.A (inplaceOp op u w) (λr s₃=>Ar (Ax X.prog X.w) X.A (storeName X.env x r) (λ_=>SP X pins D .next) X.xe s₃) X.xe s₂) X.xe s:=by
  refine thn (he pins s σ H _ I h) λw s1 ⟨y,H1,I1,r1,q1⟩=>?_
  refine thn (ho pins s1 σ H1 v y u w _ I1 r r1 q1) λz s2 ⟨zv,H2,I2,r2,q2⟩=>?_
  exact zdb I2 hN hi hx r2 (λs3 I3=>⟨_,H2,I3,q2⟩) hf
 rcases l with⟨hk,hm⟩ |⟨hk,c,hc,hcell⟩
 .exact wpAny_loadName_local I.ok.kind hk hn hm go
 .rcases hk with hk |hk
  .exact wpAny_loadName_cell I.ok.kind hk hc hcell go
  .rcases hx with k |k
   .have:X.env.scope.names.lookup x=some .free:=hk;rw[k]at this;cases this
   .have:X.env.scope.names.lookup x=some .free:=hk;rw[k]at this;cases this
noncomputable def ipI(f:Int->Int->Int):TIp:=λx y H Q=>∃i j,x=.int i/\y=.int j/\Q (.int (f i j)) H
theorem zn4:PIp X .Add (ipI λi j=>i+j):=by intro pins s σ H x y v u Q I r1 r2 h;obtain⟨i,j,e1,e2,q⟩:=h;subst e1;subst e2;obtain⟨t,rfl⟩:=r1;obtain⟨t',rfl⟩:=r2;exact iadd_int ⟨.int _,H,I.tok _,⟨_,rfl⟩,q⟩
end
section
variable {X:Cx}{pos:Pos}
noncomputable def zmh(c:TT)(tb:TS):TS:=λD σ H=>∃W:Nat->St->Hp->Prop,(∃m,W m σ H)/\∀m σ H,W m σ H ->
 c σ H λb H1=>if b=true then ∃N:St->Hp->Prop,(∀ σ' H',N σ' H'->∃m',m'<m/\W m' σ' H')/\tb { D with nx:=N,ct:=N,bk:=D.nx } σ H1 else D.nx σ H1
theorem ziM{c:Expr}{body:List Stmt}{tc:TT}{tb:TS}(hp:PassesOwn (Ax X.prog X.w) X.A X.env X.xe)(hc:PT X c tc)(hb:PSs X body tb):PS X (.While c body [] pos) (zmh tc tb):=by
 intro pins s σ H D I h;obtain⟨W,⟨m0,w0⟩,turn⟩:=h;refine wpAny_While (codeAny_whileLoop (λn s'=>∃ σ' H',Inv X pins σ' H' s'/\W n σ' H') ?_ m0 ⟨σ,H,I,w0⟩);rintro n s1 ⟨σ1,H1,I1,w1⟩;refine Cv hp (thn (hc pins s1 σ1 H1 _ I1 (turn n σ1 H1 w1)) λb s2 ⟨H2,I2,q2⟩=>?_)
 cases b with
 |true =>
  obtain⟨N,hN,q2⟩:=q2;rw[if_pos rfl];refine Cv hp (thn (hb pins s2 σ1 H2 _ I2 q2) λf s3 q3=>?_)
  cases f with
  |next =>
   obtain⟨σ3,H3,I3,n3⟩:=q3;obtain⟨m',hm,w3⟩:=hN σ3 H3 n3;exact⟨m',hm,σ3,H3,I3,w3⟩
  |cont =>
   obtain⟨σ3,H3,I3,n3⟩:=q3;obtain⟨m',hm,w3⟩:=hN σ3 H3 n3;exact⟨m',hm,σ3,H3,I3,w3⟩
  |brk=>exact q3
  |ret v=>exact q3
 |false =>
  rw[if_neg AK];exact wpAny_execs_nil ⟨σ1,H2,I2,q2⟩
end
structure It where
 go:Nat->Hp->Prop
 yld:Nat->Hp->V->Hp->Prop
 stop:Nat->Hp->Prop
noncomputable def FpOk(X:Cx)(pins:List (Addr×Obj))(H:Hp)(b:Addr):Prop :=
 H b=none/\b≠X.env.locals/\b ∉ X.fs/\(b∈X.ex∨X.s₀.heap.objs.size<=b)/\(∀x c,X.env.cells.lookup x=some c->c≠b)/\∀p∈X.pn++pins,p.1≠b
theorem Inv.fpOk{X:Cx}{pins:List (Addr×Obj)}{σ:St}{H H':Hp}{s:Ae}{b:Addr}(I:Inv X pins σ H s)(hb:s.heap.objs.size<=b)(hn:H' b=none):FpOk X pins H' b:=by
 refine⟨hn,Nat.ne_of_gt (AS I.lt hb),I.nofs hb,.inr (Bb I.sz hb),λx c e z=>?_,λp hp z=>?_⟩
 .obtain⟨v,q⟩:=I.cell x c e;exact absurd (AS q.lt (by rw[z];exact hb)) (Cp _)
 .exact absurd (AS (Ay (I.pin p hp).1) (by rw[z];exact hb)) (Cp _)
structure Turn (P:AJ) (w:A1) (K:W.Frag) (tg:Expr) (J:It) (fp:List Addr) (it:Addr) (tn:Nat->Heap->Prop):Prop where
 mem:it∈fp
 obj:∀i h,tn i h->∀b∈fp,∃o,h.get? b=some o/\∀v,o.data≠.cell v
 keep:∀i h h',tn i h->(∀b∈fp,∀o,h.get? b=some o->h'.get? b=some o)->tn i h'
 item:∀(X:Cx),X.prog=P->X.w=w->X.K=K->X.calm=true->∀(i:Nat) (pins:List (Addr×Obj)) (s:Ae) (σ:St) (H:Hp) (E:Ad->Ae->Prop),Inv X pins σ H s->(∀b∈fp,FpOk X pins H b)->tn i s.heap->J.go i H ->
  Ar (Ax P w) X.A (pyNext (.ref it)) (λr s1=>∃u,r=some u /\
   Ar (Ax P w) X.A (Dp tg (.ref it) u) (λ_ s2=>∃x H',Inv X pins σ H' s2/\RelV x u/\J.yld i H x H'/\tn (i+1) s2.heap/\∀b∈fp,H' b=none) E s1) E s
 done:∀(X:Cx),X.prog=P->X.w=w->X.K=K->X.calm=true->∀(i:Nat) (pins:List (Addr×Obj)) (s:Ae) (σ:St) (H:Hp) (E:Ad->Ae->Prop),Inv X pins σ H s->(∀b∈fp,FpOk X pins H b)->tn i s.heap->J.stop i H ->
  Ar (Ax P w) X.A (pyNext (.ref it)) (λr s1=>r=none/\Inv X pins σ H s1) E s
 self:∀(A:AT) (i:Nat) (s:Ae) (Q:Ad->Ae->Prop) (E:Ad->Ae->Prop),tn i s.heap->Q (.ref it) s->Ar (Ax P w) A (pyIter (.ref it)) Q E s
noncomputable abbrev TI:=St->Hp->(It->Hp->Prop)->Prop
noncomputable def PIE(X:Cx)(pins:List (Addr×Obj))(σ:St)(tg:Expr)(R:It->Hp->Prop)(itv:Ad)(s2:Ae):Prop :=
 ∃(it:Addr) (fp:List Addr) (tn:Nat->Heap->Prop) (J:It) (H':Hp),itv=.ref it/\Inv X pins σ H' s2/\Turn X.prog X.w X.K tg J fp it tn/\tn 0 s2.heap/\(∀b∈fp,FpOk X pins H' b)/\R J H'
noncomputable def PI(X:Cx)(tg iter:Expr)(wi:TI):Prop :=
 ∀(pins:List (Addr×Obj)) (s:Ae) (σ:St) (H:Hp) (R:It->Hp->Prop),Inv X pins σ H s->wi σ H R ->
  Ar (Ax X.prog X.w) X.A (eval iter X.env) (λv s1=>Ar (Ax X.prog X.w) X.A (pyIter v) (PIE X pins σ tg R) X.xe s1) X.xe s
theorem go_of {M : Model}{A : AT}{E : Ad → Ae → Prop}{s : Ae}{tg : Expr}{it : Addr}{u : Ad}{o : Obj}{n : String}{vs : Array Ad}{Q : Unit → Ae → Prop}(ho : s.heap.get? it = some o) (hc : o.cls = .type n) (hd : o.data = .fields vs)
    (hn:["enumerate","zip","dict_itemiterator","dict_reverseitemiterator","odict_iterator","itertools.zip_longest","itertools.pairwise"].contains n=false) (hQ:Q () s):Ar M A (Dp tg (.ref it) u) Q E s:=by
  unfold Dp
  cases tg <;> first
    | exact Ah hQ
    | (cases u <;> first
        | exact Ah hQ
        | (refine Ab (wpAny_load ho ?_)
           rw[hc,hd]
           show Ar M A (if (["enumerate","zip","dict_itemiterator","dict_reverseitemiterator","odict_iterator","itertools.zip_longest","itertools.pairwise"].contains n && vs[0]? == some (rawInt _))=true then _ else _) Q E s
           rw[if_neg (by intro h;rw[hn,Bool.false_and] at h;cases h)]
           exact Ah hQ))
noncomputable def Itl(K:W.Frag)(a:Addr):It :=
 ⟨λi H=>∃xs x,SqL K H a xs/\xs[i]?=some x,λi H x H'=>H'=H/\∀xs,SqL K H a xs->xs[i]?=some x,λi H=>∃xs,SqL K H a xs/\xs.length<=i⟩
noncomputable def Itt(K:W.Frag)(a:Addr):It :=
 ⟨λi H=>∃xs x,SqT K H a xs/\xs[i]?=some x,λi H x H'=>H'=H/\∀xs,SqT K H a xs->xs[i]?=some x,λi H=>∃xs,SqT K H a xs/\xs.length<=i⟩
noncomputable def Itr(lo:Int)(n:Nat):It:=⟨λi _=>i<n,λi H x H'=>H'=H/\x=.int (lo+i),λi _=>n<=i⟩
theorem zj3{P:AJ}{w:A1}{K:W.Frag}{tg:Expr}(a it:Addr):Turn P w K tg (Itl K a) [it] it (λi h=>h.IsListIter it a i) where
 mem:=by simp
 obj:=λi h st b hb=>by
  have e:b=it:=by simpa using hb
  subst e;obtain⟨o,e,c,d⟩:=st;exact⟨o,e,λv z=>by rw[d]at z;cases z⟩
 keep:=λi h h' st k=>st.at λo e=>k it (by simp) o e
 item:=by
  intro X hP hw hK hc i pins s σ H E I hf st hg;subst hP hw hK;obtain⟨xs,x,hq,hx⟩:=hg;obtain⟨its,rv,p,hz⟩:=I.list hq;obtain⟨u,hu,ru⟩:=rv.get hx;obtain⟨f0,f1,f2,f3,f4,f5⟩:=hf it (by simp);refine wpAny_pyNext_list_item st p.isList (x:=u) (by simpa using hu) λh' st' sb=>?_
  have I1:Inv X pins σ H { s with heap:=h' }:=I.turned (t':=s.toks) (λb o hb e=>(sb.2 b hb).trans e) f0 f1 f3 f4 f5;obtain⟨o,e,c,d⟩:=id st';exact⟨u,rfl,go_of (s:={ s with heap:=h' }) e c d (by decide) ⟨x,H,I1,ru,⟨rfl,λys hy=>by rw[I.list_inj hy hq];exact hx⟩,st',λb hb=>(hf b hb).1⟩⟩
 done:=by intro X hP hw hK hc i pins s σ H E I hf st hg;subst hP hw hK;obtain⟨xs,hq,hx⟩:=hg;obtain⟨its,rv,p,hz⟩:=I.list hq;obtain⟨f0,f1,f2,f3,f4,f5⟩:=hf it (by simp);have hl:=rv.length;exact wpAny_pyNext_list_end (I.ok.hd hc) st p.isList (by simp;lia) λh' eb=>⟨rfl,I.turned (t':=s.toks) (λb o hb e=>eb b o hb e) f0 f1 f3 f4 f5⟩
 self:=λ_ _ _ _ _ st h=>wpAny_pyIter_listiter st h
theorem zjs{P:AJ}{w:A1}{K:W.Frag}{tg:Expr}(a it:Addr):Turn P w K tg (Itt K a) [it] it (λi h=>h.IsTupleIter it a i) where
 mem:=by simp
 obj:=λi h st b hb=>by
  have e:b=it:=by simpa using hb
  subst e;obtain⟨o,e,c,d⟩:=st;exact⟨o,e,λv z=>by rw[d]at z;cases z⟩
 keep:=λi h h' st k=>st.at λo e=>k it (by simp) o e
 item:=by
  intro X hP hw hK hc i pins s σ H E I hf st hg;subst hP hw hK;obtain⟨xs,x,hq,hx⟩:=hg;obtain⟨its,rv,p,hz⟩:=I.tuple hq;obtain⟨u,hu,ru⟩:=rv.get hx;obtain⟨f0,f1,f2,f3,f4,f5⟩:=hf it (by simp);refine wpAny_pyNext_tuple_item st (show s.heap.IsTuple a its.toArray from p) (x:=u) (by simpa using hu) λh' st' sb=>?_
  have I1:Inv X pins σ H { s with heap:=h' }:=I.turned (t':=s.toks) (λb o hb e=>(sb.2 b hb).trans e) f0 f1 f3 f4 f5;obtain⟨o,e,c,d⟩:=id st';exact⟨u,rfl,go_of (s:={ s with heap:=h' }) e c d (by decide) ⟨x,H,I1,ru,⟨rfl,λys hy=>by rw[I.tuple_inj hy hq];exact hx⟩,st',λb hb=>(hf b hb).1⟩⟩
 done:=by intro X hP hw hK hc i pins s σ H E I hf st hg;subst hP hw hK;obtain⟨xs,hq,hx⟩:=hg;obtain⟨its,rv,p,hz⟩:=I.tuple hq;obtain⟨f0,f1,f2,f3,f4,f5⟩:=hf it (by simp);have hl:=rv.length;exact wpAny_pyNext_tuple_end (I.ok.hd hc) st (show s.heap.IsTuple a its.toArray from p) (by simp;lia) λh' eb=>⟨rfl,I.turned (t':=s.toks) (λb o hb e=>eb b o hb e) f0 f1 f3 f4 f5⟩
 self:=λ_ _ _ _ _ st h=>wpAny_pyIter_tupleiter st h
theorem zfh{P:AJ}{w:A1}{K:W.Frag}{tg:Expr}(it:Addr)(lo:Int)(n:Nat):Turn P w K tg (Itr lo n) [it] it (λi h=>IsRangeIter h it (lo+(i:Nat)*1) ((n:Int)-(i:Nat)) 1) where
 mem:=by simp
 obj:=λi h st b hb=>by
  have e:b=it:=by simpa using hb
  subst e
  exact⟨_,st,λv z=>by
   have z':Data.fields _=Data.cell v:=z
   cases z'⟩
 keep:=λi h h' st k=>k it (by simp) _ st
 item:=by
  intro X hP hw hK hc i pins s σ H E I hf st hg;subst hP hw hK;obtain⟨f0,f1,f2,f3,f4,f5⟩:=hf it (by simp);have W:=Walks.range (prog:=X.prog) (w:=X.w) (I.ok.hd hc) it lo 1 n;refine W.item i s _ _ hg st λv h' tk hv st' kk=>?_
  obtain⟨t,rfl⟩:=hv;have I1:Inv X pins σ H { s with heap:=h',toks:=tk }:=I.turned (λb o hb e=>kk b o (by simpa using hb) e) f0 f1 f3 f4 f5;refine⟨_,rfl,go_of (s:={ s with heap:=h',toks:=tk }) (n:="range_iterator") st' rfl rfl (by decide) ⟨.int (lo+i),H,I1,⟨t,?_⟩,⟨rfl,rfl⟩,st',λb hb=>(hf b hb).1⟩⟩;rw[Int.mul_one]
 done:=by intro X hP hw hK hc i pins s σ H E I hf st hg;subst hP hw hK;obtain⟨f0,f1,f2,f3,f4,f5⟩:=hf it (by simp);exact wpAny_pyNext_range_end (I.ok.hd hc) st (by have:n<=i:=hg;lia) λh' eb=>⟨rfl,I.turned (t':=s.toks) (λb o hb e=>eb b o hb e) f0 f1 f3 f4 f5⟩
 self:=λ_ _ _ _ _ st h=>wpAny_pyIter_rangeiter st h
section
variable {X:Cx}{tg:Expr}
noncomputable def iList(K:W.Frag)(tl:TE):TI:=λσ H R=>tl σ H λx H1=>∃a,x=.ref a/\(∃xs,SqL K H1 a xs)/\R (Itl K a) H1
noncomputable def iTup(K:W.Frag)(tl:TE):TI:=λσ H R=>tl σ H λx H1=>∃a,x=.ref a/\(∃xs,SqT K H1 a xs)/\R (Itt K a) H1
theorem zay{l:Expr}{tl:TE}(hl:PE X l tl):PI X tg l (iList X.K tl):=by
 intro pins s σ H R I h;refine thn (hl pins s σ H _ I h) λv s1 ⟨x,H1,I1,r1,q1⟩=>?_
 obtain⟨a,e,⟨xs,hq⟩,q⟩:=q1;subst e
 cases r1
 obtain⟨its,rv,p,hz⟩:=I1.list hq;refine wpAny_pyIter_list p.isList ?_
 refine⟨s1.heap.objs.size,[s1.heap.objs.size],_,_,H1,rfl,I1.kept (t':=s1.toks) λb o e=>Ag _ e,zj3 a _,⟨_,Az _ rfl,rfl,rfl⟩,λb hb=>?_,q⟩;have e:b=s1.heap.objs.size:=by simpa using hb
 subst e;exact I1.fpOk (Aj _) (I1.hok.fresh (Aj _))
theorem ziN{l:Expr}{tl:TE}(hl:PE X l tl):PI X tg l (iTup X.K tl):=by
 intro pins s σ H R I h;refine thn (hl pins s σ H _ I h) λv s1 ⟨x,H1,I1,r1,q1⟩=>?_
 obtain⟨a,e,⟨xs,hq⟩,q⟩:=q1;subst e
 cases r1
 obtain⟨its,rv,p,hz⟩:=I1.tuple hq;refine wpAny_pyIter_tuple (show s1.heap.IsTuple a its.toArray from p) ?_
 refine⟨s1.heap.objs.size,[s1.heap.objs.size],_,_,H1,rfl,I1.kept (t':=s1.toks) λb o e=>Ag _ e,zjs a _,⟨_,Az _ rfl,rfl,rfl⟩,λb hb=>?_,q⟩;have e:b=s1.heap.objs.size:=by simpa using hb
 subst e;exact I1.fpOk (Aj _) (I1.hok.fresh (Aj _))
theorem ziK{pins:List (Addr × Obj)}{σ : St}{H:Hp}{s:Ae}{R:It -> Hp -> Prop}{E:Ad -> Ae -> Prop}{lo hi:Int}{t u v:Tok}{tk:Nat}(I:Inv X pins σ H s)(h1 : -(2 ^ 62) <= lo)(h2:lo < 2 ^ 62)(h3 : -(2 ^ 62) <= hi)(h4:hi < 2 ^ 62)
  (q:R (Itr lo (hi-lo).toNat) H):Ar (Ax X.prog X.w) X.A (pyIter (.ref s.heap.objs.size)) (PIE X pins σ tg R) E { s with heap:=s.heap.push { cls:=.type "range",data:=.fields #[.int lo t,.int hi u,.int 1 v] },toks:=tk }:=by
 refine wpAny_pyIter_range (IsRange.new ..) (small_one h1 h2 h3 h4) ?_
 have I1:Inv X pins σ H { s with heap:=s.heap.push { cls:=.type "range",data:=.fields #[.int lo t,.int hi u,.int 1 v] },toks:=tk }:=I.kept λb o e=>Ag _ e
 refine⟨(s.heap.push { cls:=.type "range",data:=.fields #[.int lo t,.int hi u,.int 1 v] }).objs.size,[(s.heap.push { cls:=.type "range",data:=.fields #[.int lo t,.int hi u,.int 1 v] }).objs.size],_,_,H,rfl,
  I1.kept (t':=tk) λb o e=>Ag _ e,zfh _ lo (hi-lo).toNat,?_,λb hb=>?_,q⟩
 .have e1:lo+((0:Nat):Int)*1=lo:=by simp
  have e2:(((hi-lo).toNat:Nat):Int)-((0:Nat):Int)=Builtin.Range.rangeSize lo hi 1:=by rw[rangeSize_one];split <;> lia
  show IsRangeIter _ _ (lo+((0:Nat):Int)*1) ((((hi-lo).toNat:Nat):Int)-((0:Nat):Int)) 1;rw[e1,e2];exact Az _ rfl
 .have e:b=(s.heap.push { cls:=.type "range",data:=.fields #[.int lo t,.int hi u,.int 1 v] }).objs.size:=by simpa using hb
  subst e;exact I1.fpOk (Aj _) (I1.hok.fresh (Aj _))
noncomputable def iRng1(ta:TA):TI:=λσ H R=>ta σ H λvs H1=>∃j:Int,vs=[.int j]/\-(2 ^ 62)<=j/\j<2 ^ 62/\R (Itr 0 j.toNat) H1
noncomputable def iRng2(ta:TA):TI:=λσ H R=>ta σ H λvs H1=>∃i j:Int,vs=[.int i,.int j]/\(-(2 ^ 62)<=i/\i<2 ^ 62/\-(2 ^ 62)<=j/\j<2 ^ 62)/\R (Itr i (j-i).toNat) H1
theorem zb8 {a:Expr}{ta:TA}{p pos:Pos}(hg:Gl X "range") (hm:X.mg "range" = none) (ha:PA X [a] ta) (hs:A3 [a] X.env=[(false,eval a X.env)]:=by rfl):PI X tg (.Call (.Name "range" p) [a] [] pos) (iRng1 ta):=by
 intro pins s σ H R I h;refine Call_ (zdp I hg hm boot_range (BR (thn (ha pos pins s σ H _ I h) λus s1 ⟨vs,H1,I1,r1,q1⟩=>?_) hs rfl));obtain⟨j,e,q1,q2,q⟩:=q1;subst e
 cases r1 with
 |cons r rr =>
  cases rr
  obtain⟨t,rfl⟩:=r;exact call_range_1 (ziK I1 (by lia) (by lia) q1 q2 (by simpa using q))
theorem zkG {a b:Expr}{ta:TA}{p pos:Pos}(hg:Gl X "range") (hm:X.mg "range" = none) (ha:PA X [a, b] ta) (hs:A3 [a, b] X.env = [(false, eval a X.env), (false, eval b X.env)] := by rfl) (hs2:A3 [b] X.env = [(false, eval b X.env)] := by rfl) :
  PI X tg (.Call (.Name "range" p) [a,b] [] pos) (iRng2 ta):=by
 intro pins s σ H R I h;refine Call_ (zdp I hg hm boot_range (BR (thn (ha pos pins s σ H _ I h) λus s1 ⟨vs,H1,I1,r1,q1⟩=>?_) (by rw[hs,hs2]) (by rw[hs2];rfl)));obtain⟨i,j,e,⟨q1,q2,q3,q4⟩,q⟩:=q1;subst e
 cases r1 with
 |cons r rr =>
  cases rr with
  |cons r' rr =>
   cases rr
   obtain⟨t,rfl⟩:=r;obtain⟨t',rfl⟩:=r';exact call_range_2 (ziK I1 q1 q2 q3 q4 q)
noncomputable def tFor(wi:TI)(g:TG)(tb:TS):TS:=λD σ H=>wi σ H λJ H1=>∃W:Nat->Nat->St->Hp->Prop,(∃m,W 0 m σ H1)/\∀i m σ H,W i m σ H ->
 (J.stop i H/\D.nx σ H)∨(J.go i H/\∃N:St->Hp->Prop,(∀ σ' H',N σ' H'->∃m',m'<m/\W (i+1) m' σ' H')/\∀x H',J.yld i H x H'->g x σ H' λσ2 H2=>tb { D with nx:=N,ct:=N,bk:=D.nx } σ2 H2)
noncomputable def zdM(fp:List Addr)(h:Heap):List (Addr×Obj):=fp.filterMap λb=>(h.get? b).map λo=>(b,o)
theorem za1{fp:List Addr}{h:Heap}{b:Addr}{o:Obj}(hb:b∈fp)(e:h.get? b=some o):(b,o)∈zdM fp h:=List.mem_filterMap.mpr ⟨b,hb,by rw[e];rfl⟩
theorem zkN{fp:List Addr}{h:Heap}{p:Addr×Obj}(hp:p∈zdM fp h):p.1∈fp/\h.get? p.1=some p.2:=by
 obtain⟨b,hb,e⟩:=List.mem_filterMap.mp hp
 cases q:h.get? b with
 |none=>rw[q]at e;cases e
 |some o =>
  rw[q]at e;have e':(b,o)=p:=AX e;subst e';exact⟨hb,q⟩
theorem Inv.pinned{pins:List (Addr×Obj)}{σ:St}{H:Hp}{s:Ae}{fp:List Addr}(I:Inv X pins σ H s)(hf:∀b∈fp,FpOk X pins H b)(ho:∀b∈fp,∃o,s.heap.get? b=some o/\∀v,o.data≠.cell v):Inv X (pins++zdM fp s.heap) σ H s :=
 I.pins_of λp hp=>(AH.mp hp).elim (λz=>I.pin p (Au _ z)) λz=>by obtain⟨hb,e⟩:=zkN z;obtain⟨f0,f1,f2,_⟩:=hf p.1 hb;obtain⟨o,e',d⟩:=ho p.1 hb;rw[e]at e';cases e';exact⟨e,f0,f1,f2,d⟩
theorem Inv.unpinned{pins pl:List (Addr×Obj)}{σ:St}{H:Hp}{s:Ae}(I:Inv X (pins++pl) σ H s):Inv X pins σ H s:=I.pins_of λp hp=>I.pin p (Au _ (Bc _ hp))
theorem za4{iter:Expr}{body:List Stmt}{wi:TI}{g:TG}{tb:TS}{pos:Pos}(hp:PassesOwn (Ax X.prog X.w) X.A X.env X.xe)(hc:X.calm=true)(hi:PI X tg iter wi)(hg:PG X tg g)(hb:PSs X body tb)
  (hs:∀x,Bm iter X.env x=pure x:=by intro _;rfl):PS X (.For tg iter body [] pos) (tFor wi g tb):=by
 intro pins s σ H D I h;refine wpAny_For (thn (hi pins s σ H _ I h) λv s1 h1=>thn h1 λitv s2 h2=>?_) hs;obtain⟨it,fp,tn,J,H2,e,I2,T,st2,f2,W,⟨m0,w0⟩,turn⟩:=h2;subst e;have stat:∀{H':Hp},(∀b∈fp,H' b=none)->∀b∈fp,FpOk X pins H' b:=λhn b hb=>⟨hn b hb,(f2 b hb).2⟩
 refine codeAny_forLoop_any (λn s'=>∃i σ' H',Inv X pins σ' H' s'/\tn i s'.heap/\(∀b∈fp,H' b=none)/\W i n σ' H') ?_ m0 ⟨0,σ,H2,I2,st2,λb hb=>(f2 b hb).1,w0⟩;rintro n s3 ⟨i,σ3,H3,I3,st3,fr3,w3⟩;rcases turn i n σ3 H3 w3 with⟨stop,qn⟩ |⟨go,N,hN,step⟩
 .refine Cv hp (thn (T.done X rfl rfl rfl hc i pins s3 σ3 H3 X.xe I3 (stat fr3) st3 stop) λr s4 ⟨hr,I4⟩=>?_);subst hr;exact wpAny_execs_nil ⟨σ3,H3,I4,qn⟩
 .refine Cv hp (thn (T.item X rfl rfl rfl hc i pins s3 σ3 H3 X.xe I3 (stat fr3) st3 go) λr s4 ⟨u,hr,h4⟩=>?_);subst hr;refine Cv hp (thn h4 λ_ s5 ⟨x,H5,I5,r5,y5,st5,fr5⟩=>?_);have I5':=I5.pinned (stat fr5) (T.obj _ _ st5);refine Cv hp (thn (hg _ s5 σ3 H5 x u _ I5' r5 (step x H5 y5)) λ_ s6 ⟨σ6,H6,I6,q6⟩=>?_);refine Cv hp (thn (hb _ s6 σ6 H6 _ I6 q6) λf s7 q7=>?_)
  have again:∀{σ7:St} {H7:Hp},Inv X (pins++zdM fp s5.heap) σ7 H7 s7->N σ7 H7->∃m,m<n/\∃i σ' H',Inv X pins σ' H' s7/\tn i s7.heap/\(∀b∈fp,H' b=none)/\W i m σ' H':=λ{σ7 H7} I7 n7=>by obtain⟨m',hm,w7⟩:=hN σ7 H7 n7;refine⟨m',hm,i+1,σ7,H7,I7.unpinned,T.keep _ _ _ st5 λb hb o e=>(I7.pin (b,o) (Au _ (Au _ (za1 hb e)))).1,λb hb=>?_,w7⟩;obtain⟨o,e,d⟩:=T.obj _ _ st5 b hb;exact (I7.pin (b,o) (Au _ (Au _ (za1 hb e)))).2.1
  cases f with
  |next=>obtain⟨σ7,H7,I7,n7⟩:=q7;exact again I7 n7
  |cont=>obtain⟨σ7,H7,I7,n7⟩:=q7;exact again I7 n7
  |brk=>obtain⟨σ7,H7,I7,q7⟩:=q7;exact⟨σ7,H7,I7.unpinned,q7⟩
  |ret v=>obtain⟨x7,σ7,H7,I7,r7,q7⟩:=q7;exact⟨x7,σ7,H7,I7.unpinned,r7,q7⟩
end
theorem zar{K:W.Frag}{a:Addr}{xs:List V}{g:TG}{tb:TS}{D:Ends}{σ : St}{H:Hp}(Pv:Nat -> St -> Hp -> Prop)(h0:Pv 0 σ H)(hl:∀i σ H, i <= xs.length -> Pv i σ H -> SqL K H a xs)
  (hs:∀i x σ H,xs[i]?=some x->Pv i σ H->g x σ H λσ2 H2=>tb { D with nx:=Pv (i+1),ct:=Pv (i+1),bk:=D.nx } σ2 H2) (hd:∀ σ H,Pv xs.length σ H->D.nx σ H) :
  ∃W:Nat->Nat->St->Hp->Prop,(∃m,W 0 m σ H)/\∀i m σ H,W i m σ H ->
   ((Itl K a).stop i H/\D.nx σ H)∨((Itl K a).go i H/\∃N:St->Hp->Prop,(∀ σ' H',N σ' H'->∃m',m'<m/\W (i+1) m' σ' H')/\∀x H',(Itl K a).yld i H x H'->g x σ H' λσ2 H2=>tb { D with nx:=N,ct:=N,bk:=D.nx } σ2 H2):=by
 refine⟨λi m σ H=>m=xs.length-i/\i<=xs.length/\Pv i σ H,⟨xs.length,by simp,A5 _,h0⟩,?_⟩;rintro i m σ H ⟨rfl,hi,p⟩;have q:=hl i σ H hi p
 by_cases hlt:i<xs.length
 .refine .inr ⟨⟨xs,xs[i],q,by simp[hlt]⟩,Pv (i+1),λσ' H' p'=>⟨xs.length-(i+1),by lia,rfl,hlt,p'⟩,λx H' y=>?_⟩;obtain⟨e,y⟩:=y;subst e;exact hs i x σ _ (y xs q) p
 .have e:i=xs.length:=by lia
  subst e;exact .inl ⟨⟨xs,q,Aj _⟩,hd σ H p⟩
theorem zgn{K:W.Frag}{a:Addr}{xs:List V}{g:TG}{tb:TS}{D:Ends}{σ : St}{H:Hp}(Pv:Nat -> St -> Hp -> Prop)(h0:Pv 0 σ H)(hl:∀i σ H, i <= xs.length -> Pv i σ H -> SqT K H a xs)
  (hs:∀i x σ H,xs[i]?=some x->Pv i σ H->g x σ H λσ2 H2=>tb { D with nx:=Pv (i+1),ct:=Pv (i+1),bk:=D.nx } σ2 H2) (hd:∀ σ H,Pv xs.length σ H->D.nx σ H) :
  ∃W:Nat->Nat->St->Hp->Prop,(∃m,W 0 m σ H)/\∀i m σ H,W i m σ H ->
   ((Itt K a).stop i H/\D.nx σ H)∨((Itt K a).go i H/\∃N:St->Hp->Prop,(∀ σ' H',N σ' H'->∃m',m'<m/\W (i+1) m' σ' H')/\∀x H',(Itt K a).yld i H x H'->g x σ H' λσ2 H2=>tb { D with nx:=N,ct:=N,bk:=D.nx } σ2 H2):=by
 refine⟨λi m σ H=>m=xs.length-i/\i<=xs.length/\Pv i σ H,⟨xs.length,by simp,A5 _,h0⟩,?_⟩;rintro i m σ H ⟨rfl,hi,p⟩;have q:=hl i σ H hi p
 by_cases hlt:i<xs.length
 .refine .inr ⟨⟨xs,xs[i],q,by simp[hlt]⟩,Pv (i+1),λσ' H' p'=>⟨xs.length-(i+1),by lia,rfl,hlt,p'⟩,λx H' y=>?_⟩;obtain⟨e,y⟩:=y;subst e;exact hs i x σ _ (y xs q) p
 .have e:i=xs.length:=by lia
  subst e;exact .inl ⟨⟨xs,q,Aj _⟩,hd σ H p⟩
theorem zbq{lo:Int}{n:Nat}{g:TG}{tb:TS}{D:Ends}{σ : St}{H:Hp}(Pv:Nat -> St -> Hp -> Prop)(h0:Pv 0 σ H)
  (hs:∀i σ H,i<n->Pv i σ H->g (.int (lo+i)) σ H λσ2 H2=>tb { D with nx:=Pv (i+1),ct:=Pv (i+1),bk:=D.nx } σ2 H2) (hd:∀ σ H,Pv n σ H->D.nx σ H) :
  ∃W:Nat->Nat->St->Hp->Prop,(∃m,W 0 m σ H)/\∀i m σ H,W i m σ H ->
   ((Itr lo n).stop i H/\D.nx σ H)∨((Itr lo n).go i H/\∃N:St->Hp->Prop,(∀ σ' H',N σ' H'->∃m',m'<m/\W (i+1) m' σ' H')/\∀x H',(Itr lo n).yld i H x H'->g x σ H' λσ2 H2=>tb { D with nx:=N,ct:=N,bk:=D.nx } σ2 H2):=by
 refine⟨λi m σ H=>m=n-i/\i<=n/\Pv i σ H,⟨n,by simp,A5 _,h0⟩,?_⟩;rintro i m σ H ⟨rfl,hi,p⟩
 by_cases hlt:i<n
 .refine .inr ⟨hlt,Pv (i+1),λσ' H' p'=>⟨n-(i+1),by lia,rfl,hlt,p'⟩,λx H' y=>?_⟩;obtain⟨e,y⟩:=y;subst e y;exact hs i σ _ hlt p
 .have e:i=n:=by lia
  subst e;exact .inl ⟨Aj _,hd σ H p⟩
theorem zlC{c:TT}{tb:TS}{D:Ends}{σ : St}{H:Hp}(Pv:St -> Hp -> Prop)(μ : St -> Hp -> Nat)(h0:Pv σ H)
  (hs:∀ σ H,Pv σ H->c σ H λb H1=>if b=true then tb { D with nx:=λσ' H'=>Pv σ' H'/\μ σ' H'<μ σ H,ct:=λσ' H'=>Pv σ' H'/\μ σ' H'<μ σ H,bk:=D.nx } σ H1 else D.nx σ H1)
  (mono:∀ σ H Q Q',(∀b H1,Q b H1->Q' b H1)->c σ H Q->c σ H Q'):zmh c tb D σ H:=by
 refine⟨λm σ H=>m=μ σ H/\Pv σ H,⟨_,rfl,h0⟩,?_⟩;rintro m σ H ⟨rfl,p⟩;refine mono σ H _ _ (λb H1 q=>?_) (hs σ H p)
 cases b with
 |true=>exact⟨_,λσ' H' ⟨p',l⟩=>⟨_,l,rfl,p'⟩,q⟩
 |false=>exact q
noncomputable abbrev R2:=V->V->Hp->VK->Prop
noncomputable def OpR(X:Cx)(f:Ad->Ad->Sem Ad)(r:R2):Prop :=
 ∀(pins:List (Addr×Obj)) (s:Ae) (σ:St) (H:Hp) (x y:V) (v u:Ad) (Q:VK),Inv X pins σ H s->RelV x v->RelV y u->r x y H Q ->
  Ar (Ax X.prog X.w) X.A (f v u) (EP X pins σ Q) X.xe s
noncomputable def UnR(X:Cx)(f:Ad->Sem Ad)(r:V->Hp->VK->Prop):Prop :=
 ∀(pins:List (Addr×Obj)) (s:Ae) (σ:St) (H:Hp) (x:V) (v:Ad) (Q:VK),Inv X pins σ H s->RelV x v->r x H Q ->
  Ar (Ax X.prog X.w) X.A (f v) (EP X pins σ Q) X.xe s
noncomputable def CallR(X:Cx)(f:Ad)(r:List V->Hp->VK->Prop):Prop :=
 ∀(pins:List (Addr×Obj)) (s:Ae) (σ:St) (H:Hp) (xs:List V) (us:List Ad) (Q:VK),Inv X pins σ H s->Vals xs us->r xs H Q ->
  Ar (Ax X.prog X.w) X.A (call f us) (EP X pins σ Q) X.xe s
noncomputable def TruR(X:Cx)(r:V->Hp->(Bool->Hp->Prop)->Prop):Prop :=
 ∀(pins:List (Addr×Obj)) (s:Ae) (σ:St) (H:Hp) (x:V) (v:Ad) (Q:Bool->Hp->Prop),Inv X pins σ H s->RelV x v->r x H Q ->
  Ar (Ax X.prog X.w) X.A (truthy v) (TP X pins σ Q) X.xe s
noncomputable def tOp(r:R2)(ta tb:TE):TE:=λσ H Q=>ta σ H λx H1=>tb σ H1 λy H2=>r x y H2 Q
noncomputable def tUn(r:V->Hp->VK->Prop)(ta:TE):TE:=λσ H Q=>ta σ H λx H1=>r x H1 Q
noncomputable def rI(C:Int->Int->Prop)(g:Int->Int->V):R2:=λx y H Q=>∃i j,x=.int i/\y=.int j/\C i j/\Q (g i j) H
noncomputable def rI0(g:Int->Int->V):R2:=λx y H Q=>∃i j,x=.int i/\y=.int j/\Q (g i j) H
noncomputable def rU(g:Int->V):V->Hp->VK->Prop:=λx H Q=>∃i,x=.int i/\Q (g i) H
section
variable {X:Cx}{a b c:Expr}{ta tb tc:TE}{pos:Pos}
theorem binT(ha:PE X a ta)(hb:PE X b tb){pins:List (Addr × Obj)}{s:Ae}{σ : St}{H:Hp}{R:V -> V -> Hp -> Prop}(I:Inv X pins σ H s)
  (h:ta σ H λx H1=>tb σ H1 λy H2=>R x y H2) {Q:Ad->Ae->Prop} {f:Ad->Ad->Sem Ad}
  (hf:∀v u s2 x y H2,Inv X pins σ H2 s2->RelV x v->RelV y u->R x y H2->Ar (Ax X.prog X.w) X.A (f v u) Q X.xe s2) :
  Ar (Ax X.prog X.w) X.A (eval a X.env) (λv s₁=>Ar (Ax X.prog X.w) X.A (eval b X.env) (λu s₂=>Ar (Ax X.prog X.w) X.A (f v u) Q X.xe s₂) X.xe s₁) X.xe s:=by
 refine thn (ha pins s σ H _ I h) λv s1 ⟨x,H1,I1,r1,q1⟩=>?_
 refine thn (hb pins s1 σ H1 _ I1 q1) λu s2 ⟨y,H2,I2,r2,q2⟩=>?_
 exact hf v u s2 x y H2 I2 r1 r2 q2
theorem pe_op{op:Operator}{r:R2}(ho:OpR X (binaryOp op) r)(ha:PE X a ta)(hb:PE X b tb):PE X (.BinOp a op b pos) (tOp r ta tb):=by intro pins s σ H Q I h;exact wpAny_BinOp (binT ha hb I h λv u s2 x y H2 I2 rx ry q=>ho pins s2 σ H2 x y v u Q I2 rx ry q)
theorem pe_un{op:UnaryOp}{r:V->Hp->VK->Prop}(ho:UnR X (unaryOp op) r)(ha:PE X a ta):PE X (.UnaryOp op a pos) (tUn r ta):=by intro pins s σ H Q I h;exact UnaryOp_ (thn (ha pins s σ H _ I h) λv s1 ⟨x,H1,I1,r1,q1⟩=>ho pins s1 σ H1 x v Q I1 r1 q1)
theorem opI{f:Ad -> Ad -> Sem Ad}{C:Int -> Int -> Prop}{g:Int -> Int -> Int}
  (rule:∀(i j:Int) (t u:Tok) (s:Ae) (Q:Ad->Ae->Prop) (E:Ad->Ae->Prop),C i j->Q (.int (g i j) s.toks) { s with toks:=s.toks+1 }->Ar (Ax X.prog X.w) X.A (f (.int i t) (.int j u)) Q E s) :
  OpR X f (rI C λi j=>.int (g i j)):=by
 intro pins s σ H x y v u Q I rx ry h;obtain⟨i,j,rfl,rfl,hc,q⟩:=h;obtain⟨t,rfl⟩:=rx;obtain⟨t',rfl⟩:=ry;exact rule i j t t' s _ _ hc ⟨.int (g i j),H,I.tok _,⟨_,rfl⟩,q⟩
theorem opI0{f:Ad -> Ad -> Sem Ad}{g:Int -> Int -> Int}
  (rule:∀(i j:Int) (t u:Tok) (s:Ae) (Q:Ad->Ae->Prop) (E:Ad->Ae->Prop),Q (.int (g i j) s.toks) { s with toks:=s.toks+1 }->Ar (Ax X.prog X.w) X.A (f (.int i t) (.int j u)) Q E s) :
  OpR X f (rI0 λi j=>.int (g i j)):=by
 intro pins s σ H x y v u Q I rx ry h;obtain⟨i,j,rfl,rfl,q⟩:=h;obtain⟨t,rfl⟩:=rx;obtain⟨t',rfl⟩:=ry;exact rule i j t t' s _ _ ⟨.int (g i j),H,I.tok _,⟨_,rfl⟩,q⟩
theorem opB0{f:Ad -> Ad -> Sem Ad}{g:Int -> Int -> Bool}
  (rule:∀(i j:Int) (t u:Tok) (s:Ae) (Q:Ad->Ae->Prop) (E:Ad->Ae->Prop),Q (.bool (g i j)) s->Ar (Ax X.prog X.w) X.A (f (.int i t) (.int j u)) Q E s) :
  OpR X f (rI0 λi j=>.bl (g i j)):=by
 intro pins s σ H x y v u Q I rx ry h;obtain⟨i,j,rfl,rfl,q⟩:=h;obtain⟨t,rfl⟩:=rx;obtain⟨t',rfl⟩:=ry;exact rule i j t t' s _ _ ⟨.bl (g i j),H,I,rfl,q⟩
noncomputable def CDiv(i j:Int):Prop:=0<j/\j<1073741824
noncomputable def CPow(i j:Int):Prop:=0<=j/\j<=1000000/\i.natAbs<2 ^ 64
noncomputable def CMul(i j:Int):Prop:=(-(2 ^ 64)<i/\i<2 ^ 64)∨(-(2 ^ 64)<j/\j<2 ^ 64)
theorem CMul.ok{i j:Int}(h:CMul i j):IntMulOk i j:=by
 rcases h with⟨h1,h2⟩ |⟨h1,h2⟩
 .exact .of_left (intBits_le_64 h1 h2)
 .exact .of_right (intBits_le_64 h1 h2)
theorem zax:OpR X (binaryOp .Add) (rI0 λi j=>.int (i+j)):=opI0 λ_ _ _ _ _ _ _ q=>add_int q
theorem zaP:OpR X (binaryOp .Sub) (rI0 λi j=>.int (i-j)):=opI0 λ_ _ _ _ _ _ _ q=>sub_int q
theorem zcR:OpR X (binaryOp .Mult) (rI CMul λi j=>.int (i*j)):=opI λ_ _ _ _ _ _ _ hc q=>mul_int q hc.ok
theorem zkK:OpR X (binaryOp .FloorDiv) (rI CDiv λi j=>.int (i / j)):=opI λi j _ _ _ _ _ hc q=>by have h1:(0:Int)<j:=hc.1;have h2:j<1073741824:=hc.2;exact floordiv_int (by lia) (by rw[Int.fdiv_eq_ediv_of_nonneg i (by lia)];exact q) (.inl (PyProof.noPylong_small (by lia)))
theorem za2:OpR X (binaryOp .Mod) (rI (λ_ j=>0<j) λi j=>.int (i % j)):=opI λi j _ _ _ _ _ hc q=>by have h1:(0:Int)<j:=hc;exact mod_int' (by lia) (by rw[Int.fmod_eq_emod_of_nonneg i (by lia)];exact q)
theorem zg3:OpR X (binaryOp .Pow) (rI CPow λi j=>.int (i ^ j.toNat)):=opI λ_ _ _ _ _ _ _ hc q=>pow_int_small hc.1 hc.2.1 hc.2.2 q
theorem unI{f:Ad -> Sem Ad}{g:Int -> Int}
  (rule:∀(i:Int) (t:Tok) (s:Ae) (Q:Ad->Ae->Prop) (E:Ad->Ae->Prop),Q (.int (g i) s.toks) { s with toks:=s.toks+1 }->Ar (Ax X.prog X.w) X.A (f (.int i t)) Q E s) :
  UnR X f (rU λi=>.int (g i)):=by
 intro pins s σ H x v Q I rx h;obtain⟨i,rfl,q⟩:=h;obtain⟨t,rfl⟩:=rx;exact rule i t s _ _ ⟨.int (g i),H,I.tok _,⟨_,rfl⟩,q⟩
theorem zgH:UnR X (unaryOp .USub) (rU λi=>.int (-i)):=unI λ_ _ _ _ _ q=>neg_int q
end
noncomputable def scal:V->V->Bool
 |.non,.non=>true |.non,.int _=>true |.int _,.non=>true |.non,.bl _=>true |.bl _,.non=>true |.non,.str _=>true |.str _,.non=>true
 |.int _,.int _=>true |.bl _,.bl _=>true |.str _,.str _=>true |.byt _,.byt _=>true
 |.int _,.str _=>true |.str _,.int _=>true |.bl _,.str _=>true |.str _,.bl _=>true
 |_,_=>false
noncomputable def rEq:R2:=λx y H Q=>scal x y=true/\Q (.bl (decide (x=y))) H
noncomputable def rNe:R2:=λx y H Q=>scal x y=true/\Q (.bl (!decide (x=y))) H
theorem zlj{i j:Int}:decide (V.int i=V.int j)=(i == j):=by rw[Dq];simp
theorem zmK{i j:Bool}:decide (V.bl i=V.bl j)=(i == j):=by rw[Dq];simp
theorem zli{i j:Str}:decide (V.str i=V.str j)=(i == j):=by rw[Dq];simp
theorem zlk{i j:Array UInt8}:decide (V.byt i=V.byt j)=(i.toList == j.toList):=by
 rw[Dq]
 cases i
 cases j
 simp
section
variable {X:Cx}{a b c:Expr}{ta tb tc:TE}{pos:Pos}
theorem zaE{pins:List (Addr×Obj)}{σ:St}{H:Hp}{s:Ae}{Q:VK}{k k':Bool}(I:Inv X pins σ H s)(q:Q (.bl k) H)(e:k=k'):EP X pins σ Q (.bool k') s:=by subst e;exact⟨.bl k,H,I,rfl,q⟩
theorem op_eq:OpR X (BA .Eq) rEq:=by
 intro pins s σ H x y v u Q I rx ry h;obtain⟨hs,q⟩:=h
 cases x with
 |non =>
  cases rx
  cases y with
  |non=>cases ry;exact PySem.EqNone.eq_none_none (zaE I q (by simp))
  |bl j=>cases ry;exact PySem.EqNone.eq_none_bool (zaE I q (by simp))
  |int j=>obtain⟨t',rfl⟩:=ry;exact PySem.EqNone.eq_none_int (zaE I q (by simp))
  |str j=>obtain⟨t',rfl⟩:=ry;exact PySem.EqNone.eq_none_str (zaE I q (by simp))
  |_=>exact absurd (show false=true from hs) AK
 |bl i =>
  cases rx
  cases y with
  |non=>cases ry;exact PySem.EqNone.eq_bool_none (zaE I q (by simp))
  |bl j=>cases ry;exact eq_bool (zaE I q zmK)
  |str j=>obtain⟨t',rfl⟩:=ry;exact PySem.EqMixed.eq_bool_str (zaE I q (by simp))
  |_=>exact absurd (show false=true from hs) AK
 |int i =>
  obtain⟨t,rfl⟩:=rx
  cases y with
  |non=>cases ry;exact PySem.EqNone.eq_int_none (zaE I q (by simp))
  |int j=>obtain⟨t',rfl⟩:=ry;exact eq_int (zaE I q zlj)
  |str j=>obtain⟨t',rfl⟩:=ry;exact PySem.EqMixed.eq_int_str (zaE I q (by simp))
  |_=>exact absurd (show false=true from hs) AK
 |str i =>
  obtain⟨t,rfl⟩:=rx
  cases y with
  |non=>cases ry;exact PySem.EqNone.eq_str_none (zaE I q (by simp))
  |bl j=>cases ry;exact PySem.EqMixed.eq_str_bool (zaE I q (by simp))
  |int j=>obtain⟨t',rfl⟩:=ry;exact PySem.EqMixed.eq_str_int (zaE I q (by simp))
  |str j=>obtain⟨t',rfl⟩:=ry;exact eq_str (zaE I q zli)
  |_=>exact absurd (show false=true from hs) AK
 |byt i =>
  obtain⟨t,rfl⟩:=rx
  cases y with
  |byt j=>obtain⟨t',rfl⟩:=ry;exact W.eq_bytes (zaE I q zlk)
  |_=>exact absurd (show false=true from hs) AK
 |_=>cases y <;> exact absurd (show false=true from hs) AK
theorem op_ne:OpR X (BA .NotEq) rNe:=by
 intro pins s σ H x y v u Q I rx ry h;obtain⟨hs,q⟩:=h
 cases x with
 |non =>
  cases rx
  cases y with
  |non=>cases ry;exact PySem.EqNone.ne_none_none (zaE I q (by simp))
  |bl j=>cases ry;exact PySem.EqNone.ne_none_bool (zaE I q (by simp))
  |int j=>obtain⟨t',rfl⟩:=ry;exact PySem.EqNone.ne_none_int (zaE I q (by simp))
  |str j=>obtain⟨t',rfl⟩:=ry;exact PySem.EqNone.ne_none_str (zaE I q (by simp))
  |_=>exact absurd (show false=true from hs) AK
 |bl i =>
  cases rx
  cases y with
  |non=>cases ry;exact PySem.EqNone.ne_bool_none (zaE I q (by simp))
  |bl j=>cases ry;exact ne_bool (zaE I q (congrArg not zmK))
  |str j=>obtain⟨t',rfl⟩:=ry;exact PySem.EqMixed.ne_bool_str (zaE I q (by simp))
  |_=>exact absurd (show false=true from hs) AK
 |int i =>
  obtain⟨t,rfl⟩:=rx
  cases y with
  |non=>cases ry;exact PySem.EqNone.ne_int_none (zaE I q (by simp))
  |int j=>obtain⟨t',rfl⟩:=ry;exact ne_int (zaE I q (congrArg not zlj))
  |str j=>obtain⟨t',rfl⟩:=ry;exact PySem.EqMixed.ne_int_str (zaE I q (by simp))
  |_=>exact absurd (show false=true from hs) AK
 |str i =>
  obtain⟨t,rfl⟩:=rx
  cases y with
  |non=>cases ry;exact PySem.EqNone.ne_str_none (zaE I q (by simp))
  |bl j=>cases ry;exact PySem.EqMixed.ne_str_bool (zaE I q (by simp))
  |int j=>obtain⟨t',rfl⟩:=ry;exact PySem.EqMixed.ne_str_int (zaE I q (by simp))
  |str j=>obtain⟨t',rfl⟩:=ry;exact ne_str (zaE I q (congrArg not zli))
  |_=>exact absurd (show false=true from hs) AK
 |byt i =>
  obtain⟨t,rfl⟩:=rx
  cases y with
  |byt j=>obtain⟨t',rfl⟩:=ry;exact W.ne_bytes (zaE I q (congrArg not zlk))
  |_=>exact absurd (show false=true from hs) AK
 |_=>cases y <;> exact absurd (show false=true from hs) AK
theorem op_lt:OpR X (BA .Lt) (rI0 λi j=>.bl (decide (i<j))):=opB0 λ_ _ _ _ _ _ _ q=>lt_int q
theorem op_gt:OpR X (BA .Gt) (rI0 λi j=>.bl (decide (j<i))):=opB0 λ_ _ _ _ _ _ _ q=>gt_int q
theorem op_ge:OpR X (BA .GtE) (rI0 λi j=>.bl (decide (j<=i))):=opB0 λ_ _ _ _ _ _ _ q=>ge_int q
theorem zdn:OpR X (BA .Is) (λx y H Q=>y=.non/\Q (.bl (decide (x=.non))) H):=by
 intro pins s σ H x y v u Q I rx ry h;obtain⟨rfl,q⟩:=h
 cases ry
 refine is_none_gen (zaE I q ?_)
 cases x <;> first
  | (cases rx;rfl)
  | (obtain⟨t,rfl⟩:=rx;rfl)
theorem zeq:OpR X (BA .IsNot) (λx y H Q=>y=.non/\Q (.bl (!decide (x=.non))) H):=by
 intro pins s σ H x y v u Q I rx ry h;obtain⟨rfl,q⟩:=h
 cases ry
 refine isnot_none_gen (zaE I q ?_)
 cases x <;> first
  | (cases rx;rfl)
  | (obtain⟨t,rfl⟩:=rx;rfl)
theorem zaq(b:Expr){op:CmpOp}(h:op≠.In:=by decide)(h2:op≠.NotIn:=by decide):behindInMarks op b=false:=by
 have e1:(op == CmpOp.In)=false:=by cases op <;> first |rfl |exact absurd rfl h
 have e2:(op == CmpOp.NotIn)=false:=by cases op <;> first |rfl |exact absurd rfl h2
 cases b <;> simp[behindInMarks,e1,e2]
theorem zbf{op:CmpOp}{r:R2}(ho:OpR X (BA op) r)(ha:PE X a ta)(hb:PE X b tb)(hm:behindInMarks op b=false):PE X (.Compare a [op] [b] pos) (tOp r ta tb):=by intro pins s σ H Q I h;exact wpAny_Compare1 (binT ha hb I h λv u s2 x y H2 I2 rx ry q=>ho pins s2 σ H2 x y v u Q I2 rx ry q) hm
noncomputable def tTest(t:TE):TT:=λσ H Q=>t σ H λx H'=>∃k,x=.bl k/\Q k H'
theorem zas{op:CmpOp}{r:R2}(ho:OpR X (BA op) r)(ha:PE X a ta)(hb:PE X b tb)(hm:behindInMarks op b=false):PT X (.Compare a [op] [b] pos) (tTest (tOp r ta tb)):=by
 intro pins s σ H Q I h
 refine wpAny_isTrue_Compare1 (thn (ha pins s σ H _ I h) λv s1 ⟨x,H1,I1,r1,q1⟩=>thn (hb pins s1 σ H1 _ I1 q1) λu s2 ⟨y,H2,I2,r2,q2⟩ =>
  thn (ho pins s2 σ H2 x y v u _ I2 r1 r2 q2) λc s3 ⟨z,H3,I3,r3,k,e,q3⟩=>?_) hm
 subst e
 cases r3
 exact BH ⟨H3,I3,q3⟩
noncomputable def TruV(K:W.Frag)(x:V)(H:Hp)(k:Bool):Prop :=
 match x with
 |.non=>k=false
 |.bl b=>k=b
 |.int i=>k=(i != 0)
 |.str y=>y.length<=sizeLine/\k=((y.length:Int) != 0)
 |.byt y=>y.size<=sizeLine/\k=((y.size:Int) != 0)
 |.ref p=>(∃xs,SqL K H p xs/\k=!xs.isEmpty)∨(∃xs,SqT K H p xs/\k=!xs.isEmpty)∨∃kvs,H p=some (.dK kvs)/\k=!kvs.isEmpty
 |_=>False
theorem zjK{κ:Type}{kvs:List (κ×V)}{vs:List (κ×Ad)}(r:KV kvs vs):(!vs.isEmpty)=!kvs.isEmpty:=by
 cases r <;> rfl
theorem zfy{xs:List V}{its:List Ad}(r:Vals xs its):(!its.toArray.isEmpty)=!xs.isEmpty:=by
 cases r <;> simp
theorem zhd:(sizeLine:Nat)<2 ^ 63:=by rw[CA];decide
theorem znu:TruR X (λx H Q=>∃k,TruV X.K x H k/\Q k H):=by
 intro pins s σ H x v Q I rx h;obtain⟨k,e,q⟩:=h;have hl:=zhd;have hs:sizeLine=16777216:=CA
 cases x with
 |non =>
  cases rx
  have e':k=false:=e;subst e';exact truthy_none ⟨H,I,q⟩
 |bl b =>
  cases rx
  have e':k=b:=e;subst e';exact BH ⟨H,I,q⟩
 |int i =>
  obtain⟨t,rfl⟩:=rx;have e':k=(i != 0):=e;subst e';exact PySem.P.truthy_int ⟨H,I,q⟩
 |str y =>
  obtain⟨t,rfl⟩:=rx;obtain⟨hy,e'⟩:y.length<=sizeLine/\k=((y.length:Int) != 0):=e;subst e';exact PySem.P.truthy_str (by lia) ⟨H,I.tok _,q⟩
 |byt y =>
  obtain⟨t,rfl⟩:=rx;obtain⟨hy,e'⟩:y.size<=sizeLine/\k=((y.size:Int) != 0):=e;subst e';exact W.truthy_bytes (by lia) ⟨H,I.tok _,q⟩
 |ref p =>
  cases rx
  have e':(∃xs,SqL X.K H p xs/\k=!xs.isEmpty)∨(∃xs,SqT X.K H p xs/\k=!xs.isEmpty)∨∃kvs,H p=some (.dK kvs)/\k=!kvs.isEmpty:=e;rcases e' with⟨xs,hx,e'⟩ |⟨xs,hx,e'⟩ |⟨kvs,hx,e'⟩
  .subst e';obtain⟨its,r,pl,hz⟩:=I.list hx;have hlen:=r.length;exact wpAny_truthy_list pl.isList (by simp only[Ao];lia) ⟨H,I.tok _,by rw[zfy r];exact q⟩
  .subst e';obtain⟨its,r,pl,hz⟩:=I.tuple hx;have hlen:=r.length;exact truthy_tuple pl (by simp only[Ao];lia) ⟨H,I.tok _,by rw[zfy r];exact q⟩
  .subst e';obtain⟨hz,hS,vs,r,m⟩:kvs.length<=sizeLine/\(p == BF)=false/\∃vs,KV kvs vs/\s.heap.DictOf (zaJ X.prog X.w) p vs:=I.hok p _ hx;have hlen:kvs.length=vs.length:=CB r;exact wpAny_truthy_dict hS m (by lia) ⟨H,I.tok _,by rw[zjK r];exact q⟩
 |_=>exact (show False from e).elim
theorem zf1(ha:PE X a ta)(he:∀whole, isTrue a X.env whole=(do let v <- whole; standAt a.pos; Do [v] (truthy v))) :
  PT X a (λσ H Q=>ta σ H λx H'=>∃k,TruV X.K x H' k/\Q k H'):=by
 intro pins s σ H Q I h;exact isTrue_plain (thn (ha pins s σ H _ I h) λv s1 ⟨x,H1,I1,r1,q1⟩=>znu pins s1 σ H1 x v Q I1 r1 q1) (he _)
theorem vals1{x:V}{us:List Ad}(r:Vals [x] us):∃u,us=[u]/\RelV x u:=by
 cases r with
 |cons r1 r2=>cases r2;exact⟨_,rfl,r1⟩
theorem vals2{x y:V}{us:List Ad}(r:Vals [x,y] us):∃u w',us=[u,w']/\RelV x u/\RelV y w':=by
 cases r with
 |cons r1 r2 =>
  cases r2 with
  |cons r3 r4=>cases r4;exact⟨_,_,rfl,r1,r3⟩
theorem zjj:CallR X (.builtin "abs") (λxs H Q=>∃i,xs=[.int i]/\Q (.int (if i<0 then -i else i)) H):=by intro pins s σ H xs us Q I r h;obtain⟨i,rfl,q⟩:=h;obtain⟨u,rfl,t,rfl⟩:=vals1 r;exact call_abs_int λu tk=>⟨.int (if i<0 then -i else i),H,I.tok _,⟨_,rfl⟩,q⟩
theorem zls (hc:X.calm=true):CallR X (.builtin "max") (λxs H Q=>∃i j,xs=[.int i,.int j]/\Q (.int (if j > i then j else i)) H):=by
 intro pins s σ H xs us Q I r h;obtain⟨i,j,rfl,q⟩:=h;obtain⟨u,w',rfl,⟨t,rfl⟩,⟨t',rfl⟩⟩:=vals2 r;refine max_two_ints (I.ok.hd hc) λh' tk k=>⟨_,H,I.kept k,?_,q⟩
 by_cases hj:j > i
 .rw[if_pos hj,if_pos hj];exact⟨_,rfl⟩
 .rw[if_neg hj,if_neg hj];exact⟨_,rfl⟩
theorem zlr (hc:X.calm=true):CallR X (.builtin "min") (λxs H Q=>∃i j,xs=[.int i,.int j]/\Q (.int (if j<i then j else i)) H):=by
 intro pins s σ H xs us Q I r h;obtain⟨i,j,rfl,q⟩:=h;obtain⟨u,w',rfl,⟨t,rfl⟩,⟨t',rfl⟩⟩:=vals2 r;refine min_two_ints (I.ok.hd hc) λh' tk k=>⟨_,H,I.kept k,?_,q⟩
 by_cases hj:j<i
 .rw[if_pos hj,if_pos hj];exact⟨_,rfl⟩
 .rw[if_neg hj,if_neg hj];exact⟨_,rfl⟩
theorem zht:CallR X (.type "int") (λxs H Q=>(∃i,xs=[.int i]/\Q (.int i) H)∨∃k,xs=[.bl k]/\Q (.int (if k then 1 else 0)) H):=by
 intro pins s σ H xs us Q I r h;rcases h with⟨i,rfl,q⟩ |⟨k,rfl,q⟩
 .obtain⟨u,rfl,t,rfl⟩:=vals1 r;exact call_int_int ⟨.int i,H,I,⟨_,rfl⟩,q⟩
 .obtain⟨u,rfl,r1⟩:=vals1 r
  cases r1
  exact call_int_bool ⟨.int (if k then 1 else 0),H,I.tok _,⟨_,rfl⟩,q⟩
end
structure ObjM (h:Heap) (x dx C:Addr) (mA:Str->Option Ad):Prop where
 obj:h.get? x=some (W.instObj C dx)
 ns:h.Ns1 dx mA
 ne:dx≠x
theorem zkX{h:Heap}{dx:Addr}{mA:Str->Option Ad}(n:h.Ns1 dx mA):∃od,h.get? dx=some od/\∀name,W.lookIn name od=some (mA name):=by
 obtain⟨o,es,ep,ho,hd,hk,_,hm⟩:=n;refine⟨o,ho,λname=>?_⟩;have e:=hm name;unfold nsFind findBy at e;rw[<- Array.find?_toList]at e;unfold W.lookIn;rw[hd];dsimp only;split
 .rename_i y q
  rw[q]at e;exact congrArg some e
 .rename_i q
  rw[q]at e
  have a:es.toList.any (·.refKey)=false:=by rw[List.any_eq_false];intro y hy;obtain⟨z,t,hkey⟩:=hk y (Array.mem_toList_iff.mp hy);simp[DictEntry.refKey,hkey]
  have a':¬ es.toList.any (·.refKey)=true:=by rw[a];exact AK
  rw[if_neg a'];exact congrArg some e
theorem ObjM.look{h:Heap}{x dx C:Addr}{mA:Str->Option Ad}(I:ObjM h x dx C mA):∃od,W.InstAt h x (W.instObj C dx) C (some od)/\∀name,W.lookIn name od=some (mA name) :=
 let ⟨od,ho,hl⟩:=zkX I.ns
 ⟨od,⟨I.obj,rfl,rfl,ho⟩,hl⟩
section
variable {prog:AJ}{w:A1}{A:AT}{E:Ad->Ae->Prop}{s:Ae}{K:W.Frag}{x dx C f:Addr}{mA:Str->Option Ad}{name:Str}{v:Ad}
end
section
variable {P:AJ}{w:A1}{H H':Hp}{h h':Heap}{a C dx:Addr}{fs fs':List (Str×V)}
theorem znk(hok:HOk P w H h)(e:H a=some (.ins C dx fs)):∃mA,ObjM h a dx C mA/\(∀f,RelO (fs.lookup f) (mA f))/\PySem.Within mA (fs.map (·.1))/\fs.length<=1000/\H dx=some (.own a):=by obtain⟨d,z,ne,ob,mA,n,r,q⟩:=(show ObjOk P w H h a (.ins C dx fs) from hok a _ e);exact⟨mA,⟨ob,n,ne⟩,r,q,z,d⟩
end
structure Cls (K:W.Frag) (C:Addr):Prop where
 pg:W.plainGet K C Str.empty=true
 hd:W.hasDictIn K C=true
 po:W.plainOver K C=true
 sa:W.findIn K (.ref C) "__setattr__" = some (some (.builtin "object.__setattr__"))
theorem Cls.get{K:W.Frag}{C:Addr}(c:Cls K C)(f:Str):W.plainGet K C f=true:=c.pg
structure Con (K:W.Frag) (C:Addr) (f:Str) (v:V) (u:Ad):Prop where
 at_:W.findIn K (.ref C) f=some (some u)
 rel:RelV v u
 get:W.specialIn K u "__get__" = some none
 cp:W.copiedNames.contains f=false
structure Meth (K:W.Frag) (C:Addr) (m:Str) (f:Addr):Prop where
 at_:W.findIn K (.ref C) m=some (some (.ref f))
 fn:W.isFn K (.ref f)=true
 kp:W.keepIn K (.ref f)=true
section
variable {X:Cx}{pins:List (Addr×Obj)}{σ:St}{H:Hp}{s:Ae}{a C dx:Addr}{fs:List (Str×V)}{f:Str}{v:V}{A:AT}{E:Ad->Ae->Prop}
end
section
variable {X:Cx}{o e value:Expr}{f:Str}{pos pos' tpos:Pos}{ta tv:TE}
end
section
variable {X:Cx}{pins:List (Addr×Obj)}{σ:St}{H:Hp}{s:Ae}{A:AT}{E:Ad->Ae->Prop}{Q:Ad->Ae->Prop}{c:Ad}{b:Bool}
inductive TyOf (K:W.Frag) (H:Hp):V->Ad->Prop where
  |non:TyOf K H .non (.type "NoneType")
  |bl (x:Bool):TyOf K H (.bl x) (.type "bool")
  |int (i:Int):TyOf K H (.int i) (.type "int")
  |str (x:Str):TyOf K H (.str x) (.type "str")
  |flt (x:UInt64):TyOf K H (.flt x) (.type "float")
  |lst {a:Addr} {xs:List V} (e:H a=some (.lst xs)):TyOf K H (.ref a) (.type "list")
  |frz {a:Addr} {o:Obj} {xs:List V} (e:H a=some (.frz o (.lst xs))):TyOf K H (.ref a) (.type "list")
  |tup {a:Addr} {xs:List V} (e:H a=some (.tup xs)):TyOf K H (.ref a) (.type "tuple")
  |dK {a:Addr} {kvs:List (Key×V)} (e:H a=some (.dK kvs)):TyOf K H (.ref a) (.type "dict")
  |dT {a:Addr} {kvs:List (List Key×V)} (e:H a=some (.dT kvs)):TyOf K H (.ref a) (.type "dict")
  |ins {a C dx:Addr} {fs:List (Str × V)} (e:H a=some (.ins C dx fs)) (cl:Cls K C) (ha:W.findIn K (.ref C) "__class__" = some (some (.builtin "object.__class__")))
      (hn:W.specialIn K (.builtin "object.__class__") "__get__" = some (some (.builtin "getset_descriptor.__get__"))) (htk:W.takesIn K (.builtin "object.__class__")=some true)
      (hm:W.mroIn K C (.type "object")=some true):TyOf K H (.ref a) (.ref C)
theorem zk4{x:V}{u t:Ad}(I:Inv X pins σ H s)(rx:RelV x u)(ty:TyOf X.K H x t)(e:W.kitOne X.K t c=some b)(h:∀tk, Q (.bool b) { s with toks := tk }) :
  Ar (Ax X.prog X.w) A (call (.builtin "isinstance") [u,c]) Q E s:=by
 cases ty with
 |non=>cases (show u=B3 from rx);exact CT W.kitx_none I.kIn Cc e (λz=>nomatch z) h
 |bl y=>cases (show u=Value.bool y from rx);exact CT W.kitx_bool I.kIn Cc e (λz=>nomatch z) h
 |int i=>obtain⟨t,q⟩:=(show ∃t,u=Da i t from rx);cases q;exact CT W.kitx_int I.kIn Cc e (λz=>nomatch z) h
 |str y=>obtain⟨t,q⟩:=(show ∃t,u=Value.str y t from rx);cases q;exact CT W.kitx_str I.kIn Cc e (λz=>nomatch z) h
 |flt y=>obtain⟨t,q⟩:=(show ∃t,u=Value.float y t from rx);cases q;exact CT W.kitx_float I.kIn Cc e (λz=>nomatch z) h
 |@lst a xs ea =>
  cases (show u=Av a from rx)
  obtain⟨_,_,n,_,h1⟩:=(show ObjOk X.prog X.w H s.heap a (.lst xs) from I.hok a _ ea);exact CT W.kitx_list I.kIn ⟨_,h1,rfl⟩ e (λz=>nomatch z) h
 |@frz a ob xs ea =>
  cases (show u=Av a from rx)
  obtain⟨_,_,_,n,_,h1⟩:=(show ObjOk X.prog X.w H s.heap a (.frz ob (.lst xs)) from I.hok a _ ea);exact CT W.kitx_list I.kIn ⟨_,h1,rfl⟩ e (λz=>nomatch z) h
 |@tup a xs ea =>
  cases (show u=Av a from rx)
  obtain⟨_,_,_,p⟩:=(show ObjOk X.prog X.w H s.heap a (.tup xs) from I.hok a _ ea);obtain⟨o,h1,h2,_⟩:=p;exact CT W.kitx_tuple I.kIn ⟨o,h1,h2⟩ e (λz=>nomatch z) h
 |@dK a kvs ea =>
  cases (show u=Av a from rx)
  obtain⟨_,_,vs,_,p⟩:=(show ObjOk X.prog X.w H s.heap a (.dK kvs) from I.hok a _ ea);obtain⟨o,es,ep,h1,h2,_⟩:=p;exact CT W.kitx_dict I.kIn ⟨o,h1,h2.1⟩ e (λz=>nomatch z) h
 |@dT a kvs ea =>
  cases (show u=Av a from rx)
  obtain⟨_,_,xs,_,o,es,ep,h1,h2,_⟩:=(show ObjOk X.prog X.w H s.heap a (.dT kvs) from I.hok a _ ea);exact CT W.kitx_dict I.kIn ⟨o,h1,h2.1⟩ e (λz=>nomatch z) h
 |@ins a C dx fs ea cl ha hn htk hm =>
  cases (show u=Av a from rx)
  obtain⟨mA,O,_⟩:=znk I.hok ea;obtain⟨od,J,_⟩:=O.look;exact CT (W.kitx_own (cl.get _) cl.hd ha hn htk hm) I.kIn J e (λz=>nomatch z) h
end
structure Room (k:Nat) (A:AT):Prop where
 hd:A.handled=none
 dp:A.depth+3*k+5<recursionLimit
 un:A.units+16*k+200<cLine
theorem Room.mono{j k:Nat}{A:AT}(r:Room k A)(h:j<=k):Room j A:=⟨r.hd,by have:=r.dp;lia,by have:=r.un;lia⟩
theorem Room.deeper{k:Nat}{A:AT}(r:Room (k+1) A)(env:Env):Room k (A.deeper env) :=
 ⟨r.hd,by have:=r.dp;show A.depth+1+3*k+5<_;lia,by have:=r.un;show A.units+3+16*k+200<_;lia⟩
theorem Room.in1{k:Nat}{A:AT}(r:Room (k+1) A):Room k A.in1 :=
 ⟨r.hd,by have:=r.dp;show A.depth+3*k+5<_;lia,by have:=r.un;show A.units+1+16*k+200<_;lia⟩
theorem Room.depth{k:Nat}{A:AT}(r:Room k A):A.depth<recursionLimit:=by have:=r.dp;lia
theorem Room.units{k:Nat}{A:AT}(r:Room k A):A.units+64<cLine:=by have:=r.un;lia
theorem Room.units0{k:Nat}{A:AT}(r:Room k A):A.units<cLine:=by have:=r.un;lia
noncomputable def tNil:TA:=λ_ H Q=>Q [] H
noncomputable def tCons(ta:TE)(tr:TA):TA:=λσ H Q=>ta σ H λx H1=>tr σ H1 λxs H2=>Q (x::xs) H2
section
variable {X:Cx}{e:Expr}{es:List Expr}{te:TE}{t:TA}{pos:Pos}
theorem zab:PA X [] tNil:=λ_ _ _ _ H Q I h=>Calls.spliced_nil ⟨[],H,I,.nil,h⟩
theorem zah(ha:PE X e te)(hr:PA X es t)(hs:A3 (e::es) X.env=(false,eval e X.env)::A3 es X.env:=by rfl):PA X (e::es) (tCons te t):=by intro pos pins s σ H Q I h;rw[hs];show Ar _ _ (spliced ((false,eval e X.env)::backTo pos (A3 es X.env))) _ _ s;refine Calls.spliced_cons (thn (ha pins s σ H _ I h) λu s1 ⟨x,H1,I1,r1,q1⟩=>?_);exact thn (hr pos pins s1 σ H1 _ I1 q1) λus s2 ⟨xs,H2,I2,r2,q2⟩=>⟨x::xs,H2,I2,.cons r1 r2,q2⟩
noncomputable def tTup(t:TA):TE:=λσ H Q=>t σ H λxs H1=>xs.length<=sizeLine/\∀p,H1 p=none->Q (.ref p) (upd H1 p (.tup xs))
noncomputable def tLst(t:TA):TE:=λσ H Q=>t σ H λxs H1=>xs.length<=sizeLine/\∀p,H1 p=none->Q (.ref p) (upd H1 p (.lst xs))
theorem zap{x1}(h:PA X es t):PE X (.Tuple es x1 pos) (tTup t):=by intro pins s σ H Q I hq;refine wpAny_Tuple_spliced (thn (h pos pins s σ H _ I hq) λus s1 ⟨xs,H1,I1,r,z,q⟩=>⟨by rw[<- r.length];exact z,?_⟩);have hf:H1 s1.heap.objs.size=none:=I1.hok.fresh (Aj _);refine⟨.ref s1.heap.objs.size,upd H1 s1.heap.objs.size (.tup xs),I1.laid (t':=s1.toks) (λb u e=>Ag _ e) (Aj _) ?_,rfl,q _ hf⟩;exact⟨z,us,r,⟨_,Az _ rfl,rfl,_,rfl⟩⟩
theorem zba(h:PA X es t):PE X (.List es pos) (tLst t):=by intro pins s σ H Q I hq;refine wpAny_List_spliced (thn (h pos pins s σ H _ I hq) λus s1 ⟨xs,H1,I1,r,z,q⟩=>⟨by rw[<- r.length];exact z,?_⟩);have hf:H1 s1.heap.objs.size=none:=I1.hok.fresh (Aj _);refine⟨.ref s1.heap.objs.size,upd H1 s1.heap.objs.size (.lst xs),I1.laid (t':=s1.toks) (λb u e=>Ag _ e) (Aj _) ?_,rfl,q _ hf⟩;exact⟨z,us,0,r,Az _ rfl⟩
end
noncomputable abbrev Sp:=List V->Hp->VK->XK->Prop
noncomputable abbrev CXT:=List Env->Hp->Ae->XK->Ad->Ae->Prop
structure Env0 (P:AJ) (w:A1) (K:W.Frag) (mg:Str->Option Ad) (base:Heap) (A:AT) (outer:List Env) (s:Ae) (H:Hp):Prop where
 frames:A.frames=some outer
 mod:Mod K mg base
 bs:∀b o,base.get? b=some o->s.heap.get? b=some o/\H b=none
 bsz:base.objs.size<=s.heap.objs.size
 funs:s.heap.FunFrames base outer
 frf:∀b∈frs outer,H b=none
 hok:HOk P w H s.heap
 bare:AllBare s.gens
noncomputable def CE(outer:List Env)(P:AJ)(w:A1)(H:Hp)(s:Ae)(Q:VK)(u:Ad)(s':Ae):Prop :=
 ∃v H',s'.os=s.os/\AllBare s'.gens/\Un (frs outer) [] H H' s.heap s'.heap/\HOk P w H' s'.heap/\RelV v u/\Q v H'
noncomputable def CR(CX:CXT)(outer:List Env)(P:AJ)(w:A1)(H:Hp)(s:Ae)(Q:VK)(E:XK)(r:Result)(s':Ae):Prop :=
 match r with
 |.ok (.ret u)=>CE outer P w H s Q u s'
 |.ok _=>False
 |.error e=>CX outer H s E e s'
structure FnOk (P:AJ) (w:A1) (K:W.Frag) (mg:Str->Option Ad) (base:Heap) (CX:CXT) (k:Nat) (f:Addr) (fd:Bo) (ps:List Str) (sp:Sp):Prop where
 len:∀vs H Q E,sp vs H Q E->vs.length=ps.length
 run:∀(A:AT) (outer:List Env) (s:Ae) (H:Hp) (args:Args) (us:List Ad) (vs:List V) (Q:VK) (E:XK),Room k A->Env0 P w K mg base A outer s H->BindsTo s fd args (ps.zip us)->Vals vs us->sp vs H Q E ->
  B9 (Ax P w) A (.call (.ref f) args) (CR CX outer P w H s Q E) s
theorem FnOk.imp{P:AJ}{w:A1}{K:W.Frag}{mg:Str -> Option Ad}{base:Heap}{CX:CXT}{k:Nat}{f:Addr}{fd:Bo}{ps:List Str}{sp sp':Sp}(F:FnOk P w K mg base CX k f fd ps sp)
  (h:∀vs H Q E,sp' vs H Q E->sp vs H Q E):FnOk P w K mg base CX k f fd ps sp' :=
 ⟨λvs H Q E q=>F.len vs H Q E (h _ _ _ _ q),λA outer s H args us vs Q E hr he hb hv hs=>F.run A outer s H args us vs Q E hr he hb hv (h _ _ _ _ hs)⟩
theorem Env0.in1{P:AJ}{w:A1}{K:W.Frag}{mg:Str -> Option Ad}{base:Heap}{A:AT}{outer:List Env}{s:Ae}{H:Hp}(e:Env0 P w K mg base A outer s H) :
  Env0 P w K mg base A.in1 outer s H:=⟨e.frames,e.mod,e.bs,e.bsz,e.funs,e.frf,e.hok,e.bare⟩
section
variable {X:Cx}{pins:List (Addr×Obj)}{σ:St}{H:Hp}{s s':Ae}
theorem Inv.env0(I:Inv X pins σ H s):Env0 X.prog X.w X.K X.mg X.base X.A X.stack s H :=
 ⟨I.ok.frames,I.ok.mod,I.bs,Bb I.ok.bsz I.sz,I.stack,I.stkFree,I.hok,I.bare⟩
theorem Inv.after{Q:VK}{u:Ad}(I:Inv X pins σ H s)(h:CE X.stack X.prog X.w H s Q u s'):EP X pins σ Q u s':=by obtain⟨v,H',os,bare,un,hok,r,q⟩:=h;obtain⟨hh,g,d,t,os'⟩:=s';obtain rfl:os'=s.os:=os;exact⟨v,H',I.call (h':=hh) (g':=g) (d':=d) (t':=t) (ch:=[]) un hok bare (λb z=>absurd z (by simp)),r,q⟩
end
noncomputable def tCall(sp:Sp)(dvs:List V)(E:XK)(t:TA):TE:=λσ H Q=>t σ H λvs H1=>sp (vs++dvs) H1 Q E
noncomputable def Binds(K:W.Frag)(fd:Bo)(ps:List Str)(ds:List Ad):Prop :=
 ∀(s:Ae) (us:List Ad),K.In s.heap->(us++ds).length=ps.length->BindsTo s fd ⟨us,[]⟩ (ps.zip (us++ds))
theorem Binds.all{K:W.Frag}{fd:Bo}{ps:List Str}(h:∀us:List Ad,us.length=ps.length->CK fd ⟨us,[]⟩=pure (ps.zip us)):Binds K fd ps []:=λs us _ hl=>by rw[BL]at hl ⊢;exact .of_eq (h us hl)
noncomputable def zjl(CX:CXT)(X:Cx)(E:XK):Prop:=∀(pins:List (Addr×Obj)) (σ:St) (H:Hp) (s:Ae) (e:Ad) (s':Ae),Inv X pins σ H s->CX X.stack H s E e s'->X.xe e s'
section
variable {X:Cx}{CX:CXT}{k:Nat}{f C:Addr}{fd:Bo}{ps:List Str}{sp:Sp}{dvs:List V}{ds:List Ad}{E:XK}{x m:Str}{p pos apos:Pos}{e o:Expr}{es:List Expr}{ta:TE}{t:TA}
theorem zmv{pins:List (Addr × Obj)}{σ : St}{H:Hp}{s:Ae}{Q:VK}{us:List Ad}{vs:List V}(F:FnOk X.prog X.w X.K X.mg X.base CX k f fd ps sp)(hr:Room k X.A)(hb:Binds X.K fd ps ds)(hd:Vals dvs ds)(hx:zjl CX X E)
  (I:Inv X pins σ H s) (r:Vals vs us) (h:sp (vs++dvs) H Q E):Ar (Ax X.prog X.w) X.A (call (.ref f) us) (EP X pins σ Q) X.xe s:=by
 have r2:Vals (vs++dvs) (us++ds):=r.append hd;have hl:(us++ds).length=ps.length:=by rw[<- r2.length];exact F.len _ _ _ _ h
 refine wpAny_call (codeAny_mono (F.run X.A X.stack s H ⟨us,[]⟩ (us++ds) (vs++dvs) Q E hr I.env0 (hb s us I.kIn hl) r2 h) λr s' hq=>?_)
 cases r with
 |error e=>exact hx pins σ H s e s' I hq
 |ok fl =>
  cases fl with
  |ret u=>exact I.after hq
  |next=>exact Bt hq
  |brk=>exact Bt hq
  |cont=>exact Bt hq
theorem zm4(F:FnOk X.prog X.w X.K X.mg X.base CX k f fd ps sp)(hr:Room k X.A)(hg:Gl X x)(hm:X.mg x=some (.ref f))(hk:W.keepIn X.K (.ref f)=true)(hb:Binds X.K fd ps ds)(hd:Vals dvs ds)(hx:zjl CX X E)
  (ha:PA X (e::es) t) (hdb:(x == ("__debug__" : Str))=false:=by decide) (he:A3 (e::es) X.env=(false,eval e X.env)::A3 es X.env:=by rfl) (hpl:(backTo pos (A3 es X.env)).any (·.1)=false:=by rfl) :
  PE X (.Call (.Name x p) (e::es) [] pos) (tCall sp dvs E t):=by
 intro pins s σ H Q I h;refine B4 (zid I hg hm ?_ hdb);refine W.callWith_K (h₀:=X.base) I.ok.mod.kin hk (thn (ha pos pins s σ H _ I h) λus s1 ⟨vs,H1,I1,r,q⟩=>⟨I1.kIn,?_⟩) he hpl;exact zmv F hr hb hd hx I1 r q
theorem zd4(F:FnOk X.prog X.w X.K X.mg X.base CX k f fd ps sp)(hr:Room k X.A)(hg:Gl X x)(hm:X.mg x=some (.ref f))(hk:W.keepIn X.K (.ref f)=true)(hb:Binds X.K fd ps ds)(hd:Vals dvs ds)(hx:zjl CX X E)
  (hdb:(x == ("__debug__" : Str))=false:=by decide):PE X (.Call (.Name x p) [] [] pos) (tCall sp dvs E tNil):=by
 intro pins s σ H Q I h;refine B4 (zid I hg hm ?_ hdb);exact W.callWith_K0 I.kIn hk (zmv (us:=[]) F hr hb hd hx I .nil h)
structure Mk (K:W.Frag) (C f:Addr):Prop where
 makes:W.makesIn K C=true
 init:W.findIn K (.ref C) "__init__" = some (some (.ref f))
 fn:W.isFn K (.ref f)=true
 kp:W.keepIn K (.ref C)=true
end
noncomputable def PK(X:Cx)(kws:List Keyword)(t:TA):Prop :=
 ∀(pos:Pos) (pins:List (Addr×Obj)) (s:Ae) (σ:St) (H:Hp) (Q:List V->Hp->Prop),Inv X pins σ H s->t σ H Q->Ar (Ax X.prog X.w) X.A (evalAll ((Dj pos (Cq kws X.env)).map (·.2))) (AP X pins σ Q) X.xe s
section
variable {X:Cx}{CX:CXT}{k:Nat}{f C:Addr}{fd:Bo}{ps ks:List Str}{sp:Sp}{E:XK}{x m:Str}{p pos apos kpos:Pos}{e o:Expr}{es:List Expr}{kws:List Keyword}{te ta:TE}{t tk:TA}{nm:Option Str}
theorem zmy:PK X [] tNil:=λ_ _ _ _ H Q I h=>wpAny_evalAll_nil ⟨[],H,I,.nil,h⟩
theorem zkF(ha:PE X e te)(hr:PK X kws t):PK X (⟨nm,e,kpos⟩::kws) (tCons te t):=by intro pos pins s σ H Q I h;show Ar _ _ (evalAll ((do let v <- eval e X.env;standAt pos;pure v)::(Dj pos (Cq kws X.env)).map (·.2))) _ _ s;refine wpAny_evalAll_cons (Ab (thn (ha pins s σ H _ I h) λu s1 ⟨x,H1,I1,r1,q1⟩=>Ab (B7 (Ah ?_))));exact thn (hr pos pins s1 σ H1 _ I1 q1) λus s2 ⟨xs,H2,I2,r2,q2⟩=>⟨x::xs,H2,I2,.cons r1 r2,q2⟩
structure KBinds (K:W.Frag) (fd:Bo) (ps ks:List Str) (g:List Ad->List Ad->List Ad) (gV:List V->List V->List V):Prop where
 to:∀(s:Ae) (us ws:List Ad),K.In s.heap->(g us ws).length=ps.length->BindsTo s fd ⟨us,ks.zip ws⟩ (ps.zip (g us ws))
 rel:∀{vs:List V} {us:List Ad} {zs:List V} {ws:List Ad},Vals vs us->Vals zs ws->Vals (gV vs zs) (g us ws)
variable {g:List Ad->List Ad->List Ad}{gV:List V->List V->List V}
end
structure FnScope (N P:List Str) (sc:Scope):Prop where
 kind:sc.kind=.function
 co:sc.isCoroutine=false
 gen:sc.isGenerator=false
 nd:N.Nodup
 pre:N.take P.length=P
 par:∀x∈P,sc.names.lookup x=some .local∨sc.names.lookup x=some .cell
 nofree:∀y∈sc.names,y.2≠.free
theorem zhu{kindOf:Str->Option NameKind}{x:Str}:∀{binds:List (Str×Ad)}{m:Str->Option Ad},(∀v,(x,v) ∉ binds)->bindL kindOf binds m x=m x
 |[],_,_=>rfl
 | (n,v)::r,m,h=>by
  unfold bindL;rw[zhu λw hw=>h w (At _ hw)];split
  .have:x≠n:=by rintro rfl;exact h v AC
   simp[this]
  .rfl
theorem zhw{kindOf:Str->Option NameKind}{x:Str}:∀{binds:List (Str×Ad)}{m:Str->Option Ad},(∀v,(x,v) ∉ binds)->bindC kindOf binds m x=m x
 |[],_,_=>rfl
 | (n,v)::r,m,h=>by
  unfold bindC;rw[zhw λw hw=>h w (At _ hw)];split
  .rfl
  .have:x≠n:=by rintro rfl;exact h v AC
   simp[this]
theorem zhv{kindOf:Str -> Option NameKind}{x:Str}{v:Ad} : ∀{P:List Str}{vs:List Ad}{i:Nat}{m:Str -> Option Ad}, P.Nodup -> P[i]? = some x -> vs[i]? = some v -> kindOf x=some .local ->
  bindL kindOf (P.zip vs) m x=some v
 |[],_,_,_,_,h,_,_=>by simp at h
 |_::_,[],_,_,_,_,h,_=>by simp at h
 |p::P,w::vs,0,m,nd,h1,h2,hk=>by
  simp at h1 h2;subst h1;subst h2;show bindL kindOf ((p,w)::P.zip vs) m p=_;unfold bindL;rw[zhu λv hv=>(Cd.mp nd).1 (List.of_mem_zip hv).1,if_pos hk];simp
 |p::P,w::vs,i+1,m,nd,h1,h2,hk=>by
  show bindL kindOf ((p,w)::P.zip vs) m x=_;unfold bindL;exact zhv (i:=i) (Cd.mp nd).2 (by simpa using h1) (by simpa using h2) hk
theorem zhx{kindOf:Str -> Option NameKind}{x:Str}{v:Ad} : ∀{P:List Str}{vs:List Ad}{i:Nat}{m:Str -> Option Ad}, P.Nodup -> P[i]? = some x -> vs[i]? = some v -> kindOf x ≠ some .local ->
  bindC kindOf (P.zip vs) m x=some v
 |[],_,_,_,_,h,_,_=>by simp at h
 |_::_,[],_,_,_,_,h,_=>by simp at h
 |p::P,w::vs,0,m,nd,h1,h2,hk=>by
  simp at h1 h2;subst h1;subst h2;show bindC kindOf ((p,w)::P.zip vs) m p=_;unfold bindC;rw[zhw λv hv=>(Cd.mp nd).1 (List.of_mem_zip hv).1,if_neg hk];simp
 |p::P,w::vs,i+1,m,nd,h1,h2,hk=>by
  show bindC kindOf ((p,w)::P.zip vs) m x=_;unfold bindC;exact zhx (i:=i) (Cd.mp nd).2 (by simpa using h1) (by simpa using h2) hk
noncomputable def start(N:List Str)(vs:List V):St:=vs.map some++Ap (N.length-vs.length) none
noncomputable def cxOf(CX:CXT)(P:AJ)(w:A1)(K:W.Frag)(mg:Str->Option Ad)(base:Heap)(N:List Str)(qual:Str)(scope:Scope)(f:Addr)(cd:Ad)(A:AT)(outer:List Env)(s:Ae)(H:Hp)(E:XK):Cx where
 prog:=P
 w:=w
 K:=K
 mg:=mg
 base:=base
 A:=A.deeper (envOfC qual scope s.heap.objs.size f cd)
 N:=N
 s₀:=s
 H₀:=H
 env:=envOfC qual scope s.heap.objs.size f cd
 outer:=outer
 stack:=envOfC qual scope s.heap.objs.size f cd::outer
 ex:=[]
 calm:=true
 fn:=λ_=>true
 pn:=[]
 xe:=λe s'=>Ar (Ax P w) (A.deeper (envOfC qual scope s.heap.objs.size f cd)) (leaving (envOfC qual scope s.heap.objs.size f cd) e) (λ_ s''=>CX outer H s E e s'') (λe' s''=>CX outer H s E e' s'') s'
theorem zji{sc:Scope}{n:Nat}{x:Str}(h:sc.names.lookup x=some .cell):∃c,(cellsFrom n sc.names []).lookup x=some c:=by have q:=W.cellsFrom_some sc.names n [] (.inl h);exact Option.isSome_iff_exists.mp q
theorem zk9{CX:CXT}{P:AJ}{w:A1}{K:W.Frag}{mg:Str -> Option Ad}{base:Heap}{N ps:List Str}{qual:Str}{scope:Scope}{f:Addr}{cd:Ad}{A:AT}{outer:List Env}{s s1:Ae}{H:Hp}{E:XK}{us:List Ad}{vs:List V}
  (S:FnScope N ps scope) (hd:A.handled=none) (e0:Env0 P w K mg base A outer s H) (hl:vs.length=ps.length) (r:Vals vs us)
  (x:InCallC s s.heap.objs.size (bindL (envOfC qual scope s.heap.objs.size f cd).kindOf (ps.zip us) λ_=>none) (cellsFrom (s.heap.objs.size+1) scope.names []) (bindC (envOfC qual scope s.heap.objs.size f cd).kindOf (ps.zip us) λ_=>none) s1) :
  Inv (cxOf CX P w K mg base N qual scope f cd A outer s H E) [] (start N vs) H s1:=by
 have hpl:ps.length<=N.length:=by have:=congrArg List.length S.pre;rw[AB]at this;lia
 obtain⟨h1,tk,rfl,hk⟩:=x.done;have noA:∀b:Addr,b ∉ (cxOf CX P w K mg base N qual scope f cd A outer s H E).ex:=λb z=>absurd (show b∈([]:List Addr) from z) (by simp)
 refine⟨⟨e0.mod,S.kind,rfl,rfl,Aj _,λy z c h1 h2=>?_,λy hy=>?_,λy c _ h=>?_,λ_=>hd,Around.frames_deeper e0.frames,.inr ⟨rfl,rfl⟩,λb z=>absurd z (noA b),e0.bs,e0.bsz,λb _ _=>noA b,λb z=>absurd z (noA b),e0.funs,e0.frf⟩,
  rfl,e0.bare,Un.kept hk,⟨_,x.toInCall.ns,λi y v h1 h2 h3=>?_⟩,λy c h=>⟨_,x.cell y c h⟩,e0.hok.fresh (Aj _),λy c h=>?_,λp hp=>absurd (show p∈([]:List (Addr×Obj)) from hp) (by simp),e0.hok.kept hk,?_⟩
 .exact name_of_addr x.apart (Cg h1) (Cg h2)
 .have hy:scope.names.lookup y=some .cell∨scope.names.lookup y=some .free:=hy;rcases hy with hy |hy
  .exact zji hy
  .exact absurd rfl (S.nofree _ (Cg hy))
 .exact BU (x.above y c (Cg h))
 .have hi:i < vs.length := by
   unfold start at h2
   by_cases hi:i<vs.length
   .exact hi
   .rw[AF (by simpa using hi)]at h2;rw[List.getElem?_replicate]at h2;split at h2 <;> cases h2
  have ha:vs[i]?=some v:=by
   unfold start at h2;rw[As (by simpa using hi),Ak]at h2
   cases e:vs[i]? with
   |none=>rw[e]at h2;cases h2
   |some a=>rw[e]at h2;cases h2;rfl
  obtain⟨u,hu,rv⟩:=r.get ha
  have hp:ps[i]?=some y:=by rw[<- S.pre,List.getElem?_take_of_lt (by lia)];exact h1
  have ndP:ps.Nodup:=by rw[<- S.pre];exact S.nd.sublist (List.take_sublist _ _)
  refine⟨u,rv,?_⟩;rcases S.par y (Af hp) with k |k
  .exact .inl ⟨k,zhv ndP hp hu k⟩
  .obtain⟨c,e⟩:=zji (n:=s.heap.objs.size+1) k;refine .inr ⟨.inl k,c,e,?_⟩;have q:=x.cell y c e;rw[zhx ndP hp hu (by show scope.names.lookup y≠_;rw[k];decide)]at q;exact q
 .exact e0.hok.fresh (BU (x.above y c (Cg h)))
 .unfold start;show _=N.length;rw[An,Ai,BY];lia
theorem fn_of{CX:CXT}{P:AJ}{w:A1}{K:W.Frag}{mg:Str -> Option Ad}{base:Heap}{k:Nat}{f:Addr}{name qual:Str}{params:Arguments}{body:List Stmt}{scope:Scope}{dV kV doc pm cdv ct oc:Ad}{an od:Option Addr}
  {osl:Array (Option Ad)} {N ps:List Str} {sp:Sp} (lk:K.lookup f=some ⟨oc,od,.func (CC name qual params body scope dV kV doc pm an cdv ct),osl⟩) (hcd:W.codeIn K cdv qual=true) (S:FnScope N ps scope)
  (len:∀vs H Q E,sp vs H Q E->vs.length=ps.length)
  (hbody:∀(A:AT) (outer:List Env) (s:Ae) (H:Hp) (vs:List V) (Q:VK) (E:XK),Room k (A.deeper (envOfC qual scope s.heap.objs.size f cdv))->sp vs H Q E ->
   ∃t,PSs (cxOf CX P w K mg base N qual scope f cdv A outer s H E) body t/\t { nx:=λ_ H'=>Q .non H',rt:=Q } (start N vs) H) :
  FnOk P w K mg base CX (k+1) f (CC name qual params body scope dV kV doc pm an cdv ct) ps sp:=by
 refine⟨len,λA outer s H args us vs Q E hr e0 hb r hsp=>?_⟩;have hl:=len _ _ _ _ hsp;have KX:K.In s.heap:=e0.mod.kin.keeps λb o e=>(e0.bs b o e).1
 have lim:s.heap.NoLimit:=e0.mod.nolimit.keeps λb o e=>(e0.bs b o e).1
 have hkind:∀y∈ps.zip us,scope.names.lookup y.1=some .local∨(scope.names.lookup y.1=some .cell/\((cellsFrom (s.heap.objs.size+1) scope.names []).lookup y.1).isSome=true):=λ⟨n,v⟩ hy=>by
  rcases S.par n (List.of_mem_zip hy).1 with q |q
  .exact .inl q
  .exact .inr ⟨q,W.cellsFrom_some _ _ _ (.inl q)⟩
 refine codeAny_call_function hr.depth (KX _ _ lk) rfl S.co S.gen rfl (W.codeRec_of KX hcd) (hb _ _ _ _ ?_);refine wpAny_newFunctionEnv_cells S.kind hkind λenv he s1 x=>?_
 subst he;refine⟨lim.keeps x.toInCall.keep,codeAny_func ?_⟩;obtain⟨t,ht,hq⟩:=hbody A outer s H vs Q E (hr.deeper _) hsp;have I:Inv (cxOf CX P w K mg base N qual scope f cdv A outer s H E) [] (start N vs) H s1:=zk9 S hr.hd e0 hl r x;refine BG (ht [] s1 (start N vs) H _ I hq) (λfl s' hs=>?_) λe s' hs=>hs
 have fin:∀{σ':St} {H':Hp} {v:V} {u:Ad},Inv (cxOf CX P w K mg base N qual scope f cdv A outer s H E) [] σ' H' s'->RelV v u->Q v H'->CE outer P w H s Q u s' :=
  λ{σ' H' v u} J rv q=>⟨v,H',J.os,J.bare,J.base,J.hok,rv,q⟩
 cases fl with
 |ret u =>
  obtain⟨v,σ',H',J,rv,q⟩:=hs;exact fin J rv q
 |next =>
  obtain⟨σ',H',J,q⟩:=hs;exact fin (v:=V.non) (u:=B3) J rfl q
 |brk =>
  obtain⟨_,_,_,q⟩:=hs;exact Bt q
 |cont =>
  obtain⟨_,_,_,q⟩:=hs;exact Bt q
section
variable {X:Cx}{x:Str}{p pos:Pos}{e:Expr}{es:List Expr}{t:TA}{id T:String}{r:List V->Hp->VK->Prop}
noncomputable def tCB(r:List V->Hp->VK->Prop)(t:TA):TE:=λσ H Q=>t σ H λvs H1=>r vs H1 Q
theorem zav (hc:CallR X (.builtin id) r) (hg:Gl X x) (hm:X.mg x=none) (hv:bootBuiltins x=some (.builtin id)) (ha:PA X (e :: es) t) (hn:x ≠ "__name__" := by decide) (hdb:(x == ("__debug__" : Str))=false := by decide)
  (he:A3 (e::es) X.env=(false,eval e X.env)::A3 es X.env:=by rfl) (hpl:(backTo pos (A3 es X.env)).any (·.1)=false:=by rfl):PE X (.Call (.Name x p) (e::es) [] pos) (tCB r t):=by
 intro pins s σ H Q I h;refine B4 (zdp I hg hm hv ?_ hn hdb);exact PyProof.Rows.callWith_builtin1 (thn (ha pos pins s σ H _ I h) λus s1 ⟨vs,H1,I1,r1,q1⟩=>hc pins s1 σ H1 vs us Q I1 r1 q1) he hpl
theorem zb9 (hc:CallR X (.type T) r) (hg:Gl X x) (hm:X.mg x=none) (hv:bootBuiltins x=some (.type T)) (ha:PA X (e :: es) t) (hn:x ≠ "__name__" := by decide) (hdb:(x == ("__debug__" : Str))=false := by decide)
  (he:A3 (e::es) X.env=(false,eval e X.env)::A3 es X.env:=by rfl) (hpl:(backTo pos (A3 es X.env)).any (·.1)=false:=by rfl):PE X (.Call (.Name x p) (e::es) [] pos) (tCB r t):=by
 intro pins s σ H Q I h;refine B4 (zdp I hg hm hv ?_ hn hdb);exact BR (thn (ha pos pins s σ H _ I h) λus s1 ⟨vs,H1,I1,r1,q1⟩=>hc pins s1 σ H1 vs us Q I1 r1 q1) he hpl
end
section
variable {κ:Type} [DecidableEq κ]
noncomputable def valV(kvs:List (κ×V))(k:κ):Option V:=(kvs.find? λkv=>decide (kv.1=k)).map (·.2)
noncomputable def putK(kvs:List (κ×V))(k:κ)(v:V):List (κ×V) :=
 if (kvs.any λkv=>decide (kv.1=k))=true then kvs.map (λkv=>if kv.1=k then (kv.1,v) else kv) else kvs++[(k,v)]
theorem zbk{p:κ×V}{r:List (κ×V)}{k:κ}(e:p.1=k):valV (p::r) k=some p.2:=by simp[valV,Cw,e]
theorem zbl{p:κ×V}{r:List (κ×V)}{k:κ}(e:¬ p.1=k):valV (p::r) k=valV r k:=by simp[valV,Cw,e]
theorem zda(k:κ):∀kvs:List (κ×V),(kvs.any λkv=>decide (kv.1=k))=(valV kvs k).isSome
 |[]=>rfl
 |p::r=>by
  rw[List.any_cons]
  by_cases e:p.1=k
  .simp only[zbk e,decide_eq_true e,Bool.true_or,Option.isSome_some]
  .rw[zbl e,decide_eq_false e,Bool.false_or];exact zda k r
theorem ziu(k j:κ)(y:V):∀kvs:List (κ×V),valV (kvs.map λkv=>if kv.1=k then (kv.1,y) else kv) j=(valV kvs j).map λx=>if j=k then y else x
 |[]=>rfl
 |p::r=>by
  have ih:=ziu k j y r;rw[AW]
  by_cases h:p.1=k
  .rw[if_pos h]
   by_cases e:p.1=j
   .rw[zbk (p:=(p.1,y)) e,zbk e,CP,if_pos (e.symm.trans h)]
   .rw[zbl (p:=(p.1,y)) e,zbl e,ih]
  .rw[if_neg h]
   by_cases e:p.1=j
   .rw[zbk (p:=p) e,zbk e,CP,if_neg (λz=>h (e.trans z))]
   .rw[zbl (p:=p) e,zbl e,ih]
theorem zgG(k j:κ)(y:V):∀kvs:List (κ×V),valV kvs k=none->valV (kvs++[(k,y)]) j=if j=k then some y else valV kvs j
 |[],_=>by
  by_cases e:k=j
  .rw[if_pos e.symm];exact zbk (p:=(k,y)) e
  .rw[if_neg (λz=>e z.symm)];exact zbl (p:=(k,y)) e
 |p::r,hn=>by
  rw[List.cons_append];have hk:¬ p.1=k:=λz=>by rw[zbk z]at hn;cases hn
  rw[zbl hk]at hn;have ih:=zgG k j y r hn
  by_cases e:p.1=j
  .rw[zbk e,zbk e,if_neg (λz=>hk (e.trans z))]
  .rw[zbl e,zbl e,ih]
theorem zfI(kvs:List (κ×V))(k j:κ)(y:V):valV (putK kvs k y) j=if j=k then some y else valV kvs j:=by
 unfold putK
 by_cases a:(kvs.any λkv=>decide (kv.1=k))=true
 .rw[if_pos a,ziu];rw[zda]at a
  by_cases e:j=k
  .obtain⟨x,hx⟩:=Option.isSome_iff_exists.mp a;rw[if_pos e,e,hx,CP,if_pos rfl]
  .rw[if_neg e]
   cases valV kvs j with
   |none=>rfl
   |some x=>rw[CP,if_neg e]
 .rw[if_neg a];refine zgG k j y kvs ?_
  rw[zda]at a
  cases q:valV kvs k with
  |none=>rfl
  |some x=>rw[q]at a;exact (a rfl).elim
theorem za3(kvs:List (κ×V))(k:κ)(v:V):(putK kvs k v).length<=kvs.length+1:=by
 unfold putK;split
 .rw[Ai];lia
 .rw[An,A7,Ce];lia
theorem zlO{kvs:List (κ×V)}{k:κ}(v:V)(h:valV kvs k=none):putK kvs k v=kvs++[(k,v)]:=by unfold putK;rw[zda,h];exact if_neg (by decide)
theorem RelO.isSome_eq{o:Option V}{u:Option Ad}(r:RelO o u):o.isSome=u.isSome:=by
 cases o with
 |none=>cases u with
  |none=>rfl
  |some _=>exact (show False from r).elim
 |some _=>cases u with
  |none=>exact (show False from r).elim
  |some _=>rfl
theorem KV.val{kvs:List (κ×V)}{vs:List (κ×Ad)}(r:KV kvs vs)(k:κ):RelO (valV kvs k) (valueAt vs k):=by
 unfold KV at r
 induction r with
 |nil=>exact Cc
 |@cons p q ps qs h t ih =>
  obtain⟨h1,h2⟩:=h
  by_cases e:p.1=k
  .have e':q.1=k:=h1.symm.trans e;have b:valueAt (q::qs) k=some q.2:=by simp[valueAt,Cw,e']
   rw[zbk e,b];exact h2
  .have e':¬ q.1=k:=λz=>e (h1.trans z)
   have b:valueAt (q::qs) k=valueAt qs k:=by simp[valueAt,Cw,e']
   rw[zbl e,b];exact ih
theorem KV.any{kvs:List (κ×V)}{vs:List (κ×Ad)}(r:KV kvs vs)(k:κ):(kvs.any λkv=>decide (kv.1=k))=vs.any λkv=>decide (kv.1=k):=by
 unfold KV at r
 induction r with
 |nil=>rfl
 |cons h t ih=>rw[List.any_cons,List.any_cons,ih,h.1]
theorem KV.repl{kvs:List (κ × V)}{vs:List (κ × Ad)}(r:KV kvs vs)(k : κ){y:V}{u:Ad}(ry:RelV y u) :
  KV (kvs.map λkv=>if kv.1=k then (kv.1,y) else kv) (vs.map λkv=>if kv.1=k then (kv.1,u) else kv):=by
 unfold KV at r ⊢
 induction r with
 |nil=>exact .nil
 |@cons p q ps qs h t ih =>
  rw[AW,AW];refine .cons ?_ ih;obtain⟨h1,h2⟩:=h
  by_cases e:p.1=k
  .rw[if_pos e,if_pos (h1.symm.trans e)];exact⟨h1,ry⟩
  .rw[if_neg e,if_neg (λz=>e (h1.trans z))];exact⟨h1,h2⟩
theorem KV.put{kvs:List (κ×V)}{vs:List (κ×Ad)}(r:KV kvs vs)(k:κ){y:V}{u:Ad}(ry:RelV y u):KV (putK kvs k y) (stored vs k u):=by
 unfold putK stored;rw[r.any k]
 by_cases e:(vs.any λkv=>decide (kv.1=k))=true
 .rw[if_pos e,if_pos e];exact r.repl k ry
 .rw[if_neg e,if_neg e];exact Paired.snoc r ⟨rfl,ry⟩
theorem KV.length{kvs:List (κ×V)}{vs:List (κ×Ad)}(r:KV kvs vs):kvs.length=vs.length:=CB r
end
theorem kV_is{P:AJ}{w:A1}{k:Key}{u:Ad}(r:RelV (kV k) u):(zaJ P w).is k u=true:=by
 cases k with
 |inl i=>obtain⟨t,e⟩:=(show ∃t,u=Da i t from r);subst e;exact zh8 P w i t
 |inr x=>obtain⟨t,e⟩:=(show ∃t,u=Value.str x t from r);subst e;exact zbO P w x t
theorem zhg{P:AJ}{w:A1}:∀{ks:List Key}{us:List Ad},Vals (ks.map kV) us->ItemsAre (zaJ P w) ks us
 |[],_,r=>by rw[List.map_nil]at r;cases r;exact .nil
 |k::ks,_,r=>by
  rw[AW]at r
  cases r with
  |cons h t=>exact .cons (kV_is h) (zhg t)
noncomputable abbrev KT(H:Hp):List (List Key×V)->List (List Key×Addr×Ad)->Prop:=Paired λp q=>p.1=q.1/\H q.2.1=some (.tup (p.1.map kV))/\RelV p.2 q.2.2
theorem KT.val{H:Hp}{kvs:List (List Key×V)}{xs:List (List Key×Addr×Ad)}(r:KT H kvs xs)(k:List Key):RelO (valV kvs k) ((atKey xs k).map (·.2)):=by
 induction r with
 |nil=>exact Cc
 |@cons p q ps qs h t ih =>
  obtain⟨h1,_,h2⟩:=h
  by_cases e:p.1=k
  .have e':q.1=k:=h1.symm.trans e;have b:atKey (q::qs) k=some q.2:=by simp[atKey,Cw,e']
   rw[zbk e,b];exact h2
  .have e':¬ q.1=k:=λz=>e (h1.trans z)
   have b:atKey (q::qs) k=atKey qs k:=by simp[atKey,Cw,e']
   rw[zbl e,b];exact ih
theorem KT.repl{H:Hp}{kvs:List (List Key × V)}{xs:List (List Key × Addr × Ad)}(r:KT H kvs xs)(k:List Key){y:V}{u:Ad}(ry:RelV y u) :
  KT H (kvs.map λkv=>if kv.1=k then (kv.1,y) else kv) (xs.map (putAt k u)):=by
 induction r with
 |nil=>exact .nil
 |@cons p q ps qs h t ih =>
  rw[AW,AW];refine .cons ?_ ih;obtain⟨h1,h2,h3⟩:=h;unfold putAt
  by_cases e:p.1=k
  .rw[if_pos e,if_pos (h1.symm.trans e)];exact⟨h1,h2,ry⟩
  .rw[if_neg e,if_neg (λz=>e (h1.trans z))];exact⟨h1,h2,h3⟩
theorem KT.put{H:Hp}{kvs:List (List Key × V)}{xs:List (List Key × Addr × Ad)}(r:KT H kvs xs)(k:List Key){b:Addr}{y:V}{u:Ad}(hb:H b=some (.tup (k.map kV)))(ry:RelV y u) :
  KT H (putK kvs k y) (storedH xs k b u):=by
 have e:(kvs.any λkv=>decide (kv.1=k))=(atKey xs k).isSome:=by rw[zda,(r.val k).isSome_eq,Option.isSome_map]
 unfold putK storedH;rw[e]
 by_cases q:(atKey xs k).isSome=true
 .rw[if_pos q,if_pos q];exact r.repl k ry
 .rw[if_neg q,if_neg q];exact Paired.snoc r ⟨rfl,hb,ry⟩
theorem KT.keeps{H H':Hp}{kvs:List (List Key×V)}{xs:List (List Key×Addr×Ad)}(r:KT H kvs xs)(ht:∀b ys,H b=some (.tup ys)->H' b=some (.tup ys)):KT H' kvs xs :=
 Paired.mapP r λ_ _ z=>⟨z.1,ht _ _ z.2.1,z.2.2⟩
section
variable {P:AJ}{w:A1}{H:Hp}{h:Heap}{a:Addr}
theorem rd_of{u:HO}(ok:HOk P w H h)(e:Rd H a u):ObjOk P w H h a u:=e.ok ok
theorem dk_rd{kvs:List (Key×V)}(ok:HOk P w H h)(e:Rd H a (.dK kvs)):kvs.length<=sizeLine/\(a == BF)=false/\∃vs,KV kvs vs/\h.DictOf (zaJ P w) a vs :=
 show ObjOk P w H h a (.dK kvs) from rd_of ok e
theorem dk_of{kvs:List (Key×V)}(ok:HOk P w H h)(e:H a=some (.dK kvs)):kvs.length<=sizeLine/\(a == BF)=false/\∃vs,KV kvs vs/\h.DictOf (zaJ P w) a vs:=dk_rd ok (.inl e)
theorem zfw{ks:List Key}(ok:HOk P w H h)(e:H a=some (.tup (ks.map kV))):(DC (zaJ P w)).is h ks a:=by obtain⟨_,its,r,o,h1,h2,n,h3⟩:=(show ObjOk P w H h a (.tup (ks.map kV)) from ok a _ e);exact⟨o,its.toArray,n,h1,h2,h3,by simpa using zhg r⟩
theorem dt_rd{kvs:List (List Key × V)}(ok:HOk P w H h)(e:Rd H a (.dT kvs)):kvs.length <= sizeLine /\ (a == BF)=false /\
  ∃xs,KT H kvs xs/\h.DictOfH (DC (zaJ P w)) a xs:=by
 obtain⟨z,y,xs,r,o,es,ep,h1,h2,h3,h4,h5⟩:=(show ObjOk P w H h a (.dT kvs) from rd_of ok e);refine⟨z,y,xs,r,o,es,ep,h1,h2,h3,h4,λx hx=>?_,h5⟩
 have all:∀{l:List (List Key×V)} {m:List (List Key×Addr×Ad)},KT H l m->∀x∈m,(DC (zaJ P w)).is h x.1 x.2.1:=by
  intro l m q
  induction q with
  |nil=>intro x hx;exact nomatch hx
  |@cons p q ps qs hq t ih =>
   intro x hx;rcases Aw.mp hx with e |hx
   .subst e;exact zfw ok (by rw[<- hq.1];exact hq.2.1)
   .exact ih x hx
 exact all r x hx
theorem dt_of{kvs:List (List Key × V)}(ok:HOk P w H h)(e:H a=some (.dT kvs)):kvs.length <= sizeLine /\ (a == BF)=false /\
  ∃xs,KT H kvs xs/\h.DictOfH (DC (zaJ P w)) a xs:=dt_rd ok (.inl e)
end
noncomputable def DGet(H:Hp)(a:Addr)(y:V)(r:Option V):Prop :=
 (∃kvs k,Rd H a (.dK kvs)/\y=kV k/\r=valV kvs k)∨∃kvs k b,Rd H a (.dT kvs)/\y=.ref b/\H b=some (.tup (k.map kV))/\r=valV kvs k
noncomputable def DPut(H:Hp)(a:Addr)(y v:V)(H':Hp):Prop :=
 (∃kvs k,H a=some (.dK kvs)/\y=kV k/\kvs.length<sizeLine/\H'=upd H a (.dK (putK kvs k v))) ∨
 ∃kvs k b,H a=some (.dT kvs)/\y=.ref b/\H b=some (.tup (k.map kV))/\kvs.length<sizeLine/\H'=upd H a (.dT (putK kvs k v))
section
variable {X:Cx}{pins:List (Addr×Obj)}{σ:St}{H:Hp}{s:Ae}{a:Addr}{y v:V}{u r:Ad}{o:Option V}{A:AT}{E:Ad->Ae->Prop}
theorem Inv.big(I:Inv X pins σ H s):BF<s.heap.objs.size:=by have h:AE<s.heap.objs.size:=(I.mod.glob.keeps I.bk).lt;exact Nat.lt_trans (by decide) h
theorem d_in{Q:Ad -> Ae -> Prop}(hu:A.units + 1 < cLine)(I:Inv X pins σ H s)(g:DGet H a y o)(ry:RelV y u)(h:∀s', Inv X pins σ H s' -> Q (.bool o.isSome) s') :
  Ar (Ax X.prog X.w) A (BA .In u (.ref a)) Q E s:=by
 rcases g with⟨kvs,k,e,ey,l⟩ |⟨kvs,k,b,e,ey,eb,l⟩
 .subst ey;obtain⟨z,hd,vs,rel,dd⟩:=dk_rd I.hok e;refine wpAny_in_of (kV_is ry) hd dd.mapOf ?_
  rw[<- (rel.val k).isSome_eq,<- l];exact h _ (I.tok _)
 .subst ey
  cases (show u=Av b from ry)
  obtain⟨z,hd,xs,rel,dd⟩:=dt_rd I.hok e;refine wpAny_in_heap (Dx hu) (zfw I.hok eb) hd dd ?_
  have q:=(rel.val k).isSome_eq;rw[Option.isSome_map]at q;rw[<- q,<- l];exact h _ (I.tok _)
theorem znn{Q:Ad -> Ae -> Prop}(hu:A.units + 1 < cLine)(I:Inv X pins σ H s)(g:DGet H a y o)(ry:RelV y u)(h:∀s', Inv X pins σ H s' -> Q (.bool (!o.isSome)) s') :
  Ar (Ax X.prog X.w) A (BA .NotIn u (.ref a)) Q E s:=by
 rcases g with⟨kvs,k,e,ey,l⟩ |⟨kvs,k,b,e,ey,eb,l⟩
 .subst ey;obtain⟨z,hd,vs,rel,dd⟩:=dk_rd I.hok e;refine wpAny_notIn_of (kV_is ry) hd dd.mapOf ?_
  rw[<- (rel.val k).isSome_eq,<- l];exact h _ (I.tok _)
 .subst ey
  cases (show u=Av b from ry)
  obtain⟨z,hd,xs,rel,dd⟩:=dt_rd I.hok e;refine wpAny_notIn_heap (Dx hu) (zfw I.hok eb) hd dd ?_
  have q:=(rel.val k).isSome_eq;rw[Option.isSome_map]at q;rw[<- q,<- l];exact h _ (I.tok _)
theorem zeJ{h':Heap}{t':Nat}{ob:HO}(I:Inv X pins σ H s)(mu:Mut (H a))(hs:Cz a s.heap h')(he:∃q, h'.get? a=some q)(new:ObjOk X.prog X.w (upd H a ob) h' a ob) :
  Inv X pins σ (upd H a ob) { s with heap:=h',toks:=t' } :=
 I.write (x:=a) (e:=a) mu (.inl rfl) (λb q hb z=>(hs.2 b hb).trans z) he new
theorem zmJ{P:AJ}{w:A1}{H':Hp}{h':Heap}{kvs:List (Key × V)}{vs:List (Key × Ad)}(z:kvs.length <= sizeLine)(hd:(a == BF)=false)(rel:KV kvs vs)(dd:h'.DictOf (zaJ P w) a vs) :
  ObjOk P w H' h' a (.dK kvs):=⟨z,hd,vs,rel,dd⟩
theorem zll{H':Hp}{Q:Unit -> Ae -> Prop}(hu:A.units + 1 < cLine)(I:Inv X pins σ H s)(g:DPut H a y v H')(ry:RelV y u)(rv:RelV v r)(h:∀s', Inv X pins σ H' s' -> Q () s') :
  Ar (Ax X.prog X.w) A (setItem (.ref a) u r) Q E s:=by
 rcases g with⟨kvs,k,e,ey,l,eH⟩ |⟨kvs,k,b,e,ey,eb,l,eH⟩
 .subst ey eH;obtain⟨z,hd,vs,rel,dd⟩:=dk_of I.hok e;have hz:vs.length<=sizeLine:=by rw[<- rel.length];exact z
  have hl:(putK kvs k v).length<=sizeLine:=by have:=za3 kvs k v;lia
  refine wpAny_setItem_pairs (hsz:=hz) (kV_is ry) dd λh' dd' hs=>h _ ?_
  have he:∃q,h'.get? a=some q:=let ⟨q,_,_,hq,_⟩:=dd';⟨q,hq⟩
  exact zeJ I (by rw[e];exact Cc) hs he (zmJ hl hd (rel.put k rv) dd')
 .subst ey eH
  cases (show u=Av b from ry)
  obtain⟨z,hd,xs,rel,dd⟩:=dt_of I.hok e;have hz:xs.length<=sizeLine:=by rw[<- CB rel];exact z
  have hl:(putK kvs k v).length<=sizeLine:=by have:=za3 kvs k v;lia
  refine wpAny_setItem_heap (hsz:=hz) (Dx hu) (zfw I.hok eb) dd λh' dd' hs=>h _ ?_
  obtain⟨q,es,ep,hq,h2,h3,h4,_,h5⟩:=dd';refine zeJ I (by rw[e];exact Cc) hs ⟨q,hq⟩ ⟨hl,hd,_,(rel.put k eb rv).keeps λc ys ec=>?_,q,es,ep,hq,h2,h3,h4,h5⟩;rw[zaj (ne_of ec e (λz=>nomatch z))];exact ec
end
section
variable {X:Cx}{pins:List (Addr×Obj)}{σ:St}{H:Hp}{s:Ae}{a:Addr}{kvs:List (Key×V)}{k:Key}{u:Ad}{A:AT}{E:Ad->Ae->Prop}
end
noncomputable def NoSl(i:Expr):Prop:=∀ov iv,subscripted i false ov iv=operate [ov,iv] (getItem ov iv)
theorem zj7{prog:AJ}{w:A1}{A:AT}{E:Ad -> Ae -> Prop}{s:Ae}{env:Env}{value slice:Expr}{pos:Pos}{T id:String}{Q:Ad -> Ae -> Prop}
  (hl:typeLookup (.type T) "__getitem__" = pure (some (.builtin id))) (hs:NoSl slice)
  (h:Ar (Ax prog w) A (eval value env) (λo s₁=>Ar (Ax prog w) A (eval slice env) (λi s₂=>s₂.TypeIs o T/\Ar (Ax prog w) A (getItem o i) Q E s₂) E s₁) E s) :
  Ar (Ax prog w) A (eval (.Subscript value slice pos) env) Q E s:=by
 refine Subscript_ (BG h (λo s₁ h₁=>BG h₁ (λi s₂ h₂=>?_) λ_ _ x=>x) λ_ _ x=>x);obtain⟨hT,h₂⟩:=h₂;unfold subscriptTail;refine Ab ?_
 rw[getitemInPython_of_ne hT.not_modules];refine Ab (wpAny_specialOf hT hl ?_)
 have fin:Ar (Ax prog w) A (subscripted slice false o i) (λr s₃=>Ar (Ax prog w) A (letTemporaryGo value o r >>= λ_=>pure r) Q E s₃) E s₂:=by rw[hs o i];exact wpAny_operating (BG h₂ (λr s₃ h₃=>Ab (wpAny_letTemporaryGo (Ah h₃))) λ_ _ x=>x)
 first
  |exact Ah (Ab fin)
  |exact Ab (Ah (Ab fin))
  |exact Ab fin
noncomputable def tDIn(ty td:TE):TE:=λσ H Q=>ty σ H λy H1=>td σ H1 λx H2=>∃a o,x=.ref a/\DGet H2 a y o/\Q (.bl o.isSome) H2
noncomputable def zhH(ty td:TE):TE:=λσ H Q=>ty σ H λy H1=>td σ H1 λx H2=>∃a o,x=.ref a/\DGet H2 a y o/\Q (.bl (!o.isSome)) H2
noncomputable def sDPut(td ty tv:TE):TS:=λD σ H=>tv σ H λv H1=>td σ H1 λx H2=>ty σ H2 λy H3=>∃a H4,x=.ref a/\DPut H3 a y v H4/\D.nx σ H4
section
variable {X:Cx}{o i e value:Expr}{pos pos' tpos:Pos}{td ty tv:TE}
theorem zmB(hu:X.A.units+1<cLine)(hi:PE X i ty)(ho:PE X o td):PC X .In i o (tDIn ty td):=by
 intro pins s σ H Q I h;refine thn (hi pins s σ H _ I h) λiv s1 ⟨y,H1,I1,ry,q1⟩=>thn (ho pins s1 σ H1 _ I1 q1) λu s2 ⟨x,H2,I2,rx,a,ov,ex,g,q2⟩=>?_
 subst ex;obtain rfl:u=Av a:=rx;exact d_in hu I2 g ry λs3 I3=>⟨.bl ov.isSome,H2,I3,rfl,q2⟩
theorem zcD(hu:X.A.units+1<cLine)(hi:PE X i ty)(ho:PE X o td):PC X .NotIn i o (zhH ty td):=by
 intro pins s σ H Q I h;refine thn (hi pins s σ H _ I h) λiv s1 ⟨y,H1,I1,ry,q1⟩=>thn (ho pins s1 σ H1 _ I1 q1) λu s2 ⟨x,H2,I2,rx,a,ov,ex,g,q2⟩=>?_
 subst ex;obtain rfl:u=Av a:=rx;exact znn hu I2 g ry λs3 I3=>⟨.bl (!ov.isSome),H2,I3,rfl,q2⟩
theorem zf3(hu:X.A.units + 1 < cLine)(ho:PE X o td)(hi:PE X i ty)(hv:PE X value tv)(hs:swapsWith value (some (.Subscript o i pos')) pos.line X.env=pure false) :
  PS X (.Assign [.Subscript o i pos'] value pos) (sDPut td ty tv):=by
 intro pins s σ H D I h;refine wpAny_Assign_Subscript (thn (hv pins s σ H _ I h) λr s1 ⟨v,H1,I1,rv,q1⟩=>thn (ho pins s1 σ H1 _ I1 q1) λu s2 ⟨x,H2,I2,rx,q2⟩=>thn (hi pins s2 σ H2 _ I2 q2) λiv s3 ⟨y,H3,I3,ry,a,H4,ex,g,q3⟩=>?_) hs;subst ex;obtain rfl:u=Av a:=rx;exact zll hu I3 g ry rv λs4 I4=>⟨σ,H4,I4,q3⟩
end
theorem zgo {P:AJ}{w:A1}{H:Hp}(h:Heap) (hb:BF<h.objs.size):ObjOk P w H (h.push { cls:=.type "dict",data:=.dict #[] }) h.objs.size (.dT []) :=
 ⟨A5 _,beq_eq_false_iff_ne.mpr (Bu (AR hb)),[],.nil,_,#[],0,Az _ rfl,⟨rfl,rfl,rfl⟩,rfl,rfl,List.nodup_nil⟩
noncomputable def znz:TE:=λ_ H Q=>∀p,H p=none->Q (.ref p) (upd H p (.dT []))
section
variable {X:Cx}{pos:Pos}
theorem zd3:PE X (.Dict [] [] pos) znz:=λpins s σ H Q I h =>
 wpAny_Dict_empty ⟨.ref s.heap.objs.size,_,I.laid (a:=s.heap.objs.size) (o:=.dT []) (t':=s.toks) (λ_ _ q=>Ag _ q) (Aj _) (zgo s.heap I.big),rfl,h _ (I.hok.fresh (Aj _))⟩
end
structure M1 (X:Cx) (o:Expr) (m:Str) (apos:Pos) (e:Expr) (cpos:Pos):Prop where
 base:attributeBase o m X.env (eval o X.env)=eval o X.env
 few:((backTo cpos (A3 [e] X.env)).all (λx=>!x.1) && (Dj cpos (Cq [] X.env)).all (λx=>x.1.isSome)
  && decide (([e]:List Expr).length+([]:List Keyword).length+(if ([]:List Keyword).isEmpty then 0 else 1)<30))=true
 line:(apos.endLine == cpos.line)=true
 trees:backTo cpos (A3 [e] X.env)=[(false,eval e X.env)]
structure M2 (X:Cx) (o:Expr) (m:Str) (apos:Pos) (e f:Expr) (cpos:Pos):Prop where
 base:attributeBase o m X.env (eval o X.env)=eval o X.env
 few:((backTo cpos (A3 [e,f] X.env)).all (λx=>!x.1) && (Dj cpos (Cq [] X.env)).all (λx=>x.1.isSome)
  && decide (([e,f]:List Expr).length+([]:List Keyword).length+(if ([]:List Keyword).isEmpty then 0 else 1)<30))=true
 line:(apos.endLine == cpos.line)=true
 trees:backTo cpos (A3 [e,f] X.env)=[(false,eval e X.env),(false,eval f X.env)]
noncomputable def IsD(H:Hp)(a:Addr):Prop:=(∃kvs,Rd H a (.dK kvs))∨∃kvs,Rd H a (.dT kvs)
theorem zn3{X:Cx}{pins:List (Addr × Obj)}{σ : St}{H:Hp}{s:Ae}{a:Addr}(I:Inv X pins σ H s)(d:IsD H a) :
  s.TypeIs (.ref a) "dict" /\ (∀b,Av a=.ref b->∃ob,s.heap.get? b=some ob/\ob.dict=none)/\(a == BF)=false:=by
 rcases d with⟨kvs,e⟩ |⟨kvs,e⟩
 .obtain⟨_,hd,vs,_,dd⟩:=dk_rd I.hok e;refine⟨dd.typeIs,λb q=>?_,hd⟩
  cases q
  obtain⟨ob,_,_,h1,h2,_⟩:=dd;exact⟨ob,h1,h2.2.1⟩
 .obtain⟨_,hd,xs,_,dd⟩:=dt_rd I.hok e;refine⟨dd.typeIs,λb q=>?_,hd⟩
  cases q
  obtain⟨ob,_,_,h1,h2,_⟩:=dd;exact⟨ob,h1,h2.2.1⟩
section
variable {X:Cx}{pins:List (Addr×Obj)}{σ:St}{H:Hp}{s:Ae}{a:Addr}{y d:V}{u r:Ad}{o:Option V}{A:AT}{E:Ad->Ae->Prop}
end
section
variable {X:Cx}{o e f:Expr}{apos cpos:Pos}{td ty tx:TE}
end
section
variable {X:Cx}{pins:List (Addr×Obj)}{σ:St}{H:Hp}{s:Ae}{a:Addr}{kvs:List (Key×V)}{A:AT}{E:Ad->Ae->Prop}
end
section
variable {X:Cx}{pins:List (Addr×Obj)}{σ:St}{H:Hp}{s:Ae}{a:Addr}{y:V}{u:Ad}{A:AT}{E:Ad->Ae->Prop}
end
end L2
namespace HT
open PySem PyProof.Rows
noncomputable def lexLt:List Int->List Int->Bool
 |[],[]=>false
 |[],_::_=>true
 |_::_,[]=>false
 |x::xs,y::ys=>if x=y then lexLt xs ys else decide (x<y)
theorem lexLt_cons(x y:Int)(xs ys:List Int):lexLt (x::xs) (y::ys)=if x=y then lexLt xs ys else decide (x<y):=rfl
theorem zgj:lexLt [] []=false:=rfl
theorem ze4(y:Int)(ys:List Int):lexLt [] (y::ys)=true:=rfl
theorem ze5(x:Int)(xs:List Int):lexLt (x::xs) []=false:=rfl
theorem zja(A:AT)(s:Ae)(a:Int)(t:Tok)(c:Int)(u:Tok):∃e,SeqAt.EqAt A s (.int a t) (.int c u) e/\(e=true ↔ a=c) :=
 ⟨(a == c),SeqAt.EqAt.int_int a t c u,by simp⟩
theorem zlM(A:AT)(s:Ae)(a:Int)(t:Tok)(c:Int)(u:Tok)(prog:AJ)(w:A1)(E:Ad -> Ae -> Prop)(Q:Ad -> Ae -> Prop)(h:Q (.bool (decide (a < c))) s) :
  Ar (Ax prog w) A (richCompare .Lt (.int a t) (.int c u)) Q E s :=
 (PyProof.Rows.lt_int h:Ar (Ax prog w) A (BA .Lt (.int a t) (.int c u)) Q E s)
section
open PySem.SeqAt
open PySem.AutoSeq1 (wpAny_loadPart')
open PySem.MeetsSeq PySem.MeetsSeq2 PySem.MeetsSeq3
theorem zfJ(l b:Addr)(items items2:Array Ad)(n n2:Nat)(dd dd2:Option Addr)(sl sl2:Array (Option Ad))(ns ms:List Int)(hi:Ck items.toList ns)(hj:Ck items2.toList ms) :
  Meets (Builtin.«tuple.__lt__» ⟨[.ref l,.ref b],[]⟩)
   (λ_ R s=>s.heap.get? l=some { cls:=.type "tuple",dict:=dd,data:=.seq items n,slots:=sl }/\s.heap.get? b=some { cls:=.type "tuple",dict:=dd2,data:=.seq items2 n2,slots:=sl2 } /\
    R (.ok (.ret (.bool (lexLt ns ms)))) s) :=
 .of_wp λprog w A R s h=>by
  obtain⟨hp,g,d,tk,os⟩:=s;obtain⟨hl,hb,h⟩:=h;have f2:=AutoSeq1.sub_tuple_tuple;have z1:items.size=ns.length:=by rw[<- hi.length];simp
  have z2:items2.size=ms.length:=by rw[<- hj.length];simp
  wp_walk using Cf hl,Cf hb,wpAny_forIn_list _ (λrest b s'=>b.1=none/\s'=⟨hp,g,d,tk,os⟩/\∃(vs ws:List Ad) (ns' ms':List Int),rest=vs.zip ws /\
   Ck vs ns'/\Ck ws ms'/\ns'.length+items2.size=ms'.length+items.size/\R (.ok (.ret (.bool (lexLt ns' ms')))) ⟨hp,g,d,tk,os⟩) _
  case turn =>
   rintro⟨y,x⟩ rest b s' ⟨hb',rfl,vs,ws,ns',ms',hz,hvi,hwi,hlen,hR⟩
   cases hvi with
   |nil=>rw[List.zip_nil_left]at hz;cases hz
   |cons a t hvi' =>
    cases hwi with
    |nil=>rw[List.zip_nil_right]at hz;cases hz
    |cons c u hwi' =>
     rw[Dy]at hz;injection hz with hyx hrest;injection hyx with hy hx;subst hy hx;rw[lexLt_cons]at hR;simp only[A7]at hlen;obtain⟨e,he,hiff⟩:=zja A.in1 ⟨hp,g,d,tk,os⟩ a t c u;refine Ab (he prog w _ _ ?_)
     cases e with
     |true =>
      rw[if_pos (hiff.mp rfl)]at hR
      wp_walk
      exact⟨rfl,rfl,_,_,_,_,hrest,hvi',hwi',by lia,hR⟩
     |false =>
      rw[if_neg (λq=>absurd (hiff.mpr q) AK)]at hR;have hri:=zlM A.in1 ⟨hp,g,d,tk,os⟩ a t c u prog w
      wp_walk using hri
      exact⟨_,rfl,by simpa using hR⟩
  case fin =>
   rintro⟨b1,b2⟩ s' ⟨hb',rfl,vs,ws,ns',ms',hz,hvi,hwi,hlen,hR⟩;simp only at hb';subst hb'
   have hv:lexLt ns' ms'=decide (items.size<items2.size):=by
    cases hvi with
    |nil =>
     cases hwi with
     |nil =>
      simp only[Ce]at hlen;rw[zgj];exact (decide_eq_false (by lia)).symm
     |cons c u hw =>
      simp only[Ce,A7]at hlen;rw[ze4];exact (decide_eq_true (by lia)).symm
    |cons a t hv =>
     cases hwi with
     |nil =>
      simp only[Ce,A7]at hlen;rw[ze5];exact (decide_eq_false (by lia)).symm
     |cons c u hw =>
      rw[Dy]at hz
      cases hz
   rw[hv]at hR
   wp_walk
   exact⟨_,rfl,by simpa[Builtin.Tuple.tupleCompareSizes]using hR⟩
  case h =>
   exact⟨rfl,rfl,items.toList,items2.toList,ns,ms,rfl,hi,hj,by lia,h⟩
end
section
variable {prog:AJ}{w:A1}{A:AT}{E:Ad->Ae->Prop}{s:Ae}
theorem lt_tupInts{l b:Addr}{items items2:Array Ad}{ns ms:List Int}{Q:Ad -> Ae -> Prop}(hl:IsTup s.heap l items)(hb:IsTup s.heap b items2)(hi:Ck items.toList ns)(hj:Ck items2.toList ms)
  (hu:A.units<cLine) (h:Q (.bool (lexLt ns ms)) s):Ar (Ax prog w) A (BA .Lt (.ref l) (.ref b)) Q E s:=by
 obtain⟨⟨cls,dd,data,sl⟩,ho,hc,n,hd⟩:=id hl;obtain⟨⟨cls2,dd2,data2,sl2⟩,ho2,hc2,n2,hd2⟩:=id hb;simp only at hc hd hc2 hd2;subst hc hd hc2 hd2
 exact richCompare_meets_room (op:=.Lt) ⟨_,ho,rfl⟩ ⟨_,ho2,rfl⟩ PySem.F.slot_tuple_lt PySem.F.entry_tuple_lt (PySem.F.args_tuple_lt_2 _ _) (zfJ l b items items2 n n2 dd dd2 sl sl2 ns ms hi hj)
  ⟨ho,ho2,show Value.bool (lexLt ns ms)≠Value.notImplemented/\Q (.bool (lexLt ns ms)) s from ⟨(λx=>nomatch x),h⟩⟩ hu
noncomputable def sIx(n d:Nat):Option Int->Nat
 |none=>d
 |some v=>if v<0 then (v+(n:Int)).toNat else min v.toNat n
theorem znD(n d:Nat)(hd:d<=n)(o:Option Int):sIx n d o<=n:=by
 cases o with
 |none=>exact hd
 |some v =>
  show (if v<0 then (v+(n:Int)).toNat else min v.toNat n)<=n
  by_cases hv:v<0
  .rw[if_pos hv];lia
  .rw[if_neg hv];exact Nat.min_le_right _ _
theorem zln(v:Int)(n d:Nat):(if v<0 then max (v+(n:Int)) 0 else min v (n:Int))=((sIx n d (some v):Nat):Int):=by
 show (if v<0 then max (v+(n:Int)) 0 else min v (n:Int))=(((if v<0 then (v+(n:Int)).toNat else min v.toNat n):Nat):Int)
 by_cases hv:v<0
 .simp only[if_pos hv];lia
 .simp only[if_neg hv];lia
theorem zjQ(lo hi:Option Int)(n:Nat):Dd lo hi 1 (n:Int)=(((sIx n 0 lo:Nat):Int),((sIx n n hi:Nat):Int)):=by
 have h1:¬ ((1:Int)<0):=by lia
 unfold Dd;simp only[h1,if_false];refine Bj ?_ ?_
 .cases lo with
  |none=>rfl
  |some v=>exact zln v n 0
 .cases hi with
  |none=>rfl
  |some v=>exact zln v n n
theorem zjA(i j:Nat):Cu (i:Int) (j:Int) 1=j-i:=by
 unfold Cu;have h1:(1:Int) > 0:=by lia
 simp only[h1,if_true,Int.ediv_one];split <;> lia
theorem zfp{v:Ad}{o:Option Int}{Q:Option Int->Ae->Prop}(p:IsPart v o)(h:Q o s):Ar (Ax prog w) A (Builtin.Slice.slicePartIndex v) Q E s:=by
 cases p with
 |none=>exact slicePart_none h
 |int i t=>exact slicePart_int h
theorem zcq{sl:Addr}{vl vu:Ad}{lo hi:Option Int}{n:Nat}{Q:Int × Int × Nat -> Ae -> Prop}(hs:s.heap.IsSliceOf sl vl vu .none)(pl:IsPart vl lo)(pu:IsPart vu hi)
  (h:Q (((sIx n 0 lo:Nat):Int),1,sIx n n hi-sIx n 0 lo) s):Ar (Ax prog w) A (Builtin.Slice.sliceApplied (.ref sl) (pure (n:Int))) Q E s:=by
 obtain⟨os,hos,hcs,hds⟩:=id hs;unfold Builtin.Slice.sliceApplied Builtin.Slice.sliceFields;refine Ab (Ab (wpAny_field hos hds (x:=vl) rfl (Ab (wpAny_field hos hds (x:=vu) rfl (Ab (wpAny_field hos hds (x:=.none) rfl (Ah ?_)))))));refine Ab (slicePart_none ?_);show Ar _ _ (if ((1:Int) == 0)=true then _ else _) _ _ s;rw[if_neg (by decide)];refine Ab (zfp pl (Ab (zfp pu (Ab (Ah ?_)))));show Ar _ _ (match Dd lo hi 1 (n:Int) with | (lo,hi)=>pure (lo,(1:Int),Cu lo hi 1)) _ _ s;rw[zjQ lo hi n];show Ar _ _ (pure (((sIx n 0 lo:Nat):Int),(1:Int),Cu ((sIx n 0 lo:Nat):Int) ((sIx n n hi:Nat):Int) 1)) _ _ s;rw[zjA];exact Ah h
theorem zlP(xs:Array Ad)(i k:Nat):((Ba k).filterMap λ(m:Nat)=>xs[((i:Int)+(m:Int)*1).toNat]?).toArray=((xs.toList.drop i).take k).toArray:=by
 have e:(λ(m:Nat)=>xs[((i:Int)+(m:Int)*1).toNat]?)=λm=>xs[i+m]?:=by
  funext m
  have:((i:Int)+(m:Int)*1).toNat=i+m:=by lia
  rw[this]
 rw[e];have:=pick_run xs i k;rw[CO]at this;have e2:((λx=>xs[x]?) ∘ λx=>i+x)=λm=>xs[i+m]?:=rfl
 rw[e2]at this;rw[this]
theorem getItem_tuple_cut{t sl:Addr}{items:Array Ad}{vl vu:Ad}{lo hi:Option Int}{Q:Ad -> Ae -> Prop}(ht:IsTup s.heap t items)(hs:s.heap.IsSliceOf sl vl vu .none)(pl:IsPart vl lo)(pu:IsPart vu hi)
  (hw:¬ (sIx items.size 0 lo=0/\sIx items.size items.size hi=items.size))
  (h:Q (.ref s.heap.objs.size) { s with heap:=s.heap.push { cls:=.type "tuple",data:=.seq ((items.toList.drop (sIx items.size 0 lo)).take (sIx items.size items.size hi-sIx items.size 0 lo)).toArray } })
  (hsz:items.size<=sizeLine):Ar (Ax prog w) A (getItem (.ref t) (.ref sl)) Q E s:=by
 have htake:sizeOk (.seq ((items.toList.drop (sIx items.size 0 lo)).take (sIx items.size items.size hi-sIx items.size 0 lo)).toArray):=by show ((items.toList.drop (sIx items.size 0 lo)).take (sIx items.size items.size hi-sIx items.size 0 lo)).toArray.size<=sizeLine;rw[Ao,AB,BB,CJ];lia
 have hj:sIx items.size items.size hi<=items.size:=znD _ _ (Aj _) hi;obtain⟨os,hos,hcs,hds⟩:=id hs;have hTs:s.TypeIs (.ref sl) "slice":=⟨os,hos,hcs⟩;unfold getItem
 try with_reducible refine A8 ?_
 first |refine Ab (Ah ?_) |skip
 refine Ab (wpAny_sequenceKey ht.typeIs (by decide) ?_)
 refine Ab (CL (name:=BV "__getitem__") ht.typeIs Bk
  (Db Bk ht.typeIs entry_tuple_getitem ?_ (args_tuple_getitem _ _)))
 show Ar _ _ (Builtin.Tuple.tupleItemsOf (.ref t) >>= _) _ _ s;refine Ab (tupleItemsOf_ ht ?_);refine Ab (wpAny_typeOf hTs ?_);rw[if_pos (by decide)];refine Ab (zcq hs pl pu ?_)
 have hno:¬ ((((sIx items.size 0 lo:Nat):Int) == 0 && (1:Int) == 1 && (sIx items.size items.size hi-sIx items.size 0 lo) == items.size)=true):=by intro q;rw[BQ,BQ]at q;have q1:((sIx items.size 0 lo:Nat):Int)=0:=eq_of_beq q.1.1;have q2:sIx items.size items.size hi-sIx items.size 0 lo=items.size:=eq_of_beq q.2;exact hw ⟨by lia,by lia⟩
 show Ar _ _ (if (((sIx items.size 0 lo:Nat):Int) == 0 && (1:Int) == 1 && (sIx items.size items.size hi-sIx items.size 0 lo) == items.size)=true then _ else _) _ _ s;rw[if_neg hno,zlP]
 first
  |exact Ab (m:=CF _) (A6 (Ah ⟨_,rfl,Ah h⟩) htake)
  |exact Ab (m:=CF _) (A6 (Ab (Ah (Ah ⟨_,rfl,Ah h⟩))) htake)
  |exact Ab (Ab (m:=CF _) (A6 (Ah (Ah ⟨_,rfl,Ah h⟩)) htake))
  |exact Ab (Ab (m:=CF _) (A6 (Ah ⟨_,rfl,Ah h⟩) htake))
end
end HT
namespace L2
open PySem PySem.Spec PyProof.Rows
noncomputable abbrev TO:=St->Hp->(Option Int->Hp->Prop)->Prop
noncomputable def PO(X:Cx)(e:Option Expr)(t:TO):Prop :=
 ∀(pins:List (Addr×Obj)) (s:Ae) (σ:St) (H:Hp) (Q:Option Int->Hp->Prop),Inv X pins σ H s->t σ H Q ->
  Ar (Ax X.prog X.w) X.A (evalPart e X.env) (λu s'=>∃o H',Inv X pins σ H' s'/\IsPart u o/\Q o H') X.xe s
noncomputable def zmS:TO:=λ_ H Q=>Q none H
noncomputable def tPart(t:TE):TO:=λσ H Q=>t σ H λx H1=>∃i,x=.int i/\Q (some i) H1
theorem zcM{ns:List Int}:∀{us:List Ad},Vals (ns.map V.int) us->Ck us ns:=by
 induction ns with
 |nil=>intro us r;rw[List.map_nil]at r;cases r;exact .nil
 |cons n ns ih =>
  intro us r;rw[AW]at r
  cases r with
  |cons r1 r2 =>
   obtain⟨t,e⟩:=r1;subst e;exact .cons n t (ih r2)
section
variable {X:Cx}{e:Expr}{te:TE}{lo hi:Option Expr}{tl th:TO}{pos p2:Pos}
theorem zdD:PO X none zmS:=by intro pins s σ H Q I h;rw[evalPart_none];exact Ah ⟨none,H,I,.none,h⟩
theorem zdC(h:PE X e te):PO X (some e) (tPart te):=by
 intro pins s σ H Q I hw;rw[evalPart_some];refine thn (h pins s σ H _ I hw) λu s1 ⟨x,H1,I1,r1,q1⟩=>?_
 obtain⟨i,rfl,q⟩:=q1;obtain⟨t,rfl⟩:=r1;exact⟨some i,H1,I1,.int i t,q⟩
noncomputable def SlR(X:Cx)(r:V->Option Int->Option Int->Hp->VK->Prop):Prop :=
 ∀(pins:List (Addr×Obj)) (s:Ae) (σ:St) (H:Hp) (x:V) (v vl vu:Ad) (lo hi:Option Int) (sl:Addr) (Q:VK),Inv X pins σ H s->RelV x v->s.heap.IsSliceOf sl vl vu .none->IsPart vl lo->IsPart vu hi->r x lo hi H Q ->
  ∃T id,typeLookup (.type T) "__getitem__" = pure (some (.builtin id))/\s.TypeIs v T/\Ar (Ax X.prog X.w) X.A (getItem v (.ref sl)) (EP X pins σ Q) X.xe s
noncomputable def tSl(r:V->Option Int->Option Int->Hp->VK->Prop)(te:TE)(tl th:TO):TE:=λσ H Q=>te σ H λx H1=>tl σ H1 λl H2=>th σ H2 λu H3=>r x l u H3 Q
theorem zcK{r:V->Option Int->Option Int->Hp->VK->Prop}(hr:SlR X r)(he:PE X e te)(hl:PO X lo tl)(hu:PO X hi th):PE X (.Subscript e (.Slice lo hi none p2) pos) (tSl r te tl th):=by
 intro pins s σ H Q I h;refine Subscript_ (thn (he pins s σ H _ I h) λv s1 ⟨x,H1,I1,r1,q1⟩=>?_);refine wpAny_Slice (thn (hl pins s1 σ H1 _ I1 q1) λvl s2 ⟨l,H2,I2,pl,q2⟩=>thn (hu pins s2 σ H2 _ I2 q2) λvu s3 ⟨u,H3,I3,pu,q3⟩=>?_);rw[evalPart_none];refine Ah ?_
 have I4:Inv X pins σ H3 { s3 with heap:=s3.heap.push { cls:=.type "slice",data:=.fields #[vl,vu,.none] } }:=I3.kept (t':=s3.toks) λb ob q=>Ag _ q
 obtain⟨T,id,hT,ht,hg⟩:=hr pins { s3 with heap:=s3.heap.push { cls:=.type "slice",data:=.fields #[vl,vu,.none] } } σ H3 x v vl vu l u s3.heap.objs.size Q I4 r1 (Heap.IsSliceOf.new ..) pl pu q3;show Ar (Ax X.prog X.w) X.A (subscriptTail e (.Slice lo hi none p2) v (.ref s3.heap.objs.size)) (EP X pins σ Q) X.xe { s3 with heap:=s3.heap.push { cls:=.type "slice",data:=.fields #[vl,vu,.none] } };exact tail_any (ops:=[.ref s3.heap.objs.size,v]) ht hT hg (by with_unfolding_all rfl)
noncomputable def cutV(xs:List V)(lo hi:Option Int):List V:=(xs.drop (HT.sIx xs.length 0 lo)).take (HT.sIx xs.length xs.length hi-HT.sIx xs.length 0 lo)
theorem zeK(xs:List V)(lo hi:Option Int):(cutV xs lo hi).length<=xs.length:=by unfold cutV;rw[AB,BB];lia
noncomputable def rSlT(K:W.Frag):V->Option Int->Option Int->Hp->VK->Prop:=λx lo hi H Q=>∃a xs,x=.ref a/\SqT K H a xs /\
 ¬ (HT.sIx xs.length 0 lo=0/\HT.sIx xs.length xs.length hi=xs.length)/\∀p,H p=none->Q (.ref p) (upd H p (.tup (cutV xs lo hi)))
theorem znB:SlR X (rSlT X.K):=by
 intro pins s σ H x v vl vu lo hi sl Q I rx hs pl pu h;obtain⟨a,xs,rfl,hx,hw,q⟩:=h
 cases rx
 obtain⟨its,r,ht,hz⟩:=I.tuple hx;have hlen:its.toArray.size=xs.length:=by rw[Ao];exact r.length.symm
 refine⟨"tuple",_,Bk.lookup,ht.typeIs,?_⟩;refine HT.getItem_tuple_cut ht hs pl pu (by rw[hlen];exact hw) ?_ (by rw[hlen];exact hz)
 rw[hlen];refine⟨.ref s.heap.objs.size,_,I.laid (t':=s.toks) (o:=.tup (cutV xs lo hi)) (λb ob q=>Ag _ q) (Aj _) ?_,rfl,q _ (I.hok.fresh (Aj _))⟩;exact⟨Bb (zeK xs lo hi) hz,_,(r.drop (HT.sIx xs.length 0 lo)).take (HT.sIx xs.length xs.length hi-HT.sIx xs.length 0 lo),IsTup.new _ _⟩
end
noncomputable def ixN(n:Nat)(i:Int):Option Nat:=if 0<=i then (if i<n then some i.toNat else none) else if -(n:Int)<=i then some (i+n).toNat else none
noncomputable def atI{α:Type}(xs:List α)(i:Int):Option α:=(ixN xs.length i).bind λj=>xs[j]?
theorem zk3{n:Nat}{i:Int}{j:Nat}(h:ixN n i=some j):seqIndex? i n=some j/\j<n/\-(n:Int)<=i/\i<n:=by
 unfold ixN at h
 by_cases h0:0<=i
 .rw[if_pos h0]at h
  by_cases h1:i<n
  .rw[if_pos h1]at h;have e:i.toNat=j:=AX h;exact⟨by rw[seqIndex_of h0 h1,e],by lia,by lia,h1⟩
  .rw[if_neg h1]at h;cases h
 .rw[if_neg h0]at h
  by_cases h1:-(n:Int)<=i
  .rw[if_pos h1]at h;have e:(i+n).toNat=j:=AX h;exact⟨by rw[seqIndex_neg (by lia) h1,e],by lia,h1,by lia⟩
  .rw[if_neg h1]at h;cases h
theorem zlv{α:Type}{xs:List α}{i:Int}{v:α}(h:atI xs i=some v):∃j,seqIndex? i xs.length=some j/\xs[j]?=some v/\j<xs.length/\-(xs.length:Int)<=i/\i<xs.length:=by
 unfold atI at h
 cases e:ixN xs.length i with
 |none=>rw[e]at h;cases h
 |some j =>
  rw[e]at h;obtain⟨h1,h2,h3,h4⟩:=zk3 e;exact⟨j,h1,h,h2,h3,h4⟩
theorem zak{α:Type}{xs:List α}{j:Nat}{v:α}(h:xs[j]?=some v):atI xs (j:Int)=some v:=by
 have hj:j<xs.length:=(Ac.mp h).1
 have e:ixN xs.length (j:Int)=some j:=by unfold ixN;rw[if_pos (by lia),if_pos (by lia)];simp
 unfold atI;rw[e];exact h
noncomputable def znq(b:Expr):Prop:=∀o i,subscripted b false o i=operate [o,i] (getItem o i)
noncomputable def IxR(X:Cx)(r:R2):Prop :=
 ∀(value slice:Expr) (pins:List (Addr×Obj)) (s:Ae) (σ:St) (H:Hp) (x y:V) (v u:Ad) (Q:VK),Inv X pins σ H s->RelV x v->RelV y u->r x y H Q ->
  subscripted slice false v u=operate [v,u] (getItem v u)->Ar (Ax X.prog X.w) X.A (subscriptTail value slice v u) (EP X pins σ Q) X.xe s
noncomputable def MtR(X:Cx)(id:String)(r:V->List V->Hp->VK->Prop):Prop :=
 ∀(pins:List (Addr×Obj)) (s:Ae) (σ:St) (H:Hp) (x:V) (xs:List V) (v:Ad) (us:List Ad) (Q:VK),Inv X pins σ H s->RelV x v->Vals xs us->r x xs H Q ->
  Ar (Ax X.prog X.w) X.A (call (.builtin id) (v::us)) (EP X pins σ Q) X.xe s
section
variable {X:Cx}{a b:Expr}{ta tb:TE}{pos:Pos}
theorem pe_ix{r:R2}(hr:IxR X r)(ha:PE X a ta)(hb:PE X b tb)(hs:znq b):PE X (.Subscript a b pos) (tOp r ta tb):=by intro pins s σ H Q I h;exact Subscript_ (binT ha hb I h λv u s2 x y H2 I2 rx ry q=>hr a b pins s2 σ H2 x y v u Q I2 rx ry q (hs _ _))
noncomputable def rIxL(K:W.Frag):R2:=λx y H Q=>∃p xs i v,x=.ref p/\y=.int i/\SqL K H p xs/\atI xs i=some v/\Q v H
noncomputable def rIxT(K:W.Frag):R2:=λx y H Q=>∃p xs i v,x=.ref p/\y=.int i/\SqT K H p xs/\atI xs i=some v/\Q v H
theorem zaA:IxR X (rIxL X.K):=by
 intro value slice pins s σ H x y v u Q I rx ry h hs;obtain⟨p,xs,i,z,rfl,rfl,hq,he,q⟩:=h
 cases rx
 obtain⟨t,rfl⟩:=ry;obtain⟨its,r,pl,hz⟩:=I.list hq;obtain⟨j,h1,h2,h3,h4,h5⟩:=zlv he;obtain⟨w,ew,rw'⟩:=r.get h2;have hl:=r.length;have hn:=zhd;have fin:EP X pins σ Q w s:=⟨z,H,I,rw',q⟩
 by_cases h0:0<=i
 .have hj:i.toNat=j := by rw[seqIndex_of h0 h5]at h1;exact AX h1
  exact item_listR pl.isList h0 (by lia) (by rw[hj];simpa using ew) fin hs
 .have hj:(i + (its.toArray.size:Int)).toNat=j := by rw[seqIndex_neg (by lia) h4]at h1;rw[Ao,<- hl];exact AX h1
  exact subscriptTail_builtinR (x:=w) pl.isList.typeIs slot_list_getitem.lookup
   (wpAny_getItem_list_neg (Q:=λr s'=>r=w/\EP X pins σ Q r s') pl.isList (by lia) (by rw[Ao] <;> lia) (by lia) (by rw[hj];simpa using ew) ⟨rfl,fin⟩) hs
theorem zaT:IxR X (rIxT X.K):=by
 intro value slice pins s σ H x y v u Q I rx ry h hs;obtain⟨p,xs,i,z,rfl,rfl,hq,he,q⟩:=h
 cases rx
 obtain⟨t,rfl⟩:=ry;obtain⟨its,r,pl,hz⟩:=I.tuple hq;obtain⟨j,h1,h2,h3,h4,h5⟩:=zlv he;obtain⟨w,ew,rw'⟩:=r.get h2;have hl:=r.length;have hn:=zhd;have fin:EP X pins σ Q w s:=⟨z,H,I,rw',q⟩
 exact subscriptTail_builtinR (x:=w) pl.typeIs slot_tuple_getitem.lookup
  (getItem_tuple (j:=j) (Q:=λr s'=>r=w/\EP X pins σ Q r s') pl (by lia) (by lia) (by rw[Ao,<- hl];exact h1) (by simpa using ew) ⟨rfl,fin⟩) hs
theorem zjJ (its:List Ad) (n j:Nat) (u:Ad):AM (·.setIfInBounds j u) { cls:=.type "list",data:=.seq its.toArray n }={ cls:=.type "list",data:=.seq (its.set j u).toArray n }:=by simp[AM]
theorem Inv.lst{pins:List (Addr × Obj)}{σ : St}{H:Hp}{s:Ae}{p:Addr}{xs:List V}(I:Inv X pins σ H s)(h:H p=some (.lst xs)) :
  ∃(its:List Ad) (n:Nat),Vals xs its/\s.heap.get? p=some { cls:=.type "list",data:=.seq its.toArray n }/\xs.length<=sizeLine:=by
 obtain⟨z,its,n,r,e⟩:=I.hok p _ h;exact⟨its,n,r,e,z⟩
theorem Inv.lstUpd{pins:List (Addr × Obj)}{σ : St}{H:Hp}{s:Ae}{p:Addr}{xs ys:List V}{its its':List Ad}{n n':Nat}{f:Obj -> Obj}(I:Inv X pins σ H s)(h:H p=some (.lst xs))
  (ho:s.heap.get? p=some { cls:=.type "list",data:=.seq its.toArray n }) (hf:f { cls:=.type "list",data:=.seq its.toArray n }={ cls:=.type "list",data:=.seq its'.toArray n' }) (r:Vals ys its') (hz:ys.length<=sizeLine) (t:Nat) :
  Inv X pins σ (upd H p (.lst ys)) { s with heap:=s.heap.update p f,toks:=t }:=by
 have e:(s.heap.update p f).get? p=some { cls:=.type "list",data:=.seq its'.toArray n' }:=by rw[BZ f ho (by rw[hf] <;> rfl),hf]
 refine I.write (x:=p) (e:=p) (by rw[h];trivial) (.inl rfl) (λb u hb q=>(A4 _ _ (Bu hb)).trans q) ⟨_,e⟩ ?_
 exact⟨hz,its',n',r,e⟩
noncomputable def rSetL:V->V->V->Hp->(Hp->Prop)->Prop:=λo i v H Q=>∃p xs k j,o=.ref p/\i=.int k/\H p=some (.lst xs)/\ixN xs.length k=some j/\Q (upd H p (.lst (xs.set j v)))
theorem ziH:PSet X rSetL:=by
 intro pins s σ H o i v ov iv u Q I ro ri rv h;obtain⟨p,xs,k,j,rfl,rfl,hp,hj,q⟩:=h
 cases ro
 obtain⟨t,rfl⟩:=ri;obtain⟨its,n,r,ho,hz⟩:=I.lst hp;obtain⟨h1,h2,h3,h4⟩:=zk3 hj;have hl:=r.length;have hn:=zhd
 have I':Inv X pins σ (upd H p (.lst (xs.set j v))) { s with heap:=s.heap.update p (AM (·.setIfInBounds j u)) } :=
  I.lstUpd hp ho (zjJ its n j u) (r.set rv j) (by rw[List.length_set];exact hz) s.toks
 by_cases h0:0<=k
 .have hk:k.toNat=j := by rw[seqIndex_of h0 h4]at h1;exact AX h1
  exact W.ki_setAt ho h0 (by lia) (by rw[Ao,<- hl];exact h4) (by rw[hk];exact⟨_,I',q⟩)
 .have hk:(k + (its.toArray.size:Int)).toNat=j := by rw[seqIndex_neg (by lia) h3]at h1;rw[Ao,<- hl];exact AX h1
  exact W.ki_setBack ho (by lia) (by rw[Ao,<- hl];exact h3) (by lia) (by rw[hk];exact⟨_,I',q⟩)
theorem zgQ(lo hi:Option Int)(n:Nat):(DD lo hi none n).1=((HT.sIx n 0 lo:Nat):Int)/\(DD lo hi none n).2.1=((HT.sIx n n hi:Nat):Int)/\(DD lo hi none n).2.2=1:=by
 refine⟨?_,?_,rfl⟩
 .cases lo with
  |none=>simp[DD,HT.sIx]
  |some i =>
   simp only[DD,HT.sIx,Option.getD_none,show (1:Int) > 0 by decide,if_true]
   by_cases h:i<0
   .simp only[h,if_true] <;> lia
   .simp only[h,if_false] <;> lia
 .cases hi with
  |none=>simp[DD,HT.sIx]
  |some i =>
   simp only[DD,HT.sIx,Option.getD_none,show (1:Int) > 0 by decide,if_true]
   by_cases h:i<0
   .simp only[h,if_true] <;> lia
   .simp only[h,if_false] <;> lia
theorem zfP(its:List Ad)(lo hi:Option Int):slicePick its.toArray lo hi none=((its.drop (HT.sIx its.length 0 lo)).take (HT.sIx its.length its.length hi-HT.sIx its.length 0 lo)).toArray:=by obtain⟨h1,h2,h3⟩:=zgQ lo hi its.toArray.size;unfold slicePick;rw[h1,h2,h3];simp only[sliceRange_one,pick_run,Ao] <;> rfl
noncomputable def rSlL(K:W.Frag):V->Option Int->Option Int->Hp->VK->Prop:=λx lo hi H Q=>∃a xs,x=.ref a/\SqL K H a xs/\∀p,H p=none->Q (.ref p) (upd H p (.lst (cutV xs lo hi)))
theorem zfQ:SlR X (rSlL X.K):=by
 intro pins s σ H x v vl vu lo hi sl Q I rx hs pl pu h;obtain⟨a,xs,rfl,hx,q⟩:=h
 cases rx
 obtain⟨its,r,ht,hz⟩:=I.list hx;have hlen:=r.length;refine⟨"list",_,slot_list_getitem.lookup,ht.isList.typeIs,?_⟩;refine wpAny_getItem_list_slice ht.isList hs pl pu .none (by simp) ?_ (by rw[Ao] <;> lia)
 rw[zfP,<- hlen];refine⟨.ref s.heap.objs.size,_,I.laid (t':=s.toks) (o:=.lst (cutV xs lo hi)) (λb ob q=>Ag _ q) (Aj _) ?_,rfl,q _ (I.hok.fresh (Aj _))⟩;exact⟨Bb (zeK xs lo hi) hz,_,0,(r.drop (HT.sIx xs.length 0 lo)).take (HT.sIx xs.length xs.length hi-HT.sIx xs.length 0 lo),Az _ rfl⟩
theorem zaF:CallR X (.builtin "len") (λxs H Q=>∃p ys,xs=[.ref p]/\(SqL X.K H p ys∨SqT X.K H p ys)/\Q (.int ys.length) H):=by
 intro pins s σ H xs us Q I r h;obtain⟨p,ys,rfl,hq,q⟩:=h;obtain⟨u,rfl,rx⟩:=vals1 r
 cases rx
 have hn:=zhd;rcases hq with hq |hq
 .obtain⟨its,r',pl,hz⟩:=I.list hq;have hlen:=r'.length;exact Calls.call_len_list pl.isList (by simp only[Ao] <;> lia) ⟨.int ys.length,H,I.tok _,⟨s.toks+1,by rw[Ao,hlen]⟩,q⟩
 .obtain⟨its,r',pl,hz⟩:=I.tuple hq;have hlen:=r'.length;exact len_tuple pl (by simp only[Ao] <;> lia) ⟨.int ys.length,H,I.tok _,⟨s.toks+1,by rw[Ao,hlen]⟩,q⟩
theorem zhr:CallR X (.type "list") (λxs H Q=>∃p ys,xs=[.ref p]/\(SqL X.K H p ys∨SqT X.K H p ys)/\∀l,H l=none->Q (.ref l) (upd H l (.lst ys))):=by
  intro pins s σ H xs us Q I r h;obtain⟨p,ys,rfl,hq,q⟩:=h;obtain⟨u,rfl,rx⟩:=vals1 r
  cases rx
  have fin:∀(its:List Ad), Vals ys its -> ys.length <= sizeLine -> ∀(h':Heap) (c':Nat), (∀b o', s.heap.get? b=some o' -> h'.get? b=some o') ->
      h'.get? s.heap.objs.size=some { cls:=.type "list",dict:=none,data:=.seq its.toArray c',slots:=#[] }->EP X pins σ Q (.ref s.heap.objs.size) { s with heap:=h' }:=λits r' hz h' c' kp e =>
    ⟨.ref s.heap.objs.size,_,I.laid (t':=s.toks) kp (Aj _) (show ObjOk X.prog X.w _ h' _ (.lst ys) from ⟨hz,its,c',r',e⟩),rfl,q _ (I.hok.fresh (Aj _))⟩
  rcases hq with hq |hq
  . obtain⟨its,r',pl,hz⟩:=I.list hq;have hlen:=r'.length;obtain⟨o,ho,hc,n,hd⟩:=pl.isList;exact call_list_seq p (.inl rfl) ho hc hd (λh' c' kp e=>fin its r' hz h' c' kp e) (by simp only[Ao] <;> lia)
  . obtain⟨its,r',pl,hz⟩:=I.tuple hq;have hlen:=r'.length;obtain⟨o,ho,hc,n,hd⟩:=pl;exact call_list_seq p (.inr rfl) ho hc hd (λh' c' kp e=>fin its r' hz h' c' kp e) (by simp only[Ao] <;> lia)
theorem zgs:CallR X (.type "tuple") (λxs H Q=>∃p ys,xs=[.ref p]/\((SqL X.K H p ys/\∀l,H l=none->Q (.ref l) (upd H l (.tup ys)))∨(SqT X.K H p ys/\Q (.ref p) H))):=by
 intro pins s σ H xs us Q I r h;obtain⟨p,ys,rfl,h⟩:=h;obtain⟨u,rfl,rx⟩:=vals1 r
 cases rx
 rcases h with⟨hq,q⟩ |⟨hq,q⟩
 .obtain⟨its,r',pl,hz⟩:=I.list hq;have hlen:=r'.length;refine call_tuple_list pl.isList (λh' kp=>?_) (by simp only[Ao] <;> lia);have I1:Inv X pins σ H { s with heap:=h' }:=I.kept (t':=s.toks) kp
  have I2:Inv X pins σ (upd H h'.objs.size (.tup ys)) { s with heap:=h'.push { cls:=.type "tuple",data:=.seq its.toArray } } :=
   I1.laid (t':=s.toks) (λb o e=>Ag _ e) (Aj _) (show ObjOk X.prog X.w _ _ _ (.tup ys) from ⟨hz,its,r',IsTup.new _ _⟩)
  exact⟨.ref h'.objs.size,_,I2,rfl,q _ (I1.hok.fresh (Aj _))⟩
 .obtain⟨its,r',pl,hz⟩:=I.tuple hq;exact call_tuple_same pl ⟨.ref p,H,I,rfl,q⟩
noncomputable def tyV(K:W.Frag)(T:String)(x:V)(H:Hp):Prop:=match x with
  |.str _=>T = "str"
  |.int _=>T = "int"
  |.ref p => (T = "list" /\ ∃xs, SqL K H p xs) ∨ (T = "tuple" /\ ∃o, K.lookup p=some o /\ o.cls = .type "tuple" /\ o.dict=none) ∨
      (T = "dict" /\ ((∃kvs,H p=some (.dK kvs))∨∃kvs,H p=some (.dT kvs)))∨(T = "set" /\ ∃S n,H p=some (.set S n))
  |_=>False
theorem zmg{pins:List (Addr × Obj)}{σ : St}{H:Hp}{s:Ae}{T:String}{x:V}{v:Ad}(I:Inv X pins σ H s)(r:RelV x v)(ty:tyV X.K T x H) :
  s.TypeIs v T/\∀a,v=.ref a->∃ob,s.heap.get? a=some ob/\ob.dict=none:=by
 cases x with
 |str z =>
  obtain⟨t,rfl⟩:=r
  cases (show T = "str" from ty)
  exact⟨typeIs_str s z t,λ_ e=>nomatch e⟩
 |int i =>
  obtain⟨t,rfl⟩:=r
  cases (show T = "int" from ty)
  exact⟨typeIs_int s i t,λ_ e=>nomatch e⟩
 |ref p =>
  cases r
  rcases ty with⟨rfl,xs,hq⟩ |⟨rfl,o,hk,hc,hd⟩ |⟨rfl,hk⟩ |⟨rfl,S,n,hk⟩
  .obtain⟨its,_,pl,_⟩:=I.list hq;refine⟨pl.isList.typeIs,λa e=>?_⟩
   cases e
   obtain⟨o,n,e,c,hd,_⟩:=pl;exact⟨o,e,hd⟩
  .refine⟨⟨o,I.kIn p o hk,hc⟩,λa e=>?_⟩
   cases e
   exact⟨o,I.kIn _ o hk,hd⟩
  .have z:∃o, s.heap.get? p=some o /\ o.ExactDict := by
    rcases hk with⟨kvs,hk⟩ |⟨kvs,hk⟩
    .obtain⟨_,_,_,_,o,_,_,e,ex,_⟩:=I.hok p _ hk;exact⟨o,e,ex⟩
    .obtain⟨_,_,_,_,o,_,_,e,ex,_⟩:=I.hok p _ hk;exact⟨o,e,ex⟩
   obtain⟨o,e,ex⟩:=z;refine⟨⟨o,e,ex.1⟩,λa e2=>?_⟩
   cases e2
   exact⟨o,e,ex.2.1⟩
  .obtain⟨o,_,_,_,e,ex,_⟩:=I.hok p _ hk;refine⟨⟨o,e,ex.1⟩,λa e2=>?_⟩
   cases e2
   exact⟨o,e,ex.2.1⟩
 |_=>exact Bt ty
noncomputable def tBM0(K:W.Frag)(T:String)(r:V->List V->Hp->VK->Prop)(to:TE):TE:=λσ H Q=>to σ H λx H1=>tyV K T x H1/\r x [] H1 Q
noncomputable def tBM(K:W.Frag)(T:String)(r:V->List V->Hp->VK->Prop)(to:TE)(t:TA):TE:=λσ H Q=>to σ H λx H1=>tyV K T x H1/\t σ H1 λxs H2=>r x xs H2 Q
variable {o e:Expr}{es:List Expr}{to:TE}{t:TA}{name:Str}{apos cpos:Pos}{T id:String}{r:V->List V->Hp->VK->Prop}
theorem znO (pa:PlainAttrs T) (slot:Slot T name id) (hty:typeOf (.builtin id)=pure (.type "method_descriptor")) (hm:MtR X id r) (ho:PE X o to)
  (hbase:attributeBase o name X.env (eval o X.env)=eval o X.env:=by rfl) (hline:(apos.endLine == cpos.line)=true:=by rfl):PE X (.Call (.Attribute o name apos) [] [] cpos) (tBM0 X.K T r to):=by
 intro pins s σ H Q I h;refine wpAny_Call_method0_late hbase hline (thn (ho pins s σ H _ I h) λv s1 ⟨x,H1,I1,r1,ty,q1⟩=>?_);obtain⟨h1,h2⟩:=zmg I1 r1 ty;exact⟨T,id,pa,slot,hty,h1,h2,Calls.callWith_builtin rfl (PySem.evalArgs_none (hm pins s1 σ H1 x [] v [] Q I1 r1 .nil q1))⟩
theorem pe_bm (pa:PlainAttrs T) (slot:Slot T name id) (hty:typeOf (.builtin id)=pure (.type "method_descriptor")) (hm:MtR X id r) (ho:PE X o to) (ha:PA X (e :: es) t)
  (hbase:attributeBase o name X.env (eval o X.env)=eval o X.env:=by rfl)
  (hfew:((backTo cpos (A3 (e::es) X.env)).all (λx=>!x.1) && (Dj cpos (Cq [] X.env)).all (λx=>x.1.isSome)
   && decide ((e::es).length+([]:List Keyword).length+(if ([]:List Keyword).isEmpty then 0 else 1)<30))=true:=by rfl)
  (hline:(apos.endLine == cpos.line)=true:=by rfl) (hs:A3 (e::es) X.env=(false,eval e X.env)::A3 es X.env:=by rfl) (hplain:(backTo cpos (A3 es X.env)).any (·.1)=false:=by rfl) :
  PE X (.Call (.Attribute o name apos) (e::es) [] cpos) (tBM X.K T r to t):=by
 intro pins s σ H Q I h;refine wpAny_Call_method_late hbase hfew hline rfl (thn (ho pins s σ H _ I h) λv s1 ⟨x,H1,I1,r1,ty,q1⟩=>?_);obtain⟨h1,h2⟩:=zmg I1 r1 ty;refine⟨T,id,pa,slot,hty,h1,h2,?_⟩;have hA:=ha cpos pins s1 σ H1 _ I1 q1;rw[hs]at hA ⊢;refine Calls.callWith_builtin (by show (false || (backTo cpos (A3 es X.env)).any (·.1))=false;rw[hplain] <;> rfl) (Calls.evalArgs_plain ?_);exact thn hA λus s2 ⟨vs,H2,I2,r2,q2⟩=>hm pins s2 σ H2 x vs v us Q I2 r1 r2 q2
/- xs.append(e),list.index on a module's tuple .. are MtR facts of 06m -/
end
noncomputable def MtM(X:Cx)(id:String)(r:V->List V->Hp->VK->Prop):Prop :=
 ∀(pins:List (Addr×Obj)) (s:Ae) (σ:St) (H:Hp) (x:V) (xs:List V) (v:Ad) (us:List Ad) (Q:VK),Inv X pins σ H s->RelV x v->Vals xs us->r x xs H Q ->
  Ar (Ax X.prog X.w) X.A (call (.builtin id) (v::us)) (EP X pins σ Q) X.xe s
theorem Vals.one:∀{x:V}{us:List Ad},Vals [x] us->∃u,us=[u]/\RelV x u
 |_,_,.cons r .nil=>⟨_,rfl,r⟩
theorem Vals.zero:∀{us:List Ad},Vals [] us->us=[]
 |_,.nil=>rfl
theorem Vals.dropLast{xs:List V}{us:List Ad}(h:Vals xs us):Vals xs.dropLast us.dropLast:=by
 induction h with
 |nil=>exact .nil
 |cons r t ih =>
  cases t with
  |nil=>exact .nil
  |cons q t'=>exact .cons r ih
theorem Vals.reverse{xs:List V}{us:List Ad}(h:Vals xs us):Vals xs.reverse us.reverse:=by
 induction h with
 |nil=>exact .nil
 |cons r t ih=>rw[List.reverse_cons,List.reverse_cons];exact Vals.append ih (.cons r .nil)
theorem Vals.rep{xs:List V}{us:List Ad}(h:Vals xs us):∀k:Nat,Vals (Ap k xs).flatten (Ap k us).flatten
 | 0=>.nil
 |k+1=>by
  rw[Ch,Ch,Bn,Bn];exact Vals.append h (Vals.rep h k)
theorem zjN{α:Type}(l:List α):l.eraseIdx (l.length-1)=l.dropLast:=by
 induction l with
 |nil=>rfl
 |cons a r ih =>
  cases r with
  |nil=>rfl
  |cons b r =>
   have e:(a::b::r).length-1=((b::r).length-1)+1:=by have h1:(a::b::r).length=r.length+2:=rfl;have h2:(b::r).length=r.length+1:=rfl;lia
   rw[e,List.eraseIdx_cons_succ,ih]
   all_goals rfl
theorem zhj(its:List Ad):∀(k:Nat) (acc:List Ad),
  List.foldl (λx1 x2=>x1++x2) acc.toArray (Ap k its.toArray)=(acc++(Ap k its).flatten).toArray
 | 0,acc=>by simp
 |k+1,acc=>by
  have e:acc.toArray++its.toArray=(acc++its).toArray:=by simp
  have e2:(acc++its)++(Ap k its).flatten=acc++(Ap (k+1) its).flatten:=by rw[Ch,Bn,CZ]
  rw[<- e2,<- zhj its k (acc++its),<- e,Ch,List.foldl_cons]
section
variable {X:Cx}{pins:List (Addr×Obj)}{σ:St}{H:Hp}{s:Ae}{l b:Addr}{xs ys zs:List V}
theorem Inv.lset{its its':List Ad}{n:Nat}{f:Array Ad -> Array Ad}{t':Nat}(I:Inv X pins σ H s)(hH:H l=some (.lst xs))
  (e:s.heap.get? l=some { cls:=.type "list",data:=.seq its.toArray n }) (hf:f its.toArray=its'.toArray) (hv:Vals ys its') (hz:ys.length<=sizeLine) :
  Inv X pins σ (upd H l (.lst ys)) { s with heap:=s.heap.update l (AM f),toks:=t' }:=by
 have q:=PySem.IsL.update e f;rw[hf]at q;refine I.write (x:=l) (e:=l) (by rw[hH];exact trivial) (.inl rfl) (λb' u hb hu=>(A4 s.heap (AM f) (Bu hb)).trans hu) ⟨_,q⟩ ?_
 exact⟨hz,its',_,hv,q⟩
theorem Inv.lnew{its:List Ad}{t':Nat}(I:Inv X pins σ H s)(hv:Vals ys its)(hz:ys.length <= sizeLine) :
  Inv X pins σ (upd H s.heap.objs.size (.lst ys)) { s with heap:=s.heap.push { cls:=.type "list",data:=.seq its.toArray },toks:=t' } :=
 I.laid (λ_ _ q=>Ag _ q) (Aj _) ⟨hz,its,0,hv,Az _ rfl⟩
theorem Inv.fresh(I:Inv X pins σ H s):H s.heap.objs.size=none:=I.hok.fresh (Aj _)
theorem Inv.lstM (I:Inv X pins σ H s) (hH:H l=some (.lst xs)):xs.length<=sizeLine/\∃(its:List Ad) (n:Nat),Vals xs its/\xs.length=its.length/\s.heap.get? l=some { cls:=.type "list",data:=.seq its.toArray n }:=by obtain⟨z,its,n,r,e⟩:=I.hok l _ hH;exact⟨z,its,n,r,r.length,e⟩
theorem ziU{n:Nat}(h:n<=sizeLine):CG n=false:=by unfold CG;exact decide_eq_false (by lia)
end
section
variable {X:Cx}
noncomputable def zm0:V->List V->Hp->VK->Prop:=λx vs H Q=>∃l xs y,x=.ref l/\vs=[y]/\H l=some (.lst xs)/\xs.length<sizeLine/\Q .non (upd H l (.lst (xs++[y])))
theorem zbb:MtM X "list.append" zm0:=by
 intro pins s σ H x vs v us Q I rx rv h;obtain⟨l,xs,y,rfl,rfl,hH,hz,q⟩:=h
 cases rx
 obtain⟨u,rfl,ru⟩:=rv.one;obtain⟨z,its,n,r,hl,e⟩:=I.lstM hH;refine call_meets F.slot_list_append ⟨_,e,rfl⟩ F.entry_list_append (F.args_list_append_2 _ _) (PySem.list_append l its.toArray n u (by rw[Ao];lia)) ⟨e,?_⟩;refine⟨.non,_,I.lset (its':=its++[u]) hH e (by simp) (r.append (.cons ru .nil)) ?_,rfl,q⟩;rw[An,A9];lia
noncomputable def zmZ:V->List V->Hp->VK->Prop:=λx vs H Q=>∃l b xs zs,x=.ref l/\vs=[.ref b]/\H l=some (.lst xs)/\H b=some (.lst zs)/\xs.length+zs.length<=sizeLine/\Q .non (upd H l (.lst (xs++zs)))
theorem zkT:MtM X "list.extend" zmZ:=by
 intro pins s σ H x vs v us Q I rx rv h;obtain⟨l,b,xs,zs,rfl,rfl,hH,hB,hz,q⟩:=h
 cases rx
 obtain⟨u,rfl,ru⟩:=rv.one
 cases ru
 obtain⟨z,its,n,r,hl,e⟩:=I.lstM hH;obtain⟨z2,its2,n2,r2,hl2,e2⟩:=I.lstM hB;have hsz:its.toArray.size+its2.toArray.size<=sizeLine:=by rw[Ao,Ao];lia
 have hlong:¬ (!its.toArray.isEmpty && CG (its.toArray.size+its2.toArray.size))=true:=by rw[ziU hsz,Bool.and_false];exact AK
 refine call_meets F.slot_list_extend ⟨_,e,rfl⟩ F.entry_list_extend (F.args_list_extend_2 _ _)
  (AutoSeq1.list_extend_list_list_0 l its.toArray n b its2.toArray n2 hlong (by rw[Ao];lia) (by lia)) ⟨e,e2,?_⟩
 refine⟨.non,_,I.lset (its':=its++its2) hH e (by simp) (r.append r2) ?_,rfl,q⟩;rw[An];lia
noncomputable def rPop:V->List V->Hp->VK->Prop:=λx vs H Q=>∃l xs y,x=.ref l/\vs=[]/\H l=some (.lst xs)/\xs[xs.length-1]?=some y/\Q y (upd H l (.lst xs.dropLast))
theorem znT:MtM X "list.pop" rPop:=by
 intro pins s σ H x vs v us Q I rx rv h;obtain⟨l,xs,y,rfl,rfl,hH,hy,q⟩:=h
 cases rx
 have hus:=rv.zero;subst hus;obtain⟨z,its,n,r,hl,e⟩:=I.lstM hH;obtain⟨u,hu,ru⟩:=r.get hy
 have hy':its.toArray[its.toArray.size-1]?=some u:=by show its.toArray[its.length-1]?=some u;rw[<- CY,<- hl];exact hu
 refine call_meets F.slot_list_pop ⟨_,e,rfl⟩ F.entry_list_pop (F.args_list_pop_1 _) (MeetsSeq.list_pop_last l its.toArray n u hy' (by rw[Ao];lia)) ⟨e,?_⟩;refine⟨y,_,I.lset (its':=its.dropLast) hH e ?_ r.dropLast ?_,ru,q⟩
 .show its.toArray.eraseIdxIfInBounds (its.toArray.size-1)=its.dropLast.toArray;rw[Ao,List.eraseIdxIfInBounds_toArray,zjN]
 .rw[List.length_dropLast];lia
noncomputable def rCat:R2:=λx y H Q=>∃l b xs zs,x=.ref l/\y=.ref b/\H l=some (.lst xs)/\H b=some (.lst zs)/\xs.length+zs.length<=sizeLine/\∀p,H p=none->Q (.ref p) (upd H p (.lst (xs++zs)))
theorem zg4:OpR X (binaryOp .Add) rCat:=by
 intro pins s σ H x y v u Q I rx ry h;obtain⟨l,b,xs,zs,rfl,rfl,hH,hB,hz,q⟩:=h
 cases rx
 cases ry
 obtain⟨z,its,n,r,hl,e⟩:=I.lstM hH;obtain⟨z2,its2,n2,r2,hl2,e2⟩:=I.lstM hB;refine PySem.P.add_list e e2 ?_ (by rw[Ao,Ao];lia)
 have ea:its.toArray++its2.toArray=(its++its2).toArray:=by simp
 rw[ea];exact⟨.ref _,_,I.lnew (t':=s.toks) (r.append r2) (by rw[An];lia),rfl,q _ I.fresh⟩
noncomputable def rRep:R2:=λx y H Q=>∃l k xs,x=.ref l/\y=.int k/\H l=some (.lst xs)/\-(2 ^ 63)<=k/\k<2 ^ 63/\xs.length*k.toNat<=sizeLine /\
 ∀p,H p=none->Q (.ref p) (upd H p (.lst (Ap k.toNat xs).flatten))
theorem znh{α:Type}(xs:List α)(k:Nat):(Ap k xs).flatten.length=k*xs.length:=by
 induction k with
 |zero=>simp
 |succ k ih=>rw[Ch,Bn,An,ih,Nat.succ_mul,Nat.add_comm]
theorem zmE:OpR X (binaryOp .Mult) rRep:=by
 intro pins s σ H x y v u Q I rx ry h;obtain⟨l,k,xs,rfl,rfl,hH,h1,h2,hz,q⟩:=h
 cases rx
 obtain⟨t,rfl⟩:=ry;obtain⟨z,its,n,r,hl,e⟩:=I.lstM hH;have hlen:its.toArray.size*k.toNat<=sizeLine:=by rw[Ao,<- hl];exact hz
 have hcap:¬ its.toArray.size*k.toNat > (2 ^ 63-1) / 8:=by
  have:(sizeLine:Nat)<=(2 ^ 63-1) / 8:=by decide
  lia
 have hfit:¬ (!Builtin.List.listFitsIndex k)=true:=by rw[fitsIndex_both h1 h2];exact AK
 have hlong:¬ CG (its.toArray.size*k.toNat)=true:=by rw[ziU hlen];exact AK
 have hnew:List.foldl (λx1 x2=>x1++x2) #[] (Ap (if its.toArray.isEmpty=true then 0 else k.toNat) its.toArray)=(Ap k.toNat its).flatten.toArray:=by
  have f0:∀m:Nat,List.foldl (λx1 x2=>x1++x2) #[] (Ap m its.toArray)=(Ap m its).flatten.toArray:=λm=>by have:=zhj its m [];rw[List.nil_append]at this;exact this
  rw[f0]
  cases its with
  |nil=>simp
  |cons a r'=>rw[if_neg (by simp)]
 refine wpAny_binaryOp_repeat_ref (T:="list") (U:="int") (by decide) ⟨_,e,rfl⟩ (λs'=>typeIs_int s' k t) noFill_list_mul F.fills_int_mul F.slot_int_rmul repeat_list F.slot_int_index.lookup
  (call_meets F.slot_int_rmul (typeIs_int s k t) F.entry_int_rmul (F.args_int_rmul_2 _ _) (int___rmul___int_list k t l its.toArray n)
   ⟨e,rfl,⟨_,e,rfl⟩,call_meets F.slot_list_mul ⟨_,e,rfl⟩ F.entry_list_mul (F.args_list_mul_2 _ _) (AutoListH.list___mul___list_int_3 l its.toArray n k t hfit hcap hlong) ⟨e,?_⟩⟩)
 rw[hnew];exact⟨.ref _,_,I.lnew (t':=s.toks) (r.rep k.toNat) (by rw[znh,Nat.mul_comm];exact hz),rfl,q _ I.fresh⟩
end
section
variable {prog:AJ}{w:A1}{A:AT}{E:Ad->Ae->Prop}{s:Ae}
end
section
variable {X:Cx}
end
end L2
namespace Att
open PySem PySem.W PySem.Calls PyProof.Rows
theorem zeC{P:Params}{h:Heap}:∀(ns:List Int) (vs:List Ad),WellAll P h vs (ns.map WData.int)->Ck vs ns:=by
 intro ns
 induction ns with
 |nil =>
  intro vs w;rw[List.map_nil]at w
  cases w
  exact .nil
 |cons n ns ih =>
  intro vs w;rw[AW]at w
  cases w with
  |cons a b =>
   cases a
   exact .cons _ _ (ih _ b)
theorem zkn{l:OpenLaw}{n:Nat}(hn:l.most=some n){P:Params}{h:Heap}{args:List WData}{vals:List Ad}
  (hpre:l.row.toRowW.claim.pre args=true) (hwl:WellAll P h vals args) :
  ∃a vs ns,vals=[Av a]/\args=[WData.list (ns.map WData.int)]/\h.get? a=some { cls:=.type "list",data:=.seq vs.toArray }/\Ck vs ns/\ns.length<=n:=by
 have hsh:WShape.hasAll [] args [.list .int]=true:=(pre_splitW hpre).1;have hc:l.pre.holds [] { args:=args }=true:=(pre_splitW hpre).2;obtain⟨d,r,rfl,h1,h2⟩:=hasAllW_cons hsh;obtain rfl:=hasAllW_nil h2;obtain⟨xs,rfl,h3⟩:=hasW_list h1;obtain⟨ns,rfl⟩:=items_int h3
 have hlen:ns.length<=n:=by
  unfold OpenLaw.pre at hc
  have h4:(WTm.not (.lt (.lit (.int (n:Int))) (.len (.arg 0)))).holds [] { args:=[.list (ns.map .int)] }=true:=by have h4:=(holds_andW hc).1;rw[hn]at h4;exact h4
  have h5:=condW_of h4 (w_not (w_lt w_lit (w_len_list (w_arg rfl))));rw[Ai]at h5;refine Nat.le_of_not_lt λq=>?_
  have q':(n:Int)<((ns.length:Nat):Int):=by lia
  first
   | (rw[decide_eq_true q']at h5;exact absurd h5 (by decide))
   | (simp at h5;lia)
 cases hwl with
 |cons w1 w2 =>
  cases w2
  cases w1 with
  |list ho hall=>exact⟨_,_,ns,rfl,rfl,ho,zeC ns _ hall,hlen⟩
theorem zkE(l:OpenLaw)(args:List WData):l.row.toRowW.claim.post args (.bool true) args=true :=
 postW_of (r:=l.row.toRowW) (X:=(true == true))
  (show WShape.has [] (.bool true) .bool=true by first |rfl |decide |simp[WShape.has,WShape.arms,WShape.armsAll])
  (show (WTm.eq .res (.lit (.bool true))).value [] { args:=args,res:=some (.bool true),after:=args }=some (.bool (true == true)) from w_eq_bool (w_res rfl) w_lit) rfl
theorem attach_call{l:OpenLaw}{n:Nat}{q:AJ}{loose:List Str}{XP:(Str -> Option Ad) -> Heap -> Prop}{YP:A1 -> Heap -> Prop}{d:DefRec}
  (hn:l.most=some n) (hdf:d.params.defaults=[])
  (call:∀(w:A1) (s₀ s₁:Ae) (mg mb:Str->Option Ad) (fa:Addr) (o:Obj) (pm cd doc:Ad) (a:Addr) (vs:List Ad) (ns:List Int),
   Ground q loose [] XP w s₀ mg mb s₁.heap->YP w s₁.heap ->
   s₁.heap.get? fa=some o->o.data=.func (docDef d.name d.params d.body d.scope pm cd doc)->s₁.heap.CodeRec cd d.name->mg d.name=some (.ref fa) ->
   s₁.heap.get? a=some { cls:=.type "list",data:=.seq vs.toArray }->Ck vs ns->ns.length<=n->s₁.gens=#[] ->
   B9 (Ax l.prog w) callerA (.call (.ref fa) ⟨[.ref a],[]⟩) (λr s'=>r=.ok (.ret (.bool true))/\OldK s₁.heap s'.heap/\s'.os=s₁.os/\AllBare s'.gens) s₁) :
  WalkO q loose XP YP l.row.toRowW d [] (λf vs=>PySem.call f vs):=by
 intro w s₀ s₁ mg mb G Y fa o pm cd doc dV kV ho hd hcd hD hmg hg args vals as hpre hlay hrd hwl hlo;obtain rfl:dV=.none:=Dflts.none hD hdf;obtain rfl:kV=.none:=Dflts.noKw hD;obtain⟨a,vs,ns,rfl,rfl,hobj,hints,hlen⟩:=zkn hn hpre hwl;refine enter_call (codeAny_mono (call w s₀ s₁ mg mb fa o pm cd doc a vs ns G Y ho (fd_plain hd) hcd hmg hobj hints hlen hg) λr s' hq=>?_);obtain⟨rfl,h2,h3,h4⟩:=hq;exact⟨.inl ⟨.bool true,.bool true,[],rfl,λ_=>rfl,.bool true,zkE l _,λ_=>⟨List.Pairwise.nil,λ_ hm=>(nomatch hm)⟩⟩,h2,h3,h4⟩
section
variable {prog:AJ}{w:A1}{A:AT}{E:Ad->Ae->Prop}{s:Ae}{K:Frag}
noncomputable def zoi(h:Heap)(L d:Addr):List (Addr×Obj):=(Ba h.objs.size).filterMap λa=>if a=L∨a=d then none else (h.get? a).map λo=>(a,o)
end
end Att
namespace L2
open PySem PySem.Spec PyProof.Rows
theorem zgF:∀{vs:List Ad}{ns:List Int},Ck vs ns->Vals (ns.map V.int) vs
 |_,_,.nil=>.nil
 |_,_,.cons n t h=>.cons ⟨t,rfl⟩ (zgF h)
noncomputable def Only(H:Hp):Prop:=∀b,H b=none∨∃o xs,H b=some (.frz o (.lst xs))
theorem zl0{P:AJ}{w:A1}{K:W.Frag}{mg mb:Str -> Option Ad}{CX:CXT}{k:Nat}{fa a:Addr}{fd:Bo}{x:Str}{sp:Sp}{s₁ : Ae}{vs:List Ad}{ns:List Int}
    (KX:K.In s₁.heap) (hns:s₁.heap.Ns AE mg) (hb:s₁.heap.Ns builtinsNs mb) (hbb:∀x:Str,x ≠ "__name__" -> mb x=bootBuiltins x) (hlim:s₁.heap.NoLimit) (hg:s₁.gens=#[])
    (ha:s₁.heap.get? a=some { cls:=.type "list",data:=.seq vs.toArray }) (hi:Ck vs ns) (hl:ns.length<=sizeLine) (hr:Room k callerA)
    (F:∀base:Heap,K.In base->base.Ns AE mg->FnOk P w K mg base CX k fa fd [x] sp) (hbind:∀(s:Ae) (u:Ad),BindsTo s fd ⟨[u],[]⟩ [(x,u)])
    (hsp:∀H:Hp,Only H->SqL K H a (ns.map V.int)->sp [.ref a] H (λv _=>v=.bl true) λ_ _ _=>False)
    (hCX:∀H e s',CX [] H s₁ (λ_ _ _=>False) e s'->False) :
    B9 (Ax P w) callerA (.call (.ref fa) ⟨[.ref a],[]⟩) (λr s'=>r=.ok (.ret (.bool true))/\OldK s₁.heap s'.heap/\s'.os=s₁.os/\AllBare s'.gens) s₁:=by
  have rv:=zgF hi;have lenV:=hi.length
  have core:∀H:Hp, Only H -> SqL K H a (ns.map V.int) -> HOk P w H s₁.heap -> (∀b, H b ≠ none -> b=a) -> (H a ≠ none -> K.lookup a=none) ->
      B9 (Ax P w) callerA (.call (.ref fa) ⟨[.ref a],[]⟩) (λr s'=>r=.ok (.ret (.bool true))/\OldK s₁.heap s'.heap/\s'.os=s₁.os/\AllBare s'.gens) s₁:=by
    intro H hO hS hok hA hK;have base_of:∀{b:Addr} {o:Obj},s₁.heap.get? b=some o->H b=none->(hidT s₁.heap H).get? b=some o:=λe n=>zl2 e n
    have noA:∀{b:Addr} {o:Obj} {es:Array DictEntry} {ep:Nat},s₁.heap.get? b=some o->o.data=.dict es ep->H b=none:=λ{b o es ep} e d=>by
      cases q:H b with
      |none=>rfl
      |some u =>
        have e':b=a:=hA b (by rw[q];simp);subst e';rw[ha]at e;cases e;have d':Data.seq vs.toArray _=Data.dict es ep:=d
        cases d'
    have nsK:∀{b:Addr} {m:Str->Option Ad},s₁.heap.Ns b m->(hidT s₁.heap H).Ns b m:=λ{b m} ⟨o,es,ep,e,d,r⟩=>⟨o,es,ep,base_of e (noA e d),d,r⟩
    have hKb:K.In (hidT s₁.heap H):=λb o e=>base_of (KX b o e) (by
      cases q:H b with
      |none=>rfl
      |some u =>
        have e':b=a:=hA b (by rw[q];simp);subst e';rw[hK (by rw[q];simp)]at e;cases e)
    have hM:Mod K mg (hidT s₁.heap H):=⟨hKb,nsK hns,⟨mb,nsK hb,hbb⟩,let ⟨mc,h1,h2⟩:=hlim;⟨mc,nsK h1,h2⟩⟩;have e0:Env0 P w K mg (hidT s₁.heap H) callerA [] s₁ H:=⟨rfl,hM,λb o e=>zm8 e,Nat.le_of_eq (zle _ _),trivial,λb hb=>absurd (show b∈([]:List Addr) from hb) (by simp),hok,.of_eq hg⟩;refine codeAny_mono ((F _ hKb (nsK hns)).run callerA [] s₁ H ⟨[.ref a],[]⟩ [.ref a] [.ref a] _ _ hr e0 (hbind s₁ (.ref a)) (.cons rfl .nil) (hsp H hO hS)) λr s' h=>?_
    cases r with
    |error e=>exact (hCX H e s' h).elim
    |ok fl =>
      cases fl with
      |next=>exact Bt h
      |brk=>exact Bt h
      |cont=>exact Bt h
      |ret u =>
        obtain⟨v,H',os,bare,un,hok',r',q⟩:=h;have q':v=.bl true:=q;subst q';obtain rfl:u=Value.bool true:=r';refine⟨rfl,OldK.of_keep λb o e=>?_,os,bare⟩
        cases q:H b with
        |none=>exact un.keep b o e q (by intro z;exact absurd (show b∈([]:List Addr) from z) (by simp)) (by simp)
        |some u =>
          rcases hO b with z |⟨ob,xs,z⟩
          . rw[q]at z;cases z
          . have z2:=un.frzs b ob _ z;obtain⟨e1,_⟩:=hok b _ z;obtain⟨e2,_⟩:=hok' b _ z2;rw[e]at e1;cases e1;exact e2
  cases hk:K.lookup a with
  |some o =>
    have e:=KX a o hk;rw[ha]at e
    cases e
    refine core (λ_=>none) (λ_=>.inl rfl) (.inr ⟨_,vs.toArray,_,hk,rfl,rfl,rfl,by rw[Ao,lenV];exact hl,by simpa using rv⟩) (λb u z=>by have z':(none:Option HO)=some u:=z;cases z') (λb z=>absurd rfl z) λz=>absurd rfl z
  |none =>
    refine core (λb=>if b=a then some (.frz { cls:=.type "list",data:=.seq vs.toArray } (.lst (ns.map V.int))) else none) (λb=>?_) (.inl (.inr ⟨{ cls:=.type "list",data:=.seq vs.toArray },if_pos rfl⟩)) (λb u z=>?_) (λb z=>?_) λ_=>hk
    . by_cases hb:b=a
      . exact .inr ⟨_,_,if_pos hb⟩
      . exact .inl (if_neg hb)
    . by_cases hb:b=a
      . have z':=(if_pos hb).symm.trans z
        cases z'
        subst hb;exact⟨ha,by rw[Ai];exact hl,vs,_,rv,ha⟩
      . have z':=(if_neg hb).symm.trans z
        cases z'
    . by_cases hb:b=a
      . exact hb
      . exact absurd (if_neg hb) z
noncomputable abbrev KOf{K:W.Frag}{h:Heap}(_:K.In h):W.Frag:=K
theorem walk_of{l:W.OpenLaw}{n k:Nat}{q:AJ}{loose:List Str}{XP:(Str -> Option Ad) -> Heap -> Prop}{YP:A1 -> Heap -> Prop}{d:DefRec}{K:Params -> W.Frag}{CX:A1 -> CXT}{sp:A1 -> Sp}{x:Str}
  (hn:l.most=some n) (hn2:n<=sizeLine) (hdf:d.params.defaults=[]) (hr:Room k callerA)
  (hY:∀(w:A1) (h:Heap),YP w h->(K w.params).In h)
  (F:∀(w:A1) (mg:Str->Option Ad) (fa:Addr) (h:Heap),(K w.params).In h->h.Ns AE mg->mg d.name=some (.ref fa) ->
   ∃fd:Bo,(∀(s:Ae) (u:Ad),BindsTo s fd ⟨[u],[]⟩ [(x,u)]) /\
    ∀base:Heap,(K w.params).In base->base.Ns AE mg->FnOk l.prog w (K w.params) mg base (CX w) k fa fd [x] (sp w))
  (hsp:∀(w:A1) (H:Hp) (a:Addr) (ns:List Int),ns.length<=n->Only H->SqL (K w.params) H a (ns.map V.int)->sp w [.ref a] H (λv _=>v=.bl true) λ_ _ _=>False)
  (hCX:∀(w:A1) (H:Hp) (s:Ae) (e:Ad) (s':Ae),CX w [] H s (λ_ _ _=>False) e s'->False) :
  W.WalkO q loose XP YP l.row.toRowW d [] (λf vs=>PySem.call f vs):=by
 refine Att.attach_call hn hdf λw s₀ s₁ mg mb fa o pm cd doc a vs ns G Y ho hd hcd hmg hobj hints hlen hg=>?_
 have KX:=hY w _ Y;obtain⟨fd,hb,hF⟩:=F w mg fa _ KX G.T.g hmg;exact zl0 KX G.T.g G.T.b G.T.builtins G.T.nolimit hg hobj hints (Bb hlen hn2) hr hF hb (λH hO hS=>hsp w H a ns hlen hO hS) λH e s'=>hCX w H s₁ e s'
end L2
/- THE LAST THEOREM (shape; LID, My.* are yours):
  My.Adr: a structure of the addresses that your layer names (classes,functions);My.Txt K t: a structure (Prop) of the equations over K;
  My.txt_mk:{K} {implicit addresses ..} (e1:nsIn K AE "law" = some (some (.ref f))) (e2:K.lookup f=some ⟨oc,od,.func (fnOf "law" "law" params body scope dV kV doc pm an cdv ct),sl⟩) (e3:codeIn K cdv "law" = true) ..:∃t,My.Txt K t
set_option maxRecDepth 100000 in
set_option maxHeartbeats 0 in
theorem PySem.Challenge.cw_LID_holds : PySem.Challenge.rw_LID.Holds := by
 w_on;o_law;k_head;(case hw=>w_witness2)
 k_fill
 refine L2.walk_of (l:=PySem.Challenge.rw_LID) (n:=63) (k:=40) (x:="script") (CX:=λw=>..) (sp:=λ_=>My.sp_law) rfl (by decide) rfl ⟨rfl,by decide,by decide⟩ (λw h Y=>W.kIn_of Y) ?F ?S ?C
 case F =>
  intro w mg fa h KX G hmg
  have T:∃ t,My.Txt (L2.KOf KX) t:=by
   dsimp only[L2.KOf]                          -- K must stand as «<heap const> w.params» for k_is
   refine' My.txt_mk ?e1 ?e2 ?e3 ..
   (case e1=>W.k_is)                    -- in the order: a name -> its address -> its object -> its parts
   (case e2=>W.k_is)
   ..
  obtain⟨t,T⟩:=T
  have e0:=hmg.symm.trans (Dr KX G T.law)
  cases e0                                       -- fa is the law's own address
  exact⟨_,λs u=>.of_eq rfl,λbase kb nb=>My.law_fn T kb nb⟩     -- if «.of_eq rfl» comes too early: refine' ⟨_,?b,λbase kb nb=>My.law_fn T kb nb⟩;exact λs u=>.of_eq rfl
 case S=>exact λw H a ns hl hO hS=>..
 case C=>exact ..
(the tactic k_is has no namespace: write k_is) -/
namespace L2
open PySem PySem.Spec PyProof.Rows
noncomputable def zaS(s:Stmt):Arguments:=match s with
 |.FunctionDef _ a _ _ _ _ _ _ _ _=>a
 |_=>{ posonlyargs:=[],args:=[],vararg:=none,kwonlyargs:=[],kw_defaults:=[],kwarg:=none,defaults:=[] }
noncomputable def zaz(s:Stmt):List Stmt:=match s with
 |.FunctionDef _ _ b _ _ _ _ _ _ _=>b
 |_=>[]
noncomputable def zad(s:Stmt):Scope:=match s with
 |.FunctionDef _ _ _ _ _ _ sc _ _ _=>sc
 |_=>{ kind:=.function,names:=[],isGenerator:=false,isCoroutine:=false }
noncomputable abbrev CX0:CXT:=λ_ _ _ _ _ _=>False
noncomputable abbrev E0:XK:=λ_ _ _=>False
theorem pass0{X:Cx}:zjl CX0 X E0:=λ_ _ _ _ _ _ _ h=>h.elim
structure Fun (K:W.Frag) (x qual:Str) (st:Stmt) (f:Addr) (fd:Bo):Prop where
 ex:∃(oc:Ad) (od:Option Addr) (kV doc pm:Ad) (an:Option Addr) (cdv ct:Ad) (osl:Array (Option Ad)),
  fd=CC x qual (zaS st) (zaz st) (zad st) .none kV doc pm an cdv ct/\K.lookup f=some ⟨oc,od,.func fd,osl⟩/\W.codeIn K cdv qual=true
 kp:W.keepIn K (.ref f)=true
section
variable {P:AJ}{w:A1}{K:W.Frag}{mg:Str->Option Ad}{base:Heap}
theorem Fun.ok{x qual:Str}{st:Stmt}{f:Addr}{fd:Bo}{N ps:List Str}{k:Nat}{sp:Sp}(F:Fun K x qual st f fd)(S:FnScope N ps (zad st))(len:∀vs H Q E, sp vs H Q E -> vs.length=ps.length)
  (hbody:∀(cdv:Ad) (A:AT) (outer:List Env) (s:Ae) (H:Hp) (vs:List V) (Q:VK) (E:XK),Room k (A.deeper (envOfC qual (zad st) s.heap.objs.size f cdv))->sp vs H Q E ->
   ∃t,PSs (cxOf CX0 P w K mg base N qual (zad st) f cdv A outer s H E).nox (zaz st) t/\t { nx:=λ_ H'=>Q .non H',rt:=Q } (start N vs) H):FnOk P w K mg base CX0 (k+1) f fd ps sp:=by
 obtain⟨oc,od,kV,doc,pm,an,cdv,ct,osl,rfl,lk,hcd⟩:=F.ex;refine fn_of lk hcd S len λA outer s H vs Q E hr hsp=>?_
 obtain⟨t,h,q⟩:=hbody cdv A outer s H vs Q E hr hsp;exact⟨t,h.nox,q⟩
theorem Fun.binds{x qual:Str}{st:Stmt}{f:Addr}{fd:Bo}{ps:List Str}(F:Fun K x qual st f fd)
  (h:∀(kV doc pm:Ad) (an:Option Addr) (cdv ct:Ad) (us:List Ad),us.length=ps.length->CK (CC x qual (zaS st) (zaz st) (zad st) .none kV doc pm an cdv ct) ⟨us,[]⟩=pure (ps.zip us)):Binds K fd ps []:=by
 obtain⟨oc,od,kV,doc,pm,an,cdv,ct,osl,rfl,lk,hcd⟩:=F.ex;exact .all (h kV doc pm an cdv ct)
theorem zcb{x qual:Str}{st:Stmt}{f:Addr}{oc:Ad}{od an:Option Addr}{osl:Array (Option Ad)}{kV doc pm cdv ct:Ad}(l:K.lookup f=some ⟨oc, od, .func (CC x qual (zaS st) (zaz st) (zad st) .none kV doc pm an cdv ct), osl⟩)
  (c:W.codeIn K cdv qual=true) (k:W.keepIn K (.ref f)=true):Fun K x qual st f (CC x qual (zaS st) (zaz st) (zad st) .none kV doc pm an cdv ct):=⟨⟨oc,od,kV,doc,pm,an,cdv,ct,osl,rfl,l,c⟩,k⟩
end
theorem hu_of{A:AT}{k:Nat}(hr:Room k A):A.units+1<cLine:=Nat.lt_of_le_of_lt (Nat.add_le_add_left (by decide:1<=64) _) hr.units
theorem zal{n:Nat}(h:n<=1000):n<sizeLine:=Nat.lt_of_le_of_lt h (by decide)
section
variable {X:Cx}
theorem pv (i:Nat){x:Str}{pos:Pos}(hN:X.N[i]? = some x := by rfl) (hv:Vis X.env.scope x := by first |exact Or.inl rfl |exact Or.inr (Or.inl rfl) |exact Or.inr (Or.inr rfl)) (hd:(x == ("__debug__" : Str))=false := by decide)
  (hcd:(x == ("__classdict__" : Str))=false:=by decide):PE X (.Name x pos) (tVar i):=znM hN hv hd hcd
end
theorem iteF{A B:Prop}(h:B):if false=true then A else B:=by rw[if_neg AK];exact h
theorem iteT{A B:Prop}(h:A):if true=true then A else B:=by rw[if_pos rfl];exact h
theorem ite2{c A B:Prop} [Decidable c](h1:c->A)(h2:¬ c->B):if c then A else B:=by
 by_cases h:c
 .rw[if_pos h];exact h1 h
 .rw[if_neg h];exact h2 h
noncomputable def Same(H H':Hp):Prop:=∀b o,H b=some o->H' b=some o
theorem Same.refl(H:Hp):Same H H:=λ_ _ h=>h
theorem Same.trans{H H1 H2:Hp}(a:Same H H1)(b:Same H1 H2):Same H H2:=λc o h=>b c o (a c o h)
theorem Same.free{H H':Hp}(e:Same H H'){l:Addr}(h:H' l=Option.none):H l=Option.none:=by
 cases q:H l with
 |none=>rfl
 |some o =>
  rw[e l o q]at h
  cases h
theorem Same.seq{K:W.Frag}{H H':Hp}{a:Addr}{xs:List V}(e:Same H H')(h:SqL K H a xs):SqL K H' a xs:=by
 rcases h with (h |⟨o,h⟩) |h
 .exact .inl (.inl (e _ _ h))
 .exact .inl (.inr ⟨o,e _ _ h⟩)
 .exact .inr h
section
variable {κ:Type} [DecidableEq κ]
end
end L2
set_option maxHeartbeats 4000000
namespace L2
open PySem PySem.Spec PyProof.Rows
noncomputable def zbR(J:It)(g:TG)(tb:TS):TS:=λD σ H=>∃W:Nat->Nat->St->Hp->Prop,(∃m,W 0 m σ H)/\∀i m σ H,W i m σ H ->
 (J.stop i H/\D.nx σ H)∨(J.go i H/\∃N:St->Hp->Prop,(∀ σ' H',N σ' H'->∃m',m'<m/\W (i+1) m' σ' H')/\∀x H',J.yld i H x H'->g x σ H' λσ2 H2=>tb { D with nx:=N,ct:=N,bk:=D.nx } σ2 H2)
noncomputable def PTs(X:Cx)(ifs:List Expr)(t:TT):Prop :=
 ∀(pins:List (Addr×Obj)) (s:Ae) (σ:St) (H:Hp) (Q:Bool->Hp->Prop),Inv X pins σ H s->t σ H Q ->
  Ar (Ax X.prog X.w) X.A (forIn ifs true λc r=>if r=true then do let ok <- isTrue c X.env (eval c X.env);pure (Ds ok) else pure (Ds r)) (TP X pins σ Q) X.xe s
theorem zaU{X:Cx}:PTs X [] (λ_ H Q=>Q true H):=λpins s σ H Q I h=>Ah ⟨H,I,h⟩
theorem zdB{X:Cx}{c:Expr}{t:TT}(hc:PT X c t):PTs X [c] t:=λpins s σ H Q I h=>wpAny_tests_one (hc pins s σ H Q I h)
noncomputable def PB(X:Cx)(inner:Sem Unit)(t:TS):Prop :=
 ∀(pins:List (Addr×Obj)) (s:Ae) (σ:St) (H:Hp) (D:Ends),Inv X pins σ H s->t D σ H->Ar (Ax X.prog X.w) X.A inner (λ_ s'=>∃ σ' H',Inv X pins σ' H' s'/\D.nx σ' H') X.xe s
noncomputable def tIfs(tt:TT)(tb:TS):TS:=λD σ H=>tt σ H λb H1=>if b=true then tb D σ H1 else D.nx σ H1
theorem zdq{X:Cx}{e tg:Expr}{d:Nat}{ifs:List Expr}{p:Pos}{acc:Ad}{inner:Sem Unit}{g:TG}{tt:TT}{tb:TS}{it:Addr}{fp:List Addr}{tn:Nat -> Heap -> Prop}{J:It}
  {pins:List (Addr×Obj)} {s:Ae} {σ:St} {H:Hp} {D:Ends} {R:Result->Ae->Prop}
  (hq:(Code.compLoop e d (.ref it) acc X.env).quiet=true)
  (hden:(Ax X.prog X.w).den (.compLoop e d (.ref it) acc X.env)=(compTurn e d (.ref it) acc X.env).onRaise (λx=>do noteFrame x X.env;theTreesLotGoes x))
  (hT:compTurn e d (.ref it) acc X.env=(do
   standAt p
   match <- pyNext (.ref it) with
   |none=>pure (.done .next)
   |some v =>
    Dp tg (.ref it) v
    assign tg X.env v
    let mut ok:=true
    for c in ifs do
     if ok then ok <- isTrue c X.env (eval c X.env)
    if ok then
     inner
    again (.compLoop e d (.ref it) acc X.env)))
  (hA:∀(B:AT) {α:Type} {t:Sem α} {Q:α->Ae->Prop} {E:Ad->Ae->Prop} {s:Ae},B=X.A.under (.compLoop e d (.ref it) acc X.env)->Ar (Ax X.prog X.w) X.A t Q E s->Ar (Ax X.prog X.w) B t Q E s)
  (hc:X.calm=true) (hx:X.xe=λ_ _=>False) (hg:PG X tg g) (ht:PTs X ifs tt) (hb:PB X inner tb)
  (I:Inv X pins σ H s) (T:Turn X.prog X.w X.K tg J fp it tn) (st:tn 0 s.heap) (f:∀b∈fp,FpOk X pins H b) (W:zbR J g (tIfs tt tb) D σ H)
  (hR:∀fl s',(∃ σ' H',Inv X pins σ' H' s'/\(∀b∈fp,H' b=none)/\D.nx σ' H')->R (.ok fl) s') :
  B9 (Ax X.prog X.w) X.A (.compLoop e d (.ref it) acc X.env) R s:=by
 obtain⟨W,⟨m0,w0⟩,turn⟩:=W;have stat:∀{H':Hp},(∀b∈fp,H' b=none)->∀b∈fp,FpOk X pins H' b:=λhn b hb=>⟨hn b hb,(f b hb).2⟩
 refine codeAny_loop hq (λn s'=>∃i σ' H',Inv X pins σ' H' s'/\tn i s'.heap/\(∀b∈fp,H' b=none)/\W i n σ' H') ?_ m0 ⟨0,σ,H,I,st,λb hb=>(f b hb).1,w0⟩;rintro n s3 ⟨i,σ3,H3,I3,st3,fr3,w3⟩;refine hA _ rfl ?_
 rw[hden];refine wpAny_noted (wpAny_noRaise ?_);rw[hT];refine Ab (B7 ?_)
 have nx:∀{α:Type} {t:Sem α} {Q:α->Ae->Prop} {s:Ae},Ar (Ax X.prog X.w) X.A t Q X.xe s->Ar (Ax X.prog X.w) X.A t Q (λ_ _=>False) s:=λ{α t Q s} h=>by rw[hx]at h;exact h
 rcases turn i n σ3 H3 w3 with⟨stop,qn⟩ |⟨go,N,hN,step⟩
 .refine Ab (thn (T.done X rfl rfl rfl hc i pins s3 σ3 H3 _ I3 (stat fr3) st3 stop) λr s4 ⟨hr,I4⟩=>?_);subst hr;exact Ah (hR _ _ ⟨σ3,H3,I4,fr3,qn⟩)
 .refine Ab (thn (T.item X rfl rfl rfl hc i pins s3 σ3 H3 _ I3 (stat fr3) st3 go) λr s4 ⟨u,hr,h4⟩=>?_);subst hr;refine Ab (thn h4 λ_ s5 ⟨x,H5,I5,r5,y5,st5,fr5⟩=>?_);have I5':=I5.pinned (stat fr5) (T.obj _ _ st5)
  have again:∀{σ7:St} {H7:Hp} {s7:Ae},Inv X (pins++zdM fp s5.heap) σ7 H7 s7->N σ7 H7->∃m,m<n/\∃i σ' H',Inv X pins σ' H' s7/\tn i s7.heap/\(∀b∈fp,H' b=none)/\W i m σ' H':=λ{σ7 H7 s7} I7 n7=>by obtain⟨m',hm,w7⟩:=hN σ7 H7 n7;refine⟨m',hm,i+1,σ7,H7,I7.unpinned,T.keep _ _ _ st5 λb hb o e=>(I7.pin (b,o) (Au _ (Au _ (za1 hb e)))).1,λb hb=>?_,w7⟩;obtain⟨o,e,d⟩:=T.obj _ _ st5 b hb;exact (I7.pin (b,o) (Au _ (Au _ (za1 hb e)))).2.1
  refine Ab (thn (nx (hg _ s5 σ3 H5 x u _ I5' r5 (step x H5 y5))) λ_ s6 ⟨σ6,H6,I6,q6⟩=>?_);refine Ab (thn (nx (ht _ s6 σ6 H6 _ I6 q6)) λok s7 ⟨H7,I7,q7⟩=>?_)
  cases ok with
  |false =>
   exact Ah ⟨rfl,again I7 q7⟩
  |true =>
   refine Ab (thn (nx (hb _ s7 σ6 H7 _ I7 q7)) λ_ s8 ⟨σ8,H8,I8,q8⟩=>?_);exact Ah ⟨rfl,again I8 q8⟩
noncomputable abbrev blk(X:Cx)(sc:Scope)(cl:List (Str×Addr))(C:Addr)(N':List Str)(s0:Ae)(H0:Hp)(ex:List Addr):Cx :=
 { X with N:=N',s₀:=s0,H₀:=H0,env:=CM sc cl C X.env,outer:=X.stack,stack:=X.stack,ex:=ex,fn:=λ_=>false,pn:=[],xe:=λ_ _=>False }
structure BlkOk (osc:Scope) (N:List Str) (sc:Scope) (N':List Str) (sel:List (Option Nat)):Prop where
 kind:sc.kind=.function
 nocell:∀y∈sc.names,y.2≠.cell
 names:∀y∈sc.names,y.2=.local->sc.names.lookup y.1=some .local
 free:∀y∈sc.names,y.2=.free->osc.names.lookup y.1=some .cell∨osc.names.lookup y.1=some .free
 len:sel.length=N'.length
 sel:∀p∈sel.zip N',∀i∈p.1,N[i]?=some p.2/\sc.names.lookup p.2=some .free
noncomputable def selSt(sel:List (Option Nat))(σ:St):St:=sel.map λo=>o.bind λi=>(σ[i]?).join
theorem zc7{env:Env} : ∀(names:List (Str × NameKind)) (acc:List (Str × Addr)), (∀y ∈ names, y.2 = .free -> ∃c, env.cells.lookup y.1=some c) ->
  ∃cl,(forIn names acc λ(x:Str×NameKind) (r:List (Str×Addr))=>(if (x.2 == .free)=true then do let c <- cellOf env x.1;pure (Ds ((x.1,c)::r)) else pure (Ds r):Sem (ForInStep (List (Str×Addr)))))=pure cl /\
   (∀x c,cl.lookup x=some c->acc.lookup x=some c∨(env.cells.lookup x=some c/\(x,Bi)∈names))/\(∀y∈names,y.2=.free->∃c,cl.lookup y.1=some c)/\(∀x c,acc.lookup x=some c->∃c',cl.lookup x=some c')
 |[],acc,_=>⟨acc,rfl,λ_ _ h=>.inl h,(λ_ h=>nomatch h),λx c h=>⟨c,h⟩⟩
 | (n,k)::r,acc,h=>by
  by_cases hk:k=.free
  .subst hk;obtain⟨c,hc⟩:=h (n,.free) AC rfl;obtain⟨cl,e,h1,h2,h3⟩:=zc7 r ((n,c)::acc) λy hy=>h y (At _ hy)
   refine⟨cl,?_,λx c' hx=>?_,λy hy hf=>?_,λx c' hx=>?_⟩
   .rw[List.forIn_cons];have e1:cellOf env n=pure c:=by unfold cellOf;rw[hc]
    simp only[beq_self_eq_true,if_true,e1,pure_bind];exact e
   .rcases h1 x c' hx with q |⟨q,m⟩
    .by_cases hn:x=n
     .subst hn;rw[Bh,beq_self_eq_true]at q
      cases q
      exact .inr ⟨hc,AC⟩
     .have hb:(x == n)=false:=by simpa using hn
      rw[Bh,hb]at q;exact .inl q
    .exact .inr ⟨q,At _ m⟩
   .rcases Aw.mp hy with z |z
    .subst z;exact h3 n c (by rw[Bh,beq_self_eq_true])
    .exact h2 y z hf
   .by_cases hn:x=n
    .subst hn;exact h3 x c (by rw[Bh,beq_self_eq_true])
    .have hb:(x == n)=false:=by simpa using hn
     exact h3 x c' (by rw[Bh,hb];exact hx)
  .obtain⟨cl,e,h1,h2,h3⟩:=zc7 r acc λy hy=>h y (At _ hy)
   refine⟨cl,?_,λx c' hx=>?_,λy hy hf=>?_,h3⟩
   .rw[List.forIn_cons];have hb:(k == Bi)=false:=by simpa using hk
    simp only[hb,BN,if_false,pure_bind];exact e
   .rcases h1 x c' hx with q |⟨q,m⟩
    .exact .inl q
    .exact .inr ⟨q,At _ m⟩
   .rcases Aw.mp hy with z |z
    .subst z;exact absurd hf hk
    .exact h2 y z hf
structure Clo (env:Env) (sc:Scope) (cl:List (Str×Addr)):Prop where
 run:closureFor sc env=pure cl
 old:∀x c,cl.lookup x=some c->env.cells.lookup x=some c/\(x,Bi)∈sc.names
 has:∀y∈sc.names,y.2=.free->∃c,cl.lookup y.1=some c
theorem zjh{X:Cx}{osc:Scope}{N:List Str}{sc:Scope}{N':List Str}{sel:List (Option Nat)}(ok:X.Ok)(B:BlkOk osc N sc N' sel)(ho:X.env.scope=osc):∃cl,Clo X.env sc cl:=by
 have hc:∀y∈sc.names,y.2=.free->∃c,X.env.cells.lookup y.1=some c:=λy hy hf=>ok.has y.1 (by
  show X.env.scope.names.lookup y.1=_∨X.env.scope.names.lookup y.1=_;rw[ho];exact B.free y hy hf)
 obtain⟨cl,e,h1,h2,_⟩:=zc7 (env:=X.env) sc.names [] hc;refine⟨cl,?_,λx c h=>?_,h2⟩
 .unfold closureFor;have e':=e;show (do let r <- forIn sc.names [] _;pure r)=_;simp only[bind_pure];exact e'
 .rcases h1 x c h with q |q
  .cases q
  .exact q
theorem zb3{env:Env} : ∀{names:List (Str × NameKind)}{x:Str}{k:NameKind}, (names.map λ(n, k) => if (k == Bi && env.scope.kind == .function && env.kindOf n == some .cell) then (n, CU) else (n, k)).lookup x=some k ->
  ∃k',(x,k')∈names/\(k=k'∨(k=.cell/\k'=.free))
 |[],x,k,h=>nomatch h
 | (n,j)::r,x,k,h=>by
  have ih:=@zb3 env r x k;have h:List.lookup x ((if (j == Bi && env.scope.kind == .function && env.kindOf n == some .cell)=true then (n,CU) else (n,j))::_)=some k:=h
  by_cases hx:x=n
  .subst hx
   by_cases hc:(j == Bi && env.scope.kind == .function && env.kindOf x == some .cell)=true
   .rw[if_pos hc,Bh,beq_self_eq_true]at h
    cases h
    refine⟨j,AC,.inr ⟨rfl,?_⟩⟩;simp only[BQ,beq_iff_eq]at hc;exact hc.1.1
   .rw[if_neg hc,Bh,beq_self_eq_true]at h
    cases h
    exact⟨j,AC,.inl rfl⟩
  .have hb:(x == n)=false:=by simpa using hx
   have h':List.lookup x (r.map λ(n,k)=>if (k == Bi && env.scope.kind == .function && env.kindOf n == some .cell) then (n,CU) else (n,k))=some k:=by
    by_cases hc:(j == Bi && env.scope.kind == .function && env.kindOf n == some .cell)=true
    .rw[if_pos hc,Bh,hb]at h;exact h
    .rw[if_neg hc,Bh,hb]at h;exact h
   obtain⟨k',m,e⟩:=ih h';exact⟨k',At _ m,e⟩
theorem zbP{env:Env} : ∀{names:List (Str × NameKind)}{x:Str}, names.lookup x=some .free ->
  (names.map λ(n,k)=>if (k == Bi && env.scope.kind == .function && env.kindOf n == some .cell) then (n,CU) else (n,k)).lookup x=some .cell ∨
  (names.map λ(n,k)=>if (k == Bi && env.scope.kind == .function && env.kindOf n == some .cell) then (n,CU) else (n,k)).lookup x=some .free
 |[],x,h=>nomatch h
 | (n,j)::r,x,h=>by
  have ih:=@zbP env r x;rw[Bh]at h;show List.lookup x ((if (j == Bi && env.scope.kind == .function && env.kindOf n == some .cell)=true then (n,CU) else (n,j))::_)=_∨List.lookup x ((if (j == Bi && env.scope.kind == .function && env.kindOf n == some .cell)=true then (n,CU) else (n,j))::_)=_
  cases hx:x == n with
  |true =>
   rw[hx]at h
   cases h
   by_cases hc:(Bi == Bi && env.scope.kind == .function && env.kindOf n == some .cell)=true
   .rw[if_pos hc,Bh,hx];exact .inl rfl
   .rw[if_neg hc,Bh,hx];exact .inr rfl
  |false =>
   rw[hx]at h
   by_cases hc:(j == Bi && env.scope.kind == .function && env.kindOf n == some .cell)=true
   .rw[if_pos hc,Bh,hx];exact ih h
   .rw[if_neg hc,Bh,hx];exact ih h
section
variable {X:Cx}{osc:Scope}{N:List Str}{sc:Scope}{N':List Str}{sel:List (Option Nat)}{cl:List (Str×Addr)}{pins:List (Addr×Obj)}{σ:St}{H:Hp}{s:Ae}{fp:List Addr}
theorem zni{h':Heap}{ob:Obj}{tk:Nat}(B:BlkOk osc N sc N' sel)(ho:X.env.scope=osc)(hN:X.N=N)(Cl:Clo X.env sc cl)(I:Inv X pins σ H s)
    (f:∀b∈fp,FpOk X pins H b) (fo:∀b∈fp,∃o,s.heap.get? b=some o) (hns:h'.Ns s.heap.objs.size (λ_=>none)) (hsb:Cz s.heap.objs.size (s.heap.push ob) h') :
    Inv (blk X sc cl s.heap.objs.size N' s H fp) [] (selSt sel σ) H { s with heap:=h',toks:=tk }:=by
  have old:∀b o,s.heap.get? b=some o->h'.get? b=some o:=λb o e=>(hsb.2 b (AR (Ay e))).trans (Ag _ e)
  have bel:∀b∈fp,b<s.heap.objs.size:=λb hb=>by obtain⟨o,e⟩:=fo b hb;exact Ay e
  have kk:∀x,(CM sc cl s.heap.objs.size X.env).kindOf x=some .cell∨(CM sc cl s.heap.objs.size X.env).kindOf x=some .free->(x,Bi)∈sc.names:=λx hx=>by
    rcases hx with hx |hx
    . obtain⟨k',m,e⟩:=zb3 hx;rcases e with e |⟨_,e⟩
      . subst e;exact absurd rfl (B.nocell _ m)
      . subst e;exact m
    . obtain⟨k',m,e⟩:=zb3 hx;rcases e with e |⟨e,_⟩
      . subst e;exact m
      . cases e
  refine⟨⟨I.mod, B.kind, I.ok.glob, I.ok.blt, Aj _, λx y c e1 e2 => I.ok.inj x y c (Cl.old x c e1).1 (Cl.old y c e2).1, λx hx => Cl.has _ (kk x hx) rfl, λx c z => absurd z (by intro q; cases q), I.ok.hd, I.ok.frames, .inl rfl,
      λb hb=>⟨AR (bel b hb),λx c e=>(f b hb).2.2.2.2.1 x c (Cl.old x c e).1⟩,I.bs,Bb I.ok.bsz I.sz,λb o e hb=>?_,λb hb hs=>?_,I.stack,I.stkFree⟩,
    rfl,I.bare,Un.kept old,⟨_,hns,λj x v e1 e2 e3=>?_⟩,λx c e=>?_,I.hok.fresh (Aj _),λx c e=>I.freeC x c (Cl.old x c e).1,λp hp=>absurd (show p∈([]:List (Addr×Obj)) from hp) (by simp),I.hok.kept old,?_⟩
  . rcases (f b hb).2.2.2.1 with z |z
    . exact I.ok.noex b o e z
    . exact absurd (AS (Ay e) (Bb I.ok.bsz z)) (Cp _)
  . obtain⟨_,f1,f2,_⟩:=f b hb;rcases Aw.mp (I.stkSub b hs) with z |z
    . exact f1 z
    . exact f2 z
  . have e2':((sel[j]?).map λo => o.bind λi => (σ[i]?).join)=some (some v) := by have:=e2;unfold selSt at this;rw[Ak]at this;exact this
    cases hj:sel[j]? with
    |none=>rw[hj]at e2';cases e2'
    |some o =>
      rw[hj]at e2'
      cases o with
      |none=>cases e2'
      |some i =>
        have e4:(σ[i]?).join=some v:=AX e2'
        have e5:σ[i]?=some (some v):=by
          cases q:σ[i]? with
          |none=>rw[q]at e4;cases e4
          |some z=>rw[q]at e4;exact congrArg some e4
        have hz:(some i,x)∈sel.zip N':=by
          refine Af (i:=j) ?_
          rw[De];exact⟨hj,e1⟩
        obtain⟨g1,g2⟩:=B.sel _ hz i rfl;obtain⟨m,hn,hl⟩:=I.loc;have m2:(x,Bi)∈sc.names:=Cg g2
        have k2:X.env.kindOf x=some .cell∨X.env.kindOf x=some .free:=by show X.env.scope.names.lookup x=_∨X.env.scope.names.lookup x=_;rw[ho];exact B.free _ m2 rfl
        have v2:Vis X.env.scope x:=by
          rcases k2 with z |z
          . exact .inr (.inl z)
          . exact .inr (.inr z)
        obtain⟨u,r,l⟩:=hl i x v (by rw[hN];exact g1) e5 v2;refine⟨u,r,?_⟩;rcases l with⟨l,_⟩ |⟨_,c,e6,hc⟩
        . rcases k2 with z |z <;> (rw[l]at z;cases z)
        . obtain⟨c',hc'⟩:=Cl.has _ m2 rfl;have e7:=(Cl.old x c' hc').1;rw[e6]at e7
          cases e7
          exact .inr ⟨zbP g2,c,hc',hc.keeps old⟩
  . obtain⟨v,hc⟩:=I.cell x c (Cl.old x c e).1;exact⟨v,hc.keeps old⟩
  . show (selSt sel σ).length=N'.length;unfold selSt;rw[Ai,B.len]
theorem zno{C:Addr}{H':Hp}{σ':St}{s':Ae}(I:Inv X pins σ H s)(f:∀b∈fp,FpOk X pins H b)(I':Inv (blk X sc cl C N' s H fp) [] σ' H' s'):Inv X pins σ H' s' :=
 I.call' (ch:=fp) I'.os I'.base I'.hok I'.bare λb hb=>by obtain⟨_,f1,_,f3,f4,f5⟩:=f b hb;exact⟨f3,f1,f4,f5⟩
end
section
variable {X:Cx}
noncomputable def zb5(p:Addr)(te:TE):TS:=λD σ H=>te σ H λv H1=>∃xs,H1 p=some (.lst xs)/\xs.length<sizeLine/\D.nx σ (upd H1 p (.lst (xs++[v])))
theorem zkI {p:Addr}{elt:Expr}{te:TE}(he:PE X elt te):PB X (do let _ <- call (.builtin "list.append") [.ref p,<- eval elt X.env]) (zb5 p te):=by intro pins s σ H D I h;refine Ab (thn (he pins s σ H _ I h) λv s1 ⟨x,H1,I1,r1,xs,e1,hl,q⟩=>?_);refine Ab (thn (zbb pins s1 σ H1 (.ref p) [x] (.ref p) [v] (λz H2=>D.nx σ H2) I1 rfl (.cons r1 .nil) ⟨p,xs,x,rfl,rfl,e1,hl,q⟩) λu s2 ⟨z,H2,I2,_,q2⟩=>?_);exact Ah ⟨σ,H2,I2,q2⟩
noncomputable def ziv(p:Addr)(tk tv:TE):TS:=λD σ H=>tk σ H λy H1=>tv σ H1 λv H2=>∃H3,DPut H2 p y v H3/\D.nx σ H3
theorem d_set{pins:List (Addr × Obj)}{σ : St}{H H':Hp}{s:Ae}{a:Addr}{y v:V}{u r:Ad}{A:AT}{E:Ad -> Ae -> Prop}{Q:Unit -> Ae -> Prop}(hu:A.units + 1 < cLine)(I:Inv X pins σ H s)(g:DPut H a y v H')(ry:RelV y u)(rv:RelV v r)(h:∀s', Inv X pins σ H' s' -> Q () s') :
  Ar (Ax X.prog X.w) A (dictSet a u r) Q E s:=by
 rcases g with⟨kvs,k,e,ey,l,eH⟩ |⟨kvs,k,b,e,ey,eb,l,eH⟩
 .subst ey eH;obtain⟨z,hd,vs,rel,dd⟩:=dk_of I.hok e;have hz:vs.length<=sizeLine:=by rw[<- rel.length];exact z
  have hl:(putK kvs k v).length<=sizeLine:=by have:=za3 kvs k v;lia
  refine wpAny_dictSet_pairs (hsz:=hz) (kV_is ry) dd λh' dd' hs=>h _ ?_
  have he:∃q,h'.get? a=some q:=let ⟨q,_,_,hq,_⟩:=dd';⟨q,hq⟩
  exact zeJ I (by rw[e];exact Cc) hs he (zmJ hl hd (rel.put k rv) dd')
 .subst ey eH
  cases (show u=Av b from ry)
  obtain⟨z,hd,xs,rel,dd⟩:=dt_of I.hok e;have hz:xs.length<=sizeLine:=by rw[<- CB rel];exact z
  have hl:(putK kvs k v).length<=sizeLine:=by have:=za3 kvs k v;lia
  have hr:(DC (zaJ X.prog X.w)).room A:=by show A.units<cLine;lia
  refine wpAny_dictSet_heap (hsz:=hz) hr (zfw I.hok eb) dd λh' dd' hs=>h _ ?_
  obtain⟨q,es,ep,hq,h2,h3,h4,_,h5⟩:=dd';refine zeJ I (by rw[e];exact Cc) hs ⟨q,hq⟩ ⟨hl,hd,_,(rel.put k eb rv).keeps λc ys ec=>?_,q,es,ep,hq,h2,h3,h4,h5⟩;rw[zaj (ne_of ec e (λz=>nomatch z))];exact ec
theorem zm6{p:Addr}{kx vx:Expr}{tk tv:TE}(hu:X.A.units + 1 < cLine)(hk:PE X kx tk)(hv:PE X vx tv) :
    PB X (do
        let kv <- eval kx X.env
        let vv <- Do [kv] (eval vx X.env)
        match Av p with
        |.ref d=>do
          standAt { kx.pos with endLine:=vx.pos.endLine,endCol:=vx.pos.endCol }
          Do [kv,vv] (dictSet d kv vv)
        |_=>unsupported "internal:dictcomp") (ziv p tk tv):=by
  intro pins s σ H D I h;refine Ab (thn (hk pins s σ H _ I h) λkv s1 ⟨y,H1,I1,r1,q1⟩=>?_);refine Ab (A8 (thn (hv pins s1 σ H1 _ I1 q1) λvv s2 ⟨v,H2,I2,r2,H3,g,q⟩=>?_));refine Ab (B7 (A8 (d_set hu I2 g r1 r2 λs3 I3=>⟨σ,H3,I3,q⟩)))
end
section
variable {X:Cx}{osc:Scope}{N:List Str}{sc:Scope}{N':List Str}{sel:List (Option Nat)}{pos:Pos}{elt kx vx tg iter:Expr}{ifs:List Expr}{wi:TI}{g:TG}{tt:TT}{te tk tv:TE}
noncomputable def InBlk(X:Cx)(sc:Scope)(N':List Str)(P:Cx->Prop):Prop:=∀cl C s0 H0 ex,P (blk X sc cl C N' s0 H0 ex)
theorem zdr{e:Expr}{inner:Env -> Addr -> Sem Unit}{tb:Addr -> TS}{use:Option (Ad -> Sem Unit)}{pins:List (Addr × Obj)}{s:Ae}{σ : St}{H:Hp}{J:It}{it:Addr}{fp:List Addr}{tn:Nat -> Heap -> Prop}{o0:HO}{ob:Obj}
    {D:Addr->Ends} {Q:Ad->Ae->Prop}
    (B:BlkOk osc N sc N' sel) (ho:X.env.scope=osc) (hN:X.N=N) (hc:X.calm=true)
    (hstart:∀(acc:Ad) (env:Env) (R:Result->Ae->Prop) (s:Ae),B9 (Ax X.prog X.w) X.A (.compLoop e 0 (.ref it) acc env) R s->Ar (Ax X.prog X.w) X.A (pyIter (.ref it)) (λit' s'=>B9 (Ax X.prog X.w) X.A (.compLoop e 0 it' acc env) R s') (notedBy (Ax X.prog X.w) X.A env λx s'=>R (.error x) s') s->B9 (Ax X.prog X.w) X.A (.compStart e 0 (.ref it) acc env) R s)
    (hloop:∀cl C s0 H0 ex p pins s σ H Dn R,Inv (blk X sc cl C N' s0 H0 ex) pins σ H s->tn 0 s.heap->(∀b∈fp,FpOk (blk X sc cl C N' s0 H0 ex) pins H b)->zbR J g (tIfs tt (tb p)) Dn σ H ->
      (∀fl s',(∃ σ' H',Inv (blk X sc cl C N' s0 H0 ex) pins σ' H' s'/\(∀b∈fp,H' b=none)/\Dn.nx σ' H')->R (.ok fl) s')->B9 (Ax X.prog X.w) X.A (.compLoop e 0 (.ref it) (.ref p) (CM sc cl C X.env)) R s)
    (I:Inv X pins σ H s) (T:Turn X.prog X.w X.K tg J fp it tn) (st:tn 0 s.heap) (f:∀b∈fp,FpOk X pins H b)
    (hnew:ObjOk X.prog X.w (upd H s.heap.objs.size o0) (s.heap.push ob) s.heap.objs.size o0) (hfree:ob.isFreed=false)
    (h:zbR J g (tIfs tt (tb s.heap.objs.size)) (D s.heap.objs.size) (selSt sel σ) (upd H s.heap.objs.size o0))
    (hend:∀C H' s',Inv X pins σ H' s'->FpOk X pins H' C->(∃m,s'.heap.Ns C m)->(∃ σ',(D s.heap.objs.size).nx σ' H')->compPost (Ax X.prog X.w) X.A X.xe use Q (.ref s.heap.objs.size) C (.ok .next) s') (tk:Nat)
    (cl:List (Str×Addr)) (Cl:Clo X.env sc cl) (E:Ad->Ae->Prop) :
    Ar (Ax X.prog X.w) X.A (newFunctionEnv sc X.env.globals cl [] X.env.qual none .none (some X.env)) (λcenv s₄ =>
        B9 (Ax X.prog X.w) X.A (.compStart e 0 (.ref it) (.ref s.heap.objs.size) { cenv with scope:=relabel sc X.env }) (compPost (Ax X.prog X.w) X.A X.xe use Q (.ref s.heap.objs.size) cenv.locals) s₄) E { s with heap:=s.heap.push ob,toks:=tk }:=by
  have grow:∀b o,s.heap.get? b=some o->(s.heap.push ob).get? b=some o:=λ_ _ q=>Ag _ q
  have I1:Inv X pins σ (upd H s.heap.objs.size o0) { s with heap:=s.heap.push ob,toks:=tk }:=I.laid grow (Aj _) hnew;have bel:∀b∈fp,∃o,s.heap.get? b=some o:=λb hb=>let ⟨o,e,_⟩:=T.obj _ _ st b hb;⟨o,e⟩
  have f1:∀b∈fp,FpOk X pins (upd H s.heap.objs.size o0) b:=λb hb=>by obtain⟨o,e⟩:=bel b hb;refine⟨?_,(f b hb).2⟩;rw[zaj (AR (Ay e))];exact (f b hb).1
  refine wpAny_newFunctionEnv (s:={ s with heap:=s.heap.push ob,toks:=tk }) B.nocell (by intro x hx;cases hx) (λh1 hns hsb=>?_) B.kind;have I2:=zni (tk:=tk) B ho hN Cl I1 f1 (λb hb=>let ⟨o,e⟩:=bel b hb;⟨o,grow b o e⟩) hns hsb;have old:∀b o,s.heap.get? b=some o->h1.get? b=some o:=λb o e=>(hsb.2 b (AR (Ay (grow b o e)))).trans (Ag _ (grow b o e))
  have st1:tn 0 h1:=T.keep _ _ _ st λb _ o e=>old b o e
  have f2:∀b∈fp,FpOk (blk X sc cl (s.heap.push ob).objs.size N' { s with heap:=s.heap.push ob,toks:=tk } (upd H s.heap.objs.size o0) fp) [] (upd H s.heap.objs.size o0) b:=λb hb=>by
    obtain⟨g0,g1,g2,g3,g4,g5⟩:=f1 b hb;obtain⟨o,e⟩:=bel b hb;refine⟨g0,AR (Ay (grow b o e)),λz=>?_,.inl hb,λx c e=>g4 x c (Cl.old x c e).1,λp hp=>absurd (show p∈([]:List (Addr×Obj)) from hp) (by simp)⟩;rcases Aw.mp (I1.stkSub b z) with q |q
    . exact g1 q
    . exact g2 q
  have loop:=hloop cl _ _ _ _ s.heap.objs.size [] _ _ _ (D s.heap.objs.size) (compPost (Ax X.prog X.w) X.A X.xe use Q (.ref s.heap.objs.size) (s.heap.push ob).objs.size) I2 st1 f2 h λfl s' ⟨σ',H',I',fr',q'⟩=>by
    have I3:=zno I1 f1 I';have hC:FpOk X pins H' (s.heap.push ob).objs.size:=I1.fpOk (Aj _) I'.free;obtain⟨m,hn,_⟩:=I'.loc;have:=hend _ H' s' I3 hC ⟨m,hn⟩ ⟨σ',q'⟩
    cases use <;> exact this
  exact hstart _ _ _ _ loop (T.self _ 0 _ _ _ st1 loop)
end
section
variable {X:Cx}{osc:Scope}{N:List Str}{sc:Scope}{N':List Str}{sel:List (Option Nat)}{pos:Pos}{elt kx vx tg iter:Expr}{ifs:List Expr}{wi:TI}{g:TG}{tt:TT}{te tk tv:TE}
theorem zfz{it:Addr}{fp:List Addr}{tn:Nat -> Heap -> Prop}{J:It}(T:Turn X.prog X.w X.K tg J fp it tn)(hc:X.calm=true)(hg:InBlk X sc N' λY => PG Y tg g)(ht:InBlk X sc N' λY => PTs Y ifs tt)(he:InBlk X sc N' λY => PE Y elt te) :
  ∀cl C s0 H0 ex p pins s σ H Dn R,Inv (blk X sc cl C N' s0 H0 ex) pins σ H s->tn 0 s.heap->(∀b∈fp,FpOk (blk X sc cl C N' s0 H0 ex) pins H b)->zbR J g (tIfs tt (zb5 p te)) Dn σ H ->
   (∀fl s',(∃ σ' H',Inv (blk X sc cl C N' s0 H0 ex) pins σ' H' s'/\(∀b∈fp,H' b=none)/\Dn.nx σ' H')->R (.ok fl) s')->B9 (Ax X.prog X.w) X.A (.compLoop (.ListComp elt [⟨tg,iter,ifs,0⟩] sc pos) 0 (.ref it) (.ref p) (CM sc cl C X.env)) R s :=
 λcl C s0 H0 ex p pins s σ H Dn R I st f W hR =>
  zdq (X:=blk X sc cl C N' s0 H0 ex) (p:=iter.pos) (inner:=do let _ <- call (.builtin "list.append") [.ref p,<- eval elt (CM sc cl C X.env)]) rfl rfl rfl (λB {α t Q E s} h w=>by subst h;exact w) hc rfl (hg _ _ _ _ _) (ht _ _ _ _ _) (zkI (he _ _ _ _ _)) I T st f W hR
noncomputable def zgL(wi:TI)(sel:List (Option Nat))(g:TG)(tt:TT)(te:TE):TE:=λσ H Q=>wi σ H λJ H1=>∀p,H1 p=none ->
 zbR J g (tIfs tt (zb5 p te)) { nx:=λ_ H'=>Q (.ref p) H',rt:=λ_ _=>False } (selSt sel σ) (upd H1 p (.lst []))
theorem Inv.let_go{pins:List (Addr×Obj)}{σ:St}{H:Hp}{s:Ae}{C:Addr}{h':Heap}(I:Inv X pins σ H s)(f:FpOk X pins H C)(hs:Cz C s.heap h'):Inv X pins σ H { s with heap:=h' }:=by obtain⟨f0,f1,_,f3,f4,f5⟩:=f;exact I.turned (t':=s.toks) (λb o hb e=>(hs.2 b hb).trans e) f0 f1 f3 f4 f5
theorem zib {P:AJ}{w:A1}{H:Hp}{h:Heap}:ObjOk P w (upd H h.objs.size (.lst [])) (h.push { cls:=.type "list",dict:=none,data:=.seq ([]:List Ad).toArray }) h.objs.size (.lst []) :=
 ⟨A5 _,[],_,.nil,Az _ rfl⟩
theorem zaN(B:BlkOk osc N sc N' sel)(hi:PI X tg iter wi)(hg:InBlk X sc N' λY => PG Y tg g)(ht:InBlk X sc N' λY => PTs Y ifs tt)(he:InBlk X sc N' λY => PE Y elt te)
  (ho:X.env.scope=osc:=by rfl) (hN:X.N=N:=by rfl) (hc:X.calm=true:=by rfl) (hs:∀x,Bm iter X.env x=pure x:=by intro _;rfl) :
  PE X (.ListComp elt [⟨tg,iter,ifs,0⟩] sc pos) (zgL wi sel g tt te):=by
 intro pins s σ H Q I h;obtain⟨cl,Cl⟩:=zjh I.ok B ho;rw[eval_ListComp];refine CH (use:=none) rfl hs Cl.run B.kind B.names (thn (hi pins s σ H _ I h) λv s1 h1=>thn h1 λitv s2 h2=>?_);obtain⟨it,fp,tn,J,H2,e,I2,T,st2,f2,h2⟩:=h2;subst e
 refine A6 (zdr (e:=.ListComp elt [⟨tg,iter,ifs,0⟩] sc pos) (inner:=λ_ _=>pure ()) (D:=λp=>{ nx:=λ_ H'=>Q (.ref p) H',rt:=λ_ _=>False }) (tb:=λp=>zb5 p te) (use:=none) B ho hN hc (λacc env R s a b=>codeAny_compStart_list a b)
  (zfz (iter:=iter) (pos:=pos) T hc hg ht he) I2 T st2 f2 zib rfl (h2 _ (I2.hok.fresh (Aj _))) (λC H' s' I3 fC hn hq=>?_) s2.toks cl Cl X.xe)
 obtain⟨m,hn⟩:=hn;obtain⟨_,hq⟩:=hq;exact⟨m,hn,λh' hs'=>⟨.ref s2.heap.objs.size,H',I3.let_go fC hs',rfl,hq⟩⟩
noncomputable def znF(wi:TI)(sel:List (Option Nat))(g:TG)(tt:TT)(te:TE)(i:Nat):TS:=λD σ H=>wi σ H λJ H1=>∀p,H1 p=none ->
 zbR J g (tIfs tt (zb5 p te)) { nx:=λ_ H'=>D.nx (σ.set i (some (.ref p))) H',rt:=λ_ _=>False } (selSt sel σ) (upd H1 p (.lst []))
theorem zdl{i:Nat}{x:Str}{px spos:Pos}(B:BlkOk osc N sc N' sel)(hnd:X.N.Nodup)(hi':X.N[i]? = some x)(hx:Loc X.env.scope x)(hi:PI X tg iter wi)(hg:InBlk X sc N' λY => PG Y tg g)(ht:InBlk X sc N' λY => PTs Y ifs tt)(he:InBlk X sc N' λY => PE Y elt te)
  (hsw:swapsWith (.ListComp elt [⟨tg,iter,ifs,0⟩] sc pos) (some (.Name x px)) spos.line X.env=pure true:=by rfl)
  (ho:X.env.scope=osc:=by rfl) (hN:X.N=N:=by rfl) (hc:X.calm=true:=by rfl) (hs:∀x,Bm iter X.env x=pure x:=by intro _;rfl)
  (hf:X.fn x=true∨X.env.scope.names.lookup x=some .local:=by first |exact .inl rfl |exact .inr rfl |assumption) :
  PS X (.Assign [.Name x px] (.ListComp elt [⟨tg,iter,ifs,0⟩] sc pos) spos) (znF wi sel g tt te i):=by
 intro pins s σ H D I h;obtain⟨cl,Cl⟩:=zjh I.ok B ho;rw[exec_Assign_Name_used _ _ _ _ hsw];refine Ab (B7 (Ab ?_));show Ar _ X.A (do let _ <- comprehension (.ListComp elt [⟨tg,iter,ifs,0⟩] sc pos) sc X.env _ (newList []) false (eval iter X.env) (some (assign (.Name x px) X.env))) _ _ s;refine Ab (thn (CH (use:=some (assign (.Name x px) X.env)) (Q:=λ_ s'=>SP X pins D .next s') rfl hs Cl.run B.kind B.names (thn (hi pins s σ H _ I h) λv s1 h1=>thn h1 λitv s2 h2=>?_)) λ_ s' hq=>Ah (Ah hq));obtain⟨it,fp,tn,J,H2,e,I2,T,st2,f2,h2⟩:=h2;subst e
 refine A6 (zdr (e:=.ListComp elt [⟨tg,iter,ifs,0⟩] sc pos) (inner:=λ_ _=>pure ()) (D:=λp=>{ nx:=λ_ H'=>D.nx (σ.set i (some (.ref p))) H',rt:=λ_ _=>False }) (tb:=λp=>zb5 p te) (use:=some (assign (.Name x px) X.env)) B ho hN hc (λacc env R s a b=>codeAny_compStart_list a b)
  (zfz (iter:=iter) (pos:=pos) T hc hg ht he) I2 T st2 f2 zib rfl (h2 _ (I2.hok.fresh (Aj _))) (λC H' s' I3 fC hn hq=>?_) s2.toks cl Cl X.xe)
 obtain⟨m,hn⟩:=hn;obtain⟨_,hq⟩:=hq;show Ar _ X.A (assign (.Name x px) X.env (.ref s2.heap.objs.size)) _ _ _;refine wpAny_assign_Name (zea I3 hnd hi' hx (v:=.ref s2.heap.objs.size) rfl (λs4 I4 hch=>?_) hf);obtain⟨a,sb,ha⟩:=hch
 have nC:C≠a:=by
  rcases ha with z |z
  .rw[z];exact fC.2.1
  .exact λq=>fC.2.2.2.2.1 x a z q.symm
 refine⟨m,hn.sameBut sb nC,λh' hs'=>⟨_,H',I4.let_go fC hs',hq⟩⟩
theorem zjM{it:Addr}{fp:List Addr}{tn:Nat -> Heap -> Prop}{J:It}(hu:X.A.units + 1 < cLine)(T:Turn X.prog X.w X.K tg J fp it tn)(hc:X.calm=true)(hg:InBlk X sc N' λY => PG Y tg g)(ht:InBlk X sc N' λY => PTs Y ifs tt)(hk:InBlk X sc N' λY => PE Y kx tk)(hv:InBlk X sc N' λY => PE Y vx tv) :
  ∀cl C s0 H0 ex p pins s σ H Dn R,Inv (blk X sc cl C N' s0 H0 ex) pins σ H s->tn 0 s.heap->(∀b∈fp,FpOk (blk X sc cl C N' s0 H0 ex) pins H b)->zbR J g (tIfs tt (ziv p tk tv)) Dn σ H ->
   (∀fl s',(∃ σ' H',Inv (blk X sc cl C N' s0 H0 ex) pins σ' H' s'/\(∀b∈fp,H' b=none)/\Dn.nx σ' H')->R (.ok fl) s')->B9 (Ax X.prog X.w) X.A (.compLoop (.DictComp kx vx [⟨tg,iter,ifs,0⟩] sc pos) 0 (.ref it) (.ref p) (CM sc cl C X.env)) R s :=
 λcl C s0 H0 ex p pins s σ H Dn R I st f W hR =>
  zdq (X:=blk X sc cl C N' s0 H0 ex) (p:=iter.pos) rfl rfl rfl (λB {α t Q E s} h w=>by subst h;exact w) hc rfl (hg _ _ _ _ _) (ht _ _ _ _ _) (zm6 (X:=blk X sc cl C N' s0 H0 ex) hu (hk _ _ _ _ _) (hv _ _ _ _ _)) I T st f W hR
noncomputable def znA(wi:TI)(sel:List (Option Nat))(g:TG)(tt:TT)(tk tv:TE):TE:=λσ H Q=>wi σ H λJ H1=>∀p,H1 p=none ->
 zbR J g (tIfs tt (ziv p tk tv)) { nx:=λ_ H'=>Q (.ref p) H',rt:=λ_ _=>False } (selSt sel σ) (upd H1 p (.dT []))
theorem zlS(hu:X.A.units + 1 < cLine)(B:BlkOk osc N sc N' sel)(hi:PI X tg iter wi)(hg:InBlk X sc N' λY => PG Y tg g)(ht:InBlk X sc N' λY => PTs Y ifs tt)(hk:InBlk X sc N' λY => PE Y kx tk)(hv:InBlk X sc N' λY => PE Y vx tv)
  (ho:X.env.scope=osc:=by rfl) (hN:X.N=N:=by rfl) (hc:X.calm=true:=by rfl) (hs:∀x,Bm iter X.env x=pure x:=by intro _;rfl) :
  PE X (.DictComp kx vx [⟨tg,iter,ifs,0⟩] sc pos) (znA wi sel g tt tk tv):=by
 intro pins s σ H Q I h;obtain⟨cl,Cl⟩:=zjh I.ok B ho;show Ar _ X.A (comprehension (.DictComp kx vx [⟨tg,iter,ifs,0⟩] sc pos) sc X.env _ newDict false (eval iter X.env)) _ _ s;refine CH (use:=none) rfl hs Cl.run B.kind B.names (thn (hi pins s σ H _ I h) λv s1 h1=>thn h1 λitv s2 h2=>?_);obtain⟨it,fp,tn,J,H2,e,I2,T,st2,f2,h2⟩:=h2;subst e
 refine A6 (zdr (e:=.DictComp kx vx [⟨tg,iter,ifs,0⟩] sc pos) (inner:=λ_ _=>pure ()) (D:=λp=>{ nx:=λ_ H'=>Q (.ref p) H',rt:=λ_ _=>False }) (tb:=λp=>ziv p tk tv) (use:=none) B ho hN hc (λacc env R s a b=>codeAny_compStart_dict a b)
  (zjM (iter:=iter) (pos:=pos) hu T hc hg ht hk hv) I2 T st2 f2 (zgo s2.heap I2.big) rfl (h2 _ (I2.hok.fresh (Aj _))) (λC H' s' I3 fC hn hq=>?_) s2.toks cl Cl X.xe)
 obtain⟨m,hn⟩:=hn;obtain⟨_,hq⟩:=hq;exact⟨m,hn,λh' hs'=>⟨.ref s2.heap.objs.size,H',I3.let_go fC hs',rfl,hq⟩⟩
end
mutual
inductive RD (K:W.Frag) (H:Hp):V->PyData->Prop where
 |non:RD K H .non .none
 |bl (b:Bool):RD K H (.bl b) (.bool b)
 |int (i:Int):RD K H (.int i) (.int i)
 |str (x:Str):RD K H (.str x) (.str x)
 |lst {a:Addr} {xs:List V} {ds:List PyData}:SqL K H a xs->RDs K H xs ds->RD K H (.ref a) (.list ds)
 |tup {a:Addr} {xs:List V} {ds:List PyData}:SqT K H a xs->RDs K H xs ds->RD K H (.ref a) (.tuple ds)
inductive RDs (K:W.Frag) (H:Hp):List V->List PyData->Prop where
 |nil:RDs K H [] []
 |cons {x:V} {xs:List V} {d:PyData} {ds:List PyData}:RD K H x d->RDs K H xs ds->RDs K H (x::xs) (d::ds)
end
section
variable {X:Cx}{pins:List (Addr×Obj)}{σ:St}{H:Hp}{s:Ae}
mutual
theorem Inv.reads(I:Inv X pins σ H s):∀{v:V}{d:PyData}{u:Ad},RD X.K H v d->RelV v u->∃as,Reads s.heap u d as
 |_,_,_,.non,r=>by cases (show _=B3 from r);exact⟨_,.none⟩
 |_,_,_,.bl b,r=>by cases (show _=Value.bool b from r);exact⟨_,.bool b⟩
 |_,_,_,.int i,r=>by obtain⟨t,rfl⟩:=r;exact⟨_,.int i t⟩
 |_,_,_,.str x,r=>by obtain⟨t,rfl⟩:=r;exact⟨_,.str x t⟩
 |_,_,_,.lst (a:=a) hq hs,r=>by
  cases (show _=Av a from r)
  obtain⟨its,rv,p,hz⟩:=I.list hq;obtain⟨as,ra⟩:=I.readsAll hs rv;obtain⟨o,ho,hc,n,hd⟩:=p.isList;exact⟨_,.list ho hc hd (by simpa using ra)⟩
 |_,_,_,.tup (a:=a) hq hs,r=>by
  cases (show _=Av a from r)
  obtain⟨its,rv,p,hz⟩:=I.tuple hq;obtain⟨as,ra⟩:=I.readsAll hs rv;obtain⟨o,ho,hc,n,hd⟩:=p;exact⟨_,.tuple ho hc hd (by simpa using ra)⟩
theorem Inv.readsAll(I:Inv X pins σ H s):∀{vs:List V}{ds:List PyData}{us:List Ad},RDs X.K H vs ds->Vals vs us->∃as,ReadsAll s.heap us ds as
 |_,_,_,.nil,r=>by cases r;exact⟨_,.nil⟩
 |_,_,_,.cons h t,.cons r rr=>by
  obtain⟨as,h1⟩:=I.reads h r;obtain⟨bs,h2⟩:=I.readsAll t rr;exact⟨_,.cons h1 h2⟩
end
end
theorem RDs.ints{K:W.Frag}{H:Hp}:∀(ns:List Int),RDs K H (ns.map V.int) (ns.map C5)
 |[]=>.nil
 |n::r=>.cons (.int n) (RDs.ints r)
mutual
theorem RD.mono{K:W.Frag}{H H':Hp}(hl:∀a xs,SqL K H a xs->SqL K H' a xs)(ht:∀a xs,SqT K H a xs->SqT K H' a xs):∀{v:V}{d:PyData},RD K H v d->RD K H' v d
 |_,_,.non=>.non
 |_,_,.bl b=>.bl b
 |_,_,.int i=>.int i
 |_,_,.str x=>.str x
 |_,_,.lst h t=>.lst (hl _ _ h) (RDs.mono hl ht t)
 |_,_,.tup h t=>.tup (ht _ _ h) (RDs.mono hl ht t)
theorem RDs.mono{K:W.Frag}{H H':Hp}(hl:∀a xs,SqL K H a xs->SqL K H' a xs)(ht:∀a xs,SqT K H a xs->SqT K H' a xs):∀{v:List V}{d:List PyData},RDs K H v d->RDs K H' v d
 |_,_,.nil=>.nil
 |_,_,.cons h t=>.cons (RD.mono hl ht h) (RDs.mono hl ht t)
end
noncomputable def rEqD(K:W.Frag):R2:=λx y H Q=>∃d e,RD K H x d/\RD K H y e/\Bl d=true/\Bl e=true/\Q (.bl (B5 d e)) H
noncomputable def rNeD(K:W.Frag):R2:=λx y H Q=>∃d e,RD K H x d/\RD K H y e/\Bl d=true/\Bl e=true/\Q (.bl (!PyData.eqv d e)) H
section
variable {X:Cx}
theorem ziS(hu:X.A.units+64<cLine):OpR X (BA .Eq) (rEqD X.K):=by intro pins s σ H x y v u Q I rx ry h;obtain⟨d,e,hd,he,sd,se,q⟩:=h;obtain⟨as,ra⟩:=I.reads hd rx;obtain⟨bs,rb⟩:=I.reads he ry;exact SeqAt.compareEq_shaped ra rb sd se hu ⟨.bl _,H,I,rfl,q⟩
theorem zkJ(hu:X.A.units+64<cLine):OpR X (BA .NotEq) (rNeD X.K):=by intro pins s σ H x y v u Q I rx ry h;obtain⟨d,e,hd,he,sd,se,q⟩:=h;obtain⟨as,ra⟩:=I.reads hd rx;obtain⟨bs,rb⟩:=I.reads he ry;exact SeqAt.compareNe_shaped ra rb sd se hu ⟨.bl _,H,I,rfl,q⟩
theorem zho{ds:List PyData}(h:∀e∈ds,Bl e=true):BI ds=true:=by
 induction ds with
 |nil=>rfl
 |cons d r ih=>rw[BI,SeqAt.canLay_of_shaped (h d AC),ih λe he=>h e (At _ he)];rfl
theorem zeG:∀ns ms:List Int,CV (ns.map C5) (ms.map C5)=decide (ns=ms)
 |[],[]=>rfl
 |[],_::_=>rfl
 |_::_,[]=>rfl
 |n::r,m::t=>by
  show (n == m && CV (r.map C5) (t.map C5))=_;rw[zeG r t]
  by_cases e:n=m
  .subst e;by_cases e2:r=t <;> simp[e2]
  .simp[e]
theorem zco:∀ns:List Int,Cy (ns.map C5)=0
 |[]=>rfl
 |n::r=>by show max 0 (Cy (r.map C5))=0;rw[zco r];rfl
theorem zcS:∀ns:List Int,BI (ns.map C5)=true
 |[]=>rfl
 |n::r=>by show (true && BI (r.map C5))=true;rw[zcS r];rfl
noncomputable def tI(ns:List Int):PyData:=.tuple (ns.map .int)
theorem zeF(ns ms:List Int):B5 (tI ns) (tI ms)=decide (ns=ms):=zeG ns ms
theorem za6(ns:List Int):Bl (tI ns)=true:=by unfold Bl tI;rw[Ct,zcS,BW,zco];rfl
end
section
variable {prog:AJ}{w:A1}{A:AT}{E:Ad->Ae->Prop}{s:Ae}
end
section
variable {X:Cx}{pos:Pos}
noncomputable def CDivB(i j:Int):Prop:=0<j/\j.natAbs.log2<9000
theorem ziR:OpR X (binaryOp .FloorDiv) (rI CDivB λi j=>.int (i / j)):=opI λi j _ _ _ _ _ hc q=>by have e:i.fdiv j=i / j:=Int.fdiv_eq_ediv_of_nonneg i (Int.le_of_lt hc.1);rw[<- e]at q;exact floordiv_int (by have:=hc.1;lia) q (.inl (PyProof.noPylong_of_log2 hc.2))
end
section
variable {X:Cx}
theorem zgt:CallR X (.builtin "isinstance") (λxs H Q=>∃x T t b,xs=[x,.ty T]/\TyOf X.K H x t/\W.kitOne X.K t (.type T)=some b/\Q (.bl b) H):=by
 intro pins s σ H xs us Q I r h;obtain⟨x,T,t,b,rfl,ty,e,q⟩:=h;obtain⟨u,w',rfl,ru,rw'⟩:=vals2 r
 cases (show w'=CN T from rw')
 exact zk4 I ru ty e λtk=>⟨.bl b,H,I.tok tk,rfl,q⟩
theorem zhe (K:W.Frag):W.kitOne K (.type "int") (.type "bool")=some false:=by rfl
theorem zgl(K:W.Frag)(T:String):W.kitOne K (.type T) (.type T)=some true:=by unfold W.kitOne;rw[if_pos (by simp)]
end
end L2
namespace HT
open PySem PyProof.Rows
noncomputable def lexLe:List Int->List Int->Bool
 |[],[]=>true
 |[],_::_=>true
 |_::_,[]=>false
 |x::xs,y::ys=>if x=y then lexLe xs ys else decide (x<=y)
theorem zfv(x y:Int)(xs ys:List Int):lexLe (x::xs) (y::ys)=if x=y then lexLe xs ys else decide (x<=y):=rfl
theorem zgk:lexLe [] []=true:=rfl
theorem ze6(y:Int)(ys:List Int):lexLe [] (y::ys)=true:=rfl
theorem ze7(x:Int)(xs:List Int):lexLe (x::xs) []=false:=rfl
theorem zlN(A:AT)(s:Ae)(a:Int)(t:Tok)(c:Int)(u:Tok)(prog:AJ)(w:A1)(E:Ad -> Ae -> Prop)(Q:Ad -> Ae -> Prop)(h:Q (.bool (decide (a <= c))) s) :
  Ar (Ax prog w) A (richCompare .LtE (.int a t) (.int c u)) Q E s :=
 (PyProof.Rows.le_int h:Ar (Ax prog w) A (BA .LtE (.int a t) (.int c u)) Q E s)
section
open PySem.SeqAt
open PySem.AutoSeq1 (wpAny_loadPart')
open PySem.MeetsSeq PySem.MeetsSeq2 PySem.MeetsSeq3
theorem zfK(l b:Addr)(items items2:Array Ad)(n n2:Nat)(dd dd2:Option Addr)(sl sl2:Array (Option Ad))(ns ms:List Int)(hi:Ck items.toList ns)(hj:Ck items2.toList ms) :
  Meets (Builtin.«tuple.__le__» ⟨[.ref l,.ref b],[]⟩)
   (λ_ R s=>s.heap.get? l=some { cls:=.type "tuple",dict:=dd,data:=.seq items n,slots:=sl }/\s.heap.get? b=some { cls:=.type "tuple",dict:=dd2,data:=.seq items2 n2,slots:=sl2 } /\
    R (.ok (.ret (.bool (lexLe ns ms)))) s) :=
 .of_wp λprog w A R s h=>by
  obtain⟨hp,g,d,tk,os⟩:=s;obtain⟨hl,hb,h⟩:=h;have f2:=AutoSeq1.sub_tuple_tuple;have z1:items.size=ns.length:=by rw[<- hi.length];simp
  have z2:items2.size=ms.length:=by rw[<- hj.length];simp
  wp_walk using Cf hl,Cf hb,wpAny_forIn_list _ (λrest b s'=>b.1=none/\s'=⟨hp,g,d,tk,os⟩/\∃(vs ws:List Ad) (ns' ms':List Int),rest=vs.zip ws /\
   Ck vs ns'/\Ck ws ms'/\ns'.length+items2.size=ms'.length+items.size/\R (.ok (.ret (.bool (lexLe ns' ms')))) ⟨hp,g,d,tk,os⟩) _
  case turn =>
   rintro⟨y,x⟩ rest b s' ⟨hb',rfl,vs,ws,ns',ms',hz,hvi,hwi,hlen,hR⟩
   cases hvi with
   |nil=>rw[List.zip_nil_left]at hz;cases hz
   |cons a t hvi' =>
    cases hwi with
    |nil=>rw[List.zip_nil_right]at hz;cases hz
    |cons c u hwi' =>
     rw[Dy]at hz;injection hz with hyx hrest;injection hyx with hy hx;subst hy hx;rw[zfv]at hR;simp only[A7]at hlen;obtain⟨e,he,hiff⟩:=zja A.in1 ⟨hp,g,d,tk,os⟩ a t c u;refine Ab (he prog w _ _ ?_)
     cases e with
     |true =>
      rw[if_pos (hiff.mp rfl)]at hR
      wp_walk
      exact⟨rfl,rfl,_,_,_,_,hrest,hvi',hwi',by lia,hR⟩
     |false =>
      rw[if_neg (λq=>absurd (hiff.mpr q) AK)]at hR;have hri:=zlN A.in1 ⟨hp,g,d,tk,os⟩ a t c u prog w
      wp_walk using hri
      exact⟨_,rfl,by simpa using hR⟩
  case fin =>
   rintro⟨b1,b2⟩ s' ⟨hb',rfl,vs,ws,ns',ms',hz,hvi,hwi,hlen,hR⟩;simp only at hb';subst hb'
   have hv:lexLe ns' ms'=decide (items.size<=items2.size):=by
    cases hvi with
    |nil =>
     cases hwi with
     |nil =>
      simp only[Ce]at hlen;rw[zgk];exact (decide_eq_true (by lia)).symm
     |cons c u hw =>
      simp only[Ce,A7]at hlen;rw[ze6];exact (decide_eq_true (by lia)).symm
    |cons a t hv =>
     cases hwi with
     |nil =>
      simp only[Ce,A7]at hlen;rw[ze7];exact (decide_eq_false (by lia)).symm
     |cons c u hw =>
      rw[Dy]at hz
      cases hz
   rw[hv]at hR
   wp_walk
   exact⟨_,rfl,by simpa[Builtin.Tuple.tupleCompareSizes]using hR⟩
  case h =>
   exact⟨rfl,rfl,items.toList,items2.toList,ns,ms,rfl,hi,hj,by lia,h⟩
end
section
variable {prog:AJ}{w:A1}{A:AT}{E:Ad->Ae->Prop}{s:Ae}
theorem le_tupInts{l b:Addr}{items items2:Array Ad}{ns ms:List Int}{Q:Ad -> Ae -> Prop}(hl:IsTup s.heap l items)(hb:IsTup s.heap b items2)(hi:Ck items.toList ns)(hj:Ck items2.toList ms)
  (hu:A.units<cLine) (h:Q (.bool (lexLe ns ms)) s):Ar (Ax prog w) A (BA .LtE (.ref l) (.ref b)) Q E s:=by
 obtain⟨⟨cls,dd,data,sl⟩,ho,hc,n,hd⟩:=id hl;obtain⟨⟨cls2,dd2,data2,sl2⟩,ho2,hc2,n2,hd2⟩:=id hb;simp only at hc hd hc2 hd2;subst hc hd hc2 hd2
 exact richCompare_meets_room (op:=.LtE) ⟨_,ho,rfl⟩ ⟨_,ho2,rfl⟩ PySem.F.slot_tuple_le PySem.F.entry_tuple_le (PySem.F.args_tuple_le_2 _ _) (zfK l b items items2 n n2 dd dd2 sl sl2 ns ms hi hj)
  ⟨ho,ho2,show Value.bool (lexLe ns ms)≠Value.notImplemented/\Q (.bool (lexLe ns ms)) s from ⟨(λx=>nomatch x),h⟩⟩ hu
end
end HT
namespace L2
open PySem PySem.Spec PyProof.Rows
section
variable {X:Cx}
noncomputable def rLeT(K:W.Frag):R2:=λx y H Q=>∃a b ns ms,x=.ref a/\y=.ref b/\SqT K H a (ns.map V.int)/\SqT K H b (ms.map V.int)/\Q (.bl (HT.lexLe ns ms)) H
theorem znP(hu:X.A.units<cLine):OpR X (BA .LtE) (rLeT X.K):=by
 intro pins s σ H x y v u Q I rx ry h;obtain⟨a,b,ns,ms,rfl,rfl,ha,hb,q⟩:=h
 cases rx
 cases ry
 obtain⟨its,r1,p1,_⟩:=I.tuple ha;obtain⟨its2,r2,p2,_⟩:=I.tuple hb;have i1:Ck its.toArray.toList ns:=zcM r1;have i2:Ck its2.toArray.toList ms:=zcM r2;exact HT.le_tupInts p1 p2 i1 i2 hu ⟨.bl (HT.lexLe ns ms),H,I,rfl,q⟩
end
section
variable {X:Cx}
noncomputable def zmY(K:W.Frag):V->List V->Hp->VK->Prop:=λx vs H Q=>∃p xs y d ds j e,x=.ref p/\vs=[y]/\SqL K H p xs/\RD K H y d/\RDs K H xs ds/\Bl d=true/\(∀e∈ds,Bl e=true) /\
 ds[j]?=some e/\B5 e d=true/\(∀m e',m<j->ds[m]?=some e'->B5 e' d=false)/\Q (.int (j:Nat)) H
theorem zkS (hu:X.A.units+65<cLine):MtR X "list.index" (zmY X.K):=by
 intro pins s σ H x vs v us Q I rx rv h;obtain⟨p,xs,y,d,ds,j,e,rfl,rfl,hq,hd,hds,sd,sds,hj,he,hno,q⟩:=h
 cases rx
 obtain⟨u,rfl,ru⟩:=rv.one;obtain⟨its,r,pl,hz⟩:=I.list hq;obtain⟨as,ra⟩:=I.reads hd ru;obtain⟨bs,rb⟩:=I.readsAll hds r;have hlay:=zho sds;have hmap:=SeqAt.readsAll_map ds _ _ hlay rb;have hlen:its.length=ds.length:=by rw[<- hmap,Ai]
 have hj':j<ds.length:=(Ac.mp hj).1
 have rd:∀m (hm:m<its.length),ds[m]?=some (SeqAt.readOf s.heap its[m]):=λm hm=>by rw[<- hmap,Ak,Aa hm];rfl
 obtain⟨⟨cls,dd,data,sl⟩,ho,hc,n,hdat⟩:=pl.isList;simp only at hc hdat
 subst hc hdat
 have hsz:xs.length<=sizeLine:=hz;have hl2:its.length=xs.length:=r.length.symm
 refine call_meets PySem.F.slot_list_index ⟨_,ho,rfl⟩ PySem.F.entry_list_index (PySem.F.args_list_index_2 _ _)
  (SeqAt.list_indexAt p its.toArray n dd sl u (λz=>B5 (SeqAt.readOf s.heap z) d) j (by simpa[hlen]using hj') (by have:=CA;lia) ?_ ?_)
  ⟨ho,SeqAt.items_eqAt (vs:=its.toArray) rb ra hlay (SeqAt.canLay_of_shaped sd) (PyProof.Rows.room_in_shaped sd hu),?_⟩
 .have:=rd j (by lia);rw[hj]at this;have e1:=AX this;show B5 (SeqAt.readOf s.heap its[j]) d=true;rw[<- e1];exact he
 .intro m hm hlt;have hm':m<its.length:=by simpa using hm
  exact hno m _ hlt (rd m hm')
 .exact⟨.int (j:Nat),H,I.tok _,⟨_,rfl⟩,q⟩
end
section
variable {X:Cx}{k:Nat}{f:Addr}{fd:Bo}{ps:List Str}{sp:Sp}{pins:List (Addr×Obj)}{σ:St}
theorem zks{H:Hp}{s:Ae}{Q:VK}{us:List Ad}{vs:List V}{E:Ad -> Ae -> Prop}(F:FnOk X.prog X.w X.K X.mg X.base CX0 k f fd ps sp)(hr:Room (k + 1) X.A)(hb:Binds X.K fd ps [])
  (I:Inv X pins σ H s) (r:Vals vs us) (h:sp vs H Q E0):Ar (Ax X.prog X.w) X.A.in1 (call (.ref f) us) (EP X pins σ Q) E s:=by
 have hl:(us++[]).length=ps.length:=by rw[BL,<- r.length];exact F.len _ _ _ _ h
 have hb':=hb s us I.kIn hl;rw[BL]at hb';refine wpAny_call (codeAny_mono (F.run X.A.in1 X.stack s H ⟨us,[]⟩ us vs Q E0 hr.in1 I.env0.in1 hb' r h) λr s' hq=>?_)
 cases r with
 |error e=>exact Bt hq
 |ok fl =>
  cases fl with
  |ret u=>exact I.after hq
  |next=>exact Bt hq
  |brk=>exact Bt hq
  |cont=>exact Bt hq
theorem Inv.moved{H:Hp}{s:Ae}{b:Addr}{h':Heap}{t':Nat}(I:Inv X pins σ H s)(fb:FpOk X pins H b)(hk:∀c o,c ∉ [b]->s.heap.get? c=some o->h'.get? c=some o):Inv X pins σ H { s with heap:=h',toks:=t' } :=
 I.turned (λc o hc e=>hk c o (λz=>hc (Am.mp z)) e) fb.1 fb.2.1 fb.2.2.2.1 fb.2.2.2.2.1 fb.2.2.2.2.2
theorem FpOk.again{H H':Hp}{b:Addr}(fb:FpOk X pins H b)(hn:H' b=none):FpOk X pins H' b:=⟨hn,fb.2⟩
structure MK (X:Cx) (pins:List (Addr×Obj)) (σ:St) (H:Hp) (s:Ae) (it st l:Addr) (j:Nat) (vb kb:Ad):Prop where
 inv:Inv X pins σ H s
 fi:FpOk X pins H it
 fs:FpOk X pins H st
 ne:st≠it
 iter:s.heap.IsListIter it l j
 hold:∃c,s.heap.get? st=some (Bq "list" #[vb,kb] c)
noncomputable def Least(κ:Nat->List Int)(n i:Nat):Prop:=∀j,j<n->HT.lexLt (κ j) (κ i)=false/\(j<i->HT.lexLt (κ i) (κ j)=true)
end
end L2
namespace HT
theorem lexLt_irrefl:∀a:List Int,lexLt a a=false
 |[]=>rfl
 |x::r=>by rw[lexLt_cons,if_pos rfl];exact lexLt_irrefl r
theorem lexLt_trans:∀{a b c:List Int},lexLt a b=true->lexLt b c=true->lexLt a c=true
 |[],[],_,h,_=>by cases h
 |[],_::_,[],_,h=>by cases h
 |[],_::_,_::_,_,_=>rfl
 |_::_,[],_,h,_=>by cases h
 |_::_,_::_,[],_,h=>by cases h
 |x::a,y::b,z::c,h,g=>by
  rw[lexLt_cons]at h g ⊢
  by_cases e1:x=y
  .subst e1;rw[if_pos rfl]at h
   by_cases e2:x=z
   .subst e2;rw[if_pos rfl]at g ⊢;exact lexLt_trans h g
   .rw[if_neg e2]at g ⊢;exact g
  .rw[if_neg e1]at h;have h':x<y:=by simpa using h
   by_cases e2:y=z
   .subst e2;rw[if_neg e1];exact h
   .rw[if_neg e2]at g;have g':y<z:=by simpa using g
    rw[if_neg (by lia)];exact decide_eq_true (by lia)
theorem lexLt_total:∀{a b:List Int},lexLt a b=false->lexLt b a=false->a=b
 |[],[],_,_=>rfl
 |[],_::_,h,_=>by cases h
 |_::_,[],_,h=>by cases h
 |x::a,y::b,h,g=>by
  rw[lexLt_cons]at h g
  by_cases e:x=y
  .subst e;rw[if_pos rfl]at h g;rw[lexLt_total h g]
  .rw[if_neg e]at h;rw[if_neg (Bu e)]at g;have h':¬ x<y:=by simpa using h
   have g':¬ y<x:=by simpa using g
   lia
theorem lexLe_eq:∀a b:List Int,lexLe a b=!lexLt b a
 |[],[]=>rfl
 |[],_::_=>rfl
 |_::_,[]=>rfl
 |x::a,y::b=>by
  rw[zfv,lexLt_cons]
  by_cases e:x=y
  .subst e;rw[if_pos rfl,if_pos rfl];exact lexLe_eq a b
  .rw[if_neg e,if_neg (Bu e)]
   by_cases g:x<=y
   .rw[decide_eq_true g,decide_eq_false (by lia)];rfl
   .rw[decide_eq_false g,decide_eq_true (by lia)];rfl
theorem lexLt_of_not_lt_lt{a b c:List Int}(h:lexLt b a=false)(g:lexLt b c=true):lexLt a c=true:=by
 cases e:lexLt a b with
 |true=>exact lexLt_trans e g
 |false=>rw[lexLt_total e h];exact g
theorem lexLt_asym{a b:List Int}(h:lexLt a b=true):lexLt b a=false:=by
 cases e:lexLt b a with
 |false=>rfl
 |true=>have:=lexLt_trans h e;rw[lexLt_irrefl]at this;cases this
end HT
namespace L2
open PySem PySem.Spec PyProof.Rows
section
variable {X:Cx}{k:Nat}{f:Addr}{fd:Bo}{ps:List Str}{sp:Sp}{pins:List (Addr×Obj)}{σ:St}{H0:Hp}{Q:VK}{l it st:Addr}{xs:List V}{κ:Nat->List Int}
noncomputable def MKR(X:Cx)(pins:List (Addr×Obj))(σ:St)(Q:VK):Result->Ae->Prop:=λr s'=>match r with
 |.ok (.ret v)=>EP X pins σ Q v s'
 |.ok _=>False
 |.error e=>X.xe e s'
theorem zcL {xs:Array Ad}{c:Nat}:∀v,(Bq "list" xs c).data≠.cell v:=λv h=>by cases h
theorem zey{h:Heap}{it l:Addr}{j:Nat}(hi:h.IsListIter it l j):∃o,h.get? it=some o/\∀v,o.data≠.cell v:=by obtain⟨o,ho,_,hd⟩:=hi;exact⟨o,ho,λv z=>by rw[hd]at z;cases z⟩
theorem zlJ{H:Hp}{s:Ae}{Q1:VK}{u:Ad}{x:V}{E:Ad -> Ae -> Prop}{j:Nat}{vb kb:Ad}(F:FnOk X.prog X.w X.K X.mg X.base CX0 k f fd ps sp)(hr:Room (k + 1) X.A)(hb:Binds X.K fd ps [])
    (M:MK X pins σ H s it st l j vb kb) (r:RelV x u) (h:sp [x] H Q1 E0):Ar (Ax X.prog X.w) X.A.in1 (call (.ref f) [u]) (λv s'=>∃y H',RelV y v/\Q1 y H'/\MK X pins σ H' s' it st l j vb kb) E s:=by
  obtain⟨c,hc⟩:=M.hold;obtain⟨oi,hoi,ci,di⟩:=id M.iter
  have I1:Inv X (pins ++ zdM [it, st] s.heap) σ H s := M.inv.pinned (λb hb => by
      rcases Aw.mp hb with rfl |hb
      . exact M.fi
      . rw[Am.mp hb];exact M.fs) (λb hb=>by
      rcases Aw.mp hb with rfl |hb
      . exact zey M.iter
      . rw[Am.mp hb];exact⟨_,hc,zcL⟩)
  refine BG (zks F hr hb I1 (.cons r .nil) h) (λv s' hv=>?_) λ_ _ e=>e
  obtain⟨y,H',I2,ry,q⟩:=hv;have p1:=I2.pin (it,oi) (Au _ (Au _ (za1 (by simp) hoi)));have p2:=I2.pin (st,Bq "list" #[vb,kb] c) (Au _ (Au _ (za1 (by simp) hc)));exact⟨y,H',ry,q,I2.unpinned,M.fi.again p1.2.1,M.fs.again p2.2.1,M.ne,⟨oi,p1.1,ci,di⟩,c,p2.1⟩
theorem znf{H:Hp}{s:Ae}{a b:Addr}{ns ms:List Int}{E:Ad -> Ae -> Prop}{Q1:Ad -> Ae -> Prop}(hu:X.A.units + 1 < cLine)(I:Inv X pins σ H s)(ha:SqT X.K H a (ns.map V.int))(hb:SqT X.K H b (ms.map V.int))(q:Q1 (.bool (HT.lexLt ns ms)) s) :
  Ar (Ax X.prog X.w) X.A.in1 (richCompare .Lt (.ref a) (.ref b)) Q1 E s:=by
 obtain⟨its,r1,p1,_⟩:=I.tuple ha;obtain⟨its2,r2,p2,_⟩:=I.tuple hb;exact (HT.lt_tupInts p1 p2 (zcM r1) (zcM r2) hu q:Ar (Ax X.prog X.w) X.A.in1 (BA .Lt (.ref a) (.ref b)) Q1 E s)
theorem MK.set{H:Hp}{s:Ae}{j:Nat}{vb kb v kv:Ad}(M:MK X pins σ H s it st l j vb kb):MK X pins σ H { s with heap:=s.heap.update st (AM λ_=>#[v,kv]) } it st l j v kv:=by obtain⟨c,hc⟩:=M.hold;have sb:=Br s.heap st (AM λ_=>#[v,kv]);obtain⟨oi,hoi,ci,di⟩:=id M.iter;exact⟨M.inv.moved (t':=s.toks) M.fs (λb o hb e=>(sb.2 b λz=>hb (by simp[z])).trans e),M.fi,M.fs,M.ne,⟨oi,(sb.2 it M.ne.symm).trans hoi,ci,di⟩,_,Dt hc λ_=>#[v,kv]⟩
theorem Least.next{n i:Nat}(h:Least κ n i)(e:HT.lexLt (κ n) (κ i)=false)(hi:i<n):Least κ (n+1) i:=λj hj=>by
 by_cases z:j=n
 .subst z;exact⟨e,λq=>absurd q (by lia)⟩
 .exact h j (by lia)
theorem Least.take{n i:Nat}(h:Least κ n i)(e:HT.lexLt (κ n) (κ i)=true)(hi:i<n):Least κ (n+1) n:=λj hj=>by
 by_cases z:j=n
 .subst z;exact⟨HT.lexLt_irrefl _,λq=>absurd q (by lia)⟩
 .have g:=(h j (by lia)).1
  have t:HT.lexLt (κ n) (κ j)=true:=by
   cases q:HT.lexLt (κ i) (κ j) with
   |true=>exact HT.lexLt_trans e q
   |false=>rw[<- HT.lexLt_total q g];exact e
  exact⟨HT.lexLt_asym t,λ_=>t⟩
theorem Room.un1{n:Nat}{A:AT}(r:Room n A):A.units+1<cLine:=by have:=r.units;lia
theorem Same.seqT{K:W.Frag}{H H':Hp}{a:Addr}{xs:List V}(e:Same H H')(h:SqT K H a xs):SqT K H' a xs:=by
 rcases h with (h |⟨o,h⟩) |h
 .exact .inl (.inl (e _ _ h))
 .exact .inl (.inr ⟨o,e _ _ h⟩)
 .exact .inr h
theorem zkU(hh:X.A.handled=none)(F:FnOk X.prog X.w X.K X.mg X.base CX0 k f fd ps sp)(hr:Room (k + 1) X.A)(hb:Binds X.K fd ps [])
  (turn:∀i x H,xs[i]?=some x->Same H0 H->sp [x] H (λv H'=>Same H H'/\∃a,v=.ref a/\SqT X.K H' a ((κ i).map V.int)) E0)
  (hl:SqL X.K H0 l xs) (hli:l≠it) (hQ:∀i x H',xs[i]?=some x->Least κ xs.length i->Same H0 H'->Q x H') :
  ∀(r j i:Nat) (H:Hp) (s:Ae) (vb:Ad) (xb:V) (b:Addr),xs.length-(j+1)=r->j+1<=xs.length->Same H0 H->MK X pins σ H s it st l (j+1) vb (.ref b)->xs[i]?=some xb->RelV xb vb->SqT X.K H b ((κ i).map V.int)->i<=j->Least κ (j+1) i ->
   B9 (Ax X.prog X.w) X.A (.builtin "min.loop" ⟨[.ref it,.ref f,.ref st],[]⟩) (MKR X pins σ Q) s:=by
 have nm:(toString "min" ++ toString ".loop" : String) = "min.loop":=by decide
 intro r
 induction r with
 |zero =>
  intro j i H s vb xb b hr0 hj hS M hxb rb kb' hij best;have hend:j+1=xs.length:=by lia
  obtain⟨its,rv,pl,hz⟩:=M.inv.list (hS.seq hl);have hlen:its.length=xs.length:=rv.length.symm;have W:=Walks.list (prog:=X.prog) (w:=X.w) (A:=X.A.in1) hh it l hli its.toArray;obtain⟨c,hc⟩:=M.hold;refine codeAny_builtin PySem.F.entry_min_loop ?_
  rw[Around.under_plainId BC _];show Ar _ X.A.in1 (seqItems? (.ref st) >>= _) _ _ _;refine Ab (wpAny_seqItems hc rfl ?_);show Ar _ X.A.in1 (tryCatch (pyNext (.ref it)) _ >>= _) _ _ _;refine Ab (C6 (W.done _ _ _ ⟨by rw[Ao,hlen,<- hend];exact M.iter,pl.isList⟩ λh1 tk1 hk1=>?_));have I1:=M.inv.moved (t':=tk1) M.fi hk1;have hc1:=hk1 st _ (by simpa using M.ne) hc;have sb:=Br h1 st (AM λ_=>(#[]:Array Ad));show Ar _ X.A.in1 (updateSeq st (λ_=>#[]) >>= _) _ _ _;refine Ab ?_
  refine CQ hc1 rfl (Ab (wpAny_letGo (Ah ?_)));have I2:Inv X pins σ H { s with heap:=h1.update st (AM λ_=>(#[]:Array Ad)),toks:=tk1 }:=I1.moved (s:={ s with heap:=h1,toks:=tk1 }) (t':=tk1) M.fs (λb o hb e=>(sb.2 b λz=>hb (by simp[z])).trans e);exact⟨xb,H,I2,rb,hQ i xb H hxb (by rw[<- hend];exact best) hS⟩
 |succ r ih =>
  intro j i H s vb xb b hr0 hj hS M hxb rb kb' hij best;have hlt:j+1<xs.length:=by lia
  obtain⟨its,rv,pl,hz⟩:=M.inv.list (hS.seq hl);have hlen:its.length=xs.length:=rv.length.symm;have W:=Walks.list (prog:=X.prog) (w:=X.w) (A:=X.A.in1) hh it l hli its.toArray;obtain⟨c,hc⟩:=M.hold;refine codeAny_builtin PySem.F.entry_min_loop ?_
  rw[Around.under_plainId BC _];show Ar _ X.A.in1 (seqItems? (.ref st) >>= _) _ _ _;refine Ab (wpAny_seqItems hc rfl ?_);show Ar _ X.A.in1 (tryCatch (pyNext (.ref it)) _ >>= _) _ _ _;refine Ab (C6 (W.item (j+1) _ _ _ (by rw[Ao,hlen];exact hlt) ⟨M.iter,pl.isList⟩ λv h1 tk1 hP hst1 hk1=>?_));have hv:its[j+1]?=some v:=by simpa using hP
  obtain⟨x,hx⟩:∃x,xs[j+1]?=some x:=⟨_,Aa hlt⟩;obtain⟨v',hv',rx⟩:=rv.get hx;rw[hv]at hv'
  cases hv'
  have M1:MK X pins σ H { s with heap:=h1,toks:=tk1 } it st l (j+1+1) vb (.ref b):=⟨M.inv.moved (t':=tk1) M.fi hk1,M.fi,M.fs,M.ne,hst1.1,c,hk1 st _ (by simpa using M.ne) hc⟩;show Ar _ X.A.in1 (tryCatch (Do [v] (call (.ref f) [v])) _ >>= _) _ _ _;refine Ab (C6 (A8 (BG (zlJ F hr hb M1 rx (turn (j+1) x H hx hS) (E:=λ_ _=>False)) (λkv s2 he=>?_) λ_ _ hF=>hF.elim)));obtain⟨y,H2,ry,⟨hS2,a2,ey,ka2⟩,M2⟩:=he;subst ey
  cases (show kv=Av a2 from ry)
  have hS3:=hS.trans hS2;have kb2:SqT X.K H2 b ((κ i).map V.int):=hS2.seqT kb';show Ar _ X.A.in1 (tryCatch (Do [v,.ref a2] (richCompare .Lt (.ref a2) (.ref b) >>= _)) _ >>= _) _ _ _;refine Ab (C6 (A8 (Ab (znf hr.un1 M2.inv ka2 kb2 ?_))));refine Ab (A8 (BH ?_));refine Ab (wpAny_letGo (Ah ?_));obtain⟨c2,hc2⟩:=M2.hold
  by_cases hbt:HT.lexLt (κ (j+1)) (κ i)=true
  .simp only[hbt,if_true];refine Ab ?_
   refine CQ hc2 rfl (Ab (wpAny_letGo ?_));rw[nm];exact Ah ⟨Dk BC _,ih (j+1) (j+1) H2 _ v _ a2 (by lia) hlt hS3 M2.set hx rx ka2 (Aj _) (best.take hbt (by lia))⟩
  .have hbf:HT.lexLt (κ (j+1)) (κ i)=false:=by simpa using hbt
   simp only[hbf,BN,if_false];refine Ab (wpAny_letGo ?_);rw[nm];exact Ah ⟨Dk BC _,ih (j+1) i H2 _ vb _ b (by lia) hlt hS3 M2 hxb rb kb2 (by lia) (best.next hbf (by lia))⟩
end
section
variable {X:Cx}{k:Nat}{f:Addr}{fd:Bo}{ps:List Str}{sp:Sp}{pins:List (Addr×Obj)}{σ:St}{H0:Hp}{Q:VK}{l it st:Addr}{xs:List V}{κ:Nat->List Int}
structure MK0 (X:Cx) (pins:List (Addr×Obj)) (σ:St) (H:Hp) (s:Ae) (it st l:Addr) (j:Nat):Prop where
 inv:Inv X pins σ H s
 fi:FpOk X pins H it
 fs:FpOk X pins H st
 ne:st≠it
 iter:s.heap.IsListIter it l j
 hold:∃c,s.heap.get? st=some (Bq "list" #[] c)
theorem zkt{H:Hp}{s:Ae}{Q1:VK}{u:Ad}{x:V}{E:Ad -> Ae -> Prop}{j:Nat}(F:FnOk X.prog X.w X.K X.mg X.base CX0 k f fd ps sp)(hr:Room (k + 1) X.A)(hb:Binds X.K fd ps [])
    (M:MK0 X pins σ H s it st l j) (r:RelV x u) (h:sp [x] H Q1 E0):Ar (Ax X.prog X.w) X.A.in1 (call (.ref f) [u]) (λv s'=>∃y H',RelV y v/\Q1 y H'/\MK0 X pins σ H' s' it st l j) E s:=by
  obtain⟨c,hc⟩:=M.hold;obtain⟨oi,hoi,ci,di⟩:=id M.iter
  have I1:Inv X (pins ++ zdM [it, st] s.heap) σ H s := M.inv.pinned (λb hb => by
      rcases Aw.mp hb with rfl |hb
      . exact M.fi
      . rw[Am.mp hb];exact M.fs) (λb hb=>by
      rcases Aw.mp hb with rfl |hb
      . exact zey M.iter
      . rw[Am.mp hb];exact⟨_,hc,zcL⟩)
  refine BG (zks F hr hb I1 (.cons r .nil) h) (λv s' hv=>?_) λ_ _ e=>e
  obtain⟨y,H',I2,ry,q⟩:=hv;have p1:=I2.pin (it,oi) (Au _ (Au _ (za1 (by simp) hoi)));have p2:=I2.pin (st,Bq "list" #[] c) (Au _ (Au _ (za1 (by simp) hc)));exact⟨y,H',ry,q,I2.unpinned,M.fi.again p1.2.1,M.fs.again p2.2.1,M.ne,⟨oi,p1.1,ci,di⟩,c,p2.1⟩
theorem MK0.set{H:Hp}{s:Ae}{j:Nat}{v kv:Ad}(M:MK0 X pins σ H s it st l j):MK X pins σ H { s with heap:=s.heap.update st (AM λ_=>#[v,kv]) } it st l j v kv:=by obtain⟨c,hc⟩:=M.hold;have sb:=Br s.heap st (AM λ_=>#[v,kv]);obtain⟨oi,hoi,ci,di⟩:=id M.iter;exact⟨M.inv.moved (t':=s.toks) M.fs (λb o hb e=>(sb.2 b λz=>hb (by simp[z])).trans e),M.fi,M.fs,M.ne,⟨oi,(sb.2 it M.ne.symm).trans hoi,ci,di⟩,_,Dt hc λ_=>#[v,kv]⟩
theorem zlp{s:Ae}(hh:X.A.handled=none)(F:FnOk X.prog X.w X.K X.mg X.base CX0 k f fd ps sp)(hr:Room (k + 1) X.A)(hb:Binds X.K fd ps [])
  (turn:∀i x H,xs[i]?=some x->Same H0 H->sp [x] H (λv H'=>Same H H'/\∃a,v=.ref a/\SqT X.K H' a ((κ i).map V.int)) E0)
  (hl:SqL X.K H0 l xs) (hne:0<xs.length) (hQ:∀i x H',xs[i]?=some x->Least κ xs.length i->Same H0 H'->Q x H') (I:Inv X pins σ H0 s) :
  Ar (Ax X.prog X.w) X.A (call (.builtin "min") [.ref l] [(BV "key",.ref f)]) (EP X pins σ Q) X.xe s:=by
 have nm:(toString "min" ++ toString ".loop" : String) = "min.loop":=by decide
 obtain⟨its,rv,pl,hz⟩:=I.list hl;have hlen:its.length=xs.length:=rv.length.symm;have hll:l<s.heap.objs.size:=by obtain⟨o,ho,_⟩:=pl.isList;exact Ay ho
 refine kmk_tree PySem.F.kind_min PySem.F.plain_min PySem.F.entry_min (kmk_min_key _ _) ?_
 show Ar _ X.A.in1 (Cm "min" ["key","default"] 0 ⟨[],[(BV "key",.ref f)]⟩ >>= _) _ _ s;refine Ab (wpAny_of_eq (show Cm "min" ["key","default"] 0 ⟨[],[(BV "key",.ref f)]⟩=pure [some (.ref f),none] from rfl) ?_);refine Ab (Ah ?_);refine Ab (wpAny_pyIter_list pl.isList ?_);refine Ab (wpAny_newList ?_ (A5 _));rw[nm];refine Ah ⟨Dk BC _,?_⟩;have keep:∀b o,s.heap.get? b=some o->((s.heap.push { cls:=.type "list_iterator",data:=.fields #[.ref l,.int 0 0] }).push (Bq "list" #[] 0)).get? b=some o:=λb o e=>Ag _ (Ag _ e)
 have gi:((s.heap.push { cls:=.type "list_iterator",data:=.fields #[.ref l,.int 0 0] }).push (Bq "list" #[] 0)).get? s.heap.objs.size=some { cls:=.type "list_iterator",data:=.fields #[.ref l,.int 0 0] }:=Ag _ (Az _ rfl);have hsS:(s.heap.push { cls:=.type "list_iterator",data:=.fields #[.ref l,.int 0 0] }).objs.size=s.heap.objs.size+1:=size_push' ..;have gs:((s.heap.push { cls:=.type "list_iterator",data:=.fields #[.ref l,.int 0 0] }).push (Bq "list" #[] 0)).get? (s.heap.objs.size+1)=some (Bq "list" #[] 0):=by rw[<- hsS];exact Az _ rfl
 rw[hsS];have I1:Inv X pins σ H0 { s with heap:=(s.heap.push { cls:=.type "list_iterator",data:=.fields #[.ref l,.int 0 0] }).push (Bq "list" #[] 0) }:=I.kept (t':=s.toks) keep;have fi:FpOk X pins H0 s.heap.objs.size:=I.fpOk (Aj _) (I.hok.fresh (Aj _));have fs:FpOk X pins H0 (s.heap.objs.size+1):=I.fpOk (DE _) (I.hok.fresh (DE _));have M0:MK0 X pins σ H0 _ s.heap.objs.size (s.heap.objs.size+1) l 0:=⟨I1,fi,fs,Nat.ne_of_gt (Nat.lt_succ_self _),⟨_,gi,rfl,rfl⟩,⟨0,gs⟩⟩;have hli:l≠s.heap.objs.size:=AR hll;have W:=Walks.list (prog:=X.prog) (w:=X.w) (A:=X.A.in1) hh s.heap.objs.size l hli its.toArray;refine codeAny_builtin PySem.F.entry_min_loop ?_
 rw[Around.under_plainId BC _];show Ar _ X.A.in1 (seqItems? (.ref _) >>= _) _ _ _;refine Ab (wpAny_seqItems gs rfl ?_);show Ar _ X.A.in1 (tryCatch (pyNext (.ref s.heap.objs.size)) _ >>= _) _ _ _;obtain⟨its2,rv2,pl2,_⟩:=I1.list hl;refine Ab (C6 (W.item 0 _ _ _ (by rw[Ao,hlen];exact hne) ⟨M0.iter,pl.isList.at λo e=>keep _ _ e⟩ λv h1 tk1 hP hst1 hk1=>?_));have hv:its[0]?=some v:=by simpa using hP
 obtain⟨x,hx⟩:∃x,xs[0]?=some x:=⟨_,Aa hne⟩;obtain⟨v',hv',rx⟩:=rv.get hx;rw[hv]at hv'
 cases hv'
 have M1:MK0 X pins σ H0 { s with heap:=h1,toks:=tk1 } s.heap.objs.size (s.heap.objs.size+1) l 1:=⟨I1.moved (t':=tk1) fi hk1,fi,fs,M0.ne,hst1.1,0,hk1 _ _ (by simp) gs⟩;show Ar _ X.A.in1 (tryCatch (Do [v] (call (.ref f) [v])) _ >>= _) _ _ _;refine Ab (C6 (A8 (BG (zkt F hr hb M1 rx (turn 0 x H0 hx (Same.refl _)) (E:=λ_ _=>False)) (λkv s2 he=>?_) λ_ _ hF=>hF.elim)));obtain⟨y,H2,ry,⟨hS2,a2,ey,ka2⟩,M2⟩:=he;subst ey
 cases (show kv=Av a2 from ry)
 obtain⟨c2,hc2⟩:=M2.hold;show Ar _ X.A.in1 (updateSeq (s.heap.objs.size+1) (λ_=>#[v,.ref a2]) >>= _) _ _ _;refine Ab ?_
 refine CQ hc2 rfl ?_
 rw[nm];refine Ah ⟨Dk BC _,?_⟩
 exact codeAny_mono (zkU hh F hr hb turn hl hli hQ _ 0 0 H2 _ v _ a2 rfl hne hS2 M2.set hx rx ka2 (Aj _) (λj hj=>by
  have e:j=0:=by lia
  subst e;exact⟨HT.lexLt_irrefl _,λz=>absurd z (Cp _)⟩)) λr s' hr'=>hr'
end
end L2
namespace RK
open PySem PySem.W PyProof.Rows
variable {n:Nat}{ans:Nat->Nat->Bool}
noncomputable def Pm(n:Nat)(p:Array Nat):Prop:=p.Perm (List.toArray (Ba n))
inductive Col:Ad->Ad->Int->Int->Prop where
 |int (a:Int) (t:Tok) (b:Int) (u:Tok):Col (.int a t) (.int b u) a b
 |bl (p q:Bool):Col (.bool p) (.bool q) (b2i p) (b2i q)
inductive Cols:List Ad->List Ad->List Int->List Int->Prop where
 |nil:Cols [] [] [] []
 |cons {u v:Ad} {us vs:List Ad} {a b:Int} {as bs:List Int}:Col u v a b->Cols us vs as bs->Cols (u::us) (v::vs) (a::as) (b::bs)
section
variable {prog:AJ}{w:A1}{A:AT}{s:Ae}{Q:Bool->Ae->Prop}
theorem zmO{u v:Ad}{a b:Int}(c:Col u v a b){E:Ad->Ae->Prop}(h:Q (decide (a=b)) s):Ar (Ax prog w) A (eqBool u v) Q E s:=by
 cases c with
 |int _ t _ u =>
  refine wpAny_eqBool_int ?_
  rw[show (a == b)=decide (a=b) from by rw[Bool.beq_eq_decide_eq]];exact h
 |bl p q =>
  refine SeqAt.EqAt.bool_bool p q prog w E Q ?_
  have e:(p == q)=decide (b2i p=b2i q):=by cases p <;> cases q <;> decide
  rw[e];exact h
theorem zob{u v:Ad}{a b:Int}(c:Col u v a b){E:Ad->Ae->Prop}(h:Q (decide (a<b)) s):Ar (Ax prog w) A (oneLt' false u v) Q E s:=by
 cases c with
 |int _ t _ u=>exact kat_one _ _ (lt_int (show W.BoolBack Q (.bool (decide (a<b))) s from h))
 |bl p q=>exact kat_one _ _ (lt_bool (show W.BoolBack Q (.bool (decide (b2i p<b2i q))) s from h))
theorem zi4{bb:Bool}:∀{us vs:List Ad}{as bs:List Int}(i:Nat),Cols us vs as bs->Q (HT.lexLt as bs) s->KatLex prog w A bb false Q (us.zip vs) (i+1) s
 |_,_,_,_,_,.nil,h=>kat_nil h
 |_,_,_,_,i,.cons (a:=a) (b:=b) (as:=as) (bs:=bs) c r,h=>by
  rw[HT.lexLt_cons]at h;refine kat_cons (zmO c ?_)
  by_cases e:a=b
  .rw[decide_eq_true e];rw[if_pos e]at h;exact kat_yes (zi4 (i+1) r h)
  .rw[decide_eq_false e];rw[if_neg e]at h;refine kat_no ?_
   rw[show (bb && (i+1 == 0))=false by simp];exact zob c h
theorem kat_cols0{us vs:List Ad}{as bs:List Int}{a b:Int}{t u:Tok}(r:Cols us vs as bs)(h:Q (HT.lexLt (a::as) (b::bs)) s):KatLex prog w A true false Q ((Da a t::us).zip (Da b u::vs)) 0 s:=by
 rw[HT.lexLt_cons]at h;refine kat_cons (zmO (.int a t b u) ?_)
 by_cases e:a=b
 .rw[decide_eq_true e];rw[if_pos e]at h;exact kat_yes (zi4 0 r h)
 .rw[decide_eq_false e];rw[if_neg e]at h;exact kat_no (oneLt_int h)
end
end RK
namespace L2
open PySem PySem.Spec PyProof.Rows
section
variable {X:Cx}{k:Nat}{f:Addr}{fd:Bo}{ps:List Str}{sp:Sp}{pins:List (Addr×Obj)}{σ:St}{H0:Hp}{Q:VK}
theorem Inv.adopt{H:Hp}{s:Ae}{D:Addr}{o:HO}{h':Heap}{t':Nat}(I:Inv X pins σ H s)(fb:FpOk X pins H D)(hk:∀b u, b ≠ D -> s.heap.get? b=some u -> h'.get? b=some u)(heo:∃u, h'.get? D=some u)
  (new:ObjOk X.prog X.w (upd H D o) h' D o):Inv X pins σ (upd H D o) { s with heap:=h',toks:=t' }:=by
 have hn:=fb.1;have nit:∀b u,H b=some u->b≠D:=λb u e z=>by rw[z,hn]at e;cases e
 refine I.step (g':=s.gens) (d':=s.drawn) (ch:=[D]) (λb hb=>?_) (λb u _ _ hc e _=>hk b u (λz=>hc (by simp[z])) e) (λb u _ _ hc e _=>⟨u.slots,hk b u (λz=>hc (by simp[z])) e⟩)
  (λb u hc _ n=>by rw[zaj (λz=>hc (by simp[z]))];exact n)
  (λb u hc e=>⟨u,hk b u (λz=>hc (by simp[z])) e⟩) (λb xs e=>by rw[zaj (nit _ _ e)];exact e) (λb u xs e=>by rw[zaj (nit _ _ e)];exact e) (λb ps e=>⟨#[],by rw[zaj (nit _ _ e),e];simp⟩) (λm hm=>?_) (λb u e=>?_) I.bare
 .have e:b=D:=by simpa using hb
  subst e;exact⟨fb.2.2.2.1,fb.2.1,fb.2.2.2.2.1,fb.2.2.2.2.2⟩
 .obtain⟨u,es,ep,ho,r⟩:=hm;exact⟨u,es,ep,hk _ u (Bu fb.2.1) ho,r⟩
 .by_cases hb:b=D
  .subst hb;rw[zaa]at e;cases e;exact new
  .rw[zaj hb]at e;refine (I.hok b u e).stay (λc v hc q=>hk c v ?_ q) (λc q=>by rw[zaj (nit _ _ q)];exact q) λc xs q=>by rw[zaj (nit _ _ q)];exact q
   rcases hc with z |z
   .rw[z];exact nit b u e
   .exact nit c _ z
theorem zmX{H:Hp}{s:Ae}{Q:VK}{us:List Ad}{vs:List V}{E:Ad -> Ae -> Prop}(F:FnOk X.prog X.w X.K X.mg X.base CX0 k f fd ps sp)(hr:Room (k + 1 + 1) X.A)(hb:Binds X.K fd ps [])
  (I:Inv X pins σ H s) (r:Vals vs us) (h:sp vs H Q E0):Ar (Ax X.prog X.w) X.A.in1.in1 (call (.ref f) us) (EP X pins σ Q) E s:=by
 have hl:(us++[]).length=ps.length:=by rw[BL,<- r.length];exact F.len _ _ _ _ h
 have hb':=hb s us I.kIn hl;rw[BL]at hb';refine wpAny_call (codeAny_mono (F.run X.A.in1.in1 X.stack s H ⟨us,[]⟩ us vs Q E0 hr.in1.in1 I.env0.in1.in1 hb' r h) λr s' hq=>?_)
 cases r with
 |error e=>exact Bt hq
 |ok fl =>
  cases fl with
  |ret u=>exact I.after hq
  |next=>exact Bt hq
  |brk=>exact Bt hq
  |cont=>exact Bt hq
noncomputable def zjn(X:Cx)(σ:St)(H0:Hp)(f:Addr)(xs:List V)(κV:Nat->List V):Prop:=∀(pins:List (Addr×Obj)) (i:Nat) (x:V) (u:Ad) (H:Hp) (s:Ae),xs[i]?=some x->Same H0 H->Inv X pins σ H s->RelV x u ->
 Ar (Ax X.prog X.w) X.A.in1.in1 (call (.ref f) [u]) (EP X pins σ λv H'=>Same H H'/\∃a,v=.ref a/\SqT X.K H' a (κV i)) (λ_ _=>False) s
theorem zn0{xs:List V}{κV:Nat -> List V}(F:FnOk X.prog X.w X.K X.mg X.base CX0 k f fd ps sp)(hr:Room (k + 1 + 1) X.A)(hb:Binds X.K fd ps [])
  (turn:∀i x H,xs[i]?=some x->Same H0 H->sp [x] H (λv H'=>Same H H'/\∃a,v=.ref a/\SqT X.K H' a (κV i)) E0):zjn X σ H0 f xs κV :=
 λ_ i x _ H _ hx hS I ru=>zmX F hr hb I (.cons ru .nil) (turn i x H hx hS)
inductive VCol:V->V->Int->Int->Prop where
 |int (a b:Int):VCol (.int a) (.int b) a b
 |bl (p q:Bool):VCol (.bl p) (.bl q) (b2i p) (b2i q)
inductive VCols:List V->List V->List Int->List Int->Prop where
 |nil:VCols [] [] [] []
 |cons {x y:V} {xs ys:List V} {a b:Int} {as bs:List Int}:VCol x y a b->VCols xs ys as bs->VCols (x::xs) (y::ys) (a::as) (b::bs)
theorem VCols.vals:∀{xs ys:List V}{as bs:List Int}{us vs:List Ad},VCols xs ys as bs->Vals xs us->Vals ys vs->RK.Cols us vs as bs
  |_,_,_,_,_,_,.nil,.nil,.nil=>.nil
  |_, _, _, _, _, _, .cons c r, .cons h t, .cons g q => .cons (by
      cases c with
      |int a b=>obtain⟨t,rfl⟩:=h;obtain⟨u,rfl⟩:=g;exact .int _ _ _ _
      |bl p q=>cases h;cases g;exact .bl _ _) (r.vals t q)
structure SK (X:Cx) (pins:List (Addr×Obj)) (σ:St) (H:Hp) (s:Ae) (D st:Addr) (e:Nat) (κV:Nat->List V) (ks:List Addr):Prop where
 inv:Inv X pins σ H s
 fd:FpOk X pins H D
 fs:FpOk X pins H st
 ne:st≠D
 hd:s.heap.get? D=some (Bq "list" #[] e)
 hs:∃c,s.heap.get? st=some (Bq "list" (ks.map Av).toArray c)
 hk:∀i a,ks[i]?=some a->SqT X.K H a (κV i)
theorem zi7{M:Model}{A:AT}{E:Ad -> Ae -> Prop}{body:Ad -> PUnit -> Sem (ForInStep PUnit)}{vs:List Ad}(P:Nat -> Ae -> Prop)
  (hb:∀i x s,vs[i]?=some x->P i s->Ar M A (body x ⟨⟩) (λr s'=>r=.yield ⟨⟩/\P (i+1) s') E s):∀(r:List Ad) (i:Nat) (s:Ae),vs.drop i=r->i<=vs.length->P i s ->
   Ar M A (forIn r PUnit.unit body) (λ_ s'=>P vs.length s') E s
 |[],i,s,hr,hi,h=>by
  rw[List.forIn_nil];have:vs.length<=i:=List.drop_eq_nil_iff.mp hr;exact Ah (by rw[show vs.length=i by lia];exact h)
 |x::r,i,s,hr,hi,h=>by
  have hx:vs[i]?=some x:=by have:=congrArg (·[0]?) hr;simpa using this
  have hlt:i<vs.length:=(Ac.mp hx).1;have hr':vs.drop (i+1)=r:=by rw[<- List.tail_drop,hr];rfl
  rw[List.forIn_cons];refine Ab (BG (hb i x s hx h) (λq s' hq=>?_) λ_ _ e=>e);obtain⟨rfl,h'⟩:=hq;exact zi7 P hb r (i+1) s' hr' hlt h'
end
section
variable {X:Cx}{pins:List (Addr×Obj)}{σ:St}{H:Hp}{s:Ae}{D st:Addr}{e:Nat}{κV:Nat->List V}{ks:List Addr}{E:Ad->Ae->Prop}
noncomputable def zjp(X:Cx)(G:Array Nat->Prop)(ks vs:List Ad)(E:Ad->Ae->Prop)(s:Ae):Prop :=
 Ar (Ax X.prog X.w) X.A.in1.in1 (keyKind' ks.toArray) (λκ s0=>s0=s /\
  Ar (Ax X.prog X.w) X.A.in1.in1 ((sortRuns').run (SortSt.mk' κ (ks.toArray.zip vs.toArray) #[] 7 none)) (λr s'=>s'=s/\CS r.2=none/\∃p:Array Nat,G p/\p.size=vs.length/\AQ r.2=p.map (C7 (ks.toArray.zip vs.toArray))) E s) E s
theorem zk2{as:List Addr}(I:Inv X pins σ H s):∀{ks:List Addr}{vs:List (List V)}{ns:List Int}, (∀(i:Nat) (a:Addr), ks[i]? = some a -> ∃n r, ns[i]? = some n /\ SqT X.K H a (.int n :: r)) -> ns.length=ks.length ->
  ∃fs:List Ad,W.KatTups s.heap (ks.map Av) fs/\fs.length=ks.length/\∀v∈fs,∃n t,v=Da n t
 |[],_,_,_,_=>⟨[],.nil,rfl,λ_ h=>nomatch h⟩
 |a::r,vs,[],_,h=>by cases h
 |a::r,vs,n::ns,hk,h=>by
  obtain⟨m,q,e1,hq⟩:=hk 0 a rfl;obtain⟨fs,t,hl,hi⟩:=zk2 (as:=as) (vs:=vs) I (ks:=r) (ns:=ns) (λi b hb=>by simpa using hk (i+1) b (by simpa using hb)) (by simpa using h);obtain⟨its,rv,⟨o,ho,hc,c,hd⟩,_⟩:=I.tuple hq
  cases rv with
  |cons rx rr =>
   obtain⟨t1,rfl⟩:=rx;refine⟨Da m t1::fs,.cons ho hc hd (by simp) t,by simp[hl],λv hv=>?_⟩;rcases Aw.mp hv with rfl |hv
   .exact⟨_,_,rfl⟩
   .exact hi v hv
end
section
variable {X:Cx}{k:Nat}{f:Addr}{fd:Bo}{ps:List Str}{sp:Sp}{pins:List (Addr×Obj)}{σ:St}{H0 H:Hp}{s:Ae}{D st l:Addr}{e:Nat}{κV:Nat->List V}{ks:List Addr}{E:Ad->Ae->Prop}{G:Array Nat->Prop}{xs:List V}{vs:List Ad}{Q:VK}
noncomputable def outV(xs:List V)(p:Array Nat):List V:=p.toList.map λi=>xs.getD i .non
theorem zjY{xs:List V}{vs:List Ad}(r:Vals xs vs)(i:Nat)(hi:i<xs.length):RelV (xs.getD i .non) (vs.getD i B3):=by
 have hx:xs[i]?=some xs[i]:=by simp[hi]
 obtain⟨u,hu,ru⟩:=r.get hx;rw[AI,hx,AI,hu];exact ru
theorem zit{xs:List V}{vs:List Ad}(r:Vals xs vs):∀(l:List Nat),(∀i∈l,i<xs.length)->Vals (l.map λi=>xs.getD i .non) (l.map λi=>vs.getD i B3)
 |[],_=>.nil
 |i::t,h=>.cons (zjY r i (h i AC)) (zit r t λj hj=>h j (At _ hj))
theorem zhV{p:Array Nat}:(outV xs p).length=p.size:=by unfold outV;simp
theorem zmU{P:PySem.Fin -> Ae -> Prop}{so:BX}{out:List Ad}{ys:List V}(K:SK X pins σ H s D st e κV ks)(hks:ks.length <= sizeLine)(ho:(AQ so).map (·.2)=out.toArray)(ry:Vals ys out)(hz:ys.length <= sizeLine)(hf:CS so=none)
  (h:∀s',Inv X pins σ (upd H D (.lst ys)) s'->P (.done (.ret .none)) s'):Ar (Ax X.prog X.w) X.A.in1.in1 (ksk_tail D false e (.ref st) so) P E s:=by
 obtain⟨c,hc⟩:=K.hs;have hzo:out.length<=sizeLine:=by rw[<- ry.length];exact hz
 have s1:=Br s.heap st (AM λ_=>(#[]:Array Ad));have hd1:(s.heap.update st (AM λ_=>(#[]:Array Ad))).get? D=some (Bq "list" #[] e):=(s1.2 D K.ne.symm).trans K.hd;have s2:=Br (s.heap.update st (AM λ_=>(#[]:Array Ad))) D (AM λ_=>out.toArray);obtain⟨c2,hc2⟩:∃c2,((s.heap.update st (AM λ_=>(#[]:Array Ad))).update D (AM λ_=>out.toArray)).get? D=some (Bq "list" out.toArray c2):=⟨_,Dt hd1 λ_=>out.toArray⟩;unfold ksk_tail
 try dsimp only
 rw[ho];refine Ab (listUpdate_at hc rfl ?_ (by simpa using hks) (A5 _));refine Ab (wpAny_letGo ?_);refine Ab (seqEpoch_at hd1 rfl ?_);simp only[BN,if_false];refine Ab (listUpdate_at hd1 rfl ?_ (A5 _) (by simp;lia));rw[hf];simp only[bne_self_eq_false,BN,if_false];refine Ah (h _ ?_);have I1:Inv X pins σ H { s with heap:=s.heap.update st (AM λ_=>(#[]:Array Ad)) }:=K.inv.moved (t':=s.toks) K.fs (λb o hb e=>(s1.2 b λz=>hb (by simp[z])).trans e);exact I1.adopt (t':=s.toks) K.fd (λb u hb q=>(s2.2 b hb).trans q) ⟨_,hc2⟩ ⟨hz,out,c2,ry,hc2⟩
theorem znC{P:PySem.Fin -> Ae -> Prop}(K:SK X pins σ H s D st e κV ks)(hl:ks.length=vs.length)(r:Vals xs vs)(hz:xs.length <= sizeLine)(hG:∀p, G p -> ∀i ∈ p.toList, i < xs.length)
  (h0:vs.length<2->G (List.toArray (Ba vs.length))) (core:2<=vs.length->zjp X G (ks.map Av) vs E s)
  (h:∀p s',G p->p.size=xs.length->Inv X pins σ (upd H D (.lst (outV xs p))) s'->P (.done (.ret .none)) s'):Ar (Ax X.prog X.w) X.A.in1.in1 (ksk_end D false vs.toArray e (.ref st) (ks.map Av).toArray) P E s:=by
 have hlx:xs.length=vs.length:=r.length;have hl':(ks.map Av).length=vs.length:=by simp[hl]
 have fin:∀(p:Array Nat) (so:BX),G p->p.size=vs.length->AQ so=p.map (C7 ((ks.map Av).toArray.zip vs.toArray))->CS so=none->Ar (Ax X.prog X.w) X.A.in1.in1 (ksk_tail D false e (.ref st) so) P E s:=λp so g hp ha hf =>
  zmU K (by lia) (W.kat_snds hl' ha) (ys:=outV xs p) (zit r _ (hG p g)) (by rw[zhV];lia) hf λs' I'=>h p s' g (by lia) I'
 unfold ksk_end
 try dsimp only
 simp only[BN,if_false]
 by_cases h2:vs.length<2
 .have h2':vs.toArray.size<2:=by simpa using h2
  rw[if_pos h2',if_pos h2'];refine Ab (Ah ?_);show Ar (Ax X.prog X.w) X.A.in1.in1 (pure ((),SortSt.mk' general' ((ks.map Av).toArray.zip vs.toArray) #[] 7 none) >>= _) P E s;refine Ab (Ah ?_)
  try dsimp only
  refine fin (List.toArray (Ba vs.length)) _ (h0 h2) (by simp) ?_ rfl;have:=W.kas_range ((ks.map Av).toArray.zip vs.toArray);rw[show ((ks.map Av).toArray.zip vs.toArray).size=vs.length by simp[hl]]at this;exact this.symm
 .have h2':¬ vs.toArray.size<2:=by simpa using h2
  rw[if_neg h2',if_neg h2'];refine Ab (BG (core (by lia)) (λκ s0 hk=>?_) λ_ _ z=>z);obtain⟨rfl,hk⟩:=hk;refine Ab (BG hk (λr' s' hr=>?_) λ_ _ z=>z);obtain⟨rfl,hf,p,g,hp,ha⟩:=hr;obtain⟨⟨⟩,so⟩:=r'
  try dsimp only
  exact fin p so g hp ha hf
theorem zmV{P:PySem.Fin -> Ae -> Prop}(F:zjn X σ H0 f xs κV)
    (K:SK X pins σ H0 s D st e κV []) (r:Vals xs vs) (hz:xs.length<=sizeLine)
    (h:∀H' s' ks,ks.length=vs.length->Same H0 H'->SK X pins σ H' s' D st e κV ks->Ar (Ax X.prog X.w) X.A.in1.in1 (ksk_end D false vs.toArray e (.ref st) (ks.map Av).toArray) P E s') :
    Ar (Ax X.prog X.w) X.A.in1.in1 (ksk_rest D (.ref f) false vs.toArray e (.ref st)) P E s:=by
  have hlx:xs.length=vs.length:=r.length;unfold ksk_rest;refine Ab (C4 ?_);rw[List.forIn_toArray];refine Ab (BG (zi7 (vs:=vs) (λi s'=>∃H' ks,ks.length=i/\Same H0 H'/\SK X pins σ H' s' D st e κV ks) (λi x s1 hx hP=>?_) vs 0 s rfl (A5 _) ⟨H0,[],rfl,Same.refl _,K⟩) (λ_ s' hd=>?_) λ_ _ z=>z)
  . obtain⟨H1,ks,hkl,hS,K1⟩:=hP;have hi:i<xs.length:=by rw[hlx];exact (Ac.mp hx).1
    have hxx:xs[i]?=some xs[i]:=by simp[hi]
    obtain⟨u,hu,ru⟩:=r.get hxx;rw[hx]at hu
    cases hu
    obtain⟨c,hc⟩:=K1.hs
    have I1:Inv X (pins ++ zdM [D, st] s1.heap) σ H1 s1 := K1.inv.pinned (λb hb => by
        rcases Aw.mp hb with rfl |hb
        . exact K1.fd
        . rw[Am.mp hb];exact K1.fs) (λb hb=>by
        rcases Aw.mp hb with rfl |hb
        . exact⟨_,K1.hd,zcL⟩
        . rw[Am.mp hb];exact⟨_,hc,zcL⟩)
    refine Ab (wpAny_attempt (BG (F _ i _ _ H1 _ hxx hS I1 ru) (λv s2 hv=>?_) λ_ _ hF=>hF.elim));obtain⟨y,H2,I2,ry,hS2,a,ey,ka⟩:=hv;subst ey
    cases (show v=Av a from ry)
    have p1:=I2.pin (D,Bq "list" #[] e) (Au _ (Au _ (za1 (by simp) K1.hd)));have p2:=I2.pin (st,Bq "list" (ks.map Av).toArray c) (Au _ (Au _ (za1 (by simp) hc)));have sb:=Br s2.heap st (AM (·.push (Av a)));have ea:(ks.map Av).toArray.push (Av a)=((ks++[a]).map Av).toArray:=by simp
    obtain⟨c2,hc2⟩:∃c2,(s2.heap.update st (AM (·.push (Av a)))).get? st=some (Bq "list" ((ks++[a]).map Av).toArray c2):=⟨_,by rw[<- ea];exact Dt p2.1 (·.push (Av a))⟩
    try dsimp only
    refine Ab (listUpdate_at p2.1 rfl ?_ (by simp;lia) (by simp;lia));refine Ah ⟨rfl,H2,ks++[a],by simp[hkl],hS.trans hS2,I2.unpinned.moved (t':=s2.toks) (K1.fs.again p2.2.1) (λb o hb e=>(sb.2 b λz=>hb (by simp[z])).trans e),K1.fd.again p1.2.1,K1.fs.again p2.2.1,K1.ne,(sb.2 D K1.ne.symm).trans p1.1,⟨c2,hc2⟩,λj b hj=>?_⟩;rcases AL j ks.length with hjl |hjl
    . rw[As hjl]at hj;exact hS2.seqT (K1.hk j b hj)
    . rw[AF hjl]at hj
      have hj0:j-ks.length=0:=by have:=(Ac.mp hj).1;simp at this;lia
      rw[hj0]at hj
      cases AX hj
      rw[show j=i by lia];exact ka
  . obtain⟨H',ks,hkl,hS,K'⟩:=hd;obtain⟨c,hc⟩:=K'.hs
    try dsimp only
    refine Ab (listItems_at hc rfl ?_);exact h H' s' ks hkl hS K'
theorem zmT{P:PySem.Fin -> Ae -> Prop}{c0:Nat}(F:zjn X σ H0 f xs κV)
  (I:Inv X pins σ H0 s) (fb:FpOk X pins H0 D) (hd:s.heap.get? D=some (Bq "list" vs.toArray c0)) (r:Vals xs vs) (hz:xs.length<=sizeLine)
  (h:∀e H' s' ks st,ks.length=vs.length->Same H0 H'->SK X pins σ H' s' D st e κV ks->Ar (Ax X.prog X.w) X.A.in1.in1 (ksk_end D false vs.toArray e (.ref st) (ks.map Av).toArray) P E s') :
  Ar (Ax X.prog X.w) X.A.in1.in1 (ksk_tree D (.ref f) false) P E s:=by
 have hlx:xs.length=vs.length:=r.length;have s1:=Br s.heap D (AM λ_=>(#[]:Array Ad));obtain⟨e1,ho1⟩:∃e1,(s.heap.update D (AM λ_=>(#[]:Array Ad))).get? D=some (Bq "list" #[] e1):=⟨_,Dt hd λ_=>#[]⟩;have hDl:D<s.heap.objs.size:=Ay hd;unfold ksk_tree;refine Ab (listItems_at hd rfl ?_);refine Ab (listUpdate_at hd rfl ?_ (by simp;lia) (A5 _));refine Ab (seqEpoch_at ho1 rfl ?_);refine Ab (wpAny_newTuple ?_ (by simp;lia));refine Ab (wpAny_newList ?_ (A5 _));refine A8 ?_
 have I1:Inv X pins σ H0 { s with heap:=s.heap.update D (AM λ_=>(#[]:Array Ad)) }:=I.moved (t':=s.toks) fb (λb o hb e=>(s1.2 b λz=>hb (by simp[z])).trans e);have keep:∀b o,(s.heap.update D (AM λ_=>(#[]:Array Ad))).get? b=some o->(((s.heap.update D (AM λ_=>(#[]:Array Ad))).push (Bq "tuple" vs.toArray.toList.toArray 0)).push (Bq "list" #[] 0)).get? b=some o:=λb o q=>Ag _ (Ag _ q)
 have hsz:((s.heap.update D (AM λ_=>(#[]:Array Ad))).push (Bq "tuple" vs.toArray.toList.toArray 0)).objs.size=s.heap.objs.size+1:=by rw[size_push',Heap.size_update]
 have I2:Inv X pins σ H0 { s with heap:=((s.heap.update D (AM λ_=>(#[]:Array Ad))).push (Bq "tuple" vs.toArray.toList.toArray 0)).push (Bq "list" #[] 0) }:=I1.kept (t':=s.toks) keep;show Ar (Ax X.prog X.w) X.A.in1.in1 (ksk_rest D (.ref f) false vs.toArray _ (.ref ((s.heap.update D (AM λ_=>(#[]:Array Ad))).push (Bq "tuple" vs.toArray.toList.toArray 0)).objs.size)) P E { s with heap:=((s.heap.update D (AM λ_=>(#[]:Array Ad))).push (Bq "tuple" vs.toArray.toList.toArray 0)).push (Bq "list" #[] 0) };rw[hsz];have hss:(((s.heap.update D (AM λ_=>(#[]:Array Ad))).push (Bq "tuple" vs.toArray.toList.toArray 0)).push (Bq "list" #[] 0)).get? (s.heap.objs.size+1)=some (Bq "list" #[] 0):=by rw[<- hsz];exact Az _ rfl
 exact zmV F ⟨I2,fb,I.fpOk (DE _) (I.hok.fresh (DE _)),Nat.ne_of_gt (Nat.lt_succ_of_lt hDl),keep _ _ ho1,⟨0,by simpa using hss⟩,λi a ha=>by simp at ha⟩ r hz λH' s' ks a b c=>h _ H' s' ks _ a b c
end
section
variable {X:Cx}{k:Nat}{f:Addr}{fd:Bo}{ps:List Str}{sp:Sp}{pins:List (Addr×Obj)}{σ:St}{H0:Hp}{s:Ae}{l:Addr}{κV:Nat->List V}{G:Array Nat->Prop}{xs:List V}{Q:VK}
theorem zjP(F:zjn X σ H0 f xs κV)
  (hl:SqL X.K H0 l xs) (hG:∀p,G p->∀i∈p.toList,i<xs.length) (h0:xs.length<2->G (List.toArray (Ba xs.length)))
  (core:∀{vs:List Ad} {ks:List Addr} {H':Hp} {s':Ae} {D st:Addr} {e:Nat},Vals xs vs->SK X pins σ H' s' D st e κV ks->ks.length=vs.length->2<=vs.length->zjp X G (ks.map Av) vs X.xe s')
  (hQ:∀p D H',G p->p.size=xs.length->H0 D=none->Same H0 H'->H' D=some (.lst (outV xs p))->Q (.ref D) H') (I:Inv X pins σ H0 s) :
  Ar (Ax X.prog X.w) X.A (call (.builtin "sorted") [.ref l] [(BV "key",.ref f)]) (EP X pins σ Q) X.xe s:=by
 obtain⟨vs,r,pl,hz⟩:=I.list hl;have hlx:xs.length=vs.length:=r.length;refine call_function_entry_kw kind_sorted plain_sorted entry_sorted (ksk_s1 _ _) ?_
 unfold Builtin.«sorted»;refine Ab (m:=checkCount "sorted" 1 1 _) (Ah ?_);refine Ab (collect_list pl.isList ?_ (by first |lia | (rw[Ao];lia) | (simp;lia)));refine Ab (wpAny_newList ?_ (by first |lia | (rw[Ao];lia) | (simp;lia)));have hsz:((s.heap.push (Bq "list" #[] 0)).update s.heap.objs.size (AM (·++vs.toArray))).objs.size=s.heap.objs.size+1:=by rw[Heap.size_update,size_push']
 have hoL:(((s.heap.push (Bq "list" #[] 0)).update s.heap.objs.size (AM (·++vs.toArray))).push (Bq "list" vs.toArray 0)).get? (s.heap.objs.size+1)=some (Bq "list" vs.toArray 0):=by rw[<- hsz];exact Az _ rfl
 have keep:∀b o,s.heap.get? b=some o->(((s.heap.push (Bq "list" #[] 0)).update s.heap.objs.size (AM (·++vs.toArray))).push (Bq "list" vs.toArray 0)).get? b=some o:=λb o q=>by have hlt:b<s.heap.objs.size:=Ay q;rw[Heap.get?_push_ne _ _ _ (by rw[hsz];exact AR (Nat.lt_succ_of_lt hlt)),Heap.get?_update_ne _ _ _ _ (AR hlt),Heap.get?_push_ne _ _ _ (AR hlt)];exact q
 show Ar _ _ _ _ _ { s with heap:=((s.heap.push (Bq "list" #[] 0)).update s.heap.objs.size (AM (·++vs.toArray))).push (Bq "list" vs.toArray 0) };rw[hsz];refine Ab (A8 (wpAny_call_entry_kw slot_list_sort ⟨_,hoL,rfl⟩ entry_list_sort ?body (ksk_l1 _ _)))
 case body =>
  show Ar (Ax X.prog X.w) X.A.in1.in1 (Builtin.«list.sort» ⟨[.ref (s.heap.objs.size+1)],[(BV "key",.ref f)]⟩) _ _ _;rw[ksk_t1];have I1:Inv X pins σ H0 { s with heap:=((s.heap.push (Bq "list" #[] 0)).update s.heap.objs.size (AM (·++vs.toArray))).push (Bq "list" vs.toArray 0) }:=I.kept (t':=s.toks) keep;have hDn:H0 (s.heap.objs.size+1)=none:=I.hok.fresh (DE _);refine zmT F I1 (I.fpOk (DE _) hDn) hoL r hz λe H' s' ks st hks hS K=>?_
  refine znC K hks r hz hG (λh2=>by rw[<- hlx];exact h0 (by lia)) (core r K hks) λp s2 g hp I2=>⟨_,rfl,?_⟩
  refine Ah ⟨_,rfl,.ref (s.heap.objs.size+1),_,I2,rfl,hQ p _ _ g hp hDn (λb o q=>?_) zaa⟩;rw[zaj (zan q hDn)];exact hS b o q
end
section
variable {X:Cx}{x:Str}{p pos kp kpos:Pos}{e:Expr}{te:TE}{k:Nat}{f:Addr}{fd:Bo}{ps:List Str}{sp:Sp}{fn:Str}
noncomputable def tMinK(K:W.Frag)(te:TE)(sp:Sp):TE:=λσ H Q=>te σ H λv H1=>∃l xs,∃ κ:Nat->List Int,[v]=[V.ref l]/\SqL K H1 l xs/\0<xs.length /\
 (∀i x H2,xs[i]?=some x->Same H1 H2->sp [x] H2 (λv H'=>Same H2 H'/\∃a,v=.ref a/\SqT K H' a ((κ i).map V.int)) E0)/\∀i x H',xs[i]?=some x->Least κ xs.length i->Same H1 H'->Q x H'
theorem zm3 (F:FnOk X.prog X.w X.K X.mg X.base CX0 k f fd ps sp) (hr:Room (k + 1) X.A) (hb:Binds X.K fd ps []) (hg:Gl X "min") (hm:X.mg "min" = none) (hgf:Gl X fn) (hmf:X.mg fn=some (.ref f)) (he:PE X e te)
  (hdb:(fn == ("__debug__" : Str))=false:=by decide) (hse:A3 [e] X.env=[(false,eval e X.env)]:=by rfl) (hh:X.calm=true:=by rfl)
  (hall:(Dj pos (Cq [⟨some "key",.Name fn kp,kpos⟩] X.env)).all (·.1.isSome)=true:=by rfl) (hkw:(Dj pos (Cq [⟨some "key",.Name fn kp,kpos⟩] X.env)).any (·.1.isNone)=false:=by rfl)
  (hks:(Dj pos (Cq [⟨some "key",.Name fn kp,kpos⟩] X.env)).filterMap (·.1)=[BV "key"]:=by rfl) :
  PE X (.Call (.Name "min" p) [e] [⟨some "key",.Name fn kp,kpos⟩] pos) (tMinK X.K te sp):=by
 intro pins s σ H Q I h;refine B4 (zdp I hg hm boot_min ?_ (by decide) (by decide))
 refine callWith_kw (thn (zah he zab (hs:=hse) pos pins s σ H (λvs H1=>∃l xs,∃ κ:Nat->List Int,vs=[V.ref l]/\SqL X.K H1 l xs/\0<xs.length /\
  (∀i x H2,xs[i]?=some x->Same H1 H2->sp [x] H2 (λv H'=>Same H2 H'/\∃a,v=.ref a/\SqT X.K H' a ((κ i).map V.int)) E0)/\∀i x H',xs[i]?=some x->Least κ xs.length i->Same H1 H'->Q x H') I ?_) λus s1 ⟨vs,H1,I1,r,q⟩=>?_) (by rw[hse];rfl) (by rw[hse];rfl) hall hkw
 .show te σ H _;exact h
 .obtain⟨l,xs,κ,rfl,hq,hne,turn,hQ⟩:=q;obtain⟨u,rfl,ru⟩:=Vals.one r
  cases (show u=Av l from ru)
  refine thn (zkF (nm:=some "key") (kpos:=kpos) (zdE (v:=.ref f) hgf hmf rfl hdb) zmy pos pins s1 σ H1 (λzs H2=>zs=[.ref f]/\H2=H1) I1 ⟨rfl,rfl⟩) λws s2 ⟨zs,H2,I2,rz,q2⟩=>?_
  obtain⟨rfl,rfl⟩:=q2;obtain⟨u2,rfl,ru2⟩:=Vals.one rz
  cases (show u2=Av f from ru2)
  rw[hks];exact zlp (I1.ok.hd hh) F hr hb turn hq hne hQ I2
end
end L2
namespace TS
open PySem PyProof.Rows
structure LtOk (M:Model) (A:AT) (E:Ad->Ae->Prop) (s:Ae) (kd:Ci) (S:Keyed->Prop) (L:Keyed->Keyed->Bool):Prop where
 lt:∀x y,S x->S y->∀(st:BX) (Q:Option Bool->BX->Prop),kindOf st=kd->Q (some (L x y)) st->wpS M A E s (lt' x y) Q st
 tr:∀x y z,S x->S y->S z->L y x=false->L z y=false->L z x=false
 as:∀x y,S x->S y->L x y=true->L y x=false
section
variable {M:Model}{A:AT}{E:Ad->Ae->Prop}{s:Ae}{kd:Ci}{S:Keyed->Prop}{L:Keyed->Keyed->Bool}
theorem zir{arr:Array Keyed}{i:Nat}{x:Keyed}{st:BX}{Q:Keyed->BX->Prop}(h:arr[i]?=some x)(q:Q x st):wpS M A E s (elem' arr i) Q st:=by rw[elem'_eq,h];exact BD q
end
end TS
namespace TS
section
variable {α:Type}{le:α->α->Prop}
structure MI (le:α->α->Prop) (a b out:List α) (ia ib:Nat):Prop where
 ha:ia<=a.length
 hb:ib<=b.length
 perm:(out++a.drop ia++b.drop ib).Perm (a++b)
 sorted:out.Pairwise le
 lea:∀x∈out,∀y∈a.drop ia,le x y
 leb:∀x∈out,∀y∈b.drop ib,le x y
end
end TS
namespace TS
open PySem PyProof.Rows
noncomputable abbrev leOf(L:Keyed->Keyed->Bool):Keyed->Keyed->Prop:=λx y=>L y x=false
section
variable {M:Model}{A:AT}{E:Ad->Ae->Prop}{s:Ae}{kd:Ci}{S:Keyed->Prop}{L:Keyed->Keyed->Bool}
theorem LtOk.rf(O:LtOk M A E s kd S L){x:Keyed}(h:S x):L x x=false:=by
 cases q:L x x with
 |false=>rfl
 |true=>rw[O.as x x h h q]at q;cases q
structure Two (S:Keyed->Prop) (L:Keyed->Keyed->Bool) (a b:Array Keyed):Prop where
 sa:a.toList.Pairwise (leOf L)
 sb:b.toList.Pairwise (leOf L)
 Sa:∀x∈a.toList,S x
 Sb:∀x∈b.toList,S x
variable {a b:Array Keyed}{out:Array Keyed}{ia ib:Nat}
end
end TS
set_option maxHeartbeats 8000000
namespace TS
open PySem PyProof.Rows
section
variable {M:Model}{A:AT}{E:Ad->Ae->Prop}{s:Ae}{kd:Ci}{S:Keyed->Prop}{L:Keyed->Keyed->Bool}{a b out:Array Keyed}{ia ib:Nat}
noncomputable abbrev LH:=Option (Array Keyed)×Array Keyed×Nat×Nat×Nat×Nat×Nat
variable {Q:ForInStep LH->BX->Prop}{z:BX}{N mg ac bc:Nat}{x y:Keyed}
end
section
variable {M:Model}{A:AT}{E:Ad->Ae->Prop}{s:Ae}{kd:Ci}{S:Keyed->Prop}{L:Keyed->Keyed->Bool}{a b:Array Keyed}
end
end TS
set_option maxHeartbeats 8000000
namespace TS
open PySem PyProof.Rows
section
variable {α:Type}{le:α->α->Prop}
structure MJ (le:α->α->Prop) (a b r:List α) (na nb:Nat):Prop where
 ha:na<=a.length
 hb:nb<=b.length
 perm:(a.take na++b.take nb++r).Perm (a++b)
 sorted:r.Pairwise le
 lea:∀x∈a.take na,∀y∈r,le x y
 leb:∀x∈b.take nb,∀y∈r,le x y
end
end TS
set_option maxHeartbeats 8000000
namespace TS
open PySem PyProof.Rows
section
variable {M:Model}{A:AT}{E:Ad->Ae->Prop}{s:Ae}{kd:Ci}{S:Keyed->Prop}{L:Keyed->Keyed->Bool}{a b out:Array Keyed}{na nb:Nat}
end
end TS
set_option maxHeartbeats 8000000
namespace TS
open PySem PyProof.Rows
section
variable {M:Model}{A:AT}{E:Ad->Ae->Prop}{s:Ae}{kd:Ci}{S:Keyed->Prop}{L:Keyed->Keyed->Bool}{a b out:Array Keyed}{na nb:Nat}
end
end TS
set_option maxHeartbeats 8000000
namespace TS
open PySem PyProof.Rows
section
variable {M:Model}{A:AT}{E:Ad->Ae->Prop}{s:Ae}{kd:Ci}{S:Keyed->Prop}{L:Keyed->Keyed->Bool}{a b out:Array Keyed}{na nb:Nat}
noncomputable abbrev RH:=Option (Array Keyed)×Nat×Nat×Array Keyed×Nat×Nat×Nat
variable {Q:ForInStep RH->BX->Prop}{z:BX}{N mg ac bc:Nat}{x y:Keyed}
end
section
variable {M:Model}{A:AT}{E:Ad->Ae->Prop}{s:Ae}{kd:Ci}{S:Keyed->Prop}{L:Keyed->Keyed->Bool}{a b:Array Keyed}
end
end TS
namespace TS
open PySem PyProof.Rows
section
variable {M:Model}{A:AT}{E:Ad->Ae->Prop}{s:Ae}{kd:Ci}{S:Keyed->Prop}{L:Keyed->Keyed->Bool}
noncomputable def Seg(L:Keyed->Keyed->Bool)(a:Array Keyed)(lo n:Nat):Prop:=∀(i j:Nat) x y,i<=j->j<n->a[lo+i]?=some x->a[lo+j]?=some y->L y x=false
noncomputable def Rev(L:Keyed->Keyed->Bool)(a:Array Keyed)(lo n:Nat):Prop:=∀(i j:Nat) x y,i<=j->j<n->a[lo+i]?=some x->a[lo+j]?=some y->L x y=false
structure SB (kd:Ci) (S:Keyed->Prop) (st0 st:BX) (lo hi:Nat):Prop where
 kind:kindOf st=kd
 pend:CW st=CW st0
 fail:CS st=CS st0
 perm:(AQ st).Perm (AQ st0)
 out:∀k:Nat,k<lo∨hi<=k->(AQ st)[k]?=(AQ st0)[k]?
 all:∀(k:Nat) x,(AQ st)[k]?=some x->S x
theorem SB.size{st0 st:BX}{lo hi:Nat}(h:SB kd S st0 st lo hi):(AQ st).size=(AQ st0).size:=h.perm.size_eq
theorem zff(O:LtOk M A E s kd S L){st:BX}{i j:Nat}{x y:Keyed}{Q:Option Bool->BX->Prop}(hk:kindOf st=kd)(hi:(AQ st)[i]?=some x)(hj:(AQ st)[j]?=some y)(sx:S x)(sy:S y)(q:Q (some (L x y)) st):wpS M A E s (ltAt' i j) Q st:=by rw[ltAt'_eq];refine Bd (wpS_get ?_);refine Bd (zir hi ?_);refine Bd (zir hj ?_);exact O.lt x y sx sy st Q hk q
theorem zcE{st:BX}{i:Nat}(h:i<(AQ st).size):∃x,(AQ st)[i]?=some x:=⟨(AQ st)[i],by simp[h]⟩
theorem Seg.more(O:LtOk M A E s kd S L){a:Array Keyed}{lo n:Nat}{x y:Keyed}(hS:∀(k:Nat) x,a[k]?=some x->S x)(h:Seg L a lo (n+1))(hx:a[lo+n]?=some x)(hy:a[lo+(n+1)]?=some y)(hl:L y x=false):Seg L a lo (n+2):=by
 intro i j u v hij hj hu hv;rcases AL j (n+1) with q |q
 .exact h i j u v hij q hu hv
 .have ej:j=n+1:=by lia
  subst ej;rw[hy]at hv
  cases hv
  rcases AL i (n+1) with q2 |q2
  .have h1:=h i n u x (by lia) (by lia) hu hx;exact O.tr u x y (hS _ _ hu) (hS _ _ hx) (hS _ _ hy) h1 hl
  .have ei:i=n+1:=by lia
   subst ei;rw[hy]at hu
   cases hu
   exact O.rf (hS _ _ hy)
noncomputable def Blk(L:Keyed->Keyed->Bool)(a:Array Keyed)(lo n q:Nat):Prop:=∀(i j:Nat) x y,n-(q+1)<=i->i<n->n-(q+1)<=j->j<n->a[lo+i]?=some x->a[lo+j]?=some y->L x y=false
theorem SB.refl{st:BX}{lo hi:Nat}(hk:kindOf st=kd)(hS:∀(k:Nat) x,(AQ st)[k]?=some x->S x):SB kd S st st lo hi:=⟨hk,rfl,rfl,Array.Perm.refl _,λ_ _=>rfl,hS⟩
theorem SB.mir{st0 st:BX}{lo hi i j:Nat}(h:SB kd S st0 st lo hi)(h1:lo<=i)(h2:j<=hi)(hz:j<=(AQ st).size):SB kd S st0 (setArr st (mirror (AQ st) i j ((j-i) / 2))) lo hi:=by
 refine⟨h.kind,h.pend,h.fail,(mirror_perm _ _ _ _).trans h.perm,λk hk=>?_,λk x hx=>?_⟩
 .show (mirror (AQ st) i j ((j-i) / 2))[k]?=_;rw[Bs hz,if_neg (by lia)];exact h.out k hk
 .have hx':(mirror (AQ st) i j ((j-i) / 2))[k]?=some x:=hx;rw[Bs hz]at hx';split at hx'
  .exact h.all _ x hx'
  .exact h.all _ x hx'
theorem Rev.blk{a:Array Keyed}{lo n q:Nat}(h:Rev L a lo n)(hb:Blk L a lo n q)(hq:q<n)(hz:lo+n<=a.size):Rev L (mirror a (lo+n-(q+1)) (lo+n) ((lo+n-(lo+n-(q+1))) / 2)) lo n:=by
 intro i j x y hij hj hx hy;rw[Bs hz]at hx hy
 by_cases hi:lo+n-(q+1)<=lo+i/\lo+i<lo+n
 .rw[if_pos hi]at hx;rw[if_pos (by lia)]at hy;rw[show lo+n-(q+1)+(lo+n)-1-(lo+i)=lo+(n-(q+1)+n-1-i) by lia]at hx;rw[show lo+n-(q+1)+(lo+n)-1-(lo+j)=lo+(n-(q+1)+n-1-j) by lia]at hy;exact hb _ _ x y (by lia) (by lia) (by lia) (by lia) hx hy
 .rw[if_neg hi]at hx
  by_cases hj':lo+n-(q+1)<=lo+j/\lo+j<lo+n
  .rw[if_pos hj']at hy;rw[show lo+n-(q+1)+(lo+n)-1-(lo+j)=lo+(n-(q+1)+n-1-j) by lia]at hy;exact h i _ x y (by lia) (by lia) hx hy
  .rw[if_neg hj']at hy;exact h i j x y hij hj hx hy
theorem Rev.flip{a:Array Keyed}{lo n:Nat}(h:Rev L a lo n)(hz:lo+n<=a.size):Seg L (mirror a lo (lo+n) ((lo+n-lo) / 2)) lo n:=by intro i j x y hij hj hx hy;rw[Bs hz,if_pos (by lia)]at hx hy;rw[show lo+(lo+n)-1-(lo+i)=lo+(n-1-i) by lia]at hx;rw[show lo+(lo+n)-1-(lo+j)=lo+(n-1-j) by lia]at hy;exact h _ _ y x (by lia) (by lia) hy hx
theorem Rev.more(O:LtOk M A E s kd S L){a:Array Keyed}{lo n:Nat}{x y:Keyed}(hS:∀(k:Nat) x,a[k]?=some x->S x)(h:Rev L a lo (n+1))(hx:a[lo+n]?=some x)(hy:a[lo+(n+1)]?=some y)(hl:L x y=false):Rev L a lo (n+2):=by
 intro i j u v hij hj hu hv;rcases AL j (n+1) with q |q
 .exact h i j u v hij q hu hv
 .have ej:j=n+1:=by lia
  subst ej;rw[hy]at hv
  cases hv
  rcases AL i (n+1) with q2 |q2
  .have h1:=h i n u x (by lia) (by lia) hu hx;exact O.tr y x u (hS _ _ hy) (hS _ _ hx) (hS _ _ hu) hl h1
  .have ei:i=n+1:=by lia
   subst ei;rw[hy]at hu
   cases hu
   exact O.rf (hS _ _ hy)
theorem Blk.more(O:LtOk M A E s kd S L){a:Array Keyed}{lo n q:Nat}{x y:Keyed}(hS:∀(k:Nat) x,a[k]?=some x->S x)(h:Blk L a lo (n+1) q)(hq:q<n+1)(hx:a[lo+n]?=some x)(hy:a[lo+(n+1)]?=some y)(h1:L x y=false)(h2:L y x=false):Blk L a lo (n+2) (q+1):=by
 have old:∀(i:Nat) u,n+1-(q+1)<=i->i<n+1->a[lo+i]?=some u->L u y=false/\L y u=false:=λi u a1 a2 hu=>by have e1:=h i n u x a1 a2 (by lia) (by lia) hu hx;have e2:=h n i x u (by lia) (by lia) a1 a2 hx hu;exact⟨O.tr y x u (hS _ _ hy) (hS _ _ hx) (hS _ _ hu) h1 e1,O.tr u x y (hS _ _ hu) (hS _ _ hx) (hS _ _ hy) e2 h2⟩
 intro i j u v a1 a2 b1 b2 hu hv;rcases AL i (n+1) with ci |ci
 .rcases AL j (n+1) with cj |cj
  .exact h i j u v (by lia) ci (by lia) cj hu hv
  .have ej:j=n+1:=by lia
   subst ej;rw[hy]at hv;cases hv;exact (old i u (by lia) ci hu).1
 .have ei:i=n+1:=by lia
  subst ei;rw[hy]at hu;cases hu;rcases AL j (n+1) with cj |cj
  .exact (old j v (by lia) cj hv).2
  .have ej:j=n+1:=by lia
   subst ej;rw[hy]at hv;cases hv;exact O.rf (hS _ _ hy)
theorem Blk.one(O:LtOk M A E s kd S L){a:Array Keyed}{lo n:Nat}(hS:∀(k:Nat) x,a[k]?=some x->S x):Blk L a lo (n+1) 0:=λi j x y a1 a2 b1 b2 hx hy=>by
 have ei:i=n:=by lia
 have ej:j=n:=by lia
 subst ei;subst ej;rw[hx]at hy;cases hy;exact O.rf (hS _ _ hx)
theorem zgI{B:Prop}{D:BX->Prop}(C:BX->Prop)(g:(∀st,D st->C st)->B)(h:∀st,D st->C st):B:=g h
theorem zgr (O : LtOk M A E s kd S L){st : BX}{lo nrem : Nat}{Q : Option Nat → BX → Prop}(h1 : 1 ≤ nrem) (hz : lo + nrem ≤ (AQ st).size) (hk : kindOf st = kd) (hS : ∀ (k : Nat) x, (AQ st)[k]? = some x → S x)
    (hQ:∀ m st',SB kd S st st' lo (lo+nrem)→1≤m→m≤nrem→Seg L (AQ st') lo m→Q (some m) st'):wpS M A E s (countRun' lo nrem) Q st:=by
  rw[countRun'_eq]
  refine Bd (wpS_mono (Dc (I:=λx c st'=>c=(none,x)∧st'=st∧x≤nrem∧Seg L (AQ st) lo x)
    (Q:=λc st'=>∃ m,c=(none,m)∧st'=st∧1≤m∧m≤nrem∧Seg L (AQ st) lo m∧(m<nrem→∃ x y,(AQ st)[lo+m]?=some x∧(AQ st)[lo+m - 1]?=some y∧L x y=true)) ?step ?fin ?init) ?post)
  case init =>
    refine⟨rfl,rfl,h1,λi j x y hij hj hx hy=>?_⟩
    have ei:i=0:=by lia
    have ej:j=0:=by lia
    subst ei;subst ej
    rw[hx] at hy
    cases hy
    exact O.rf (hS _ _ hx)
  case fin =>
    rintro c st' ⟨rfl,rfl,hle,hsg⟩
    exact⟨_,rfl,rfl,by lia,hle,hsg,λh=>absurd h (by lia)⟩
  case step =>
    rintro n c st' hn1 hn2 ⟨rfl,rfl,hle,hsg⟩
    obtain⟨x,hx⟩:=zcE (st:=st') (i:=lo+n) (by lia)
    obtain⟨y,hy⟩:=zcE (st:=st') (i:=lo+n - 1) (by lia)
    refine Bd (zff O hk hx hy (hS _ _ hx) (hS _ _ hy) ?_)
    dsimp only
    by_cases hl:L x y=true
    . rw[if_pos hl]
      exact BD ⟨n,rfl,rfl,hn1,hle,hsg,λ_=>⟨x,y,hx,hy,hl⟩⟩
    . rw[if_neg hl]
      refine BD ⟨rfl,rfl,hn2,?_⟩
      obtain⟨p,rfl⟩:∃ p,n=p+1:=⟨n - 1,by lia⟩
      exact hsg.more O hS (by rw[show lo+(p+1) - 1=lo+p by lia] at hy;exact hy) hx (by simpa using hl)
  case post =>
    rintro c st' ⟨m,rfl,rfl,hm1,hm2,hsg,hnx⟩
    dsimp only
    by_cases hmn:(m == nrem)=true
    . rw[if_pos hmn]
      exact BD (hQ m st' (SB.refl hk hS) hm1 hm2 hsg)
    . rw[if_neg hmn]
      have hlt : m < nrem := by have : m ≠ nrem := by simpa using hmn
                                lia
      obtain⟨x0,y0,hx0,hy0,hl0⟩:=hnx hlt
      refine zgI (D:=λst1=>SB kd S st' st1 lo (lo+nrem)∧Rev L (AQ st1) lo m∧(∃ x y,(AQ st1)[lo+m]?=some x∧(AQ st1)[lo+m - 1]?=some y∧L y x=false)) ?C (λshare=>?g) ?h
      case g =>
        by_cases hm:m > 1
        . rw[if_pos hm]
          obtain⟨a,ha⟩:=zcE (st:=st') (i:=lo) (by lia)
          obtain⟨b,hb⟩:=zcE (st:=st') (i:=lo+m - 1) (by lia)
          refine Bd (zff O hk ha hb (hS _ _ ha) (hS _ _ hb) ?_)
          dsimp only
          by_cases hr:L a b=true
          . rw[if_pos hr]
            exact BD (hQ m st' (SB.refl hk hS) hm1 hm2 hsg)
          . rw[if_neg hr]
            have hr':L a b=false:=by simpa using hr
            rw[reverseSlice'_eq]
            refine Bd (wpS_modify ?_)
            have hz2:lo+m≤(AQ st').size:=by lia
            have hb':(AQ st')[lo+(m - 1)]?=some b:=by rw[show lo+(m - 1)=lo+m - 1 by lia];exact hb
            have eqv:Rev L (AQ st') lo m:=λi j x y hij hj hx hy=>by
              have e1:=hsg 0 j a y (by lia) hj (by simpa using ha) hy
              have e2:=hsg i (m - 1) x b (by lia) (by lia) hx hb'
              have e3:=O.tr x b a (hS _ _ hx) (hS _ _ hb) (hS _ _ ha) e2 hr'
              have e4:=hsg j (m - 1) y b (by lia) (by lia) hy hb'
              have e5:=hsg 0 i a x (by lia) (by lia) (by simpa using ha) hx
              exact O.tr y b x (hS _ _ hy) (hS _ _ hb) (hS _ _ hx) e4 (O.tr b a x (hS _ _ hb) (hS _ _ ha) (hS _ _ hx) hr' e5)
            have rv2:Rev L (mirror (AQ st') lo (lo+m) ((lo+m - lo) / 2)) lo m:=λi j x y hij hj hx hy=>by
              rw[Bs hz2,if_pos (by lia)] at hx hy
              rw[show lo+(lo+m) - 1 - (lo+i)=lo+(m - 1 - i) by lia] at hx
              rw[show lo+(lo+m) - 1 - (lo+j)=lo+(m - 1 - j) by lia] at hy
              exact hsg _ _ y x (by lia) (by lia) hy hx
            refine share _ ⟨(SB.refl hk hS).mir (Aj _) (by lia) hz2,rv2,x0,a,?_,?_,?_⟩
            . show (mirror (AQ st') lo (lo+m) ((lo+m - lo) / 2))[lo+m]?=_
              rw[Bs hz2,if_neg (by lia)];exact hx0
            . show (mirror (AQ st') lo (lo+m) ((lo+m - lo) / 2))[lo+m - 1]?=_
              rw[Bs hz2,if_pos (by lia),show lo+(lo+m) - 1 - (lo+m - 1)=lo by lia];exact ha
            . have eb:b=y0:=by rw[hb] at hy0;exact AX hy0
              subst eb
              exact O.tr x0 b a (hS _ _ hx0) (hS _ _ hb) (hS _ _ ha) (O.as x0 b (hS _ _ hx0) (hS _ _ hb) hl0) hr'
        . rw[if_neg hm]
          have em:m=1:=by lia
          subst em
          refine share _ ⟨SB.refl hk hS,λi j x y hij hj hx hy=>?_,x0,y0,hx0,hy0,O.as x0 y0 (hS _ _ hx0) (hS _ _ hy0) hl0⟩
          have ei:i=0:=by lia
          have ej:j=0:=by lia
          subst ei;subst ej
          rw[hx] at hy;cases hy
          exact O.rf (hS _ _ hx)
      case h =>
        rintro st1 ⟨sb1,rv1,x1,y1,hx1,hy1,hl1⟩
        have hz1:lo+nrem≤(AQ st1).size:=by rw[sb1.size];exact hz
        refine Bd (wpS_lift (C4 ⟨rfl,?_⟩))
        obtain⟨p,rfl⟩:∃ p,m=p+1:=⟨m - 1,by lia⟩
        rw[show lo+(p+1) - 1=lo+p by lia] at hy1
        have rv2:Rev L (AQ st1) lo (p+1+1):=rv1.more O sb1.all hy1 hx1 hl1
        refine Bd (wpS_mono (Dc (I:=λx c st2=>∃ q,c=(none,x,q)∧SB kd S st' st2 lo (lo+nrem)∧1≤x∧x≤nrem∧q<x∧Rev L (AQ st2) lo x∧Blk L (AQ st2) lo x q)
          (Q:=λc st2=>∃ x q,c=(none,x,q)∧SB kd S st' st2 lo (lo+nrem)∧1≤x∧x≤nrem∧q<x∧Rev L (AQ st2) lo x∧Blk L (AQ st2) lo x q) ?step ?fin ⟨0,rfl,sb1,by lia,by lia,by lia,rv2,Blk.one O sb1.all⟩) ?post)
        case fin =>
          rintro c st2 ⟨q,rfl,hh⟩
          exact⟨_,q,rfl,hh⟩
        case step =>
          rintro x c st2 hx1' hx2 ⟨q,rfl,sb2,hn1,hn2,hq,rv,bk⟩
          have hz2:lo+nrem≤(AQ st2).size:=by rw[sb2.size];exact hz
          obtain⟨u,hu⟩:=zcE (st:=st2) (i:=lo+x) (by lia)
          obtain⟨v,hv⟩:=zcE (st:=st2) (i:=lo+x - 1) (by lia)
          obtain⟨r,rfl⟩:∃ r,x=r+1:=⟨x - 1,by lia⟩
          rw[show lo+(r+1) - 1=lo+r by lia] at hv
          refine Bd (zff O sb2.kind hu (by rw[show lo+(r+1) - 1=lo+r by lia];exact hv) (sb2.all _ _ hu) (sb2.all _ _ hv) ?_)
          dsimp only
          by_cases hl:L u v=true
          . rw[if_pos hl]
            have hvu:=O.as u v (sb2.all _ _ hu) (sb2.all _ _ hv) hl
            by_cases hq0:q > 0
            . rw[if_pos hq0,reverseSlice'_eq]
              refine Bd (wpS_modify ?_)
              have hzr:lo+(r+1)≤(AQ st2).size:=by lia
              have sb3:=sb2.mir (i:=lo+(r+1) - (q+1)) (j:=lo+(r+1)) (by lia) (by lia) hzr
              have rv3:=rv.blk bk hq hzr
              refine BD ⟨0,rfl,sb3,by lia,by lia,by lia,?_,Blk.one O sb3.all⟩
              have hz3:r<r+1:=by lia
              obtain⟨v2,hv2⟩:=zcE (st:=setArr st2 (mirror (AQ st2) (lo+(r+1) - (q+1)) (lo+(r+1)) ((lo+(r+1) - (lo+(r+1) - (q+1))) / 2))) (i:=lo+r) (by show lo+r<(mirror (AQ st2) _ _ _).size;rw[mirror_size];lia)
              have hv2':(AQ st2)[lo+(r+1 - (q+1)+r - r)]?=some v2:=by
                have h0:(mirror (AQ st2) (lo+(r+1) - (q+1)) (lo+(r+1)) ((lo+(r+1) - (lo+(r+1) - (q+1))) / 2))[lo+r]?=some v2:=hv2
                rw[Bs hzr,if_pos (by lia),show lo+(r+1) - (q+1)+(lo+(r+1)) - 1 - (lo+r)=lo+(r+1 - (q+1)+r - r) by lia] at h0
                exact h0
              refine rv3.more O sb3.all hv2 (y:=u) ?_ ?_
              . show (mirror (AQ st2) (lo+(r+1) - (q+1)) (lo+(r+1)) ((lo+(r+1) - (lo+(r+1) - (q+1))) / 2))[lo+(r+1)]?=some u
                rw[Bs hzr,if_neg (by lia)];exact hu
              . exact O.tr u v v2 (sb2.all _ _ hu) (sb2.all _ _ hv) (sb2.all _ _ hv2') hvu (rv _ r v2 v (by lia) (by lia) hv2' hv)
            . rw[if_neg hq0]
              exact BD ⟨0,rfl,sb2,by lia,by lia,by lia,rv.more O sb2.all hv hu hvu,Blk.one O sb2.all⟩
          . rw[if_neg hl]
            have hl':L u v=false:=by simpa using hl
            refine Bd (zff O sb2.kind (by rw[show lo+(r+1) - 1=lo+r by lia];exact hv) hu (sb2.all _ _ hv) (sb2.all _ _ hu) ?_)
            dsimp only
            by_cases hg:L v u=true
            . rw[if_pos hg]
              exact BD ⟨r+1,q,rfl,sb2,hn1,hn2,hq,rv,bk⟩
            . rw[if_neg hg]
              have hg':L v u=false:=by simpa using hg
              exact BD ⟨q+1,rfl,sb2,by lia,by lia,by lia,rv.more O sb2.all hv hu hg',bk.more O sb2.all hq hv hu hg' hl'⟩
        case post =>
          rintro c st2 ⟨x,q,rfl,sb2,hx1',hx2,hq,rv,bk⟩
          dsimp only
          have hz2:lo+nrem≤(AQ st2).size:=by rw[sb2.size];exact hz
          refine zgI (D:=λst3=>SB kd S st' st3 lo (lo+nrem)∧Rev L (AQ st3) lo x) ?C2 (λshare=>?g2) ?h2
          case g2 =>
            by_cases hq0:q > 0
            . rw[if_pos hq0,reverseSlice'_eq]
              refine Bd (wpS_modify ?_)
              exact share _ ⟨sb2.mir (by lia) (by lia) (by lia),rv.blk bk hq (by lia)⟩
            . rw[if_neg hq0]
              exact share _ ⟨sb2,rv⟩
          case h2 =>
            rintro st3 ⟨sb3,rv3⟩
            have hz3:lo+nrem≤(AQ st3).size:=by rw[sb3.size];exact hz
            rw[reverseSlice'_eq]
            refine Bd (wpS_modify ?_)
            have sb4:=sb3.mir (i:=lo) (j:=lo+x) (Aj _) (by lia) (by lia)
            have sg4:=rv3.flip (show lo+x≤(AQ st3).size by lia)
            have sg5:Seg L (AQ (setArr st3 (mirror (AQ st3) lo (lo+x) ((lo+x - lo) / 2)))) lo x:=sg4
            generalize setArr st3 (mirror (AQ st3) lo (lo+x) ((lo+x - lo) / 2))=st4 at sb4 sg5
            have hz4:lo+nrem≤(AQ st4).size:=by rw[sb4.size];exact hz
            refine Bd (wpS_mono (Dc (I:=λn c st5=>c=(none,n)∧st5=st4∧n≤nrem∧Seg L (AQ st4) lo n) (Q:=λc st5=>∃ m,c=(none,m)∧st5=st4∧1≤m∧m≤nrem∧Seg L (AQ st4) lo m) ?step ?fin ⟨rfl,rfl,hx2,sg5⟩) ?post)
            case fin =>
              rintro c st5 ⟨rfl,rfl,hle,hsg⟩
              exact⟨_,rfl,rfl,by lia,hle,hsg⟩
            case step =>
              rintro n c st5 hn1 hn2 ⟨rfl,rfl,hle,hsg⟩
              obtain⟨u,hu⟩:=zcE (st:=st5) (i:=lo+n) (by lia)
              obtain⟨v,hv⟩:=zcE (st:=st5) (i:=lo+n - 1) (by lia)
              refine Bd (zff O sb4.kind hu hv (sb4.all _ _ hu) (sb4.all _ _ hv) ?_)
              dsimp only
              by_cases hl:L u v=true
              . rw[if_pos hl]
                exact BD ⟨n,rfl,rfl,by lia,hle,hsg⟩
              . rw[if_neg hl]
                refine BD ⟨rfl,rfl,hn2,?_⟩
                obtain⟨p,rfl⟩:∃ p,n=p+1:=⟨n - 1,by lia⟩
                exact hsg.more O sb4.all (by rw[show lo+(p+1) - 1=lo+p by lia] at hv;exact hv) hu (by simpa using hl)
            case post =>
              rintro c st5 ⟨n,rfl,rfl,h1n,hn2,hsg⟩
              exact BD (hQ n st5 sb4 h1n hn2 hsg)
end
end TS
namespace TS
open PySem PyProof.Rows
section
variable {M:Model}{A:AT}{E:Ad->Ae->Prop}{s:Ae}{kd:Ci}{S:Keyed->Prop}{L:Keyed->Keyed->Bool}
theorem SB.bub{st0 st:BX}{lo hi i d:Nat}(h:SB kd S st0 st lo hi)(h1:lo<=i-d)(hd:d<=i)(h2:i<hi)(hz:i<(AQ st).size):SB kd S st0 (setArr st (bubble (AQ st) i d)) lo hi:=by
 refine⟨h.kind,h.pend,h.fail,(bubble_perm _ _ _).trans h.perm,λk hk=>?_,λk x hx=>?_⟩
 .show (bubble (AQ st) i d)[k]?=_;rw[getElem?_bubble hz _ hd,if_neg (by lia),if_neg (by lia)];exact h.out k hk
 .have hx':(bubble (AQ st) i d)[k]?=some x:=hx;rw[getElem?_bubble hz _ hd]at hx';split at hx'
  .exact h.all _ x hx'
  .split at hx'
   .exact h.all _ x hx'
   .exact h.all _ x hx'
theorem Seg.ins(O:LtOk M A E s kd S L){a:Array Keyed}{lo k l:Nat}{p:Keyed}(hS:∀(k:Nat) x, a[k]? = some x -> S x)(h:Seg L a lo k)(hlk:l <= k)(hz:lo + k < a.size)(hp:a[lo + k]? = some p)
  (h1:∀(i:Nat) x,i<l->a[lo+i]?=some x->L p x=false) (h2:∀(i:Nat) x,l<=i->i<k->a[lo+i]?=some x->L p x=true):Seg L (bubble a (lo+k) (lo+k-(lo+l))) lo (k+1):=by
 have at':∀(i:Nat) x,i<k+1->(bubble a (lo+k) (lo+k-(lo+l)))[lo+i]?=some x->(i<l/\a[lo+i]?=some x)∨(i=l/\x=p)∨(l<i/\a[lo+(i-1)]?=some x):=λi x hi hx=>by
  rw[getElem?_bubble hz _ (by lia)]at hx
  by_cases e:lo+i=lo+k-(lo+k-(lo+l))
  .rw[if_pos e,hp]at hx;exact .inr (.inl ⟨by lia,(AX hx).symm⟩)
  .rw[if_neg e]at hx
   by_cases e2:lo+k-(lo+k-(lo+l))<lo+i/\lo+i<=lo+k
   .rw[if_pos e2,show lo+i-1=lo+(i-1) by lia]at hx;exact .inr (.inr ⟨by lia,hx⟩)
   .rw[if_neg e2]at hx;exact .inl ⟨by lia,hx⟩
 intro i j x y hij hj hx hy;have sp:=hS _ _ hp;rcases at' i x (by lia) hx with⟨a1,a2⟩ |⟨a1,a2⟩ |⟨a1,a2⟩
 .rcases at' j y hj hy with⟨b1,b2⟩ |⟨b1,b2⟩ |⟨b1,b2⟩
  .exact h i j x y hij (by lia) a2 b2
  .rw[b2];exact h1 i x a1 a2
  .exact h i (j-1) x y (by lia) (by lia) a2 b2
 .subst a2;rcases at' j y hj hy with⟨b1,b2⟩ |⟨b1,b2⟩ |⟨b1,b2⟩
  .lia
  .rw[b2];exact O.rf sp
  .exact O.as x y sp (hS _ _ b2) (h2 (j-1) y (by lia) (by lia) b2)
 .rcases at' j y hj hy with⟨b1,b2⟩ |⟨b1,b2⟩ |⟨b1,b2⟩
  .lia
  .lia
  .exact h (i-1) (j-1) x y (by lia) (by lia) a2 b2
theorem zeL(O:LtOk M A E s kd S L){st:BX}{lo n ok:Nat}{Q:Bool -> BX -> Prop}(hok : 1 <= ok)(hn:ok <= n)(hz:lo + n <= (AQ st).size)(hk:kindOf st=kd)(hS:∀(k:Nat) x, (AQ st)[k]? = some x -> S x)(hs:Seg L (AQ st) lo ok)
  (hQ:∀st',SB kd S st st' lo (lo+n)->Seg L (AQ st') lo n->Q true st'):wpS M A E s (binarySort' lo n ok) Q st:=by
 rw[binarySort'_eq];have em:max ok 1=ok:=by lia
 rw[em]
 refine Bd (wpS_mono (Dc (I:=λk c st'=>c=(none,())/\SB kd S st st' lo (lo+n)/\k<=n/\Seg L (AQ st') lo k)
  (Q:=λc st'=>c=(none,())/\SB kd S st st' lo (lo+n)/\Seg L (AQ st') lo n) ?step ?fin ⟨rfl,SB.refl hk hS,hn,hs⟩) ?post)
 case post =>
  rintro c st' ⟨rfl,sb,sg⟩;exact BD (hQ st' sb sg)
 case fin =>
  rintro c st' ⟨rfl,sb,hle,sg⟩;rw[show max ok n=n by lia]at sg;exact⟨rfl,sb,sg⟩
 case step =>
  rintro k c st' hk1 hk2 ⟨rfl,sb,hle,sg⟩;have hz':lo+n<=(AQ st').size:=by rw[sb.size];exact hz
  obtain⟨p,hp⟩:=zcE (st:=st') (i:=lo+k) (by lia);dsimp only
  refine Bd (wpS_mono (Dc (I:=λx c st2=>∃l r,c=(none,l,r)/\st2=st'/\l<=r/\r<=k/\r-l<=k-x/\(∀(i:Nat) z,i<l->(AQ st')[lo+i]?=some z->L p z=false)/\(∀(i:Nat) z,r<=i->i<k->(AQ st')[lo+i]?=some z->L p z=true))
   (Q:=λc st2=>∃l,c=(none,l,l)/\st2=st'/\l<=k/\(∀(i:Nat) z,i<l->(AQ st')[lo+i]?=some z->L p z=false)/\(∀(i:Nat) z,l<=i->i<k->(AQ st')[lo+i]?=some z->L p z=true)) ?step2 ?fin2 ⟨0,k,rfl,rfl,A5 _,Aj _,Aj _,(λi z h=>absurd h (Du _)),(λi z h1 h2=>absurd h2 (by lia))⟩) ?post2)
  case fin2 =>
   rintro c st2 ⟨l,r,rfl,rfl,h1,h2,h3,h4,h5⟩;have:l=r:=by lia
   subst this;exact⟨l,rfl,rfl,h2,h4,h5⟩
  case step2 =>
   rintro x c st2 _ hx ⟨l,r,rfl,rfl,h1,h2,h3,h4,h5⟩;dsimp only
   by_cases hlr:l ≥ r
   .rw[if_pos hlr];have:l=r:=by lia
    subst this;exact BD ⟨l,rfl,rfl,h2,h4,h5⟩
   .rw[if_neg hlr];obtain⟨u,hu⟩:=zcE (st:=st2) (i:=lo+(l+r) / 2) (by lia);refine Bd (zff O sb.kind hp hu (sb.all _ _ hp) (sb.all _ _ hu) ?_);dsimp only
    by_cases hl:L p u=true
    .rw[if_pos hl];refine BD ⟨l,(l+r) / 2,rfl,rfl,by lia,by lia,by lia,h4,λi z a1 a2 hz2=>?_⟩
     cases q:L p z with
     |true=>rfl
     |false =>
      have e1:=sg ((l+r) / 2) i u z a1 a2 hu hz2;have e2:=O.tr u z p (sb.all _ _ hu) (sb.all _ _ hz2) (sb.all _ _ hp) e1 q;rw[hl]at e2;cases e2
    .rw[if_neg hl];have hl':L p u=false:=by simpa using hl
     refine BD ⟨(l+r) / 2+1,r,rfl,rfl,by lia,by lia,by lia,λi z a1 hz2=>?_,h5⟩;have e1:=sg i ((l+r) / 2) z u (by lia) (by lia) hz2 hu;exact O.tr z u p (sb.all _ _ hz2) (sb.all _ _ hu) (sb.all _ _ hp) e1 hl'
  case post2 =>
   rintro c st2 ⟨l,rfl,rfl,h2,h4,h5⟩;dsimp only;rw[moveDown'_eq];refine Bd (wpS_modify (BD ⟨rfl,sb.bub (by lia) (by lia) (by lia) (by lia),by lia,?_⟩));exact sg.ins O sb.all h2 (by lia) hp h4 h5
end
end TS
set_option maxHeartbeats 8000000
namespace TS
open PySem PyProof.Rows
noncomputable def wr(a:Array Keyed)(o:Nat)(l:List Keyed)(k:Nat):Array Keyed:=(l.zipIdx k).foldl (λa (p:Keyed×Nat)=>a.setIfInBounds (o+p.2) p.1) a
section
variable {M:Model}{A:AT}{E:Ad->Ae->Prop}{s:Ae}{kd:Ci}{S:Keyed->Prop}{L:Keyed->Keyed->Bool}
structure SM (kd:Ci) (S:Keyed->Prop) (L:Keyed->Keyed->Bool) (st0 st:BX) (pd:Array (Nat×Nat×Nat)) (lo n:Nat):Prop where
 kind:kindOf st=kd
 pend:CW st=pd
 fail:CS st=none
 perm:(AQ st).Perm (AQ st0)
 out:∀k:Nat,k<lo∨lo+n<=k->(AQ st)[k]?=(AQ st0)[k]?
 all:∀(k:Nat) x,(AQ st)[k]?=some x->S x
 seg:Seg L (AQ st) lo n
end
end TS
set_option maxHeartbeats 8000000
namespace TS
open PySem PyProof.Rows
noncomputable abbrev Run:=Nat×Nat×Nat
section
variable {M:Model}{A:AT}{E:Ad->Ae->Prop}{s:Ae}{kd:Ci}{S:Keyed->Prop}{L:Keyed->Keyed->Bool}
noncomputable def Runs(L:Keyed->Keyed->Bool)(a:Array Keyed):List Run->Nat->Nat->Prop
 |[],x,y=>x=y
 |r::l,x,y=>r.1=x/\1<=r.2.1/\Seg L a r.1 r.2.1/\Runs L a l (x+r.2.1) y
structure PD (kd:Ci) (S:Keyed->Prop) (L:Keyed->Keyed->Bool) (a0:Array Keyed) (st:BX) (lo:Nat):Prop where
 kind:kindOf st=kd
 fail:CS st=none
 perm:(AQ st).Perm a0
 all:∀(k:Nat) x,(AQ st)[k]?=some x->S x
 runs:Runs L (AQ st) (CW st).toList 0 lo
end
end TS
namespace L2
open PySem PySem.Spec PyProof.Rows
section
variable {X:Cx}{pins:List (Addr×Obj)}{σ:St}{H:Hp}{s:Ae}{D st:Addr}{e:Nat}{κV:Nat->List V}{ks:List Addr}{E:Ad->Ae->Prop}
end
section
variable {X:Cx}{x:Str}{p pos kp kpos:Pos}{e:Expr}{te:TE}{k:Nat}{f:Addr}{fd:Bo}{ps:List Str}{sp:Sp}{fn:Str}
end
section
variable {prog:AJ}{w:A1}{A:AT}{R:Result->Ae->Prop}{s:Ae}
theorem zdZ{elt:Expr}{c0:Comprehension}{target iter:Expr}{ifs:List Expr}{rest:List Comprehension}{scope:Scope}{pos:Pos}{it acc:Ad}{env:Env}
  (h0:B9 (Ax prog w) A (.compLoop (.ListComp elt (c0::⟨target,iter,ifs,0⟩::rest) scope pos) 1 it acc env) R s)
  (h:Ar (Ax prog w) A (pyIter it) (λit' s'=>B9 (Ax prog w) A (.compLoop (.ListComp elt (c0::⟨target,iter,ifs,0⟩::rest) scope pos) 1 it' acc env) R s') (notedBy (Ax prog w) A env λx s'=>R (.error x) s') s) :
  B9 (Ax prog w) A (.compStart (.ListComp elt (c0::⟨target,iter,ifs,0⟩::rest) scope pos) 1 it acc env) R s:=by
 refine codeAny_of_tree ?_
 show Ar _ _ ((compStart (.ListComp elt (c0::⟨target,iter,ifs,0⟩::rest) scope pos) 1 it acc env).onRaise (λx=>do noteFrame x env;standAt theWindowsPlace)) _ _ s;refine wpAny_notedAt ?_
 unfold compStart;show Ar _ _ (ask >>= _) _ _ s;refine Ab (wpAny_askSetting (wpAny_ite ?_));split
 .first
   |exact Ah (And.intro rfl h0)
   |exact Ab (Ah (Ah (And.intro rfl h0)))
 .refine Ab (C4 ?_);show Ar _ _ (standAt iter.pos >>= _) _ _ s;exact Ab (B7 (Ab (BG h (λit' s' h'=>Ah (And.intro rfl h')) λ_ _ z=>z)))
end
section
variable {X:Cx}{osc:Scope}{N:List Str}{sc:Scope}{N':List Str}{sel:List (Option Nat)}{pos:Pos}{elt kx vx tg iter tg2 iter2:Expr}{ifs ifs2:List Expr}{wi wi2:TI}{g g2:TG}{tt tt2:TT}{te tk tv:TE}
noncomputable def tNest(wi2:TI)(g2:TG)(tb:TS):TS:=λD σ H=>wi2 σ H λJ H1=>zbR J g2 tb { nx:=D.nx,rt:=λ_ _=>False } σ H1
theorem zm5{Y:Cx}{p:Addr}(hc:Y.calm=true)(hx:Y.xe=λ_ _ => False)(hi2:PI Y tg2 iter2 wi2)(hg2:PG Y tg2 g2)(ht2:PTs Y ifs2 tt2)(he:PE Y elt te)(hs2:∀x, Bm iter2 Y.env x=pure x) :
  PB Y (do
   let x <- eval iter2 Y.env
   standAt iter2.pos
   let x <- Bm iter2 Y.env x
   let _ <- runOwn (.compStart (.ListComp elt [⟨tg,iter,ifs,0⟩,⟨tg2,iter2,ifs2,0⟩] sc pos) 1 (<- Do [x] (pyIter x)) (.ref p) Y.env) Y.env) (tNest wi2 g2 (tIfs tt2 (zb5 p te))):=by
 intro pins s σ H D I h;refine Ab (thn (hi2 pins s σ H _ I h) λv s1 h1=>?_);refine Ab (B7 ?_);rw[hs2];refine Ab (Ah ?_);refine Ab (A8 (thn h1 λitv s2 h2=>?_));obtain⟨it,fp,tn,J,H2,e,I2,T,st2,f2,h2⟩:=h2;subst e
 have loop:B9 (Ax Y.prog Y.w) Y.A (.compLoop (.ListComp elt [⟨tg,iter,ifs,0⟩,⟨tg2,iter2,ifs2,0⟩] sc pos) 1 (.ref it) (.ref p) Y.env) (λr s'=>match r with |.ok f=>Ar (Ax Y.prog Y.w) Y.A (pure ()) (λ_ s'=>∃ σ' H',Inv Y pins σ' H' s'/\D.nx σ' H') Y.xe s' |.error e=>cameBackBy (Ax Y.prog Y.w) Y.A Y.env Y.xe e s') s2 :=
  zdq (X:=Y) (p:=iter2.pos) (inner:=do let _ <- call (.builtin "list.append") [.ref p,<- eval elt Y.env]) rfl rfl rfl (λB {α t Q E s} h w=>by subst h;exact w) hc hx hg2 ht2 (zkI he) I2 T st2 f2 h2 λfl s' ⟨σ',H',I',_,q⟩=>Ah ⟨σ',H',I',q⟩
 refine Ab (wpAny_runOwn (zdZ loop (T.self _ 0 _ _ _ st2 loop)))
theorem zhn{env:Env}{it p:Addr} : compTurn (.ListComp elt [⟨tg, iter, ifs, 0⟩, ⟨tg2, iter2, ifs2, 0⟩] sc pos) 0 (.ref it) (.ref p) env=(do
   standAt iter.pos
   match <- pyNext (.ref it) with
   |none=>pure (.done .next)
   |some v =>
    Dp tg (.ref it) v
    assign tg env v
    let mut ok:=true
    for c in ifs do
     if ok then ok <- isTrue c env (eval c env)
    if ok then
     (do
      let x <- eval iter2 env
      standAt iter2.pos
      let x <- Bm iter2 env x
      let _ <- runOwn (.compStart (.ListComp elt [⟨tg,iter,ifs,0⟩,⟨tg2,iter2,ifs2,0⟩] sc pos) 1 (<- Do [x] (pyIter x)) (.ref p) env) env)
    again (.compLoop (.ListComp elt [⟨tg,iter,ifs,0⟩,⟨tg2,iter2,ifs2,0⟩] sc pos) 0 (.ref it) (.ref p) env)):=by
 unfold compTurn;simp only[bind_assoc,pure_bind];rfl
theorem zjL{it:Addr}{fp:List Addr}{tn:Nat -> Heap -> Prop}{J:It}(T:Turn X.prog X.w X.K tg J fp it tn)(hc:X.calm=true)(hg:InBlk X sc N' λY => PG Y tg g)(ht:InBlk X sc N' λY => PTs Y ifs tt)
  (hi2:InBlk X sc N' λY=>PI Y tg2 iter2 wi2) (hg2:InBlk X sc N' λY=>PG Y tg2 g2) (ht2:InBlk X sc N' λY=>PTs Y ifs2 tt2) (he:InBlk X sc N' λY=>PE Y elt te) (hs2:∀cl C x,Bm iter2 (CM sc cl C X.env) x=pure x) :
  ∀cl C s0 H0 ex p pins s σ H Dn R,Inv (blk X sc cl C N' s0 H0 ex) pins σ H s->tn 0 s.heap->(∀b∈fp,FpOk (blk X sc cl C N' s0 H0 ex) pins H b)->zbR J g (tIfs tt (tNest wi2 g2 (tIfs tt2 (zb5 p te)))) Dn σ H ->
   (∀fl s',(∃ σ' H',Inv (blk X sc cl C N' s0 H0 ex) pins σ' H' s'/\(∀b∈fp,H' b=none)/\Dn.nx σ' H')->R (.ok fl) s')->B9 (Ax X.prog X.w) X.A (.compLoop (.ListComp elt [⟨tg,iter,ifs,0⟩,⟨tg2,iter2,ifs2,0⟩] sc pos) 0 (.ref it) (.ref p) (CM sc cl C X.env)) R s :=
 λcl C s0 H0 ex p pins s σ H Dn R I st f W hR =>
  zdq (X:=blk X sc cl C N' s0 H0 ex) (p:=iter.pos) (inner:=do
   let x <- eval iter2 (CM sc cl C X.env)
   standAt iter2.pos
   let x <- Bm iter2 (CM sc cl C X.env) x
   let _ <- runOwn (.compStart (.ListComp elt [⟨tg,iter,ifs,0⟩,⟨tg2,iter2,ifs2,0⟩] sc pos) 1 (<- Do [x] (pyIter x)) (.ref p) (CM sc cl C X.env)) (CM sc cl C X.env))
   rfl rfl zhn (λB {α t Q E s} h w=>by subst h;exact w) hc rfl (hg _ _ _ _ _) (ht _ _ _ _ _) (zm5 (Y:=blk X sc cl C N' s0 H0 ex) hc rfl (hi2 _ _ _ _ _) (hg2 _ _ _ _ _) (ht2 _ _ _ _ _) (he _ _ _ _ _) (hs2 cl C)) I T st f W hR
noncomputable def zmW(wi:TI)(sel:List (Option Nat))(g:TG)(tt:TT)(wi2:TI)(g2:TG)(tt2:TT)(te:TE)(i:Nat):TS:=λD σ H=>wi σ H λJ H1=>∀p,H1 p=none ->
 zbR J g (tIfs tt (tNest wi2 g2 (tIfs tt2 (zb5 p te)))) { nx:=λ_ H'=>D.nx (σ.set i (some (.ref p))) H',rt:=λ_ _=>False } (selSt sel σ) (upd H1 p (.lst []))
theorem zkC{i:Nat}{x:Str}{px spos:Pos}(B:BlkOk osc N sc N' sel)(hnd:X.N.Nodup)(hi':X.N[i]? = some x)(hx:Loc X.env.scope x)(hi:PI X tg iter wi)(hg:InBlk X sc N' λY => PG Y tg g)(ht:InBlk X sc N' λY => PTs Y ifs tt)(hi2:InBlk X sc N' λY => PI Y tg2 iter2 wi2)(hg2:InBlk X sc N' λY => PG Y tg2 g2)(ht2:InBlk X sc N' λY => PTs Y ifs2 tt2)(he:InBlk X sc N' λY => PE Y elt te)(hs2:∀cl C x, Bm iter2 (CM sc cl C X.env) x=pure x)
  (hsw:swapsWith (.ListComp elt [⟨tg,iter,ifs,0⟩,⟨tg2,iter2,ifs2,0⟩] sc pos) (some (.Name x px)) spos.line X.env=pure true:=by rfl)
  (ho:X.env.scope=osc:=by rfl) (hN:X.N=N:=by rfl) (hc:X.calm=true:=by rfl) (hs:∀x,Bm iter X.env x=pure x:=by intro _;rfl)
  (hf:X.fn x=true∨X.env.scope.names.lookup x=some .local:=by first |exact .inl rfl |exact .inr rfl |assumption) :
  PS X (.Assign [.Name x px] (.ListComp elt [⟨tg,iter,ifs,0⟩,⟨tg2,iter2,ifs2,0⟩] sc pos) spos) (zmW wi sel g tt wi2 g2 tt2 te i):=by
 intro pins s σ H D I h;obtain⟨cl,Cl⟩:=zjh I.ok B ho;rw[exec_Assign_Name_used _ _ _ _ hsw];refine Ab (B7 (Ab ?_));show Ar _ X.A (do let _ <- comprehension (.ListComp elt [⟨tg,iter,ifs,0⟩,⟨tg2,iter2,ifs2,0⟩] sc pos) sc X.env _ (newList []) false (eval iter X.env) (some (assign (.Name x px) X.env))) _ _ s;refine Ab (thn (CH (use:=some (assign (.Name x px) X.env)) (Q:=λ_ s'=>SP X pins D .next s') rfl hs Cl.run B.kind B.names (thn (hi pins s σ H _ I h) λv s1 h1=>thn h1 λitv s2 h2=>?_)) λ_ s' hq=>Ah (Ah hq));obtain⟨it,fp,tn,J,H2,e,I2,T,st2,f2,h2⟩:=h2;subst e
 refine A6 (zdr (e:=.ListComp elt [⟨tg,iter,ifs,0⟩,⟨tg2,iter2,ifs2,0⟩] sc pos) (inner:=λ_ _=>pure ()) (D:=λp=>{ nx:=λ_ H'=>D.nx (σ.set i (some (.ref p))) H',rt:=λ_ _=>False }) (tb:=λp=>tNest wi2 g2 (tIfs tt2 (zb5 p te))) (use:=some (assign (.Name x px) X.env)) B ho hN hc (λacc env R s a b=>codeAny_compStart_list a b)
  (zjL (iter:=iter) (pos:=pos) T hc hg ht hi2 hg2 ht2 he hs2) I2 T st2 f2 zib rfl (h2 _ (I2.hok.fresh (Aj _))) (λC H' s' I3 fC hn hq=>?_) s2.toks cl Cl X.xe)
 obtain⟨m,hn⟩:=hn;obtain⟨_,hq⟩:=hq;show Ar _ X.A (assign (.Name x px) X.env (.ref s2.heap.objs.size)) _ _ _;refine wpAny_assign_Name (zea I3 hnd hi' hx (v:=.ref s2.heap.objs.size) rfl (λs4 I4 hch=>?_) hf);obtain⟨a,sb,ha⟩:=hch
 have nC:C≠a:=by
  rcases ha with z |z
  .rw[z];exact fC.2.1
  .exact λq=>fC.2.2.2.2.1 x a z q.symm
 refine⟨m,hn.sameBut sb nC,λh' hs'=>⟨_,H',I4.let_go fC hs',hq⟩⟩
end
end L2
namespace RP
noncomputable def mv(i:Nat):Int×Int:=([(1,0),(1,1),(0,1),(-1,1),(-1,0),(-1,-1),(0,-1),(1,-1)]:List (Int×Int)).getD i (0,0)
noncomputable abbrev Cell:=Int×Int
noncomputable def go(c:Cell)(i:Nat):Cell:=(c.1+(mv i).1,c.2+(mv i).2)
structure Edge where
 c:Cell
 w:Nat
 deriving DecidableEq
noncomputable def gap(e:Edge):Cell:=go e.c ((2*e.w+6) % 8)
noncomputable def stepB(C:Cell->Bool)(e:Edge):Option Nat :=
 if C (go e.c ((2*e.w+7) % 8))=true then some ((2*e.w+7) % 8) else if C (go e.c (2*e.w))=true then some (2*e.w) else none
noncomputable def slant:Option Nat->Bool
 |none=>false
 |some s=>s % 2 == 1
noncomputable def edgeB(e:Edge):Option Nat->Edge
 |none=>⟨e.c,(e.w+1) % 4⟩
 |some s=>if s % 2=1 then ⟨go e.c s,(e.w+3) % 4⟩ else ⟨go e.c s,e.w⟩
noncomputable def nxt(C:Cell->Bool)(e:Edge):Edge:=edgeB e (stepB C e)
noncomputable def IsE(C:Cell->Bool)(e:Edge):Prop:=e.w<4/\C e.c=true/\C (gap e)=false
noncomputable def prv(C:Cell->Bool)(f:Edge):Edge :=
 if C (go f.c ((2*f.w+5) % 8))=true then ⟨go f.c ((2*f.w+5) % 8),(f.w+1) % 4⟩
 else if C (go f.c ((2*f.w+4) % 8))=true then ⟨go f.c ((2*f.w+4) % 8),f.w⟩ else ⟨f.c,(f.w+3) % 4⟩
theorem way4{w:Nat}(h:w<4):w=0∨w=1∨w=2∨w=3:=by lia
noncomputable def mvAdd(a b d:Nat):Bool:=(mv a).1+(mv b).1 == (mv d).1 && (mv a).2+(mv b).2 == (mv d).2
noncomputable def mvNil(a b:Nat):Bool:=(mv a).1+(mv b).1 == 0 && (mv a).2+(mv b).2 == 0
theorem go_go{c:Cell}{a b d:Nat}(h:mvAdd a b d=true):go (go c a) b=go c d:=by unfold mvAdd at h;simp only[BQ,beq_iff_eq]at h;unfold go;exact Bj (by show c.1+(mv a).1+(mv b).1=c.1+(mv d).1;lia) (by show c.2+(mv a).2+(mv b).2=c.2+(mv d).2;lia)
theorem zcF{c:Cell}{a b:Nat}(h:mvNil a b=true):go (go c a) b=c:=by unfold mvNil at h;simp only[BQ,beq_iff_eq]at h;unfold go;exact Bj (by show c.1+(mv a).1+(mv b).1=c.1;lia) (by show c.2+(mv a).2+(mv b).2=c.2;lia)
theorem f1:∀w<4,mvAdd ((2*w+7) % 8) ((2*((w+3) % 4)+6) % 8) ((2*w+6) % 8)=true:=by decide
theorem f2:∀w<4,mvAdd (2*w) ((2*w+6) % 8) ((2*w+7) % 8)=true:=by decide
theorem f3:∀w<4,(2*((w+1) % 4)+6) % 8=2*w:=by decide
theorem f4:∀w<4,mvNil ((2*w+7) % 8) ((2*((w+3) % 4)+5) % 8)=true:=by decide
theorem f5:∀w<4,mvAdd (2*w) ((2*w+5) % 8) ((2*w+6) % 8)=true:=by decide
theorem f6:∀w<4,mvNil (2*w) ((2*w+4) % 8)=true:=by decide
theorem f7:∀w<4,(2*((w+1) % 4)+5) % 8=(2*w+7) % 8:=by decide
theorem f8:∀w<4,(2*((w+1) % 4)+4) % 8=(2*w+6) % 8:=by decide
theorem odd7(w:Nat):(2*w+7) % 8 % 2=1:=by lia
theorem zaI{C:Cell -> Bool}{e:Edge}(h:IsE C e) :
  (C (go e.c ((2*e.w+7) % 8))=true/\stepB C e=some ((2*e.w+7) % 8)/\nxt C e=⟨go e.c ((2*e.w+7) % 8),(e.w+3) % 4⟩) ∨
  (C (go e.c ((2*e.w+7) % 8))=false/\C (go e.c (2*e.w))=true/\stepB C e=some (2*e.w)/\nxt C e=⟨go e.c (2*e.w),e.w⟩) ∨
  (C (go e.c ((2*e.w+7) % 8))=false/\C (go e.c (2*e.w))=false/\stepB C e=none/\nxt C e=⟨e.c,(e.w+1) % 4⟩):=by
 unfold nxt stepB
 by_cases h1:C (go e.c ((2*e.w+7) % 8))=true
 .left;rw[if_pos h1];exact⟨h1,rfl,by simp only[edgeB];rw[if_pos (odd7 _)]⟩
 .right;have h1':C (go e.c ((2*e.w+7) % 8))=false:=by simpa using h1
  rw[if_neg h1]
  by_cases h2:C (go e.c (2*e.w))=true
  .left;rw[if_pos h2];exact⟨h1',h2,rfl,by simp only[edgeB];rw[if_neg (by lia)]⟩
  .right;rw[if_neg h2];exact⟨h1',by simpa using h2,rfl,rfl⟩
theorem zdN{C:Cell->Bool}{e:Edge}(h:IsE C e):IsE C (nxt C e):=by
 obtain⟨hw,hc,hg⟩:=id h;rcases zaI h with⟨h1,_,q⟩ |⟨h1,h2,_,q⟩ |⟨h1,h2,_,q⟩ <;> rw[q]
 .refine⟨AU _ (by decide),h1,?_⟩;unfold gap;rw[go_go (f1 _ hw)];exact hg
 .refine⟨hw,h2,?_⟩;unfold gap;rw[go_go (f2 _ hw)];exact h1
 .refine⟨AU _ (by decide),hc,?_⟩;unfold gap;simp only;rw[f3 _ hw];exact h2
theorem zkD{C:Cell->Bool}{e:Edge}(h:IsE C e):prv C (nxt C e)=e:=by
 obtain⟨hw,hc,hg⟩:=id h;unfold gap at hg;rcases zaI h with⟨h1,_,q⟩ |⟨h1,h2,_,q⟩ |⟨h1,h2,_,q⟩ <;> rw[q] <;> unfold prv <;> simp only
 .rw[zcF (f4 _ hw),if_pos hc];rw[show ((e.w+3) % 4+1) % 4=e.w by lia]
 .rw[go_go (f5 _ hw),hg,if_neg (by decide),zcF (f6 _ hw),if_pos hc]
 .rw[f7 _ hw,h1,if_neg (by decide),f8 _ hw,hg,if_neg (by decide)];rw[show ((e.w+1) % 4+3) % 4=e.w by lia]
theorem zex{C:Cell->Bool}{e f:Edge}(he:IsE C e)(hf:IsE C f)(h:nxt C e=nxt C f):e=f:=by rw[<- zkD he,<- zkD hf,h]
noncomputable def Chain(C:Cell->Bool)(b:Edge)(es:List Edge):Prop:=es[0]?=some b/\(∀i e f,es[i]?=some e->es[i+1]?=some f->f=nxt C e)/\(∀e∈es,IsE C e)/\es.Nodup
theorem Chain.start{C:Cell->Bool}{b:Edge}(h:IsE C b):Chain C b [b] :=
 ⟨rfl,λi e f _ h2=>by simp at h2,λe he=>by rw[Am.mp he];exact h,by simp⟩
theorem Chain.more{C:Cell->Bool}{b l:Edge}{es:List Edge}(h:Chain C b (es++[l]))(hn:nxt C l≠b):Chain C b ((es++[l])++[nxt C l]):=by
 obtain⟨h0,hs,hE,hnd⟩:=h;have hl:(es++[l])[es.length]?=some l:=by simp
 have lE:=hE l (by simp);refine⟨?_,λi e f h1 h2=>?_,λe he=>?_,?_⟩
 .rw[As (by simp)];exact h0
 .rcases AL (i+1) (es++[l]).length with hi |hi
  .rw[As (by lia)]at h1;rw[As hi]at h2;exact hs i e f h1 h2
  .have hi2:=(Ac.mp h2).1;simp at hi2 hi;have hi3:i=es.length:=by lia
   subst hi3;rw[As (by simp)]at h1;rw[hl]at h1
   cases h1
   rw[AF (by simp)]at h2;simp at h2;exact h2.symm
 .rcases AH.mp he with he |he
  .exact hE e he
  .rw[Am.mp he];exact zdN lE
 .rw[Ca];refine⟨hnd,by simp,λx hx y hy=>?_⟩;rw[Am.mp hy];intro e;subst e;obtain⟨i,hi,ei⟩:=AD hx;rcases Nat.eq_zero_or_pos i with rfl |hp
  .rw[Aa hi,ei]at h0;exact hn (AX h0)
  .have hi':i-1<(es++[l]).length:=by lia
   have e1:=hs (i-1) ((es++[l])[i-1]) (nxt C l) (Aa hi') (by rw[show i-1+1=i by lia,Aa hi,ei]);have e2:=zex lE (hE _ (AV hi')) e1;have e3:es.length=i-1:=(Cb (by simp) hnd).mp (by rw[hl,Aa hi',<- e2]);simp at hi;lia
theorem zaB{α:Type} [DecidableEq α]:∀{a b:List α},a.Nodup->(∀x∈a,x∈b)->a.length<=b.length
 |[],_,_,_=>A5 _
 |x::a,b,hn,hs=>by
  have hx:x∈b:=hs x AC
  have h1:=zaB (a:=a) (b:=b.erase x) (Cd.mp hn).2 (λy hy=>by refine (List.mem_erase_of_ne ?_).mpr (hs y (At _ hy));intro e;subst e;exact (Cd.mp hn).1 hy)
  rw[List.length_erase_of_mem hx]at h1;have:0<b.length:=List.length_pos_of_mem hx;simp only[A7];lia
noncomputable def sides(cs:List Cell):List Edge:=cs.flatMap λc=>(Ba 4).map λw=>⟨c,w⟩
theorem zbx(cs:List Cell):(sides cs).length=4*cs.length:=by
 unfold sides
 induction cs with
 |nil=>rfl
 |cons c r ih=>rw[List.flatMap_cons,An,ih];simp;lia
theorem zdo{cs:List Cell}{e:Edge}:e∈sides cs ↔ e.c∈cs/\e.w<4:=by
 unfold sides;rw[List.mem_flatMap];constructor
 .rintro⟨c,hc,h⟩;obtain⟨w,hw,rfl⟩:=Aq.mp h;exact⟨hc,Bx.mp hw⟩
 .rintro⟨hc,hw⟩;exact⟨e.c,hc,Aq.mpr ⟨e.w,Bx.mpr hw,rfl⟩⟩
noncomputable def isIn(cs:List Cell)(c:Cell):Bool:=decide (c∈cs)
theorem Chain.short{cs:List Cell}{b:Edge}{es:List Edge}(h:Chain (isIn cs) b es):es.length<=4*cs.length:=by rw[<- zbx];exact zaB h.2.2.2 λe he=>zdo.mpr ⟨of_decide_eq_true (h.2.2.1 e he).2.1,(h.2.2.1 e he).1⟩
noncomputable def allE(cs:List Cell):List Edge:=(sides cs).filter λe=>!isIn cs (gap e)
theorem zi0{cs:List Cell}{e:Edge}:e∈allE cs ↔ IsE (isIn cs) e:=by
 unfold allE;rw[List.mem_filter,zdo];unfold IsE isIn;constructor
 .rintro⟨⟨h1,h2⟩,h3⟩;exact⟨h2,decide_eq_true h1,by simpa using h3⟩
 .rintro⟨h1,h2,h3⟩;exact⟨⟨of_decide_eq_true h2,h1⟩,by simpa using h3⟩
noncomputable def dx(w:Nat):Int:=if w=0 then 1 else if w=2 then -1 else 0
noncomputable def dy(w:Nat):Int:=if w=1 then 1 else if w=3 then -1 else 0
noncomputable def px(e:Edge):Int:=e.c.1+(if e.w=1∨e.w=2 then 1 else 0)
noncomputable def py(e:Edge):Int:=e.c.2+(if e.w=2∨e.w=3 then 1 else 0)
theorem zg2{C:Cell->Bool}{e:Edge}(h:IsE C e):px (nxt C e)=px e+dx e.w/\py (nxt C e)=py e+dy e.w:=by
 have hw:=h.1
 rcases zaI h with⟨_,_,q⟩ |⟨_,_,_,q⟩ |⟨_,_,_,q⟩ <;> rw[q] <;> obtain⟨c,w⟩:=e <;> simp only at hw <;>
  rcases way4 hw with rfl |rfl |rfl |rfl <;> simp[px,py,dx,dy,go,mv] <;> lia
theorem znt{C:Cell->Bool}{e:Edge}(h:IsE C e):(nxt C e).w=(e.w+3) % 4∨(nxt C e).w=e.w∨(nxt C e).w=(e.w+1) % 4:=by
 rcases zaI h with⟨_,_,q⟩ |⟨_,_,_,q⟩ |⟨_,_,_,q⟩ <;> rw[q]
 .exact .inl rfl
 .exact .inr (.inl rfl)
 .exact .inr (.inr rfl)
noncomputable def Closed(C:Cell->Bool)(b:Edge)(es:List Edge):Prop:=Chain C b es/\∃l,es[es.length-1]?=some l/\nxt C l=b
theorem psum{C:Cell->Bool}{b:Edge}{es:List Edge}(h:Chain C b es):∀i e,es[i]?=some e->px e=px b+((es.take i).map λe=>dx e.w).sum/\py e=py b+((es.take i).map λe=>dy e.w).sum
 | 0,e,he=>by
  have h0:=h.1;rw[he]at h0
  cases h0
  simp
 |i+1,e,he=>by
  have hi:i+1<es.length:=(Ac.mp he).1;have h1:es[i]?=some es[i]:=Aa (by lia)
  obtain⟨a,c⟩:=psum h i _ h1;have hn:=h.2.1 i _ e h1 he;obtain⟨p,q⟩:=zg2 (h.2.2.1 _ (AV (show i<es.length by lia)));rw[<- hn]at p q;rw[C8,h1];simp only[Option.toList_some,AN,AW,List.map_nil,Dv,Bz,List.sum_nil];lia
theorem Closed.sums{C:Cell->Bool}{b:Edge}{es:List Edge}(h:Closed C b es):(es.map λe=>dx e.w).sum=0/\(es.map λe=>dy e.w).sum=0:=by
 obtain⟨hc,l,hl,hb⟩:=h;have hlt:=(Ac.mp hl).1;obtain⟨a,c⟩:=psum hc _ l hl;have hlm:=(Ac.mp hl).2;obtain⟨p,q⟩:=zg2 (hc.2.2.1 l (by rw[<- hlm];exact AV _));rw[hb]at p q
 have e:es=es.take (es.length-1)++[l]:=by have:=C8 (l:=es) (i:=es.length-1);rw[hl,show es.length-1+1=es.length by lia,AG]at this;simpa using this
 have s1:(es.map λe=>dx e.w).sum=((es.take (es.length-1)).map λe=>dx e.w).sum+dx l.w:=by
  conv=>lhs;rw[e]
  simp
 have s2:(es.map λe=>dy e.w).sum=((es.take (es.length-1)).map λe=>dy e.w).sum+dy l.w:=by
  conv=>lhs;rw[e]
  simp
 lia
theorem zjt{l:List Int}(h:∀x∈l,0<=x):0<=l.sum:=by
 induction l with
 |nil=>simp
 |cons a r ih =>
  have:=h a AC;have:=ih λx hx=>h x (At _ hx)
  simp only[Bz];lia
theorem zix{l:List Int}(h:∀x∈l,0<=x)(hs:l.sum=0):∀x∈l,x=0:=by
 induction l with
 |nil=>intro x hx;cases hx
 |cons a r ih =>
  have h1:=h a AC;have h2:=zjt λx hx=>h x (At _ hx)
  simp only[Bz]at hs;intro x hx;rcases Aw.mp hx with rfl |hx
  .lia
  .exact ih (λx hx=>h x (At _ hx)) (by lia) x hx
theorem znb(l:List Int):(l.map λx=>-x).sum=-l.sum:=by
 induction l with
 |nil=>rfl
 |cons a r ih=>simp only[AW,Bz,ih];lia
theorem zlm(l:List Int)(d:Int)(h:∀x∈l,x=d):l.sum=d*l.length:=by
 induction l with
 |nil=>simp
 |cons a r ih =>
  have h1:=h a AC;have h2:=ih λx hx=>h x (At _ hx)
  simp only[Bz,A7,h1,h2];rw[Int.natCast_add,Int.mul_add];lia
theorem Closed.has{C:Cell->Bool}{b:Edge}{es:List Edge}(h:Closed C b es){k:Nat}(hk:k=0∨k=2):∃e∈es,e.w=k:=by
 apply BE
 intro hno;have hno':∀e∈es,e.w≠k:=λe he z=>hno ⟨e,he,z⟩
 obtain⟨s1,s2⟩:=h.sums;obtain⟨hc,_⟩:=h
 have hpos:0<es.length:=by have:=hc.1;exact (Ac.mp this).1
 have z:∀e∈es,dx e.w=0:=by
  rcases hk with rfl |rfl
  .have := zix (l := (es.map λe => dx e.w).map λx => -x) (λx hx => by obtain⟨y,hy,rfl⟩:=Aq.mp hx;obtain⟨e,he,rfl⟩:=Aq.mp hy;have:=hno' e he;unfold dx;rw[if_neg this];split <;> decide) (by rw[znb,s1];rfl)
   intro e he;have:=this (-(dx e.w)) (Aq.mpr ⟨_,Aq.mpr ⟨e,he,rfl⟩,rfl⟩);lia
  .have := zix (l := es.map λe => dx e.w) (λx hx => by obtain⟨e,he,rfl⟩:=Aq.mp hx;have:=hno' e he;unfold dx;rw[if_neg this];split <;> decide) s1
   intro e he;exact this _ (Aq.mpr ⟨e,he,rfl⟩)
 have odd:∀e∈es,e.w=1∨e.w=3:=λe he=>by
  have h4:=(hc.2.2.1 e he).1;have hz:=z e he;rcases way4 h4 with q |q |q |q
  .rw[q]at hz;exact absurd hz (by decide)
  .exact .inl q
  .rw[q]at hz;exact absurd hz (by decide)
  .exact .inr q
 have same:∀(i:Nat) (e:Edge),es[i]?=some e->e.w=b.w:=by
  intro i
  induction i with
  |zero=>intro e he;have:=hc.1;rw[he]at this;cases this;rfl
  |succ i ih =>
   intro e he;have hi:i+1<es.length:=(Ac.mp he).1;have h1:es[i]?=some es[i]:=Aa (by lia)
   have hn:=hc.2.1 i _ e h1 he;have m1:es[i]∈es:=AV _;have m2:e∈es:=Af he;have w1:=ih _ h1;have o1:=odd _ m1;have o2:=odd _ m2;have:=znt (hc.2.2.1 _ m1);rw[<- hn]at this;lia
 have all:∀x∈es.map (λe=>dy e.w),x=dy b.w:=λx hx=>by obtain⟨e,he,rfl⟩:=Aq.mp hx;obtain⟨i,hi,ei⟩:=AD he;rw[same i e (by rw[Aa hi,ei])]
 have t:=zlm _ _ all;rw[s2,Ai]at t
 have ob:b.w=1∨b.w=3:=by have:=hc.1;exact odd b (Af this)
 have d1:dy b.w=1∨dy b.w=-1:=by rcases ob with q |q <;> rw[q] <;> decide
 rcases d1 with q |q <;> rw[q]at t <;> lia
end RP
namespace L2
open PySem PySem.Spec PyProof.Rows
structure Fn (P:AJ) (w:A1) (K:W.Frag) (mg:Str->Option Ad) (base:Heap) (k:Nat) (x:Str) (ps:List Str) (sp:Sp) where
 f:Addr
 fd:Bo
 ok:FnOk P w K mg base CX0 k f fd ps sp
 m:mg x=some (.ref f)
 kp:W.keepIn K (.ref f)=true
 b:Binds K fd ps []
structure Df (K:W.Frag) (mg:Str->Option Ad) (x:Str) (st:Stmt) (ps:List Str) where
 f:Addr
 fd:Bo
 F:Fun K x x st f fd
 m:mg x=some (.ref f)
 b:Binds K fd ps []
noncomputable def Df.fn{P:AJ}{w:A1}{K:W.Frag}{mg:Str->Option Ad}{base:Heap}{k:Nat}{x:Str}{st:Stmt}{ps:List Str}{sp:Sp}(d:Df K mg x st ps)(h:FnOk P w K mg base CX0 k d.f d.fd ps sp):Fn P w K mg base k x ps sp :=
 ⟨d.f,d.fd,h,d.m,d.F.kp,d.b⟩
structure Ways (P:AJ) (w:A1) (K:W.Frag) (mg:Str->Option Ad):Prop where
 ex:∃(B:Addr) (t1 t2 t3 t4:Tok) (n:Nat),mg "BEGIN_WAYS" = some (.ref B)/\K.lookup B=some ⟨.type "dict",none,.dict #[⟨By w.params "rim",.str "rim" t1,.int 0 t2⟩,⟨By w.params "hole",.str "hole" t3,.int 2 t4⟩] n,#[]⟩
noncomputable def tWays (ti:TE):TE:=λσ H Q=>ti σ H λy H1=>(y=.str "rim" /\ Q (.int 0) H1)∨(y=.str "hole" /\ Q (.int 2) H1)
theorem zkH {X:Cx}{i:Expr}{ti:TE}{p pos:Pos}(hg:Gl X "BEGIN_WAYS") (hw:Ways X.prog X.w X.K X.mg) (hi:PE X i ti) (hs:NoSl i:=by exact λ_ _=>rfl):PE X (.Subscript (.Name "BEGIN_WAYS" p) i pos) (tWays ti):=by
 intro pins s σ H Q I h;obtain⟨B,t1,t2,t3,t4,n,hm,hl⟩:=hw.ex;refine zj7 PySem.F.slot_dict_getitem.lookup hs (thn ((zdE (v:=.ref B) hg hm rfl:PE X (.Name "BEGIN_WAYS" p) _) pins s σ H (λv H1=>v=V.ref B/\H1=H) I ⟨rfl,rfl⟩) λu s1 ⟨x,H1,I1,rx,q1⟩=>?_);obtain⟨rfl,rfl⟩:=q1;obtain rfl:u=Av B:=rx;refine thn (hi pins s1 σ H1 _ I1 h) λiv s2 ⟨y,H2,I2,ry,q2⟩=>?_
 have ho:s2.heap.get? B=some _:=I2.kIn B _ hl
 have mo:s2.heap.MapOf (zaJ X.prog X.w) B (PySem.findBy (zaJ X.prog X.w).is #[⟨By X.w.params "rim",.str "rim" t1,.int 0 t2⟩,⟨By X.w.params "hole",.str "hole" t3,.int 2 t4⟩]) :=
  ⟨_,_,_,ho,⟨rfl,rfl,rfl⟩,rfl,λe he=>by
   simp only[List.mem_toArray,Aw,B6,or_false]at he;rcases he with rfl |rfl
   .exact⟨.inr "rim",zbO _ _ _ _,rfl⟩
   .exact⟨.inr "hole",zbO _ _ _ _,rfl⟩,λ_=>rfl⟩
 refine⟨⟨_,ho,rfl⟩,?_⟩;rcases q2 with⟨rfl,q⟩ |⟨rfl,q⟩
 .exact wpAny_getItem_of (kV_is (k:=.inr "rim") ry) mo (v:=.int 0 t2) rfl ⟨.int 0,H2,I2.tok _,⟨_,rfl⟩,q⟩
 .exact wpAny_getItem_of (kV_is (k:=.inr "hole") ry) mo (v:=.int 2 t4) rfl ⟨.int 2,H2,I2.tok _,⟨_,rfl⟩,q⟩
section
variable {X:Cx}{K:W.Frag}
theorem zc5(hK:X.K=K:=by rfl):IxR X (rIxT K):=by subst hK;exact zaT
theorem zhs (hK:X.K=K:=by rfl):CallR X (.builtin "isinstance") (λxs H Q=>∃x T t b,xs=[x,.ty T]/\TyOf K H x t/\W.kitOne K t (.type T)=some b/\Q (.bl b) H):=by subst hK;exact zgt
theorem zbp{es:List Expr}{k:Nat}{t:TGs}{n:Nat}{pos:Pos}(hc:X.calm=true)(h:PGs X es t)
  (hn:(Dw es X.env).length=n:=by rfl) (hst:(Dw es X.env).findIdx? (·.1)=none:=by rfl) (hK:X.K=K:=by rfl):PG X (.Tuple es k pos) (gTup K n t):=by
 subst hK;exact zaX hc h hn hst
end
theorem zkV (a b c d:Ad):argsOk "min" ⟨[a,b,c,d],[]⟩:=by unfold argsOk;kernel_rfl
section
variable {X:Cx}
theorem zlq (hc:X.calm=true):CallR X (.builtin "min") (λxs H Q=>∃i j k l,xs=[.int i,.int j,.int k,.int l]/\∀n,Q (.int n) H):=by
 intro pins s σ H xs us Q I r h;obtain⟨i,j,k,l,rfl,q⟩:=h
 cases r with
 |cons r1 r =>
 cases r with
 |cons r2 r =>
 cases r with
 |cons r3 r =>
 cases r with
 |cons r4 r =>
 cases r with
 |nil =>
 obtain⟨t1,rfl⟩:=r1;obtain⟨t2,rfl⟩:=r2;obtain⟨t3,rfl⟩:=r3;obtain⟨t4,rfl⟩:=r4;have hh:=I.ok.hd hc;have nm:(toString "min" ++ toString ".loop" : String) = "min.loop":=by decide
 refine call_function_tree F.kind_min F.plain_min F.entry_min (zkV _ _ _ _) ?_
 show Ar _ X.A.in1 (Cm "min" ["key","default"] 0 ⟨[],[]⟩ >>= _) _ _ s;refine Ab (wpAny_of_eq (show Cm "min" ["key","default"] 0 ⟨[],[]⟩=pure [none,none] from rfl) ?_);show Ar _ X.A.in1 (newTuple [.int i t1,.int j t2,.int k t3,.int l t4] >>= _) _ _ s;refine Ab (A6 ?_);have hT:(s.heap.push { cls:=.type "tuple",data:=.seq #[.int i t1,.int j t2,.int k t3,.int l t4] }).IsTuple s.heap.objs.size (intItems #[(i,t1),(j,t2),(k,t3),(l,t4)]):=⟨_,Az _ rfl,rfl,0,by simp[intItems]⟩;refine Ab (wpAny_pyIter_tuple hT ?_);refine Ab (A6 ?_);rw[nm];generalize e1:s.heap.push { cls:=.type "tuple",data:=.seq #[.int i t1,.int j t2,.int k t3,.int l t4] }=h1 at hT;have hs1:h1.objs.size=s.heap.objs.size+1:=by rw[<- e1];exact Heap.size_push ..
 have k1:∀b o,s.heap.get? b=some o->h1.get? b=some o:=λb o e=>by rw[<- e1];exact Ag _ e
 show Ar (Ax X.prog X.w) X.A.in1 (again (.builtin "min.loop" ⟨[.ref h1.objs.size,.none,.ref (h1.push _).objs.size],[]⟩)) _ _ { s with heap:=(h1.push _).push _ };have hs2:∀o:Obj,(h1.push o).objs.size=s.heap.objs.size+2:=λo=>by rw[Heap.size_push,hs1]
 have W:=Walks.tuple (prog:=X.prog) (w:=X.w) (A:=X.A.in1) hh h1.objs.size s.heap.objs.size (by rw[hs1];exact AR (Nat.lt_succ_self _)) (intItems #[(i,t1),(j,t2),(k,t3),(l,t4)])
 refine Ah ⟨Dk F.plain_min_loop _,codeAny_min_loop_first W _ (CmpOf.ints_lt (numAt #[(i,t1),(j,t2),(k,t3),(l,t4)]) (λ_ _=>intItems_at)) _ (λhm=>?_) (by simp[intItems])
  (W.frame _ _ _ ⟨⟨_,Az _ rfl,rfl,rfl⟩,hT.push _⟩ λb _ o e=>Ag _ e) (Az _ rfl) λv h' tk hP hk=>?_⟩
 .rw[hs2]at hm;rcases Aw.mp hm with z |z
  .rw[hs1]at z;have z':(s.heap.objs.size+2:Nat)=s.heap.objs.size+1:=z;lia
  .have z':(s.heap.objs.size+2:Nat)=s.heap.objs.size:=Am.mp z;lia
 .obtain⟨t,ht⟩:=intItems_at hP;refine⟨.int _,H,I.kept λb o e=>hk b o (λhm=>?_) ?_ (Ag _ (Ag _ (k1 b o e))),⟨t,ht⟩,q _⟩
  .have h1':=Ay e;have z:=Am.mp hm;rw[hs1]at z;subst z;exact absurd h1' (Nat.not_lt_of_le (DE _))
  .have h1':=Ay e;intro z;rw[hs2]at z;subst z;exact absurd h1' (Nat.not_lt_of_le (Cs _ 2))
noncomputable def rSlTW(K:W.Frag):V->Option Int->Option Int->Hp->VK->Prop:=λx lo hi H Q=>∃a xs,x=.ref a/\SqT K H a xs /\
 ((HT.sIx xs.length 0 lo=0/\HT.sIx xs.length xs.length hi=xs.length)->Q (.ref a) H) /\
 (¬ (HT.sIx xs.length 0 lo=0/\HT.sIx xs.length xs.length hi=xs.length)->∀p,H p=none->Q (.ref p) (upd H p (.tup (cutV xs lo hi))))
end
end L2
namespace HT
open PySem PyProof.Rows
variable {prog:AJ}{w:A1}{A:AT}{E:Ad->Ae->Prop}{s:Ae}
theorem getItem_tuple_all{t sl:Addr}{items:Array Ad}{vl vu:Ad}{lo hi:Option Int}{Q:Ad -> Ae -> Prop}(ht:IsTup s.heap t items)(hs:s.heap.IsSliceOf sl vl vu .none)(pl:IsPart vl lo)(pu:IsPart vu hi)
  (hw:sIx items.size 0 lo=0/\sIx items.size items.size hi=items.size) (h:Q (.ref t) s):Ar (Ax prog w) A (getItem (.ref t) (.ref sl)) Q E s:=by
 obtain⟨os,hos,hcs,hds⟩:=id hs;have hTs:s.TypeIs (.ref sl) "slice":=⟨os,hos,hcs⟩;unfold getItem
 try with_reducible refine A8 ?_
 first |refine Ab (Ah ?_) |skip
 refine Ab (wpAny_sequenceKey ht.typeIs (by decide) ?_)
 refine Ab (CL (name:=BV "__getitem__") ht.typeIs Bk
  (Db Bk ht.typeIs entry_tuple_getitem ?_ (args_tuple_getitem _ _)))
 show Ar _ _ (Builtin.Tuple.tupleItemsOf (.ref t) >>= _) _ _ s;refine Ab (tupleItemsOf_ ht ?_);refine Ab (wpAny_typeOf hTs ?_);rw[if_pos (by decide)];refine Ab (zcq hs pl pu ?_)
 have hyes:(((sIx items.size 0 lo:Nat):Int) == 0 && (1:Int) == 1 && (sIx items.size items.size hi-sIx items.size 0 lo) == items.size)=true:=by rw[hw.1,hw.2];simp
 show Ar _ _ (if (((sIx items.size 0 lo:Nat):Int) == 0 && (1:Int) == 1 && (sIx items.size items.size hi-sIx items.size 0 lo) == items.size)=true then _ else _) _ _ s;rw[if_pos hyes];refine Ab ?_
 unfold Builtin.Tuple.tupleIsExact;refine Ab (wpAny_typeOf ht.typeIs (Ah ?_));rw[if_pos (by decide)];exact Ab (C4 (Ah ⟨_,rfl,Ah h⟩))
end HT
namespace L2
open PySem PySem.Spec PyProof.Rows
section
variable {X:Cx}{K:W.Frag}
theorem zkm:SlR X (rSlTW X.K):=by
 intro pins s σ H x v vl vu lo hi sl Q I rx hs pl pu h;obtain⟨a,xs,rfl,hx,q1,q2⟩:=h
 by_cases hw:HT.sIx xs.length 0 lo=0/\HT.sIx xs.length xs.length hi=xs.length
 .cases rx
  obtain⟨its,r,ht,hz⟩:=I.tuple hx;have hlen:its.toArray.size=xs.length:=by rw[Ao];exact r.length.symm
  refine⟨"tuple",_,Bk.lookup,ht.typeIs,?_⟩;exact HT.getItem_tuple_all ht hs pl pu (by rw[hlen];exact hw) ⟨.ref a,H,I,rfl,q1 hw⟩
 .exact znB pins s σ H _ v vl vu lo hi sl Q I rx hs pl pu ⟨a,xs,rfl,hx,hw,q2 hw⟩
end
section
variable {prog:AJ}{w:A1}{K:Type} [DecidableEq K] {knd:HeapKind prog w K}{A:AT}{E:Ad->Ae->Prop}{s:Ae}{d a:Addr}{xs:List (K×Addr×Ad)}{k:K}{dflt:Ad}
theorem zfB{p:Addr×Ad}(h:atKey xs k=some p):∃j:Nat,xs[j]?=some (k,p):=by
 unfold atKey at h;obtain⟨x,hx,e⟩:=AA.mp h;have hm:=List.mem_of_find?_eq_some hx;have hk:=List.find?_some hx;obtain⟨j,hj,ej⟩:=AD hm;have:x.1=k:=by simpa using hk
 exact⟨j,by rw[Aa hj,ej,<- e,<- this]⟩
theorem zmb{p:Addr×Ad}{j:Nat}(hn:(xs.map λx=>x.1).Nodup)(h:xs[j]?=some (k,p)):atKey xs k=some p:=by
 cases e:atKey xs k with
 |none =>
  exfalso;unfold atKey at e;have:=List.find?_eq_none.mp (Option.map_eq_none_iff.mp e) _ (Af h);simp at this
 |some q =>
  obtain⟨i,hi⟩:=zfB e;have hl:=(Ac.mp hi).1;have:=(Cb (i:=i) (j:=j) (by rw[Ai];exact hl) hn).mp (by rw[Ak,Ak,hi,h];rfl);subst this;rw[hi]at h
  cases h
  rfl
theorem zef{Q:Ad -> Ae -> Prop}(hr:knd.room A)(hk:knd.is s.heap k a)(hD:Heap.DictOfH knd s.heap d xs)(hsz:xs.length <= sizeLine)
  (h1:∀p,atKey xs k=some p->Q p.2 { s with toks:=s.toks+knd.draws k })
  (h2:atKey xs k=none->∀h',Heap.DictOfH knd h' d (storedH xs k a dflt)->Cz d s.heap h'->Q dflt { s with heap:=h',toks:=s.toks+knd.draws k }) :
  Ar (Ax prog w) A (dictSetDefault d (.ref a) dflt) Q E s:=by
 obtain⟨o,es,ep,ho,hx,hd,he,hi,hn⟩:=id hD;unfold dictSetDefault;refine A8 (Ab (knd.pyHash hr hk ?_));refine Ab (wpAny_dictFind_heap (s:={ s with toks:=s.toks+knd.draws k }) hr hk ho hd he hi hn (λhno=>?_) λj p hj=>?_)
 .have hnone:atKey xs k=none := by
   cases e:atKey xs k with
   |none=>rfl
   |some p=>obtain⟨j,hj⟩:=zfB e;exact absurd hj (hno j p)
  refine Ab (C4 ?_);have hes:es.size=xs.length:=by rw[<- CJ,he,Ai]
  refine Ab (wpAny_updateDictKeys ho hd (Ah (h2 hnone _ ?_ ⟨?_,λb hb=>A4 _ _ (Bu hb)⟩)) (by lia) (by simp))
  .have hs:Cz d s.heap (s.heap.update d (Obj.mapDictKeys λx=>x.push ⟨knd.hash k,.ref a,dflt⟩)):=⟨?_,λb hb=>A4 _ _ (Bu hb)⟩
   .obtain⟨c,dd,dt,sl⟩:=o;simp only at hd;subst hd;refine⟨_,es.push ⟨knd.hash k,.ref a,dflt⟩,ep+1,BZ _ ho rfl,hx,rfl,?_,λx hx'=>?_,?_⟩
    .rw[storedH_new hnone,AN,<- he];simp[entryOfKey]
    .rw[storedH_new hnone]at hx';rcases AH.mp hx' with m |m
     .exact knd.keeps (hi x m) ho rfl hs
     .rw[Am.mp m];exact knd.keeps hk ho rfl hs
    .rw[storedH_new hnone,AN,Ca];refine⟨hn,by simp,λx hx' y hy e=>?_⟩;simp at hy;subst hy e;obtain⟨⟨k',p⟩,hm,ek⟩:=Aq.mp hx';obtain⟨j,hj,ej⟩:=AD hm;simp only at ek;subst ek;exact hno j p (by rw[Aa hj,ej])
   .show (s.heap.update d _).objs.size=_;unfold Heap.update;simp
  .show (s.heap.update d _).objs.size=_;unfold Heap.update;simp
 .have hlt:=(Ac.mp hj).1;have hes:es.size=xs.length:=by rw[<- CJ,he,Ai]
  have ee:es[j]?=some ⟨knd.hash k,.ref p.1,p.2⟩:=by rw[<- CY,he,Ak,hj];rfl
  refine Ab (wpAny_dictEntries ho hd ?_);simp only[ee];refine Ab (C4 (Ah ?_));exact h1 p (zmb hn hj)
theorem zdG(knd:HeapKind prog w K)(d a:Addr)(hd:(d == BF)=false)(dflt:Ad) :
  MeetsIn prog w (Builtin.«dict.setdefault» ⟨[.ref d,.ref a,dflt],[]⟩) λA R s=>knd.room A.in1/\∃k xs,knd.is s.heap k a/\Heap.DictOfH knd s.heap d xs/\xs.length<=sizeLine /\
   (∀p,atKey xs k=some p->R (.ok (.ret p.2)) { s with toks:=s.toks+knd.draws k }) /\
   (atKey xs k=none->∀h',Heap.DictOfH knd h' d (storedH xs k a dflt)->Cz d s.heap h'->R (.ok (.ret dflt)) { s with heap:=h',toks:=s.toks+knd.draws k }):=by
 intro A R s h;obtain⟨hr,k,xs,hk,hD,hsz,h1,h2⟩:=h;unfold Builtin.«dict.setdefault» Builtin.Dict.keyAndDefault;have ht:s.TypeIs (.ref d) "dict":=hD.typeIs;refine Ab (Ab (wpAny_notOrdered_dict ht ?_));refine Ab ?_
 show Ar (Ax prog w) A.in1 (pure ()) _ _ s;refine Ah ?_
 refine Ab ?_
 show Ar (Ax prog w) A.in1 (pure (Av d,[Av a,dflt])) _ _ s;refine Ah ?_
 show Ar (Ax prog w) A.in1 (pure d >>= λx=>pure (x,Av a,some dflt)) _ _ s;refine Ab (Ah (Ah ?_));simp only;rw[hd];show Ar (Ax prog w) A.in1 (dictSetDefault d (.ref a) dflt >>= λx=>ret x) _ _ s;refine Ab (zef hr hk hD hsz (λp e=>Ah (h1 p e)) λe h' hD' hs=>Ah (h2 e h' hD' hs))
noncomputable def zny(td ty tx:TE):TE:=λσ H Q=>td σ H λx H1=>∃a,x=.ref a/\IsD H1 a/\ty σ H1 λy H2=>tx σ H2 λz H3=>∃kvs k b,H3 a=some (.dT kvs)/\y=.ref b/\H3 b=some (.tup (k.map kV))/\kvs.length<sizeLine /\
 (∀v,valV kvs k=some v->Q v H3)/\(valV kvs k=none->Q z (upd H3 a (.dT (putK kvs k z))))
end
section
variable {X:Cx}{o e f:Expr}{apos cpos:Pos}{td ty tx:TE}
theorem zlQ (hu:X.A.units+1<cLine) (ho:PE X o td) (he:PE X e ty) (hf:PE X f tx) (m:M2 X o "setdefault" apos e f cpos):PE X (.Call (.Attribute o "setdefault" apos) [e,f] [] cpos) (zny td ty tx):=by
 intro pins s σ H Q I h;refine wpAny_Call_method m.base m.few m.line PySem.F.plainAttrs_dict PySem.F.slot_dict_setdefault PySem.F.type_dict_setdefault (thn (ho pins s σ H _ I h) λu s1 ⟨x,H1,I1,rx,a,ex,d,q1⟩=>?_);subst ex;obtain rfl:u=Av a:=rx;obtain⟨t1,t2,_⟩:=zn3 I1 d;refine⟨t1,t2,?_⟩;rw[m.trees]
 refine Calls.callWith_builtin rfl (Calls.evalArgs_plain (Calls.spliced_cons (thn (he pins s1 σ H1 _ I1 q1) λiv s2 ⟨y,H2,I2,ry,q2⟩ =>
  Calls.spliced_cons (thn (hf pins s2 σ H2 _ I2 q2) λfv s3 ⟨z,H3,I3,rz,kvs,k,b,eD,ey,eb,hl,k1,k2⟩=>Calls.spliced_nil ?_))))
 subst ey
 cases (show iv=Av b from ry)
 obtain⟨zz,hd,xs,rel,dd⟩:=dt_of I3.hok eD
 refine call_meetsIn PySem.F.slot_dict_setdefault dd.typeIs PySem.F.entry_dict_setdefault (PySem.F.args_dict_setdefault_3 _ _ _) (zdG (DC (zaJ X.prog X.w)) a b hd fv)
  ⟨Dx hu,k,xs,zfw I3.hok eb,dd,by rw[<- CB rel];exact zz,λp ep=>?_,λen h' dd' hs=>?_⟩
 .have rv:=rel.val k;rw[ep]at rv
  cases hv:valV kvs k with
  |none=>rw[hv]at rv;exact Bt rv
  |some v=>rw[hv]at rv;exact⟨v,H3,I3.tok _,rv,k1 v hv⟩
 .have hn:valV kvs k=none := by
   have rv:=(rel.val k).isSome_eq;rw[en]at rv
   cases hv:valV kvs k with
   |none=>rfl
   |some v=>rw[hv]at rv;exact absurd rv (by simp)
  have hz:(putK kvs k z).length<=sizeLine:=by have:=za3 kvs k z;lia
  obtain⟨q,es,ep,hq,h2,h3,h4,_,h5⟩:=dd';refine⟨z,_,?_,rz,k2 hn⟩;refine zeJ I3 (by rw[eD];exact Cc) hs ⟨q,hq⟩ ⟨hz,hd,_,(rel.put k eb rz).keeps λc ys ec=>?_,q,es,ep,hq,h2,h3,h4,h5⟩;rw[zaj (ne_of ec eD (λz=>nomatch z))];exact ec
end
structure Two (P:AJ) (w:A1) (K:W.Frag) (mg:Str->Option Ad) (nm:Str) (a b:Int):Prop where
 ex:∃(B:Addr) (t1 t2 t3 t4:Tok) (n:Nat),mg nm=some (.ref B)/\K.lookup B=some ⟨.type "dict",none,.dict #[⟨By w.params "rim",.str "rim" t1,.int a t2⟩,⟨By w.params "hole",.str "hole" t3,.int b t4⟩] n,#[]⟩
noncomputable def tTwo (a b:Int) (ti:TE):TE:=λσ H Q=>ti σ H λy H1=>(y=.str "rim" /\ Q (.int a) H1)∨(y=.str "hole" /\ Q (.int b) H1)
theorem znN {X:Cx}{nm:Str}{a b:Int}{i:Expr}{ti:TE}{p pos:Pos}(hg:Gl X nm) (hw:Two X.prog X.w X.K X.mg nm a b) (hi:PE X i ti) (hs:NoSl i:=by exact λ_ _=>rfl) (hdb:(nm == ("__debug__" : Str))=false:=by rfl):PE X (.Subscript (.Name nm p) i pos) (tTwo a b ti):=by
 intro pins s σ H Q I h;obtain⟨B,t1,t2,t3,t4,n,hm,hl⟩:=hw.ex;refine zj7 PySem.F.slot_dict_getitem.lookup hs (thn ((zdE (v:=.ref B) hg hm rfl (hd:=hdb):PE X (.Name nm p) _) pins s σ H (λv H1=>v=V.ref B/\H1=H) I ⟨rfl,rfl⟩) λu s1 ⟨x,H1,I1,rx,q1⟩=>?_);obtain⟨rfl,rfl⟩:=q1;obtain rfl:u=Av B:=rx;refine thn (hi pins s1 σ H1 _ I1 h) λiv s2 ⟨y,H2,I2,ry,q2⟩=>?_
 have ho:s2.heap.get? B=some _:=I2.kIn B _ hl
 have mo:s2.heap.MapOf (zaJ X.prog X.w) B (PySem.findBy (zaJ X.prog X.w).is #[⟨By X.w.params "rim",.str "rim" t1,.int a t2⟩,⟨By X.w.params "hole",.str "hole" t3,.int b t4⟩]) :=
  ⟨_,_,_,ho,⟨rfl,rfl,rfl⟩,rfl,λe he=>by
   simp only[List.mem_toArray,Aw,B6,or_false]at he;rcases he with rfl |rfl
   .exact⟨.inr "rim",zbO _ _ _ _,rfl⟩
   .exact⟨.inr "hole",zbO _ _ _ _,rfl⟩,λ_=>rfl⟩
 refine⟨⟨_,ho,rfl⟩,?_⟩;rcases q2 with⟨rfl,q⟩ |⟨rfl,q⟩
 .exact wpAny_getItem_of (kV_is (k:=.inr "rim") ry) mo (v:=.int a t2) rfl ⟨.int a,H2,I2.tok _,⟨_,rfl⟩,q⟩
 .exact wpAny_getItem_of (kV_is (k:=.inr "hole") ry) mo (v:=.int b t4) rfl ⟨.int b,H2,I2.tok _,⟨_,rfl⟩,q⟩
section
variable {X:Cx}
end
end L2
namespace HT
open PySem PyProof.Rows PySem.Spec
variable {prog:AJ}{w:A1}{A:AT}{E:Ad->Ae->Prop}{s:Ae}
end HT
namespace L2
open PySem PySem.Spec PyProof.Rows
section
variable {X:Cx}{K:W.Frag}
theorem zlt (hh:X.calm=true):CallR X (.builtin "any") (λxs H Q=>∃(p:Addr) (bs:List Bool),xs=[.ref p]/\SqL X.K H p (bs.map V.bl)/\Q (.bl (bs.any id)) H):=by
 intro pins s σ H xs us Q I r h;obtain⟨p,bs,rfl,hq,q⟩:=h;obtain⟨u,rfl,ru⟩:=vals1 r
 cases (show u=Av p from ru)
 obtain⟨its,rv,pl,hz⟩:=I.list hq;have hlp:p<s.heap.objs.size:=by obtain⟨o,ho,_⟩:=pl.isList;exact Ay ho
 have hlen:its.length=bs.length:=by have:=rv.length;simpa using this.symm
 refine call_any_walk (wpAny_pyIter_list pl.isList ?_);refine⟨_,_,_,_,_,_,λi=>bs.getD i false,rfl,Walks.list (A:=X.A.in1) (I.ok.hd hh) s.heap.objs.size p (AR hlp) its.toArray,⟨⟨_,Az _ rfl,rfl,rfl⟩,pl.isList.push _⟩,?_,λh' tk hk=>?_⟩
 .intro i v s1 Q1 E1 hv hQ;have hv':its[i]?=some v:=by simpa using hv
  have hi:i<its.length:=(Ac.mp hv').1;obtain⟨w',hw,rw'⟩:=rv.get (i:=i) (x:=V.bl (bs[i]'(by lia))) (by simp[Aa,show i<bs.length by lia]);rw[hv']at hw
  cases hw
  cases (show v=Value.bool _ from rw')
  refine BH ?_
  have e:bs.getD i false=bs[i]'(by lia):=by simp[AI,show i<bs.length by lia]
  rw[<- e];exact hQ
 .have I1:Inv X pins σ H { s with heap:=h',toks:=tk }:=I.kept λb o e=>hk b o (by simp;exact AR (Ay e)) (Ag _ e)
  refine⟨.bl _,H,I1,rfl,?_⟩
  have e:(Ba its.toArray.size).any (λi=>bs.getD i false)=bs.any id:=by
   rw[show its.toArray.size=bs.length by simpa using hlen];rw[Dq];simp only[List.any_eq_true,List.mem_range,id];constructor
   .rintro⟨i,hi,h⟩;exact⟨bs[i],AV hi,by simpa[AI,hi]using h⟩
   .rintro⟨b,hb,h⟩;obtain⟨i,hi,e⟩:=AD hb;exact⟨i,hi,by simpa[AI,hi,e]using h⟩
  rw[e];exact q
end
end L2
namespace HT
open PySem PyProof.Rows PySem.Spec
end HT
namespace L2
open PySem PySem.Spec PyProof.Rows
section
variable {X:Cx}{K:W.Frag}
end
section
variable {X:Cx}
theorem Inv.turnedL{pins:List (Addr × Obj)}{σ : St}{H:Hp}{s:Ae}{h':Heap}{t':Nat}{fp:List Addr}(I:Inv X pins σ H s)(k:∀b o, b ∉ fp -> s.heap.get? b=some o -> h'.get? b=some o)(hf:∀b ∈ fp, FpOk X pins H b) :
  Inv X pins σ H { s with heap:=h',toks:=t' }:=by
 have nb:∀b u,H b=some u->b ∉ fp:=λb u q z=>by rw[(hf b z).1]at q;cases q
 refine I.step (g':=s.gens) (d':=s.drawn) (ch:=fp) (λb hb=>?_) (λb o _ _ hc q _=>k b o hc q) (λb o _ _ hc q _=>⟨o.slots,k b o hc q⟩) (λ_ _ _ _ n=>n)
  (λb o hc q=>⟨o,k b o hc q⟩) (λ_ _ q=>q) (λ_ _ _ q=>q) (λb ps q=>⟨#[],by rw[q];simp⟩) (λm hm=>?_) (λb u q=>?_) I.bare
 .obtain⟨_,f1,_,f3,f4,f5⟩:=hf b hb;exact⟨f3,f1,f4,f5⟩
 .obtain⟨o,es,ep,ho,r⟩:=hm;exact⟨o,es,ep,k _ o (λz=>(hf _ z).2.1 rfl) ho,r⟩
 .refine (I.hok b u q).stay (λc v hc q'=>?_) (λ_ q=>q) λ_ _ q=>q
  rcases hc with z |z
  .rw[z]at q' ⊢;exact k _ _ (nb b u q) q'
  .exact k _ _ (nb c _ z) q'
noncomputable def Itz(K:W.Frag)(a b:Addr):It :=
 ⟨λi H=>∃xs ys x y,SqL K H a xs/\SqL K H b ys/\xs[i]?=some x/\ys[i]?=some y,
  λi H v H'=>∃p x y,v=.ref p/\H p=none/\H'=upd H p (.tup [x,y])/\(∀xs,SqL K H a xs->xs[i]?=some x)/\∀ys,SqL K H b ys->ys[i]?=some y,
  λi H=>∃xs ys,SqL K H a xs/\SqL K H b ys/\(xs.length<=i∨ys.length<=i)⟩
theorem zlF{P:AJ}{w:A1}{K:W.Frag}{es:List Expr}{x1:Nat}{pos:Pos}(a b z TI TO i1 i2:Addr)(D:ZipApart z TI TO i1 i2 a b) :
  Turn P w K (.Tuple es x1 pos) (Itz K a b) [z,TI,TO,i1,i2] z (λi h=>∃u v,IsZip h z TI TO .none/\IsPair h TI (.ref i1) (.ref i2)/\IsPair h TO u v/\h.IsListIter i1 a i/\h.IsListIter i2 b i) where
 mem:=by simp
 obj:=λi h st c hc=>by
  obtain⟨u,v,h1,h2,h3,⟨o4,e4,c4,d4⟩,⟨o5,e5,c5,d5⟩⟩:=st;simp only[Aw,B6,or_false]at hc;rcases hc with rfl |rfl |rfl |rfl |rfl
  .exact⟨_,h1,λv q=>nomatch q⟩
  .exact⟨_,h2,λv q=>nomatch q⟩
  .exact⟨_,h3,λv q=>nomatch q⟩
  .exact⟨o4,e4,λv q=>by rw[d4]at q;cases q⟩
  .exact⟨o5,e5,λv q=>by rw[d5]at q;cases q⟩
 keep:=λi h h' ⟨u,v,h1,h2,h3,h4,h5⟩ k=>⟨u,v,k z (by simp) _ h1,k TI (by simp) _ h2,k TO (by simp) _ h3,h4.at λo q=>k i1 (by simp) o q,h5.at λo q=>k i2 (by simp) o q⟩
 item:=by
  intro X hP hw hK hc i pins s σ H E I hf st hg;subst hP hw hK;obtain⟨u0,v0,hz,hTI,hTO,h1,h2⟩:=st;obtain⟨xs,ys,x,y,hq1,hq2,hx,hy⟩:=hg;obtain⟨its1,rv1,p1,hz1⟩:=I.list hq1;obtain⟨its2,rv2,p2,hz2⟩:=I.list hq2;obtain⟨u,hu,ru⟩:=rv1.get hx;obtain⟨v,hv,rv⟩:=rv2.get hy;refine wpAny_pyNext_zip_item D hz hTI hTO h1 h2 p1.isList p2.isList (x:=u) (y:=v) (by simpa using hu) (by simpa using hv) λh' z1 t1 l1 l2 pr sz kk=>⟨_,rfl,?_⟩
  refine wpAny_letOwnedTupleGo_zip (s:={ s with heap:=h' }) z1 λh2' z2 sb=>?_
  have lt:∀c o,s.heap.get? c=some o->c<s.heap.objs.size:=λc o q=>Ay q
  have fr:H s.heap.objs.size=none:=I.hok.fresh (Aj _);have szl:z<s.heap.objs.size:=lt _ _ hz
  have I1:Inv X pins σ (upd H s.heap.objs.size (.tup [x,y])) { s with heap:=s.heap.push { cls:=.type "tuple",data:=.seq #[u,v] },toks:=s.toks } :=
   I.laid (t':=s.toks) (o:=.tup [x,y]) (λb ob q=>Ag _ q) (Aj _) ⟨by show 2<=sizeLine;decide,_,.cons ru (.cons rv .nil),IsTup.new _ _⟩
  have fp1:∀c∈[z,TI,TO,i1,i2],FpOk X pins (upd H s.heap.objs.size (.tup [x,y])) c:=λc hc=>by
   have hlt:c<s.heap.objs.size:=by
    simp only[Aw,B6,or_false]at hc;rcases hc with rfl |rfl |rfl |rfl |rfl
    .exact szl
    .exact lt _ _ hTI
    .exact lt _ _ hTO
    .obtain⟨o,q,_⟩:=h1;exact lt _ _ q
    .obtain⟨o,q,_⟩:=h2;exact lt _ _ q
   have:=hf c hc;exact⟨by rw[zaj (AR hlt)];exact this.1,this.2⟩
  have I2:=I1.turnedL (h':=h2') (t':=s.toks) (fp:=[z,TI,TO,i1,i2]) (λc o hc q=>by
   simp only[Aw,B6,or_false,not_or]at hc;refine (sb.2 c hc.1).trans ?_
   show h'.get? c=some o;rcases Heap.get?_push_cases q with⟨e,rfl⟩ |q
   .rw[e];exact pr
   .exact kk c o hc.1 hc.2.2.1 hc.2.2.2.1 hc.2.2.2.2 q) fp1
  have at2:∀{c:Addr},c≠z->h2'.get? c=h'.get? c:=λhc=>sb.2 _ hc
  refine⟨.ref s.heap.objs.size,_,I2,rfl,⟨_,x,y,rfl,fr,rfl,λzs hy'=>by rw[I.list_inj hy' hq1];exact hx,λzs hy'=>by rw[I.list_inj hy' hq2];exact hy⟩,⟨u,v,z2,?_,?_,?_,?_⟩,λc hc=>(fp1 c hc).1⟩
  .exact (at2 D.TIz).trans (kk TI _ D.TIz D.TITO D.TIi1 D.TIi2 hTI)
  .exact (at2 D.TOz).trans t1
  .exact l1.at λo q=>(at2 D.i1z).trans q
  .exact l2.at λo q=>(at2 D.i2z).trans q
 done:=by
  intro X hP hw hK hc i pins s σ H E I hf st hg;subst hP hw hK;obtain⟨u0,v0,hz,hTI,hTO,h1,h2⟩:=st;obtain⟨xs,ys,hq1,hq2,hend⟩:=hg;obtain⟨its1,rv1,p1,hz1⟩:=I.list hq1;obtain⟨its2,rv2,p2,hz2⟩:=I.list hq2;have e1:=rv1.length;have e2:=rv2.length;refine wpAny_pyNext_zip_end (I.ok.hd hc) D hz hTI hTO h1 h2 p1.isList p2.isList (hend.imp (λq=>by simp;lia) (λq=>by simp;lia)) λh' kk=>⟨rfl,?_⟩
  refine I.turnedL (t':=s.toks) (fp:=[z,TI,TO,i1,i2]) (λc o hc q=>?_) hf;simp only[Aw,B6,or_false,not_or]at hc;exact kk c o hc.1 hc.2.2.1 hc.2.2.2.1 hc.2.2.2.2 q
 self:=λ_ _ _ _ _ ⟨_,_,hz,_⟩ h=>wpAny_pyIter_zip hz h
noncomputable def iZip(K:W.Frag)(t:TA):TI:=λσ H R=>t σ H λvs H1=>∃a b,vs=[.ref a,.ref b]/\(∃xs,SqL K H1 a xs)/\(∃ys,SqL K H1 b ys)/\R (Itz K a b) H1
theorem znL {l m:Expr}{t:TA}{es:List Expr}{x1:Nat}{pos pos' p:Pos}(hg:Gl X "zip") (hm:X.mg "zip" = none) (ha:PA X [l, m] t)
  (he:A3 [l,m] X.env=(false,eval l X.env)::A3 [m] X.env:=by rfl) (hpl:(backTo pos' (A3 [m] X.env)).any (·.1)=false:=by rfl) :
  PI X (.Tuple es x1 pos) (.Call (.Name "zip" p) [l,m] [] pos') (iZip X.K t):=by
 intro pins s σ H R I h;refine B4 (zdp I hg hm (by rfl) ?_ (by decide) (by decide));refine BR (thn (ha pos' pins s σ H _ I h) λus s1 ⟨vs,H1,I1,r1,q1⟩=>?_) he hpl;obtain⟨a,b,ex,⟨xs,hq1⟩,⟨ys,hq2⟩,q⟩:=q1;subst ex;obtain⟨u,v,rfl,ru,rv⟩:=vals2 r1
 cases ru
 cases rv
 obtain⟨its1,rv1,p1,hz1⟩:=I1.list hq1;obtain⟨its2,rv2,p2,hz2⟩:=I1.list hq2;have la:a<s1.heap.objs.size:=by obtain⟨o,ho,_⟩:=p1.isList;exact Ay ho
 have lb:b<s1.heap.objs.size:=by obtain⟨o,ho,_⟩:=p2.isList;exact Ay ho
 refine call_zip_2 p1.isList p2.isList λh' hz hTI hTO hi1 hi2 hsz kp=>?_
 have I2:Inv X pins σ H1 { s1 with heap:=h' }:=I1.kept (t':=s1.toks) kp;refine wpAny_pyIter_zip hz ?_
 have ne:∀i j:Nat,i≠j->(s1.heap.objs.size+i:Nat)≠s1.heap.objs.size+j:=λi j h=>by lia
 have na:∀i:Nat,a≠s1.heap.objs.size+i:=λi=>AR (AS la (Cs _ _))
 have nb:∀i:Nat,b≠s1.heap.objs.size+i:=λi=>AR (AS lb (Cs _ _))
 have D:ZipApart (s1.heap.objs.size+4) (s1.heap.objs.size+2) (s1.heap.objs.size+3) s1.heap.objs.size (s1.heap.objs.size+1) a b :=
  ⟨ne 2 4 (by decide),ne 3 4 (by decide),ne 0 4 (by decide),ne 1 4 (by decide),ne 2 3 (by decide),ne 2 0 (by decide),ne 2 1 (by decide),ne 3 0 (by decide),ne 3 1 (by decide),ne 0 1 (by decide),
   na 4,na 3,na 0,na 1,nb 4,nb 3,nb 0,nb 1⟩
 refine⟨s1.heap.objs.size+4,[s1.heap.objs.size+4,s1.heap.objs.size+2,s1.heap.objs.size+3,s1.heap.objs.size,s1.heap.objs.size+1],_,_,H1,rfl,I2,zlF a b _ _ _ _ _ D,⟨_,_,hz,hTI,hTO,hi1,hi2⟩,λc hc=>?_,q⟩
 have hge:s1.heap.objs.size<=c:=by
  simp only[Aw,B6,or_false]at hc;rcases hc with rfl |rfl |rfl |rfl |rfl
  .exact Cs _ _
  .exact Cs _ _
  .exact Cs _ _
  .exact Aj _
  .exact Cs _ _
 exact I1.fpOk hge (I1.hok.fresh hge)
theorem znl{K:W.Frag}{a b:Addr}{xs ys:List V}{g:TG}{tb:TS}{D:Ends}{σ : St}{H:Hp}(Pv:Nat -> St -> Hp -> Prop)(h0:Pv 0 σ H)(hl:∀i σ H, i <= xs.length -> Pv i σ H -> SqL K H a xs /\ SqL K H b ys)(he:xs.length=ys.length)
  (hs:∀i x y σ H p,xs[i]?=some x->ys[i]?=some y->Pv i σ H->H p=none->g (.ref p) σ (upd H p (.tup [x,y])) λσ2 H2=>tb { D with nx:=Pv (i+1),ct:=Pv (i+1),bk:=D.nx } σ2 H2) (hd:∀ σ H,Pv xs.length σ H->D.nx σ H) :
  ∃W:Nat->Nat->St->Hp->Prop,(∃m,W 0 m σ H)/\∀i m σ H,W i m σ H ->
   ((Itz K a b).stop i H/\D.nx σ H)∨((Itz K a b).go i H/\∃N:St->Hp->Prop,(∀ σ' H',N σ' H'->∃m',m'<m/\W (i+1) m' σ' H')/\∀x H',(Itz K a b).yld i H x H'->g x σ H' λσ2 H2=>tb { D with nx:=N,ct:=N,bk:=D.nx } σ2 H2):=by
 refine⟨λi m σ H=>m=xs.length-i/\i<=xs.length/\Pv i σ H,⟨xs.length,by simp,A5 _,h0⟩,?_⟩;rintro i m σ H ⟨rfl,hi,p⟩;obtain⟨q1,q2⟩:=hl i σ H hi p
 by_cases hlt:i<xs.length
 .have hlt2:i<ys.length:=by lia
  refine .inr ⟨⟨xs,ys,xs[i],ys[i],q1,q2,by simp[hlt],by simp[hlt2]⟩,Pv (i+1),λσ' H' p'=>⟨xs.length-(i+1),by lia,rfl,hlt,p'⟩,λx H' y=>?_⟩;obtain⟨c,x',y',rfl,hc,rfl,e1,e2⟩:=y;exact hs i x' y' σ H c (e1 xs q1) (e2 ys q2) p hc
 .have e:i=xs.length:=by lia
  subst e;exact .inl ⟨⟨xs,ys,q1,q2,.inl (Aj _)⟩,hd σ H p⟩
end
section
variable {X:Cx}{e es:Expr}{te ts:TE}{pos p2:Pos}
noncomputable def tRevL(K:W.Frag)(te ts:TE):TE:=λσ H Q=>te σ H λx H1=>ts σ H1 λy H2=>y=.int (-1)/\∃a xs,x=.ref a/\SqL K H2 a xs/\∀p,H2 p=none->Q (.ref p) (upd H2 p (.lst xs.reverse))
theorem zm2(he:PE X e te)(hs:PE X es ts):PE X (.Subscript e (.Slice none none (some es) p2) pos) (tRevL X.K te ts):=by
 intro pins s σ H Q I h;refine Subscript_ (thn (he pins s σ H _ I h) λv s1 ⟨x,H1,I1,r1,q1⟩=>?_);refine wpAny_Slice ?_
 rw[evalPart_none,evalPart_some];refine Ah (Ah ?_);refine thn (hs pins s1 σ H1 _ I1 q1) λvs s3 ⟨y,H3,I3,r3,q3⟩=>?_
 obtain⟨rfl,a,xs,rfl,hx,q⟩:=q3;obtain⟨tk,rfl⟩:=r3
 cases r1
 have I4:Inv X pins σ H3 { s3 with heap:=s3.heap.push { cls:=.type "slice",data:=.fields #[.none,.none,.int (-1) tk] } }:=I3.kept (t':=s3.toks) λb ob q=>Ag _ q
 obtain⟨its,r,ht,hz⟩:=I4.list hx;have hlen:=r.length;show Ar (Ax X.prog X.w) X.A (subscriptTail e (.Slice none none (some es) p2) (.ref a) (.ref s3.heap.objs.size)) (EP X pins σ Q) X.xe { s3 with heap:=s3.heap.push { cls:=.type "slice",data:=.fields #[.none,.none,.int (-1) tk] } };refine tail_any (ops:=[.ref a,.ref s3.heap.objs.size]) ht.isList.typeIs slot_list_getitem.lookup (wpAny_getItem_list_slice ht.isList (Heap.IsSliceOf.new ..) .none .none (.int (-1) tk) (by simp) ?_ (by rw[Ao] <;> lia)) (by with_unfolding_all rfl);rw[W.krv_pick];generalize s3.heap.push { cls:=.type "slice",data:=.fields #[.none,.none,.int (-1) tk] }=h4 at *;refine⟨.ref _,_,I4.laid (t':=s3.toks) (o:=.lst xs.reverse) (λb ob q=>Ag _ q) (Aj _) ?_,rfl,q _ (I4.hok.fresh (Aj _))⟩;exact⟨by rw[List.length_reverse];exact hz,its.reverse,0,r.reverse,Az _ rfl⟩
end
section
variable {X:Cx}
end
section
variable {prog:AJ}{w:A1}{A:AT}{R:Result->Ae->Prop}{I:Addr}{fp wr:List Addr}{n:Nat}{P:Nat->Ad->Prop}{St:Nat->Heap->Prop}{dv:Ad}
end
section
variable {X:Cx}{pins:List (Addr×Obj)}{σ:St}{H0:Hp}{s:Ae}{l:Addr}{Q:VK}
end
section
variable {X:Cx}{p pos kpos kp:Pos}{e:Expr}{te:TE}{d:Int}{kj:Nat}
end
end L2
namespace HT
open PySem PyProof.Rows
variable {prog:AJ}{w:A1}{A:AT}{E:Ad->Ae->Prop}{s:Ae}
end HT
namespace L2
open PySem PySem.Spec PyProof.Rows
section
variable {X:Cx}{e es:Expr}{te ts:TE}{pos p2:Pos}
end
end L2
namespace HT
open PySem PyProof.Rows
section
open PySem.SeqAt
open PySem.AutoSeq1 (wpAny_loadPart')
open PySem.MeetsSeq PySem.MeetsSeq2 PySem.MeetsSeq3
end
section
variable {prog:AJ}{w:A1}{A:AT}{E:Ad->Ae->Prop}{s:Ae}
end
end HT
namespace L2
open PySem PySem.Spec PyProof.Rows
section
variable {X:Cx}{pos:Pos}
end
section
variable {prog:AJ}{w:A1}{A:AT}{E:Ad->Ae->Prop}{s:Ae}{it d:Addr}{i ep:Nat}{es:Array DictEntry}{od:Obj}
theorem zeA{Q:Ad -> Ae -> Prop}(lo:(d == BF)=false)(g:s.heap.get? d=some od)(x:od.ExactDict)(dat:od.data = .dict es ep)
  (k:Q (.ref s.heap.objs.size) { s with heap:=s.heap.push { cls:=.type "dict_keyiterator",data:=.fields #[.ref d,.int 0 0,.int es.size 0,.int ep 0] } }):Ar (Ax prog w) A (pyIter (.ref d)) Q E s:=by
 have ty:s.TypeIs (.ref d) "dict":=⟨od,g,x.1⟩;refine wpAny_pyIter_slot ty PySem.F.slot_dict_iter (Db PySem.F.slot_dict_iter ty PySem.F.entry_dict_iter ?_ (PySem.F.args_dict_iter_1 _));unfold Builtin.«dict.__iter__» Builtin.Dict.dictSlotNone;refine Ab (Ab (wpAny_notOrdered_dict ty ?_));show Ar (Ax prog w) A.in1 (pure (Av d)) _ _ s;refine Ah ?_
 show Ar (Ax prog w) A.in1 (Builtin.Dict.showsAll d >>= _) _ _ s;unfold Builtin.Dict.showsAll;rw[if_neg (show ¬ (d == BF)=true by rw[lo];decide)];refine Ab (Ah (Ab (wpAny_dictEntries g dat (Ab (wpAny_dictEpoch g dat (Ab (A6 (Ah ⟨_,rfl,"dict_keyiterator",_,⟨_,Az _ rfl,rfl⟩,PySem.F.slot_dict_keyiterator_next.lookup,?_⟩))))))));simpa[rawInt]using k
theorem zhf{e:DictEntry}{Q:Option Ad -> Ae -> Prop}(st:s.heap.IsKeyIter it d i es.size ep)(g:s.heap.get? d=some od)(dat:od.data = .dict es ep)(he:es[i]? = some e)
  (k:∀h',h'.IsKeyIter it d (i+1) es.size ep->Cz it s.heap h'->Q (some e.key) { s with heap:=h' }):Ar (Ax prog w) A (pyNext (.ref it)) Q E s:=by
 obtain⟨o,go,oc,odt⟩:=id st;unfold pyNext;refine Ab (wpAny_attempt (CL (name:=BV "__next__") st.typeIs BP (Db BP st.typeIs Dl ?_ (Dg _))));refine Ab (Ah (Ab (Ab ?_)));refine Ab (B8 st.typeIs (Ah (Ab (wpAny_fieldsOf go odt ?_))));simp only[show Builtin.Dict_items.ownsTuple "dict_keyiterator" = false by decide,BN,if_false];show Ar (Ax prog w) _ (if (Av d == B3)=true then _ else _) _ _ s;rw[if_neg (show ¬ (Av d == B3)=true by simp)];refine Ab (Ah (Ab (wpAny_dictEntries g dat ?_)));rw[if_neg (show ¬ ((es.size:Int) != (es.size:Int))=true by simp)];refine Ab (Ah (Ab (wpAny_dictEpoch g dat ?_)));rw[if_neg (show ¬ ((ep:Int) != (ep:Int))=true by simp)];refine Ah ?_
 simp only[show ¬ ((i:Int)<0) by lia,if_false,C0,he];refine Ab (Ab (B8 st.typeIs (Ah ?_)));refine Ab (wpAny_isOneOf_keyiter st.typeIs ?_);show Ar (Ax prog w) _ (setField (.ref it) 1 (rawInt ((i:Int)+1)) >>= _) _ _ s;refine Ab (wpAny_setField go odt (by simp) ?_)
 have st':(s.heap.update it (Obj.mapFields (·.setIfInBounds 1 (rawInt ((i:Int)+1))))).IsKeyIter it d (i+1) es.size ep:=by refine⟨_,BZ _ go (Obj.isFreed_of_fields (Obj.data_mapFields odt _)),(Obj.cls_mapFields ..).trans oc,?_⟩;rw[Obj.data_mapFields odt];simp[rawInt]
 refine Ab (A8 (Ab (wpAny_isOneOf_keyiter (s:={ s with heap:=s.heap.update it (Obj.mapFields (·.setIfInBounds 1 (rawInt ((i:Int)+1)))) }) st'.typeIs ?_)));show Ar (Ax prog w) _ (pure e.key) _ _ _;exact Ah (Ah ⟨_,rfl,Ah (k _ st' (Br ..))⟩)
theorem zi3{Q:Option Ad -> Ae -> Prop}(hh:A.handled=none)(st:s.heap.IsKeyIter it d i es.size ep)(g:s.heap.get? d=some od)(dat:od.data = .dict es ep)(he:es.size <= i)
  (k:∀h',Heap.ExtBut it s.heap h'->Q none { s with heap:=h' }):Ar (Ax prog w) A (pyNext (.ref it)) Q E s:=by
 obtain⟨o,go,oc,odt⟩:=id st;unfold pyNext;refine Ab (wpAny_attempt (CL (name:=BV "__next__") st.typeIs BP (Db BP st.typeIs Dl ?_ (Dg _))));refine Ab (Ah (Ab (Ab ?_)));refine Ab (B8 st.typeIs (Ah (Ab (wpAny_fieldsOf go odt ?_))));simp only[show Builtin.Dict_items.ownsTuple "dict_keyiterator" = false by decide,BN,if_false];show Ar (Ax prog w) _ (if (Av d == B3)=true then _ else _) _ _ s;rw[if_neg (show ¬ (Av d == B3)=true by simp)];refine Ab (Ah (Ab (wpAny_dictEntries g dat ?_)));rw[if_neg (show ¬ ((es.size:Int) != (es.size:Int))=true by simp)];refine Ab (Ah (Ab (wpAny_dictEpoch g dat ?_)));rw[if_neg (show ¬ ((ep:Int) != (ep:Int))=true by simp)];refine Ah ?_
 simp only[show ¬ ((i:Int)<0) by lia,if_false,C0,Array.getElem?_eq_none he];refine Ab (Ab (B8 st.typeIs (Ah ?_)));show Ar (Ax prog w) _ (setField (.ref it) 0 .none >>= _) _ _ s;refine Ab (wpAny_setField go odt (by simp) ?_);show Ar (Ax prog w) _ (newExc (.type "StopIteration") [] >>= _) _ _ _;refine Ab ?_
 simp only[newExc,newTuple];refine Ab (A6 ?_ (by size_fits));refine Ab (m:=firstArgMember _ _) (wpAny_of_eq (a:=B3) (by first |rfl | (simp only[firstArgMember];rfl)) (A6 ?_ (by size_fits)));simp only[raiseNew];refine Ab (wpAny_handled ?_);rw[show A.in1.handled=none from hh];refine Ab (Ah (wpAny_throw (?_:Ar _ _ _ _ _ _)));exact Ab (wpAny_isInstance (b:=true) (T:="StopIteration") ⟨_,Az _ rfl,rfl⟩ isSubtype_stop (Ah (k _ (((Br ..).extBut.push _).push _))))
end
noncomputable def Itd(a:Addr)(od:Obj):It :=
 ⟨λi H=>∃kvs,H a=some (.frz od (.dT kvs))/\i<kvs.length,λi H x H'=>H'=H/\∀kvs,H a=some (.frz od (.dT kvs))->∃b k v,x=.ref b/\kvs[i]?=some (k,v)/\H b=some (.tup (k.map kV)),λi H=>∃kvs,H a=some (.frz od (.dT kvs))/\kvs.length<=i⟩
theorem Paired.at'{α β:Type}{F:α->β->Prop}:∀{l:List α}{m:List β},Paired F l m->∀{i:Nat}{x:α},l[i]?=some x->∃y,m[i]?=some y/\F x y
 |_,_,.cons r t,0,x,h=>by cases h;exact⟨_,rfl,r⟩
 |_,_,.cons r t,i+1,x,h=>Paired.at' t h
theorem zgJ{P:AJ}{w:A1}{K:W.Frag}{tg:Expr}(a it:Addr)(od:Obj){es:Array DictEntry}{ep:Nat}(dat:od.data=.dict es ep):Turn P w K tg (Itd a od) [it] it (λi h=>h.IsKeyIter it a i es.size ep) where
 mem:=by simp
 obj:=λi h st b hb=>by
  have e:b=it:=by simpa using hb
  subst e;obtain⟨o,e,c,d⟩:=st;exact⟨o,e,λv z=>by rw[d]at z;cases z⟩
 keep:=λi h h' st k=>st.at λo e=>k it (by simp) o e
 item:=by
  intro X hP hw hK hc i pins s σ H E I hf st hg;subst hP hw hK;obtain⟨kvs,e,hi⟩:=hg;obtain⟨g,z,y,xs,r,o,es',ep',h1,h2,h3,h4,h5⟩:=(show ObjOk X.prog X.w H s.heap a (.frz od (.dT kvs)) from I.hok a _ e);rw[g]at h1
  cases h1
  rw[dat]at h3
  cases h3
  obtain⟨q,hq,q1,q2,q3⟩:=Paired.at' r (Aa hi);have he:es[i]?=some (entryOfKey (DC (zaJ X.prog X.w)) q):=by rw[entry_at h4,hq];rfl
  obtain⟨f0,f1,f2,f3,f4,f5⟩:=hf it (by simp);refine zhf st g dat he λh' st' sb=>?_
  have I1:Inv X pins σ H { s with heap:=h' }:=I.turned (t':=s.toks) (λb o hb e=>(sb.2 b hb).trans e) f0 f1 f3 f4 f5;obtain⟨o,e',c,dd⟩:=id st';refine⟨_,rfl,go_of (s:={ s with heap:=h' }) e' c dd (by decide) ⟨.ref q.2.1,H,I1,rfl,⟨rfl,λks hk=>?_⟩,st',λb hb=>(hf b hb).1⟩⟩;rw[e]at hk
  cases hk
  exact⟨q.2.1,kvs[i].1,kvs[i].2,rfl,Aa hi,q2⟩
 done:=by
  intro X hP hw hK hc i pins s σ H E I hf st hg;subst hP hw hK;obtain⟨kvs,e,hi⟩:=hg;obtain⟨g,z,y,xs,r,o,es',ep',h1,h2,h3,h4,h5⟩:=(show ObjOk X.prog X.w H s.heap a (.frz od (.dT kvs)) from I.hok a _ e);rw[g]at h1
  cases h1
  rw[dat]at h3
  cases h3
  obtain⟨f0,f1,f2,f3,f4,f5⟩:=hf it (by simp);exact zi3 (I.ok.hd hc) st g dat (by rw[size_of_entries h4,<- CB r];exact hi) λh' eb=>⟨rfl,I.turned (t':=s.toks) (λb o hb e=>eb b o hb e) f0 f1 f3 f4 f5⟩
 self:=λ_ _ _ _ _ st h=>wpAny_pyIter_keyiter st h
section
variable {X:Cx}{tg:Expr}
end
theorem zi6{a:Addr}{od:Obj}{kvs:List (List Key × V)}{g:TG}{tb:TS}{D:Ends}{σ : St}{H:Hp}(Pv:Nat -> St -> Hp -> Prop)(h0:Pv 0 σ H)(hl:∀i σ H, i <= kvs.length -> Pv i σ H -> H a=some (.frz od (.dT kvs)))
  (hs:∀i b k v σ H,kvs[i]?=some (k,v)->H b=some (.tup (k.map kV))->Pv i σ H->g (.ref b) σ H λσ2 H2=>tb { D with nx:=Pv (i+1),ct:=Pv (i+1),bk:=D.nx } σ2 H2) (hd:∀ σ H,Pv kvs.length σ H->D.nx σ H) :
  ∃W:Nat->Nat->St->Hp->Prop,(∃m,W 0 m σ H)/\∀i m σ H,W i m σ H ->
   ((Itd a od).stop i H/\D.nx σ H)∨((Itd a od).go i H/\∃N:St->Hp->Prop,(∀ σ' H',N σ' H'->∃m',m'<m/\W (i+1) m' σ' H')/\∀x H',(Itd a od).yld i H x H'->g x σ H' λσ2 H2=>tb { D with nx:=N,ct:=N,bk:=D.nx } σ2 H2):=by
 refine⟨λi m σ H=>m=kvs.length-i/\i<=kvs.length/\Pv i σ H,⟨kvs.length,by simp,A5 _,h0⟩,?_⟩;rintro i m σ H ⟨rfl,hi,p⟩;have q:=hl i σ H hi p
 by_cases hlt:i<kvs.length
 .refine .inr ⟨⟨kvs,q,hlt⟩,Pv (i+1),λσ' H' p'=>⟨kvs.length-(i+1),by lia,rfl,hlt,p'⟩,λx H' y=>?_⟩;obtain⟨e,y⟩:=y;subst e;obtain⟨b,k,v,rfl,h1,h2⟩:=y kvs q;exact hs i b k v σ _ h1 h2 p
 .have e:i=kvs.length:=by lia
  subst e;exact .inl ⟨⟨kvs,q,Aj _⟩,hd σ H p⟩
section
variable {prog:AJ}{w:A1}{K:Type} [DecidableEq K] {knd:HeapKind prog w K}{A:AT}{E:Ad->Ae->Prop}{s:Ae}{d a:Addr}{xs:List (K×Addr×Ad)}{k:K}
end
section
variable {X:Cx}{o e f:Expr}{apos cpos:Pos}{td ty tx:TE}
end
end L2
namespace RP
noncomputable def grid(w h:Nat):List (Nat×Nat):=(Ba w).flatMap λi=>(Ba h).map λj=>(i,j)
theorem zlY{w h:Nat}{p:Nat×Nat}:p∈grid w h ↔ p.1<w/\p.2<h:=by
 unfold grid;simp only[List.mem_flatMap,List.mem_map,List.mem_range];constructor
 .rintro⟨i,hi,j,hj,rfl⟩;exact⟨hi,hj⟩
 .rintro⟨h1,h2⟩;exact⟨p.1,h1,p.2,h2,rfl⟩
theorem zj6(l:List Nat)(h:Nat):(l.map λ_=>h).sum=l.length*h:=by
 induction l with
 |nil=>simp
 |cons a r ih=>rw[AW,Bz,ih,A7,Nat.succ_mul,Nat.add_comm]
theorem zic(w h:Nat):(grid w h).length=w*h:=by unfold grid;rw[List.length_flatMap];simp only[Ai,C3];rw[zj6,C3]
end RP
namespace L2
open PySem PySem.Spec PyProof.Rows
theorem zdI{bt:Nat->Nat->Bool}:∀n,argBest bt n<=n
 | 0=>Aj _
 |n+1=>by
  show (if bt (n+1) (argBest bt n)=true then n+1 else argBest bt n)<=n+1;split
  .exact Aj _
  .exact Nat.le_succ_of_le (zdI n)
theorem zdH{v:Nat->Int}:∀(n j:Nat),j<=n->v (argBest (λi j=>decide (v i<v j)) n)<=v j
 | 0,j,h=>by
  obtain rfl:j=0:=by lia
  exact Cr _
 |n+1,j,h=>by
  show v (if decide (v (n+1)<v (argBest (λi j=>decide (v i<v j)) n))=true then n+1 else argBest (λi j=>decide (v i<v j)) n)<=v j
  by_cases hb:v (n+1)<v (argBest (λi j=>decide (v i<v j)) n)
  .rw[if_pos (decide_eq_true hb)];rcases AL n j with q |q
   .obtain rfl:j=n+1:=by lia
    exact Cr _
   .have:=zdH (v:=v) n j q;lia
  .rw[if_neg (by simpa using hb)];rcases AL n j with q |q
   .obtain rfl:j=n+1:=by lia
    lia
   .exact zdH n j q
theorem zdJ{v:Nat->Int}:∀(n j:Nat),j<=n->v j<=v (argBest (λi j=>decide (v i > v j)) n)
 | 0,j,h=>by
  obtain rfl:j=0:=by lia
  exact Cr _
 |n+1,j,h=>by
  show v j<=v (if decide (v (n+1) > v (argBest (λi j=>decide (v i > v j)) n))=true then n+1 else argBest (λi j=>decide (v i > v j)) n)
  by_cases hb:v (n+1) > v (argBest (λi j=>decide (v i > v j)) n)
  .rw[if_pos (decide_eq_true hb)];rcases AL n j with q |q
   .obtain rfl:j=n+1:=by lia
    exact Cr _
   .have:=zdJ (v:=v) n j q;lia
  .rw[if_neg (by simpa using hb)];rcases AL n j with q |q
   .obtain rfl:j=n+1:=by lia
    lia
   .exact zdJ n j q
theorem zla:∀(ns:List Int) (its:List Ad),Vals (ns.map V.int) its->∃ts:Array (Int×Tok),its.toArray=intItems ts/\ts.toList.map (·.1)=ns:=by
 intro ns its r
 have:∀(ns:List Int) (its:List Ad),Vals (ns.map V.int) its->∃ts:List (Int×Tok),its=ts.map (λp=>Da p.1 p.2)/\ts.map (·.1)=ns:=by
  intro ns
  induction ns with
  |nil=>intro its r;cases r;exact⟨[],rfl,rfl⟩
  |cons n ns ih =>
   intro its r
   cases r with
   |cons h t =>
    obtain⟨ts,h1,h2⟩:=ih _ t;obtain⟨tk,rfl⟩:=(show ∃t,_=Da n t from h);exact⟨(n,tk)::ts,by rw[h1];rfl,by rw[AW,h2]⟩
 obtain⟨ts,h1,h2⟩:=this ns its r;exact⟨ts.toArray,by rw[h1];simp[intItems],by simpa using h2⟩
section
variable {X:Cx}
noncomputable def IsMin(ns:List Int)(m:Int):Prop:=m∈ns/\∀n∈ns,m<=n
noncomputable def IsMax(ns:List Int)(m:Int):Prop:=m∈ns/\∀n∈ns,n<=m
theorem zhp (hh:X.calm=true):CallR X (.builtin "min") (λxs H Q=>∃(p:Addr) (ns:List Int),xs=[.ref p]/\SqL X.K H p (ns.map V.int)/\ns≠[]/\∀m,IsMin ns m->Q (.int m) H):=by
 intro pins s σ H xs us Q I r h;obtain⟨p,ns,rfl,hq,hne,q⟩:=h;obtain⟨u,rfl,ru⟩:=vals1 r
 cases (show u=Av p from ru)
 obtain⟨its,rv,pl,hz⟩:=I.list hq;obtain⟨ts,h1,h2⟩:=zla ns its rv;have hl1:=pl.isList;rw[h1]at hl1;have hgl:ns.length=ts.size:=by rw[<- h2];simp
 have hpos:0<ns.length:=DG.mpr hne;have gd:∀j,numAt ts j=ns.getD j 0:=λj=>by rw[numAt_eq,h2]
 refine min_intList (I.ok.hd hh) hl1 (by lia) λv h' tk hv hk=>?_
 obtain⟨t,rfl⟩:=intItems_at hv;have hle:=zdI (bt:=λi j=>decide (numAt ts i<numAt ts j)) (ts.size-1);refine⟨.int _,H,I.kept hk,⟨_,rfl⟩,q _ ⟨?_,λn hn=>?_⟩⟩
 .rw[gd,AI,Aa (by lia)];exact AV _
 .obtain⟨j,hj,rfl⟩:=AD hn;have:=zdH (v:=numAt ts) (ts.size-1) j (by lia);rw[gd j,AI,Aa hj]at this;exact this
theorem zhq (hh:X.calm=true):CallR X (.builtin "max") (λxs H Q=>∃(p:Addr) (ns:List Int),xs=[.ref p]/\SqL X.K H p (ns.map V.int)/\ns≠[]/\∀m,IsMax ns m->Q (.int m) H):=by
 intro pins s σ H xs us Q I r h;obtain⟨p,ns,rfl,hq,hne,q⟩:=h;obtain⟨u,rfl,ru⟩:=vals1 r
 cases (show u=Av p from ru)
 obtain⟨its,rv,pl,hz⟩:=I.list hq;obtain⟨ts,h1,h2⟩:=zla ns its rv;have hl1:=pl.isList;rw[h1]at hl1;have hgl:ns.length=ts.size:=by rw[<- h2];simp
 have hpos:0<ns.length:=DG.mpr hne;have gd:∀j,numAt ts j=ns.getD j 0:=λj=>by rw[numAt_eq,h2]
 refine max_intList (I.ok.hd hh) hl1 (by lia) λv h' tk hv hk=>?_
 obtain⟨t,rfl⟩:=intItems_at hv;have hle:=zdI (bt:=λi j=>decide (numAt ts i > numAt ts j)) (ts.size-1);refine⟨.int _,H,I.kept hk,⟨_,rfl⟩,q _ ⟨?_,λn hn=>?_⟩⟩
 .rw[gd,AI,Aa (by lia)];exact AV _
 .obtain⟨j,hj,rfl⟩:=AD hn;have:=zdJ (v:=numAt ts) (ts.size-1) j (by lia);rw[gd j,AI,Aa hj]at this;exact this
end
end L2
namespace HT
open PySem PyProof.Rows
variable {prog:AJ}{w:A1}{A:AT}{E:Ad->Ae->Prop}{s:Ae}
end HT
namespace L2
open PySem PySem.Spec PyProof.Rows
section
variable {X:Cx}{e es:Expr}{te ts:TE}{pos p2:Pos}
end
section
variable {prog:AJ}{w:A1}{A:AT}{E:Ad->Ae->Prop}{s:Ae}
end
section
variable {X:Cx}
end
section
variable {X:Cx}
end
section
variable {prog:AJ}{w:A1}{A:AT}{E:Ad->Ae->Prop}{s:Ae}
end
section
variable {X:Cx}{pins:List (Addr×Obj)}{σ:St}
end
section
variable {X:Cx}{l m:Expr}{t:TA}{p p2 pos pos2:Pos}
end
theorem zlx:∀{xs:List V}{us:List Ad},xs.length=us.length->(∀(i:Nat) x u,xs[i]?=some x->us[i]?=some u->RelV x u)->Vals xs us
 |[],[],_,_=>.nil
 |x::xs,u::us,h,k=>.cons (k 0 x u rfl rfl) (zlx (by simpa using h) λi y v h1 h2=>k (i+1) y v (by simpa using h1) (by simpa using h2))
 |[],_::_,h,_=>by cases h
 |_::_,[],h,_=>by cases h
section
variable {X:Cx}{a:Expr}{t:TA}{p p2 pos pos2:Pos}
end
section
variable {X:Cx}
end
theorem zj2{P:AJ}{w:A1}{K:W.Frag}{tg:Expr}(it:Addr)(lo:Int)(n:Nat):Turn P w K tg (Itr lo n) [it] it (λi h=>IsLongIter h it (lo+(i:Nat)*1) ((n:Int)-(i:Nat)) 1) where
 mem:=by simp
 obj:=λi h st b hb=>by
  have e:b=it:=by simpa using hb
  subst e
  exact⟨_,st,λv z=>by
   have z':Data.fields _=Data.cell v:=z
   cases z'⟩
 keep:=λi h h' st k=>k it (by simp) _ st
 item:=by
  intro X hP hw hK hc i pins s σ H E I hf st hg;subst hP hw hK;obtain⟨f0,f1,f2,f3,f4,f5⟩:=hf it (by simp);have W:=Walks.longrange (prog:=X.prog) (w:=X.w) (I.ok.hd hc) it lo 1 n;refine W.item i s _ _ hg st λv h' tk hv st' kk=>?_
  obtain⟨t,rfl⟩:=hv;have I1:Inv X pins σ H { s with heap:=h',toks:=tk }:=I.turned (λb o hb e=>kk b o (by simpa using hb) e) f0 f1 f3 f4 f5;refine⟨_,rfl,go_of (s:={ s with heap:=h',toks:=tk }) (n:="longrange_iterator") st' rfl rfl (by decide) ⟨.int (lo+i),H,I1,⟨t,?_⟩,⟨rfl,rfl⟩,st',λb hb=>(hf b hb).1⟩⟩;rw[Int.mul_one]
 done:=by intro X hP hw hK hc i pins s σ H E I hf st hg;subst hP hw hK;obtain⟨f0,f1,f2,f3,f4,f5⟩:=hf it (by simp);exact wpAny_pyNext_long_end (I.ok.hd hc) st (by have:n<=i:=hg;lia) λh' eb=>⟨rfl,I.turned (t':=s.toks) (λb o hb e=>eb b o hb e) f0 f1 f3 f4 f5⟩
 self:=λ_ _ _ _ _ st h=>wpAny_pyIter_longiter st h
section
variable {X:Cx}{tg:Expr}
theorem zkw{pins:List (Addr × Obj)}{σ : St}{H:Hp}{s:Ae}{R:It -> Hp -> Prop}{E:Ad -> Ae -> Prop}{lo hi:Int}{t u v:Tok}{tk:Nat}(I:Inv X pins σ H s)
  (q:R (Itr lo (hi-lo).toNat) H):Ar (Ax X.prog X.w) X.A (pyIter (.ref s.heap.objs.size)) (PIE X pins σ tg R) E { s with heap:=s.heap.push { cls:=.type "range",data:=.fields #[.int lo t,.int hi u,.int 1 v] },toks:=tk }:=by
 have I1:Inv X pins σ H { s with heap:=s.heap.push { cls:=.type "range",data:=.fields #[.int lo t,.int hi u,.int 1 v] },toks:=tk }:=I.kept λb o e=>Ag _ e
 have e1:lo+((0:Nat):Int)*1=lo:=by simp
 have e2:(((hi-lo).toNat:Nat):Int)-((0:Nat):Int)=Builtin.Range.rangeSize lo hi 1:=by rw[rangeSize_one];split <;> lia
 cases hs:Builtin.Range.small lo hi 1 with
 |true =>
  refine wpAny_pyIter_range (IsRange.new ..) hs ?_
  refine⟨(s.heap.push { cls:=.type "range",data:=.fields #[.int lo t,.int hi u,.int 1 v] }).objs.size,[(s.heap.push { cls:=.type "range",data:=.fields #[.int lo t,.int hi u,.int 1 v] }).objs.size],_,_,H,rfl,
   I1.kept (t':=tk) λb o e=>Ag _ e,zfh _ lo (hi-lo).toNat,?_,λb hb=>?_,q⟩
  .show IsRangeIter _ _ (lo+((0:Nat):Int)*1) ((((hi-lo).toNat:Nat):Int)-((0:Nat):Int)) 1;rw[e1,e2];exact Az _ rfl
  .have e:b=(s.heap.push { cls:=.type "range",data:=.fields #[.int lo t,.int hi u,.int 1 v] }).objs.size:=by simpa using hb
   subst e;exact I1.fpOk (Aj _) (I1.hok.fresh (Aj _))
 |false =>
  refine wpAny_pyIter_longrange (IsRange.new ..) hs ?_
  refine⟨(s.heap.push { cls:=.type "range",data:=.fields #[.int lo t,.int hi u,.int 1 v] }).objs.size,[(s.heap.push { cls:=.type "range",data:=.fields #[.int lo t,.int hi u,.int 1 v] }).objs.size],_,_,H,rfl,
   I1.kept (t':=tk) λb o e=>Ag _ e,zj2 _ lo (hi-lo).toNat,?_,λb hb=>?_,q⟩
  .show IsLongIter _ _ (lo+((0:Nat):Int)*1) ((((hi-lo).toNat:Nat):Int)-((0:Nat):Int)) 1;rw[e1,e2];exact Az _ rfl
  .have e:b=(s.heap.push { cls:=.type "range",data:=.fields #[.int lo t,.int hi u,.int 1 v] }).objs.size:=by simpa using hb
   subst e;exact I1.fpOk (Aj _) (I1.hok.fresh (Aj _))
noncomputable def iRngB(ta:TA):TI:=λσ H R=>ta σ H λvs H1=>∃i j:Int,vs=[.int i,.int j]/\R (Itr i (j-i).toNat) H1
theorem zg1 {a b:Expr}{ta:TA}{p pos:Pos}(hg:Gl X "range") (hm:X.mg "range" = none) (ha:PA X [a, b] ta) (hs:A3 [a, b] X.env = [(false, eval a X.env), (false, eval b X.env)] := by rfl) (hs2:A3 [b] X.env = [(false, eval b X.env)] := by rfl) :
  PI X tg (.Call (.Name "range" p) [a,b] [] pos) (iRngB ta):=by
 intro pins s σ H R I h;refine Call_ (zdp I hg hm boot_range (BR (thn (ha pos pins s σ H _ I h) λus s1 ⟨vs,H1,I1,r1,q1⟩=>?_) (by rw[hs,hs2]) (by rw[hs2];rfl)));obtain⟨i,j,e,q⟩:=q1;subst e
 cases r1 with
 |cons r rr =>
  cases rr with
  |cons r' rr =>
   cases rr
   obtain⟨t,rfl⟩:=r;obtain⟨t',rfl⟩:=r';exact call_range_2 (zkw I1 q)
end
section
variable {X:Cx}{pos:Pos}{kx vx:Expr}{tk tv:TE}
noncomputable def znx(tk tv:TE):TE:=λσ H Q=>∀p,H p=none->tk σ (upd H p (.dT [])) λy H1=>tv σ H1 λv H2=>∃H3,DPut H2 p y v H3/\Q (.ref p) H3
theorem zlR(hu:X.A.units+1<cLine)(hk:PE X kx tk)(hv:PE X vx tv):PE X (.Dict [some kx] [vx] pos) (znx tk tv):=by
 intro pins s σ H Q I q;have hn:=I.hok.fresh (Aj s.heap.objs.size);have I1:=I.laid (a:=s.heap.objs.size) (o:=.dT []) (h':=s.heap.push { cls:=.type "dict",data:=.dict #[] }) (t':=s.toks) (λ_ _ q=>Ag _ q) (Aj _) (zgo s.heap I.big);rw[arm_eval_Dict,zip_pairTrees [some kx] [vx] X.env pos rfl rfl,dictDisplay_pairs _ (by intro z;cases z) (by show 1<17;decide)];refine Ab (B7 (Ab ?_));unfold subDict;refine Ab (wpAny_alloc ?_);refine Ab (A8 ?_);rw[if_pos (by show 1<=15;decide)];refine Ab (pairTrees_cons_walk (thn (hk pins _ σ _ _ I1 (q _ hn)) λu s1 ⟨y,H1,I1',r1,q1⟩=>thn (hv pins s1 σ H1 _ I1' q1) λw2 s2 ⟨v,H2,I2,r2,H3,g,q2⟩=>pairTrees_nil_walk ?_));refine A8 ?_
 rw[List.forIn_cons];refine Ab (Ab ?_);show Ar _ _ (dictSet s.heap.objs.size u w2 >>= λ_=>pure (Ds PUnit.unit)) _ _ s2;refine Ab (d_set hu I2 g r1 r2 λs3 I3=>Ah ?_);show Ar _ _ (forIn [] _ _) _ _ s3;rw[List.forIn_nil];exact Ah (Ah (Ah (Ah ⟨.ref s.heap.objs.size,H3,I3,rfl,q2⟩)))
end
open AutoSeq1 (wpAny_loadPart')
section
variable {prog:AJ}{w:A1}{A:AT}{E:Ad->Ae->Prop}{s:Ae}{d:Addr}{ep:Nat}{es:Array DictEntry}{od:Obj}
theorem zjr(hh:A.handled=none)(I d:Addr)(hne:d ≠ I)(dat:od.data = .dict es ep) :
  Walks prog w A I [I,d] [I] es.size (λi v=>∃e,es[i]?=some e/\v=e.key) (λi h=>h.IsKeyIter I d i es.size ep/\h.get? d=some od) where
 sub:=λb hb=>by simp at hb;simp[hb]
 frame:=λi h h' st k=>⟨st.1.at λo e=>k I (by simp) o e,k d (by simp) _ st.2⟩
 item:=λi s Q E hi st hQ=>by
  refine zhf st.1 st.2 dat (Array.getElem?_eq_getElem hi) λh' st' sb=>?_
  refine hQ _ h' s.toks ⟨_,Array.getElem?_eq_getElem hi,rfl⟩ ⟨st',(sb.2 d hne).trans st.2⟩ λb o hb e=>(sb.2 b (λz=>hb (by simp[z]))).trans e
 done:=λs Q E st hQ=>zi3 hh st.1 st.2 dat (Aj _) λh' eb=>hQ h' s.toks λb o hb e=>eb b o (λz=>hb (by simp[z])) e
 self:=λi s Q E st hQ=>wpAny_pyIter_keyiter st.1 hQ
theorem zld{Q:Bool->Ae->Prop}(g:s.heap.get? d=some od)(x:od.ExactDict)(h:Q false s):Ar (Ax prog w) A (Builtin.List.listLengthHint (.ref d)) Q E s:=by
 have ty:s.TypeIs (.ref d) "dict":=⟨od,g,x.1⟩;unfold Builtin.List.listLengthHint;refine Ab (wpAny_specialOf ty PySem.F.slot_dict_len.lookup ?_);generalize hid:("dict.__len__" : String)=id0
 wp_delta
 rw[show splitId id0=some ("dict","__len__") from by subst hid;decide +kernel];subst hid;refine Ab (wpAny_isInstance (T:="dict") (b:=true) ty (by rw[isSubtype_type];kernel_rfl) ?_);refine wpAny_ite_split (λhab=>absurd hab (by decide)) (λ_=>?_);refine wpAny_ite_split (λ_=>?_) (λhab=>absurd (by decide +kernel) hab);refine Ab (wpAny_typeOf (T:="dict") ty ?_);exact Ah h
theorem zif{R:Result -> Ae -> Prop}(hh:A.handled=none)(lo:(d == BF)=false)(g:s.heap.get? d=some od)(x:od.ExactDict)(dat:od.data = .dict es ep)(hz:es.size <= 2 ^ 24)
    (S:Addr) (res:Ad) (c₀:Nat) (hS:s.heap.get? S=some { cls:=.type "list",data:=.seq #[] c₀ })
    (hR:∀h' tk acc' c',(∀b o,b≠S->s.heap.get? b=some o->h'.get? b=some o)->h'.get? S=some { cls:=.type "list",dict:=none,data:=.seq acc' c',slots:=#[] } ->
      ItemsOf (λi v=>∃e,es[i]?=some e/\v=e.key) acc' es.size->R (.ok (.ret res)) { s with heap:=h',toks:=tk }) :
    Ar (Ax prog w) A.in1 (Cn (.ref S) (.ref d) res)
      (λfin s'=>match fin with |.done f=>R (.ok f) s' |.again c'=>c'.quiet=true/\B9 (Ax prog w) A c' R s') (λe s'=>R (.error e) s') s:=by
  have hSr:S≠d:=λe=>by rw[e,g]at hS;have:=x.1;cases hS;exact absurd (show CN "list" = CN "dict" from this) (by decide)
  have hSlt:S<s.heap.objs.size:=Ay hS;have hdlt:d<s.heap.objs.size:=Ay g;have hSI:S≠s.heap.objs.size:=AR hSlt
  have hSf:S ∉ [s.heap.objs.size,d]:=λhm=>by
    rcases Aw.mp hm with z |z
    . exact hSI z
    . exact hSr (Am.mp z)
  have W:=(zjr (prog:=prog) (w:=w) (A:=A.in1) hh s.heap.objs.size d (AR hdlt) dat).toS
  have key:∀(h:Heap) (c₁ tk:Nat), h.IsKeyIter s.heap.objs.size d 0 es.size ep /\ h.get? d=some od -> (∀b o, b ≠ S -> s.heap.get? b=some o -> h.get? b=some o) ->
      h.get? S=some { cls:=.type "list",data:=.seq #[] c₁ }->B9 (Ax prog w) A (.builtin "list.extend.loop" ⟨[.ref S,.ref s.heap.objs.size,res],[]⟩) R { s with heap:=h,toks:=tk }:=by
    intro h c₁ tk hit hk hS₁;refine codeAny_extend_loopS W (by rw[CA];lia) S hSf res es.size 0 _ #[] c₁ rfl (A5 _) hit hS₁ (ItemsOf.nil _) λs' acc' c' hm hS' hacc=>?_
    rw[Moved.eq_with hm];refine hR s'.heap s'.toks acc' c' (λb o hb e=>hm.heap b o (λhmem=>?_) (hk b o hb e)) hS' hacc;rcases Aw.mp hmem with e' |hmem
    . exact hb e'
    . exact absurd (Ay e) (by rw[Am.mp hmem];exact Cp _)
  unfold Cn;refine Ab (wpAny_typeOf (T:="dict") ⟨od,g,x.1⟩ ?_);have h1:Builtin.List.listSameRef (.ref S) (.ref d)=false:=by simp[Builtin.List.listSameRef,hSr]
  have h2:(CN "dict" == CN "list")=false:=by decide
  have h3:(CN "dict" == CN "tuple")=false:=by decide
  simp only[h1,h2,h3,Bool.or_false,BN,if_false];refine Ab (zeA lo g x dat ?_);refine Ab (A8 (zld (Ag _ g) x ?_));have hit₁:(s.heap.push { cls:=.type "dict_keyiterator",data:=.fields #[.ref d,.int 0 0,.int es.size 0,.int ep 0] }).IsKeyIter s.heap.objs.size d 0 es.size ep:=⟨_,Az _ rfl,rfl,rfl⟩;have hg₁:=Ag { cls:=.type "dict_keyiterator",data:=.fields #[.ref d,.int 0 0,.int es.size 0,.int ep 0] } g;have hS₁:=Ag { cls:=.type "dict_keyiterator",data:=.fields #[.ref d,.int 0 0,.int es.size 0,.int ep 0] } hS;refine wpAny_ite_split (λ_=>?_) (λhab=>absurd (by decide) hab);refine Ab (C4 ?_);refine Ab ?_
  show Ar _ _ (updateSeq S (·.push .none) >>= λ_=>updateSeq S (·.pop)) _ _ _;refine Ab (CQ hS₁ rfl ?_);have hS₂:=BZ (AM (·.push B3)) hS₁ rfl;refine CQ (hz:=by seq_fits) hS₂ rfl ?_
  have hS₃:=BZ (AM (·.pop)) hS₂ rfl;refine Ah ⟨Dk PySem.F.plain_extend_loop _,key _ _ _ ⟨hit₁.at λo e=>?_,?_⟩ (λb o hb e=>?_) hS₃⟩
  . exact (A4 _ _ hSI).trans ((A4 _ _ hSI).trans e)
  . exact (A4 _ _ hSr).trans ((A4 _ _ hSr).trans hg₁)
  . exact (A4 _ _ (Bu hb)).trans ((A4 _ _ (Bu hb)).trans (Ag _ e))
theorem zlb{R:Result -> Ae -> Prop}(hh:A.handled=none)(lo:(d == BF)=false)(g:s.heap.get? d=some od)(x:od.ExactDict)(dat:od.data = .dict es ep)(hz:es.size <= 2 ^ 24)
  (S:Addr) (hS:s.heap.get? S=some { cls:=.type "list",data:=.seq #[] })
  (hR:∀h' tk acc' c',(∀b o,b≠S->s.heap.get? b=some o->h'.get? b=some o)->h'.get? S=some { cls:=.type "list",dict:=none,data:=.seq acc' c',slots:=#[] } ->
   ItemsOf (λi v=>∃e,es[i]?=some e/\v=e.key) acc' es.size->R (.ok (.ret .none)) { s with heap:=h',toks:=tk }) :
  Ar (Ax prog w) A.in1 (Builtin.«list.__init__» ⟨[.ref S,.ref d],[]⟩)
   (λfin s'=>match fin with |.done f=>R (.ok f) s' |.again c'=>c'.quiet=true/\B9 (Ax prog w) A c' R s') (λe s'=>R (.error e) s') s:=by
 have hSr:S≠d:=λe=>by rw[e,g]at hS;have:=x.1;cases hS;exact absurd (show CN "list" = CN "dict" from this) (by decide)
 show Ar _ _ (do let old <- Builtin.List.listItems (.ref S);Builtin.List.listUpdate (.ref S) (λ_=>#[]);letGo old.toList.reverse;Cn (.ref S) (.ref d) .none) _ _ s;refine Ab ?_
 unfold Builtin.List.listItems;refine Ab (wpAny_seqItems hS rfl (Ah ?_));show Ar _ _ (updateSeq S (λ_=>#[]) >>= λ_=>letGo (#[]:Array Ad).toList.reverse >>= λ_=>Cn (.ref S) (.ref d) .none) _ _ s;refine Ab (CQ hS rfl ?_);have hS₂:=BZ (AM (λ_=>(#[]:Array Ad))) hS rfl
 have oth:∀b o,b≠S->s.heap.get? b=some o->(s.heap.update S (AM (λ_=>(#[]:Array Ad)))).get? b=some o :=
  λb o hb e=>(A4 _ _ (Bu hb)).trans e
 refine Ab (wpAny_letGo ?_);refine zif hh lo (oth d _ (Bu hSr) g) x dat hz S .none _ hS₂ λh' tk acc' c' hk hS' hacc=>?_
 exact hR h' tk acc' c' (λb o hb e=>hk b o hb (oth b o hb e)) hS' hacc
theorem ze8{Q:Ad -> Ae -> Prop}(hh:A.handled=none)(lo:(d == BF)=false)(g:s.heap.get? d=some od)(x:od.ExactDict)(dat:od.data = .dict es ep)(hz:es.size <= 2 ^ 24)
  (hQ:∀h' tk acc' c',(∀b o,s.heap.get? b=some o->h'.get? b=some o) ->
   h'.get? s.heap.objs.size=some { cls:=.type "list",dict:=none,data:=.seq acc' c',slots:=#[] }->ItemsOf (λi v=>∃e,es[i]?=some e/\v=e.key) acc' es.size->Q (.ref s.heap.objs.size) { s with heap:=h',toks:=tk }) :
  Ar (Ax prog w) A (call (.type "list") [.ref d]) Q E s:=by
 refine callType_codes (Q₁:=λobj s₁=>obj=.ref s.heap.objs.size/\s₁={ s with heap:=s.heap.push { cls:=.type "list",data:=.seq #[] } }) PySem.F.called_list (PySem.F.typeCall_list_1 _) PySem.F.entry_list_init
  (code_list_new _ ⟨rfl,rfl⟩) λobj s₁ h₁=>?_
 obtain⟨rfl,rfl⟩:=h₁;have hS:(s.heap.push { cls:=.type "list",data:=.seq #[] }).get? s.heap.objs.size=some { cls:=.type "list",data:=.seq #[] }:=Az _ rfl;refine⟨⟨_,hS,rfl⟩,PySem.F.args_list_init_2 _ _,zlb (A:=A.in1) hh lo (Ag _ g) x dat hz _ hS λh' tk acc' c' hk hS' hacc=>?_⟩;exact⟨rfl,hQ h' tk acc' c' (λb o e=>hk b o (AR (Ay e)) (Ag _ e)) hS' hacc⟩
end
noncomputable def KeyL(H:Hp)(ts:List V)(kvs:List (List Key×V)):Prop:=ts.length=kvs.length/\∀(i:Nat) t k v,ts[i]?=some t->kvs[i]?=some (k,v)->∃b,t=.ref b/\H b=some (.tup (k.map kV))
section
variable {X:Cx}
theorem zdT (hh:X.calm=true):CallR X (.type "list") (λxs H Q=>∃a kvs,xs=[.ref a]/\Rd H a (.dT kvs)/\∀l ts,H l=none->KeyL H ts kvs->Q (.ref l) (upd H l (.lst ts))):=by
 intro pins s σ H xs us Q I r h;obtain⟨a,kvs,rfl,e,q⟩:=h;obtain⟨u,rfl,rx⟩:=vals1 r
 cases rx
 obtain⟨z,y,ys,rr,od,es,ep,h1,h2,h3,h4,h5⟩:=(show ObjOk X.prog X.w H s.heap a (.dT kvs) from rd_of I.hok e);have hsz:es.size=kvs.length:=by rw[size_of_entries h4,<- CB rr]
 have z':=z;rw[CA]at z';refine ze8 (show X.A.handled=none from I.ok.hd hh) y h1 h2 h3 (by lia) λh' tk acc c kp g hacc=>?_
 have at_i:∀(i:Nat) (u:Ad),acc[i]?=some u->∃b k v,kvs[i]?=some (k,v)/\u=.ref b/\H b=some (.tup (k.map kV)):=λi u hu=>by
  obtain⟨en,he,rfl⟩:=hacc.2 i u hu
  have hi:i<kvs.length:=by have:=(Array.getElem?_eq_some_iff.mp he).1;lia
  obtain⟨q',hq,q1,q2,q3⟩:=Paired.at' rr (Aa hi);have he':es[i]?=some (entryOfKey (DC (zaJ X.prog X.w)) q'):=by rw[entry_at h4,hq];rfl
  rw[he]at he'
  cases he'
  exact⟨q'.2.1,kvs[i].1,kvs[i].2,Aa hi,rfl,q2⟩
 have hal:acc.size=kvs.length:=by rw[<- hsz];exact hacc.1
 let ts:List V:=acc.toList.map λu=>match u with |.ref b=>V.ref b |_=>V.non
 have hts:ts.length=kvs.length:=by simp[ts,hal]
 have hrel:Vals ts acc.toList:=zlx (by simp[ts]) λi x u hx hu=>by
  rw[Ak,hu]at hx
  cases hx
  obtain⟨b,k,v,_,rfl,_⟩:=at_i i u (by simpa using hu);rfl
 have hn:H s.heap.objs.size=none:=I.hok.fresh (Aj _);refine⟨.ref s.heap.objs.size,_,I.laid (t':=tk) (o:=.lst ts) kp (Aj _) ⟨by rw[hts];exact z,acc.toList,c,hrel,by rw[Array.toArray_toList];exact g⟩,rfl,q _ ts hn ⟨hts,λi t k v ht hk=>?_⟩⟩;have hi:i<acc.toList.length:=by have:=(Ac.mp ht).1;simpa[ts]using this
 have hu:acc.toList[i]?=some acc.toList[i]:=Aa hi;obtain⟨b,k',v',hk',hu',hb⟩:=at_i i acc.toList[i] (by simpa using hu);rw[hk]at hk'
 cases hk'
 rw[Ak,hu]at ht
 cases ht
 rw[hu'];exact⟨b,rfl,hb⟩
end
section
variable {X:Cx}{es:List Expr}{te:TE}{t:TA}{pos:Pos}
theorem pa_T{l:List Expr}{k:Nat}(ha:PE X (.Tuple l k pos) te)(hr:PA X es t):PA X (.Tuple l k pos::es) (tCons te t):=zah ha hr (by rfl)
theorem pa_C{c:Const}{k:Nat}(ha:PE X (.Constant c k pos) te)(hr:PA X es t):PA X (.Constant c k pos::es) (tCons te t):=zah ha hr (by rfl)
theorem pa_U{o:UnaryOp}{a:Expr}(ha:PE X (.UnaryOp o a pos) te)(hr:PA X es t):PA X (.UnaryOp o a pos::es) (tCons te t):=zah ha hr (by rfl)
theorem pa_B{a b:Expr}{o:Operator}(ha:PE X (.BinOp a o b pos) te)(hr:PA X es t):PA X (.BinOp a o b pos::es) (tCons te t):=zah ha hr (by rfl)
theorem pa_N{x:Str}(ha:PE X (.Name x pos) te)(hr:PA X es t):PA X (.Name x pos::es) (tCons te t):=zah ha hr (by rfl)
end
noncomputable def tPrs:List (V×V)->TA
 |[]=>tNil
 | (a,b)::r=>tCons (tTup (tCons (tC a) (tCons (tC b) tNil))) (tPrs r)
theorem zaQ{i:Nat}{v:V}{σ:St}{H:Hp}{Q:St->Hp->Prop}:gName i v σ H Q=Q (σ.set i (some v)) H:=rfl
theorem zoh{i:Nat}{v:V}{u:TS}{D:Ends}{σ:St}{H:Hp}:tSeq (tAsg (tC v) (gName i)) u D σ H=u D (σ.set i (some v)) H:=rfl
section
variable {X:Cx}{tg:Expr}
noncomputable def zhh(tl:TE):TI:=λσ H R=>tl σ H λx H1=>∃a kvs,x=.ref a/\((H1 a=some (.dT kvs)/\∀od,R (Itd a od) (upd H1 a (.frz od (.dT kvs))))∨∃od,H1 a=some (.frz od (.dT kvs))/\R (Itd a od) H1)
theorem zdm{l:Expr}{tl:TE}(hl:PE X l tl):PI X tg l (zhh tl):=by
 intro pins s σ H R I h;refine thn (hl pins s σ H _ I h) λv s1 ⟨x,H1,I1,r1,q1⟩=>?_
 obtain⟨a,kvs,e,q⟩:=q1;subst e
 cases r1
 rcases q with⟨hd,q⟩ |⟨od,hd,q⟩
 .obtain⟨z,y,xs,r,od,es,ep,h1,h2,h3,h4,h5⟩:=(show ObjOk X.prog X.w H1 s1.heap a (.dT kvs) from I1.hok a _ hd)
  have I2:Inv X pins σ (upd H1 a (.frz od (.dT kvs))) s1:=I1.write (h':=s1.heap) (t':=s1.toks) (x:=a) (e:=a) (by rw[hd];exact Cc) (.inl rfl) (λb u _ g=>g) ⟨od,h1⟩
   ⟨h1,z,y,xs,KT.keeps r (λc ys ec=>by rw[zaj (ne_of ec hd (λz=>nomatch z))];exact ec),od,es,ep,h1,h2,h3,h4,h5⟩
  refine zeA y h1 h2 h3 ?_
  refine⟨s1.heap.objs.size,[s1.heap.objs.size],_,_,_,rfl,I2.kept (t':=s1.toks) λb o e=>Ag _ e,zgJ a _ od h3,⟨_,Az _ rfl,rfl,rfl⟩,λb hb=>?_,q od⟩;have e:b=s1.heap.objs.size:=by simpa using hb
  subst e;exact I2.fpOk (Aj _) (I2.hok.fresh (Aj _))
 .obtain⟨g,z,y,xs,r,od',es,ep,h1,h2,h3,h4,h5⟩:=(show ObjOk X.prog X.w H1 s1.heap a (.frz od (.dT kvs)) from I1.hok a _ hd);rw[g]at h1
  cases h1
  refine zeA y g h2 h3 ?_
  refine⟨s1.heap.objs.size,[s1.heap.objs.size],_,_,_,rfl,I1.kept (t':=s1.toks) λb o e=>Ag _ e,zgJ a _ od h3,⟨_,Az _ rfl,rfl,rfl⟩,λb hb=>?_,q⟩;have e:b=s1.heap.objs.size:=by simpa using hb
  subst e;exact I1.fpOk (Aj _) (I1.hok.fresh (Aj _))
end
end L2
namespace RP
noncomputable def av(w:Nat):Int:=if w=0∨w=1 then 1 else 0
noncomputable def bv(w:Nat):Int:=if w=1∨w=2 then 1 else 0
noncomputable def eU(e:Edge):Int:=px e+py e+av e.w
noncomputable def eV(e:Edge):Int:=py e-px e+bv e.w
noncomputable def tt(C:Cell->Bool)(e:Edge):Int:=match stepB C e with
 |none=>1
 |some s=>if s % 2=1 then -1 else 0
noncomputable def eK(w:Nat):Int:=(if w=1∨w=2 then 1 else 0)+(if w=2∨w=3 then 1 else 0)+av w
noncomputable def eL(w:Nat):Int:=(if w=2∨w=3 then 1 else 0)-(if w=1∨w=2 then 1 else 0)+bv w
theorem e_tab:∀w<4,∀v<4,(eK w-eK v+(eL w-eL v)) % 2≠0∨w=v∨(eK w-eK v-(eL w-eL v)=2*(mv ((2*w+6) % 8)).1/\eK w-eK v+(eL w-eL v)=2*(mv ((2*w+6) % 8)).2):=by decide
theorem eU_of(e:Edge):eU e=e.c.1+e.c.2+eK e.w:=by unfold eU px py eK;lia
theorem eV_of(e:Edge):eV e=e.c.2-e.c.1+eL e.w:=by unfold eV px py eL;lia
theorem e_inj{C:Cell->Bool}{e f:Edge}(he:IsE C e)(hf:IsE C f)(h1:eU e=eU f)(h2:eV e=eV f):e=f:=by
 rw[eU_of,eU_of]at h1;rw[eV_of,eV_of]at h2;have t:=e_tab e.w he.1 f.w hf.1;obtain⟨⟨x,y⟩,w⟩:=e;obtain⟨⟨x',y'⟩,w'⟩:=f;simp only at h1 h2 t;rcases t with z |z |⟨z1,z2⟩
 .exfalso;lia
 .subst z;have a:x=x':=by lia
  have b:y=y':=by lia
  rw[a,b]
 .have g:=he.2.2;have a:x'=x+(mv ((2*w+6) % 8)).1:=by lia
  have b:y'=y+(mv ((2*w+6) % 8)).2:=by lia
  have c:=hf.2.1;rw[a,b]at c;exact absurd (c.symm.trans g) (by decide)
theorem zcG{C:Cell->Bool}{e:Edge}(h:IsE C e):eU (nxt C e)=eU e+(av e.w+av (nxt C e).w-1)/\eV (nxt C e)=eV e+(bv e.w+bv (nxt C e).w-1):=by obtain⟨p,q⟩:=zg2 h;unfold eU eV;rw[p,q];have hw:=h.1;generalize (nxt C e).w=w';rcases way4 hw with r |r |r |r <;> rw[r] <;> simp[av,bv,dx,dy] <;> lia
theorem zfM{C:Cell -> Bool}{e:Edge}(h:IsE C e) :
  (tt C e=-1/\(nxt C e).w=(e.w+3) % 4)∨(tt C e=0/\(nxt C e).w=e.w)∨(tt C e=1/\(nxt C e).w=(e.w+1) % 4):=by
 unfold tt;rcases zaI h with⟨_,s,q⟩ |⟨_,_,s,q⟩ |⟨_,_,s,q⟩ <;> rw[q,s] <;> simp only
 .left;rw[if_pos (odd7 _)];exact⟨by decide,trivial⟩
 .right;left;rw[if_neg (by lia)];exact⟨by decide,trivial⟩
 .right;right;exact⟨by decide,trivial⟩
theorem c_at{C:Cell->Bool}{a b c d:Int}{v:Bool}(h:C (a,b)=v)(h1:c=a)(h2:d=b):C (c,d)=v:=by subst h1 h2;exact h
theorem zfj{C:Cell -> Bool}{e:Edge}(h:IsE C e)(ht:tt C e=0) :
  C (px e+dx e.w-1,py e+dy e.w-1)=decide (e.w=1∨e.w=2)/\C (px e+dx e.w,py e+dy e.w-1)=decide (e.w=2∨e.w=3):=by
 obtain⟨⟨x,y⟩,w⟩:=e;obtain⟨hw,hc,hg⟩:=id h;rcases zaI h with⟨_,s,q⟩ |⟨k1,k2,s,q⟩ |⟨_,_,s,q⟩
 .exfalso;unfold tt at ht;rw[s]at ht;simp only at ht;rw[if_pos (odd7 _)]at ht;exact absurd ht (by decide)
 .simp only at hw hc k1 k2
  rcases way4 hw with rfl |rfl |rfl |rfl <;> simp only[gap,go,mv,px,py,dx,dy]at hg k1 k2 ⊢ <;> simp at hg k1 k2 hc ⊢ <;>
   refine⟨?_,?_⟩ <;> first |exact c_at hg (by lia) (by lia) |exact c_at hc (by lia) (by lia) |exact c_at k1 (by lia) (by lia) |exact c_at k2 (by lia) (by lia)
 .exfalso;unfold tt at ht;rw[s]at ht;exact absurd ht (by decide)
theorem zd6(w:Nat):av w=0∨av w=1:=by unfold av;split <;> simp
theorem zjk(w:Nat):bv w=0∨bv w=1:=by unfold bv;split <;> simp
theorem zgu:∀w<4,∀n,n=(w+3) % 4∨n=(w+1) % 4->(av w=av n/\bv w+bv n=1)∨(av w+av n=1/\bv w=bv n):=by intro w hw n hn;rcases hn with rfl |rfl <;> revert w <;> decide
theorem dx_av:∀w<4,dx w=av w-bv w/\dy w=av w+bv w-1:=by decide
theorem znd{C:Cell->Bool}{e f:Edge}(he:IsE C e)(hf:IsE C f)(h1:eU e+eU (nxt C e)=eU f+eU (nxt C f))(h2:eV e+eV (nxt C e)=eV f+eV (nxt C f)):e=f:=by
 obtain⟨a1,a2⟩:=zcG he;obtain⟨b1,b2⟩:=zcG hf
 have key:e=f∨(tt C e=0/\tt C f=0/\px e+dx e.w=px f+dx f.w/\py e+dy e.w=py f+dy f.w)∨(eU e=eU (nxt C f)/\eV e=eV (nxt C f)/\e.w≠(nxt C f).w):=by
  rw[a1,b1]at h1;rw[a2,b2]at h2
  have ta:(tt C e=0/\(nxt C e).w=e.w)∨(av e.w=av (nxt C e).w/\bv e.w+bv (nxt C e).w=1)∨(av e.w+av (nxt C e).w=1/\bv e.w=bv (nxt C e).w):=by
   rcases zfM he with⟨_,n⟩ |q |⟨_,n⟩
   .exact .inr (zgu _ he.1 _ (.inl n))
   .exact .inl q
   .exact .inr (zgu _ he.1 _ (.inr n))
  have tb:(tt C f=0/\(nxt C f).w=f.w)∨(av f.w=av (nxt C f).w/\bv f.w+bv (nxt C f).w=1)∨(av f.w+av (nxt C f).w=1/\bv f.w=bv (nxt C f).w):=by
   rcases zfM hf with⟨_,n⟩ |q |⟨_,n⟩
   .exact .inr (zgu _ hf.1 _ (.inl n))
   .exact .inl q
   .exact .inr (zgu _ hf.1 _ (.inr n))
  have fin:eU e=eU f->eV e=eV f->e=f:=λq1 q2=>e_inj he hf q1 q2
  have dif:∀{g:Nat->Int},g e.w≠g (nxt C f).w->e.w≠(nxt C f).w:=λ{g} q z=>q (by rw[z])
  rw[b1,b2];rcases ta with⟨t1,n1⟩ |⟨p1,p2⟩ |⟨p1,p2⟩ <;> rcases tb with⟨t2,n2⟩ |⟨q1,q2⟩ |⟨q1,q2⟩
  .rw[n1,n2]at h1 h2;have u1:eU e=px e+py e+av e.w:=rfl;have u2:eV e=py e-px e+bv e.w:=rfl;have v1:eU f=px f+py f+av f.w:=rfl;have v2:eV f=py f-px f+bv f.w:=rfl;obtain⟨d1,d2⟩:=dx_av _ he.1;obtain⟨d3,d4⟩:=dx_av _ hf.1;exact .inr (.inl ⟨t1,t2,by lia,by lia⟩)
  .rw[n1]at h1 h2;exfalso;lia
  .rw[n1]at h1 h2;exfalso;lia
  .rw[n2]at h1 h2;exfalso;lia
  .rcases Classical.em (av e.w=av f.w) with z |z
   .exact .inl (fin (by lia) (by lia))
   .have c1:=zd6 e.w;have c2:=zd6 f.w;exact .inr (.inr ⟨by lia,by lia,dif (g:=av) (by lia)⟩)
  .exfalso;lia
  .rw[n2]at h1 h2;exfalso;lia
  .exfalso;lia
  .rcases Classical.em (bv e.w=bv f.w) with z |z
   .exact .inl (fin (by lia) (by lia))
   .have c1:=zjk e.w;have c2:=zjk f.w;exact .inr (.inr ⟨by lia,by lia,dif (g:=bv) (by lia)⟩)
 rcases key with h |⟨t1,t2,q1,q2⟩ |⟨q1,q2,q3⟩
 .exact h
 .obtain⟨c1,c2⟩:=zfj he t1;obtain⟨d1,d2⟩:=zfj hf t2;rw[q1,q2]at c1 c2;rw[c1]at d1;rw[c2]at d2;have d1':=decide_eq_decide.mp d1;have d2':=decide_eq_decide.mp d2;have hw:=he.1;have hw':=hf.1;have ww:e.w=f.w:=by lia
  rw[ww]at q1 q2;refine e_inj he hf ?_ ?_ <;> simp only[eU,eV] <;> rw[ww] <;> lia
 .exact absurd (congrArg Edge.w (e_inj he (zdN hf) q1 q2)) q3
noncomputable def cr(x1 y1 x2 y2:Int):Int:=if y1=-1/\y2=0/\0<x2 then 1 else if y1=0/\y2=-1/\0<x1 then -1 else 0
noncomputable def crT(t y1 y2:Int):Int:=if y1=-1/\y2=0 then t else if y1=0/\y2=-1 then -t else 0
theorem zd5(t y:Int):crT t y y=0:=by unfold crT;rw[if_neg (by lia),if_neg (by lia)]
theorem zjg(t y z:Int):crT t y z+crT t z y=0:=by
 unfold crT
 by_cases h:y=-1/\z=0
 .rw[if_pos h,if_neg (by lia),if_pos ⟨h.2,h.1⟩];lia
 .by_cases k:y=0/\z=-1
  .rw[if_neg h,if_pos k,if_pos ⟨k.2,k.1⟩];lia
  .rw[if_neg h,if_neg k,if_neg (by lia),if_neg (by lia)];rfl
theorem cr_T{t x1 y1 x2 y2:Int}(h1:y1=0->(0<x1/\t=1)∨(¬ 0<x1/\t=0))(h2:y2=0->(0<x2/\t=1)∨(¬ 0<x2/\t=0)):cr x1 y1 x2 y2=crT t y1 y2:=by
 unfold cr crT
 by_cases h:y1=-1/\y2=0
 .rcases h2 h.2 with⟨q,r⟩ |⟨q,r⟩
  .rw[if_pos ⟨h.1,h.2,q⟩,if_pos h,r]
  .rw[if_neg (by lia),if_neg (by lia),if_pos h,r]
 .rw[if_neg (λz=>h ⟨z.1,z.2.1⟩),if_neg h]
  by_cases k:y1=0/\y2=-1
  .rcases h1 k.1 with⟨q,r⟩ |⟨q,r⟩
   .rw[if_pos ⟨k.1,k.2,q⟩,if_pos k,r]
   .rw[if_neg (by lia),if_pos k,r];rfl
  .rw[if_neg (λz=>k ⟨z.1,z.2.1⟩),if_neg k]
theorem cr_sq(u v a1 a2 b1 b2:Int)(ha1 : -1 <= a1 /\ a1 <= 1)(ha2 : -1 <= a2 /\ a2 <= 1)(hb1 : -1 <= b1 /\ b1 <= 1)(hb2 : -1 <= b2 /\ b2 <= 1)
  (h00:¬(u=0/\v=0)) (h10:¬(u+a1=0/\v+a2=0)) (h01:¬(u+b1=0/\v+b2=0)) (h11:¬(u+a1+b1=0/\v+a2+b2=0))
  (hc:¬(2*u+a1+b1=0/\2*v+a2+b2=0)) :
  cr u v (u+a1) (v+a2)+cr (u+a1) (v+a2) (u+a1+b1) (v+a2+b2)=cr u v (u+b1) (v+b2)+cr (u+b1) (v+b2) (u+a1+b1) (v+a2+b2):=by
 obtain⟨t,k00,k10,k01,k11⟩:∃t:Int,(v=0->(0<u/\t=1)∨(¬ 0<u/\t=0))/\(v+a2=0->(0<u+a1/\t=1)∨(¬ 0<u+a1/\t=0))/\(v+b2=0->(0<u+b1/\t=1)∨(¬ 0<u+b1/\t=0))/\(v+a2+b2=0->(0<u+a1+b1/\t=1)∨(¬ 0<u+a1+b1/\t=0)):=by
  rcases Classical.em ((v=0/\0<u)∨(v+a2=0/\0<u+a1)∨(v+b2=0/\0<u+b1)∨(v+a2+b2=0/\0<u+a1+b1)) with z |z
  .exact⟨1,λh=>.inl ⟨by lia,rfl⟩,λh=>.inl ⟨by lia,rfl⟩,λh=>.inl ⟨by lia,rfl⟩,λh=>.inl ⟨by lia,rfl⟩⟩
  .exact⟨0,λh=>.inr ⟨by lia,rfl⟩,λh=>.inr ⟨by lia,rfl⟩,λh=>.inr ⟨by lia,rfl⟩,λh=>.inr ⟨by lia,rfl⟩⟩
 rw[cr_T k00 k10,cr_T k10 k11,cr_T k00 k01,cr_T k01 k11];have c:a2=b2∨a2=0∨b2=0∨a2=-b2:=by lia
 rcases c with rfl |rfl |rfl |rfl
 .rfl
 .rw[Int.add_zero,zd5,zd5];lia
 .rw[Int.add_zero,Int.add_zero,zd5,zd5];lia
 .rw[show v+-b2+b2=v by lia,zjg,zjg]
section
variable (U V:Nat->Int)
noncomputable def hH(i j:Nat):Int:=cr (U j-U i) (V j-V i) (U (j+1)-U i) (V (j+1)-V i)
noncomputable def gG(i j:Nat):Int:=cr (U j-U i) (V j-V i) (U j-U (i+1)) (V j-V (i+1))
noncomputable def sE:Nat->Int
 | 0=>0
 |i+1=>sE i+hH U V i (i+1)+gG U V i (i+2)
noncomputable def sF(i:Nat):Nat->Int
 | 0=>sE U V i
 |d+1=>sF i d+hH U V i (i+1+d)
variable {U V}
variable {n:Nat}
theorem zhT(su:∀k, -1 <= U (k + 1)-U k /\ U (k + 1)-U k <= 1)(sv:∀k, -1 <= V (k + 1)-V k /\ V (k + 1)-V k <= 1)
  (hd:∀i j,i<j->j<=n->¬(i=0/\j=n)->¬(U j-U i=0/\V j-V i=0))
  (hm:∀i j,i<j->j<n->¬(U i+U (i+1)=U j+U (j+1)/\V i+V (i+1)=V j+V (j+1))) :
  ∀d i,i+2+d<=n->¬(i=0/\i+2+d=n)->sF U V (i+1) d-sF U V i (d+1)=gG U V i (i+2+d)
 | 0,i,h,hx=>by
  show sE U V (i+1)-(sE U V i+hH U V i (i+1+0))=_;show sE U V i+hH U V i (i+1)+gG U V i (i+2)-(sE U V i+hH U V i (i+1))=gG U V i (i+2);lia
 |d+1,i,h,hx=>by
  have ih:=zhT su sv hd hm d i (by lia) (by lia);show sF U V (i+1) d+hH U V (i+1) (i+1+1+d)-(sF U V i (d+1)+hH U V i (i+1+(d+1)))=gG U V i (i+2+(d+1));have j1:i+1+1+d=i+2+d:=by lia
  have j2:i+1+(d+1)=i+2+d:=by lia
  have j3:i+2+(d+1)=(i+2+d)+1:=by lia
  rw[j1,j2,j3];generalize hj:i+2+d=j at *
  have q:=cr_sq (U j-U i) (V j-V i) (-(U (i+1)-U i)) (-(V (i+1)-V i)) (U (j+1)-U j) (V (j+1)-V j)
   (by have:=su i;lia) (by have:=sv i;lia) (su j) (sv j)
   (hd i j (by lia) (by lia) (by lia))
   (by have:=hd (i+1) j (by lia) (by lia) (by lia);lia)
   (by have:=hd i (j+1) (by lia) (by lia) (by lia);lia)
   (by have:=hd (i+1) (j+1) (by lia) (by lia) (by lia);lia)
   (by have:=hm i j (by lia) (by lia);lia)
  have e1:U j-U i+-(U (i+1)-U i)=U j-U (i+1):=by lia
  have e2:V j-V i+-(V (i+1)-V i)=V j-V (i+1):=by lia
  have e3:U j-U i+(U (j+1)-U j)=U (j+1)-U i:=by lia
  have e4:V j-V i+(V (j+1)-V j)=V (j+1)-V i:=by lia
  have e5:U j-U (i+1)+(U (j+1)-U j)=U (j+1)-U (i+1):=by lia
  have e6:V j-V (i+1)+(V (j+1)-V j)=V (j+1)-V (i+1):=by lia
  rw[e1,e2,e3,e4,e5,e6]at q;have q':gG U V i j+hH U V (i+1) j=hH U V i j+gG U V i (j+1):=q;lia
theorem cr_up{a b c d:Int}(h1:0<=b)(h2:0<=d):cr a b c d=0:=by unfold cr;rw[if_neg (by lia),if_neg (by lia)]
theorem cr_dn{a b c d:Int}(h1:b=0->a<=0)(h2:d=0->c<=0):cr a b c d=0:=by unfold cr;rw[if_neg (by lia),if_neg (by lia)]
theorem znE(hn : 3 <= n)(su:∀k, -1 <= U (k + 1)-U k /\ U (k + 1)-U k <= 1)(sv:∀k, -1 <= V (k + 1)-V k /\ V (k + 1)-V k <= 1)
  (hd:∀i j,i<j->j<=n->¬(i=0/\j=n)->¬(U j-U i=0/\V j-V i=0))
  (hm:∀i j,i<j->j<n->¬(U i+U (i+1)=U j+U (j+1)/\V i+V (i+1)=V j+V (j+1)))
  (hU:U n=U 0) (hV:V n=V 0) (mV:∀k,k<n->V 0<=V k) (mU:∀k,k<n->V k=V 0->U 0<=U k) :
  sE U V (n-1)=gG U V 0 (n-1)+hH U V 1 (n-1):=by
 have r0:∀d,d+2<=n->sF U V 0 d=0:=by
  intro d
  induction d with
  |zero=>intro _;rfl
  |succ d ih =>
   intro h;show sF U V 0 d+hH U V 0 (0+1+d)=0;rw[ih (by lia)];have:=mV (0+1+d) (by lia);have:=mV (0+1+d+1) (by lia);unfold hH;rw[cr_up (by lia) (by lia)];rfl
 have s1:=zhT su sv hd hm (n-3) 0 (by lia) (by lia);rw[show n-3+1=n-2 by lia,r0 (n-2) (by lia),show 0+2+(n-3)=n-1 by lia]at s1
 have s2:sF U V 1 (n-2)=sF U V 1 (n-3)+hH U V 1 (n-1):=by have:sF U V 1 (n-3+1)=sF U V 1 (n-3)+hH U V 1 (1+1+(n-3)):=rfl;rw[show n-3+1=n-2 by lia,show 1+1+(n-3)=n-1 by lia]at this;exact this
 have r1:∀k,1+k<=n-1->sF U V (1+k) (n-2-k)=sF U V 1 (n-2):=by
  intro k
  induction k with
  |zero=>intro _;rfl
  |succ k ih =>
   intro h;have s:=zhT su sv hd hm (n-3-k) (1+k) (by lia) (by lia);rw[show n-3-k+1=n-2-k by lia,show 1+k+2+(n-3-k)=n by lia,ih (by lia)]at s
   have z:gG U V (1+k) n=0:=by unfold gG;have a1:=mV (1+k) (by lia);have a2:=mU (1+k) (by lia);have b1:=mV (1+k+1) (by lia);have b2:=mU (1+k+1) (by lia);exact cr_dn (by lia) (by lia)
   rw[z]at s;rw[show 1+(k+1)=1+k+1 by lia,show n-2-(k+1)=n-3-k by lia];lia
 have e:=r1 (n-2) (by lia);rw[show 1+(n-2)=n-1 by lia,show n-2-(n-2)=0 by lia]at e;show sF U V (n-1) 0=_;rw[e];have:(0:Nat)+1=1:=rfl;rw[this]at s1;lia
end
noncomputable def crs(x1 y1 x2 y2:Int):Int:=cr x1 y1 (x1+x2) (y1+y2)+cr (x1+x2) (y1+y2) x2 y2
noncomputable def ok8(w i j:Nat):Bool :=
 let w1:=(w+i+3) % 4
 let w2:=(w1+j+3) % 4
 let t:Int:=(i:Int)-1
 let t':Int:=(j:Int)-1
 crs (av w+av w1-1) (bv w+bv w1-1) (av w1+av w2-1) (bv w1+bv w2-1) == (2*((w:Int)+t)-1+t') / 8-(2*(w:Int)-1+t) / 8 &&
 crs (-(av w+av w1-1)) (-(bv w+bv w1-1)) (-(av w1+av w2-1)) (-(bv w1+bv w2-1)) == (2*((w:Int)+t)-1+t'+4) / 8-(2*(w:Int)-1+t+4) / 8
theorem all8:∀w<4,∀i<3,∀j<3,ok8 w i j=true:=by decide
noncomputable def it(C:Cell->Bool)(b:Edge):Nat->Edge
 | 0=>b
 |k+1=>nxt C (it C b k)
theorem Chain.get{C:Cell->Bool}{b:Edge}{es:List Edge}(h:Chain C b es):∀i,i<es.length->es[i]?=some (it C b i)
 | 0,_=>h.1
 |i+1,hi=>by
  have h1:=Chain.get h i (by lia);have:=h.2.1 i _ _ h1 (Aa hi);rw[Aa hi,this];rfl
theorem Closed.pos{C:Cell->Bool}{b:Edge}{es:List Edge}(h:Closed C b es):0<es.length:=(Ac.mp h.1.1).1
theorem Closed.it_len{C:Cell->Bool}{b:Edge}{es:List Edge}(h:Closed C b es):it C b es.length=b:=by
 obtain⟨hc,l,hl,hb⟩:=id h;have hp:=h.pos;have:=hc.get (es.length-1) (by lia);rw[hl]at this
 cases this
 have e:it C b (es.length-1+1)=nxt C (it C b (es.length-1)):=rfl;rw[show es.length-1+1=es.length by lia]at e;rw[e,hb]
theorem it_ok{C:Cell->Bool}{b:Edge}(h:IsE C b):∀k,IsE C (it C b k)
 | 0=>h
 |k+1=>zdN (it_ok h k)
noncomputable def wW(C:Cell->Bool)(b:Edge):Nat->Int
 | 0=>b.w
 |k+1=>wW C b k+tt C (it C b k)
theorem tt_ix{C:Cell->Bool}{e:Edge}(h:IsE C e):∃i:Nat,i<3/\tt C e=(i:Int)-1/\(nxt C e).w=(e.w+i+3) % 4:=by
 have hw:=h.1;rcases zfM h with⟨a,b⟩ |⟨a,b⟩ |⟨a,b⟩
 .exact⟨0,by decide,by rw[a];rfl,by rw[b]⟩
 .exact⟨1,by decide,by rw[a];rfl,by rw[b];lia⟩
 .exact⟨2,by decide,by rw[a];rfl,by rw[b];lia⟩
theorem zgE{C:Cell->Bool}{b:Edge}(h:IsE C b):∀k,wW C b k % 4=((it C b k).w:Int)
 | 0=>by have:=h.1;show (b.w:Int) % 4=b.w;lia
 |k+1=>by
  have ih:=zgE h k;obtain⟨i,hi,e1,e2⟩:=tt_ix (it_ok h k);show (wW C b k+tt C (it C b k)) % 4=((nxt C (it C b k)).w:Int);rw[e1,e2];lia
noncomputable def th(C:Cell->Bool)(b:Edge)(k:Nat):Int:=2*wW C b k-1+tt C (it C b k)
noncomputable def up8(w i:Nat):Bool :=
 let w1:=(w+i+3) % 4
 decide (0<bv w+bv w1-1∨(bv w+bv w1-1=0/\0<=av w+av w1-1)) == decide ((2*(w:Int)-1+((i:Int)-1)) % 8<4) &&
 decide (bv w+bv w1-1<0∨(bv w+bv w1-1=0/\av w+av w1-1<=0)) == decide (4<=(2*(w:Int)-1+((i:Int)-1)) % 8) &&
 !(decide (av w+av w1-1=0/\bv w+bv w1-1=0))
theorem zoe:∀w<4,∀i<3,up8 w i=true:=by decide
theorem half{C:Cell -> Bool}{b:Edge}(h:IsE C b)(k:Nat) :
  ((0<eV (it C b (k+1))-eV (it C b k)∨(eV (it C b (k+1))-eV (it C b k)=0/\0<=eU (it C b (k+1))-eU (it C b k))) ↔ th C b k % 8<4) /\
  ((eV (it C b (k+1))-eV (it C b k)<0∨(eV (it C b (k+1))-eV (it C b k)=0/\eU (it C b (k+1))-eU (it C b k)<=0)) ↔ 4<=th C b k % 8) /\
  ¬ (eU (it C b (k+1))-eU (it C b k)=0/\eV (it C b (k+1))-eV (it C b k)=0):=by
 obtain⟨i,hi,e1,e2⟩:=tt_ix (it_ok h k);obtain⟨s1,s2⟩:=zcG (it_ok h k);have q:=zoe _ (it_ok h k).1 i hi;have m:=zgE h k;simp only[up8,BQ,beq_iff_eq,decide_eq_decide,Bool.not_eq_true',decide_eq_false_iff_not]at q;rw[<- e2]at q;obtain⟨⟨q1,q2⟩,q3⟩:=q;have t:th C b k % 8=(2*((it C b k).w:Int)-1+((i:Int)-1)) % 8:=by unfold th;rw[e1];lia
 rw[t];have d1:eU (it C b (k+1))-eU (it C b k)=av (it C b k).w+av (nxt C (it C b k)).w-1:=by show eU (nxt C (it C b k))-_=_;lia
 have d2:eV (it C b (k+1))-eV (it C b k)=bv (it C b k).w+bv (nxt C (it C b k)).w-1:=by show eV (nxt C (it C b k))-_=_;lia
 rw[d1,d2];exact⟨q1,q2,q3⟩
theorem sub0{a b:Int}(h:b-a=0):a=b:=by lia
theorem ziy{a b c:Int}(h:a=b+c):a-b=c:=by lia
theorem turn8{C:Cell -> Bool}{b:Edge}(h:IsE C b)(k:Nat) :
  crs (eU (it C b (k+1))-eU (it C b k)) (eV (it C b (k+1))-eV (it C b k)) (eU (it C b (k+2))-eU (it C b (k+1))) (eV (it C b (k+2))-eV (it C b (k+1)))=th C b (k+1) / 8-th C b k / 8 /\
  crs (-(eU (it C b (k+1))-eU (it C b k))) (-(eV (it C b (k+1))-eV (it C b k))) (-(eU (it C b (k+2))-eU (it C b (k+1)))) (-(eV (it C b (k+2))-eV (it C b (k+1))))=(th C b (k+1)+4) / 8-(th C b k+4) / 8:=by
 obtain⟨i,hi,e1,e2⟩:=tt_ix (it_ok h k);obtain⟨j,hj,f1,f2⟩:=tt_ix (it_ok h (k+1));obtain⟨s1,s2⟩:=zcG (it_ok h k);obtain⟨s3,s4⟩:=zcG (it_ok h (k+1));have m:=zgE h k;have q:=all8 _ (it_ok h k).1 i hi j hj;simp only[ok8,BQ,beq_iff_eq]at q;have w1:(it C b (k+1)).w=((it C b k).w+i+3) % 4:=e2;rw[<- w1,<- f2]at q;have wn:wW C b (k+1)=wW C b k+((i:Int)-1):=by show wW C b k+tt C (it C b k)=_;rw[e1]
 have t0:th C b k=2*wW C b k-1+((i:Int)-1):=by unfold th;rw[e1]
 have t1:th C b (k+1)=2*(wW C b k+((i:Int)-1))-1+((j:Int)-1):=by unfold th;rw[f1,wn]
 have d1:eU (it C b (k+1))-eU (it C b k)=av (it C b k).w+av (it C b (k+1)).w-1:=ziy s1;have d2:eV (it C b (k+1))-eV (it C b k)=bv (it C b k).w+bv (it C b (k+1)).w-1:=ziy s2;have d3:eU (it C b (k+2))-eU (it C b (k+1))=av (it C b (k+1)).w+av (nxt C (it C b (k+1))).w-1:=ziy s3;have d4:eV (it C b (k+2))-eV (it C b (k+1))=bv (it C b (k+1)).w+bv (nxt C (it C b (k+1))).w-1:=ziy s4;rw[d1,d2,d3,d4,t0,t1,q.1,q.2];clear q d1 d2 d3 d4 s1 s2 s3 s4 t0 t1 wn w1 f1 f2 e1 e2;generalize wW C b k=W at *;generalize (it C b k).w=w at *;constructor <;> lia
theorem znR:∀w<4,∀i<3,¬ (av w+av ((w+i+3) % 4)=1/\bv w+bv ((w+i+3) % 4)=1):=by decide
theorem zlH{T0 Tm Tn D s:Int}(key:Tm / 8-T0 / 8=(Tn+4) / 8-(Tm+4) / 8)(u0:T0 % 8<4)(um:4<=Tm % 8)(hD:D % 4=0)(hn:Tn=T0+2*D)(hm:Tm=Tn-s)(s1:-2<=s)(s2:s<=2):(D=4/\0<s)∨(D=-4/\s<0):=by
 obtain⟨d,rfl⟩:∃d,D=4*d:=⟨D / 4,by lia⟩;have h1:(Tn+4) / 8=T0 / 8+d:=by lia
 have h2:(Tm+4) / 8=Tm / 8+1:=by lia
 rw[h1,h2]at key;have a1:T0=8*(T0 / 8)+T0 % 8:=by lia
 have a2:Tm=8*(Tm / 8)+Tm % 8:=by lia
 have a3:0<=T0 % 8:=by lia
 have a4:Tm % 8<8:=by lia
 generalize T0 / 8=a at *;generalize Tm / 8=c at *;generalize T0 % 8=r at *;generalize Tm % 8=p at *;clear h1 h2 hD;have:c-a-d=-1∨c-a-d=0:=by lia
 rcases this with z |z
 .exact .inl ⟨by lia,by lia⟩
 .exact .inr ⟨by lia,by lia⟩
theorem Closed.least_sign{C:Cell -> Bool}{b:Edge}{es:List Edge}(h:Closed C b es)
  (hmin:∀f∈es,eV b<=eV f/\(eV f=eV b->eU b<=eU f)):(wW C b es.length-wW C b 0=4/\0<tt C (it C b (es.length-1))+tt C b)∨(wW C b es.length-wW C b 0=-4/\tt C (it C b (es.length-1))+tt C b<0):=by
 have hp:=h.pos;have hE:IsE C b:=h.1.2.2.1 b (Af h.1.1);have hl:=h.it_len;have get:=h.1.get;have nd:=h.1.2.2.2;generalize hn:es.length=n at *;have mem:∀k,k<n->it C b k∈es:=λk hk=>Af (get k hk)
 have inj:∀i j,i<j->j<n->it C b i≠it C b j:=λi j hij hj e=>by have:=(Cb (i:=i) (j:=j) (by lia) nd).mp (by rw[get i (by lia),get j hj,e]);lia
 have n3:3<=n:=by
  have h0:=half hE 0;have h1:=half hE 1;have l1:=zgE hE 1;rcases AL n 3 with hlt |hge
  .exfalso;have:n=1∨n=2:=by lia
   rcases this with e |e
   .rw[e]at hl;have z:=h0.2.2;rw[show 0+1=1 from rfl,hl]at z;exact z ⟨by show eU b-eU b=0;lia,by show eV b-eV b=0;lia⟩
   .rw[e]at hl;have a:=(tt_ix (it_ok hE 0));have c:=(tt_ix (it_ok hE 1));obtain⟨s1,s2⟩:=zcG (it_ok hE 0);obtain⟨s3,s4⟩:=zcG (it_ok hE 1);change it C b (1+1)=b at hl;have hl':nxt C (it C b 1)=b:=hl;rw[hl']at s3 s4;have i0:it C b 0=b:=rfl;have i1:nxt C (it C b 0)=it C b 1:=rfl;obtain⟨i,hi,_,e2⟩:=a;rw[i1,i0]at s1 s2 e2;have hw:=hE.1;have hw1:=(it_ok hE 1).1;have x1:av b.w+av (it C b 1).w=1:=by lia
    have x2:bv b.w+bv (it C b 1).w=1:=by lia
    rw[e2]at x1 x2;exact znR _ hw _ hi ⟨x1,x2⟩
  .exact hge
 have key:=znE (U:=λk=>eU (it C b k)) (V:=λk=>eV (it C b k)) n3
  (λk=>by obtain⟨s1,_⟩:=zcG (it_ok hE k);show -1<=eU (nxt C (it C b k))-eU (it C b k)/\eU (nxt C (it C b k))-eU (it C b k)<=1;have a:=zd6 (it C b k).w;have c:=zd6 (nxt C (it C b k)).w;lia)
  (λk=>by
   obtain⟨_,s1⟩:=zcG (it_ok hE k);show -1<=eV (nxt C (it C b k))-eV (it C b k)/\eV (nxt C (it C b k))-eV (it C b k)<=1;have a:bv (it C b k).w=0∨bv (it C b k).w=1:=by unfold bv;split <;> simp
   have c:bv (nxt C (it C b k)).w=0∨bv (nxt C (it C b k)).w=1:=by unfold bv;split <;> simp
   lia)
  (λi j hij hj hx z=>by
   have e:=e_inj (it_ok hE i) (it_ok hE j) (sub0 z.1) (sub0 z.2);rcases AL j n with hlt |hge
   .exact inj i j hij hlt e
   .have:j=n:=by lia
    rw[this,hl]at e;exact inj 0 i (by lia) (by lia) e.symm)
  (λi j hij hj z=>inj i j hij hj (znd (it_ok hE i) (it_ok hE j) z.1 z.2))
  (by show eU (it C b n)=eU b;rw[hl]) (by show eV (it C b n)=eV b;rw[hl])
  (λk hk=>(hmin _ (mem k hk)).1) (λk hk=>(hmin _ (mem k hk)).2)
 have sE_th:∀k,sE (λk=>eU (it C b k)) (λk=>eV (it C b k)) k=th C b k / 8-th C b 0 / 8:=by
  intro k
  induction k with
  |zero=>show (0:Int)=_;lia
  |succ k ih =>
   have q:=(turn8 hE k).1;unfold crs at q;have e1:eU (it C b (k+1))-eU (it C b k)+(eU (it C b (k+2))-eU (it C b (k+1)))=eU (it C b (k+2))-eU (it C b k):=by lia
   have e2:eV (it C b (k+1))-eV (it C b k)+(eV (it C b (k+2))-eV (it C b (k+1)))=eV (it C b (k+2))-eV (it C b k):=by lia
   rw[e1,e2]at q;show sE (λk=>eU (it C b k)) (λk=>eV (it C b k)) k+hH (λk=>eU (it C b k)) (λk=>eV (it C b k)) k (k+1)+gG (λk=>eU (it C b k)) (λk=>eV (it C b k)) k (k+2)=_;rw[ih];unfold hH gG;show th C b k / 8-th C b 0 / 8+cr (eU (it C b (k+1))-eU (it C b k)) (eV (it C b (k+1))-eV (it C b k)) (eU (it C b (k+2))-eU (it C b k)) (eV (it C b (k+2))-eV (it C b k))+cr (eU (it C b (k+2))-eU (it C b k)) (eV (it C b (k+2))-eV (it C b k)) (eU (it C b (k+2))-eU (it C b (k+1))) (eV (it C b (k+2))-eV (it C b (k+1)))=_;lia
 obtain⟨m,rfl⟩:∃m,n=m+1:=⟨n-1,by lia⟩;rw[show m+1-1=m by lia,sE_th]at key;have i2:it C b (m+2)=it C b 1:=by show nxt C (it C b (m+1))=nxt C b;rw[hl]
 have q:=(turn8 hE m).2;rw[i2,hl]at q;unfold crs at q;unfold gG hH at key;simp only at key;rw[hl]at key;have z0:it C b 0=b:=rfl;rw[show 0+1=1 from rfl,z0]at key;have e1:-(eU b-eU (it C b m))+-(eU (it C b 1)-eU b)=eU (it C b m)-eU (it C b 1):=by lia
 have e2:-(eV b-eV (it C b m))+-(eV (it C b 1)-eV b)=eV (it C b m)-eV (it C b 1):=by lia
 have e3:-(eU b-eU (it C b m))=eU (it C b m)-eU b:=by lia
 have e4:-(eV b-eV (it C b m))=eV (it C b m)-eV b:=by lia
 have e5:-(eU (it C b 1)-eU b)=eU b-eU (it C b 1):=by lia
 have e6:-(eV (it C b 1)-eV b)=eV b-eV (it C b 1):=by lia
 rw[e1,e2,e3,e4,e5,e6]at q;rw[q]at key
 have u0:th C b 0 % 8<4:=by
  refine (half hE 0).1.mp ?_
  obtain⟨a,c⟩:=hmin _ (mem 1 (by lia));rw[z0];show 0<eV (it C b 1)-eV b∨(eV (it C b 1)-eV b=0/\0<=eU (it C b 1)-eU b);lia
 have um:4<=th C b m % 8:=by
  refine (half hE m).2.1.mp ?_
  obtain⟨a,c⟩:=hmin _ (mem m (by lia));rw[hl];lia
 have md:=zgE hE (m+1);rw[hl]at md;have w0:wW C b 0=(b.w:Int):=rfl;have wn:wW C b (m+1)=wW C b m+tt C (it C b m):=rfl;have t0:th C b 0=2*wW C b 0-1+tt C b:=rfl;have tm:th C b m=2*wW C b m-1+tt C (it C b m):=rfl;have tn:th C b (m+1)=2*wW C b (m+1)-1+tt C b:=by unfold th;rw[hl]
 obtain⟨i,hi,r1,_⟩:=tt_ix hE;obtain⟨j,hj,r2,_⟩:=tt_ix (it_ok hE m);rw[show m+1-1=m from rfl];exact zlH key u0 um (by lia) (by lia) (by lia) (by lia) (by lia)
theorem Closed.least_turn{C:Cell -> Bool}{b:Edge}{es:List Edge}(h:Closed C b es)
  (hmin:∀f∈es,eV b<=eV f/\(eV f=eV b->eU b<=eU f)):wW C b es.length-wW C b 0=4∨wW C b es.length-wW C b 0=-4 :=
 (h.least_sign hmin).imp And.left And.left
theorem Closed.head{C:Cell->Bool}{b a:Edge}{r:List Edge}(h:Closed C b (a::r)):a=b:=by have:=h.1.1;simpa using this
theorem Closed.rot1{C:Cell->Bool}{b c:Edge}{r:List Edge}(h:Closed C b (b::r))(hc:(r++[b])[0]?=some c):Closed C c (r++[b]):=by
 obtain⟨⟨h0,hs,hE,hn⟩,l,hl,hb⟩:=id h;refine⟨⟨hc,λi e f h1 h2=>?_,λe he=>hE e (by rcases AH.mp he with m |m;exact At _ m;rw[Am.mp m];exact AC),?_⟩,?_⟩
 .have hi:=(Ac.mp h2).1;simp only[An,A7,Ce]at hi;rw[As (by lia)]at h1;rcases AL (i+1) r.length with q |q
  .rw[As q]at h2;exact hs (i+1) e f (by simpa using h1) (by simpa using h2)
  .have e1:i+1=r.length:=by lia
   rw[AF (by lia),e1]at h2;simp at h2;have e2:(b::r).length-1=i+1:=by simp;lia
   rw[e2]at hl;simp only[List.getElem?_cons_succ]at hl;rw[hl]at h1
   cases h1
   rw[hb,h2]
 .rw[Ca];have:=Cd.mp hn;exact⟨this.2,by simp,λx hx y hy e=>by rw[Am.mp hy]at e;rw[e]at hx;exact this.1 hx⟩
 .refine⟨b,by simp,?_⟩
  cases r with
  |nil =>
   simp at hl hc;subst hc;subst hl;exact hb
  |cons a r =>
   simp at hc;have:=hs 0 b a rfl rfl;rw[<- this,hc]
theorem Closed.rot{C:Cell->Bool}:∀(j:Nat){b e:Edge}{es:List Edge},Closed C b es->es[j]?=some e->Closed C e (es.drop j++es.take j)
 | 0,b,e,es,h,he=>by
  have:=h.1.1;rw[he]at this
  cases this
  simpa using h
 |j+1,b,e,[],h,he=>by simp at he
 |j+1,b,e,a::r,h,he=>by
  have:=h.head;subst this;simp only[List.getElem?_cons_succ]at he;have hj:=(Ac.mp he).1;obtain⟨c,hc⟩:∃c,(r++[a])[0]?=some c:=⟨_,Aa (by simp)⟩;have h1:=h.rot1 hc;have h2:=Closed.rot j h1 (by rw[As hj];exact he);rw[List.drop_append_of_le_length (by lia),List.take_append_of_le_length (by lia)]at h2;simpa using h2
theorem zj4{C:Cell->Bool}{b:Edge}{es:List Edge}(h:Chain C b es):∀i,i<=es.length->((es.take i).map (tt C)).sum=wW C b i-wW C b 0
 | 0,_=>by simp
 |i+1,hi=>by
  have ih:=zj4 h i (by lia);rw[C8,h.get i (by lia)];simp only[Option.toList_some,AN,AW,List.map_nil,Dv,Bz,List.sum_nil];rw[ih];show _=wW C b i+tt C (it C b i)-wW C b 0;lia
theorem zc4:∀(es:List Edge),es≠[]->∃b∈es,∀f∈es,eV b<=eV f/\(eV f=eV b->eU b<=eU f)
 |[],h=>absurd rfl h
 |[a],_=>⟨a,by simp,λf hf=>by rw[Am.mp hf];exact⟨Cr _,λ_=>Cr _⟩⟩
 |a::c::r,_=>by
  obtain⟨b,hb,q⟩:=zc4 (c::r) (by simp)
  by_cases hl:eV b<eV a∨(eV b=eV a/\eU b<=eU a)
  .refine⟨b,At _ hb,λf hf=>?_⟩;rcases Aw.mp hf with rfl |hf
   .lia
   .exact q f hf
  .refine⟨a,AC,λf hf=>?_⟩;rcases Aw.mp hf with rfl |hf
   .lia
   .have:=q f hf;lia
theorem zhI(l:List Int)(j:Nat):(l.drop j++l.take j).sum=l.sum:=by
 have:=List.take_append_drop j l;rw[Dv]
 conv=>rhs;rw[<- this,Dv]
 lia
theorem Closed.turning{C:Cell->Bool}{b:Edge}{es:List Edge}(h:Closed C b es):(es.map (tt C)).sum=4∨(es.map (tt C)).sum=-4:=by
 have hp:=h.pos;obtain⟨e,he,q⟩:=zc4 es (by intro z;rw[z]at hp;simp at hp);obtain⟨j,hj,ej⟩:=AD he;have h1:=h.rot j (by rw[Aa hj,ej])
 have h2:=h1.least_turn (λf hf=>q f (by
  rcases AH.mp hf with m |m
  .exact List.mem_of_mem_drop m
  .exact List.mem_of_mem_take m))
 rw[<- zj4 h1.1 _ (Aj _),AG,AN,List.map_drop,List.map_take,zhI]at h2;exact h2
theorem zfL(C:Cell->Bool):∀es:List Edge,(es.map (tt C)).sum=((es.filter λe=>(stepB C e).isNone).length:Int)-((es.filter λe=>slant (stepB C e)).length:Int)
 |[]=>rfl
 |e::r=>by
  have ih:=zfL C r
  have q:tt C e=(if (stepB C e).isNone=true then 1 else 0)-(if slant (stepB C e)=true then 1 else 0):=by
   unfold tt
   cases hs:stepB C e with
   |none=>rfl
   |some s =>
    by_cases h:s % 2=1
    .simp[slant,h]
    .have h0:s % 2=0:=by lia
     simp[slant,h0]
  simp only[AW,Bz,List.filter_cons];rw[q,ih];split <;> split <;> (try simp only[A7]) <;> lia
noncomputable def zbg(s:Nat):Nat:=(s+1) / 2 % 4
noncomputable def wayB(s:Nat):Nat:=(zbg s+4-s % 2) % 4
noncomputable def dgo:Nat->List Nat->List (Option Nat)×Nat
 |w,[]=>([],w)
 |w,s::r=>(Ap ((zbg s+4-w) % 4) none++some s::(dgo (wayB s) r).1,(dgo (wayB s) r).2)
noncomputable def zaO(w:Nat)(row:List Nat):Nat:=if row.isEmpty then 4 else (w+4-(dgo w row).2) % 4
noncomputable def deeds(w:Nat)(row:List Nat):List (Option Nat):=(dgo w row).1++Ap (zaO w row) none
theorem zlG{C:Cell->Bool}{e:Edge}(h:IsE C e){s:Nat}(hs:stepB C e=some s):zbg s=e.w/\wayB s=(nxt C e).w/\s<8:=by have hw:=h.1;rcases zaI h with⟨_,q,n⟩ |⟨_,_,q,n⟩ |⟨_,_,q,n⟩ <;> rw[n] <;> rw[q]at hs <;> cases hs <;> unfold wayB zbg <;> simp only <;> rcases way4 hw with r |r |r |r <;> rw[r] <;> decide
theorem ziV{C:Cell->Bool}{e:Edge}(h:IsE C e)(hs:stepB C e=none):nxt C e=⟨e.c,(e.w+1) % 4⟩:=by
 rcases zaI h with⟨_,q,n⟩ |⟨_,_,q,n⟩ |⟨_,_,q,n⟩
 .rw[q]at hs;cases hs
 .rw[q]at hs;cases hs
 .exact n
noncomputable def zmP(C:Cell->Bool)(es:List Edge):Prop:=∀i,¬ ∀m,m<4->∃e,es[i+m]?=some e/\stepB C e=none
theorem zgp{C:Cell -> Bool}{b:Edge}{es:List Edge}(h:Chain C b es)(hE:IsE C b)(nf:zmP C es):∀(n p j w:Nat), es.length-p=n -> p <= es.length -> j <= 3 -> j <= p -> w < 4 -> (∀m, m < j -> ∃e, es[p-1-m]? = some e /\ stepB C e=none) ->
    (it C b p).w=(w+j) % 4->∃t,t<=3/\Ap j none++(es.drop p).map (stepB C)=(dgo w (((es.drop p).map (stepB C)).filterMap id)).1++Ap t none /\
      ((dgo w (((es.drop p).map (stepB C)).filterMap id)).2+t) % 4=(it C b es.length).w/\(dgo w (((es.drop p).map (stepB C)).filterMap id)).2<4
  | 0,p,j,w,hn,hp,hj,hjp,hw,hl,hway=>by
    have e:es.drop p=[]:=List.drop_eq_nil_iff.mpr (by lia);have hpe:p=es.length:=by lia
    rw[e,<- hpe];exact⟨j,hj,by simp[dgo],hway.symm,hw⟩
  |n+1,p,j,w,hn,hp,hj,hjp,hw,hl,hway=>by
    have hlt:p<es.length:=by lia
    have hd:es.drop p=es[p]::es.drop (p+1):=List.drop_eq_getElem_cons hlt;have hg:=h.get p hlt;rw[Aa hlt]at hg;have hg':es[p]=it C b p:=AX hg;have hEp:IsE C (it C b p):=it_ok hE p;rw[hd,hg']
    cases hs:stepB C (it C b p) with
    |none =>
      have hj3:j+1<=3:=by
        rcases AL j 3 with q |q
        . lia
        . exfalso;have j3:j=3:=by lia
          subst j3;refine nf (p-3) λm hm=>?_
          rcases AL m 3 with a |a
          . obtain⟨e,h1,h2⟩:=hl (2-m) (by lia);exact⟨e,by rw[<- h1];congr 1;lia,h2⟩
          . have:m=3:=by lia
            subst this;exact⟨_,by rw[show p-3+3=p by lia,Aa hlt,hg'],hs⟩
      have hnx:=ziV hEp hs
      obtain⟨t, t3, q1, q2, q3⟩ := zgp h hE nf n (p + 1) (j + 1) w (by lia) (by lia) hj3 (by lia) hw (λm hm => by
          cases m with
          |zero=>exact⟨_,by rw[show p+1-1-0=p by lia,Aa hlt,hg'],hs⟩
          |succ m =>
            obtain⟨e,h1,h2⟩:=hl m (by lia);exact⟨e,by rw[<- h1];congr 1;lia,h2⟩) (by
          show (nxt C (it C b p)).w=_;rw[hnx];simp only;rw[hway];lia)
      refine⟨t,t3,?_,?_,?_⟩
      . simp only[AW,hs];rw[show (none::(es.drop (p+1)).map (stepB C)).filterMap id=((es.drop (p+1)).map (stepB C)).filterMap id from rfl,<- q1,List.replicate_succ'];simp
      . simp only[AW,hs];exact q2
      . simp only[AW,hs];exact q3
    |some s =>
      obtain⟨w1,w2,_⟩:=zlG hEp hs;have hwB:wayB s<4:=AU _ (by decide)
      obtain⟨t, t3, q1, q2, q3⟩ := zgp h hE nf n (p + 1) 0 (wayB s) (by lia) (by lia) (by lia) (by lia) hwB (λm hm => by lia) (by
          show (nxt C (it C b p)).w=_;rw[w2,Nat.add_zero];have:=(zdN hEp).1;lia)
      refine⟨t,t3,?_,?_,?_⟩
      . simp only[AW,hs];rw[show (some s::(es.drop (p+1)).map (stepB C)).filterMap id=s::((es.drop (p+1)).map (stepB C)).filterMap id from rfl];show _=(Ap ((zbg s+4-w) % 4) none++some s::(dgo (wayB s) _).1)++Ap t none;have hk:(zbg s+4-w) % 4=j:=by rw[w1,hway];lia
        rw[hk];have q1':(es.drop (p+1)).map (stepB C)=(dgo (wayB s) (((es.drop (p+1)).map (stepB C)).filterMap id)).1++Ap t none:=by simpa using q1
        rw[CZ,List.cons_append,<- q1']
      . simp only[AW,hs];exact q2
      . simp only[AW,hs];exact q3
theorem zgm{C:Cell->Bool}{b:Edge}(hE:IsE C b){i:Nat}:∀m,(∀q,q<m->stepB C (it C b (i+q))=none)->it C b (i+m)=⟨(it C b i).c,((it C b i).w+m) % 4⟩
 | 0,_=>by
  have:=(it_ok hE i).1;show it C b i=_;rw[Nat.add_zero,Nat.mod_eq_of_lt this]
 |m+1,h=>by
  have ih:=zgm hE m λq hq=>h q (by lia)
  show nxt C (it C b (i+m))=_;rw[ziV (it_ok hE (i+m)) (h m (by lia)),ih];simp only[Edge.mk.injEq,true_and];lia
theorem Closed.deeds{C:Cell->Bool}{b:Edge}{es:List Edge}(h:Closed C b es):es.map (stepB C)=RP.deeds b.w ((es.map (stepB C)).filterMap id):=by
 have hE:IsE C b:=h.1.2.2.1 b (Af h.1.1);have hp:=h.pos;have hl:=h.it_len
 have four:∀i,(∀m,m<4->∃e,es[i+m]?=some e/\stepB C e=none)->i=0/\es.length=4:=λi hi=>by
  have hi3:i+3<es.length:=by obtain⟨e,h1,_⟩:=hi 3 (by decide);exact (Ac.mp h1).1
  have st:∀q,q<4->stepB C (it C b (i+q))=none:=λq hq=>by
   obtain⟨e,h1,h2⟩:=hi q hq;rw[h.1.get (i+q) (by lia)]at h1
   cases h1;exact h2
  have e4:=zgm hE 4 st
  have e4':it C b (i+4)=it C b i:=by rw[e4];have:=(it_ok hE i).1;rw[show ((it C b i).w+4) % 4=(it C b i).w by lia]
  rcases AL (i+4) es.length with q |q
  .exfalso;have:=(Cb (i:=i) (j:=i+4) (by lia) h.1.2.2.2).mp (by rw[h.1.get i (by lia),h.1.get (i+4) q,e4']);lia
  .have hn:es.length=i+4:=by lia
   rw[<- hn,hl]at e4';have:=(Cb (i:=0) (j:=i) (by lia) h.1.2.2.2).mp (by rw[h.1.get 0 hp,h.1.get i (by lia),<- e4'];rfl);lia
 by_cases hr:(es.map (stepB C)).filterMap id=[]
 .have all:∀i, i < es.length -> stepB C (it C b i)=none := λi hi => by
   have hg:=h.1.get i hi
   cases hs:stepB C (it C b i) with
   |none=>rfl
   |some s =>
    exfalso;have:s∈(es.map (stepB C)).filterMap id:=List.mem_filterMap.mpr ⟨some s,Aq.mpr ⟨_,Af hg,hs⟩,rfl⟩;rw[hr]at this;cases this
  have hn4:es.length=4:=by
   have el:=zgm hE (i:=0) es.length (λq hq=>by rw[Nat.zero_add];exact all q hq);rw[Nat.zero_add,hl]at el;have ew:=congrArg Edge.w el;have hw:=hE.1;change b.w=(b.w+es.length) % 4 at ew;have h4:4<=es.length:=by lia
   refine (four 0 λm hm=>⟨it C b m,?_,all m (by lia)⟩).2;rw[Nat.zero_add];exact h.1.get m (by lia)
  rw[hr];show _=(dgo b.w []).1++Ap 4 none
  apply List.ext_getElem?
  intro i;rcases AL i 4 with q |q
  .rw[Ak,h.1.get i (by lia),CP,all i (by lia)];show _=(Ap 4 (none:Option Nat))[i]?;rw[List.getElem?_replicate,if_pos q]
  .rw[BJ (by rw[Ai];lia),BJ (by simp[dgo];lia)]
 .have nf:zmP C es := λi hi => by
   obtain⟨_,h4⟩:=four i hi;have hi0:=(four i hi).1;subst hi0
   apply hr
   apply List.filterMap_eq_nil_iff.mpr
   intro o ho;obtain⟨e,he,rfl⟩:=Aq.mp ho;obtain⟨j,hj,ej⟩:=AD he;obtain⟨f,h1,h2⟩:=hi j (by lia);rw[Nat.zero_add,Aa hj,ej]at h1
   cases h1
   exact h2
  obtain⟨t,t3,q1,q2,q3⟩:=zgp h.1 hE nf es.length 0 0 b.w (by lia) (by lia) (by lia) (by lia) hE.1 (λm hm=>by lia) (by
   show b.w=_;have:=hE.1;lia)
  rw[List.drop_zero]at q1 q2 q3;rw[hl]at q2
  have ht:zaO b.w ((es.map (stepB C)).filterMap id)=t:=by unfold zaO;rw[if_neg (by simpa using hr)];have:=hE.1;lia
  unfold RP.deeds;rw[ht];simpa using q1
set_option synthInstance.maxSize 4000 in
set_option synthInstance.maxHeartbeats 400000 in
theorem zkZ:∀y < 4, ∀i < 3, ∀j < 3, 0 <= bv ((y + j + 3) % 4) + bv (((y + j + 3) % 4 + i + 3) % 4)-1 -> (bv ((y + j + 3) % 4) + bv (((y + j + 3) % 4 + i + 3) % 4)-1=0 -> 0 <= av ((y + j + 3) % 4) + av (((y + j + 3) % 4 + i + 3) % 4)-1) ->
  bv y+bv ((y+j+3) % 4)-1<=0->(bv y+bv ((y+j+3) % 4)-1=0->av y+av ((y+j+3) % 4)-1<=0)->(2<i+j->(y+j+3) % 4=0)/\(i+j<2->(y+j+3) % 4=2):=by decide
theorem Closed.least_way{C:Cell -> Bool}{b:Edge}{es:List Edge}(h:Closed C b es)
  (hmin:∀f∈es,eV b<=eV f/\(eV f=eV b->eU b<=eU f)):(b.w=0/\(es.map (tt C)).sum=4)∨(b.w=2/\(es.map (tt C)).sum=-4):=by
 have hp:=h.pos;have hE:IsE C b:=h.1.2.2.1 b (Af h.1.1);have hl:=h.it_len;have get:=h.1.get;have sg:=h.least_sign hmin;have ts:=zj4 h.1 es.length (Aj _);rw[AG]at ts;rw[<- ts]at sg;obtain⟨m,hm⟩:∃m,es.length=m+1:=⟨es.length-1,by lia⟩;rw[hm,show m+1-1=m from rfl]at sg;rw[hm]at hl;have hE':IsE C (it C b m):=it_ok hE m;have mm:it C b m∈es:=Af (get m (by lia));have nb:nxt C (it C b m)=b:=hl
 have hn:nxt C b∈es:=by
  rcases AL 1 es.length with z |z
  .exact Af (get 1 z)
  .have:m=0:=by lia
   subst this;have:nxt C b=b:=nb;rw[this];exact Af h.1.1
 obtain⟨s1,s2⟩:=zcG hE;obtain⟨s3,s4⟩:=zcG hE';rw[nb]at s3 s4;obtain⟨i,hi,r1,r1'⟩:=tt_ix hE;obtain⟨j,hj,r2,r2'⟩:=tt_ix hE';rw[nb]at r2';have m1:=hmin _ hn;have m2:=hmin _ mm;have w0:=hE.1;have w1:=hE'.1;have w2:=(zdN hE).1;generalize (nxt C b).w=x at *;generalize (it C b m).w=y at *;generalize tt C (it C b m)=ta at *;generalize tt C b=tb at *;generalize b.w=z at *;subst r1';subst r2';obtain⟨t1,t2⟩:=zkZ y w1 i hi j hj (by lia) (λq=>by have:=m1.2 (by lia);lia) (by lia) (λq=>by have:=m2.2 (by lia);lia);rcases sg with⟨g1,g2⟩ |⟨g1,g2⟩
 .exact .inl ⟨t1 (by lia),g1⟩
 .exact .inr ⟨t2 (by lia),g1⟩
theorem Closed.tele{C:Cell->Bool}{b:Edge}{es:List Edge}(h:Closed C b es){G g:Edge->Int}(hg:∀f∈es,G (nxt C f)=G f+g f):(es.map g).sum=0:=by
 have k:∀i,i<=es.length->((es.take i).map g).sum=G (it C b i)-G b:=by
  intro i
  induction i with
  |zero=>intro _;simp[it]
  |succ i ih =>
   intro hi;have h1:=h.1.get i (by lia);rw[C8,h1];simp only[Option.toList_some,AN,AW,List.map_nil,Dv,Bz,List.sum_nil];rw[ih (by lia)];have:=hg _ (Af h1);have e:it C b (i+1)=nxt C (it C b i):=rfl;rw[e,this];lia
 have:=k es.length (Aj _);rw[AG,h.it_len]at this;lia
theorem sums4{l:List Edge}{f g u v:Edge->Int}(h:∀e∈l,f e-g e=u e-v e):(l.map f).sum-(l.map g).sum=(l.map u).sum-(l.map v).sum:=by
 induction l with
 |nil=>simp
 |cons a r ih =>
  have h1:=h a AC;have h2:=ih λe he=>h e (At _ he)
  simp only[AW,Bz];lia
noncomputable def ind(es:List Edge)(a:Edge):Int:=if a∈es then 1 else 0
noncomputable def at1(a e:Edge):Int:=if e=a then 1 else 0
theorem zd9(a:Edge):∀{es:List Edge},es.Nodup->(es.map (at1 a)).sum=ind es a
 |[],_=>by simp[ind]
 |e::r,h=>by
  obtain⟨h1,h2⟩:=Cd.mp h;have ih:=zd9 a h2;simp only[AW,Bz,ih,ind,at1]
  by_cases z:e=a
  .subst z;rw[if_pos rfl,if_neg h1,if_pos AC];rfl
  .rw[if_neg z]
   by_cases y:a∈r
   .rw[if_pos y,if_pos (At _ y)];rfl
   .rw[if_neg y,if_neg]
    .rfl
    .intro m;rcases Aw.mp m with q |q
     .exact z q.symm
     .exact y q
noncomputable def wc(c:Cell)(e:Edge):Int:=if e.c.2=c.2/\c.1<px e then dy e.w else 0
noncomputable def wd(es:List Edge)(c:Cell):Int:=(es.map (wc c)).sum
theorem zlh{e:Edge}{x y:Int}{w:Nat}:e=⟨(x,y),w⟩ ↔ e.c.1=x/\e.c.2=y/\e.w=w:=by
 obtain⟨⟨a,b⟩,v⟩:=e;constructor
 .intro h;cases h;exact⟨rfl,rfl,rfl⟩
 .rintro⟨h1,h2,h3⟩;simp only at h1 h2 h3;rw[h1,h2,h3]
theorem zfG{es:List Edge}(h4:∀e∈es,e.w<4)(nd:es.Nodup)(x y:Int):wd es (x,y)-wd es (x+1,y)=ind es ⟨(x,y),1⟩ - ind es ⟨(x+1,y),3⟩:=by
 rw[<- zd9 _ nd,<- zd9 _ nd];refine sums4 λe he=>?_
 have hw:=h4 e he;unfold wc at1;simp only[zlh];obtain⟨⟨a,b⟩,v⟩:=e;simp only at hw;rcases way4 hw with rfl |rfl |rfl |rfl <;> simp[px,dy] <;> (repeat' split) <;> lia
theorem wd_up{C:Cell->Bool}{b:Edge}{es:List Edge}(h:Closed C b es)(x y:Int):wd es (x,y+1)-wd es (x,y)=ind es ⟨(x,y+1),0⟩ - ind es ⟨(x,y),2⟩:=by
 have hE:=h.1.2.2.1;have nd:=h.1.2.2.2
 have t:=h.tele (G:=λe=>if x<px e/\py e=y+1 then (1:Int) else 0)
  (g:=λe=>(wc (x,y) e-wc (x,y+1) e)+(at1 ⟨(x,y+1),0⟩ e-at1 ⟨(x,y),2⟩ e)) (λe he=>by obtain⟨p,q⟩:=zg2 (hE e he);have hw:=(hE e he).1;rw[p,q];clear p q;unfold wc at1;simp only[zlh];obtain⟨⟨a,b⟩,v⟩:=e;simp only at hw;rcases way4 hw with rfl |rfl |rfl |rfl <;> simp[px,py,dx,dy] <;> (repeat' split) <;> lia)
 rw[<- zd9 _ nd,<- zd9 _ nd]
 have k:∀l:List Edge,(l.map λe=>(wc (x,y) e-wc (x,y+1) e)+(at1 ⟨(x,y+1),0⟩ e-at1 ⟨(x,y),2⟩ e)).sum=((l.map (wc (x,y))).sum-(l.map (wc (x,y+1))).sum)+((l.map (at1 ⟨(x,y+1),0⟩)).sum-(l.map (at1 ⟨(x,y),2⟩)).sum):=by
  intro l
  induction l with
  |nil=>simp
  |cons a r ih=>simp only[AW,Bz,ih];lia
 rw[k]at t;unfold wd;lia
noncomputable def fac(e:Edge):Edge:=⟨gap e,(e.w+2) % 4⟩
theorem zhG{C:Cell->Bool}{b:Edge}{es:List Edge}(h:Closed C b es)(e:Edge)(hw:e.w<4):wd es e.c-wd es (gap e)=ind es e-ind es (fac e):=by
 have hE:=h.1.2.2.1;have nd:=h.1.2.2.2;have r:=zfG (λe he=>(hE e he).1) nd;have u:=wd_up h;obtain⟨⟨a,c⟩,v⟩:=e;simp only at hw;unfold fac;rcases way4 hw with rfl |rfl |rfl |rfl <;> simp only[gap,go,mv]
 .have:=u a (c-1);rw[show c-1+1=c by lia]at this;simp;rw[show c+-1=c-1 by lia];exact this
 .have:=r a c;simpa using this
 .have:=u a c;simp;lia
 .have:=r (a-1) c;rw[show a-1+1=a by lia]at this;simp;rw[show a+-1=a-1 by lia];lia
theorem zlc{C:Cell->Bool}{b:Edge}{es:List Edge}(h:Closed C b es){e:Edge}(hn:¬ IsE C e):ind es e=0:=by unfold ind;rw[if_neg λm=>hn (h.1.2.2.1 e m)]
theorem zlf{e:Edge}(hw:e.w<4):gap (fac e)=e.c:=by obtain⟨⟨a,c⟩,v⟩:=e;simp only at hw;unfold fac;rcases way4 hw with rfl |rfl |rfl |rfl <;> simp[gap,go,mv] <;> lia
theorem zd7{C:Cell->Bool}{b:Edge}{es:List Edge}(h:Closed C b es)(e:Edge)(hw:e.w<4)(hC:C e.c=C (gap e)):wd es e.c=wd es (gap e):=by
 have k:=zhG h e hw
 rw[zlc h (e:=e) (λz=>by have:=z.2.1;have:=z.2.2;simp_all),zlc h (e:=fac e) (λz=>by
  have h1:=z.2.1;have h2:=z.2.2;rw[zlf hw]at h2;have h1':C (gap e)=true:=h1
  simp_all)]at k
 lia
theorem zbQ{C:Cell->Bool}{b:Edge}{es:List Edge}(h:Closed C b es){e:Edge}(he:IsE C e):wd es e.c=wd es (gap e)+ind es e:=by have k:=zhG h e he.1;rw[zlc h (e:=fac e) (λz=>by have h1:C (gap e)=true:=z.2.1;rw[he.2.2]at h1;cases h1)]at k;lia
inductive Rch (D:Cell->Bool) (S:List Nat) (a:Cell):Cell->Prop where
 |refl:Rch D S a a
 |step {c:Cell} {s:Nat}:Rch D S a c->s∈S->D (go c s)=true->Rch D S a (go c s)
theorem Rch.trans{D:Cell->Bool}{S:List Nat}{a b c:Cell}(h:Rch D S a b)(k:Rch D S b c):Rch D S a c:=by
 induction k with
 |refl=>exact h
 |step _ hs hd ih=>exact .step ih hs hd
theorem Rch.dom{D:Cell->Bool}{S:List Nat}{a b:Cell}(h:Rch D S a b)(ha:D a=true):D b=true:=by
 cases h with
 |refl=>exact ha
 |step _ _ hd=>exact hd
noncomputable def S8:List Nat:=[0,1,2,3,4,5,6,7]
noncomputable def S4:List Nat:=[0,2,4,6]
theorem zi1{s:Nat}:s∈S8 ↔ s<8:=by unfold S8;simp;lia
theorem zhc{s:Nat}:s∈S4 ↔ ∃w,w<4/\s=(2*w+6) % 8:=by
 unfold S4;simp;constructor
 .rintro (rfl |rfl |rfl |rfl)
  .exact⟨1,by decide,by decide⟩
  .exact⟨2,by decide,by decide⟩
  .exact⟨3,by decide,by decide⟩
  .exact⟨0,by decide,by decide⟩
 .rintro⟨w,hw,rfl⟩;rcases way4 hw with rfl |rfl |rfl |rfl <;> decide
theorem Closed.mem_nxt{C:Cell->Bool}{b e:Edge}{es:List Edge}(h:Closed C b es)(he:e∈es):nxt C e∈es:=by
 obtain⟨⟨h0,hs,_,_⟩,l,hl,hb⟩:=h;obtain⟨i,hi,ei⟩:=AD he;rcases AL (i+1) es.length with z |z
 .have:=hs i e es[i+1] (by rw[Aa hi,ei]) (Aa z);rw[<- this];exact AV _
 .have hi':i=es.length-1:=by lia
  have:some e=some l:=by rw[<- hl,<- hi',Aa hi,ei]
  cases this
  rw[hb];exact Af h0
theorem Closed.nxt_mem{C:Cell->Bool}{b e:Edge}{es:List Edge}(h:Closed C b es)(hE:IsE C e)(he:nxt C e∈es):e∈es:=by
 obtain⟨⟨h0,hs,hE',_⟩,l,hl,hb⟩:=h;obtain⟨i,hi,ei⟩:=AD he
 cases i with
 |zero =>
  have:some (nxt C e)=some b:=by rw[<- h0,Aa hi,ei]
  cases this
  have lm:=Af hl;rw[zex hE (hE' l lm) hb.symm];exact lm
 |succ i =>
  have m:es[i]∈es:=AV (by lia);have:=hs i es[i] _ (Aa (by lia)) (by rw[Aa hi,ei]);rw[zex hE (hE' _ m) this];exact m
theorem Closed.ind_nxt{C:Cell->Bool}{b e:Edge}{es:List Edge}(h:Closed C b es)(hE:IsE C e):ind es (nxt C e)=ind es e:=by
 unfold ind
 by_cases z:e∈es
 .rw[if_pos z,if_pos (h.mem_nxt z)]
 .rw[if_neg z,if_neg λm=>z (h.nxt_mem hE m)]
theorem zlD{C:Cell->Bool}{b:Edge}{es:List Edge}(h:Closed C b es){c:Cell}{w:Nat}(hw:w<4)(hc:C c=true)(hd:C (go c ((2*w+7) % 8))=true):wd es c=wd es (go c ((2*w+7) % 8)):=by
 have g1:gap ⟨go c ((2*w+7) % 8),(w+3) % 4⟩=gap ⟨c,w⟩:=by unfold gap;simp only;rw[go_go (f1 w hw)]
 have hw3:(w+3) % 4<4:=AU _ (by decide)
 by_cases hg:C (gap ⟨c,w⟩)=true
 .have a:=zd7 h ⟨c,w⟩ hw (by rw[hg];exact hc);have d:=zd7 h ⟨go c ((2*w+7) % 8),(w+3) % 4⟩ hw3 (by rw[g1,hg];exact hd);rw[g1]at d;exact a.trans d.symm
 .have hg':C (gap ⟨c,w⟩)=false:=by simpa using hg
  have hE:IsE C ⟨c,w⟩:=⟨hw,hc,hg'⟩;rcases zaI hE with⟨_,_,q⟩ |⟨z,_⟩ |⟨z,_⟩
  .have a:=zbQ h hE;have hn:=zdN hE;have i:=h.ind_nxt hE;have d:=zbQ h hn;rw[i]at d;rw[q]at d;simp only at a d;rw[g1]at d;exact a.trans d.symm
  .simp only at z;rw[hd]at z;cases z
  .simp only at z;rw[hd]at z;cases z
theorem zm9{s:Nat}(h:s<8)(ho:s % 2=1):∃w,w<4/\s=(2*w+7) % 8:=⟨(s+1) / 2 % 4,AU _ (by decide),by lia⟩
theorem zl7{s:Nat}(h:s<8)(ho:s % 2=0):∃w,w<4/\s=(2*w+6) % 8:=⟨(s / 2+1) % 4,AU _ (by decide),by lia⟩
theorem zd0{C:Cell->Bool}{b:Edge}{es:List Edge}(h:Closed C b es){a c:Cell}(hc:Rch C S8 a c)(ha:C a=true):wd es c=wd es a:=by
 induction hc with
 |refl=>rfl
 |@step c s k hs hd ih =>
  have hc:=k.dom ha;have h8:=zi1.mp hs;rw[<- ih];rcases Nat.mod_two_eq_zero_or_one s with z |z
  .obtain⟨w,hw,rfl⟩:=zl7 h8 z;exact (zd7 h ⟨c,w⟩ hw (hc.trans hd.symm)).symm
  .obtain⟨w,hw,rfl⟩:=zm9 h8 z;exact (zlD h hw hc hd).symm
noncomputable abbrev no(C:Cell->Bool):Cell->Bool:=λc=>!C c
theorem zjU{C:Cell->Bool}{b:Edge}{es:List Edge}(h:Closed C b es){a c:Cell}(hc:Rch (no C) S4 a c)(ha:C a=false):wd es c=wd es a:=by
 induction hc with
 |refl=>rfl
 |@step c s k hs hd ih =>
  have hc:=k.dom (by simp[no,ha]);simp only[no,Bool.not_eq_true']at hc hd;obtain⟨w,hw,rfl⟩:=zhc.mp hs;rw[<- ih];exact (zd7 h ⟨c,w⟩ hw (hc.trans hd.symm)).symm
theorem zlX{C:Cell->Bool}{e:Edge}(h:IsE C e):Rch C S8 e.c (nxt C e).c:=by
 have hw:=h.1;rcases zaI h with⟨h1,_,q⟩ |⟨h1,h2,_,q⟩ |⟨h1,h2,_,q⟩ <;> rw[q]
 .exact .step .refl (zi1.mpr (AU _ (by decide))) h1
 .exact .step .refl (zi1.mpr (by lia)) h2
 .exact .refl
theorem f9:∀w<4,mvAdd ((2*w+6) % 8) (2*w) ((2*w+7) % 8)=true:=by decide
theorem f10:∀w<4,mvAdd ((2*w+7) % 8) ((2*w+2) % 8) (2*w)=true:=by decide
theorem zna{C:Cell->Bool}{e:Edge}(h:IsE C e):Rch (no C) S4 (gap e) (gap (nxt C e)):=by
 have hw:=h.1;have s0:2*e.w∈S4:=zhc.mpr ⟨(e.w+1) % 4,AU _ (by decide),by lia⟩;have s2:(2*e.w+2) % 8∈S4:=zhc.mpr ⟨(e.w+2) % 4,AU _ (by decide),by lia⟩;rcases zaI h with⟨h1,_,q⟩ |⟨h1,h2,_,q⟩ |⟨h1,h2,_,q⟩ <;> rw[q]
 .have:gap ⟨go e.c ((2*e.w+7) % 8),(e.w+3) % 4⟩=gap e:=by unfold gap;simp only;rw[go_go (f1 _ hw)]
  rw[this];exact .refl
 .have e1:gap ⟨go e.c (2*e.w),e.w⟩=go (gap e) (2*e.w):=by unfold gap;simp only;rw[go_go (f2 _ hw),go_go (f9 _ hw)]
  rw[e1];refine .step .refl s0 ?_
  unfold gap;rw[go_go (f9 _ hw)];simp[no,h1]
 .have e1:gap ⟨e.c, (e.w + 1) % 4⟩ = go (go (gap e) (2 * e.w)) ((2 * e.w + 2) % 8) := by unfold gap;simp only;rw[f3 _ hw,go_go (f9 _ hw),go_go (f10 _ hw)]
  rw[e1];refine .step (.step .refl s0 ?_) s2 ?_
  .unfold gap;rw[go_go (f9 _ hw)];simp[no,h1]
  .unfold gap;rw[go_go (f9 _ hw),go_go (f10 _ hw)];simp[no,h2]
theorem Closed.reach{C:Cell->Bool}{b:Edge}{es:List Edge}(h:Closed C b es):∀e∈es,Rch C S8 b.c e.c/\Rch (no C) S4 (gap b) (gap e):=by
 have hE:IsE C b:=h.1.2.2.1 b (Af h.1.1)
 have k:∀i,Rch C S8 b.c (it C b i).c/\Rch (no C) S4 (gap b) (gap (it C b i)):=by
  intro i
  induction i with
  |zero=>exact⟨.refl,.refl⟩
  |succ i ih=>exact⟨ih.1.trans (zlX (it_ok hE i)),ih.2.trans (zna (it_ok hE i))⟩
 intro e he;obtain⟨i,hi,ei⟩:=AD he;have:=h.1.get i hi;rw[Aa hi,ei]at this
 cases this
 exact k i
theorem Closed.from{C:Cell->Bool}{b e:Edge}{es:List Edge}(h:Closed C b es)(he:e∈es):∃fs,Closed C e fs/\(∀f,f∈fs ↔ f∈es)/\(fs.map (tt C)).sum=(es.map (tt C)).sum/\∀c,wd fs c=wd es c:=by
 obtain⟨j,hj,ej⟩:=AD he;have h1:=h.rot j (by rw[Aa hj,ej]);refine⟨_,h1,λf=>?_,?_,λc=>?_⟩
 .constructor
  .intro hf;rcases AH.mp hf with m |m
   .exact List.mem_of_mem_drop m
   .exact List.mem_of_mem_take m
  .intro hf;rw[<- List.take_append_drop j es]at hf;rcases AH.mp hf with m |m
   .exact Au _ m
   .exact Bc _ m
 .rw[AN,List.map_drop,List.map_take,zhI]
 .unfold wd;rw[AN,List.map_drop,List.map_take,zhI]
theorem zdu{es:List Edge}{c:Cell}(h:∀e∈es,e.w=1∨e.w=3->¬ (e.c.2=c.2/\c.1<px e)):wd es c=0:=by
 unfold wd
 induction es with
 |nil=>rfl
 |cons a r ih =>
  have ih':=ih λe he=>h e (At _ he)
  have h1:=h a AC;simp only[AW,Bz,ih'];unfold wc dy;split
  .rename_i q
   split
   .rename_i w1;exact absurd q (h1 (.inl w1))
   .split
    .rename_i w3;exact absurd q (h1 (.inr w3))
    .rfl
  .rfl
theorem Closed.inside{C:Cell -> Bool}{b:Edge}{es:List Edge}(h:Closed C b es) :
  ((es.map (tt C)).sum=4/\∀e∈es,wd es e.c=1/\wd es (gap e)=0)∨((es.map (tt C)).sum=-4/\∀e∈es,wd es e.c=0/\wd es (gap e)=-1):=by
 have hp:=h.pos;obtain⟨a,ha,q⟩:=zc4 es (by intro z;rw[z]at hp;simp at hp);obtain⟨fs,h1,hm,hs,hv⟩:=h.from ha;have lw:=h1.least_way λf hf=>q f ((hm f).mp hf)
 rw[hs]at lw;have hE:IsE C a:=h.1.2.2.1 a ha
 have all:∀{u v:Int},wd es a.c=u->wd es (gap a)=v->∀e∈es,wd es e.c=u/\wd es (gap e)=v:=λhu hv e he=>by obtain⟨r1,r2⟩:=h1.reach e ((hm e).mpr he);exact⟨(zd0 h r1 hE.2.1).trans hu,(zjU h r2 hE.2.2).trans hv⟩
 have cr:=zbQ h hE;have i1:ind es a=1:=by unfold ind;rw[if_pos ha]
 rw[i1]at cr;rcases lw with⟨w,s⟩ |⟨w,s⟩
 .left
  have z:wd es (gap a)=0:=zdu λe he hw ⟨k1,k2⟩=>by have:=(q e he).1;obtain⟨⟨x,y⟩,v⟩:=a;simp only at w;subst w;obtain⟨⟨x',y'⟩,v'⟩:=e;simp only at hw;rcases hw with rfl |rfl <;> simp[gap,go,mv,px,py,eV,bv]at this k1 k2 <;> lia
  exact⟨s,all (by lia) z⟩
 .right
  have z:wd es a.c=0:=zdu λe he hw ⟨k1,k2⟩=>by have:=(q e he).1;obtain⟨⟨x,y⟩,v⟩:=a;simp only at w;subst w;obtain⟨⟨x',y'⟩,v'⟩:=e;simp only at hw;rcases hw with rfl |rfl <;> simp[px,py,eV,bv]at this k1 k2 <;> lia
  exact⟨s,all z (by lia)⟩
noncomputable def cLe(c d:Cell):Prop:=c.2<d.2∨(c.2=d.2/\c.1<=d.1)
theorem cLe.refl(c:Cell):cLe c c:=.inr ⟨rfl,Cr _⟩
theorem cLe.trans{a b c:Cell}(h:cLe a b)(k:cLe b c):cLe a c:=by unfold cLe at *;lia
theorem cLe.total(a b:Cell):cLe a b∨cLe b a:=by unfold cLe;lia
theorem zdQ(P:Cell->Prop):∀(cs:List Cell),(∃c∈cs,P c)->∃c∈cs,P c/\∀d∈cs,P d->cLe c d
 |[],h=>by obtain⟨c,hc,_⟩:=h;cases hc
 |a::r,h=>by
  by_cases hr:∃c∈r,P c
  .obtain⟨c,hc,pc,k⟩:=zdQ P r hr
   by_cases pa:P a
   .rcases cLe.total a c with z |z
    .refine⟨a,AC,pa,λd hd pd=>?_⟩;rcases Aw.mp hd with rfl |hd
     .exact .refl _
     .exact z.trans (k d hd pd)
    .refine⟨c,At _ hc,pc,λd hd pd=>?_⟩;rcases Aw.mp hd with rfl |hd
     .exact z
     .exact k d hd pd
   .refine⟨c,At _ hc,pc,λd hd pd=>?_⟩;rcases Aw.mp hd with rfl |hd
    .exact absurd pd pa
    .exact k d hd pd
  .obtain⟨c,hc,pc⟩:=h;rcases Aw.mp hc with rfl |hc
   .refine⟨c,AC,pc,λd hd pd=>?_⟩;rcases Aw.mp hd with rfl |hd
    .exact .refl _
    .exact absurd ⟨d,hd,pd⟩ hr
   .exact absurd ⟨c,hc,pc⟩ hr
theorem gap2(c:Cell):gap ⟨c,2⟩=(c.1,c.2+1):=by simp[gap,go,mv]
theorem zmR{C:Cell->Bool}{b:Edge}{es:List Edge}(h:Closed C b es){c:Cell}(hl:∀e∈es,e.w=1∨e.w=3->e.c.2=c.2->c.1<px e):wd es c=0:=by
 have t:=h.tele (G:=λe=>if c.2<py e then (1:Int) else 0) (g:=wc c) (λe he=>by obtain⟨_,q⟩:=zg2 (h.1.2.2.1 e he);have hw:=(h.1.2.2.1 e he).1;have hl':=hl e he;rw[q];unfold wc;obtain⟨⟨x,y⟩,v⟩:=e;simp only at hw;rcases way4 hw with rfl |rfl |rfl |rfl <;> simp[px,py,dy]at hl' ⊢ <;> (repeat' split) <;> lia)
 exact t
theorem zjV{C:Cell->Bool}{b:Edge}{es:List Edge}(h:Closed C b es){c:Cell}(hz:wd es c≠0):∃e∈es,∃f∈es,e.c.2=c.2/\f.c.2=c.2/\px e<=c.1/\c.1<px f/\(e.w=1∨e.w=3)/\(f.w=1∨f.w=3):=by
 apply BE
 intro hn
 by_cases k:∃f∈es,f.c.2=c.2/\c.1<px f/\(f.w=1∨f.w=3)
 .obtain⟨f,hf,k1,k2,k3⟩:=k
  apply hz
  refine zmR h λe he hw hr=>?_
  rcases Int.lt_or_le c.1 (px e) with z |z
  .exact z
  .exact absurd ⟨e,he,f,hf,hr,k1,z,k2,hw,k3⟩ hn
 .apply hz
  exact zdu λe he hw ⟨k1,k2⟩=>k ⟨e,he,k1,k2,hw⟩
noncomputable def boxE(es:List Edge):List Cell:=es.flatMap λe=>es.flatMap λf=>(Ba (px f-px e).toNat).map λi:Nat=>(px e+(i:Int),e.c.2)
theorem zlZ{C:Cell->Bool}{b:Edge}{es:List Edge}(h:Closed C b es){c:Cell}(hz:wd es c≠0):c∈boxE es:=by obtain⟨e,he,f,hf,r1,r2,l1,l2,_⟩:=zjV h hz;refine List.mem_flatMap.mpr ⟨e,he,List.mem_flatMap.mpr ⟨f,hf,Aq.mpr ⟨(c.1-px e).toNat,Bx.mpr (by lia),?_⟩⟩⟩;exact Bj (by show px e+((c.1-px e).toNat:Int)=c.1;lia) r1
theorem zn5(c:Cell){s:Nat}(h:s<8):go (go c s) ((s+4) % 8)=c:=by
 have:∀s<8,mvNil s ((s+4) % 8)=true:=by decide
 exact zcF (this s h)
theorem Rch.symm{D:Cell->Bool}{S:List Nat}(hS:∀s∈S,s<8/\(s+4) % 8∈S){a c:Cell}(h:Rch D S a c)(ha:D a=true):Rch D S c a:=by
 induction h with
 |refl=>exact .refl
 |@step c s k hs hd ih =>
  obtain⟨h1,h2⟩:=hS s hs;have e:=zn5 c h1
  have:Rch D S (go c s) c:=by have:=Rch.step (D:=D) (S:=S) (a:=go c s) .refl h2 (by rw[e];exact k.dom ha);rw[e]at this;exact this
  exact this.trans ih
theorem zgv:∀s∈S4,s<8/\(s+4) % 8∈S4:=by decide
theorem Rch.mono{D D':Cell->Bool}{S:List Nat}{a c:Cell}(h:Rch D S a c)(hD:∀x,D x=true->D' x=true):Rch D' S a c:=by
 induction h with
 |refl=>exact .refl
 |step _ hs hd ih=>exact .step ih hs (hD _ hd)
theorem zlW{C D:Cell->Bool}{e:Edge}(h:IsE C e)(hD:∀s,s<8->C (go e.c s)=false->D (go e.c s)=true):Rch D S4 (gap e) (gap (nxt C e)):=by
 have hw:=h.1;have s0:2*e.w∈S4:=zhc.mpr ⟨(e.w+1) % 4,AU _ (by decide),by lia⟩;have s2:(2*e.w+2) % 8∈S4:=zhc.mpr ⟨(e.w+2) % 4,AU _ (by decide),by lia⟩;rcases zaI h with⟨h1,_,q⟩ |⟨h1,h2,_,q⟩ |⟨h1,h2,_,q⟩ <;> rw[q]
 .have:gap ⟨go e.c ((2*e.w+7) % 8),(e.w+3) % 4⟩=gap e:=by unfold gap;simp only;rw[go_go (f1 _ hw)]
  rw[this];exact .refl
 .have e1:gap ⟨go e.c (2*e.w),e.w⟩=go (gap e) (2*e.w):=by unfold gap;simp only;rw[go_go (f2 _ hw),go_go (f9 _ hw)]
  rw[e1];refine .step .refl s0 ?_
  unfold gap;rw[go_go (f9 _ hw)];exact hD _ (AU _ (by decide)) h1
 .have e1:gap ⟨e.c, (e.w + 1) % 4⟩ = go (go (gap e) (2 * e.w)) ((2 * e.w + 2) % 8) := by unfold gap;simp only;rw[f3 _ hw,go_go (f9 _ hw),go_go (f10 _ hw)]
  rw[e1];refine .step (.step .refl s0 ?_) s2 ?_
  .unfold gap;rw[go_go (f9 _ hw)];exact hD _ (AU _ (by decide)) h1
  .unfold gap;rw[go_go (f9 _ hw),go_go (f10 _ hw)];exact hD _ (by lia) h2
theorem Closed.reachD{C D:Cell->Bool}{b:Edge}{es:List Edge}(h:Closed C b es)(hD:∀e∈es,∀s,s<8->C (go e.c s)=false->D (go e.c s)=true):∀e∈es,Rch D S4 (gap b) (gap e):=by
 have get:=h.1.get
 have k:∀i,i<es.length->Rch D S4 (gap b) (gap (it C b i)):=by
  intro i
  induction i with
  |zero=>intro _;exact .refl
  |succ i ih =>
   intro hi;have m:=Af (get i (by lia));exact (ih (by lia)).trans (zlW (h.1.2.2.1 _ m) (hD _ m))
 intro e he;obtain⟨i,hi,ei⟩:=AD he;have:=get i hi;rw[Aa hi,ei]at this
 cases this
 exact k i hi
theorem Closed.piece{C:Cell->Bool}{b:Edge}{es:List Edge}(h:Closed C b es){P:List Cell}(hP:∀c,c∈P ↔ Rch C S8 b.c c):Closed (isIn P) b es/\(es.map (tt (isIn P))).sum=(es.map (tt C)).sum:=by
 have hE:=h.1.2.2.1;have hb:C b.c=true:=(hE b (Af h.1.1)).2.1;have inP:∀e∈es,e.c∈P:=λe he=>(hP _).mpr (h.reach e he).1
 have near:∀e∈es,∀s,s<8->isIn P (go e.c s)=C (go e.c s):=λe he s hs=>by
  have r:=(hP _).mp (inP e he)
  cases z:C (go e.c s) with
  |true=>exact decide_eq_true ((hP _).mpr (.step r (zi1.mpr hs) z))
  |false =>
   refine decide_eq_false λm=>?_
   have:=((hP _).mp m).dom hb;rw[z]at this;cases this
 have st:∀e∈es,stepB (isIn P) e=stepB C e:=λe he=>by unfold stepB;rw[near e he _ (AU _ (by decide)),near e he _ (by have:=(hE e he).1;lia)]
 have nx:∀e∈es,nxt (isIn P) e=nxt C e:=λe he=>by unfold nxt;rw[st e he]
 obtain⟨⟨h0,hs,_,nd⟩,l,hl,hlb⟩:=h;refine⟨⟨⟨h0,λi e f h1 h2=>by rw[nx e (Af h1)];exact hs i e f h1 h2,λe he=>⟨(hE e he).1,decide_eq_true (inP e he),?_⟩,nd⟩,l,hl,by rw[nx l (Af hl)];exact hlb⟩,?_⟩
 .unfold gap;rw[near e he _ (AU _ (by decide))];exact (hE e he).2.2
 .congr 1
  apply Cj
  intro e he;unfold tt;rw[st e he]
structure BoxOf (P:List Cell) (l lo r hi:Int):Prop where
 all:∀c∈P,l<c.1/\c.1<r/\lo<c.2/\c.2<hi
 bot:∃c∈P,c.2=lo+1
noncomputable def inBox(l lo r hi:Int)(c:Cell):Prop:=l<=c.1/\c.1<=r/\lo<=c.2/\c.2<=hi
theorem BoxOf.near{P:List Cell}{l lo r hi:Int}(h:BoxOf P l lo r hi){c:Cell}(hc:c∈P)(s:Nat):inBox l lo r hi (go c s):=by
 have:=h.all c hc
 have h1:-1<=(mv s).1/\(mv s).1<=1/\-1<=(mv s).2/\(mv s).2<=1:=by
  rcases AL s 8 with z |z
  .have:∀s<8,-1<=(mv s).1/\(mv s).1<=1/\-1<=(mv s).2/\(mv s).2<=1:=by decide
   exact this s z
  .unfold mv;rw[AI,BJ (by simpa using z)];decide
 unfold inBox go;simp only;lia
theorem wd_in{C:Cell->Bool}{b:Edge}{es:List Edge}(h:Closed C b es){P:List Cell}(hP:∀e∈es,e.c∈P){l lo r hi:Int}(hb:BoxOf P l lo r hi){c:Cell}(hz:wd es c≠0):l<=c.1/\c.1<=r/\lo<c.2/\c.2<hi:=by obtain⟨e,he,f,hf,r1,r2,l1,l2,w1,w2⟩:=zjV h hz;have a1:=hb.all _ (hP e he);have a2:=hb.all _ (hP f hf);unfold px at l1 l2;split at l1 <;> split at l2 <;> lia
structure FreeOf (D:Cell->Bool) (P:List Cell) (l lo r hi:Int):Prop where
 iff:∀c,D c=true ↔ (inBox l lo r hi c/\c ∉ P)
theorem go6(g:Cell):go g 6=(g.1,g.2-1):=by simp[go,mv];lia
section
variable {C D:Cell->Bool}{b:Edge}{es:List Edge}{P:List Cell}{l lo r hi:Int}
theorem zeD{L:List Cell}(hF:FreeOf D P l lo r hi){a:Cell}(ha:D a=true)(hl:∀d, Rch D S4 a d -> d ∈ L)(hlo:∀d, Rch D S4 a d -> lo < d.2) :
  ∃h,Rch D S4 a h/\(h.1,h.2-1)∈P:=by
 obtain⟨h,_,rh,kh⟩:=zdQ (λd=>Rch D S4 a d) L ⟨a,hl a .refl,.refl⟩;refine⟨h,rh,?_⟩
 apply BE
 intro hn;have hD:=rh.dom ha;obtain⟨⟨i1,i2,i3,i4⟩,_⟩:=(hF.iff h).mp hD;have hl':=hlo h rh;have e6:=go6 h;have rr:Rch D S4 a (go h 6):=.step rh (by decide) (by rw[e6];exact (hF.iff _).mpr ⟨⟨by simpa using i1,by simpa using i2,by simp only;lia,by simp only;lia⟩,hn⟩);have:=kh _ (hl _ rr) rr;rw[e6]at this;simp[cLe]at this;lia
theorem zfH(h:Closed C b es)(hP:∀c,c∈P ↔ Rch C S8 b.c c)(hF:FreeOf D P l lo r hi){a c:Cell}(hc:Rch D S4 a c)(ha:D a=true):wd es c=wd es a:=by
 obtain⟨h1,_⟩:=h.piece hP;refine zjU h1 (hc.mono λx hx=>?_) ?_
 .have:=((hF.iff x).mp hx).2;simp[no,isIn,this]
 .exact decide_eq_false ((hF.iff a).mp ha).2
theorem zhi(h:Closed C b es)(hP:∀c,c∈P ↔ Rch C S8 b.c c)(hB:BoxOf P l lo r hi)(hF:FreeOf D P l lo r hi):∀e∈es,Rch D S4 (gap b) (gap e)/\D (gap e)=true:=by
 obtain⟨h1,_⟩:=h.piece hP;have inP:∀e∈es,e.c∈P:=λe he=>(hP _).mpr (h.reach e he).1
 intro e he;refine⟨h1.reachD (λe he s hs hn=>(hF.iff _).mpr ⟨hB.near (inP e he) s,of_decide_eq_false hn⟩) e he,(hF.iff _).mpr ⟨hB.near (inP e he) _,of_decide_eq_false (h1.1.2.2.1 e he).2.2⟩⟩
theorem zl1(h:Closed C b es)(hs:(es.map (tt C)).sum=-4)(hP:∀c,c∈P ↔ Rch C S8 b.c c)(hB:BoxOf P l lo r hi)(hF:FreeOf D P l lo r hi)(c:Cell):Rch D S4 (gap b) c ↔ wd es c=-1:=by
 have bm:b∈es:=Af h.1.1;have inP:∀e∈es,e.c∈P:=λe he=>(hP _).mpr (h.reach e he).1
 have hbC:C b.c=true:=(h.1.2.2.1 b bm).2.1
 have ins:∀e∈es,wd es e.c=0/\wd es (gap e)=-1:=by
  rcases h.inside with⟨s,_⟩ |⟨_,k⟩
  .lia
  .exact k
 have fg:=zhi h hP hB hF;constructor
 .intro hc;rw[zfH h hP hF hc (fg b bm).2];exact (ins b bm).2
 .intro hc;have hz:wd es c≠0:=by rw[hc];decide
  have pz:∀x∈P,wd es x=0:=λx hx=>(zd0 h ((hP x).mp hx) hbC).trans (ins b bm).1
  have cD:D c=true:=by have:=wd_in h inP hB hz;exact (hF.iff c).mpr ⟨⟨by lia,by lia,by lia,by lia⟩,λm=>hz (pz c m)⟩
  have lots:∀d,Rch D S4 c d->wd es d=-1:=λd hd=>(zfH h hP hF hd cD).trans hc
  obtain⟨g,rg,hg⟩:=zeD (L:=boxE es) hF cD (λd hd=>zlZ h (by rw[lots d hd];decide)) (λd hd=>(wd_in h inP hB (by rw[lots d hd];decide)).2.2.1);obtain⟨h1,_⟩:=h.piece hP;have gD:=rg.dom cD;have gp:gap ⟨(g.1,g.2-1),2⟩=g:=by rw[gap2];exact Bj rfl (by simp)
  have eE:IsE (isIn P) ⟨(g.1,g.2-1),2⟩:=⟨(by show (2:Nat)<4;decide),decide_eq_true hg,by rw[gp];exact decide_eq_false ((hF.iff g).mp gD).2⟩;have cr:=zbQ h1 eE;rw[gp,lots g rg,pz _ hg]at cr
  have me:⟨(g.1,g.2-1),2⟩∈es:=by
   unfold ind at cr
   by_cases z:⟨(g.1,g.2-1),2⟩∈es
   .exact z
   .rw[if_neg z]at cr;lia
  have:=(fg _ me).1;rw[gp]at this;exact this.trans (rg.symm zgv cD)
theorem zku(h:Closed C b es)(hs:(es.map (tt C)).sum=4)(hP:∀c,c∈P ↔ Rch C S8 b.c c)(hB:BoxOf P l lo r hi)(hF:FreeOf D P l lo r hi){c:Cell}(hc:D c=true):Rch D S4 (l,lo) c ↔ wd es c=0:=by
 have bm:b∈es:=Af h.1.1;have inP:∀e∈es,e.c∈P:=λe he=>(hP _).mpr (h.reach e he).1
 have hbC:C b.c=true:=(h.1.2.2.1 b bm).2.1
 have ins:∀e∈es,wd es e.c=1/\wd es (gap e)=0:=by
  rcases h.inside with⟨_,k⟩ |⟨s,_⟩
  .exact k
  .lia
 have fg:=zhi h hP hB hF;have bx:=hB.all _ (inP b bm);have cornerP:∀x,(x,lo) ∉ P:=λx m=>by have:=hB.all _ m;simp only at this;lia
 have cD:D (l,lo)=true:=(hF.iff _).mpr ⟨⟨by simp,by simp only;lia,by simp,by simp only;lia⟩,cornerP l⟩;have wlow:∀x,wd es (x,lo)=0:=λx=>zdu λe he _ ⟨k1,_⟩=>by have:=hB.all _ (inP e he);simp only at k1;lia
 have pz:∀x∈P,wd es x=1:=λx hx=>(zd0 h ((hP x).mp hx) hbC).trans (ins b bm).1
 have row:∀n:Nat,l+n<=r->Rch D S4 (l,lo) (l+n,lo):=by
  intro n
  induction n with
  |zero=>intro _;simp;exact .refl
  |succ n ih =>
   intro hn;have e0:go (l+(n:Int),lo) 0=(l+((n+1:Nat):Int),lo):=by simp[go,mv];lia
   rw[<- e0];refine .step (ih (by lia)) (by decide) ?_
   rw[e0];exact (hF.iff _).mpr ⟨⟨by simp only;lia,by simp only;lia,by simp,by simp only;lia⟩,cornerP _⟩
 constructor
 .intro k;rw[zfH h hP hF k cD];exact wlow l
 .intro hz
  apply BE
  intro hn;have lots:∀d,Rch D S4 c d->wd es d=0:=λd hd=>(zfH h hP hF hd hc).trans hz
  have up:∀d,Rch D S4 c d->lo<d.2:=λd hd=>by
   have dD:=hd.dom hc;obtain⟨⟨i1,i2,i3,i4⟩,_⟩:=(hF.iff d).mp dD;rcases Int.lt_or_le lo d.2 with z |z
   .exact z
   .exfalso;have e2:d.2=lo:=by lia
    have:=row (d.1-l).toNat (by lia);rw[show l+(((d.1-l).toNat:Nat):Int)=d.1 by lia]at this;have ed:d=(d.1,lo):=Bj rfl e2;rw[<- ed]at this;exact hn (this.trans (hd.symm zgv hc))
  obtain⟨L,hL⟩:∃L:List Cell,∀d,inBox l lo r hi d->d∈L:=⟨(Ba (r-l+1).toNat).flatMap λi:Nat=>(Ba (hi-lo+1).toNat).map λj:Nat=>((l+(i:Int),lo+(j:Int)):Cell),λd ⟨a1,a2,a3,a4⟩ =>
   List.mem_flatMap.mpr ⟨(d.1-l).toNat,Bx.mpr (by lia),Aq.mpr ⟨(d.2-lo).toNat,Bx.mpr (by lia),Bj (by show l+(((d.1-l).toNat:Nat):Int)=d.1;lia) (by show lo+(((d.2-lo).toNat:Nat):Int)=d.2;lia)⟩⟩⟩
  obtain⟨g,rg,hg⟩:=zeD (L:=L) hF hc (λd hd=>hL d ((hF.iff d).mp (hd.dom hc)).1) up;obtain⟨h1,_⟩:=h.piece hP;have gD:=rg.dom hc;have gp:gap ⟨(g.1,g.2-1),2⟩=g:=by rw[gap2];exact Bj rfl (by simp)
  have eE:IsE (isIn P) ⟨(g.1,g.2-1),2⟩:=⟨(by show (2:Nat)<4;decide),decide_eq_true hg,by rw[gp];exact decide_eq_false ((hF.iff g).mp gD).2⟩;have cr:=zbQ h1 eE;rw[gp,lots g rg,pz _ hg]at cr
  have me:⟨(g.1,g.2-1),2⟩∈es:=by
   unfold ind at cr
   by_cases z:⟨(g.1,g.2-1),2⟩∈es
   .exact z
   .rw[if_neg z]at cr;lia
  obtain⟨c0,m0,q0⟩:=hB.bot;have g0:gap ⟨c0,0⟩=(c0.1,lo):=by simp[gap,go,mv];lia
  have E0:IsE (isIn P) ⟨c0,0⟩:=⟨(by show (0:Nat)<4;decide),decide_eq_true m0,by rw[g0];exact decide_eq_false (cornerP _)⟩;have cr0:=zbQ h1 E0;rw[g0,wlow,show (⟨c0,0⟩:Edge).c=c0 from rfl,pz _ m0]at cr0
  have m00:⟨c0,0⟩∈es:=by
   unfold ind at cr0
   by_cases z:⟨c0,0⟩∈es
   .exact z
   .rw[if_neg z]at cr0;lia
  have r1:=(fg _ me).1;have r0:=(fg _ m00).1;rw[gp]at r1;rw[g0]at r0;have b0:=hB.all c0 m0;have rr:=row (c0.1-l).toNat (by lia);rw[show l+(((c0.1-l).toNat:Nat):Int)=c0.1 by lia]at rr;exact hn (rr.trans ((r0.symm zgv (fg b bm).2).trans (r1.trans (rg.symm zgv hc))))
theorem wd_01(h:Closed C b es)(hs:(es.map (tt C)).sum=4)(c:Cell):wd es c=0∨wd es c=1:=by
 have ins:∀e∈es,wd es e.c=1/\wd es (gap e)=0:=by
  rcases h.inside with⟨_,k⟩ |⟨s,_⟩
  .exact k
  .lia
 have r:=zfG (λe he=>(h.1.2.2.1 e he).1) h.1.2.2.2
 have far:∃M:Int,∀e∈es,px e<=M:=by
  generalize es=l
  induction l with
  |nil=>exact⟨0,λe he=>by cases he⟩
  |cons a l ih =>
   obtain⟨M,hM⟩:=ih
   exact⟨max M (px a),λe he=>by
    rcases Aw.mp he with rfl |he
    .lia
    .have:=hM e he;lia⟩
 obtain⟨M,hM⟩:=far
 have k:∀(n:Nat) (x y:Int),M-x<=n->wd es (x,y)=0∨wd es (x,y)=1:=by
  intro n
  induction n with
  |zero =>
   intro x y hx;exact .inl (zdu λe he _ ⟨_,k2⟩=>by have:=hM e he;simp only at k2;lia)
  |succ n ih =>
   intro x y hx;have i:=ih (x+1) y (by lia);have rr:=r x y
   by_cases m1:⟨(x,y),1⟩∈es
   .exact .inr (ins _ m1).1
   by_cases m3:⟨(x+1,y),3⟩∈es
   .have:=(ins _ m3).2;rw[show gap ⟨(x+1,y),3⟩=(x,y) by simp[gap,go,mv];lia]at this;exact .inl this
   .unfold ind at rr;rw[if_neg m1,if_neg m3]at rr;rcases i with i |i
    .left;lia
    .right;lia
 exact k (M-c.1).toNat c.1 c.2 (by lia)
theorem wd_0m(h:Closed C b es)(hs:(es.map (tt C)).sum=-4)(c:Cell):wd es c=0∨wd es c=-1:=by
 have ins:∀e∈es,wd es e.c=0/\wd es (gap e)=-1:=by
  rcases h.inside with⟨s,_⟩ |⟨_,k⟩
  .lia
  .exact k
 have r:=zfG (λe he=>(h.1.2.2.1 e he).1) h.1.2.2.2
 have far:∃M:Int,∀e∈es,px e<=M:=by
  generalize es=l
  induction l with
  |nil=>exact⟨0,λe he=>by cases he⟩
  |cons a l ih =>
   obtain⟨M,hM⟩:=ih
   exact⟨max M (px a),λe he=>by
    rcases Aw.mp he with rfl |he
    .lia
    .have:=hM e he;lia⟩
 obtain⟨M,hM⟩:=far
 have k:∀(n:Nat) (x y:Int),M-x<=n->wd es (x,y)=0∨wd es (x,y)=-1:=by
  intro n
  induction n with
  |zero =>
   intro x y hx;exact .inl (zdu λe he _ ⟨_,k2⟩=>by have:=hM e he;simp only at k2;lia)
  |succ n ih =>
   intro x y hx;have i:=ih (x+1) y (by lia);have rr:=r x y
   by_cases m1:⟨(x,y),1⟩∈es
   .exact .inl (ins _ m1).1
   by_cases m3:⟨(x+1,y),3⟩∈es
   .have:=(ins _ m3).2;rw[show gap ⟨(x+1,y),3⟩=(x,y) by simp[gap,go,mv];lia]at this;exact .inr this
   .unfold ind at rr;rw[if_neg m1,if_neg m3]at rr;rcases i with i |i
    .left;lia
    .right;lia
 exact k (M-c.1).toNat c.1 c.2 (by lia)
end
noncomputable def CD(es:List Edge)(m:Int)(c:Cell):Bool:=decide (wd es c=m)
section
variable {C:Cell->Bool}{b:Edge}{es:List Edge}{m:Int}
theorem CD.mem(h:Closed C b es)(hm:∀c,wd es c=m-1∨wd es c=m){e:Edge}(he:e∈es):wd es e.c=m/\wd es (gap e)=m-1:=by
 have k:=zbQ h (h.1.2.2.1 e he);have i:ind es e=1:=by unfold ind;rw[if_pos he]
 rw[i]at k;have h1:=hm e.c;have h2:=hm (gap e);lia
theorem CD.isE(h:Closed C b es)(hm:∀c,wd es c=m-1∨wd es c=m)(e:Edge):IsE (CD es m) e ↔ e∈es:=by
 constructor
 .rintro⟨hw,h1,h2⟩;have h1:wd es e.c=m:=of_decide_eq_true h1;have h2:¬ wd es (gap e)=m:=of_decide_eq_false h2;have k:=zhG h e hw;have h3:=hm (gap e);have i0:ind es (fac e)=0∨ind es (fac e)=1:=by unfold ind;split <;> simp
  rcases Classical.em (e∈es) with q |q
  .exact q
  .have:ind es e=0:=by unfold ind;rw[if_neg q]
   lia
 .intro he;have k:=CD.mem h hm he;refine⟨(h.1.2.2.1 e he).1,decide_eq_true k.1,decide_eq_false ?_⟩;rw[k.2];lia
theorem tabA:∀w<4,mvAdd (2*w) ((2*w+6) % 8) ((2*w+7) % 8)=true/\(2*((w+1) % 4)+6) % 8=2*w:=by decide
theorem CD.step(h:Closed C b es)(hm:∀c,wd es c=m-1∨wd es c=m){e:Edge}(he:e∈es):stepB (CD es m) e=stepB C e:=by
 have hn:=h.mem_nxt he;have hE:=h.1.2.2.1 e he;have hw:=hE.1;obtain⟨t1,t2⟩:=tabA e.w hw;have gA:gap ⟨go e.c (2*e.w),e.w⟩=go e.c ((2*e.w+7) % 8):=go_go t1;unfold nxt at hn
 by_cases c1:C (go e.c ((2*e.w+7) % 8))=true
 .have s1:stepB C e=some ((2*e.w+7) % 8):=by unfold stepB;rw[if_pos c1]
  rw[s1]at hn
  have hn:(⟨go e.c ((2*e.w+7) % 8),(e.w+3) % 4⟩:Edge)∈es:=by
   have z:edgeB e (some ((2*e.w+7) % 8))=⟨go e.c ((2*e.w+7) % 8),(e.w+3) % 4⟩:=by unfold edgeB;simp only;rw[if_pos (by lia)]
   rwa [z]at hn
  rw[s1];unfold stepB;have z:CD es m (go e.c ((2*e.w+7) % 8))=true:=decide_eq_true (CD.mem h hm hn).1;rw[if_pos z]
 .by_cases c2:C (go e.c (2*e.w))=true
  .have s1:stepB C e=some (2*e.w):=by unfold stepB;rw[if_neg c1,if_pos c2]
   rw[s1]at hn
   have hn:(⟨go e.c (2*e.w),e.w⟩:Edge)∈es:=by
    have z:edgeB e (some (2*e.w))=⟨go e.c (2*e.w),e.w⟩:=by unfold edgeB;simp only;rw[if_neg (by lia)]
    rwa [z]at hn
   have k:=CD.mem h hm hn;rw[gA]at k;rw[s1];unfold stepB;have z:CD es m (go e.c (2*e.w))=true:=decide_eq_true k.1;rw[if_neg,if_pos z];unfold CD;rw[decide_eq_true_iff,k.2];lia
  .have s1:stepB C e=none:=by unfold stepB;rw[if_neg c1,if_neg c2]
   rw[s1]at hn;have hn:(⟨e.c,(e.w+1) % 4⟩:Edge)∈es:=hn;have k:=CD.mem h hm hn;have g2:gap ⟨e.c,(e.w+1) % 4⟩=go e.c (2*e.w):=by unfold gap;simp only;rw[t2]
   rw[g2]at k
   have q:=zd7 h ⟨go e.c (2*e.w),e.w⟩ hw (by
    rw[gA];simp only;simp only[Bool.not_eq_true]at c1 c2;rw[c1,c2])
   rw[gA]at q;have q:wd es (go e.c (2*e.w))=wd es (go e.c ((2*e.w+7) % 8)):=q;rw[s1];unfold stepB;rw[if_neg,if_neg]
   .unfold CD;rw[decide_eq_true_iff,k.2];lia
   .unfold CD;rw[decide_eq_true_iff,<- q,k.2];lia
theorem CD.closed(h:Closed C b es)(hm:∀c,wd es c=m-1∨wd es c=m):Closed (CD es m) b es:=by
 have nx:∀e∈es,nxt (CD es m) e=nxt C e:=λe he=>by unfold nxt;rw[CD.step h hm he]
 refine⟨⟨h.1.1,λi e f h1 h2=>?_,λe he=>(CD.isE h hm e).mpr he,h.1.2.2.2⟩,?_⟩
 .rw[nx e (Af h1)];exact h.1.2.1 i e f h1 h2
 .obtain⟨l,h1,h2⟩:=h.2;exact⟨l,h1,by rw[nx l (Af h1)];exact h2⟩
theorem zgi{D:Cell->Bool}(hE:∀e,IsE C e ↔ IsE D e){c:Cell}{w:Nat}(hw:w<4)(hc:C c=D c):C (gap ⟨c,w⟩)=D (gap ⟨c,w⟩):=by
 have h1:=hE ⟨c,w⟩;have h2:=hE (fac ⟨c,w⟩);have g:=zlf (e:=⟨c,w⟩) hw;have f4:(fac ⟨c,w⟩).w<4:=AU _ (by decide);have fc:(fac ⟨c,w⟩).c=gap ⟨c,w⟩:=rfl;unfold IsE at h1 h2;rw[g,fc]at h2;simp only at h1 h2
 cases hC:C c <;> rw[hC]at hc h1 h2 <;> rw[<- hc]at h1 h2
 .cases a:C (gap ⟨c,w⟩) <;> cases b:D (gap ⟨c,w⟩) <;> simp_all
 .cases a:C (gap ⟨c,w⟩) <;> cases b:D (gap ⟨c,w⟩) <;> simp_all
theorem gap4(c:Cell):gap ⟨c,0⟩=(c.1,c.2-1)/\gap ⟨c,1⟩=(c.1+1,c.2)/\gap ⟨c,2⟩=(c.1,c.2+1)/\gap ⟨c,3⟩=(c.1-1,c.2):=by refine⟨?_,?_,?_,?_⟩ <;> unfold gap go <;> apply Bj <;> simp[mv] <;> lia
theorem zfX{D:Cell->Bool}(hE:∀e,IsE C e ↔ IsE D e){c:Cell}(hc:C c=D c):C=D:=by
 have rt:∀(n:Nat) (c:Cell),C c=D c->C (c.1+n,c.2)=D (c.1+n,c.2):=by
  intro n
  induction n with
  |zero=>intro c h;simpa using h
  |succ n ih =>
   intro c h;have:=zgi hE (w:=1) (by decide) (ih c h);rw[(gap4 _).2.1]at this;rw[show c.1+((n+1:Nat):Int)=c.1+(n:Int)+1 by lia];exact this
 have lf:∀(n:Nat) (c:Cell),C c=D c->C (c.1-n,c.2)=D (c.1-n,c.2):=by
  intro n
  induction n with
  |zero=>intro c h;simpa using h
  |succ n ih =>
   intro c h;have:=zgi hE (w:=3) (by decide) (ih c h);rw[(gap4 _).2.2.2]at this;rw[show c.1-((n+1:Nat):Int)=c.1-(n:Int)-1 by lia];exact this
 have up:∀(n:Nat) (c:Cell),C c=D c->C (c.1,c.2+n)=D (c.1,c.2+n):=by
  intro n
  induction n with
  |zero=>intro c h;simpa using h
  |succ n ih =>
   intro c h;have:=zgi hE (w:=2) (by decide) (ih c h);rw[(gap4 _).2.2.1]at this;rw[show c.2+((n+1:Nat):Int)=c.2+(n:Int)+1 by lia];exact this
 have dn:∀(n:Nat) (c:Cell),C c=D c->C (c.1,c.2-n)=D (c.1,c.2-n):=by
  intro n
  induction n with
  |zero=>intro c h;simpa using h
  |succ n ih =>
   intro c h;have:=zgi hE (w:=0) (by decide) (ih c h);rw[(gap4 _).1]at this;rw[show c.2-((n+1:Nat):Int)=c.2-(n:Int)-1 by lia];exact this
 funext d
 have h1:C (d.1,c.2)=D (d.1,c.2):=by
  rcases Int.le_total c.1 d.1 with z |z
  .have:=rt (d.1-c.1).toNat c hc
   rwa [show c.1+((d.1-c.1).toNat:Int)=d.1 by lia]at this
  .have:=lf (c.1-d.1).toNat c hc
   rwa [show c.1-((c.1-d.1).toNat:Int)=d.1 by lia]at this
 rcases Int.le_total c.2 d.2 with z |z
 .have:=up (d.2-c.2).toNat _ h1;simp only at this
  rwa [show c.2+((d.2-c.2).toNat:Int)=d.2 by lia]at this
 .have:=dn (c.2-d.2).toNat _ h1;simp only at this
  rwa [show c.2-((c.2-d.2).toNat:Int)=d.2 by lia]at this
end
end RP
set_option maxHeartbeats 8000000
namespace TS
open PySem PyProof.Rows
section
variable {M:Model}{A:AT}{E:Ad->Ae->Prop}{s:Ae}{kd:Ci}{S:Keyed->Prop}{L:Keyed->Keyed->Bool}
theorem zhb:∀n:Fin 64,minRun' n.1 n.1 0=n.1:=by decide
structure P1 (L:Keyed->Keyed->Bool) (a0:Array Keyed) (st:BX):Prop where
 fail:CS st=none
 perm:(AQ st).Perm a0
 seg:Seg L (AQ st) 0 a0.size
 one:(CW st).size=1
theorem sortRuns_small(O:LtOk M A E s kd S L){st:BX}{Q:Unit -> BX -> Prop}(h2 : 2 <= (AQ st).size)(h64:(AQ st).size < 64)(hk:kindOf st=kd)(hp:CW st = #[])(hf:CS st=none)(hS:∀(k:Nat) x, (AQ st)[k]? = some x -> S x)
  (hQ:∀st',(AQ st').Perm (AQ st)->CS st'=none->Seg L (AQ st') 0 (AQ st).size->Q () st'):wpS M A E s sortRuns' Q st:=by
 rw[sortRuns'_eq];refine Bd (wpS_get ?_);dsimp only;have hmr:minRun' (AQ st).size (AQ st).size 0=(AQ st).size:=zhb ⟨_,h64⟩;generalize ha0:AQ st=a0 at h2 hmr hQ
 refine Bd (wpS_mono (Dc (I:=λx c st'=>∃lo,c=(none,lo)/\((x=0/\lo=0/\st'=st)∨(lo=a0.size/\P1 L a0 st')))
  (Q:=λc st'=>c=(none,a0.size)/\P1 L a0 st') ?step ?fin ⟨0,rfl,.inl ⟨rfl,rfl,rfl⟩⟩) ?post)
 case fin =>
  rintro c st' ⟨lo,rfl,h⟩;rcases h with⟨h,_⟩ |⟨rfl,h⟩
  .lia
  .exact⟨rfl,h⟩
 case step =>
  rintro x c st' _ hx ⟨lo,rfl,h⟩;dsimp only;rcases h with⟨rfl,rfl,rfl⟩ |⟨rfl,h⟩
  .rw[if_neg (by lia)];refine Bd (zgr O (by lia) (by rw[ha0];lia) hk hS λm st1 sb1 hm1 hm2 sg1=>?_);dsimp only;rw[hmr]
   by_cases hlt:m<a0.size
   .rw[if_pos hlt];refine Bd (wpS_lift (C4 ⟨rfl,?_⟩));refine Bd (zeL O hm1 (by lia) (by rw[sb1.size,ha0];lia) sb1.kind sb1.all sg1 λst2 sb2 sg2=>?_)
    try dsimp only
    rw[if_neg (by decide)];refine Bd (wpS_get ?_);have hp2:CW st2=#[]:=by rw[sb2.pend,sb1.pend,hp]
    rw[hp2]
    try dsimp only
    refine Bd (wpS_modify (BD ⟨_,rfl,.inr ⟨by lia,?_⟩⟩));refine⟨?_,?_,?_,by show ((CW st2).push _).size=1;rw[hp2];rfl⟩
    .show CS st2=none;rw[sb2.fail,sb1.fail,hf]
    .show (AQ st2).Perm a0;rw[<- ha0];exact sb2.perm.trans sb1.perm
    .show Seg L (AQ st2) 0 a0.size;have:min (a0.size-0) a0.size=a0.size:=by lia
     rw[this]at sg2;exact sg2
   .rw[if_neg hlt];have em:m=a0.size:=by lia
    subst em;refine Bd (wpS_get ?_);have hp1:CW st1=#[]:=by rw[sb1.pend,hp]
    rw[hp1]
    try dsimp only
    refine Bd (wpS_modify (BD ⟨_,rfl,.inr ⟨by lia,?_⟩⟩));refine⟨?_,?_,sg1,by show ((CW st1).push _).size=1;rw[hp1];rfl⟩
    .show CS st1=none;rw[sb1.fail,hf]
    .show (AQ st1).Perm a0;rw[<- ha0];exact sb1.perm
  .rw[if_pos (Aj _)];exact BD ⟨rfl,h⟩
 case post =>
  rintro c st1 ⟨rfl,p1⟩
  try dsimp only
  refine Bd (wpS_mono (Dc (I:=λx c st2=>c=(none,())/\P1 L a0 st2) (Q:=λc st2=>c=(none,())/\P1 L a0 st2) ?step ?fin ⟨rfl,p1⟩) ?post)
  case fin =>
   rintro c st2 h;exact h
  case step =>
   rintro x c st2 _ hx ⟨rfl,p2⟩;refine Bd (wpS_get ?_)
   try dsimp only
   rw[if_pos (show (CW st2).size<=1 by rw[p2.one];exact Aj _)];exact BD ⟨rfl,p2⟩
  case post =>
   rintro c st2 ⟨rfl,p2⟩;exact BD (hQ st2 p2.perm p2.fail p2.seg)
end
end TS
namespace L2
open PySem PySem.Spec PyProof.Rows
theorem zf4{α β:Type}{f:α->β}{xs ys:List β}(p:ys.Perm xs):∀{l:List α},xs=l.map f->∃l':List α,l'.Perm l/\ys=l'.map f:=by
 induction p with
 |nil=>intro l h;exact⟨l,List.Perm.refl _,h⟩
 |cons v _ ih =>
  intro l h
  match l,h with
  |x::l,h =>
   injection h with h1 h2;obtain⟨l',p',e⟩:=ih h2;exact⟨x::l',p'.cons x,by rw[e,h1];rfl⟩
 |swap a b r =>
  intro l h
  match l,h with
  |x::y::l,h =>
   injection h with h1 h2;injection h2 with h2 h3;exact⟨y::x::l,List.Perm.swap _ _ _,by rw[h1,h2,h3];rfl⟩
 |trans _ _ ih1 ih2 =>
  intro l h;obtain⟨l1,p1,h1⟩:=ih2 h;obtain⟨l2,p2,h2⟩:=ih1 h1;exact⟨l2,p2.trans p1,h2⟩
section
variable {X:Cx}{pins:List (Addr×Obj)}{σ:St}{H:Hp}{s:Ae}{D st:Addr}{e:Nat}{κV:Nat->List V}{ks:List Addr}{E:Ad->Ae->Prop}
noncomputable def OrddS(κ:Nat->List Int)(n:Nat)(p:Array Nat):Prop:=RK.Pm n p/\p.toList.Pairwise λi j=>HT.lexLt (κ j) (κ i)=false
noncomputable def zeB(κ:Nat->List Int)(ks:List Addr):Ad->List Int
 |.ref a=>κ (ks.idxOf a)
 |_=>[]
theorem zoa{vs:List Ad}{κ : Nat -> List Int}(K:SK X pins σ H s D st e κV ks)(hl:ks.length=vs.length)(h2 : 2 <= vs.length)(h64:vs.length < 64)
  (hcol:∀i j,i<ks.length->j<ks.length->∃n m r q rn rm,κV i=.int n::r/\κV j=.int m::q/\VCols r q rn rm/\κ i=n::rn/\κ j=m::rm) :
  zjp X (OrddS κ vs.length) (ks.map Av) vs E s:=by
 unfold zjp
 obtain⟨fs,kt,hfl,hfi⟩:=zk2 (as:=[]) (vs:=[]) K.inv (ks:=ks) (ns:=(Ba ks.length).map λi=>((κ i).headD 0)) (λi a ha=>by
  have hi:i<ks.length:=(Ac.mp ha).1;obtain⟨n,m,r,q,rn,rm,e1,_,_,e2,_⟩:=hcol i i hi hi;refine⟨n,r,?_,?_⟩
  .rw[Ak,List.getElem?_range hi,CP,e2];rfl
  .rw[<- e1];exact K.hk i a ha) (by simp)
 refine W.kat_kind (T:=.type "int") kt (by lia) (λv hv=>?_) rfl ⟨rfl,?_⟩
 .obtain⟨n,t,rfl⟩:=hfi v hv;exact .now
 have hl':(ks.map Av).length=vs.length:=by simp[hl]
 have hsz0:((ks.map Av).toArray.zip vs.toArray).size=vs.length:=by simp[hl]
 generalize hZ:(ks.map Av).toArray.zip vs.toArray=Z at hsz0;have hsz:Z.size=vs.length:=hsz0
 have kap:∀i (hi:i<ks.length),zeB κ ks (Av ks[i])=κ i:=λi hi=>by
  have hj:ks.idxOf ks[i]<ks.length:=List.idxOf_lt_length_iff.mpr (AV hi);have ej:ks[ks.idxOf ks[i]]=ks[i]:=List.getElem_idxOf hj;obtain⟨n,m,r,q,rn,rm,e1,e2,vc,e3,e4⟩:=hcol (ks.idxOf ks[i]) i hj hi;have k1:=K.hk (ks.idxOf ks[i]) ks[i] (by rw[Aa hj,ej]);have k2:=K.hk i ks[i] (Aa hi);have eq:=K.inv.tuple_inj k1 k2;show κ (ks.idxOf ks[i])=κ i;rw[e1,e2]at eq;injection eq with q1 q2;injection q1 with q1;subst q1;subst q2;rw[e3,e4]
  congr 1
  have same:∀{xs:List V} {as bs:List Int},VCols xs xs as bs->as=bs:=λ{xs}=>by
   induction xs with
   |nil=>intro as bs h;cases h;rfl
   |cons x xs ih =>
    intro as bs h
    cases h with
    |cons c h=>cases c <;> rw[ih h]
  exact same vc
 have itm:∀i,i<vs.length->C7 Z i=(Av (ks.getD i 0),vs.getD i B3):=λi hi=>by
  rw[<- hZ,W.kat_item hl'];have:(ks.map Av).getD i B3=Av (ks.getD i 0):=by simp[show i<ks.length by lia]
  rw[this]
 have O:TS.LtOk (Ax X.prog X.w) X.A.in1.in1 E s (tuples' true) (λx=>∃i,i<ks.length/\x.1=Av (ks.getD i 0)) (λx y=>HT.lexLt (zeB κ ks x.1) (zeB κ ks y.1)):=by
  refine⟨λx y hx hy st' Q hk q=>?_,λx y z _ _ _ h1 h2=>?_,λx y _ _ h=>HT.lexLt_asym h⟩
  .obtain⟨i,hi,ex⟩:=hx;obtain⟨j,hj,ey⟩:=hy;have gi:ks.getD i 0=ks[i]:=by simp[hi]
   have gj:ks.getD j 0=ks[j]:=by simp[hj]
   rw[gi]at ex;rw[gj]at ey;rw[ex,ey,kap i hi,kap j hj]at q;rw[lt'_eq];refine Bd (wpS_get ?_);rw[hk,ex,ey];obtain⟨n,m,r,q',rn,rm,e1,e2,vc,e3,e4⟩:=hcol i j hi hj;have k1:=K.hk i ks[i] (Aa hi);have k2:=K.hk j ks[j] (Aa hj);rw[e1]at k1;rw[e2]at k2;obtain⟨its,rv,⟨o,ho,hcl,c,hd⟩,_⟩:=K.inv.tuple k1;obtain⟨its2,rv2,⟨o2,ho2,hcl2,c2,hd2⟩,_⟩:=K.inv.tuple k2;refine Bd (wpS_lift (wpAny_attempt (W.kat_lt ho hd ho2 hd2 ?_)))
   cases rv with
   |cons rx rr =>
    cases rv2 with
    |cons rx2 rr2 =>
     obtain⟨t1,rfl⟩:=rx;obtain⟨t2,rfl⟩:=rx2;have cs:=vc.vals rr rr2
     have hlen:∀{us vs:List Ad} {as bs:List Int},RK.Cols us vs as bs->us.length=vs.length:=λc=>by induction c with
      |nil=>rfl
      |cons _ _ ih=>simp[ih]
     simp only[Ao,A7,hlen cs,Cp,decide_false];refine RK.kat_cols0 cs ?_
     rw[e3,e4]at q;exact⟨rfl,BD q⟩
  .cases q:HT.lexLt (zeB κ ks z.1) (zeB κ ks x.1) with
   |false=>rfl
   |true =>
    have:=HT.lexLt_of_not_lt_lt h2 q;rw[h1]at this;cases this
 have run:=TS.sortRuns_small O (st:=SortSt.mk' (tuples' true) Z #[] 7 none) (Q:=λ_ st'=>CS st'=none/\∃p:Array Nat,OrddS κ vs.length p/\p.size=vs.length/\AQ st'=p.map (C7 Z))
  (by show 2<=Z.size;lia) (by show Z.size<64;lia) rfl rfl rfl (λk x hx=>?_) (λst' hp hf hs=>?_)
 .exact BG run (λr s' h=>⟨h.1,h.2⟩) λ_ _ z=>z
 .have hk':k<vs.length:=by rw[<- hsz];exact (Array.getElem?_eq_some_iff.mp hx).1
  have hx':Z[k]?=some x:=hx
  have e1:C7 Z k=x:=by unfold C7;rw[Array.getD_eq_getD_getElem?,hx'];rfl
  rw[itm k hk']at e1;exact⟨k,by lia,by rw[<- e1]⟩
 .refine⟨hf,?_⟩;have hp':(AQ st').Perm Z:=hp;have hrng:=W.kas_range Z;rw[hsz]at hrng;obtain⟨l,pl,el⟩:=zf4 (Array.perm_iff_toList_perm.mp hp') (l:=Ba vs.length) (f:=C7 Z) (by have:=congrArg Array.toList hrng;simpa using this.symm);have hll:l.length=vs.length:=by rw[pl.length_eq,C3]
  refine⟨l.toArray,⟨?_,?_⟩,by simpa using hll,?_⟩
  .exact Array.perm_iff_toList_perm.mpr (by simpa using pl)
  .rw[List.pairwise_iff_getElem];intro i j hi hj hij;have hi':i<l.length:=by simpa using hi
   have hj':j<l.length:=by simpa using hj
   have ai:(AQ st')[i]?=some (C7 Z l[i]):=by rw[<- CY,el,Ak,Aa hi'];rfl
   have aj:(AQ st')[j]?=some (C7 Z l[j]):=by rw[<- CY,el,Ak,Aa hj'];rfl
   have li:l[i]<vs.length:=Bx.mp (pl.mem_iff.mp (AV hi'));have lj:l[j]<vs.length:=Bx.mp (pl.mem_iff.mp (AV hj'));have:=hs i j _ _ (by lia) (by show j<Z.size;lia) (by rw[Nat.zero_add];exact ai) (by rw[Nat.zero_add];exact aj);rw[itm _ li,itm _ lj]at this;have g1:ks.getD l[i] 0=ks[l[i]]'(by lia):=by simp[show l[i]<ks.length by lia]
   have g2:ks.getD l[j] 0=ks[l[j]]'(by lia):=by simp[show l[j]<ks.length by lia]
   simp only[g1,g2]at this;rw[kap _ (by lia),kap _ (by lia)]at this;simpa using this
  .apply Array.toList_inj.mp
   rw[el];simp
end
section
variable {X:Cx}{x:Str}{p pos kp kpos:Pos}{e:Expr}{te:TE}{k:Nat}{f:Addr}{fd:Bo}{ps:List Str}{sp:Sp}{fn:Str}
noncomputable def znv(K:W.Frag)(te:TE)(sp:Sp):TE:=λσ H Q=>te σ H λv H1=>∃l xs,∃ κV:Nat->List V,∃ κ:Nat->List Int,[v]=[V.ref l]/\SqL K H1 l xs/\xs.length<=63 /\
 (∀i x H2,xs[i]?=some x->Same H1 H2->sp [x] H2 (λv H'=>Same H2 H'/\∃a,v=.ref a/\SqT K H' a (κV i)) E0) /\
 (∀i j,i<xs.length->j<xs.length->∃n m r q rn rm,κV i=.int n::r/\κV j=.int m::q/\VCols r q rn rm/\κ i=n::rn/\κ j=m::rm)/\∀(p:List Nat) D H',p.Perm (Ba xs.length)->p.Pairwise (λi j=>HT.lexLt (κ j) (κ i)=false)->H1 D=none->Same H1 H'->H' D=some (.lst (p.map λi=>xs.getD i .non))->Q (.ref D) H'
theorem zd2 (F:FnOk X.prog X.w X.K X.mg X.base CX0 k f fd ps sp) (hr:Room (k + 1 + 1) X.A) (hb:Binds X.K fd ps []) (hg:Gl X "sorted") (hm:X.mg "sorted" = none) (hgf:Gl X fn) (hmf:X.mg fn=some (.ref f)) (he:PE X e te)
  (hdb:(fn == ("__debug__" : Str))=false:=by decide) (hse:A3 [e] X.env=[(false,eval e X.env)]:=by rfl) (hh:X.calm=true:=by rfl)
  (hall:(Dj pos (Cq [⟨some "key",.Name fn kp,kpos⟩] X.env)).all (·.1.isSome)=true:=by rfl) (hkw:(Dj pos (Cq [⟨some "key",.Name fn kp,kpos⟩] X.env)).any (·.1.isNone)=false:=by rfl)
  (hks:(Dj pos (Cq [⟨some "key",.Name fn kp,kpos⟩] X.env)).filterMap (·.1)=[BV "key"]:=by rfl) :
  PE X (.Call (.Name "sorted" p) [e] [⟨some "key",.Name fn kp,kpos⟩] pos) (znv X.K te sp):=by
 intro pins s σ H Q I h;refine B4 (zdp I hg hm boot_sorted ?_ (by decide) (by decide));refine callWith_kw (thn (zah he zab (hs:=hse) pos pins s σ H (λvs H1=>∃l xs,∃ κV:Nat->List V,∃ κ:Nat->List Int,vs=[V.ref l]/\SqL X.K H1 l xs/\xs.length<=63 /\
 (∀i x H2,xs[i]?=some x->Same H1 H2->sp [x] H2 (λv H'=>Same H2 H'/\∃a,v=.ref a/\SqT X.K H' a (κV i)) E0) /\
 (∀i j,i<xs.length->j<xs.length->∃n m r q rn rm,κV i=.int n::r/\κV j=.int m::q/\VCols r q rn rm/\κ i=n::rn/\κ j=m::rm)/\∀(p:List Nat) D H',p.Perm (Ba xs.length)->p.Pairwise (λi j=>HT.lexLt (κ j) (κ i)=false)->H1 D=none->Same H1 H'->H' D=some (.lst (p.map λi=>xs.getD i .non))->Q (.ref D) H') I ?_) λus s1 ⟨vs,H1,I1,r,q⟩=>?_) (by rw[hse];rfl) (by rw[hse];rfl) hall hkw
 .show te σ H _;exact h
 .obtain⟨l,xs,κV,κ,rfl,hq,h64,turn,hcol,hQ⟩:=q;obtain⟨u,rfl,ru⟩:=Vals.one r
  cases (show u=Av l from ru)
  refine thn (zkF (nm:=some "key") (kpos:=kpos) (zdE (v:=.ref f) hgf hmf rfl hdb) zmy pos pins s1 σ H1 (λzs H2=>zs=[.ref f]/\H2=H1) I1 ⟨rfl,rfl⟩) λws s2 ⟨zs,H2,I2,rz,q2⟩=>?_
  obtain⟨rfl,rfl⟩:=q2;obtain⟨u2,rfl,ru2⟩:=Vals.one rz
  cases (show u2=Av f from ru2)
  rw[hks];refine zjP (G:=OrddS κ xs.length) (zn0 F hr hb turn) hq (λp hp i hi=>?_) (λh2=>⟨Array.Perm.refl _,?_⟩) (λ{vs ks H' s' D st e} r' K' hks h2=>?_) (λp D H' g hp hD hS hH=>hQ p.toList D H' ?_ g.2 hD hS hH) I2
  .have:=hp.1.mem_iff.mp (show i∈p by simpa using hi);simpa using this
  .rw[List.pairwise_iff_getElem];intro i j hi hj hij;simp at hi hj;lia
  .have hlx:xs.length=vs.length:=r'.length;rw[hlx];exact zoa K' hks h2 (by rw[<- hlx];lia) λi j hi hj=>hcol i j (by lia) (by lia)
  .have:=Array.perm_iff_toList_perm.mp g.1;simpa using this
end
open PySem
theorem sC{N P:List Str}{sc:Scope}(a:sc.kind = .function := by rfl)(b:sc.isCoroutine=false := by rfl)(c:sc.isGenerator=false := by rfl)(d:N.Nodup := by decide +kernel)(e:N.take P.length=P := by rfl)
  (f:∀x∈P,sc.names.lookup x=some .local∨sc.names.lookup x=some .cell:=by decide +kernel) (g:∀y∈sc.names,y.2≠.free:=by decide +kernel):FnScope N P sc:=⟨a,b,c,d,e,f,g⟩
section
variable {X:Cx}{k j:Nat}{x:Str}{ps:List Str}{sp:Sp}{e:Expr}{es:List Expr}{t:TA}{te:TE}{p pos pos':Pos}
theorem pC (g:Fn X.prog X.w X.K X.mg X.base k x ps sp) (hr:Room j X.A) (ha:PA X (e :: es) t) (hj:k <= j := by decide) (hg:Gl X x := by rfl) (hdb:(x == ("__debug__" : Str))=false := by decide)
  (he:A3 (e::es) X.env=(false,eval e X.env)::A3 es X.env:=by rfl) (hpl:(backTo pos (A3 es X.env)).any (·.1)=false:=by rfl):PE X (.Call (.Name x p) (e::es) [] pos) (tCall sp [] E0 t) :=
 zm4 g.ok (hr.mono hj) hg g.m g.kp g.b .nil pass0 ha hdb he hpl
theorem nG(i:Nat)(hN:X.N.Nodup)(hi:X.N[i]?=some x:=by rfl)(hx:Loc X.env.scope x:=by exact Or.inl rfl)(hf:X.fn x=true∨X.env.scope.names.lookup x=some .local:=by first |exact .inl rfl |exact .inr rfl |assumption):PG X (.Name x pos) (gName i) :=
 zm1 hN hi hx hf
theorem sE(i:Nat)(hN:X.N.Nodup)(he:PE X e te)(hi:X.N[i]? = some x := by rfl)(hx:Loc X.env.scope x := by exact Or.inl rfl)(hs:swapsWith e (some (.Name x pos')) pos.line X.env=pure false := by rfl)
  (hf:X.fn x=true∨X.env.scope.names.lookup x=some .local:=by first |exact .inl rfl |exact .inr rfl |assumption):PS X (.Assign [.Name x pos'] e pos) (tAsg te (gName i)) :=
 zft hN hi hx he hs hf
end
theorem bO{osc:Scope}{N:List Str}{sc:Scope}{N':List Str}{sel:List (Option Nat)}(a:sc.kind = .function := by rfl)(b:∀y ∈ sc.names, y.2 ≠ .cell := by decide +kernel)(c:∀y ∈ sc.names, y.2 = .local -> sc.names.lookup y.1=some .local := by decide +kernel)
  (d:∀y∈sc.names,y.2=.free->osc.names.lookup y.1=some .cell∨osc.names.lookup y.1=some .free:=by decide +kernel) (e:sel.length=N'.length:=by rfl) (f:∀p∈sel.zip N',∀i∈p.1,N[i]?=some p.2/\sc.names.lookup p.2=some .free:=by decide +kernel):BlkOk osc N sc N' sel:=⟨a,b,c,d,e,f⟩
section
variable {K:W.Frag}{x qual:Str}{st:Stmt}{f:Addr}{fd:Bo}
theorem Fun.b0(F:Fun K x qual st f fd)(h:∀(kV doc pm:Ad) (an:Option Addr) (cdv ct:Ad),CK (CC x qual (zaS st) (zaz st) (zad st) .none kV doc pm an cdv ct) ⟨[],[]⟩=pure []:=by intros;rfl):Binds K fd [] [] :=
 F.binds λkV doc pm an cdv ct us hl=>match us,hl with |[],_=>h kV doc pm an cdv ct
theorem Fun.b1{p0:Str}(F:Fun K x qual st f fd)(h:∀(kV doc pm:Ad) (an:Option Addr) (cdv ct a0:Ad),CK (CC x qual (zaS st) (zaz st) (zad st) .none kV doc pm an cdv ct) ⟨[a0],[]⟩=pure [(p0,a0)]:=by intros;rfl):Binds K fd [p0] [] :=
 F.binds λkV doc pm an cdv ct us hl=>match us,hl with |[a0],_=>h kV doc pm an cdv ct a0
theorem Fun.b2{p0 p1:Str}(F:Fun K x qual st f fd)(h:∀(kV doc pm:Ad) (an:Option Addr) (cdv ct a0 a1:Ad),CK (CC x qual (zaS st) (zaz st) (zad st) .none kV doc pm an cdv ct) ⟨[a0,a1],[]⟩=pure [(p0,a0),(p1,a1)]:=by intros;rfl):Binds K fd [p0,p1] [] :=
 F.binds λkV doc pm an cdv ct us hl=>match us,hl with |[a0,a1],_=>h kV doc pm an cdv ct a0 a1
theorem Fun.b3{p0 p1 p2:Str}(F:Fun K x qual st f fd)(h:∀(kV doc pm:Ad) (an:Option Addr) (cdv ct a0 a1 a2:Ad),CK (CC x qual (zaS st) (zaz st) (zad st) .none kV doc pm an cdv ct) ⟨[a0,a1,a2],[]⟩=pure [(p0,a0),(p1,a1),(p2,a2)]:=by intros;rfl):Binds K fd [p0,p1,p2] [] :=
 F.binds λkV doc pm an cdv ct us hl=>match us,hl with |[a0,a1,a2],_=>h kV doc pm an cdv ct a0 a1 a2
theorem Fun.b4{p0 p1 p2 p3:Str}(F:Fun K x qual st f fd)(h:∀(kV doc pm:Ad) (an:Option Addr) (cdv ct a0 a1 a2 a3:Ad),CK (CC x qual (zaS st) (zaz st) (zad st) .none kV doc pm an cdv ct) ⟨[a0,a1,a2,a3],[]⟩=pure [(p0,a0),(p1,a1),(p2,a2),(p3,a3)]:=by intros;rfl):Binds K fd [p0,p1,p2,p3] [] :=
 F.binds λkV doc pm an cdv ct us hl=>match us,hl with |[a0,a1,a2,a3],_=>h kV doc pm an cdv ct a0 a1 a2 a3
theorem Fun.b6{p0 p1 p2 p3 p4 p5:Str}(F:Fun K x qual st f fd)(h:∀(kV doc pm:Ad) (an:Option Addr) (cdv ct a0 a1 a2 a3 a4 a5:Ad),CK (CC x qual (zaS st) (zaz st) (zad st) .none kV doc pm an cdv ct) ⟨[a0,a1,a2,a3,a4,a5],[]⟩=pure [(p0,a0),(p1,a1),(p2,a2),(p3,a3),(p4,a4),(p5,a5)]:=by intros;rfl):Binds K fd [p0,p1,p2,p3,p4,p5] [] :=
 F.binds λkV doc pm an cdv ct us hl=>match us,hl with |[a0,a1,a2,a3,a4,a5],_=>h kV doc pm an cdv ct a0 a1 a2 a3 a4 a5
end
noncomputable def DA(K:W.Frag)(x:Str)(st:Stmt):Prop:=∃(f:Addr) (od an:Option Addr) (sl:Array (Option Ad)) (oc kV dc pm cd ct:Ad),CI K AE x=some (some (.ref f)) /\
 K.lookup f=some ⟨oc,od,.func (CC x x (zaS st) (zaz st) (zad st) .none kV dc pm an cd ct),sl⟩/\W.codeIn K cd x=true/\W.keepIn K (.ref f)=true
section
variable {K:W.Frag}{mg:Str->Option Ad}{h:Heap}{x:Str}{st:Stmt}
theorem DA.mk{f:Addr}{od an:Option Addr}{sl:Array (Option Ad)}{oc kV dc pm cd ct:Ad}(a:CI K AE x=some (some (.ref f)))
  (l:K.lookup f=some ⟨oc,od,.func (CC x x (zaS st) (zaz st) (zad st) .none kV dc pm an cd ct),sl⟩) (c:W.codeIn K cd x=true) (k:W.keepIn K (.ref f)=true):DA K x st :=
 ⟨f,od,an,sl,oc,kV,dc,pm,cd,ct,a,l,c,k⟩
theorem DA.d0(D:DA K x st)(X:K.In h)(G:h.Ns AE mg)(hb:∀(kV doc pm:Ad) (an:Option Addr) (cdv ct:Ad),CK (CC x x (zaS st) (zaz st) (zad st) .none kV doc pm an cdv ct) ⟨[],[]⟩=pure []:=by intros;rfl):Nonempty (Df K mg x st []):=by obtain⟨f,od,an,sl,oc,kV,dc,pm,cd,ct,a,l,c,k⟩:=D;exact⟨⟨f,_,zcb l c k,Dr X G a,(zcb l c k).b0 hb⟩⟩
theorem DA.d1{p0:Str}(D:DA K x st)(X:K.In h)(G:h.Ns AE mg)(hb:∀(kV doc pm:Ad) (an:Option Addr) (cdv ct a0:Ad),CK (CC x x (zaS st) (zaz st) (zad st) .none kV doc pm an cdv ct) ⟨[a0],[]⟩=pure [(p0,a0)]:=by intros;rfl):Nonempty (Df K mg x st [p0]):=by obtain⟨f,od,an,sl,oc,kV,dc,pm,cd,ct,a,l,c,k⟩:=D;exact⟨⟨f,_,zcb l c k,Dr X G a,(zcb l c k).b1 hb⟩⟩
theorem DA.d2{p0 p1:Str}(D:DA K x st)(X:K.In h)(G:h.Ns AE mg)(hb:∀(kV doc pm:Ad) (an:Option Addr) (cdv ct a0 a1:Ad),CK (CC x x (zaS st) (zaz st) (zad st) .none kV doc pm an cdv ct) ⟨[a0,a1],[]⟩=pure [(p0,a0),(p1,a1)]:=by intros;rfl):Nonempty (Df K mg x st [p0,p1]):=by obtain⟨f,od,an,sl,oc,kV,dc,pm,cd,ct,a,l,c,k⟩:=D;exact⟨⟨f,_,zcb l c k,Dr X G a,(zcb l c k).b2 hb⟩⟩
theorem DA.d3{p0 p1 p2:Str}(D:DA K x st)(X:K.In h)(G:h.Ns AE mg)(hb:∀(kV doc pm:Ad) (an:Option Addr) (cdv ct a0 a1 a2:Ad),CK (CC x x (zaS st) (zaz st) (zad st) .none kV doc pm an cdv ct) ⟨[a0,a1,a2],[]⟩=pure [(p0,a0),(p1,a1),(p2,a2)]:=by intros;rfl):Nonempty (Df K mg x st [p0,p1,p2]):=by obtain⟨f,od,an,sl,oc,kV,dc,pm,cd,ct,a,l,c,k⟩:=D;exact⟨⟨f,_,zcb l c k,Dr X G a,(zcb l c k).b3 hb⟩⟩
theorem DA.d4{p0 p1 p2 p3:Str}(D:DA K x st)(X:K.In h)(G:h.Ns AE mg)(hb:∀(kV doc pm:Ad) (an:Option Addr) (cdv ct a0 a1 a2 a3:Ad),CK (CC x x (zaS st) (zaz st) (zad st) .none kV doc pm an cdv ct) ⟨[a0,a1,a2,a3],[]⟩=pure [(p0,a0),(p1,a1),(p2,a2),(p3,a3)]:=by intros;rfl):Nonempty (Df K mg x st [p0,p1,p2,p3]):=by obtain⟨f,od,an,sl,oc,kV,dc,pm,cd,ct,a,l,c,k⟩:=D;exact⟨⟨f,_,zcb l c k,Dr X G a,(zcb l c k).b4 hb⟩⟩
theorem DA.d6{p0 p1 p2 p3 p4 p5:Str}(D:DA K x st)(X:K.In h)(G:h.Ns AE mg)(hb:∀(kV doc pm:Ad) (an:Option Addr) (cdv ct a0 a1 a2 a3 a4 a5:Ad),CK (CC x x (zaS st) (zaz st) (zad st) .none kV doc pm an cdv ct) ⟨[a0,a1,a2,a3,a4,a5],[]⟩=pure [(p0,a0),(p1,a1),(p2,a2),(p3,a3),(p4,a4),(p5,a5)]:=by intros;rfl):Nonempty (Df K mg x st [p0,p1,p2,p3,p4,p5]):=by obtain⟨f,od,an,sl,oc,kV,dc,pm,cd,ct,a,l,c,k⟩:=D;exact⟨⟨f,_,zcb l c k,Dr X G a,(zcb l c k).b6 hb⟩⟩
end
inductive IsC:Expr->V->Prop where
 |int {n:Int} {k:Nat} {p:Pos}:IsC (.Constant (.int n) k p) (.int n)
 |bl {b:Bool} {k:Nat} {p:Pos}:IsC (.Constant (.bool b) k p) (.bl b)
 |neg {n:Int} {k:Nat} {p q:Pos}:IsC (.UnaryOp .USub (.Constant (.int n) k p) q) (.int (-n))
inductive IsPs:List Expr->List (V×V)->Prop where
 |nil:IsPs [] []
 |cons {a b:Expr} {x y:V} {k:Nat} {p:Pos} {es:List Expr} {l:List (V×V)}:IsC a x->IsC b y->IsPs es l->IsPs (.Tuple [a,b] k p::es) ((x,y)::l)
inductive RetPs:List Stmt->List (V×V)->Prop where
 |mk {es:List Expr} {l:List (V×V)} {p q:Pos}:IsPs es l->RetPs [.Return (some (.List es p)) q] l
section
variable {X:Cx}
theorem ziP{e:Expr}{v:V}(h:IsC e v):PE X e (tC v):=by
 cases h with
 |int=>exact zae
 |bl=>exact pe_bl
 |neg=>exact λpins s σ H Q I q=>(pe_un zgH zae) pins s σ H Q I ⟨_,rfl,q⟩
theorem zfk{e:Expr}{v:V}(h:IsC e v)(es:List Expr)(env:Env):A3 (e::es) env=(false,eval e env)::A3 es env:=by cases h <;> rfl
theorem zlT{es:List Expr}{l:List (V×V)}(h:IsPs es l):PA X es (tPrs l):=by
 induction h with
 |nil=>exact zab
 |cons h1 h2 _ ih=>exact pa_T (zap (zah (ziP h1) (zah (ziP h2) zab (zfk h2 _ _)) (zfk h1 _ _))) ih
theorem zcC{b:List Stmt}{l:List (V×V)}(h:RetPs b l):PSs X b (tRet (tLst (tPrs l))):=by
 cases h with
 |mk h=>exact zaf (zai (zba (zlT h)))
end
end L2
namespace RR
open PySem L2
noncomputable def top(i:Nat):Stmt:=PySem.Challenge.pw_rimsteps_k56_how_rounds_are_alike.main.body.getD i (.Pass ⟨0,0,0,0⟩)
noncomputable abbrev zcz:Stmt:=top 6
noncomputable abbrev zhC:List Str:=["cell"]
theorem zfV:FnScope zhC ["cell"] (zad zcz):=sC
noncomputable abbrev zcl:Stmt:=top 7
noncomputable abbrev zgD:List Str:=["picture","at"]
theorem zcP:FnScope zgD ["picture"] (zad zcl):=sC
noncomputable abbrev zkq:Stmt:=top 8
noncomputable abbrev zof:List Str:=["x","y","step","right","up"]
theorem zhO:FnScope zof ["x","y","step"] (zad zkq):=sC
noncomputable abbrev zbW:Stmt:=top 9
noncomputable abbrev zdV:List Str:=["picture"]
theorem zfU:FnScope zdV ["picture"] (zad zbW):=sC
noncomputable abbrev zcx:Stmt:=top 11
noncomputable abbrev zhA:List Str:=["edge","x","y","way"]
theorem zbB:FnScope zhA ["edge"] (zad zcx):=sC
noncomputable abbrev zbJ:Stmt:=top 12
noncomputable abbrev zc9:List Str:=["picture","table","edges"]
theorem zct:FnScope zc9 ["picture"] (zad zbJ):=sC
noncomputable abbrev zbH:Stmt:=top 13
noncomputable abbrev zeM:List Str:=["way"]
theorem zdW:FnScope zeM ["way"] (zad zbH):=sC
noncomputable abbrev zcw:Stmt:=top 14
noncomputable abbrev zhz:List Str:=["way"]
theorem zfT:FnScope zhz ["way"] (zad zcw):=sC
noncomputable abbrev zcd:Stmt:=top 15
noncomputable abbrev zgw:List Str:=["table","edge","x","y","way","step"]
theorem za7:FnScope zgw ["table","edge"] (zad zcd):=sC
noncomputable abbrev zdx:Stmt:=top 16
noncomputable abbrev zjR:List Str:=["step"]
theorem zhM:FnScope zjR ["step"] (zad zdx):=sC
noncomputable abbrev zcj:Stmt:=top 17
noncomputable abbrev zgB:List Str:=["edge","step","x","y","way","new_x","new_y"]
theorem zaZ:FnScope zgB ["edge","step"] (zad zcj):=sC
noncomputable abbrev zcW:Stmt:=top 20
noncomputable abbrev zih:List Str:=["table","begin","step","walk","edge"]
theorem zbj:FnScope zih ["table","begin"] (zad zcW):=sC
noncomputable abbrev zaL:Stmt:=top 21
noncomputable abbrev zbr:List Str:=["walk","lefts","slants"]
theorem zbc:FnScope zbr ["walk"] (zad zaL):=sC
noncomputable abbrev zbe:Stmt:=top 22
noncomputable abbrev zc8:List Str:=["walk","lefts","slants"]
theorem za5:FnScope zc8 ["walk"] (zad zbe):=sC
noncomputable abbrev zen:Stmt:=top 23
noncomputable abbrev zlB:List Str:=["walk"]
theorem zjz:FnScope zlB ["walk"] (zad zen):=sC
noncomputable abbrev zcI:Stmt:=top 24
noncomputable abbrev zfD:List Str:=["walk","sort"]
theorem zhP:FnScope zfD ["walk","sort"] (zad zcI):=sC
noncomputable abbrev zbD:Stmt:=top 25
noncomputable abbrev zdK:List Str:=["walk","sort","begin","at","row"]
theorem zbF:FnScope zdK ["walk"] (zad zbD):=sC
noncomputable abbrev zce:Stmt:=top 26
noncomputable abbrev zgx:List Str:=["one","sort","x","y","row"]
theorem za8:FnScope zgx ["one"] (zad zce):=sC
noncomputable abbrev zbY:Stmt:=top 27
noncomputable abbrev zfa:List Str:=["table","edges","walked","told","begin","walk","edge","step"]
theorem zaH:FnScope zfa ["table","edges"] (zad zbY):=sC
noncomputable abbrev zfY:Stmt:=top 28
noncomputable abbrev zmd:List Str:=["picture"]
theorem zko:FnScope zmd ["picture"] (zad zfY):=sC
noncomputable abbrev zcA:Stmt:=top 31
noncomputable abbrev zhD:List Str:=["one","sort","x","y","row"]
theorem zbn:FnScope zhD ["one"] (zad zcA):=sC
noncomputable abbrev zek:Stmt:=top 32
noncomputable abbrev zly:List Str:=["step"]
theorem zjy:FnScope zly ["step"] (zad zek):=sC
noncomputable abbrev zck:Stmt:=top 33
noncomputable abbrev zgC:List Str:=["begin_way","row","way","deeds","step","lefts"]
theorem za0:FnScope zgC ["begin_way","row"] (zad zck):=sC
noncomputable abbrev zem:Stmt:=top 34
noncomputable abbrev zlA:List Str:=["begin","deeds","walk","edge","deed"]
theorem zb6:FnScope zlA ["begin","deeds"] (zad zem):=sC
noncomputable abbrev zcv:Stmt:=top 35
noncomputable abbrev zhy:List Str:=["begin","row"]
theorem zfR:FnScope zhy ["begin","row"] (zad zcv):=sC
noncomputable abbrev zbX:Stmt:=top 36
noncomputable abbrev ze9:List Str:=["edge","step","x","y","way","behind","seen"]
theorem zaR:FnScope ze9 ["edge","step"] (zad zbX):=sC
noncomputable abbrev zci:Stmt:=top 37
noncomputable abbrev zgA:List Str:=["walk","known","steps_gone","edge","step","cell","inside"]
theorem zaC:FnScope zgA ["walk"] (zad zci):=sC
noncomputable abbrev zcy:Stmt:=top 38
noncomputable abbrev zhB:List Str:=["walk","edge","step"]
theorem zcc:FnScope zhB ["walk"] (zad zcy):=sC
noncomputable abbrev zcX:Stmt:=top 39
noncomputable abbrev zii:List Str:=["walk","sort"]
theorem zgU:FnScope zii ["walk","sort"] (zad zcX):=sC
noncomputable abbrev zel:Stmt:=top 40
noncomputable abbrev zlz:List Str:=["one","sort","x","y","row","begin","walk","at"]
theorem zbi:FnScope zlz ["one"] (zad zel):=sC
noncomputable abbrev zdy:Stmt:=top 42
noncomputable abbrev zjS:List Str:=["some"]
theorem zhN:FnScope zjS ["some"] (zad zdy):=sC
noncomputable abbrev zhR:Stmt:=top 43
noncomputable abbrev znr:List Str:=["one","dx","dy","sort","x","y","row"]
theorem zdk:FnScope znr ["one","dx","dy"] (zad zhR):=sC
noncomputable abbrev zcf:Stmt:=top 44
noncomputable abbrev zeO:List Str:=["some","dx","dy"]
theorem zgT:FnScope zeO ["some","dx","dy"] (zad zcf):=sC
noncomputable abbrev zb0:Stmt:=top 45
noncomputable abbrev zfc:List Str:=["edge","x","y","way"]
theorem zbm:FnScope zfc ["edge"] (zad zb0):=sC
noncomputable abbrev zbZ:Stmt:=top 46
noncomputable abbrev zfb:List Str:=["step"]
theorem zeg:FnScope zfb ["step"] (zad zbZ):=sC
noncomputable abbrev zd1:Stmt:=top 47
noncomputable abbrev zjm:List Str:=["one","quarters","walk","quarter"]
theorem zdj:FnScope zjm ["one","quarters"] (zad zd1):=sC
noncomputable abbrev zbV:Stmt:=top 48
noncomputable abbrev zdU:List Str:=["some","quarters"]
theorem zfS:FnScope zdU ["some","quarters"] (zad zbV):=sC
noncomputable abbrev zch:Stmt:=top 49
noncomputable abbrev zgz:List Str:=["edge","x","y","way"]
theorem zbv:FnScope zgz ["edge"] (zad zch):=sC
noncomputable abbrev zcg:Stmt:=top 50
noncomputable abbrev zgy:List Str:=["step"]
theorem zeR:FnScope zgy ["step"] (zad zcg):=sC
noncomputable abbrev zb7:Stmt:=top 51
noncomputable abbrev zdL:List Str:=["one","walk","edges","behind","mirror"]
theorem zbG:FnScope zdL ["one"] (zad zb7):=sC
noncomputable abbrev zbw:Stmt:=top 52
noncomputable abbrev zcT:List Str:=["some"]
theorem zeh:FnScope zcT ["some"] (zad zbw):=sC
noncomputable abbrev zfZ:Stmt:=top 55
noncomputable abbrev zme:List Str:=["some","mirror","quarters"]
theorem zkp:FnScope zme ["some","mirror","quarters"] (zad zfZ):=sC
noncomputable abbrev zbI:Stmt:=top 56
noncomputable abbrev zeN:List Str:=["some","others","dx","dy"]
theorem zcr:FnScope zeN ["some","others"] (zad zbI):=sC
noncomputable abbrev zhS:Stmt:=top 57
noncomputable abbrev zns:List Str:=["one","other"]
theorem zlI:FnScope zns ["one","other"] (zad zhS):=sC
noncomputable abbrev zcY:Stmt:=top 58
noncomputable abbrev zij:List Str:=["some","others","mirror","quarters","shift"]
theorem zbS:FnScope zij ["some","others"] (zad zcY):=sC
noncomputable abbrev zb2:Stmt:=top 60
noncomputable abbrev zfe:List Str:=["_law_script","_law_k"]
theorem zej:FnScope zfe ["_law_script","_law_k"] (zad zb2):=sC
noncomputable abbrev zcZ:Stmt:=top 61
noncomputable abbrev zil:List Str:=["_law_pen","_law_base","_law_rest","_law_number"]
theorem zby:FnScope zil ["_law_pen","_law_base"] (zad zcZ):=sC
noncomputable abbrev zdA:Stmt:=top 62
noncomputable abbrev zjT:List Str:=["_law_pen","_law_way"]
theorem zei:FnScope zjT ["_law_pen"] (zad zdA):=sC
noncomputable abbrev zbL:Stmt:=top 63
noncomputable abbrev zeQ:List Str:=["_law_pen","_law_way","_law_x","_law_y","_law_wide","_law_high"]
theorem zdX:FnScope zeQ ["_law_pen","_law_way","_law_x","_law_y","_law_wide","_law_high"] (zad zbL):=sC
noncomputable abbrev zb1:Stmt:=top 64
noncomputable abbrev zfd:List Str:=["_law_pen","_law_most","_law_wide","_law_high","_law_way","_law_dx","_law_dy","_law_found","_law_y","_law_x"]
theorem zaw:FnScope zfd ["_law_pen","_law_most"] (zad zb1):=sC
noncomputable abbrev zdz:Stmt:=top 65
noncomputable abbrev zfE:List Str:=["_law_start","_law_there","_law_steps","_law_found","_law_left","_law_x","_law_y","_law_dx","_law_dy"]
theorem zbd:FnScope zfE ["_law_start","_law_there","_law_steps"] (zad zdz):=sC
noncomputable abbrev zbM:Stmt:=top 66
noncomputable abbrev zio:List Str:=[]
theorem zgX:FnScope zio [] (zad zbM):=sC
noncomputable abbrev zbz:Stmt:=top 67
noncomputable abbrev zhE:List Str:=[]
theorem zfW:FnScope zhE [] (zad zbz):=sC
noncomputable abbrev zc2:Stmt:=top 68
noncomputable abbrev ziq:List Str:=["_law_cells","_law_found","_law_cell"]
theorem zcu:FnScope ziq ["_law_cells"] (zad zc2):=sC
noncomputable abbrev zaM:Stmt:=top 69
noncomputable abbrev zaW:List Str:=["_law_there","_law_sort","_law_x","_law_y","_law_piece","_law_left","_law_low","_law_free","_law_b","_law_a","_law_outside"]
theorem zaD:FnScope zaW ["_law_there","_law_sort","_law_x","_law_y"] (zad zaM):=sC
noncomputable abbrev zc0:Stmt:=top 70
noncomputable abbrev zim:List Str:=["_law_cell"]
theorem zgW:FnScope zim ["_law_cell"] (zad zc0):=sC
noncomputable abbrev za9:Stmt:=top 71
noncomputable abbrev zb4:List Str:=["_law_cells","_law_flipped","_law_quarters","_law_turn"]
theorem zbo:FnScope zb4 ["_law_cells","_law_flipped","_law_quarters"] (zad za9):=sC
noncomputable abbrev zbK:Stmt:=top 72
noncomputable abbrev zik:List Str:=[]
theorem zgV:FnScope zik [] (zad zbK):=sC
noncomputable abbrev zcJ:Stmt:=top 73
noncomputable abbrev zfF:List Str:=["_law_cells","_law_others","_law_flipped","_law_quarters","_law_made","_law_dx","_law_dy"]
theorem zbt:FnScope zfF ["_law_cells","_law_others"] (zad zcJ):=sC
noncomputable abbrev zbC:Stmt:=top 74
noncomputable abbrev zds:List Str:=["_law_found","_law_due"]
theorem zeS:FnScope zds ["_law_found","_law_due"] (zad zbC):=sC
noncomputable abbrev zc1:Stmt:=top 75
noncomputable abbrev zin:List Str:=["_law_picture_here","_law_there","_law_found","_law_one"]
theorem zbU:FnScope zin ["_law_picture_here"] (zad zc1):=sC
noncomputable abbrev zcm:Stmt:=top 76
noncomputable abbrev zeP:List Str:=["_law_pen","_law_most","_law_picture_here","_law_other","_law_far_here"]
theorem zbT:FnScope zeP ["_law_pen","_law_most"] (zad zcm):=sC
noncomputable abbrev s_law:Stmt:=top 77
noncomputable abbrev N_law:List Str:=["_law_script","_law_k","_law_picture_here","_law_other","_law_one","_law_mine","_law_two","_law_theirs","_law_due"]
theorem zcO:FnScope N_law ["_law_script"] (zad s_law):=sC
open PySem L2 RP
noncomputable def cellT(c:Cell):List V:=[.int c.1,.int c.2]
noncomputable def edgeT(e:Edge):List V:=[.int e.c.1,.int e.c.2,.int e.w]
noncomputable def sv:Option Nat->V
 |none=>.non
 |some s=>.int s
noncomputable def Tab(H:Hp)(t:Addr)(C:Cell->Bool):Prop:=∃kvs:List (List Key×V),H t=some (.dT kvs)/\∀c:Cell,(valV kvs [C9 c.1,C9 c.2]).isSome=C c
theorem Tab.same{H H':Hp}{t:Addr}{C:Cell->Bool}(h:Tab H t C)(s:Same H H'):Tab H' t C:=let ⟨kvs,e,q⟩:=h;⟨kvs,s _ _ e,q⟩
theorem Same.up{H:Hp}{p:Addr}{o:HO}(h:H p=none):Same H (upd H p o):=λb u e=>by rw[zaj (zan e h)];exact e
structure Txt (P:AJ) (w:A1) (K:W.Frag) (mg:Str->Option Ad):Prop where
 moves:∃M,mg "MOVES" = some (.ref M)/\∀H,∃ms:List Addr,SqT K H M (ms.map V.ref)/\ms.length=8/\∀(i:Nat) a,ms[i]?=some a->SqT K H a [.int (mv i).1,.int (mv i).2]
 ways:Ways P w K mg
 more:Two P w K mg "MORE_LEFTS" 4 (-4)
 tTURNS:∃M,mg "TURNS" = some (.ref M)/\∀H,∃ms:List Addr,SqT K H M (ms.map V.ref)/\ms.length=8/\∀(i:Nat) a,ms[i]?=some a->∃q,([(false,0),(false,1),(false,2),(false,3),(true,0),(true,1),(true,2),(true,3)]:List (Bool×Int))[i]?=some q/\SqT K H a [.bl q.1,.int q.2]
 nrange:mg "range" = none
 nlen:mg "len" = none
 nmin:mg "min" = none
 nmax:mg "max" = none
 nsorted:mg "sorted" = none
 ntuple:mg "tuple" = none
 nint:mg "int" = none
 nbool:mg "bool" = none
 nabs:mg "abs" = none
 nall:mg "all" = none
 nisinstance:mg "isinstance" = none
 nlist:mg "list" = none
 nzip:mg "zip" = none
 nenumerate:mg "enumerate" = none
 nany:mg "any" = none
theorem two:2<=sizeLine:=by decide
theorem three:3<=sizeLine:=by decide
section
variable {P:AJ}{w:A1}{K:W.Frag}{mg:Str->Option Ad}{base:Heap}
noncomputable def zcV(K:W.Frag):Sp:=λvs H Q _=>∃(a:Addr) (x y:Int) (r:List V),vs=[.ref a]/\SqT K H a (.int x::.int y::r)/\∀(p:Addr) (H':Hp),H p=none->Same H H'->H' p=some (.tup [.int y,.int x])->Q (.ref p) H'
theorem zge (d:Df K mg "cell_order" zcz ["cell"]):FnOk P w K mg base CX0 1 d.f d.fd ["cell"] (zcV K):=by
 refine d.F.ok zfV (λvs H Q E h=>?_) (λcdv A outer s H vs Q E hr h=>?_)
 .obtain⟨a,x,y,r,rfl,_⟩:=h;rfl
 .obtain⟨a,x,y,r,rfl,hq,k⟩:=h;refine⟨_,(zaf (zai (zap (zah (pe_ix zaT (pv 0) zae (λ_ _=>rfl)) (zah (pe_ix zaT (pv 0) zae (λ_ _=>rfl)) zab))))),?_⟩;refine⟨_,rfl,a,_,_,_,rfl,rfl,hq,zak (j:=1) rfl,_,rfl,a,_,_,_,rfl,rfl,hq,zak (j:=0) rfl,two,λp hp=>?_⟩;exact k p _ hp (Same.up hp) zaa
noncomputable def zgN:Sp:=λvs H Q _=>∃(c:Cell) (i:Nat),vs=[.int c.1,.int c.2,.int i]/\i<8/\∀(p:Addr) (H':Hp),H p=none->Same H H'->H' p=some (.tup (cellT (go c i)))->Q (.ref p) H'
theorem zm7 (T:Txt P w K mg) (d:Df K mg "gone" zkq ["x","y","step"]):FnOk P w K mg base CX0 1 d.f d.fd ["x","y","step"] zgN:=by
 refine d.F.ok zhO (λvs H Q E h=>?_) (λcdv A outer s H vs Q E hr h=>?_)
 .obtain⟨c,i,rfl,_⟩:=h;rfl
 .obtain⟨c,i,rfl,hi,k⟩:=h;obtain⟨M,hM,hms⟩:=T.moves;obtain⟨ms,hq,hl,hm⟩:=hms H
  refine⟨_,(zac (zbs (pe_ix zaT (zdE (v:=.ref M) rfl hM rfl) (pv 2) (λ_ _=>rfl)) (zaX (by rfl) (zag (nG 3 zhO.nd) (zag (nG 4 zhO.nd) zao))))
   (zaf (zai (zap (pa_B (pe_op zax (pv 0) (pv 3)) (pa_B (pe_op zax (pv 1) (pv 4)) zab)))))),?_⟩
  have hi':i<ms.length:=by lia
  have e1:ms[i]?=some ms[i]:=by simp[hi']
  refine⟨_,rfl,M,_,(i:Int),.ref ms[i],rfl,rfl,hq,zak (by simp[hi']),ms[i],_,rfl,hm i _ e1,rfl,_,_,rfl,_,_,rfl,rfl,?_⟩;refine⟨_,rfl,_,rfl,_,_,rfl,rfl,_,rfl,_,rfl,_,_,rfl,rfl,two,λp hp=>?_⟩;exact k p _ hp (Same.up hp) zaa
noncomputable def zdw:Sp:=λvs H Q _=>∃w:Nat,vs=[.int w]/\w<4/\Q (.int (2*w:Nat)) H
theorem zdY (d:Df K mg "straight_step" zbH ["way"]):FnOk P w K mg base CX0 1 d.f d.fd ["way"] zdw:=by
 refine d.F.ok zdW (λvs H Q E h=>?_) (λcdv A outer s H vs Q E hr h=>?_)
 .obtain⟨w,rfl,_⟩:=h;rfl
 .obtain⟨w,rfl,hw,k⟩:=h;refine⟨_,(zaf (zai (pe_op zcR zae (pv 0)))),?_⟩;refine⟨_,rfl,_,_,rfl,rfl,.inl ⟨by decide,by decide⟩,?_⟩;have e:(2*(w:Int))=((2*w:Nat):Int):=by lia
  show Q (.int (2*(w:Int))) H;rw[e];exact k
noncomputable def zhK:Sp:=λvs H Q _=>∃w:Nat,vs=[.int w]/\w<4/\Q (.int ((2*w+7) % 8:Nat)) H
theorem zf8 (d:Df K mg "slant_step" zcw ["way"]):FnOk P w K mg base CX0 1 d.f d.fd ["way"] zhK:=by
 refine d.F.ok zfT (λvs H Q E h=>?_) (λcdv A outer s H vs Q E hr h=>?_)
 .obtain⟨w,rfl,_⟩:=h;rfl
 .obtain⟨w,rfl,hw,k⟩:=h;refine⟨_,(zaf (zai (pe_op za2 (pe_op zax (pe_op zcR zae (pv 0)) zae) zae))),?_⟩;refine⟨_,rfl,_,_,rfl,rfl,.inl ⟨by decide,by decide⟩,_,_,rfl,rfl,_,_,rfl,rfl,(by show (0:Int)<8;decide),?_⟩;have e:(2*(w:Int)+7) % 8=(((2*w+7) % 8:Nat):Int):=by lia
  show Q (.int ((2*(w:Int)+7) % 8)) H;rw[e];exact k
noncomputable def zdf:Sp:=λvs H Q _=>∃o:Option Nat,vs=[sv o]/\Q (.bl (slant o)) H
theorem zh5 (d:Df K mg "is_slant" zdx ["step"]):FnOk P w K mg base CX0 1 d.f d.fd ["step"] zdf:=by
 refine d.F.ok zhM (λvs H Q E h=>?_) (λcdv A outer s H vs Q E hr h=>?_)
 .obtain⟨o,rfl,_⟩:=h;rfl
 .obtain⟨o,rfl,k⟩:=h;refine⟨_,(zaf (zai (ziQ (zbf zeq (pv 0) zaY (zaq _)) (zfu (zbf op_eq (pe_op za2 (pv 0) zae) zae (zaq _)))))),?_⟩
  cases o with
  |none=>exact⟨_,rfl,rfl,false,rfl,iteF k⟩
  |some n =>
   refine⟨_,rfl,rfl,true,rfl,iteT ⟨_,rfl,_,_,rfl,rfl,(by show (0:Int)<2;decide),rfl,?_⟩⟩
   have e:decide (V.int ((n:Int) % 2)=V.int 1)=slant (some n):=by
    show _=(n % 2 == 1)
    by_cases q:n % 2=1
    .rw[decide_eq_true (by rw[show (n:Int) % 2=1 by lia]),q];rfl
    .rw[decide_eq_false (λz=>by injection z with z;lia)];simp[q]
   rw[<- e]at k;exact k
noncomputable def spGap(K:W.Frag):Sp:=λvs H Q _=>∃(a:Addr) (e:Edge),vs=[.ref a]/\SqT K H a (edgeT e)/\e.w<4/\∀(p:Addr) (H':Hp),H p=none->Same H H'->H' p=some (.tup (cellT (gap e)))->Q (.ref p) H'
theorem zgb (g_gone:Fn P w K mg base 1 "gone" ["x","y","step"] zgN) (d:Df K mg "gap_beside" zcx ["edge"]):FnOk P w K mg base CX0 2 d.f d.fd ["edge"] (spGap K):=by
 refine d.F.ok zbB (λvs H Q E h=>?_) (λcdv A outer s H vs Q E hr h=>?_)
 .obtain⟨a,e,rfl,_⟩:=h;rfl
 .obtain⟨a,e,rfl,hq,hw,k⟩:=h
  refine⟨_,(zac (zbs (pv 0) (zaX (by rfl) (zag (nG 1 zbB.nd) (zag (nG 2 zbB.nd) (zag (nG 3 zbB.nd) zao)))))
   (zaf (zai (pC g_gone hr (pa_N (pv 1) (pa_N (pv 2) (pa_B (pe_op za2 (pe_op zax (pe_op zcR zae (pv 3)) zae) zae) zab))))))),?_⟩
  refine⟨_,rfl,a,_,rfl,hq,rfl,_,_,rfl,_,_,rfl,_,_,rfl,rfl,?_⟩;have e6:(2*(e.w:Int)+6) % 8=(((2*e.w+6) % 8:Nat):Int):=by lia
  refine⟨_,rfl,_,rfl,_,rfl,_,_,rfl,rfl,.inl ⟨by decide,by decide⟩,_,_,rfl,rfl,_,_,rfl,rfl,(by show (0:Int)<8;decide),e.c,(2*e.w+6) % 8,(by rw[<- e6];rfl),by lia,λp H' hp hS hH=>k p H' hp hS hH⟩
theorem iteN{b:Bool}{A B:Prop}(h:b=false)(q:B):if b=true then A else B:=by subst h;exact iteF q
theorem iteY{b:Bool}{A B:Prop}(h:b=true)(q:A):if b=true then A else B:=by subst h;exact iteT q
theorem zbu{tb:TS}{D:Ends}{σ:St}{H:Hp}(h:tb D σ H):tIfs (λ_ H Q=>Q true H) tb D σ H:=by
 show if true=true then tb D σ H else D.nx σ H
 exact iteT h
theorem gN{j:Nat}{v:V}{σ:St}{H:Hp}{tb:TS}{D:Ends}(h:tb D (σ.set j (some v)) H):gName j v σ H λσ2 H2=>tIfs (λ_ H Q=>Q true H) tb D σ2 H2:=zbu h
noncomputable def LR{α:Type}(K:W.Frag)(H:Hp)(a:Addr)(l:List α)(R:α->V->Hp->Prop):Prop:=∃vs:List V,SqL K H a vs/\vs.length=l.length/\∀(i:Nat) x v,l[i]?=some x->vs[i]?=some v->R x v H
noncomputable def cR(c:Cell)(v:V)(H:Hp):Prop:=∃b,v=.ref b/\H b=some (.tup (cellT c))
noncomputable def eR(e:Edge)(v:V)(H:Hp):Prop:=∃b,v=.ref b/\H b=some (.tup (edgeT e))
noncomputable def wR(q:Edge×Option Nat)(v:V)(H:Hp):Prop:=∃A b,v=.ref A/\H A=some (.tup [.ref b,sv q.2])/\H b=some (.tup (edgeT q.1))
theorem cR.same{c:Cell}{v:V}{H H':Hp}(h:cR c v H)(s:Same H H'):cR c v H':=let ⟨b,e,q⟩:=h;⟨b,e,s _ _ q⟩
theorem eR.same{c:Edge}{v:V}{H H':Hp}(h:eR c v H)(s:Same H H'):eR c v H':=let ⟨b,e,q⟩:=h;⟨b,e,s _ _ q⟩
theorem wR.same{c:Edge×Option Nat}{v:V}{H H':Hp}(h:wR c v H)(s:Same H H'):wR c v H':=let ⟨A,b,e,q,r⟩:=h;⟨A,b,e,s _ _ q,s _ _ r⟩
theorem LR.same{α:Type}{K:W.Frag}{H H':Hp}{a:Addr}{l:List α}{R:α->V->Hp->Prop}(h:LR K H a l R)(s:Same H H')(m:∀x v,R x v H->R x v H'):LR K H' a l R :=
 let ⟨vs,q,n,r⟩:=h;⟨vs,s.seq q,n,λi x v h1 h2=>m x v (r i x v h1 h2)⟩
theorem zbA{α:Type}{l:List α}{i:Nat}{x c:α}(h:l[i]?=some x):c∈l.take (i+1) ↔ c∈l.take i∨c=x:=by rw[C8,h,AH];exact⟨λz=>z.elim .inl λz=>.inr (Am.mp z),λz=>z.elim .inl λz=>.inr (List.mem_singleton.mpr z)⟩
noncomputable def InOrd(cs:List Cell):Prop:=∀(i:Nat) c d,cs[i]?=some c->cs[i+1]?=some d->HT.lexLt [c.2,c.1] [d.2,d.1]=true
noncomputable def spAsk(K:W.Frag):Sp:=λvs H Q _=>∃(a:Addr) (cs:List Cell),vs=[.ref a]/\LR K H a cs cR/\InOrd cs/\cs.length<=1000/\∀H',Same H H'->Q (.bl true) H'
theorem ze3 (T:Txt P w K mg) (g_cell_order:Fn P w K mg base 1 "cell_order" ["cell"] (zcV K)) (d:Df K mg "ask_picture" zcl ["picture"]):FnOk P w K mg base CX0 2 d.f d.fd ["picture"] (spAsk K):=by
 refine d.F.ok zcP (λvs H Q E h=>?_) (λcdv A outer s H vs Q E hr h=>?_)
 .obtain⟨a,cs,rfl,_⟩:=h;rfl
 .obtain⟨a,cs,rfl,⟨ws,hq,hn,hc⟩,ho,hlen,k⟩:=h;have hu0:=hr.units0
  refine⟨_,(zac (za4 AO rfl (zkG (by rfl) T.nrange (pa_C zae (zah (zav zaF (by rfl) T.nlen (by rfl) (pa_N (pv 0) zab)) zab))) (nG 1 zcP.nd)
   (zaf (ps_if (zas (znP hu0) (pC g_cell_order hr (zah (pe_ix zaA (pv 0) (pv 1) (λ_ _=>rfl)) zab)) (pC g_cell_order hr (zah (pe_ix zaA (pv 0) (pe_op zaP (pv 1) zae) (λ_ _=>rfl)) zab)) (zaq _))
   (zaf zf2)
   zat)))
   (zaf (zai pe_bl))),?_⟩
  refine⟨_,rfl,a,_,rfl,.inl hq,_,_,rfl,⟨by decide,by decide,by lia,by lia⟩,?_⟩;refine zbq (lo:=1) (n:=((ws.length:Int)-1).toNat) (λi σ H2=>∃o,σ=[some (.ref a),o]/\Same H H2) ⟨_,rfl,Same.refl _⟩ ?_ ?_
  .rintro i σ H2 hi ⟨o,rfl,s2⟩;have h1:i+1<ws.length:=by lia
   have v1:ws[i+1]?=some ws[i+1]:=Aa h1;have v0:ws[i]?=some ws[i]:=Aa (by lia)
   have c1:cs[i+1]?=some cs[i+1]:=Aa (by lia)
   have c0:cs[i]?=some cs[i]:=Aa (by lia)
   obtain⟨b1,e1,q1⟩:=hc (i+1) _ _ c1 v1;obtain⟨b0,e0,q0⟩:=hc i _ _ c0 v0;refine⟨_,rfl,_,rfl,a,_,_,_,rfl,rfl,s2.seq hq,(by rw[show (1:Int)+(i:Int)=((i+1:Nat):Int) by lia];exact zak v1),b1,_,_,[],(by rw[e1];rfl),SqT.of (s2 _ _ q1),λp1 H3 hp1 s3 f1=>?_⟩;refine⟨_,rfl,_,rfl,_,_,rfl,rfl,a,_,_,_,rfl,rfl,(s2.trans s3).seq hq,(by rw[show (1:Int)+(i:Int)-1=(i:Int) by lia];exact zak v0),b0,_,_,[],(by rw[e0];rfl),SqT.of ((s2.trans s3) _ _ q0),λp0 H4 hp0 s4 f0=>?_⟩;refine⟨p1,p0,[cs[i+1].2,cs[i+1].1],[cs[i].2,cs[i].1],rfl,rfl,SqT.of (s4 _ _ f1),SqT.of f0,_,rfl,iteN ?_ ?_⟩
   .rw[HT.lexLe_eq,ho i _ _ c0 c1];rfl
   .exact⟨_,rfl,(s2.trans s3).trans s4⟩
  .rintro σ H2 ⟨o,rfl,s2⟩;exact k H2 s2
noncomputable def kC(c:Cell):List Key:=[C9 c.1,C9 c.2]
theorem zi5{c d:Cell}:kC c=kC d ↔ c=d:=by
 constructor
 .intro h;unfold kC at h;injection h with h1 h2;injection h2 with h2 _;exact Bj (Sum.inl.inj h1) (Sum.inl.inj h2)
 .rintro rfl;rfl
noncomputable def zhJ(K:W.Frag):Sp:=λvs H Q _=>∃(a:Addr) (cs:List Cell),vs=[.ref a]/\LR K H a cs cR/\cs.length<=1000/\∀t H',H t=none->Same H H'->Tab H' t (isIn cs)->Q (.ref t) H'
theorem zgd (d:Df K mg "cell_table" zbW ["picture"]):FnOk P w K mg base CX0 1 d.f d.fd ["picture"] (zhJ K):=by
 refine d.F.ok zfU (λvs H Q E h=>?_) (λcdv A outer s H vs Q E hr h=>?_)
 .obtain⟨a,cs,rfl,_⟩:=h;rfl
 .obtain⟨a,cs,rfl,⟨ws,hq,hn,hc⟩,hlen,k⟩:=h;have hu1:=hu_of hr;have nb0:(["cell"]:List Str).Nodup:=by decide +kernel
  refine⟨_,(zaf (zai (zlS hu1 (osc:=zad zbW) (N:=zdV) (N':=["cell"]) (sel:=[none]) bO (zay (pv 0)) (λ_ _ _ _ _=>(nG 0 nb0)) (λ_ _ _ _ _=>zaU) (λ_ _ _ _ _=>(pv 0)) (λ_ _ _ _ _=>pe_bl)))),?_⟩;refine⟨_,rfl,a,rfl,⟨_,hq⟩,λp hp=>?_⟩
  refine zar (K:=K) (a:=a) (xs:=ws) (λi σ H2=>∃o,σ=[o]/\Same H H2/\∃kvs,H2 p=some (.dT kvs)/\kvs.length<=i/\∀c:Cell,(valV kvs (kC c)).isSome=decide (c∈cs.take i))
   ⟨_,rfl,Same.up hp,[],zaa,Aj _,λc=>by simp[valV]⟩ (λi σ H2 _ ⟨_,_,s2,_⟩=>s2.seq hq) ?_ ?_
  .rintro i v σ H2 hi ⟨o,rfl,s2,kvs,e2,hl,hv⟩;have hil:i<ws.length:=(Ac.mp hi).1;have ci:cs[i]?=some cs[i]:=Aa (by lia)
   obtain⟨b,rfl,q⟩:=hc i _ _ ci hi;refine gN ?_
   refine⟨_,rfl,_,.inr ⟨kvs,kC cs[i],b,e2,rfl,s2 _ _ q,zal (by lia),rfl⟩,_,rfl,λz o e=>?_,_,zaa,?_,λc=>?_⟩
   .rw[zaj (zan e hp)];exact s2 z o e
   .exact Bb (za3 _ _ _) (by lia)
   .rw[zfI]
    by_cases e:c=cs[i]
    .rw[if_pos (zi5.mpr e),decide_eq_true ((zbA ci).mpr (.inr e))];rfl
    .rw[if_neg (λz=>e (zi5.mp z)),hv];exact decide_eq_decide.mpr ⟨λz=>(zbA ci).mpr (.inl z),λz=>((zbA ci).mp z).resolve_right e⟩
  .rintro σ H2 ⟨o,rfl,s2,kvs,e2,hl,hv⟩;refine k p H2 hp s2 ⟨kvs,e2,λc=>?_⟩;show (valV kvs (kC c)).isSome=isIn cs c;rw[hv,hn,AG];rfl
noncomputable def zkb(K:W.Frag):Sp:=λvs H Q _=>∃(t a:Addr) (C:Cell->Bool) (e:Edge),vs=[.ref t,.ref a]/\Tab H t C/\SqT K H a (edgeT e)/\e.w<4/\∀H',Same H H'->Q (sv (stepB C e)) H'
theorem zeT (g_gone:Fn P w K mg base 1 "gone" ["x", "y", "step"] zgN) (g_slant_step:Fn P w K mg base 1 "slant_step" ["way"] zhK) (g_straight_step:Fn P w K mg base 1 "straight_step" ["way"] zdw)
  (d:Df K mg "step_behind" zcd ["table","edge"]):FnOk P w K mg base CX0 2 d.f d.fd ["table","edge"] (zkb K):=by
 refine d.F.ok za7 (λvs H Q E h=>?_) (λcdv A outer s H vs Q E hr h=>?_)
 .obtain⟨t,a,C,e,rfl,_⟩:=h;rfl
 .obtain⟨t,a,C,e,rfl,⟨kvs,ht,hC⟩,hq,hw,k⟩:=h;have hu1:=hu_of hr
  refine⟨_,(zac (zbs (pv 1) (zaX (by rfl) (zag (nG 2 za7.nd) (zag (nG 3 za7.nd) (zag (nG 4 za7.nd) zao)))))
   (zac (za4 AO rfl (ziN (zap (zah (pC g_slant_step hr (pa_N (pv 4) zab)) (zah (pC g_straight_step hr (pa_N (pv 4) zab)) zab)))) (nG 5 za7.nd)
   (zaf (ps_if (zep (zmB hu1 (pC g_gone hr (pa_N (pv 2) (pa_N (pv 3) (pa_N (pv 5) zab)))) (pv 0)))
   (zaf (zai (pv 5)))
   zat)))
   (zaf (zai zaY)))),?_⟩
  refine⟨_,rfl,a,_,rfl,hq,rfl,_,_,rfl,_,_,rfl,_,_,rfl,rfl,?_⟩;refine⟨_,rfl,e.w,rfl,hw,_,rfl,e.w,rfl,hw,two,λp hp=>⟨p,rfl,⟨_,SqT.of zaa⟩,?_⟩⟩
  refine zgn (K:=K) (a:=p) (xs:=[.int ((2*e.w+7) % 8:Nat),.int (2*e.w:Nat)]) (λi σ H2=>∃o,σ=[some (.ref t),some (.ref a),some (.int e.c.1),some (.int e.c.2),some (.int e.w),o]/\Same (upd H p (.tup [.int ((2*e.w+7) % 8:Nat),.int (2*e.w:Nat)])) H2/\(1<=i->C (go e.c ((2*e.w+7) % 8))=false)/\(2<=i->C (go e.c (2*e.w))=false))
   ⟨_,rfl,Same.refl _,λh=>absurd h (by decide),λh=>absurd h (by decide)⟩ (λi σ H2 _ ⟨_,_,s2,_⟩=>s2.seqT (SqT.of zaa)) ?_ ?_
  .rintro i v σ H2 hi ⟨o,rfl,s2,n1,n2⟩;have sH:Same H H2:=(Same.up hp).trans s2
   match i,hi with
   | 0,hi =>
    cases hi
    refine⟨_,rfl,_,rfl,_,rfl,e.c,(2*e.w+7) % 8,rfl,by lia,λp1 H3 hp1 s3 f1=>?_⟩;refine⟨_,rfl,t,_,rfl,.inr ⟨kvs,kC (go e.c ((2*e.w+7) % 8)),p1,Rd.of ((sH.trans s3) _ _ ht),rfl,f1,rfl⟩,_,rfl,?_⟩;have hv:=hC (go e.c ((2*e.w+7) % 8));change (valV kvs (kC (go e.c ((2*e.w+7) % 8)))).isSome=_ at hv;rw[hv];refine ite2 (λhy=>?_) (λhn=>?_)
    .refine⟨_,rfl,?_⟩;have:=k H3 (sH.trans s3);unfold stepB at this;rw[if_pos hy]at this;exact this
    .exact⟨_,rfl,s2.trans s3,λ_=>by simpa using hn,λh=>absurd h (by decide)⟩
   | 1,hi =>
    cases hi
    refine⟨_,rfl,_,rfl,_,rfl,e.c,2*e.w,rfl,by lia,λp1 H3 hp1 s3 f1=>?_⟩;refine⟨_,rfl,t,_,rfl,.inr ⟨kvs,kC (go e.c (2*e.w)),p1,Rd.of ((sH.trans s3) _ _ ht),rfl,f1,rfl⟩,_,rfl,?_⟩;have hv:=hC (go e.c (2*e.w));change (valV kvs (kC (go e.c (2*e.w)))).isSome=_ at hv;rw[hv];have h1:=n1 (by decide);refine ite2 (λhy=>?_) (λhn=>?_)
    .refine⟨_,rfl,?_⟩;have:=k H3 (sH.trans s3);unfold stepB at this;rw[h1,if_neg (by decide),if_pos hy]at this;exact this
    .exact⟨_,rfl,s2.trans s3,λ_=>h1,λ_=>by simpa using hn⟩
   |i+2,hi=>simp at hi
  .rintro σ H2 ⟨o,rfl,s2,n1,n2⟩;have:=k H2 ((Same.up hp).trans s2);unfold stepB at this;rw[n1 (by simp),n2 (by simp),if_neg (by decide),if_neg (by decide)]at this;exact this
noncomputable def zed(K:W.Frag):Sp:=λvs H Q _=>∃(a:Addr) (e:Edge) (o:Option Nat),vs=[.ref a,sv o]/\SqT K H a (edgeT e)/\e.w<4/\(∀s,o=some s->s<8)/\∀(p:Addr) (H':Hp),H p=none->Same H H'->H' p=some (.tup (edgeT (edgeB e o)))->Q (.ref p) H'
theorem ze1 (g_gone:Fn P w K mg base 1 "gone" ["x", "y", "step"] zgN) (g_is_slant:Fn P w K mg base 1 "is_slant" ["step"] zdf)
  (d:Df K mg "edge_behind" zcj ["edge","step"]):FnOk P w K mg base CX0 2 d.f d.fd ["edge","step"] (zed K):=by
 refine d.F.ok zaZ (λvs H Q E h=>?_) (λcdv A outer s H vs Q E hr h=>?_)
 .obtain⟨a,e,o,rfl,_⟩:=h;rfl
 .obtain⟨a,e,o,rfl,hq,hw,ho,k⟩:=h
  refine⟨_,(zac (zbs (pv 0) (zaX (by rfl) (zag (nG 2 zaZ.nd) (zag (nG 3 zaZ.nd) (zag (nG 4 zaZ.nd) zao)))))
   (zac (ps_if (zas zdn (pv 1) zaY (zaq _))
   (zaf (zai (zap (pa_N (pv 2) (pa_N (pv 3) (pa_B (pe_op za2 (pe_op zax (pv 4) zae) zae) zab))))))
   zat)
   (zac (zbs (pC g_gone hr (pa_N (pv 2) (pa_N (pv 3) (pa_N (pv 1) zab)))) (zaX (by rfl) (zag (nG 5 zaZ.nd) (zag (nG 6 zaZ.nd) zao))))
   (zac (ps_if (zcQ (pC g_is_slant hr (pa_N (pv 1) zab)))
   (zaf (zai (zap (pa_N (pv 5) (pa_N (pv 6) (pa_B (pe_op za2 (pe_op zax (pv 4) zae) zae) zab))))))
   zat)
   (zaf (zai (zap (pa_N (pv 5) (pa_N (pv 6) (pa_N (pv 4) zab)))))))))),?_⟩
  refine⟨_,rfl,a,_,rfl,hq,rfl,_,_,rfl,_,_,rfl,_,_,rfl,rfl,?_⟩
  cases o with
  |none =>
   refine⟨_,rfl,rfl,true,rfl,iteT ?_⟩;refine⟨_,rfl,_,rfl,_,rfl,_,_,rfl,rfl,_,_,rfl,rfl,(by show (0:Int)<4;decide),three,λp hp=>k p _ hp (Same.up hp) ?_⟩;rw[zaa];have e1:((e.w:Int)+1) % 4=(((e.w+1) % 4:Nat):Int):=by lia
   show some (HO.tup [.int e.c.1,.int e.c.2,.int (((e.w:Int)+1) % 4)])=_;rw[e1];rfl
  |some n =>
   refine⟨_,rfl,rfl,false,rfl,iteF ?_⟩;refine⟨_,rfl,_,rfl,_,rfl,e.c,n,rfl,ho n rfl,λp1 H1 hp1 s1 f1=>?_⟩;refine⟨p1,_,rfl,SqT.of f1,rfl,_,_,rfl,_,_,rfl,rfl,?_⟩;refine⟨_,rfl,some n,rfl,_,rfl,?_⟩;refine ite2 (λhs=>?_) (λhs=>?_)
   .refine⟨_,rfl,_,rfl,_,rfl,_,_,rfl,rfl,_,_,rfl,rfl,(by show (0:Int)<4;decide),three,λp hp=>k p _ (s1.free hp) (s1.trans (Same.up hp)) ?_⟩;rw[zaa];have e1:((e.w:Int)+3) % 4=(((e.w+3) % 4:Nat):Int):=by lia
    have hn:n % 2=1:=by simpa[slant]using hs
    show some (HO.tup [.int (go e.c n).1,.int (go e.c n).2,.int (((e.w:Int)+3) % 4)])=_;rw[e1];unfold edgeB;simp only[if_pos hn];rfl
   .refine⟨_,rfl,_,rfl,_,rfl,three,λp hp=>k p _ (s1.free hp) (s1.trans (Same.up hp)) ?_⟩;rw[zaa];have hn:¬ n % 2=1:=by simpa[slant]using hs
    unfold edgeB;simp only[if_neg hn];rfl
noncomputable def KT(H H':Hp):Prop:=∀b xs,H b=some (.tup xs)->H' b=some (.tup xs)
theorem KT.refl(H:Hp):KT H H:=λ_ _ h=>h
theorem KT.trans{H H1 H2:Hp}(a:KT H H1)(b:KT H1 H2):KT H H2:=λc o h=>b c o (a c o h)
theorem KT.of{H H':Hp}(s:Same H H'):KT H H':=λb xs e=>s b _ e
theorem KT.up{H:Hp}{p:Addr}{o:HO}(h:H p=none):KT H (upd H p o):=KT.of (Same.up h)
theorem KT.lst{H:Hp}{p:Addr}{xs:List V}{o:HO}(h:H p=some (.lst xs)):KT H (upd H p o):=λb ys e=>by rw[zaj (ne_of e h (λz=>nomatch z))];exact e
theorem KT.dct{H:Hp}{p:Addr}{xs:List (List Key×V)}{o:HO}(h:H p=some (.dT xs)):KT H (upd H p o):=λb ys e=>by rw[zaj (ne_of e h (λz=>nomatch z))];exact e
theorem cR.kt{c:Cell}{v:V}{H H':Hp}(h:cR c v H)(s:KT H H'):cR c v H':=let ⟨b,e,q⟩:=h;⟨b,e,s _ _ q⟩
theorem eR.kt{c:Edge}{v:V}{H H':Hp}(h:eR c v H)(s:KT H H'):eR c v H':=let ⟨b,e,q⟩:=h;⟨b,e,s _ _ q⟩
theorem wR.kt{c:Edge×Option Nat}{v:V}{H H':Hp}(h:wR c v H)(s:KT H H'):wR c v H':=let ⟨A,b,e,q,r⟩:=h;⟨A,b,e,s _ _ q,s _ _ r⟩
noncomputable def VR{α:Type}(vs:List V)(l:List α)(R:α->V->Hp->Prop)(H:Hp):Prop:=vs.length=l.length/\∀(i:Nat) x v,l[i]?=some x->vs[i]?=some v->R x v H
theorem VR.nil{α:Type}{R:α->V->Hp->Prop}{H:Hp}:VR [] ([]:List α) R H:=⟨rfl,λi x v h=>by simp at h⟩
theorem VR.snoc{α:Type}{vs:List V}{l:List α}{R:α->V->Hp->Prop}{H H':Hp}{x:α}{v:V}(h:VR vs l R H)(m:∀x v,R x v H->R x v H')(hx:R x v H'):VR (vs++[v]) (l++[x]) R H':=by
 refine⟨by simp[h.1],λi y u h1 h2=>?_⟩;rcases AL i l.length with hi |hi
 .rw[As hi]at h1;rw[As (by rw[h.1];exact hi)]at h2;exact m _ _ (h.2 i y u h1 h2)
 .rw[AF hi]at h1;rw[AF (by rw[h.1];exact hi)]at h2
  have hz:i-l.length=0:=by have:=(Ac.mp h1).1;simp at this;lia
  rw[hz]at h1;rw[h.1,hz]at h2
  cases h1;cases h2
  exact hx
theorem VR.mono{α:Type}{vs:List V}{l:List α}{R:α->V->Hp->Prop}{H H':Hp}(h:VR vs l R H)(m:∀x v,R x v H->R x v H'):VR vs l R H':=⟨h.1,λi x v h1 h2=>m _ _ (h.2 i x v h1 h2)⟩
theorem VR.at{α:Type}{vs:List V}{l:List α}{R:α->V->Hp->Prop}{H:Hp}(h:VR vs l R H){i:Nat}{v:V}(hv:vs[i]?=some v):∃x,l[i]?=some x/\R x v H:=by
 have hi:i<l.length:=by rw[<- h.1];exact (Ac.mp hv).1
 exact⟨l[i],Aa hi,h.2 i _ v (Aa hi) hv⟩
theorem zam{H H2:Hp}{p:Addr}{o:HO}(hp:H p=none)(s:Same H H2):Same H (upd H2 p o):=λz u e=>by rw[zaj (zan e hp)];exact s z u e
theorem zjw(cs:List Cell)(c:Cell):sides (cs++[c])=sides cs++(Ba 4).map λw=>⟨c,w⟩:=by unfold sides;simp[List.flatMap_append]
theorem zau{α:Type}{l:List α}{i:Nat}{x:α}(h:l[i]?=some x):l.take (i+1)=l.take i++[x]:=by rw[C8,h];rfl
theorem zeE{α:Type}(p:α->Bool)(l:List α)(x:α):(l++[x]).filter p=l.filter p++(if p x=true then [x] else []):=by rw[List.filter_append];congr 1;simp[List.filter_cons]
noncomputable def zmu(K:W.Frag):Sp:=λvs H Q _=>∃(a:Addr) (cs:List Cell),vs=[.ref a]/\LR K H a cs cR/\cs.length<=60/\∀p H' es,H p=none->Same H H'->H' p=some (.lst es)->VR es (allE cs) eR H'->Q (.ref p) H'
theorem zha (T:Txt P w K mg) (g_cell_table:Fn P w K mg base 1 "cell_table" ["picture"] (zhJ K)) (g_gap_beside:Fn P w K mg base 2 "gap_beside" ["edge"] (spGap K))
  (d:Df K mg "all_edges" zbJ ["picture"]):FnOk P w K mg base CX0 3 d.f d.fd ["picture"] (zmu K):=by
 refine d.F.ok zct (λvs H Q E h=>?_) (λcdv A outer s H vs Q E hr h=>?_)
 .obtain⟨a,cs,rfl,_⟩:=h;rfl
 .obtain⟨a,cs,rfl,hLR,hlen,k⟩:=h;obtain⟨ws,hq,hn,hc⟩:=id hLR;have hu1:=hu_of hr;have nb0:(["x","y","way"]:List Str).Nodup:=by decide +kernel
  have nb1:(["edge","table"]:List Str).Nodup:=by decide +kernel
  refine⟨_,(zac (zft (i:=1) zct.nd (by rfl) (Or.inr rfl) (pC g_cell_table hr (pa_N (pv 0) zab)))
   (zac (zkC (i:=2) (osc:=zad zbJ) (N:=zc9) (N':=["x","y","way"]) (sel:=[none,none,none]) bO zct.nd (by rfl) (Or.inl rfl) (zay (pv 0)) (λ_ _ _ _ _=>(zbp (K:=K) (n:=2) (by rfl) (zag (nG 0 nb0) (zag (nG 1 nb0) zao)))) (λ_ _ _ _ _=>zaU) (λ_ _ _ _ _=>(zb8 (by rfl) T.nrange (pa_C zae zab))) (λ_ _ _ _ _=>(nG 2 nb0)) (λ_ _ _ _ _=>zaU) (λ_ _ _ _ _=>(zap (pa_N (pv 0) (pa_N (pv 1) (pa_N (pv 2) zab))))) (λ_ _ _=>rfl))
   (zaf (zai (zaN (osc:=zad zbJ) (N:=zc9) (N':=["edge","table"]) (sel:=[none,some 1]) bO (zay (pv 2)) (λ_ _ _ _ _=>(nG 0 nb1)) (λ_ _ _ _ _=>zdB (zep (zcD hu1 (pC g_gap_beside hr (pa_N (pv 0) zab)) (pv 1)))) (λ_ _ _ _ _=>(pv 0))))))),?_⟩
  refine⟨_,rfl,a,cs,rfl,hLR,by lia,λt H1 ht s1 tab=>?_⟩;obtain⟨kvs,et,hC⟩:=tab;refine⟨_,rfl,a,rfl,⟨_,s1.seq hq⟩,λp hp=>?_⟩
  refine zar (K:=K) (a:=a) (xs:=ws) (λi σ H2=>∃o1 o2 o3,σ=[o1,o2,o3]/\Same H1 H2/\∃es,H2 p=some (.lst es)/\VR es (sides (cs.take i)) eR H2)
   ⟨_,_,_,rfl,Same.up hp,[],zaa,VR.nil⟩ (λi σ H2 _ ⟨_,_,_,_,s2,_⟩=>(s1.trans s2).seq hq) ?_ ?_
  .rintro i v σ H2 hi ⟨o1,o2,o3,rfl,s2,es,e2,hv⟩;have hil:i<ws.length:=(Ac.mp hi).1;have ci:cs[i]?=some cs[i]:=Aa (by lia)
   obtain⟨b,rfl,qb⟩:=hc i _ _ ci hi;refine⟨b,_,rfl,SqT.of ((s1.trans s2) _ _ qb),rfl,_,_,rfl,_,_,rfl,rfl,?_⟩;refine zbu ?_
   refine⟨4,rfl,by decide,by decide,?_⟩
   refine zbq (lo:=0) (n:=4) (λj σ H3=>∃o,σ=[some (.int cs[i].1),some (.int cs[i].2),o]/\Same H1 H3/\∃es,H3 p=some (.lst es)/\VR es (sides (cs.take i)++(Ba j).map λw=>⟨cs[i],w⟩) eR H3)
    ⟨_,rfl,s2,es,e2,by simpa using hv⟩ ?_ ?_
   .rintro j σ H3 hj ⟨o,rfl,s3,es3,e3,hv3⟩
    have hl3:es3.length<=1000:=by rw[hv3.1,An,zbx,AB,Ai,C3];lia
    refine gN ?_
    refine⟨_,rfl,_,rfl,_,rfl,three,λq hq'=>⟨es3,?_,zal hl3,_,rfl,zam hp (s3.trans (Same.up hq')),_,zaa,?_⟩⟩
    .rw[zaj (zan e3 hq')];exact e3
    .rw[List.range_succ,AN,<- CZ];have hpq:p≠q:=zan e3 hq';have k2:KT (upd H3 q (.tup [.int cs[i].1,.int cs[i].2,.int (0+(j:Int))])) (upd (upd H3 q (.tup [.int cs[i].1,.int cs[i].2,.int (0+(j:Int))])) p (.lst (es3++[.ref q]))):=KT.lst (xs:=es3) (by rw[zaj hpq];exact e3);refine hv3.snoc (λx v hx=>hx.kt ((KT.up hq').trans k2)) ⟨q,rfl,k2 _ _ ?_⟩;rw[zaa];show some (HO.tup [.int cs[i].1,.int cs[i].2,.int (0+(j:Int))])=some (HO.tup [.int cs[i].1,.int cs[i].2,.int (j:Int)]);rw[Int.zero_add]
   .rintro σ H3 ⟨o,rfl,s3,es3,e3,hv3⟩;exact⟨_,_,_,rfl,s3,es3,e3,by rw[zau ci,zjw];exact hv3⟩
  .rintro σ H2 ⟨o1,o2,o3,rfl,s2,es,e2,hv⟩;rw[hn,AG]at hv;have hles:es.length<=1000:=by rw[hv.1,zbx];lia
   refine⟨_,rfl,p,rfl,⟨_,SqL.of e2⟩,λp2 hp2=>?_⟩
   refine zar (K:=K) (a:=p) (xs:=es) (λi σ H3=>∃o,σ=[o,some (.ref t)]/\Same H2 H3/\∃es3,H3 p2=some (.lst es3)/\VR es3 (((sides cs).take i).filter λe=>!isIn cs (gap e)) eR H3)
    ⟨_,rfl,Same.up hp2,[],zaa,VR.nil⟩ (λi σ H3 _ ⟨_,_,s3,_⟩=>s3.seq (SqL.of e2)) ?_ ?_
   .rintro i v σ H3 hi ⟨o,rfl,s3,es3,e3,hv3⟩;obtain⟨e,he,b,rfl,qb⟩:=hv.at hi;have hw4:e.w<4:=(zdo.mp (Af he)).2
    have hl3:es3.length<=1000:=by have h1:=BK (λe=>!isIn cs (gap e)) ((sides cs).take i);rw[hv3.1];rw[AB,zbx]at h1;lia
    refine⟨_,rfl,b,e,rfl,SqT.of (s3 _ _ qb),hw4,λp3 H4 hp3 s4 f4=>?_⟩;refine⟨_,rfl,t,_,rfl,.inr ⟨kvs,kC (gap e),p3,Rd.of ((s2.trans (s3.trans s4)) _ _ et),rfl,f4,rfl⟩,_,rfl,?_⟩;have hcv:=hC (gap e);change (valV kvs (kC (gap e))).isSome=_ at hcv;rw[hcv,zau he,zeE];refine ite2 (λhy=>?_) (λhn'=>?_)
    .refine⟨_,rfl,es3,s4 _ _ e3,zal hl3,_,rfl,zam hp2 (s3.trans s4),_,zaa,?_⟩;rw[if_pos hy];have k2:KT H4 (upd H4 p2 (.lst (es3++[.ref b]))):=KT.lst (s4 _ _ e3);exact hv3.snoc (λx v hx=>hx.kt ((KT.of s4).trans k2)) ⟨b,rfl,k2 _ _ ((s3.trans s4) _ _ qb)⟩
    .refine⟨_,rfl,s3.trans s4,es3,s4 _ _ e3,?_⟩;rw[if_neg hn',BL];exact hv3.mono λx v hx=>hx.kt (KT.of s4)
   .rintro σ H3 ⟨o,rfl,s3,es3,e3,hv3⟩;rw[hv.1,AG]at hv3;exact k p2 H3 es3 (s1.free (s2.free hp2)) (s1.trans (s2.trans s3)) e3 hv3
noncomputable def eI(e:Edge):List Int:=[e.c.1,e.c.2,(e.w:Int)]
theorem zjb{e f:Edge}:eI e=eI f ↔ e=f:=by
 constructor
 .intro h;obtain⟨⟨x,y⟩,w⟩:=e;obtain⟨⟨x',y'⟩,w'⟩:=f;unfold eI at h;injection h with h1 h2;injection h2 with h2 h3;injection h3 with h3 _;simp only at h1 h2 h3;have:w=w':=by lia
  subst h1 h2 this;rfl
 .rintro rfl;rfl
theorem zcB{K:W.Frag}{H:Hp}{b:Addr}{e:Edge}(h:H b=some (.tup (edgeT e))):RD K H (.ref b) (tI (eI e)):=.tup (SqT.of h) (RDs.ints (eI e))
theorem zcH{C:Cell->Bool}{e:Edge}(hw:e.w<4):∀s,stepB C e=some s->s<8:=by
 intro s h;unfold stepB at h;split at h
 .cases h;lia
 .split at h
  .cases h;lia
  .cases h
noncomputable def wk(C:Cell->Bool)(es:List Edge):List (Edge×Option Nat):=es.map λe=>(e,stepB C e)
theorem zmQ(C:Cell->Bool)(es:List Edge)(e:Edge):wk C (es++[e])=wk C es++[(e,stepB C e)]:=by unfold wk;simp
theorem zaK(C:Cell->Bool)(es:List Edge):(wk C es).length=es.length:=by unfold wk;simp
noncomputable def zkW:Option HO->Nat
 |some (.lst ws)=>ws.length
 |_=>0
noncomputable def zmm(K:W.Frag):Sp:=λvs H Q _=>∃(t a:Addr) (cs:List Cell) (b:Edge),vs=[.ref t,.ref a]/\Tab H t (isIn cs)/\H a=some (.tup (edgeT b))/\IsE (isIn cs) b/\cs.length<=60 /\
 ∀p H' ws es,H p=none->Same H H'->H' p=some (.lst ws)->VR ws (wk (isIn cs) es) wR H'->Closed (isIn cs) b es->Q (.ref p) H'
theorem zg6 (g_step_behind:Fn P w K mg base 2 "step_behind" ["table", "edge"] (zkb K)) (g_edge_behind:Fn P w K mg base 2 "edge_behind" ["edge", "step"] (zed K))
  (d:Df K mg "walk_from" zcW ["table","begin"]):FnOk P w K mg base CX0 3 d.f d.fd ["table","begin"] (zmm K):=by
 refine d.F.ok zbj (λvs H Q E h=>?_) (λcdv A outer s H vs Q E hr h=>?_)
 .obtain⟨t,a,cs,b,rfl,_⟩:=h;rfl
 .obtain⟨t,a,cs,b,rfl,tab,ha,hb,hlen,k⟩:=h;have hu64:=hr.units
  refine⟨_,(zac (sE 2 zbj.nd (pC g_step_behind hr (pa_N (pv 0) (pa_N (pv 1) zab))))
   (zac (sE 3 zbj.nd (zba (pa_T (zap (pa_N (pv 1) (pa_N (pv 2) zab))) zab)))
   (zac (sE 4 zbj.nd (pC g_edge_behind hr (pa_N (pv 1) (pa_N (pv 2) zab))))
   (zac (ziM AO (zas (zkJ hu64) (pv 4) (pv 1) (zaq _))
   (zac (sE 2 zbj.nd (pC g_step_behind hr (pa_N (pv 0) (pa_N (pv 4) zab))))
   (zac (zbN (pe_bm A0 Be Bg zbb (pv 3) (pa_T (zap (pa_N (pv 4) (pa_N (pv 2) zab))) zab)))
   (zaf (sE 4 zbj.nd (pC g_edge_behind hr (pa_N (pv 4) (pa_N (pv 2) zab))))))))
   (zaf (zai (pv 3))))))),?_⟩
  refine⟨_,rfl,_,rfl,t,a,isIn cs,b,rfl,tab,SqT.of ha,hb.1,λH1 s1=>?_⟩;refine⟨_,rfl,_,rfl,two,λq hq=>⟨(by show 1<=sizeLine;decide),λp hp=>?_⟩⟩;have hpq:p≠q:=λz=>by subst z;rw[zaa]at hp;cases hp
  have hp1:H1 p=none:=by rw[zaj hpq]at hp;exact hp
  have s2:Same H1 (upd (upd H1 q (.tup [.ref a,sv (stepB (isIn cs) b)])) p (.lst [.ref q])):=zam hp1 (Same.up hq);refine⟨_,rfl,_,rfl,a,b,stepB (isIn cs) b,rfl,SqT.of (s2 _ _ (s1 _ _ ha)),hb.1,zcH hb.1,λr H3 hr3 s3 f3=>?_⟩;have s03:Same H H3:=s1.trans (s2.trans s3);have hp0:H p=none:=s1.free hp1
  refine zlC (λσ H4=>∃ws es l o re,σ=[some (.ref t),some (.ref a),some o,some (.ref p),some (.ref re)]/\Same H H4/\H4 p=some (.lst ws)/\VR ws (wk (isIn cs) (es++[l])) wR H4/\Chain (isIn cs) b (es++[l])/\H4 re=some (.tup (edgeT (nxt (isIn cs) l))))
   (λ_ H4=>4*cs.length+1-zkW (H4 p)) ?_ ?_ ?_
  .refine⟨[.ref q],[],b,_,r,rfl,s03,s3 _ _ zaa,⟨rfl,λi x v h1 h2=>?_⟩,Chain.start hb,f3⟩
   match i,h1,h2 with
   | 0,h1,h2 =>
    cases h1;cases h2
    refine⟨q,a,rfl,s3 _ _ ?_,s03 _ _ ha⟩;rw[zaj (Bu hpq),zaa]
   |i+1,h1,h2=>simp at h2
  .rintro σ H4 ⟨ws,es,l,o,re,rfl,s4,e4,hv,hch,er⟩;have hw4:(nxt (isIn cs) l).w<4:=(zdN (hch.2.2.1 l (by simp))).1;refine⟨_,rfl,_,rfl,_,_,zcB er,zcB (s4 _ _ ha),za6 _,za6 _,_,rfl,?_⟩;rw[zeF]
   by_cases hne:nxt (isIn cs) l=b
   .rw[decide_eq_true (zjb.mpr hne)];refine iteF ?_
    refine⟨_,rfl,k p H4 ws (es++[l]) hp0 s4 e4 hv ⟨hch,l,?_,hne⟩⟩;simp
   .rw[decide_eq_false (λz=>hne (zjb.mp z))];refine iteT ?_
    have hch2:=hch.more hne;have hsh:=hch2.short;have hl4:ws.length=(es++[l]).length:=by rw[hv.1,zaK]
    have hl5:ws.length+1<=4*cs.length:=by rw[hl4];rw[An,A9]at hsh;exact hsh
    refine⟨_,rfl,_,rfl,t,re,isIn cs,nxt (isIn cs) l,rfl,tab.same s4,SqT.of er,hw4,λH5 s5=>?_⟩;refine⟨_,rfl,.inl ⟨rfl,_,SqL.of (s5 _ _ e4)⟩,_,rfl,_,rfl,two,λq5 hq5=>?_⟩;have e5:=s5 _ _ e4;have hp5:p≠q5:=zan e5 hq5;refine⟨p,ws,_,rfl,rfl,(by rw[zaj hp5];exact e5),zal (by lia),?_⟩;have k5:KT H5 (upd (upd H5 q5 (.tup [.ref re,sv (stepB (isIn cs) (nxt (isIn cs) l))])) p (.lst (ws++[.ref q5]))):=(KT.up hq5).trans (KT.lst (xs:=ws) (by rw[zaj hp5];exact e5));have e6:upd (upd H5 q5 (.tup [.ref re,sv (stepB (isIn cs) (nxt (isIn cs) l))])) p (.lst (ws++[.ref q5])) re=some (.tup (edgeT (nxt (isIn cs) l))):=k5 _ _ (s5 _ _ er);have s6:Same H (upd (upd H5 q5 (.tup [.ref re,sv (stepB (isIn cs) (nxt (isIn cs) l))])) p (.lst (ws++[.ref q5]))):=zam hp0 ((s4.trans s5).trans (Same.up hq5));refine⟨_,rfl,_,rfl,re,nxt (isIn cs) l,_,rfl,SqT.of e6,hw4,zcH hw4,λr7 H7 hr7 s7 f7=>?_⟩;have e7:=s7 _ _ zaa;refine⟨⟨ws++[.ref q5],es++[l],nxt (isIn cs) l,_,r7,rfl,s6.trans s7,e7,?_,hch2,f7⟩,?_⟩
    .rw[zmQ];refine hv.snoc (λx v hx=>hx.kt ((KT.of s5).trans (k5.trans (KT.of s7)))) ⟨q5,re,rfl,s7 _ _ ?_,s7 _ _ e6⟩;rw[zaj (Bu hp5),zaa]
    .show 4*cs.length+1-zkW (H7 p)<4*cs.length+1-zkW (H4 p);rw[e7,e4];show 4*cs.length+1-(ws++[V.ref q5]).length<4*cs.length+1-ws.length;rw[An,A9];lia
  .rintro σ H4 Q1 Q2 hQ ⟨v,h1,v2,h2,dd,ee,r1,r2,x1,x2,kk,h3,q⟩;exact⟨v,h1,v2,h2,dd,ee,r1,r2,x1,x2,kk,h3,hQ _ _ q⟩
noncomputable abbrev Wk:=List (Edge×Option Nat)
noncomputable def nL(W:Wk):Nat:=(W.filter λq=>q.2.isNone).length
noncomputable def nS(W:Wk):Nat:=(W.filter λq=>slant q.2).length
theorem zmk(o:Option Nat):decide (sv o=V.non)=o.isNone:=by cases o <;> simp[sv]
theorem zc6{α:Type}{p:α->Bool}{l:List α}{i:Nat}{x:α}(h:l[i]?=some x):((l.take (i+1)).filter p)=(l.take i).filter p++(if p x=true then [x] else []):=by rw[zau h,zeE]
theorem LR.vr{α:Type}{K:W.Frag}{H:Hp}{a:Addr}{l:List α}{R:α->V->Hp->Prop}(h:LR K H a l R):∃vs,SqL K H a vs/\VR vs l R H:=let ⟨vs,q,n,r⟩:=h;⟨vs,q,n,r⟩
theorem LR.of{α:Type}{K:W.Frag}{H:Hp}{a:Addr}{vs:List V}{l:List α}{R:α->V->Hp->Prop}(e:H a=some (.lst vs))(h:VR vs l R H):LR K H a l R:=⟨vs,SqL.of e,h.1,h.2⟩
noncomputable def zki(K:W.Frag):Sp:=λvs H Q _=>∃(a:Addr) (W:Wk),vs=[.ref a]/\LR K H a W wR/\W.length<=500/\∀p H',H p=none->Same H H'->H' p=some (.tup [.int (nL W),.int (nS W)])->Q (.ref p) H'
theorem zc3 (T:Txt P w K mg) (g_is_slant:Fn P w K mg base 1 "is_slant" ["step"] zdf) (d:Df K mg "lefts_and_slants" zaL ["walk"]):FnOk P w K mg base CX0 2 d.f d.fd ["walk"] (zki K):=by
 refine d.F.ok zbc (λvs H Q E h=>?_) (λcdv A outer s H vs Q E hr h=>?_)
 .obtain⟨a,W,rfl,_⟩:=h;rfl
 .obtain⟨a,W,rfl,hLR,hlen,k⟩:=h;obtain⟨ws,hq,hv⟩:=hLR.vr;have nb0:(["edge","step"]:List Str).Nodup:=by decide +kernel
  have nb1:(["edge","step"]:List Str).Nodup:=by decide +kernel
  refine⟨_,(zac (sE 1 zbc.nd (zav zaF (by rfl) T.nlen (by rfl) (zah (zaN (osc:=zad zaL) (N:=zbr) (N':=["edge","step"]) (sel:=[none,none]) bO (zay (pv 0)) (λ_ _ _ _ _=>(zbp (K:=K) (n:=2) (by rfl) (zag (nG 0 nb0) (zag (nG 1 nb0) zao)))) (λ_ _ _ _ _=>zdB (zas zdn (pv 1) zaY (zaq _))) (λ_ _ _ _ _=>(pv 1))) zab)))
   (zac (sE 2 zbc.nd (zav zaF (by rfl) T.nlen (by rfl) (zah (zaN (osc:=zad zaL) (N:=zbr) (N':=["edge","step"]) (sel:=[none,none]) bO (zay (pv 0)) (λ_ _ _ _ _=>(zbp (K:=K) (n:=2) (by rfl) (zag (nG 0 nb1) (zag (nG 1 nb1) zao)))) (λ_ _ _ _ _=>zdB (zcQ (pC g_is_slant hr (pa_N (pv 1) zab)))) (λ_ _ _ _ _=>(pv 1))) zab)))
   (zaf (zai (zap (pa_N (pv 1) (pa_N (pv 2) zab))))))),?_⟩
  refine⟨_,rfl,a,rfl,⟨_,hq⟩,λp hp=>?_⟩
  refine zar (K:=K) (a:=a) (xs:=ws) (λi σ H2=>∃o1 o2,σ=[o1,o2]/\Same H H2/\∃ss:List V,H2 p=some (.lst ss)/\ss.length=((W.take i).filter λq=>q.2.isNone).length)
   ⟨_,_,rfl,Same.up hp,[],zaa,rfl⟩ (λi σ H2 _ ⟨_,_,_,s2,_⟩=>s2.seq hq) ?_ ?_
  .rintro i v σ H2 hi ⟨o1,o2,rfl,s2,ss,e2,hl⟩;obtain⟨⟨e,st⟩,he,B,b,rfl,q1,q2⟩:=hv.at hi
   have hl2:ss.length<=1000:=by have:=BK (λq:Edge×Option Nat=>q.2.isNone) (W.take i);rw[AB]at this;lia
   refine⟨B,_,rfl,SqT.of (s2 _ _ q1),rfl,_,_,rfl,_,_,rfl,rfl,?_⟩;refine⟨_,rfl,rfl,_,rfl,?_⟩;rw[zmk];rw[zc6 he]at *;refine ite2 (λhy=>?_) (λhn=>?_)
   .refine⟨_,rfl,ss,e2,zal hl2,_,_,rfl,zam hp s2,_,zaa,?_⟩;rw[if_pos hy,An,An,hl];rfl
   .exact⟨_,_,rfl,s2,ss,e2,by rw[if_neg hn,BL];exact hl⟩
  .rintro σ H2 ⟨o1,o2,rfl,s2,ss,e2,hl⟩;refine⟨p,_,rfl,.inl (SqL.of e2),?_⟩;refine⟨_,rfl,a,rfl,⟨_,s2.seq hq⟩,λp2 hp2=>?_⟩
   refine zar (K:=K) (a:=a) (xs:=ws) (λi σ H3=>∃o1 o2,σ=[o1,o2]/\Same H2 H3/\∃s3:List V,H3 p2=some (.lst s3)/\s3.length=((W.take i).filter λq=>slant q.2).length)
    ⟨_,_,rfl,Same.up hp2,[],zaa,rfl⟩ (λi σ H3 _ ⟨_,_,_,s3,_⟩=>(s2.trans s3).seq hq) ?_ ?_
   .rintro i v σ H3 hi ⟨o1,o2,rfl,s3,ss3,e3,hl3⟩;obtain⟨⟨e,st⟩,he,B,b,rfl,q1,q2⟩:=hv.at hi
    have hl2:ss3.length<=1000:=by have:=BK (λq:Edge×Option Nat=>slant q.2) (W.take i);rw[AB]at this;lia
    refine⟨B,_,rfl,SqT.of ((s2.trans s3) _ _ q1),rfl,_,_,rfl,_,_,rfl,rfl,?_⟩;refine⟨_,rfl,st,rfl,_,rfl,?_⟩;rw[zc6 he]at *;refine ite2 (λhy=>?_) (λhn=>?_)
    .refine⟨_,rfl,ss3,e3,zal hl2,_,_,rfl,zam hp2 s3,_,zaa,?_⟩;rw[if_pos hy,An,An,hl3];rfl
    .exact⟨_,_,rfl,s3,ss3,e3,by rw[if_neg hn,BL];exact hl3⟩
   .rintro σ H3 ⟨o1,o2,rfl,s3,ss3,e3,hl3⟩;refine⟨p2,_,rfl,.inl (SqL.of e3),?_⟩;refine⟨_,rfl,_,rfl,two,λp4 hp4=>k p4 _ (s2.free (s3.free hp4)) ((s2.trans s3).trans (Same.up hp4)) ?_⟩;rw[hv.1,AG]at hl hl3;rw[zaa,hl,hl3];rfl
noncomputable def zkh(K:W.Frag):Sp:=λvs H Q _=>∃(a:Addr) (W:Wk),vs=[.ref a]/\LR K H a W wR/\W.length<=500/\∀H',Same H H'->Q (.int ((nL W:Int)-nS W)) H'
theorem zcN (g_lefts_and_slants:Fn P w K mg base 2 "lefts_and_slants" ["walk"] (zki K)) (d:Df K mg "lefts_less_slants" zbe ["walk"]):FnOk P w K mg base CX0 3 d.f d.fd ["walk"] (zkh K):=by
 refine d.F.ok za5 (λvs H Q E h=>?_) (λcdv A outer s H vs Q E hr h=>?_)
 .obtain⟨a,W,rfl,_⟩:=h;rfl
 .obtain⟨a,W,rfl,hLR,hlen,k⟩:=h
  refine⟨_,(zac (zbs (pC g_lefts_and_slants hr (pa_N (pv 0) zab)) (zaX (by rfl) (zag (nG 1 za5.nd) (zag (nG 2 za5.nd) zao))))
   (zaf (zai (pe_op zaP (pv 1) (pv 2))))),?_⟩
  refine⟨_,rfl,a,W,rfl,hLR,hlen,λp H1 hp s1 f1=>?_⟩;refine⟨p,_,rfl,SqT.of f1,rfl,_,_,rfl,_,_,rfl,rfl,?_⟩;exact⟨_,rfl,_,rfl,_,_,rfl,rfl,k H1 s1⟩
noncomputable def sortS (W:Wk):Str:=if nS W<nL W then "rim" else "hole"
noncomputable def zmo(K:W.Frag):Sp:=λvs H Q _=>∃(a:Addr) (W:Wk),vs=[.ref a]/\LR K H a W wR/\W.length<=500/\∀H',Same H H'->Q (.str (sortS W)) H'
theorem zjE (g_lefts_less_slants:Fn P w K mg base 3 "lefts_less_slants" ["walk"] (zkh K)) (d:Df K mg "sort_of" zen ["walk"]):FnOk P w K mg base CX0 4 d.f d.fd ["walk"] (zmo K):=by
 refine d.F.ok zjz (λvs H Q E h=>?_) (λcdv A outer s H vs Q E hr h=>?_)
 .obtain⟨a,W,rfl,_⟩:=h;rfl
 .obtain⟨a,W,rfl,hLR,hlen,k⟩:=h;refine⟨_,(zaf (zai (zcn (zas op_gt (pC g_lefts_less_slants hr (pa_N (pv 0) zab)) zae (zaq _)) ziO ziO))),?_⟩;refine⟨_,rfl,a,W,rfl,hLR,hlen,λH1 s1=>?_⟩;refine⟨_,_,rfl,rfl,_,rfl,?_⟩;have h1:=k H1 s1;unfold sortS at h1
  by_cases hlt:nS W<nL W
  .rw[if_pos hlt]at h1;exact iteY (decide_eq_true (by lia)) h1
  .rw[if_neg hlt]at h1;exact iteN (decide_eq_false (by lia)) h1
noncomputable def kOf (s:Str):Nat:=if s = "rim" then 0 else 2
noncomputable def zcp(W:Wk)(s:Str)(e:Edge):Prop:=e∈W.map (·.1)/\e.w=kOf s/\∀f∈W.map (·.1),f.w=kOf s->HT.lexLt [f.c.2,f.c.1] [e.c.2,e.c.1]=false
noncomputable def zhL (K:W.Frag):Sp:=λvs H Q _=>∃(a:Addr) (W:Wk) (s:Str),vs=[.ref a,.str s]/\(s = "rim" ∨ s = "hole")/\LR K H a W wR/\W.length<=500/\(∃e∈W.map (·.1),e.w=kOf s) /\
 ∀b e H',Same H H'->H' b=some (.tup (edgeT e))->zcp W s e->Q (.ref b) H'
theorem zh7 (T:Txt P w K mg) (g_cell_order:Fn P w K mg base 1 "cell_order" ["cell"] (zcV K)) (d:Df K mg "begin_of" zcI ["walk","sort"]):FnOk P w K mg base CX0 3 d.f d.fd ["walk","sort"] (zhL K):=by
  refine d.F.ok zhP (λvs H Q E h=>?_) (λcdv A outer s H vs Q E hr h=>?_)
  . obtain⟨a,W,s,rfl,_⟩:=h;rfl
  . obtain⟨a,W,so,rfl,hso,hLR,hlen,hex,k⟩:=h;obtain⟨ws,hq,hv⟩:=hLR.vr;have nb0:(["edge","step","sort"]:List Str).Nodup:=by decide +kernel
    refine⟨_,(zaf (zai (zm3 g_cell_order.ok (hr.mono (by decide)) g_cell_order.b (by rfl) T.nmin (by rfl) g_cell_order.m (zaN (osc:=zad zcI) (N:=zfD) (N':=["edge","step","sort"]) (sel:=[none,none,some 1]) bO (zay (pv 0)) (λ_ _ _ _ _=>(zbp (K:=K) (n:=2) (by rfl) (zag (nG 0 nb0) (zag (nG 1 nb0) zao)))) (λ_ _ _ _ _=>zdB (zas op_eq (pe_ix (zc5 (K:=K)) (pv 0) zae (λ_ _=>rfl)) (zkH (by rfl) T.ways (pv 2)) (zaq _))) (λ_ _ _ _ _=>(pv 0)))))),?_⟩;refine⟨_,rfl,a,rfl,⟨_,hq⟩,λp hp=>?_⟩
    refine zar (K:=K) (a:=a) (xs:=ws) (λi σ H2=>∃o1 o2,σ=[o1,o2,some (.str so)]/\Same H H2/\∃es:List V,H2 p=some (.lst es)/\VR es (((W.take i).filter λq=>q.1.w == kOf so).map (·.1)) eR H2)
      ⟨_,_,rfl,Same.up hp,[],zaa,VR.nil⟩ (λi σ H2 _ ⟨_,_,_,s2,_⟩=>s2.seq hq) ?_ ?_
    . rintro i v σ H2 hi ⟨o1,o2,rfl,s2,es,e2,hl⟩;obtain⟨⟨e,st⟩,he,B,b,rfl,q1,q2⟩:=hv.at hi
      have hl2:es.length<=1000:=by have:=BK (λq:Edge×Option Nat=>q.1.w == kOf so) (W.take i);rw[hl.1,Ai];rw[AB]at this;lia
      have fin:∀kk:Int, kk=(kOf so:Int) -> (if decide (V.int (e.w:Int)=V.int kk)=true then zb5 p (tVar 0) { nx := λσ H2 => ∃o1 o2, σ = [o1, o2, some (V.str so)] /\ Same H H2 /\ ∃es, H2 p=some (.lst es) /\ VR es (List.map (λx => x.fst) (List.filter (λq => q.1.w == kOf so) (List.take (i + 1) W))) eR H2, rt := λ_ _ => False } [some (.ref b), some (sv st), some (.str so)] H2
          else (∃o1 o2,[some (.ref b),some (sv st),some (V.str so)]=[o1,o2,some (V.str so)]/\Same H H2/\∃es,H2 p=some (.lst es)/\VR es (List.map (λx=>x.fst) (List.filter (λq=>q.1.w == kOf so) (List.take (i+1) W))) eR H2)):=λkk hk=>by
        have hd:decide (V.int (e.w:Int)=V.int kk)=(e.w == kOf so):=by
          subst hk
          by_cases q:e.w=kOf so
          . rw[q];simp
          . rw[decide_eq_false (λz=>q (by injection z with z;lia))];simp[q]
        rw[hd,zc6 he];refine ite2 (λhy=>?_) (λhn=>?_)
        . refine⟨_,rfl,es,e2,zal hl2,_,_,rfl,zam hp s2,_,zaa,?_⟩;rw[if_pos hy,AN];have k2:KT H2 (upd H2 p (.lst (es++[.ref b]))):=KT.lst e2;exact hl.snoc (λx v hx=>hx.kt k2) ⟨b,rfl,k2 _ _ (s2 _ _ q2)⟩
        . exact⟨_,_,rfl,s2,es,e2,by rw[if_neg hn,BL];exact hl⟩
      refine⟨B,_,rfl,SqT.of (s2 _ _ q1),rfl,_,_,rfl,_,_,rfl,rfl,?_⟩;rcases hso with z |z
      . have f0:=fin 0 (by rw[z];rfl);exact⟨_,rfl,b,_,_,_,rfl,rfl,SqT.of (s2 _ _ q2),zak (j:=2) rfl,_,rfl,.inl ⟨by rw[z],rfl,_,rfl,f0⟩⟩
      . have f2:=fin 2 (by rw[z];rfl);exact⟨_,rfl,b,_,_,_,rfl,rfl,SqT.of (s2 _ _ q2),zak (j:=2) rfl,_,rfl,.inr ⟨by rw[z],rfl,_,rfl,f2⟩⟩
    . rintro σ H2 ⟨o1,o2,rfl,s2,es,e2,hl⟩;rw[hv.1,AG]at hl;obtain⟨L,hL⟩:∃L,L=((W.filter λq=>q.1.w == kOf so).map (·.1)):=⟨_,rfl⟩;rw[<- hL]at hl
      have memL:∀f,f∈L ↔ f∈W.map (·.1)/\f.w=kOf so:=λf=>by
        rw[hL];constructor
        . intro h;obtain⟨q,hq1,rfl⟩:=Aq.mp h;obtain⟨h1,h2⟩:=DF.mp hq1;exact⟨Aq.mpr ⟨q,h1,rfl⟩,by simpa using h2⟩
        . rintro⟨h1,h2⟩;obtain⟨q,hq1,rfl⟩:=Aq.mp h1;exact Aq.mpr ⟨q,List.mem_filter.mpr ⟨hq1,by simpa using h2⟩,rfl⟩
      have hpos:0<es.length:=by obtain⟨f,h1,h2⟩:=hex;rw[hl.1];exact List.length_pos_of_mem ((memL f).mpr ⟨h1,h2⟩)
      have kap:∀(i:Nat) e,L[i]?=some e->(λi=>(L[i]?.map λe:Edge=>[e.c.2,e.c.1]).getD []) i=[e.c.2,e.c.1]:=λi e h=>by simp only[h];rfl
      refine⟨p,es,λi=>(L[i]?.map λe:Edge=>[e.c.2,e.c.1]).getD [],rfl,SqL.of e2,hpos,λi x H3 hx s3=>?_,λi x H3 hx hle s3=>?_⟩
      . obtain⟨e,he,b,rfl,q⟩:=hl.at hx;refine⟨b,e.c.1,e.c.2,_,rfl,SqT.of (s3 _ _ q),λp4 H4 hp4 s4 f4=>⟨s4,p4,rfl,SqT.of ?_⟩⟩;rw[kap i e he];exact f4
      . obtain⟨e,he,b,rfl,q⟩:=hl.at hx;have hm:=(memL e).mp (Af he);refine k b e H3 (s2.trans s3) (s3 _ _ q) ⟨hm.1,hm.2,λf h1 h2=>?_⟩;obtain⟨j,hj,ej⟩:=AD ((memL f).mpr ⟨h1,h2⟩);have hj':L[j]?=some f:=by rw[Aa hj,ej]
        have:=(hle j (by rw[hl.1];exact hj)).1;rw[kap j f hj',kap i e he]at this;exact this
theorem zkr(n d j:Nat):HT.sIx n d (some (j:Int))=min j n:=by show (if (j:Int)<0 then ((j:Int)+(n:Int)).toNat else min (j:Int).toNat n)=min j n;rw[if_neg (by lia),C0]
theorem zjf(xs:List V){j:Nat}(h:j<=xs.length):cutV xs (some (j:Int)) none=xs.drop j:=by unfold cutV;rw[zkr,Nat.min_eq_left h];exact Co (by rw[BB];exact Aj _)
theorem zmM(xs:List V){j:Nat}(h:j<=xs.length):cutV xs none (some (j:Int))=xs.take j:=by unfold cutV;rw[zkr,Nat.min_eq_left h];rfl
theorem VR.rot{α:Type}{vs:List V}{l:List α}{R:α->V->Hp->Prop}{H:Hp}(h:VR vs l R H)(j:Nat):VR (vs.drop j++vs.take j) (l.drop j++l.take j) R H:=by
 refine⟨by simp[h.1],λi x v h1 h2=>?_⟩;have hd:(vs.drop j).length=(l.drop j).length:=by simp[h.1]
 rcases AL i (l.drop j).length with hi |hi
 .rw[As hi,Dz]at h1;rw[As (by lia),Dz]at h2;exact h.2 _ x v h1 h2
 .rw[AF hi]at h1;rw[AF (by lia),hd]at h2;rw[List.getElem?_take]at h1 h2;split at h1
  .rw[if_pos (by assumption)]at h2;exact h.2 _ x v h1 h2
  .cases h1
theorem zi9{α:Type} [DecidableEq α]{x:α}:∀{l:List α},x∈l->∃j:Nat,l[j]?=some x/\∀(m:Nat) y,m<j->l[m]?=some y->y≠x
 |[],h=>by cases h
 |a::l,h=>by
  by_cases e:a=x
  .exact⟨0,by rw[e];rfl,λm y hm=>absurd hm (Du _)⟩
  .obtain⟨j,h1,h2⟩:=zi9 ((Aw.mp h).resolve_left (Bu e));refine⟨j+1,by simpa using h1,λm y hm hy=>?_⟩
   match m,hm,hy with
   | 0,_,hy=>cases hy;exact e
   |m+1,hm,hy=>exact h2 m y (by lia) (by simpa using hy)
theorem zgY{K:W.Frag}{H:Hp}:∀{vs:List V}{l:List Edge},VR vs l eR H->RDs K H vs (l.map λe=>tI (eI e))
 |[],[],_=>.nil
 |[],_::_,h=>by have:=h.1;cases this
 |_::_,[],h=>by have:=h.1;cases this
 |v::vs,e::l,h=>by
  obtain⟨b,rfl,q⟩:=h.2 0 e v rfl rfl;exact .cons (zcB q) (zgY ⟨by simpa using h.1,λi x u h1 h2=>h.2 (i+1) x u (by simpa using h1) (by simpa using h2)⟩)
structure Rnd where
 so:Str
 x:Int
 y:Int
 row:List Nat
 deriving DecidableEq
noncomputable def rowV(row:List Nat):List V:=row.map λn:Nat=>V.int (n:Int)
noncomputable def rR(r:Rnd)(v:V)(H:Hp):Prop:=∃a b,v=.ref a/\H a=some (.tup [.str r.so,.int r.x,.int r.y,.ref b])/\H b=some (.tup (rowV r.row))
theorem rR.kt{r:Rnd}{v:V}{H H':Hp}(h:rR r v H)(s:KT H H'):rR r v H':=let ⟨a,b,e,q1,q2⟩:=h;⟨a,b,e,s _ _ q1,s _ _ q2⟩
noncomputable def IsRnd(W:Wk)(r:Rnd):Prop:=r.so=sortS W/\∃(j:Nat) (e:Edge),(W.map (·.1))[j]?=some e/\zcp W (sortS W) e/\r.x=e.c.1/\r.y=e.c.2/\r.row=(W.drop j++W.take j).filterMap (·.2)
theorem zdh (W:Wk):sortS W = "rim" ∨ sortS W = "hole":=by unfold sortS;split <;> simp
noncomputable def zdd(K:W.Frag):Sp:=λvs H Q _=>∃(a:Addr) (W:Wk),vs=[.ref a]/\LR K H a W wR/\W.length<=500/\(∃e∈W.map (·.1),e.w=0)/\(∃e∈W.map (·.1),e.w=2) /\
 ∀v H' r,Same H H'->rR r v H'->IsRnd W r->Q v H'
theorem zhW (T:Txt P w K mg) (g_sort_of:Fn P w K mg base 4 "sort_of" ["walk"] (zmo K)) (g_begin_of:Fn P w K mg base 3 "begin_of" ["walk", "sort"] (zhL K))
  (d:Df K mg "round_of" zbD ["walk"]):FnOk P w K mg base CX0 5 d.f d.fd ["walk"] (zdd K):=by
 refine d.F.ok zbF (λvs H Q E h=>?_) (λcdv A outer s H vs Q E hr h=>?_)
 .obtain⟨a,W,rfl,_⟩:=h;rfl
 .obtain⟨a,W,rfl,hLR,hlen,h0,h2,k⟩:=h;obtain⟨ws,hq,hv⟩:=hLR.vr;have hun:=hr.un;have hu65:(A.deeper (PyProof.Rows.envOfC (BV "round_of") (zad zbD) s.heap.objs.size d.f cdv)).units+65<cLine:=by lia
  have nb0:(["edge","step"]:List Str).Nodup:=by decide +kernel
  have nb1:(["edge","step"]:List Str).Nodup:=by decide +kernel
  refine⟨_,(zac (sE 1 zbF.nd (pC g_sort_of hr (pa_N (pv 0) zab)))
   (zac (sE 2 zbF.nd (pC g_begin_of hr (pa_N (pv 0) (pa_N (pv 1) zab))))
   (zac (sE 3 zbF.nd (pe_bm A0 PySem.F.slot_list_index PySem.F.type_list_index (zkS hu65) (zaN (osc:=zad zbD) (N:=zdK) (N':=["edge","step"]) (sel:=[none,none]) bO (zay (pv 0)) (λ_ _ _ _ _=>(zbp (K:=K) (n:=2) (by rfl) (zag (nG 0 nb0) (zag (nG 1 nb0) zao)))) (λ_ _ _ _ _=>zaU) (λ_ _ _ _ _=>(pv 0))) (pa_N (pv 2) zab)))
   (zac (sE 4 zbF.nd (zb9 zgs (by rfl) T.ntuple (by rfl) (zah (zaN (osc:=zad zbD) (N:=zdK) (N':=["edge","step"]) (sel:=[none,none]) bO (zay (pe_op zg4 (zcK zfQ (pv 0) (zdC (pv 3)) zdD) (zcK zfQ (pv 0) zdD (zdC (pv 3))))) (λ_ _ _ _ _=>(zbp (K:=K) (n:=2) (by rfl) (zag (nG 0 nb1) (zag (nG 1 nb1) zao)))) (λ_ _ _ _ _=>zdB (zas zeq (pv 1) zaY (zaq _))) (λ_ _ _ _ _=>(pv 1))) zab)))
   (zaf (zai (zap (pa_N (pv 1) (zah (pe_ix zaT (pv 2) zae (λ_ _=>rfl)) (zah (pe_ix zaT (pv 2) zae (λ_ _=>rfl)) (pa_N (pv 4) zab))))))))))),?_⟩
  refine⟨_,rfl,a,W,rfl,hLR,hlen,λH1 s1=>?_⟩
  have hex:∃e∈W.map (·.1),e.w=kOf (sortS W):=by
   rcases zdh W with z |z <;> rw[z]
   .exact h0
   .exact h2
  refine⟨_,rfl,_,rfl,a,W,sortS W,rfl,zdh W,hLR.same s1 (λx v hx=>hx.same s1),hlen,hex,λb e H2 s2 hb hbg=>?_⟩;have s12:=s1.trans s2;refine⟨_,rfl,a,rfl,⟨_,s12.seq hq⟩,λp hp=>?_⟩
  refine zar (K:=K) (a:=a) (xs:=ws) (λi σ H3=>∃o1 o2,σ=[o1,o2]/\Same H2 H3/\∃es:List V,H3 p=some (.lst es)/\VR es ((W.take i).map (·.1)) eR H3)
   ⟨_,_,rfl,Same.up hp,[],zaa,VR.nil⟩ (λi σ H3 _ ⟨_,_,_,s3,_⟩=>(s12.trans s3).seq hq) ?_ ?_
  .rintro i v σ H3 hi ⟨o1,o2,rfl,s3,es,e3,hl⟩;obtain⟨⟨f,st⟩,he,B,bb,rfl,q1,q2⟩:=hv.at hi;have hl2:es.length<=1000:=by rw[hl.1,Ai,AB];lia
   refine⟨B,_,rfl,SqT.of ((s12.trans s3) _ _ q1),rfl,_,_,rfl,_,_,rfl,rfl,?_⟩;refine zbu ?_
   refine⟨_,rfl,es,e3,zal hl2,_,_,rfl,zam hp s3,_,zaa,?_⟩;rw[zau he,AN];have k2:KT H3 (upd H3 p (.lst (es++[.ref bb]))):=KT.lst e3;exact hl.snoc (λx v hx=>hx.kt k2) ⟨bb,rfl,k2 _ _ ((s12.trans s3) _ _ q2)⟩
  .rintro σ H3 ⟨o1,o2,rfl,s3,es,e3,hl⟩;rw[hv.1,AG]at hl;obtain⟨j,hj,hjm⟩:=zi9 hbg.1;have hjl:j<W.length:=by have:=(Ac.mp hj).1;simpa using this
   have s13:=s12.trans s3;refine⟨.inl ⟨rfl,_,SqL.of e3⟩,_,rfl,p,es,_,_,_,j,_,rfl,rfl,SqL.of e3,zcB (s3 _ _ hb),zgY hl,za6 _,(λz hz=>by obtain⟨f,_,rfl⟩:=Aq.mp hz;exact za6 _),(by rw[Ak,hj];rfl),(by rw[zeF];exact decide_eq_true rfl),(λm z hm hz=>?_),?_⟩
   .rw[Ak]at hz;obtain⟨f,hf,rfl⟩:=AA.mp hz;rw[zeF];exact decide_eq_false (λq=>hjm m f hm hf (zjb.mp q))
   have hwl:j<=ws.length:=by rw[hv.1];lia
   refine⟨_,rfl,_,rfl,_,rfl,a,ws,rfl,s13.seq hq,λp4 hp4=>?_⟩;rw[zjf ws hwl];have s4:=Same.up (o:=.lst (ws.drop j)) hp4;refine⟨_,rfl,_,rfl,_,rfl,a,ws,rfl,(s13.trans s4).seq hq,λp5 hp5=>?_⟩;rw[zmM ws hwl];have s5:=Same.up (o:=.lst (ws.take j)) hp5;refine⟨p4,p5,_,_,rfl,rfl,s5 _ _ zaa,zaa,BU (zal (by simp[hv.1];lia)),λp6 hp6=>?_⟩;have s6:=Same.up (o:=.lst (ws.drop j++ws.take j)) hp6;have s16:=s13.trans (s4.trans (s5.trans s6));have e6:upd (upd (upd H3 p4 (.lst (ws.drop j))) p5 (.lst (ws.take j))) p6 (.lst (ws.drop j++ws.take j)) p6=some (.lst (ws.drop j++ws.take j)):=zaa;have b6:=(s4.trans (s5.trans s6)) _ _ (s3 _ _ hb);generalize upd (upd (upd H3 p4 (.lst (ws.drop j))) p5 (.lst (ws.take j))) p6 (.lst (ws.drop j++ws.take j))=H6 at s16 e6 b6 ⊢;have hv6:=hv.rot j;have hWl:(W.drop j++W.take j).length<=500:=by simp;lia
   generalize hW6:W.drop j++W.take j=W6 at hv6 hWl;generalize ws.drop j++ws.take j=ws6 at hv6 e6;refine⟨p6,rfl,⟨_,SqL.of e6⟩,λp7 hp7=>?_⟩
   refine zar (K:=K) (a:=p6) (xs:=ws6) (λi σ H7=>∃o1 o2,σ=[o1,o2]/\Same H6 H7/\H7 p7=some (.lst (rowV ((W6.take i).filterMap (·.2)))))
    ⟨_,_,rfl,Same.up hp7,zaa⟩ (λi σ H7 _ ⟨_,_,_,s7,_⟩=>s7.seq (SqL.of e6)) ?_ ?_
   .rintro i v σ H7 hi ⟨o1,o2,rfl,s7,e7⟩;obtain⟨⟨f,st⟩,he,B,bb,rfl,q1,q2⟩:=hv6.at hi
    have hl2:(rowV ((W6.take i).filterMap (·.2))).length<=1000:=by unfold rowV;rw[Ai];have:=List.length_filterMap_le (λq:Edge×Option Nat=>q.2) (W6.take i);rw[AB]at this;lia
    refine⟨B,_,rfl,SqT.of ((s16.trans s7) _ _ q1),rfl,_,_,rfl,_,_,rfl,rfl,?_⟩;refine⟨_,rfl,rfl,_,rfl,?_⟩;rw[zmk,zau he,List.filterMap_append]
    cases st with
    |none=>exact iteF ⟨_,_,rfl,s7,by simpa using e7⟩
    |some n =>
     refine iteT ⟨_,rfl,_,e7,zal hl2,_,_,rfl,zam hp7 s7,?_⟩;rw[zaa];simp[rowV,sv]
   .rintro σ H7 ⟨o1,o2,rfl,s7,e7⟩;rw[hv6.1,AG]at e7;refine⟨p7,_,rfl,.inl ⟨SqL.of e7,λp8 hp8=>?_⟩⟩;have s8:=Same.up (o:=.tup (rowV (W6.filterMap (·.2)))) hp8;have b8:=s8 _ _ (s7 _ _ b6);refine⟨_,rfl,_,rfl,b,_,_,_,rfl,rfl,SqT.of b8,zak (j:=0) rfl,_,rfl,b,_,_,_,rfl,rfl,SqT.of b8,zak (j:=1) rfl,_,rfl,(by show 4<=sizeLine;decide),λp9 hp9=>?_⟩;refine k _ _ ⟨sortS W,e.c.1,e.c.2,W6.filterMap (·.2)⟩ ((s16.trans (s7.trans s8)).trans (Same.up hp9)) ⟨p9,p8,rfl,zaa,Same.up hp9 _ _ zaa⟩ ⟨rfl,j,e,hj,hbg,rfl,rfl,?_⟩;rw[<- hW6]
noncomputable def keyV (r:Rnd):List V:=[.int r.y,.int r.x,.bl (decide (V.str r.so=V.str "hole"))]
noncomputable def zcs(K:W.Frag):Sp:=λvs H Q _=>∃(v:V) (r:Rnd),vs=[v]/\rR r v H/\∀p H',H p=none->Same H H'->H' p=some (.tup (keyV r))->Q (.ref p) H'
theorem zeU (d:Df K mg "round_order" zce ["one"]):FnOk P w K mg base CX0 1 d.f d.fd ["one"] (zcs K):=by
 refine d.F.ok za8 (λvs H Q E h=>?_) (λcdv A outer s H vs Q E hr h=>?_)
 .obtain⟨v,r,rfl,_⟩:=h;rfl
 .obtain⟨v,r,rfl,⟨a,b,rfl,q1,q2⟩,k⟩:=h
  refine⟨_,(zac (zbs (pv 0) (zaX (by rfl) (zag (nG 1 za8.nd) (zag (nG 2 za8.nd) (zag (nG 3 za8.nd) (zag (nG 4 za8.nd) zao))))))
   (zaf (zai (zap (pa_N (pv 3) (pa_N (pv 2) (zah (zbf op_eq (pv 1) ziO (zaq _)) zab))))))),?_⟩
  refine⟨_,rfl,a,_,rfl,SqT.of q1,rfl,_,_,rfl,_,_,rfl,_,_,rfl,_,_,rfl,rfl,?_⟩;refine⟨_,rfl,_,rfl,_,rfl,rfl,three,λp hp=>k p _ hp (Same.up hp) zaa⟩
theorem VR.cons{α:Type}{v:V}{vs:List V}{x:α}{l:List α}{R:α->V->Hp->Prop}{H:Hp}:VR (v::vs) (x::l) R H ↔ R x v H/\VR vs l R H:=by
 constructor
 .intro h;exact⟨h.2 0 x v rfl rfl,by simpa using h.1,λi y u h1 h2=>h.2 (i+1) y u (by simpa using h1) (by simpa using h2)⟩
 .rintro⟨h1,h2⟩;refine⟨by simp[h2.1],λi y u e1 e2=>?_⟩
  match i,e1,e2 with
  | 0,e1,e2=>cases e1;cases e2;exact h1
  |i+1,e1,e2=>exact h2.2 i y u (by simpa using e1) (by simpa using e2)
noncomputable def kE(e:Edge):List Key:=[C9 e.c.1,C9 e.c.2,C9 (e.w:Int)]
theorem zmH{e f:Edge}:kE e=kE f ↔ e=f:=by
 constructor
 .intro h;refine zjb.mp ?_
  unfold kE at h;injection h with h1 h2;injection h2 with h2 h3;injection h3 with h3 _;unfold eI;rw[Sum.inl.inj h1,Sum.inl.inj h2,Sum.inl.inj h3]
 .rintro rfl;rfl
theorem _root_.RP.Closed.back{C:Cell->Bool}{b x:Edge}{es:List Edge}(h:Closed C b es)(hx:IsE C x)(hm:nxt C x∈es):x∈es:=by
 obtain⟨⟨h0,hs,hE,hnd⟩,l,hl,hb⟩:=h;obtain⟨i,hi,ei⟩:=AD hm;have hlm:l∈es:=Af hl;rcases Nat.eq_zero_or_pos i with rfl |hp
 .rw[Aa hi,ei]at h0;have e:=AX h0;rw[<- hb]at e;rw[zex hx (hE l hlm) e];exact hlm
 .have hi':i-1<es.length:=by lia
  have e1:=hs (i-1) es[i-1] (nxt C x) (Aa hi') (by rw[show i-1+1=i by lia,Aa hi,ei]);rw[zex hx (hE _ (AV hi')) e1];exact AV hi'
theorem _root_.RP.Closed.apart{C:Cell->Bool}{b:Edge}{es done:List Edge}(h:Closed C b es)(hd:∀x,IsE C x->nxt C x∈done->x∈done)(hb:b ∉ done):∀e∈es,e ∉ done:=by
 obtain⟨⟨h0,hs,hE,hnd⟩,_⟩:=h
 have key:∀(i:Nat) e,es[i]?=some e->e ∉ done:=by
  intro i
  induction i with
  |zero=>intro e he;rw[he]at h0;cases h0;exact hb
  |succ i ih =>
   intro e he hm;have hi:i+1<es.length:=(Ac.mp he).1;have h1:es[i]?=some es[i]:=Aa (by lia)
   have hn:=hs i _ e h1 he;rw[hn]at hm;exact ih _ h1 (hd _ (hE _ (AV _)) hm)
 intro e he;obtain⟨i,hi,ei⟩:=AD he;exact key i e (by rw[Aa hi,ei])
structure Part (C:Cell->Bool) (ESS:List (List Edge)) (R:List Rnd):Prop where
 len:R.length=ESS.length
 each:∀(i:Nat) es r,ESS[i]?=some es->R[i]?=some r->(∃b,Closed C b es)/\IsRnd (wk C es) r
 nd:ESS.flatten.Nodup
theorem Part.closed{C:Cell->Bool}{ESS:List (List Edge)}{R:List Rnd}(h:Part C ESS R):∀es∈ESS,∃b,Closed C b es:=λes he=>by
 obtain⟨i,hi,ei⟩:=AD he;have hr:i<R.length:=by rw[h.len];exact hi
 exact (h.each i es R[i] (by rw[Aa hi,ei]) (Aa hr)).1
theorem Part.isE{C:Cell->Bool}{ESS:List (List Edge)}{R:List Rnd}(h:Part C ESS R):∀e∈ESS.flatten,IsE C e:=λe he=>by obtain⟨es,h1,h2⟩:=List.mem_flatten.mp he;obtain⟨b,hc⟩:=h.closed es h1;exact hc.1.2.2.1 e h2
theorem Part.back{C:Cell->Bool}{ESS:List (List Edge)}{R:List Rnd}(h:Part C ESS R):∀x,IsE C x->nxt C x∈ESS.flatten->x∈ESS.flatten:=λx hx hm=>by obtain⟨es,h1,h2⟩:=List.mem_flatten.mp hm;obtain⟨b,hc⟩:=h.closed es h1;exact List.mem_flatten.mpr ⟨es,h1,hc.back hx h2⟩
theorem Part.nil{C:Cell->Bool}:Part C [] []:=⟨rfl,λi es r h=>by simp at h,by simp⟩
theorem Part.snoc{C:Cell->Bool}{ESS:List (List Edge)}{R:List Rnd}{b:Edge}{es:List Edge}{r:Rnd}(h:Part C ESS R)(hc:Closed C b es)(hr:IsRnd (wk C es) r)(hb:b ∉ ESS.flatten):Part C (ESS++[es]) (R++[r]):=by
 refine⟨by simp[h.len],λi fs q h1 h2=>?_,?_⟩
 .rcases AL i ESS.length with hi |hi
  .rw[As hi]at h1;rw[As (by rw[h.len];exact hi)]at h2;exact h.each i fs q h1 h2
  .rw[AF hi]at h1;rw[AF (by rw[h.len];exact hi)]at h2
   have hz:i-ESS.length=0:=by have:=(Ac.mp h1).1;simp at this;lia
   rw[hz]at h1;rw[h.len,hz]at h2
   cases h1;cases h2
   exact⟨⟨b,hc⟩,hr⟩
 .have ap:=hc.apart h.back hb;rw[Dh,Ca];refine⟨h.nd,by simpa using hc.1.2.2.2,λx hx y hy e=>?_⟩;subst e;exact ap x (by simpa using hy) hx
theorem zi2{p:Edge->Bool}:∀(ESS:List (List Edge)),(∀es∈ESS,∃e∈es,p e=true)->ESS.length<=(ESS.flatten.filter p).length
 |[],_=>A5 _
 |es::r,h=>by
  have ih:=zi2 r λes he=>h es (At _ he)
  obtain⟨e,he,hp⟩:=h es AC;rw[Bn,List.filter_append,An,A7];have:0<(es.filter p).length:=List.length_pos_of_mem (List.mem_filter.mpr ⟨he,hp⟩);lia
theorem Part.few{cs:List Cell}{ESS:List (List Edge)}{R:List Rnd}(h:Part (isIn cs) ESS R):R.length<=cs.length:=by
 rw[h.len];refine Bb (zi2 (p:=λe=>e.w == 0) ESS λes he=>?_) ?_
 .obtain⟨b,hc⟩:=h.closed es he;obtain⟨e,h1,h2⟩:=hc.has (k:=0) (.inl rfl);exact⟨e,h1,by simpa using h2⟩
 .rw[<- Ai (f:=λc:Cell=>(⟨c,0⟩:Edge)) (as:=cs)];refine zaB (List.Pairwise.filter _ h.nd) λe he=>?_
  obtain⟨h1,h2⟩:=DF.mp he;have hE:=h.isE e h1;refine Aq.mpr ⟨e.c,of_decide_eq_true hE.2.1,?_⟩;obtain⟨c,w⟩:=e;simp only at h2 ⊢;have:w=0:=by simpa using h2
  rw[this]
theorem Part.small{cs:List Cell}{ESS:List (List Edge)}{R:List Rnd}(h:Part (isIn cs) ESS R):ESS.flatten.length<=4*cs.length:=by rw[<- zbx];exact zaB h.nd λe he=>zdo.mpr ⟨of_decide_eq_true (h.isE e he).2.1,(h.isE e he).1⟩
noncomputable def keyI (r:Rnd):List Int:=[r.y,r.x,PyProof.Rows.b2i (decide (V.str r.so=V.str "hole"))]
noncomputable def Whole(cs:List Cell)(R:List Rnd):Prop:=∃ESS,Part (isIn cs) ESS R/\∀e,e∈ESS.flatten ↔ IsE (isIn cs) e
noncomputable def ziD(K:W.Frag):Sp:=λvs H Q _=>∃(a:Addr) (cs:List Cell),vs=[.ref a]/\LR K H a cs cR/\InOrd cs/\cs.length<=60 /\
 ∀p H' rs R R0,H p=none->Same H H'->H' p=some (.lst rs)->VR rs R rR H'->R.Perm R0->R.Pairwise (λr q=>HT.lexLt (keyI q) (keyI r)=false)->Whole cs R0->Q (.ref p) H'
noncomputable def zdc(K:W.Frag):Sp:=λvs H Q _=>∃(t pe:Addr) (cs:List Cell) (es:List V),vs=[.ref t,.ref pe]/\Tab H t (isIn cs)/\H pe=some (.lst es)/\VR es (allE cs) eR H/\cs.length<=60 /\
 ∀p H' rs R R0,H p=none->Same H H'->H' p=some (.lst rs)->VR rs R rR H'->R.Perm R0->R.Pairwise (λr q=>HT.lexLt (keyI q) (keyI r)=false)->Whole cs R0->Q (.ref p) H'
theorem zes(T:Txt P w K mg)
    (g_walk_from:Fn P w K mg base 3 "walk_from" ["table","begin"] (zmm K)) (g_round_of:Fn P w K mg base 5 "round_of" ["walk"] (zdd K)) (g_round_order:Fn P w K mg base 1 "round_order" ["one"] (zcs K))
    (d:Df K mg "rounds_along" zbY ["table","edges"]):FnOk P w K mg base CX0 6 d.f d.fd ["table","edges"] (zdc K):=by
  refine d.F.ok zaH (λvs H Q E h=>?_) (λcdv A outer s H2 vs Q E hr h=>?_)
  . obtain⟨t,pe,cs,es,rfl,_⟩:=h;rfl
  . obtain⟨t,pe,cs,es,rfl,tab,epe,hvpe,hlen,k⟩:=h;have hu1:=hu_of hr
    refine⟨_,(zac (sE 2 zaH.nd zd3)
      (zac (sE 3 zaH.nd (zba zab))
      (zac (za4 AO rfl (zay (pv 1)) (nG 4 zaH.nd)
      (zaf (ps_if (zep (zcD hu1 (pv 4) (pv 2)))
      (zac (sE 5 zaH.nd (pC g_walk_from hr (pa_N (pv 0) (pa_N (pv 4) zab))))
      (zac (za4 AO rfl (zay (pv 5)) (zaX (by rfl) (zag (nG 6 zaH.nd) (zag (nG 7 zaH.nd) zao)))
      (zaf (zf3 hu1 (pv 2) (pv 6) pe_bl rfl)))
      (zaf (zbN (pe_bm A0 Be Bg zbb (pv 3) (zah (pC g_round_of hr (pa_N (pv 5) zab)) zab))))))
      zat)))
      (zaf (zai (zd2 g_round_order.ok (hr.mono (by decide)) g_round_order.b (by rfl) T.nsorted (by rfl) g_round_order.m (pv 3))))))),?_⟩
    refine λdd hdd=>⟨(by show 0<=sizeLine;decide),λp hp=>?_⟩
    have hpd:p≠dd:=λz=>by subst z;rw[zaa]at hp;cases hp
    have s4:Same H2 (upd (upd H2 dd (.dT [])) p (.lst [])):=(Same.up hdd).trans (Same.up hp);have d4:upd (upd H2 dd (.dT [])) p (.lst []) dd=some (.dT []):=by rw[zaj (Bu hpd),zaa]
    have p4:upd (upd H2 dd (.dT [])) p (.lst []) p=some (.lst []):=zaa;have n2:H2 dd=none:=hdd;have n2p:H2 p=none:=by rw[zaj hpd]at hp;exact hp
    generalize upd (upd H2 dd (.dT [])) p (.lst [])=H5 at s4 d4 p4;have s15:Same H2 H5:=s4;have e5:=s4 _ _ epe;have hv5:=hvpe.mono λx v hx=>hx.same s4
    refine⟨_,rfl,pe,rfl,⟨_,SqL.of e5⟩,?_⟩;have hped:pe≠dd:=zan epe n2;have hpep:pe≠p:=zan epe n2p
    refine zar (K := K) (a := pe) (xs := es) (λi σ H6 => ∃o4 o5 o6 o7, σ = [some (.ref t), some (.ref pe), some (.ref dd), some (.ref p), o4, o5, o6, o7] /\ Same H2 H6 /\ H6 pe=some (.lst es) /\ KT H5 H6 /\
        ∃kvs rs ESS R,H6 dd=some (.dT kvs)/\H6 p=some (.lst rs)/\VR rs R rR H6/\Part (isIn cs) ESS R/\(∀e,(valV kvs (kE e)).isSome=decide (e∈ESS.flatten))/\kvs.length<=ESS.flatten.length/\∀e∈(allE cs).take i,e∈ESS.flatten)
      ⟨_,_,_,_,rfl,s15,e5,KT.refl _,[],[],[],[],d4,p4,VR.nil,Part.nil,(λe=>by simp[valV]),Aj _,(λe he=>by simp at he)⟩ (λi σ H6 _ ⟨_,_,_,_,_,_,e6,_⟩=>SqL.of e6) ?_ ?_
    . rintro i v σ H6 hi ⟨o4,o5,o6,o7,rfl,s6,e6,kt6,kvs,rs,ESS,R,d6,p6,hR,hP,hkv,hkl,hall⟩;obtain⟨e,he,b,rfl,qb⟩:=hv5.at hi;have hE:IsE (isIn cs) e:=zi0.mp (Af he);have qb6:=kt6 _ _ qb;refine⟨_,rfl,_,rfl,dd,_,rfl,.inr ⟨kvs,kE e,b,Rd.of d6,rfl,qb6,rfl⟩,_,rfl,?_⟩;rw[hkv]
      by_cases hin:e∈ESS.flatten
      . rw[decide_eq_true hin];refine iteF ⟨_,_,_,_,rfl,s6,e6,kt6,kvs,rs,ESS,R,d6,p6,hR,hP,hkv,hkl,λf hf=>?_⟩;rcases (zbA he).mp hf with z |z
        . exact hall f z
        . rw[z];exact hin
      . rw[decide_eq_false hin];refine iteT ?_
        have tab6:=tab.same s6;refine⟨_,rfl,_,rfl,t,b,cs,e,rfl,tab6,qb6,hE,by lia,λpw H7 ws fs hpw s7 e7 hv7 hcl=>?_⟩;have hfs:fs.length<=4*cs.length:=hcl.1.short;have hap:=hcl.apart hP.back hin;have d7:=s7 _ _ d6;have hdw:dd≠pw:=λz=>by subst z;rw[d6]at hpw;cases hpw
        have hws:ws.length=fs.length:=by rw[hv7.1,zaK]
        refine⟨_,rfl,pw,rfl,⟨_,SqL.of e7⟩,?_⟩
        refine zar (K := K) (a := pw) (xs := ws) (λj σ H8 => ∃o6 o7, σ = [some (.ref t), some (.ref pe), some (.ref dd), some (.ref p), some (.ref b), some (.ref pw), o6, o7] /\ (∀z o, z ≠ dd -> H7 z=some o -> H8 z=some o) /\
            ∃kv8,H8 dd=some (.dT kv8)/\(∀f,(valV kv8 (kE f)).isSome=decide (f∈ESS.flatten∨f∈fs.take j))/\kv8.length<=ESS.flatten.length+j)
          ⟨_,_,rfl,(λz o _ h=>h),kvs,d7,(λf=>by rw[hkv];simp),by lia⟩ (λj σ H8 _ ⟨_,_,_,k8,_⟩=>SqL.of (k8 _ _ (Bu hdw) e7)) ?_ ?_
        . rintro j u σ H8 hj ⟨o6,o7,rfl,k8,kv8,d8,hk8,hl8⟩;obtain⟨⟨f,st⟩,hf,B,bb,rfl,q1,q2⟩:=hv7.at hj
          have hf':fs[j]?=some f:=by
            unfold wk at hf;rw[Ak]at hf;obtain⟨g,hg,eg⟩:=AA.mp hf
            cases eg
            exact hg
          have nB:B≠dd:=ne_of q1 d7 (λz=>nomatch z);have nb:bb≠dd:=ne_of q2 d7 (λz=>nomatch z);refine⟨B,_,rfl,SqT.of (k8 _ _ nB q1),rfl,_,_,rfl,_,_,rfl,rfl,?_⟩;have hjl:j<fs.length:=by rw[<- hws];exact (Ac.mp hj).1
          have hsm:=hP.small;refine⟨_,rfl,_,rfl,dd,_,rfl,.inr ⟨kv8,kE f,bb,d8,rfl,k8 _ _ nb q2,zal (by lia),rfl⟩,?_⟩;refine⟨_,_,rfl,(λz o hz h=>by rw[zaj hz];exact k8 z o hz h),_,zaa,(λg=>?_),Bb (za3 _ _ _) (by lia)⟩;rw[zfI]
          by_cases eg:g=f
          . rw[if_pos (zmH.mpr eg),decide_eq_true (.inr ((zbA hf').mpr (.inr eg)))];rfl
          . rw[if_neg (λz=>eg (zmH.mp z)),hk8];refine decide_eq_decide.mpr ⟨λz=>z.imp id λq=>(zbA hf').mpr (.inl q),λz=>z.imp id λq=>((zbA hf').mp q).resolve_right eg⟩
        . rintro σ H8 ⟨o6,o7,rfl,k8,kv8,d8,hk8,hl8⟩;rw[hws,AG]at hk8;have hdp:p≠dd:=hpd;have p8:=k8 _ _ hdp (s7 _ _ p6);have kt8:KT H7 H8:=λz xs h=>k8 z _ (ne_of h d7 (λq=>nomatch q)) h
          have w8:H8 pw=some (.lst ws):=k8 _ _ (Bu hdw) e7;have hrl:rs.length<=60:=by rw[hR.1];exact Bb hP.few hlen
          have hh:∀kk,kk=0∨kk=2->∃x∈(wk (isIn cs) fs).map (·.1),x.w=kk:=λkk hkk=>by obtain⟨x,h1,h2⟩:=hcl.has hkk;exact⟨x,by unfold wk;rw[BM];simpa using h1,h2⟩
          refine⟨_,rfl,.inl ⟨rfl,_,SqL.of p8⟩,_,rfl,pw,wk (isIn cs) fs,rfl,LR.of w8 (hv7.mono λx v hx=>hx.kt kt8),(by rw[zaK];lia),hh 0 (.inl rfl),hh 2 (.inr rfl),λvr H9 r s9 hr9 hrn=>?_⟩;have p9:=s9 _ _ p8;refine⟨p,rs,_,rfl,rfl,p9,zal (by lia),?_⟩;have kt9:KT H9 (upd H9 p (.lst (rs++[vr]))):=KT.lst p9;have ktA:KT H6 (upd H9 p (.lst (rs++[vr]))):=(KT.of s7).trans (kt8.trans ((KT.of s9).trans kt9));refine⟨_,_,_,_,rfl,(λz o h=>?_),?_,kt6.trans ktA,kv8,rs++[vr],ESS++[fs],R++[r],?_,zaa,hR.snoc (λx v hx=>hx.kt ktA) (hr9.kt kt9),hP.snoc hcl hrn hin,(λf=>?_),?_,(λf hf=>?_)⟩
          . rw[zaj (zan h n2p)];exact s9 _ _ (k8 _ _ (zan h n2) (s7 _ _ (s6 _ _ h)))
          . rw[zaj hpep];exact s9 _ _ (k8 _ _ hped (s7 _ _ e6))
          . rw[zaj (Bu hpd)];exact s9 _ _ d8
          . rw[hk8];refine decide_eq_decide.mpr ?_
            rw[Dh,AH];simp
          . rw[Dh,An,show [fs].flatten=fs by simp];lia
          . rw[Dh,AH];rcases (zbA he).mp hf with z |z
            . exact .inl (hall f z)
            . rw[z];refine .inr ?_
              have:=hcl.1.1;simpa using Af this
    . rintro σ H6 ⟨o4,o5,o6,o7,rfl,s6,e6,kt6,kvs,rs,ESS,R,d6,p6,hR,hP,hkv,hkl,hall⟩;rw[hv5.1,AG]at hall;have hrl:rs.length<=60:=by rw[hR.1];exact Bb hP.few hlen
      have ge:∀(i:Nat) r,R[i]?=some r->R.getD i ⟨"",0,0,[]⟩=r:=λi r h=>by simp only[AI,h,Option.getD_some]
      refine⟨_,rfl,p,rs,λi=>keyV (R.getD i ⟨"",0,0,[]⟩),λi=>keyI (R.getD i ⟨"",0,0,[]⟩),rfl,SqL.of p6,by lia,λi x H7 hx s7=>?_,
        λi j hi hj=>⟨_,_,_,_,_,_,rfl,rfl,.cons (.int _ _) (.cons (.bl _ _) .nil),rfl,rfl⟩,λpp D H7 hpm hpo hD s7 f7=>?_⟩
      . obtain⟨r,hr',hx'⟩:=hR.at hx;refine⟨x,r,rfl,hx'.kt (KT.of s7),λq H8 hq s8 f8=>⟨s8,q,rfl,SqT.of ?_⟩⟩;show H8 q=some (HO.tup (keyV (R.getD i ⟨"",0,0,[]⟩)));rw[ge i r hr'];exact f8
      . have hpl:pp.length=R.length:=by rw[hpm.length_eq,C3,hR.1]
        have hlt:∀i∈pp,i<R.length:=λi hi=>by have:=Bx.mp (hpm.mem_iff.mp hi);rw[hR.1]at this;exact this
        have hRR:(pp.map λi=>R.getD i ⟨"",0,0,[]⟩).Perm R:=by
          have h1:=hpm.map λi=>R.getD i (⟨"",0,0,[]⟩:Rnd)
          rw[hR.1]at h1
          have h2:((Ba R.length).map λi=>R.getD i (⟨"",0,0,[]⟩:Rnd))=R:=by
            apply List.ext_getElem
            . simp
            . intro i a b;simp[show i<R.length by simpa using a]
          rw[h2]at h1;exact h1
        have vR:VR (pp.map λi=>rs.getD i V.non) (pp.map λi=>R.getD i ⟨"",0,0,[]⟩) rR H7:=by
          refine⟨by simp,λi r v h1 h2=>?_⟩;rw[Ak]at h1 h2;obtain⟨a,ha,rfl⟩:=AA.mp h1;rw[ha]at h2
          cases h2
          have hal:=hlt a (Af ha);have hal2:a<rs.length:=by rw[hR.1];exact hal
          have e1:R.getD a ⟨"",0,0,[]⟩=R[a]:=by simp[hal]
          have e2:rs.getD a V.non=rs[a]:=by simp[hal2]
          rw[e1];show rR R[a] (rs.getD a V.non) H7;rw[e2];exact (hR.2 a _ _ (Aa hal) (Aa hal2)).kt (KT.of s7)
        refine k D H7 _ _ R (s6.free hD) (s6.trans s7) f7 vR hRR ?_ ⟨ESS,hP,λe=>⟨hP.isE e,λh=>hall e (zi0.mpr h)⟩⟩
        rw[Bv];exact hpo
theorem zkM (T:Txt P w K mg) (g_ask_picture:Fn P w K mg base 2 "ask_picture" ["picture"] (spAsk K)) (g_cell_table:Fn P w K mg base 1 "cell_table" ["picture"] (zhJ K)) (g_all_edges:Fn P w K mg base 3 "all_edges" ["picture"] (zmu K))
  (g_rounds_along:Fn P w K mg base 6 "rounds_along" ["table","edges"] (zdc K))
  (d:Df K mg "rounds" zfY ["picture"]):FnOk P w K mg base CX0 7 d.f d.fd ["picture"] (ziD K):=by
 refine d.F.ok zko (λvs H Q E h=>?_) (λcdv A outer s H vs Q E hr h=>?_)
 .obtain⟨a,cs,rfl,_⟩:=h;rfl
 .obtain⟨a,cs,rfl,hLR,hord,hlen,k⟩:=h;have hu1:=hu_of hr
  refine⟨_,(zac (zbN (pC g_ask_picture hr (pa_N (pv 0) zab)))
   (zaf (zai (pC g_rounds_along hr (zah (pC g_cell_table hr (pa_N (pv 0) zab)) (zah (pC g_all_edges hr (pa_N (pv 0) zab)) zab)))))),?_⟩
  refine⟨_,rfl,a,cs,rfl,hLR,hord,by lia,λH1 s1=>?_⟩;have hLR1:=hLR.same s1 λx v hx=>hx.same s1
  refine⟨_,rfl,a,cs,rfl,hLR1,by lia,λt H2 ht s2 tab=>?_⟩;refine⟨_,rfl,a,cs,rfl,hLR1.same s2 (λx v hx=>hx.same s2),by lia,λpe H5 es hpe s5 e5 hv5=>?_⟩;refine⟨t,pe,cs,es,rfl,tab.same s5,e5,hv5,hlen,λp H' rs R R0 hp sp f1 f2 f3 f4 f5=>?_⟩;exact k p H' rs R R0 (s1.free (s2.free (s5.free hp))) (s1.trans (s2.trans (s5.trans sp))) f1 f2 f3 f4 f5
theorem _root_.RP.Closed.uniq{C:Cell->Bool}{b:Edge}{es fs:List Edge}(h:Closed C b es)(k:Closed C b fs):es=fs:=by
 have lt:∀{es fs:List Edge},Closed C b es->Closed C b fs->¬ es.length<fs.length:=λ{es fs} h k hl=>by have e:=h.it_len;have hp:=h.pos;have g1:=k.1.get es.length hl;have g2:=k.1.get 0 (by lia);rw[e]at g1;have:=(Cb (i:=es.length) (j:=0) hl k.1.2.2.2).mp (by rw[g1,g2];rfl);lia
 have hl:es.length=fs.length:=by have:=lt h k;have:=lt k h;lia
 apply List.ext_getElem?
 intro i;rcases AL i es.length with hi |hi
 .rw[h.1.get i hi,k.1.get i (by lia)]
 .rw[BJ hi,BJ (by lia)]
theorem ziI{α:Type}(l:List α)(j:Nat):(l.drop j++l.take j).Perm l:=by have:=List.perm_append_comm (l₁:=l.drop j) (l₂:=l.take j);rw[List.take_append_drop]at this;exact this
theorem zbE{C:Cell->Bool}(es:List Edge):(wk C es).map (·.1)=es:=by unfold wk;rw[BM];exact List.map_id' _
theorem zjv{C:Cell->Bool}{es fs:List Edge}(p:es.Perm fs):sortS (wk C es)=sortS (wk C fs):=by have q:(wk C es).Perm (wk C fs):=p.map _;unfold sortS nL nS;have a:=(q.filter λq=>q.2.isNone).length_eq;have b:=(q.filter λq=>slant q.2).length_eq;rw[a,b]
theorem lex2{a b c d:Int}(h1:HT.lexLt [a,b] [c,d]=false)(h2:HT.lexLt [c,d] [a,b]=false):a=c/\b=d:=by have:=HT.lexLt_total h1 h2;simpa using this
theorem zcp.one{W W':Wk}{s:Str}{e f:Edge}(p:(W.map (·.1)).Perm (W'.map (·.1)))(h:zcp W s e)(k:zcp W' s f):e=f:=by obtain⟨h1,h2,h3⟩:=h;obtain⟨k1,k2,k3⟩:=k;have a:=h3 f (p.mem_iff.mpr k1) k2;have b:=k3 e (p.mem_iff.mp h1) h2;obtain⟨q1,q2⟩:=lex2 a b;obtain⟨⟨x,y⟩,w⟩:=e;obtain⟨⟨x',y'⟩,w'⟩:=f;simp only at q1 q2 h2 k2;rw[h2,k2,q1,q2]
noncomputable def begE(r:Rnd):Edge:=⟨(r.x,r.y),kOf r.so⟩
theorem IsRnd.beg {C:Cell->Bool}{es:List Edge}{r:Rnd}(h:IsRnd (wk C es) r):begE r∈es/\(r.so = "rim" ∨ r.so = "hole"):=by
 obtain⟨r0,i,f,rf,⟨rb,rw',_⟩,rx,ry,rr⟩:=h;rw[zbE]at rb;refine⟨?_,by rw[r0];exact zdh _⟩
 have:begE r=f:=by obtain⟨⟨x,y⟩,w⟩:=f;unfold begE;rw[rx,ry,r0];simp only at rw' ⊢;rw[rw']
 rw[this];exact rb
theorem Part.got{C:Cell->Bool}{ESS:List (List Edge)}{R:List Rnd}(h:Part C ESS R){i:Nat}{r:Rnd}(hr:R[i]?=some r):∃es b,ESS[i]?=some es/\Closed C b es/\IsRnd (wk C es) r:=by have hi:=(Ac.mp hr).1;rw[h.len]at hi;obtain⟨⟨b,hb⟩,q⟩:=h.each i _ r (Aa hi) hr;exact⟨_,b,Aa hi,hb,q⟩
theorem Part.so {C:Cell->Bool}{ESS:List (List Edge)}{R:List Rnd}(h:Part C ESS R){r:Rnd}(hr:r∈R):r.so = "rim" ∨ r.so = "hole":=by obtain⟨i,hi,ei⟩:=AD hr;obtain⟨es,b,h1,h2,h3⟩:=h.got (by rw[Aa hi,ei]);exact h3.beg.2
noncomputable abbrev InKey(R:List Rnd):Prop:=R.Pairwise (λr q=>HT.lexLt (keyI q) (keyI r)=false)
theorem zjd(s:Nat):∀(l:List Nat) (w:Nat),dgo w (l++[s])=((dgo w l).1++(Ap ((zbg s+4-(dgo w l).2) % 4) none++[some s]),wayB s)
 |[],w=>by simp[dgo]
 |a::l,w=>by
  have ih:=zjd s l (wayB a);show (Ap ((zbg a+4-w) % 4) none++some a::(dgo (wayB a) (l++[s])).1,(dgo (wayB a) (l++[s])).2)=_;rw[ih];show _=((Ap ((zbg a+4-w) % 4) none++some a::(dgo (wayB a) l).1)++_,_);simp;rfl
theorem zgq:∀(l:List Nat) (w:Nat),(dgo w l).1.length<=4*l.length
 |[],w=>by simp[dgo]
 |a::l,w=>by
  have ih:=zgq l (wayB a);show (Ap ((zbg a+4-w) % 4) none++some a::(dgo (wayB a) l).1).length<=_;have:(zbg a+4-w) % 4<4:=AU _ (by decide);simp only[An,BY,A7];lia
theorem zig:∀(l:List Nat) (w:Nat),w<4->(dgo w l).2<4
 |[],w,h=>h
 |a::l,w,h=>zig l (wayB a) (AU _ (by decide))
theorem zjX(s:Nat):zbg s<4:=AU _ (by decide)
theorem zi8(n:Nat):(Ap n [V.non]).flatten=(Ap n (none:Option Nat)).map sv:=by
 induction n with
 |zero=>rfl
 |succ n ih=>rw[Ch,Bn,ih];rfl
theorem zbh{n:Nat}(h:n<=5000):n<sizeLine:=Nat.lt_of_le_of_lt h (by decide)
theorem zg5:1<=sizeLine:=by decide
noncomputable def zgO:Sp:=λvs H Q _=>∃(v:V) (r:Rnd),vs=[v]/\rR r v H/\(r.so = "rim" ∨ r.so = "hole")/\∀p H',H p=none->Same H H'->H' p=some (.tup (edgeT (begE r)))->Q (.ref p) H'
theorem zgf (T:Txt P w K mg) (d:Df K mg "begin_edge" zcA ["one"]):FnOk P w K mg base CX0 1 d.f d.fd ["one"] zgO:=by
 refine d.F.ok zbn (λvs H Q E h=>?_) (λcdv A outer s H vs Q E hr h=>?_)
 .obtain⟨v,r,rfl,_⟩:=h;rfl
 .obtain⟨v,r,rfl,⟨a,b,rfl,q1,q2⟩,hso,k⟩:=h
  refine⟨_,(zac (zbs (pv 0) (zaX (by rfl) (zag (nG 1 zbn.nd) (zag (nG 2 zbn.nd) (zag (nG 3 zbn.nd) (zag (nG 4 zbn.nd) zao))))))
   (zaf (zai (zap (pa_N (pv 2) (pa_N (pv 3) (zah (zkH (by rfl) T.ways (pv 1)) zab))))))),?_⟩
  refine⟨_,rfl,a,_,rfl,SqT.of q1,rfl,_,_,rfl,_,_,rfl,_,_,rfl,_,_,rfl,rfl,?_⟩;refine⟨_,rfl,_,rfl,_,rfl,?_⟩;rcases hso with e |e
  .refine .inl ⟨by rw[e],three,λp hp=>k p _ hp (Same.up hp) ?_⟩;rw[zaa];unfold begE edgeT kOf;simp only[e];rfl
  .refine .inr ⟨by rw[e],three,λp hp=>k p _ hp (Same.up hp) ?_⟩;rw[zaa];unfold begE edgeT kOf;simp only[e];rfl
noncomputable def ziz:Sp:=λvs H Q _=>∃s:Nat,vs=[.int s]/\Q (.int (zbg s:Nat)) H
theorem zjB (d:Df K mg "way_for" zek ["step"]):FnOk P w K mg base CX0 1 d.f d.fd ["step"] ziz:=by
 refine d.F.ok zjy (λvs H Q E h=>?_) (λcdv A outer s H vs Q E hr h=>?_)
 .obtain⟨s,rfl,_⟩:=h;rfl
 .obtain⟨t,rfl,k⟩:=h;refine⟨_,(zaf (zai (pe_op za2 (pe_op zkK (pe_op zax (pv 0) zae) zae) zae))),?_⟩;refine⟨_,rfl,_,_,rfl,rfl,_,_,rfl,rfl,⟨by decide,by decide⟩,_,_,rfl,rfl,(by show (0:Int)<4;decide),?_⟩;have e:((t:Int)+1) / 2 % 4=(zbg t:Nat):=by unfold zbg;lia
  show Q (V.int (((t:Int)+1) / 2 % 4)) H;rw[e];exact k
noncomputable def zkk(K:W.Frag):Sp:=λvs H Q _=>∃(wn:Nat) (b:Addr) (row:List Nat),vs=[.int (wn:Int),.ref b]/\wn<4/\SqT K H b (rowV row)/\row.length<=500 /\
 ∀p H',H p=none->Same H H'->H' p=some (.lst ((deeds wn row).map sv))->Q (.ref p) H'
theorem ze2 (g_way_for:Fn P w K mg base 1 "way_for" ["step"] ziz) (d:Df K mg "deeds_along" zck ["begin_way","row"]):FnOk P w K mg base CX0 2 d.f d.fd ["begin_way","row"] (zkk K):=by
 refine d.F.ok za0 (λvs H Q E h=>?_) (λcdv A outer s H vs Q E hr h=>?_)
 .obtain⟨wn,b,row,rfl,_⟩:=h;rfl
 .obtain⟨wn,b,row,rfl,hw,hq,hlen,k⟩:=h
  refine⟨_,(zac (sE 2 za0.nd (pv 0))
   (zac (sE 3 za0.nd (zba zab))
   (zac (za4 AO rfl (ziN (pv 1)) (nG 4 za0.nd)
   (zac (zbN (pe_bm A0 PySem.F.slot_list_extend PySem.F.type_list_extend zkT (pv 3) (pa_B (pe_op zmE (zba (pa_C zaY zab)) (pe_op za2 (pe_op zaP (pC g_way_for hr (pa_N (pv 4) zab)) (pv 2)) zae)) zab)))
   (zac (zbN (pe_bm A0 Be Bg zbb (pv 3) (pa_N (pv 4) zab)))
   (zaf (sE 2 za0.nd (pe_op za2 (pe_op zaP (pC g_way_for hr (pa_N (pv 4) zab)) (pe_op za2 (pv 4) zae)) zae))))))
   (zac (sE 5 za0.nd (zcn (zf1 (pv 1) (λ_=>rfl)) (pe_op za2 (pe_op zaP (pv 0) (pv 2)) zae) zae))
   (zaf (zai (pe_op zg4 (pv 3) (pe_op zmE (zba (pa_C zaY zab)) (pv 5))))))))),?_⟩
  refine⟨_,rfl,(by show 0<=sizeLine;decide),λp hp=>?_⟩;have s0:Same H (upd H p (.lst [])):=Same.up hp;have e0:upd H p (.lst []) p=some (.lst []):=zaa;generalize upd H p (.lst [])=H0 at s0 e0;refine⟨_,rfl,b,rfl,⟨_,s0.seqT hq⟩,?_⟩;have hrl:(rowV row).length=row.length:=by unfold rowV;exact Ai _
  refine zgn (K:=K) (a:=b) (xs:=rowV row) (λi σ H1=>∃o4 o5,σ=[some (.int (wn:Int)),some (.ref b),some (.int ((dgo wn (row.take i)).2:Nat)),some (.ref p),o4,o5]/\Same H H1/\H1 p=some (.lst ((dgo wn (row.take i)).1.map sv)))
   ⟨_,_,rfl,s0,e0⟩ (λi σ H1 _ ⟨_,_,_,s1,_⟩=>s1.seqT hq) ?_ ?_
  .rintro i v σ H1 hi ⟨o4,o5,rfl,s1,e1⟩;have hi':i<row.length:=by rw[<- hrl];exact (Ac.mp hi).1
   unfold rowV at hi;rw[Ak,Aa hi']at hi
   cases hi
   have hdl:=zgq (row.take i) wn;rw[AB]at hdl;have hdw:=zig (row.take i) wn hw;have hwf:=zjX row[i];have hn:=zjd row[i] (row.take i) wn;rw[<- zau (Aa hi')]at hn;refine⟨_,rfl,.inl ⟨rfl,_,SqL.of e1⟩,zg5,λl hl=>?_⟩;have s2:Same H1 (upd H1 l (.lst [.non])):=Same.up hl;have e2:upd H1 l (.lst [.non]) l=some (.lst [.non]):=zaa;generalize upd H1 l (.lst [.non])=H2 at s2 e2;refine⟨_,rfl,row[i],rfl,?_⟩;refine⟨_,rfl,_,_,rfl,rfl,_,_,rfl,rfl,(by show (0:Int)<4;decide),?_⟩;have ek:(((zbg row[i]:Nat):Int)-((dgo wn (row.take i)).2:Nat)) % 4=(((zbg row[i]+4-(dgo wn (row.take i)).2) % 4:Nat):Int):=by lia
   have k4:(zbg row[i]+4-(dgo wn (row.take i)).2) % 4<4:=AU _ (by decide);generalize hk:(zbg row[i]+4-(dgo wn (row.take i)).2) % 4=kk at *;refine⟨l,(kk:Int),_,rfl,congrArg V.int ek,e2,by lia,by lia,(BU (zal (by simp;lia))),λq hq'=>?_⟩;rw[C0,zi8];have s3:Same H2 (upd H2 q (.lst ((Ap kk (none:Option Nat)).map sv))):=Same.up hq';have e3:upd H2 q (.lst ((Ap kk (none:Option Nat)).map sv)) q=some (.lst ((Ap kk (none:Option Nat)).map sv)):=zaa;have hpq:p≠q:=λz=>by subst z;rw[s2 _ _ e1]at hq';cases hq'
   generalize upd H2 q (.lst ((Ap kk (none:Option Nat)).map sv))=H3 at s3 e3;have e13:=s3 _ _ (s2 _ _ e1);refine⟨p,q,_,_,rfl,rfl,e13,e3,?_,?_⟩
   .simp only[Ai,BY];exact BU (zbh (by lia))
   have hp2:H p=none:=hp;have s4:Same H (upd H3 p (.lst ((dgo wn (row.take i)).1.map sv++(Ap kk (none:Option Nat)).map sv))):=zam hp2 (s1.trans (s2.trans s3));have e4:upd H3 p (.lst ((dgo wn (row.take i)).1.map sv++(Ap kk (none:Option Nat)).map sv)) p=some (.lst ((dgo wn (row.take i)).1.map sv++(Ap kk (none:Option Nat)).map sv)):=zaa;generalize upd H3 p (.lst ((dgo wn (row.take i)).1.map sv++(Ap kk (none:Option Nat)).map sv))=H4 at s4 e4;refine⟨_,rfl,.inl ⟨rfl,_,SqL.of e4⟩,_,rfl,p,_,_,rfl,rfl,e4,?_,?_⟩
   .simp only[An,Ai,BY];exact zbh (by lia)
   have s5:Same H (upd H4 p (.lst (((dgo wn (row.take i)).1.map sv++(Ap kk (none:Option Nat)).map sv)++[V.int (row[i]:Nat)]))):=zam hp2 s4
   have e5:upd H4 p (.lst (((dgo wn (row.take i)).1.map sv++(Ap kk (none:Option Nat)).map sv)++[V.int (row[i]:Nat)])) p=some (.lst ((dgo wn (row.take (i+1))).1.map sv)):=by rw[zaa,hn];simp[sv]
   generalize upd H4 p (.lst (((dgo wn (row.take i)).1.map sv++(Ap kk (none:Option Nat)).map sv)++[V.int (row[i]:Nat)]))=H5 at s5 e5;refine⟨_,rfl,row[i],rfl,?_⟩;refine⟨_,rfl,_,_,rfl,rfl,(by show (0:Int)<2;decide),_,_,rfl,rfl,_,_,rfl,rfl,(by show (0:Int)<4;decide),?_⟩
   have ew:(((zbg row[i]:Nat):Int)-(row[i]:Int) % 2) % 4=((dgo wn (row.take (i+1))).2:Nat):=by rw[hn];show _=((wayB row[i]:Nat):Int);unfold wayB;lia
   refine⟨some (V.int (row[i]:Nat)),o5,?_,s5,e5⟩;exact congrArg (λz:Int=>[some (V.int (wn:Int)),some (V.ref b),some (V.int z),some (V.ref p),some (V.int (row[i]:Nat)),o5]) ew
  .rintro σ H1 ⟨o4,o5,rfl,s1,e1⟩;rw[hrl,AG]at e1;rw[hrl,AG];have hdl:=zgq row wn;have hdw:=zig row wn hw
   have fin:∀z:Int,z=(zaO wn row:Nat)->tRet (tOp rCat (tVar 3) (tOp rRep (tLst (tCons (tC .non) tNil)) (tVar 5))) { nx:=λ_ H'=>Q .non H',rt:=Q } [some (.int (wn:Int)),some (.ref b),some (.int ((dgo wn row).2:Nat)),some (.ref p),o4,some (.int z)] H1:=λz hz=>by
    have hll:zaO wn row<=4:=by
     unfold zaO;split
     .decide
     .exact BU (AU _ (by decide))
    refine⟨_,rfl,zg5,λl hl=>?_⟩;have s2:Same H1 (upd H1 l (.lst [.non])):=Same.up hl;have e2:upd H1 l (.lst [.non]) l=some (.lst [.non]):=zaa;generalize upd H1 l (.lst [.non])=H2 at s2 e2;subst hz;refine⟨_,rfl,l,_,_,rfl,rfl,e2,by lia,by lia,(BU (zal (by simp;lia))),λq hq'=>?_⟩;rw[C0,zi8];have s3:Same H2 (upd H2 q (.lst ((Ap (zaO wn row) (none:Option Nat)).map sv))):=Same.up hq';have e3:upd H2 q (.lst ((Ap (zaO wn row) (none:Option Nat)).map sv)) q=some (.lst ((Ap (zaO wn row) (none:Option Nat)).map sv)):=zaa;generalize upd H2 q (.lst ((Ap (zaO wn row) (none:Option Nat)).map sv))=H3 at s3 e3;refine⟨p,q,_,_,rfl,rfl,s3 _ _ (s2 _ _ e1),e3,?_,λx hx=>?_⟩
    .simp only[Ai,BY];exact BU (zbh (by lia))
    .have s13:=s1.trans (s2.trans s3);refine k x _ (s13.free hx) (s13.trans (Same.up hx)) ?_
     rw[zaa];unfold deeds;rw[AN]
   refine⟨_,rfl,_,.inr (.inl ⟨_,s1.seqT hq,rfl⟩),?_⟩
   by_cases he:row=[]
   .exact iteN (by rw[he];rfl) (fin 4 (by rw[he];rfl))
   .refine iteY (by cases row with |nil=>exact absurd rfl he |cons x r=>rfl) ⟨_,rfl,_,rfl,_,_,rfl,rfl,_,_,rfl,rfl,(by show (0:Int)<4;decide),fin _ ?_⟩
    have hl:zaO wn row=(wn+4-(dgo wn row).2) % 4:=by unfold zaO;rw[if_neg (by simpa using he)]
    rw[hl];lia
noncomputable def wby:Edge->List (Option Nat)->List (Edge×Option Nat)
 |_,[]=>[]
 |e,d::r=>(e,d)::wby (edgeB e d) r
noncomputable def eAt:Edge->List (Option Nat)->Edge
 |e,[]=>e
 |e,d::r=>eAt (edgeB e d) r
theorem zjc(d:Option Nat):∀(l:List (Option Nat)) (e:Edge),eAt e (l++[d])=edgeB (eAt e l) d
 |[],_=>rfl
 |_::l,e=>zjc d l _
theorem zis(d:Option Nat):∀(l:List (Option Nat)) (e:Edge),wby e (l++[d])=wby e l++[(eAt e l,d)]
 |[],_=>rfl
 |a::l,e=>by
  show (e,a)::wby (edgeB e a) (l++[d])=_;rw[zis d l];rfl
theorem zfg:∀(l:List (Option Nat)) (e:Edge),(wby e l).length=l.length
 |[],_=>rfl
 |a::l,e=>by show (wby (edgeB e a) l).length+1=_;rw[zfg l];rfl
theorem zl9{e:Edge}{o:Option Nat}(h:e.w<4):(edgeB e o).w<4:=by
 unfold edgeB
 cases o with
 |none=>exact AU _ (by decide)
 |some s=>simp only;split <;> simp only <;> lia
theorem zmI:∀(l:List (Option Nat)){e:Edge},e.w<4->(eAt e l).w<4
 |[],_,h=>h
 |_::l,_,h=>zmI l (zl9 h)
theorem zd8{C:Cell->Bool}:∀(es:List Edge){b:Edge},es[0]?=some b∨es=[]->(∀i e f,es[i]?=some e->es[i+1]?=some f->f=nxt C e)->wby b (es.map (stepB C))=wk C es
 |[],_,_,_=>rfl
 |e::r,b,h0,hs=>by
  have hb:e=b:=by rcases h0 with h |h;simpa using h;cases h
  subst hb;show (e,stepB C e)::wby (nxt C e) (r.map (stepB C))=(e,stepB C e)::wk C r;rw[zd8 r (b:=nxt C e) ?_ λi x y h1 h2=>hs (i+1) x y (by simpa using h1) (by simpa using h2)]
  cases r with
  |nil=>exact .inr rfl
  |cons f r=>exact .inl (by have:=hs 0 e f rfl rfl;rw[<- this];rfl)
noncomputable def ziA(K:W.Frag):Sp:=λvs H Q _=>∃(a l:Addr) (b:Edge) (ds:List (Option Nat)),vs=[.ref a,.ref l]/\H a=some (.tup (edgeT b))/\b.w<4/\H l=some (.lst (ds.map sv))/\(∀s,some s∈ds->s<8)/\ds.length<=3000 /\
 ∀p H' ws,H p=none->Same H H'->H' p=some (.lst ws)->VR ws (wby b ds) wR H'->Q (.ref p) H'
theorem zjD (g_edge_behind:Fn P w K mg base 2 "edge_behind" ["edge","step"] (zed K)) (d:Df K mg "walk_by" zem ["begin","deeds"]):FnOk P w K mg base CX0 3 d.f d.fd ["begin","deeds"] (ziA K):=by
 refine d.F.ok zb6 (λvs H Q E h=>?_) (λcdv A outer s H vs Q E hr h=>?_)
 .obtain⟨a,l,b,ds,rfl,_⟩:=h;rfl
 .obtain⟨a,l,b,ds,rfl,ha,hb,hl,h8,hlen,k⟩:=h
  refine⟨_,(zac (sE 2 zb6.nd (zba zab))
   (zac (sE 3 zb6.nd (pv 0))
   (zac (za4 AO rfl (zay (pv 1)) (nG 4 zb6.nd)
   (zac (zbN (pe_bm A0 Be Bg zbb (pv 2) (pa_T (zap (pa_N (pv 3) (pa_N (pv 4) zab))) zab)))
   (zaf (sE 3 zb6.nd (pC g_edge_behind hr (pa_N (pv 3) (pa_N (pv 4) zab)))))))
   (zaf (zai (pv 2)))))),?_⟩
  refine⟨(by show 0<=sizeLine;decide),λp hp=>?_⟩;have s0:Same H (upd H p (.lst [])):=Same.up hp;have e0:upd H p (.lst []) p=some (.lst []):=zaa;generalize upd H p (.lst [])=H0 at s0 e0;refine⟨_,rfl,_,rfl,l,rfl,⟨_,SqL.of (s0 _ _ hl)⟩,?_⟩
  refine zar (K:=K) (a:=l) (xs:=ds.map sv) (λi σ H1=>∃(c:Addr) (o4:Option V) (ws:List V),σ=[some (.ref a),some (.ref l),some (.ref p),some (.ref c),o4]/\Same H H1/\H1 c=some (.tup (edgeT (eAt b (ds.take i))))/\H1 p=some (.lst ws)/\VR ws (wby b (ds.take i)) wR H1)
   ⟨a,_,[],rfl,s0,s0 _ _ ha,e0,VR.nil⟩ (λi σ H1 _ ⟨_,_,_,_,s1,_⟩=>SqL.of (s1 _ _ hl)) ?_ ?_
  .rintro i v σ H1 hi ⟨c,o4,ws,rfl,s1,hc,e1,hv⟩;have hi':i<ds.length:=by have:=(Ac.mp hi).1;rwa [Ai]at this
   rw[Ak,Aa hi']at hi
   cases hi
   have tk:=zau (Aa hi');have wl:ws.length<=3000:=by rw[hv.1,zfg,AB];lia
   refine⟨_,rfl,.inl ⟨rfl,_,SqL.of e1⟩,_,rfl,_,rfl,two,λt ht=>?_⟩;have s2:Same H1 (upd H1 t (.tup [.ref c,sv ds[i]])):=Same.up ht;have e2:upd H1 t (.tup [.ref c,sv ds[i]]) t=some (.tup [.ref c,sv ds[i]]):=zaa;generalize upd H1 t (.tup [.ref c,sv ds[i]])=H2 at s2 e2;have e12:=s2 _ _ e1;refine⟨p,ws,_,rfl,rfl,e12,zbh (by lia),?_⟩;have kt3:KT H2 (upd H2 p (.lst (ws++[.ref t]))):=KT.lst e12;have s3:Same H (upd H2 p (.lst (ws++[.ref t]))):=zam hp (s1.trans s2);have e3:upd H2 p (.lst (ws++[.ref t])) p=some (.lst (ws++[.ref t])):=zaa;generalize upd H2 p (.lst (ws++[.ref t]))=H3 at kt3 s3 e3;have hc3:=kt3 _ _ (s2 _ _ hc);refine⟨_,rfl,_,rfl,c,eAt b (ds.take i),ds[i],rfl,SqT.of hc3,zmI _ hb,λz hz=>h8 z (hz ▸ AV _),λq H4 hq s4 e4=>?_⟩;refine⟨q,_,ws++[.ref t],rfl,s3.trans s4,?_,s4 _ _ e3,?_⟩
   .rw[tk,zjc];exact e4
   .rw[tk,zis];exact hv.snoc (λx v h=>((h.kt (KT.of s2)).kt kt3).kt (KT.of s4)) ⟨t,c,rfl,s4 _ _ (kt3 _ _ e2),s4 _ _ hc3⟩
  .rintro σ H1 ⟨c,o4,ws,rfl,s1,hc,e1,hv⟩;rw[Ai,AG]at hv;exact⟨_,rfl,k p H1 ws hp s1 e1 hv⟩
noncomputable def zec(K:W.Frag):Sp:=λvs H Q _=>∃(a b:Addr) (e:Edge) (row:List Nat),vs=[.ref a,.ref b]/\H a=some (.tup (edgeT e))/\e.w<4/\SqT K H b (rowV row)/\row.length<=500/\(∀s,some s∈deeds e.w row->s<8) /\
 ∀p H' ws,H p=none->Same H H'->H' p=some (.lst ws)->VR ws (wby e (deeds e.w row)) wR H'->Q (.ref p) H'
theorem zf6 (g_walk_by:Fn P w K mg base 3 "walk_by" ["begin","deeds"] (ziA K)) (g_deeds_along:Fn P w K mg base 2 "deeds_along" ["begin_way","row"] (zkk K)) (d:Df K mg "walk_along" zcv ["begin","row"]):FnOk P w K mg base CX0 4 d.f d.fd ["begin","row"] (zec K):=by
 refine d.F.ok zfR (λvs H Q E h=>?_) (λcdv A outer s H vs Q E hr h=>?_)
 .obtain⟨a,b,e,row,rfl,_⟩:=h;rfl
 .obtain⟨a,b,e,row,rfl,ha,hw,hq,hlen,h8,k⟩:=h;refine⟨_,(zaf (zai (pC g_walk_by hr (pa_N (pv 0) (zah (pC g_deeds_along hr (zah (pe_ix zaT (pv 0) zae (λ_ _=>rfl)) (pa_N (pv 1) zab))) zab))))),?_⟩;refine⟨_,rfl,_,rfl,a,_,_,_,rfl,rfl,SqT.of ha,zak (j:=2) rfl,_,rfl,e.w,b,row,rfl,hw,hq,hlen,λp H1 hp s1 e1=>?_⟩
  have hd:(deeds e.w row).length<=3000:=by
   unfold deeds;have:=zgq row e.w
   have:zaO e.w row<=4:=by
    unfold zaO;split
    .decide
    .exact BU (AU _ (by decide))
   simp only[An,BY];lia
  exact⟨a,p,e,_,rfl,s1 _ _ ha,hw,e1,h8,hd,λq H2 ws hq2 s2 e2 hv=>k q H2 ws (s1.free hq2) (s1.trans s2) e2 hv⟩
noncomputable def sR(q:Cell×Bool)(v:V)(H:Hp):Prop:=∃A b,v=.ref A/\H A=some (.tup [.ref b,.bl q.2])/\H b=some (.tup (cellT q.1))
theorem sR.kt{q:Cell×Bool}{v:V}{H H':Hp}(h:sR q v H)(s:KT H H'):sR q v H':=let ⟨A,b,e,q1,q2⟩:=h;⟨A,b,e,s _ _ q1,s _ _ q2⟩
noncomputable def zmp(K:W.Frag):Sp:=λvs H Q _=>∃(a:Addr) (C:Cell->Bool) (e:Edge),vs=[.ref a,sv (stepB C e)]/\H a=some (.tup (edgeT e))/\IsE C e /\
 ∀p H' ss L,H p=none->Same H H'->H' p=some (.lst ss)->VR ss L sR H'->(∀q∈L,C q.1=q.2)->L.length<=6->Q (.ref p) H'
theorem zer (g_edge_behind:Fn P w K mg base 2 "edge_behind" ["edge", "step"] (zed K)) (g_gap_beside:Fn P w K mg base 2 "gap_beside" ["edge"] (spGap K)) (g_is_slant:Fn P w K mg base 1 "is_slant" ["step"] zdf)
  (g_gone:Fn P w K mg base 1 "gone" ["x","y","step"] zgN) (g_slant_step:Fn P w K mg base 1 "slant_step" ["way"] zhK) (g_straight_step:Fn P w K mg base 1 "straight_step" ["way"] zdw)
  (d:Df K mg "seen_between" zbX ["edge","step"]):FnOk P w K mg base CX0 3 d.f d.fd ["edge","step"] (zmp K):=by
 refine d.F.ok zaR (λvs H Q E h=>?_) (λcdv A outer s H vs Q E hr h=>?_)
 .obtain⟨a,C,e,rfl,_⟩:=h;rfl
 .obtain⟨a,C,e,rfl,ha,hE,k⟩:=h
  refine⟨_,(zac (zbs (pv 0) (zaX (by rfl) (zag (nG 2 zaR.nd) (zag (nG 3 zaR.nd) (zag (nG 4 zaR.nd) zao)))))
   (zac (sE 5 zaR.nd (pC g_edge_behind hr (pa_N (pv 0) (pa_N (pv 1) zab))))
   (zac (sE 6 zaR.nd (zba (pa_T (zap (pa_T (zap (pa_N (pv 2) (pa_N (pv 3) zab))) (pa_C pe_bl zab))) (pa_T (zap (zah (pC g_gap_beside hr (pa_N (pv 0) zab)) (pa_C pe_bl zab))) (pa_T (zap (zah (zcK zkm (pv 5) zdD (zdC zae)) (pa_C pe_bl zab))) (pa_T (zap (zah (pC g_gap_beside hr (pa_N (pv 5) zab)) (pa_C pe_bl zab))) zab))))))
   (zac (ps_if (zeo (zcQ (pC g_is_slant hr (pa_N (pv 1) zab))))
   (zaf (zbN (pe_bm A0 Be Bg zbb (pv 6) (pa_T (zap (zah (pC g_gone hr (pa_N (pv 2) (pa_N (pv 3) (zah (pC g_slant_step hr (pa_N (pv 4) zab)) zab)))) (pa_C pe_bl zab))) zab))))
   zat)
   (zac (ps_if (zas zdn (pv 1) zaY (zaq _))
   (zaf (zbN (pe_bm A0 Be Bg zbb (pv 6) (pa_T (zap (zah (pC g_gone hr (pa_N (pv 2) (pa_N (pv 3) (zah (pC g_straight_step hr (pa_N (pv 4) zab)) zab)))) (pa_C pe_bl zab))) zab))))
   zat)
   (zaf (zai (pv 6)))))))),?_⟩
  have hw:=hE.1;have hN:=zdN hE;refine⟨_,rfl,a,_,rfl,SqT.of ha,rfl,_,_,rfl,_,_,rfl,_,_,rfl,rfl,?_⟩;refine⟨_,rfl,_,rfl,a,e,stepB C e,rfl,SqT.of ha,hw,zcH hw,λp1 H1 hp1 s1 e1=>?_⟩;change H1 p1=some (.tup (edgeT (nxt C e))) at e1;refine⟨_,rfl,_,rfl,two,λt1 ht1=>⟨two,λt2 ht2=>?_⟩⟩;have s2:Same H1 (upd (upd H1 t1 (.tup [.int e.c.1,.int e.c.2])) t2 (.tup [.ref t1,.bl true])):=(Same.up ht1).trans (Same.up ht2);have r1:sR (e.c,true) (.ref t2) (upd (upd H1 t1 (.tup [.int e.c.1,.int e.c.2])) t2 (.tup [.ref t1,.bl true])):=⟨t2,t1,rfl,zaa,by rw[zaj (λz=>by subst z;rw[zaa]at ht2;cases ht2),zaa];rfl⟩;generalize upd (upd H1 t1 (.tup [.int e.c.1,.int e.c.2])) t2 (.tup [.ref t1,.bl true])=H2 at s2 r1;refine⟨_,rfl,a,e,rfl,SqT.of ((s1.trans s2) _ _ ha),hw,λp3 H3 hp3 s3 e3=>⟨two,λt3 ht3=>?_⟩⟩;have s4:Same H3 (upd H3 t3 (.tup [.ref p3,.bl false])):=Same.up ht3;have r2:sR (gap e,false) (.ref t3) (upd H3 t3 (.tup [.ref p3,.bl false])):=⟨t3,p3,rfl,zaa,s4 _ _ e3⟩;generalize upd H3 t3 (.tup [.ref p3,.bl false])=H4 at s4 r2;have s14:=s2.trans (s3.trans s4);have e14:=s14 _ _ e1;have hs1:HT.sIx 3 3 (some 2)=2:=by decide
  refine⟨_,rfl,_,rfl,p1,_,rfl,SqT.of e14,λhx=>absurd (show (3:Nat)=2 from hx.2.symm.trans hs1) (by decide),λ_ t5 ht5=>⟨two,λt6 ht6=>?_⟩⟩;have ec:cutV (edgeT (nxt C e)) none (some 2)=cellT (nxt C e).c:=rfl;have s6:Same H4 (upd (upd H4 t5 (.tup (cutV (edgeT (nxt C e)) none (some 2)))) t6 (.tup [.ref t5,.bl true])):=(Same.up ht5).trans (Same.up ht6);have r3:sR ((nxt C e).c,true) (.ref t6) (upd (upd H4 t5 (.tup (cutV (edgeT (nxt C e)) none (some 2)))) t6 (.tup [.ref t5,.bl true])):=⟨t6,t5,rfl,zaa,by rw[zaj (λz=>by subst z;rw[zaa]at ht6;cases ht6),zaa,ec]⟩;generalize upd (upd H4 t5 (.tup (cutV (edgeT (nxt C e)) none (some 2)))) t6 (.tup [.ref t5,.bl true])=H6 at s6 r3;refine⟨_,rfl,p1,nxt C e,rfl,SqT.of (s6 _ _ e14),hN.1,λp7 H7 hp7 s7 e7=>⟨two,λt7 ht7=>?_⟩⟩;have s8:Same H7 (upd H7 t7 (.tup [.ref p7,.bl false])):=Same.up ht7;have r4:sR (gap (nxt C e),false) (.ref t7) (upd H7 t7 (.tup [.ref p7,.bl false])):=⟨t7,p7,rfl,zaa,s8 _ _ e7⟩;generalize upd H7 t7 (.tup [.ref p7,.bl false])=H8 at s8 r4;refine⟨(by show 4<=sizeLine;decide),λl hl=>?_⟩;have s48:=s6.trans (s7.trans s8);have s28:=s3.trans (s4.trans s48);have s08:=s1.trans (s2.trans s28);have kl:KT H8 (upd H8 l (.lst [.ref t2,.ref t3,.ref t6,.ref t7])):=KT.up hl;have sl:Same H (upd H8 l (.lst [.ref t2,.ref t3,.ref t6,.ref t7])):=s08.trans (Same.up hl);have el:upd H8 l (.lst [.ref t2,.ref t3,.ref t6,.ref t7]) l=some (.lst [.ref t2,.ref t3,.ref t6,.ref t7]):=zaa;have hl0:H l=none:=s08.free hl
  have hv:VR [.ref t2,.ref t3,.ref t6,.ref t7] [(e.c,true),(gap e,false),((nxt C e).c,true),(gap (nxt C e),false)] sR (upd H8 l (.lst [.ref t2,.ref t3,.ref t6,.ref t7])) :=
   VR.cons.mpr ⟨(r1.kt (KT.of s28)).kt kl,VR.cons.mpr ⟨(r2.kt (KT.of s48)).kt kl,VR.cons.mpr ⟨(r3.kt (KT.of (s7.trans s8))).kt kl,VR.cons.mpr ⟨r4.kt kl,VR.nil⟩⟩⟩⟩
  generalize upd H8 l (.lst [.ref t2,.ref t3,.ref t6,.ref t7])=H9 at kl sl el hv
  have hL:∀q∈[(e.c,true),(gap e,false),((nxt C e).c,true),(gap (nxt C e),false)],C q.1=q.2:=by
   intro q hq;simp only[Aw,B6,or_false]at hq;rcases hq with rfl |rfl |rfl |rfl
   .exact hE.2.1
   .exact hE.2.2
   .exact hN.2.1
   .exact hN.2.2
  rcases zaI hE with⟨c1,hs,_⟩ |⟨c1,c2,hs,_⟩ |⟨c1,c2,hs,_⟩ <;> rw[hs]
  .refine⟨_,rfl,some ((2*e.w+7) % 8),rfl,_,rfl,?_⟩;have:slant (some ((2*e.w+7) % 8))=true:=by show ((2*e.w+7) % 8 % 2 == 1)=true;rw[odd7];rfl
   rw[this];refine iteF ?_
   refine⟨_,rfl,rfl,_,rfl,iteF ?_⟩;exact⟨_,rfl,k l H9 _ _ hl0 sl el hv hL (by show 4<=6;decide)⟩
  .refine⟨_,rfl,some (2*e.w),rfl,_,rfl,?_⟩;have:slant (some (2*e.w))=false:=by show ((2*e.w) % 2 == 1)=false;rw[show 2*e.w % 2=0 by lia];rfl
   rw[this];refine iteT ?_
   refine⟨_,rfl,.inl ⟨rfl,_,SqL.of el⟩,_,rfl,_,rfl,_,rfl,e.w,rfl,hw,e.c,(2*e.w+7) % 8,rfl,AU _ (by decide),λp10 H10 hp10 s10 e10=>⟨two,λt11 ht11=>?_⟩⟩;have s11:Same H10 (upd H10 t11 (.tup [.ref p10,.bl false])):=Same.up ht11;have r5:sR (go e.c ((2*e.w+7) % 8),false) (.ref t11) (upd H10 t11 (.tup [.ref p10,.bl false])):=⟨t11,p10,rfl,zaa,s11 _ _ e10⟩;generalize upd H10 t11 (.tup [.ref p10,.bl false])=H11 at s11 r5;have el11:=(s10.trans s11) _ _ el;refine⟨l,_,_,rfl,rfl,el11,zbh (by show 4<=5000;decide),?_⟩;have kt12:KT H11 (upd H11 l (.lst ([.ref t2,.ref t3,.ref t6,.ref t7]++[.ref t11]))):=KT.lst el11;have s12:Same H (upd H11 l (.lst ([.ref t2,.ref t3,.ref t6,.ref t7]++[.ref t11]))):=zam hl0 (sl.trans (s10.trans s11));have e12:upd H11 l (.lst ([.ref t2,.ref t3,.ref t6,.ref t7]++[.ref t11])) l=some (.lst ([.ref t2,.ref t3,.ref t6,.ref t7]++[.ref t11])):=zaa;have hv12:=hv.snoc (λx v h=>(h.kt (KT.of (s10.trans s11))).kt kt12) (r5.kt kt12);generalize upd H11 l (.lst ([.ref t2,.ref t3,.ref t6,.ref t7]++[.ref t11]))=H12 at kt12 s12 e12 hv12;refine⟨_,rfl,rfl,_,rfl,iteF ?_⟩;refine⟨_,rfl,k l H12 _ _ hl0 s12 e12 hv12 (λq hq=>?_) (by show 5<=6;decide)⟩;rcases AH.mp hq with m |m
   .exact hL q m
   .rw[Am.mp m];exact c1
  .refine⟨_,rfl,none,rfl,_,rfl,iteT ?_⟩;refine⟨_,rfl,.inl ⟨rfl,_,SqL.of el⟩,_,rfl,_,rfl,_,rfl,e.w,rfl,hw,e.c,(2*e.w+7) % 8,rfl,AU _ (by decide),λp10 H10 hp10 s10 e10=>⟨two,λt11 ht11=>?_⟩⟩;have s11:Same H10 (upd H10 t11 (.tup [.ref p10,.bl false])):=Same.up ht11;have r5:sR (go e.c ((2*e.w+7) % 8),false) (.ref t11) (upd H10 t11 (.tup [.ref p10,.bl false])):=⟨t11,p10,rfl,zaa,s11 _ _ e10⟩;generalize upd H10 t11 (.tup [.ref p10,.bl false])=H11 at s11 r5;have el11:=(s10.trans s11) _ _ el;refine⟨l,_,_,rfl,rfl,el11,zbh (by show 4<=5000;decide),?_⟩;have kt12:KT H11 (upd H11 l (.lst ([.ref t2,.ref t3,.ref t6,.ref t7]++[.ref t11]))):=KT.lst el11;have s12:Same H (upd H11 l (.lst ([.ref t2,.ref t3,.ref t6,.ref t7]++[.ref t11]))):=zam hl0 (sl.trans (s10.trans s11));have e12:upd H11 l (.lst ([.ref t2,.ref t3,.ref t6,.ref t7]++[.ref t11])) l=some (.lst ([.ref t2,.ref t3,.ref t6,.ref t7]++[.ref t11])):=zaa;have hv12:=hv.snoc (λx v h=>(h.kt (KT.of (s10.trans s11))).kt kt12) (r5.kt kt12);generalize upd H11 l (.lst ([.ref t2,.ref t3,.ref t6,.ref t7]++[.ref t11]))=H12 at kt12 s12 e12 hv12;refine⟨_,rfl,rfl,_,rfl,iteT ?_⟩;refine⟨_,rfl,.inl ⟨rfl,_,SqL.of e12⟩,_,rfl,_,rfl,_,rfl,e.w,rfl,hw,e.c,2*e.w,rfl,by lia,λp13 H13 hp13 s13 e13=>⟨two,λt14 ht14=>?_⟩⟩;have s14':Same H13 (upd H13 t14 (.tup [.ref p13,.bl false])):=Same.up ht14;have r6:sR (go e.c (2*e.w),false) (.ref t14) (upd H13 t14 (.tup [.ref p13,.bl false])):=⟨t14,p13,rfl,zaa,s14' _ _ e13⟩;generalize upd H13 t14 (.tup [.ref p13,.bl false])=H14 at s14' r6;have e14':=(s13.trans s14') _ _ e12;refine⟨l,_,_,rfl,rfl,e14',zbh (by show 5<=5000;decide),?_⟩;have kt15:KT H14 (upd H14 l (.lst (([.ref t2,.ref t3,.ref t6,.ref t7]++[.ref t11])++[.ref t14]))):=KT.lst e14';have s15:Same H (upd H14 l (.lst (([.ref t2,.ref t3,.ref t6,.ref t7]++[.ref t11])++[.ref t14]))):=zam hl0 (s12.trans (s13.trans s14'));have e15:upd H14 l (.lst (([.ref t2,.ref t3,.ref t6,.ref t7]++[.ref t11])++[.ref t14])) l=some (.lst (([.ref t2,.ref t3,.ref t6,.ref t7]++[.ref t11])++[.ref t14])):=zaa;have hv15:=hv12.snoc (λx v h=>(h.kt (KT.of (s13.trans s14'))).kt kt15) (r6.kt kt15);refine⟨_,rfl,k l _ _ _ hl0 s15 e15 hv15 (λq hq=>?_) (by show 6<=6;decide)⟩;rcases AH.mp hq with m |m
   .rcases AH.mp m with m |m
    .exact hL q m
    .rw[Am.mp m];exact c1
   .rw[Am.mp m];exact c2
noncomputable def Known(C:Cell->Bool)(kvs:List (List Key×V)):Prop:=∀c v,valV kvs (kC c)=some v->v=.bl (C c)
noncomputable def zfo(K:W.Frag):Sp:=λvs H Q _=>∃(a:Addr) (C:Cell->Bool) (es:List Edge),vs=[.ref a]/\LR K H a (wk C es) wR/\(∀e∈es,IsE C e)/\es.length<=500/\∀H',Same H H'->Q .non H'
theorem ze0 (g_seen_between:Fn P w K mg base 3 "seen_between" ["edge","step"] (zmp K)) (d:Df K mg "gainsaid_at" zci ["walk"]):FnOk P w K mg base CX0 4 d.f d.fd ["walk"] (zfo K):=by
 refine d.F.ok zaC (λvs H Q E h=>?_) (λcdv A outer s H vs Q E hr h=>?_)
 .obtain⟨a,C,es,rfl,_⟩:=h;rfl
 .obtain⟨a,C,es,rfl,hLR,hE,hlen,k⟩:=h;have hu1:=hu_of hr
  refine⟨_,(zac (sE 1 zaC.nd zd3)
   (zac (sE 2 zaC.nd zae)
   (zac (za4 AO rfl (zay (pv 0)) (zaX (by rfl) (zag (nG 3 zaC.nd) (zag (nG 4 zaC.nd) zao)))
   (zac (za4 AO rfl (zay (pC g_seen_between hr (pa_N (pv 3) (pa_N (pv 4) zab)))) (zaX (by rfl) (zag (nG 5 zaC.nd) (zag (nG 6 zaC.nd) zao)))
   (zaf (ps_if (zas op_ne (zlQ hu1 (pv 1) (pv 5) (pv 6) ⟨rfl,rfl,rfl,rfl⟩) (pv 6) (zaq _))
   (zaf (zai (pv 2)))
   zat)))
   (zaf (ps_if (zas zeq (pv 4) zaY (zaq _))
   (zaf (znK (i:=2) zaC.nd (by rfl) (Or.inl rfl) zae zn4))
   zat))))
   (zaf (zai zaY))))),?_⟩
  obtain⟨ws,hq,hv⟩:=hLR.vr;have hwl:ws.length=es.length:=by rw[hv.1,zaK]
  refine λdd hdd=>?_
  have s0:Same H (upd H dd (.dT [])):=Same.up hdd;have d0:upd H dd (.dT []) dd=some (.dT []):=zaa;generalize upd H dd (.dT [])=H0 at s0 d0;refine⟨_,rfl,a,rfl,⟨_,s0.seq hq⟩,?_⟩
  refine zar (K:=K) (a:=a) (xs:=ws) (λi σ H1=>∃(n:Int) (o3 o4 o5 o6:Option V) (kvs:List (List Key×V)),σ=[some (.ref a),some (.ref dd),some (.int n),o3,o4,o5,o6]/\Same H H1/\H1 dd=some (.dT kvs)/\Known C kvs/\kvs.length<=6*i)
   ⟨_,_,_,_,_,[],rfl,s0,d0,(λc v h=>by cases h),A5 _⟩ (λi σ H1 _ ⟨_,_,_,_,_,_,_,s1,_⟩=>s1.seq hq) ?_ ?_
  .rintro i v σ H1 hi ⟨n,o3,o4,o5,o6,kvs,rfl,s1,d1,hk,hkl⟩;obtain⟨⟨e,st⟩,he,B,b,rfl,q1,q2⟩:=hv.at hi;have hi':i<es.length:=by rw[<- hwl];exact (Ac.mp hi).1
   have he':es[i]?=some e/\st=stepB C e:=by
    unfold wk at he;rw[Ak]at he;obtain⟨g,hg,eg⟩:=AA.mp he
    cases eg
    exact⟨hg,rfl⟩
   obtain⟨he1,rfl⟩:=he';have hEe:=hE e (Af he1);refine⟨B,_,rfl,SqT.of (s1 _ _ q1),rfl,_,_,rfl,_,_,rfl,rfl,?_⟩;refine⟨_,rfl,_,rfl,b,C,e,rfl,s1 _ _ q2,hEe,λp H2 ss L hp s2 e2 hs2 hL hLl=>?_⟩;have hpd:p≠dd:=λz=>by subst z;rw[d1]at hp;cases hp
   have d2:=s2 _ _ d1;refine⟨p,rfl,⟨_,SqL.of e2⟩,?_⟩
   refine zar (K:=K) (a:=p) (xs:=ss) (λj σ H3=>∃(o5 o6:Option V) (kv3:List (List Key×V)),σ=[some (.ref a),some (.ref dd),some (.int n),some (.ref b),some (sv (stepB C e)),o5,o6]/\(∀z o,z≠dd->H2 z=some o->H3 z=some o)/\H3 dd=some (.dT kv3)/\Known C kv3/\kv3.length<=6*i+j)
    ⟨_,_,kvs,rfl,(λz o _ h=>h),d2,hk,by lia⟩ (λj σ H3 _ ⟨_,_,_,_,k3,_⟩=>SqL.of (k3 _ _ hpd e2)) ?_ ?_
   .rintro j u σ H3 hj ⟨o5,o6,kv3,rfl,k3,d3,hk3,hl3⟩;obtain⟨⟨c,t⟩,hq',A2,b2,rfl,r1,r2⟩:=hs2.at hj;have hjl:j<L.length:=by rw[<- hs2.1];exact (Ac.mp hj).1
    have hct:C c=t:=hL _ (Af hq');have nA:A2≠dd:=ne_of r1 d2 (λz=>nomatch z);have nb:b2≠dd:=ne_of r2 d2 (λz=>nomatch z);refine⟨A2,_,rfl,SqT.of (k3 _ _ nA r1),rfl,_,_,rfl,_,_,rfl,rfl,?_⟩;refine⟨_,rfl,dd,rfl,.inr ⟨_,Rd.of d3⟩,_,rfl,_,rfl,kv3,kC c,b2,d3,rfl,k3 _ _ nb r2,zbh (by lia),λv hv'=>?_,λhn=>?_⟩
    .have hv2:v=.bl t:=by rw[hk3 c v hv',hct]
     subst hv2;refine⟨_,rfl,rfl,_,rfl,iteN (by simp) ?_⟩;exact⟨_,_,kv3,rfl,k3,d3,hk3,by lia⟩
    .refine⟨_,rfl,rfl,_,rfl,iteN (by simp) ?_⟩;refine⟨_,_,putK kv3 (kC c) (.bl t),rfl,(λz o hz h=>by rw[zaj hz];exact k3 z o hz h),zaa,(λc' v' hv'=>?_),Bb (za3 _ _ _) (by lia)⟩;rw[zfI]at hv'
     by_cases ec:c'=c
     .subst ec;rw[if_pos rfl]at hv'
      cases hv'
      rw[hct]
     .rw[if_neg (λz=>ec (zi5.mp z))]at hv';exact hk3 c' v' hv'
   .rintro σ H3 ⟨o5,o6,kv3,rfl,k3,d3,hk3,hl3⟩;have s3:Same H H3:=λz o h=>k3 z o (zan h hdd) (s2 _ _ (s1 _ _ h))
    have hl4:kv3.length<=6*(i+1):=by have:=hs2.1;lia
    cases hst:stepB C e with
    |none =>
     refine⟨_,rfl,rfl,_,rfl,iteF ?_⟩;exact⟨_,_,_,_,_,kv3,rfl,s3,d3,hk3,hl4⟩
    |some z =>
     refine⟨_,rfl,rfl,_,rfl,iteT ?_⟩;refine⟨_,rfl,_,_,rfl,rfl,?_⟩;exact⟨_,_,_,_,_,kv3,rfl,s3,d3,hk3,hl4⟩
  .rintro σ H1 ⟨n,o3,o4,o5,o6,kvs,rfl,s1,d1,hk,hkl⟩;exact k H1 s1
theorem zmc{α:Type}{xs:List α}(h:0<xs.length):atI xs (-1)=xs[xs.length-1]?:=by unfold atI ixN;rw[if_neg (by decide),if_pos (by lia)];show xs[((-1:Int)+xs.length).toNat]?=_;rw[show ((-1:Int)+xs.length).toNat=xs.length-1 by lia]
noncomputable def zkl(K:W.Frag):Sp:=λvs H Q _=>∃(a:Addr) (C:Cell->Bool) (b:Edge) (es:List Edge),vs=[.ref a]/\LR K H a (wk C es) wR/\Closed C b es/\es.length<=500/\∀H',Same H H'->Q (.bl true) H'
theorem zgc (g_edge_behind:Fn P w K mg base 2 "edge_behind" ["edge","step"] (zed K)) (d:Df K mg "comes_back" zcy ["walk"]):FnOk P w K mg base CX0 3 d.f d.fd ["walk"] (zkl K):=by
 refine d.F.ok zcc (λvs H Q E h=>?_) (λcdv A outer s H vs Q E hr h=>?_)
 .obtain⟨a,C,b,es,rfl,_⟩:=h;rfl
 .obtain⟨a,C,b,es,rfl,hLR,hcl,hlen,k⟩:=h;have hu64:=hr.units
  refine⟨_,(zac (zbs (pe_ix zaA (pv 0) (pe_un zgH zae) (λ_ _=>rfl)) (zaX (by rfl) (zag (nG 1 zcc.nd) (zag (nG 2 zcc.nd) zao))))
   (zaf (zai (zbf (ziS hu64) (pC g_edge_behind hr (pa_N (pv 1) (pa_N (pv 2) zab))) (pe_ix zaT (pe_ix zaA (pv 0) zae (λ_ _=>rfl)) zae (λ_ _=>rfl)) (zaq _))))),?_⟩
  obtain⟨ws,hq,hv⟩:=hLR.vr;have hwl:ws.length=es.length:=by rw[hv.1,zaK]
  have hp:=hcl.pos;obtain⟨hch,l,hl,hb⟩:=id hcl;obtain⟨v1,hv1⟩:∃v,ws[ws.length-1]?=some v:=⟨_,Aa (by lia)⟩;obtain⟨⟨e1,st1⟩,he1,B1,b1,rfl,q1,q2⟩:=hv.at hv1;obtain⟨v0,hv0⟩:∃v,ws[0]?=some v:=⟨_,Aa (by lia)⟩;obtain⟨⟨e0,st0⟩,he0,B0,b0,rfl,r1,r2⟩:=hv.at hv0
  have h1:e1=l/\st1=stepB C l:=by
   unfold wk at he1;rw[hwl,Ak,hl]at he1
   cases he1;exact⟨rfl,rfl⟩
  obtain⟨rfl,rfl⟩:=h1
  have h0:e0=b:=by
   unfold wk at he0;rw[Ak,hch.1]at he0
   cases he0;rfl
  subst h0;have hEl:IsE C e1:=hch.2.2.1 e1 (Af hl);refine⟨_,rfl,_,rfl,a,ws,_,_,rfl,rfl,hq,(zmc (by lia)).trans hv1,?_⟩;refine⟨B1,_,rfl,SqT.of q1,rfl,_,_,rfl,_,_,rfl,rfl,?_⟩;refine⟨_,rfl,_,rfl,b1,e1,stepB C e1,rfl,SqT.of q2,hEl.1,zcH hEl.1,λp H1 hp1 s1 f1=>?_⟩;refine⟨_,rfl,a,ws,_,_,rfl,rfl,s1.seq hq,(zak (j:=0) hv0),B0,_,_,_,rfl,rfl,SqT.of (s1 _ _ r1),zak (j:=0) rfl,?_⟩;refine⟨_,_,zcB f1,zcB (s1 _ _ r2),za6 _,za6 _,?_⟩;rw[zeF,decide_eq_true (by show eI (nxt C e1)=eI e0;rw[hb])];exact k H1 s1
theorem nL_wk(C:Cell->Bool)(es:List Edge):nL (wk C es)=(es.filter λe=>(stepB C e).isNone).length:=by unfold nL wk;rw[List.filter_map,Ai];rfl
theorem nS_wk(C:Cell->Bool)(es:List Edge):nS (wk C es)=(es.filter λe=>slant (stepB C e)).length:=by unfold nS wk;rw[List.filter_map,Ai];rfl
theorem zj1{C:Cell->Bool}{b:Edge}{es:List Edge}(h:Closed C b es):(nL (wk C es):Int)-nS (wk C es)=4∨(nL (wk C es):Int)-nS (wk C es)=-4:=by rw[nL_wk,nS_wk,<- zfL];exact h.turning
noncomputable def zfn(K:W.Frag):Sp:=λvs H Q _=>∃(a:Addr) (C:Cell->Bool) (b:Edge) (es:List Edge),vs=[.ref a,.str (sortS (wk C es))]/\LR K H a (wk C es) wR/\Closed C b es/\es.length<=500/\∀H',Same H H'->Q (.bl true) H'
theorem zg9 (T:Txt P w K mg) (g_comes_back:Fn P w K mg base 3 "comes_back" ["walk"] (zkl K)) (g_lefts_less_slants:Fn P w K mg base 3 "lefts_less_slants" ["walk"] (zkh K)) (d:Df K mg "is_closed" zcX ["walk","sort"]):FnOk P w K mg base CX0 4 d.f d.fd ["walk","sort"] (zfn K):=by
 refine d.F.ok zgU (λvs H Q E h=>?_) (λcdv A outer s H vs Q E hr h=>?_)
 .obtain⟨a,C,b,es,rfl,_⟩:=h;rfl
 .obtain⟨a,C,b,es,rfl,hLR,hcl,hlen,k⟩:=h;refine⟨_,(zaf (zai (ziQ (pC g_comes_back hr (pa_N (pv 0) zab)) (zfu (zbf op_eq (pC g_lefts_less_slants hr (pa_N (pv 0) zab)) (znN (by rfl) T.more (pv 1)) (zaq _)))))),?_⟩;refine⟨_,rfl,a,C,b,es,rfl,hLR,hcl,hlen,λH1 s1=>⟨_,rfl,iteT ?_⟩⟩;refine⟨_,rfl,a,wk C es,rfl,hLR.same s1 (λx v h=>h.same s1),by rw[zaK];lia,λH2 s2=>⟨_,rfl,?_⟩⟩;rcases zj1 hcl with t |t
  .refine .inl ⟨?_,rfl,?_⟩
   .unfold sortS;rw[if_pos (by lia)]
   .rw[t,decide_eq_true rfl];exact k H2 (s1.trans s2)
  .refine .inr ⟨?_,rfl,?_⟩
   .unfold sortS;rw[if_neg (by lia)]
   .rw[t,decide_eq_true rfl];exact k H2 (s1.trans s2)
theorem IsRnd.walk{C:Cell -> Bool}{b:Edge}{es:List Edge}{r:Rnd}(h:Closed C b es)(k:IsRnd (wk C es) r) :
  ∃es',Closed C (begE r) es'/\es'.Perm es/\r.row=(es'.map (stepB C)).filterMap id/\zcp (wk C es') r.so (begE r)/\r.so=sortS (wk C es')/\IsRnd (wk C es') r:=by
 obtain⟨r0,j,f,rf,⟨rb,rw',rl⟩,rx,ry,rr⟩:=id k;rw[zbE]at rf rb rl
 have ef:begE r=f:=by obtain⟨⟨x,y⟩,w⟩:=f;unfold begE;rw[rx,ry,r0];simp only at rw' ⊢;rw[rw']
 have h1:=h.rot j rf;have pm:=ziI es j;have ss:=zjv (C:=C) pm
 have hrow:r.row=((es.drop j++es.take j).map (stepB C)).filterMap id:=by rw[rr];unfold wk;rw[<- List.map_drop,<- List.map_take,<- AN,CO,CO];rfl
 have hb:zcp (wk C (es.drop j++es.take j)) r.so f:=⟨by rw[zbE];exact pm.mem_iff.mpr rb,by rw[rw',r0],λg hg hw=>by rw[zbE]at hg;exact rl g (pm.mem_iff.mp hg) (by rw[hw,r0])⟩
 rw[ef];refine⟨_,h1,pm,hrow,hb,by rw[r0,ss],by rw[r0,ss],0,f,by rw[zbE];exact h1.1.1,by rw[ss,<- r0];exact hb,rx,ry,?_⟩;rw[hrow,List.drop_zero,List.take_zero,BL];unfold wk;rw[CO,CO];rfl
noncomputable def zfN(K:W.Frag):Sp:=λvs H Q _=>∃(v:V) (r:Rnd) (C:Cell->Bool) (es:List Edge),vs=[v]/\rR r v H/\Closed C (begE r) es/\r.row=(es.map (stepB C)).filterMap id/\zcp (wk C es) r.so (begE r)/\r.so=sortS (wk C es)/\es.length<=500 /\
 ∀p H' ws,H p=none->Same H H'->H' p=some (.lst ws)->VR ws (wk C es) wR H'->Q (.ref p) H'
theorem zjC (g_begin_edge:Fn P w K mg base 1 "begin_edge" ["one"] zgO) (g_walk_along:Fn P w K mg base 4 "walk_along" ["begin", "row"] (zec K)) (g_gainsaid_at:Fn P w K mg base 4 "gainsaid_at" ["walk"] (zfo K))
  (g_is_closed:Fn P w K mg base 4 "is_closed" ["walk","sort"] (zfn K)) (g_begin_of:Fn P w K mg base 3 "begin_of" ["walk","sort"] (zhL K)) (d:Df K mg "walk_of" zel ["one"]):FnOk P w K mg base CX0 5 d.f d.fd ["one"] (zfN K):=by
 refine d.F.ok zbi (λvs H Q E h=>?_) (λcdv A outer s H vs Q E hr h=>?_)
 .obtain⟨v,r,C,es,rfl,_⟩:=h;rfl
 .obtain⟨v,r,C,es,rfl,hv,hcl,hrow,hbg,hso,hlen,k⟩:=h;have hu64:=hr.units
  refine⟨_,(zac (zbs (pv 0) (zaX (by rfl) (zag (nG 1 zbi.nd) (zag (nG 2 zbi.nd) (zag (nG 3 zbi.nd) (zag (nG 4 zbi.nd) zao))))))
   (zac (sE 5 zbi.nd (pC g_begin_edge hr (pa_N (pv 0) zab)))
   (zac (sE 6 zbi.nd (pC g_walk_along hr (pa_N (pv 5) (pa_N (pv 4) zab))))
   (zac (sE 7 zbi.nd (pC g_gainsaid_at hr (pa_N (pv 6) zab)))
   (zac (ps_if (zas zeq (pv 7) zaY (zaq _))
   (zaf zf2)
   zat)
   (zac (ps_if (pw_or (zeo (zcQ (pC g_is_closed hr (pa_N (pv 6) (pa_N (pv 1) zab))))) (zkA (zas (zkJ hu64) (pC g_begin_of hr (pa_N (pv 6) (pa_N (pv 1) zab))) (pv 5) (zaq _)))).pt
   (zaf zf2)
   zat)
   (zaf (zai (pv 6))))))))),?_⟩
  obtain⟨a,b,rfl,q1,q2⟩:=id hv;have hE:IsE C (begE r):=hcl.1.2.2.1 _ (Af hcl.1.1);have so2:r.so = "rim" ∨ r.so = "hole":=by rw[hso];exact zdh _
  have hrl:r.row.length<=500:=by rw[hrow];exact Bb (List.length_filterMap_le _ _) (by rw[Ai];exact hlen)
  have hdd:deeds (begE r).w r.row=es.map (stepB C):=by rw[hrow];exact hcl.deeds.symm
  refine⟨_,rfl,a,_,rfl,SqT.of q1,rfl,_,_,rfl,_,_,rfl,_,_,rfl,_,_,rfl,rfl,?_⟩;refine⟨_,rfl,.ref a,r,rfl,hv,so2,λp1 H1 hp1 s1 e1=>?_⟩;refine⟨_,rfl,_,rfl,p1,b,begE r,r.row,rfl,e1,hE.1,SqT.of (s1 _ _ q2),hrl,(λz hz=>?_),λp H2 ws hp s2 e2 hw=>?_⟩
  .rw[hdd]at hz;obtain⟨e,he,ez⟩:=Aq.mp hz;exact zcH (hcl.1.2.2.1 e he).1 z ez
  rw[hdd,zd8 es (.inl hcl.1.1) hcl.1.2.1]at hw;have lr:LR K H2 p (wk C es) wR:=LR.of e2 hw;refine⟨_,rfl,p,C,es,rfl,lr,hcl.1.2.2.1,hlen,λH3 s3=>?_⟩;refine⟨_,rfl,rfl,_,rfl,iteF ?_⟩;have lr3:=lr.same s3 (λx v h=>h.same s3);refine⟨_,rfl,_,rfl,p,C,begE r,es,(by rw[<- hso];rfl),lr3,hcl,hlen,λH4 s4=>⟨_,rfl,iteF ?_⟩⟩;have lr4:=lr3.same s4 (λx v h=>h.same s4);refine⟨_,rfl,_,rfl,p,wk C es,r.so,rfl,so2,lr4,by rw[zaK];lia,⟨begE r,hbg.1,hbg.2.1⟩,λb5 e5 H5 s5 f5 ib=>?_⟩;have ee:e5=begE r:=ib.one (List.Perm.refl _) hbg;subst ee;have s25:=s3.trans (s4.trans s5);refine⟨_,rfl,_,_,zcB f5,zcB ((s2.trans s25) _ _ e1),za6 _,za6 _,_,rfl,iteN (by rw[zeF,decide_eq_true rfl];rfl) ?_⟩;refine⟨_,rfl,k p H5 ws (s1.free hp) (s1.trans (s2.trans s25)) (s25 _ _ e2) (hw.mono λx v h=>h.same s25)⟩
noncomputable def qC(c:Cell):Cell:=(-c.2,c.1)
noncomputable def qE(e:Edge):Edge:=⟨qC e.c,(e.w+1) % 4⟩
noncomputable def qS(o:Option Nat):Option Nat:=o.map λs=>(s+2) % 8
noncomputable def rC(C:Cell->Bool)(c:Cell):Bool:=C (c.2,-c.1)
theorem rC_qC(C:Cell->Bool)(c:Cell):rC C (qC c)=C c:=by unfold rC qC;simp
theorem zkz{a b:Cell}(h:qC a=qC b):a=b:=by obtain⟨a1,a2⟩:=a;obtain⟨b1,b2⟩:=b;simp only[qC,Prod.mk.injEq]at h;exact Bj (by show a1=b1;lia) (by show a2=b2;lia)
theorem mv_q:∀i<8,mv ((i+2) % 8)=(-(mv i).2,(mv i).1):=by decide
theorem go_q(c:Cell){i:Nat}(h:i<8):go (qC c) ((i+2) % 8)=qC (go c i):=by unfold go;rw[mv_q i h];exact Bj (by show -c.2+-(mv i).2=-(c.2+(mv i).2);lia) rfl
theorem gap_q{e:Edge}(hw:e.w<4):gap (qE e)=qC (gap e):=by unfold gap;rw[<- go_q e.c (i:=(2*e.w+6) % 8) (AU _ (by decide))];show go (qC e.c) ((2*((e.w+1) % 4)+6) % 8)=_;rw[show (2*((e.w+1) % 4)+6) % 8=((2*e.w+6) % 8+2) % 8 by lia]
theorem zj9(C:Cell->Bool){e:Edge}(hw:e.w<4):stepB (rC C) (qE e)=qS (stepB C e):=by
 unfold stepB;have a1:(2*(qE e).w+7) % 8=((2*e.w+7) % 8+2) % 8:=by show (2*((e.w+1) % 4)+7) % 8=_;lia
 have a2:2*(qE e).w=(2*e.w+2) % 8:=by show 2*((e.w+1) % 4)=_;lia
 have c0:(qE e).c=qC e.c:=rfl;rw[a1,a2,c0,go_q e.c (i:=(2*e.w+7) % 8) (AU _ (by decide)),go_q e.c (i:=2*e.w) (by lia),rC_qC,rC_qC];split
 .rfl
 .split <;> rfl
theorem nxt_q(C:Cell->Bool){e:Edge}(h:IsE C e):nxt (rC C) (qE e)=qE (nxt C e):=by
 have hw:=h.1;unfold nxt;rw[zj9 C hw];rcases zaI h with⟨_,s,_⟩ |⟨_,_,s,_⟩ |⟨_,_,s,_⟩ <;> rw[s] <;> simp only[qS,Option.map,edgeB]
 .rw[if_pos (by lia),if_pos (odd7 _)];simp only[qE,Edge.mk.injEq];exact⟨go_q e.c (AU _ (by decide)),by lia⟩
 .rw[if_neg (by lia),if_neg (by lia)];simp only[qE,Edge.mk.injEq,and_true];exact go_q e.c (by lia)
 .simp only[qE,Edge.mk.injEq,true_and]
theorem isE_q(C:Cell->Bool){e:Edge}(hw:e.w<4):IsE (rC C) (qE e) ↔ IsE C e:=by
 unfold IsE;rw[gap_q hw,rC_qC];show (e.w+1) % 4<4/\rC C (qC e.c)=true/\_ ↔ _;rw[rC_qC];constructor
 .rintro⟨_,h⟩;exact⟨hw,h⟩
 .rintro⟨_,h⟩;exact⟨AU _ (by decide),h⟩
theorem znI{C:Cell->Bool}{e f:Edge}(he:e.w<4)(hf:f.w<4)(h:qE e=qE f):e=f:=by obtain⟨a,w⟩:=e;obtain⟨b,v⟩:=f;simp only[qE,Edge.mk.injEq]at h;simp only at he hf;rw[zkz h.1,show w=v by lia]
theorem zmf{C:Cell->Bool}{b:Edge}{es:List Edge}(h:Closed C b es):Closed (rC C) (qE b) (es.map qE):=by
 obtain⟨⟨h0,hs,hE,hn⟩,l,hl,hb⟩:=h;refine⟨⟨by rw[Ak,h0];rfl,λi e f h1 h2=>?_,λe he=>?_,?_⟩,qE l,by rw[Ai,Ak,hl];rfl,by rw[nxt_q C (hE l (Af hl)),hb]⟩
 .rw[Ak]at h1 h2;obtain⟨a,ha,rfl⟩:=AA.mp h1;obtain⟨c,hc,rfl⟩:=AA.mp h2;rw[nxt_q C (hE a (Af ha)),hs i a c ha hc]
 .obtain⟨a,ha,rfl⟩:=Aq.mp he;exact (isE_q C (hE a ha).1).mpr (hE a ha)
 .unfold List.Nodup;rw[Bv];refine Dm ?_ hn;intro a b ha hb hab e;exact hab (znI (C:=C) (hE a ha).1 (hE b hb).1 e)
theorem wk_q{C:Cell->Bool}{es:List Edge}(hE:∀e∈es,IsE C e):wk (rC C) (es.map qE)=(wk C es).map λq=>(qE q.1,qS q.2):=by
 unfold wk;rw[BM,BM]
 apply Cj
 intro e he;show (qE e,stepB _ (qE e))=(qE e,qS (stepB _ e));rw[zj9 C (hE e he).1]
noncomputable def qEn:Nat->Edge->Edge
 | 0,e=>e
 |k+1,e=>qE (qEn k e)
noncomputable def rCn:Nat->(Cell->Bool)->Cell->Bool
 | 0,C=>C
 |k+1,C=>rC (rCn k C)
theorem zdt{C:Cell->Bool}{b:Edge}{es:List Edge}(h:Closed C b es):∀k,Closed (rCn k C) (qEn k b) (es.map (qEn k))
 | 0=>by
  have:es.map (qEn 0)=es:=List.map_id' _;rw[this];exact h
 |k+1=>by
  have:=zmf (zdt h k);rw[BM]at this;exact this
noncomputable def zkd(K:W.Frag):Sp:=λvs H Q _=>∃(a:Addr) (e:Edge),vs=[.ref a]/\SqT K H a (edgeT e)/\∀p H',H p=none->Same H H'->H' p=some (.tup (edgeT (qE e)))->Q (.ref p) H'
theorem zeu (d:Df K mg "quarter_edge" zb0 ["edge"]):FnOk P w K mg base CX0 1 d.f d.fd ["edge"] (zkd K):=by
 refine d.F.ok zbm (λvs H Q E h=>?_) (λcdv A outer s H vs Q E hr h=>?_)
 .obtain⟨a,e,rfl,_⟩:=h;rfl
 .obtain⟨a,e,rfl,hq,k⟩:=h
  refine⟨_,(zac (zbs (pv 0) (zaX (by rfl) (zag (nG 1 zbm.nd) (zag (nG 2 zbm.nd) (zag (nG 3 zbm.nd) zao)))))
   (zaf (zai (zap (pa_U (pe_un zgH (pv 2)) (pa_N (pv 1) (pa_B (pe_op za2 (pe_op zax (pv 3) zae) zae) zab))))))),?_⟩
  refine⟨_,rfl,a,_,rfl,hq,rfl,_,_,rfl,_,_,rfl,_,_,rfl,rfl,?_⟩;refine⟨_,rfl,_,rfl,_,rfl,_,rfl,_,_,rfl,rfl,_,_,rfl,rfl,(by show (0:Int)<4;decide),three,λp hp=>k p _ hp (Same.up hp) ?_⟩;rw[zaa];show some (HO.tup [V.int (-e.c.2),V.int e.c.1,V.int (((e.w:Int)+1) % 4)])=some (HO.tup [V.int (-e.c.2),V.int e.c.1,V.int (((e.w+1) % 4:Nat):Int)]);rw[show ((e.w:Int)+1) % 4=(((e.w+1) % 4:Nat):Int) by lia]
noncomputable def zkc:Sp:=λvs H Q _=>∃o:Option Nat,vs=[sv o]/\Q (sv (qS o)) H
theorem zet (d:Df K mg "quarter_step" zbZ ["step"]):FnOk P w K mg base CX0 1 d.f d.fd ["step"] zkc:=by
 refine d.F.ok zeg (λvs H Q E h=>?_) (λcdv A outer s H vs Q E hr h=>?_)
 .obtain⟨o,rfl,_⟩:=h;rfl
 .obtain⟨o,rfl,k⟩:=h;refine⟨_,(zaf (zai (zcn (zas zdn (pv 0) zaY (zaq _)) zaY (pe_op za2 (pe_op zax (pv 0) zae) zae)))),?_⟩
  cases o with
  |none=>exact⟨_,rfl,rfl,_,rfl,iteT k⟩
  |some n =>
   refine⟨_,rfl,rfl,_,rfl,iteF ⟨_,rfl,_,_,rfl,rfl,_,_,rfl,rfl,(by show (0:Int)<8;decide),?_⟩⟩;show Q (V.int (((n:Int)+2) % 8)) H;rw[show ((n:Int)+2) % 8=(((n+2) % 8:Nat):Int) by lia];exact k
structure Can (C:Cell->Bool) (es:List Edge) (r:Rnd):Prop where
 cl:Closed C (begE r) es
 row:r.row=(es.map (stepB C)).filterMap id
 bg:zcp (wk C es) r.so (begE r)
 so:r.so=sortS (wk C es)
noncomputable def ziB(K:W.Frag):Sp:=λvs H Q _=>∃(v:V) (q:Int) (r:Rnd) (C:Cell->Bool) (es:List Edge),vs=[v,.int q]/\rR r v H/\Can C es r/\es.length<=500 /\
 ∀v' H' r',Same H H'->rR r' v' H'->IsRnd (wk (rCn (q % 4).toNat C) (es.map (qEn (q % 4).toNat))) r'->Q v' H'
theorem zkL (T:Txt P w K mg) (g_walk_of:Fn P w K mg base 5 "walk_of" ["one"] (zfN K)) (g_quarter_edge:Fn P w K mg base 1 "quarter_edge" ["edge"] (zkd K)) (g_quarter_step:Fn P w K mg base 1 "quarter_step" ["step"] zkc)
  (g_round_of:Fn P w K mg base 5 "round_of" ["walk"] (zdd K)) (d:Df K mg "turned" zd1 ["one","quarters"]):FnOk P w K mg base CX0 6 d.f d.fd ["one","quarters"] (ziB K):=by
 refine d.F.ok zdj (λvs H Q E h=>?_) (λcdv A outer s H vs Q E hr h=>?_)
 .obtain⟨v,q,r,C,es,rfl,_⟩:=h;rfl
 .obtain⟨v,q,r,C,es,rfl,hv,hc,hlen,k⟩:=h;have nb0:(["edge","step"]:List Str).Nodup:=by decide +kernel
  refine⟨_,(zac (sE 2 zdj.nd (pC g_walk_of hr (pa_N (pv 0) zab)))
   (zac (za4 AO rfl (zb8 (by rfl) T.nrange (pa_B (pe_op za2 (pv 1) zae) zab)) (nG 3 zdj.nd)
   (zaf (zdl (i:=2) (osc:=zad zd1) (N:=zjm) (N':=["edge","step"]) (sel:=[none,none]) bO zdj.nd (by rfl) (Or.inl rfl) (zay (pv 2)) (λ_ _ _ _ _=>(zbp (K:=K) (n:=2) (by rfl) (zag (nG 0 nb0) (zag (nG 1 nb0) zao)))) (λ_ _ _ _ _=>zaU) (λ_ _ _ _ _=>(zap (zah (pC g_quarter_edge hr (pa_N (pv 0) zab)) (zah (pC g_quarter_step hr (pa_N (pv 1) zab)) zab)))))))
   (zaf (zai (pC g_round_of hr (pa_N (pv 2) zab)))))),?_⟩
  refine⟨_,rfl,v,r,C,es,rfl,hv,hc.cl,hc.row,hc.bg,hc.so,hlen,λp H1 ws hp s1 e1 hw=>?_⟩;have hq0:0<=q % 4:=Int.emod_nonneg _ (by decide);have hq4:q % 4<4:=DB _ (by decide);refine⟨_,rfl,_,_,rfl,rfl,(by show (0:Int)<4;decide),_,rfl,(by show -(2 ^ 62)<=q % 4;lia),(by show q % 4<2 ^ 62;lia),?_⟩
  refine zbq (lo:=0) (n:=(q % 4).toNat) (λi σ H2=>∃(a:Addr) (o3:Option V) (ws:List V),σ=[some v,some (.int q),some (.ref a),o3]/\Same H H2/\H2 a=some (.lst ws)/\VR ws (wk (rCn i C) (es.map (qEn i))) wR H2)
   ⟨p,_,ws,rfl,s1,e1,?_⟩ ?_ ?_
  .have:es.map (qEn 0)=es:=List.map_id' _;rw[this];exact hw
  .rintro i σ H2 hi ⟨a,o3,ws,rfl,s2,e2,hw2⟩;have hcn:=zdt hc.cl i;refine⟨_,rfl,a,rfl,⟨_,SqL.of e2⟩,λp3 hp3=>?_⟩;have wl:ws.length=es.length:=by rw[hw2.1,zaK,Ai]
   refine zar (K:=K) (a:=a) (xs:=ws) (λj σ H3=>∃o0 o1,σ=[o0,o1]/\Same H2 H3/\∃ws':List V,H3 p3=some (.lst ws')/\VR ws' (((wk (rCn i C) (es.map (qEn i))).take j).map λq=>(qE q.1,qS q.2)) wR H3)
    ⟨_,_,rfl,Same.up hp3,[],zaa,VR.nil⟩ (λj σ H3 _ ⟨_,_,_,s3,_⟩=>SqL.of (s3 _ _ e2)) ?_ ?_
   .rintro j u σ H3 hj ⟨o0,o1,rfl,s3,ws',e3,hv3⟩;have hjl:j<ws.length:=(Ac.mp hj).1;obtain⟨⟨f,st⟩,he,B,bb,rfl,q1,q2⟩:=hw2.at hj;have hl3:ws'.length<=500:=by rw[hv3.1,Ai,AB,zaK,Ai];lia
    refine⟨B,_,rfl,SqT.of (s3 _ _ q1),rfl,_,_,rfl,_,_,rfl,rfl,?_⟩;refine zbu ?_
    refine⟨_,rfl,bb,f,rfl,SqT.of (s3 _ _ q2),λp4 H4 hp4 s4 e4=>⟨_,rfl,st,rfl,two,λt ht=>?_⟩⟩;have s5:Same H4 (upd H4 t (.tup [.ref p4,sv (qS st)])):=Same.up ht;have r5:wR (qE f,qS st) (.ref t) (upd H4 t (.tup [.ref p4,sv (qS st)])):=⟨t,p4,rfl,zaa,s5 _ _ e4⟩;generalize upd H4 t (.tup [.ref p4,sv (qS st)])=H5 at s5 r5;have e5:=(s4.trans s5) _ _ e3;refine⟨ws',e5,zal (by lia),_,_,rfl,zam hp3 (s3.trans (s4.trans s5)),_,zaa,?_⟩;rw[zau he,AN];exact hv3.snoc (λx v h=>(h.kt (KT.of (s4.trans s5))).kt (KT.lst e5)) (r5.kt (KT.lst e5))
   .rintro σ H3 ⟨o0,o1,rfl,s3,ws',e3,hv3⟩;rw[hw2.1,AG]at hv3;refine⟨p3,_,ws',rfl,s2.trans s3,e3,?_⟩;have:=wk_q hcn.1.2.2.1;rw[BM]at this;rw[<- this]at hv3;exact hv3
  .rintro σ H2 ⟨a,o3,ws,rfl,s2,e2,hw2⟩;have hcn:=zdt hc.cl (q % 4).toNat
   have hh:∀kk,kk=0∨kk=2->∃x∈(wk (rCn (q % 4).toNat C) (es.map (qEn (q % 4).toNat))).map (·.1),x.w=kk:=λkk hkk=>by obtain⟨x,h1,h2⟩:=hcn.has hkk;exact⟨x,by rw[zbE];exact h1,h2⟩
   refine⟨_,rfl,a,_,rfl,LR.of e2 hw2,by rw[zaK,Ai];exact hlen,hh 0 (.inl rfl),hh 2 (.inr rfl),λv' H3 r' s3 hr3 hrn3=>?_⟩;exact k v' H3 r' (s2.trans s3) hr3 hrn3
noncomputable def mC(c:Cell):Cell:=(-c.1,c.2)
noncomputable def mE(e:Edge):Edge:=⟨mC e.c,(4-e.w) % 4⟩
noncomputable def mS(o:Option Nat):Option Nat:=o.map λs=>(8-s) % 8
noncomputable def mCC(C:Cell->Bool)(c:Cell):Bool:=C (mC c)
theorem mC_mC(c:Cell):mC (mC c)=c:=Bj (by show - -c.1=c.1;lia) rfl
theorem zez(C:Cell->Bool)(c:Cell):mCC C (mC c)=C c:=by unfold mCC;rw[mC_mC]
theorem mE_mE{e:Edge}(h:e.w<4):mE (mE e)=e:=by obtain⟨c,w⟩:=e;simp only at h;show (⟨mC (mC c),(4-(4-w) % 4) % 4⟩:Edge)=⟨c,w⟩;rw[mC_mC,show (4-(4-w) % 4) % 4=w by lia]
theorem mE_lt(e:Edge):(mE e).w<4:=AU _ (by decide)
theorem znU{e f:Edge}(he:e.w<4)(hf:f.w<4)(h:mE e=mE f):e=f:=by rw[<- mE_mE he,h,mE_mE hf]
theorem gmL{c:Cell}{j k:Nat}(h:(mv j).1=-(mv k).1/\(mv j).2=(mv k).2):go (mC c) j=mC (go c k) :=
 Bj (by show -c.1+(mv j).1=-(c.1+(mv k).1);lia) (by show c.2+(mv j).2=c.2+(mv k).2;lia)
theorem gmT:∀w < 4, ((mv ((2 * ((4-w) % 4) + 6) % 8)).1 = -(mv ((2 * w + 6) % 8)).1 /\ (mv ((2 * ((4-w) % 4) + 6) % 8)).2=(mv ((2 * w + 6) % 8)).2) /\
  ((mv ((2*((4-(w+1) % 4) % 4)+7) % 8)).1=-(mv ((2*w+7) % 8)).1/\(mv ((2*((4-(w+1) % 4) % 4)+7) % 8)).2=(mv ((2*w+7) % 8)).2) /\
  ((mv (2*((4-(w+1) % 4) % 4))).1=-(mv ((2*w+6) % 8)).1/\(mv (2*((4-(w+1) % 4) % 4))).2=(mv ((2*w+6) % 8)).2) /\
  (-(mv (2*w)).1+(mv ((2*((4-w) % 4)+7) % 8)).1=-(mv ((2*w+6) % 8)).1/\(mv (2*w)).2+(mv ((2*((4-w) % 4)+7) % 8)).2=(mv ((2*w+6) % 8)).2):=by decide
theorem gmB:∀i<8,-(mv i).1+(mv ((8-i) % 8)).1=0/\(mv i).2+(mv ((8-i) % 8)).2=0:=by decide
theorem gap_m{e:Edge}(h:e.w<4):gap (mE e)=mC (gap e):=gmL (gmT e.w h).1
theorem isE_m(C:Cell->Bool){e:Edge}(hw:e.w<4):IsE (mCC C) (mE e) ↔ IsE C e:=by unfold IsE;rw[gap_m hw,zez];show (4-e.w) % 4<4/\mCC C (mC e.c)=true/\_ ↔ _;rw[zez];exact⟨λh=>⟨hw,h.2⟩,λh=>⟨AU _ (by decide),h.2⟩⟩
theorem zcF{c:Cell}{i:Nat}(h:i<8):go (mC (go c i)) ((8-i) % 8)=mC c:=by obtain⟨h1,h2⟩:=gmB i h;exact Bj (by show -(c.1+(mv i).1)+(mv ((8-i) % 8)).1=-c.1;lia) (by show c.2+(mv i).2+(mv ((8-i) % 8)).2=c.2;lia)
theorem zl3{c:Cell}{w:Nat}(h:w<4):go (mC (go c (2*w))) ((2*((4-w) % 4)+7) % 8)=mC (go c ((2*w+6) % 8)):=by obtain⟨h1,h2⟩:=(gmT w h).2.2.2;exact Bj (by show -(c.1+(mv (2*w)).1)+(mv ((2*((4-w) % 4)+7) % 8)).1=-(c.1+(mv ((2*w+6) % 8)).1);lia) (by show c.2+(mv (2*w)).2+(mv ((2*((4-w) % 4)+7) % 8)).2=c.2+(mv ((2*w+6) % 8)).2;lia)
theorem zl5{c:Cell}{w:Nat}(h:w<4):go (mC c) ((2*((4-(w+1) % 4) % 4)+7) % 8)=mC (go c ((2*w+7) % 8)):=gmL (gmT w h).2.1
theorem zl4{c:Cell}{w:Nat}(h:w<4):go (mC c) (2*((4-(w+1) % 4) % 4))=mC (go c ((2*w+6) % 8)):=gmL (gmT w h).2.2.1
theorem zj8(C:Cell->Bool){e:Edge}(h:IsE C e):stepB (mCC C) (mE (nxt C e))=mS (stepB C e)/\nxt (mCC C) (mE (nxt C e))=mE e:=by
 have hw:=h.1;have hg:C (go e.c ((2*e.w+6) % 8))=false:=h.2.2;rcases zaI h with⟨hc,s,n⟩ |⟨hc1,hc2,s,n⟩ |⟨hc1,hc2,s,n⟩
 .have e1:stepB (mCC C) (mE (nxt C e))=some ((8-(2 * e.w + 7) % 8) % 8) := by
   rw[n];unfold stepB;have a1:(2*(mE ⟨go e.c ((2*e.w+7) % 8),(e.w+3) % 4⟩).w+7) % 8=(8-(2*e.w+7) % 8) % 8:=by show (2*((4-(e.w+3) % 4) % 4)+7) % 8=_;lia
   rw[a1];have a2:go (mE ⟨go e.c ((2*e.w+7) % 8),(e.w+3) % 4⟩).c ((8-(2*e.w+7) % 8) % 8)=mC e.c:=zcF (AU _ (by decide));rw[a2,zez,if_pos h.2.1]
  refine⟨by rw[e1,s];rfl,?_⟩;show edgeB (mE (nxt C e)) (stepB (mCC C) (mE (nxt C e)))=mE e;rw[e1,n];simp only[edgeB];rw[if_pos (by lia)];have a2:go (mE ⟨go e.c ((2*e.w+7) % 8),(e.w+3) % 4⟩).c ((8-(2*e.w+7) % 8) % 8)=mC e.c:=zcF (AU _ (by decide));rw[a2];show (⟨mC e.c,((4-(e.w+3) % 4) % 4+3) % 4⟩:Edge)=⟨mC e.c,(4-e.w) % 4⟩;rw[show ((4-(e.w+3) % 4) % 4+3) % 4=(4-e.w) % 4 by lia]
 .have e1:stepB (mCC C) (mE (nxt C e))=some ((8-2 * e.w) % 8) := by
   rw[n];unfold stepB;have a0:go (mE ⟨go e.c (2*e.w),e.w⟩).c ((2*(mE ⟨go e.c (2*e.w),e.w⟩).w+7) % 8)=mC (go e.c ((2*e.w+6) % 8)):=zl3 hw;have a1:2*(mE ⟨go e.c (2*e.w),e.w⟩).w=(8-2*e.w) % 8:=by show 2*((4-e.w) % 4)=_;lia
   rw[a0,zez,hg,if_neg (by simp),a1];have a2:go (mE ⟨go e.c (2*e.w),e.w⟩).c ((8-2*e.w) % 8)=mC e.c:=zcF (by lia);rw[a2,zez,if_pos h.2.1]
  refine⟨by rw[e1,s];rfl,?_⟩;show edgeB (mE (nxt C e)) (stepB (mCC C) (mE (nxt C e)))=mE e;rw[e1,n];simp only[edgeB];rw[if_neg (by lia)];have a2:go (mE ⟨go e.c (2*e.w),e.w⟩).c ((8-2*e.w) % 8)=mC e.c:=zcF (by lia);rw[a2];rfl
 .have e1:stepB (mCC C) (mE (nxt C e))=none := by rw[n];unfold stepB;have a0:go (mE ⟨e.c,(e.w+1) % 4⟩).c ((2*(mE ⟨e.c,(e.w+1) % 4⟩).w+7) % 8)=mC (go e.c ((2*e.w+7) % 8)):=zl5 hw;have a1:go (mE ⟨e.c,(e.w+1) % 4⟩).c (2*(mE ⟨e.c,(e.w+1) % 4⟩).w)=mC (go e.c ((2*e.w+6) % 8)):=zl4 hw;rw[a0,zez,hc1,if_neg (by simp),a1,zez,hg,if_neg (by simp)]
  refine⟨by rw[e1,s];rfl,?_⟩;show edgeB (mE (nxt C e)) (stepB (mCC C) (mE (nxt C e)))=mE e;rw[e1,n];show (⟨mC e.c,((4-(e.w+1) % 4) % 4+1) % 4⟩:Edge)=⟨mC e.c,(4-e.w) % 4⟩;rw[show ((4-(e.w+1) % 4) % 4+1) % 4=(4-e.w) % 4 by lia]
noncomputable def mW(es:List Edge):List Edge:=((es.drop 1++es.take 1).map mE).reverse
theorem zca(es:List Edge):(mW es).length=es.length:=by unfold mW;rw[List.length_reverse,Ai,An,BB,AB];lia
theorem zne{es:List Edge}{e:Edge}(h:es[0]?=some e):(mW es)[0]?=some (mE e):=by
 cases es with
 |nil=>cases h
 |cons a r =>
  have:a=e:=by simpa using h
  subst this;unfold mW;simp
theorem zh9{es:List Edge}{i:Nat}(h:i+1<es.length):(mW es)[i+1]?=(es[es.length-(i+1)]?).map mE:=by
 unfold mW;have hl:((es.drop 1++es.take 1).map mE).length=es.length:=by rw[Ai,An,BB,AB];lia
 rw[List.getElem?_reverse (by rw[hl];exact h),hl,Ak,As (by rw[BB];lia),Dz];rw[show 1+(es.length-1-(i+1))=es.length-(i+1) by lia]
theorem zia(es:List Edge):(mW es).Perm (es.map mE):=by
 unfold mW;refine (List.reverse_perm _).trans ?_
 exact (ziI es 1).map mE
theorem zjq{C:Cell->Bool}{b:Edge}{es:List Edge}(h:Closed C b es):Closed (mCC C) (mE b) (mW es):=by
 obtain⟨⟨h0,hs,hE,hn⟩,l,hl,hb⟩:=h;have hpos:0<es.length:=(Ac.mp h0).1;have hlE:=hE l (Af hl);have z0:(mW es)[0]?=some (mE b):=zne h0
 have go1:∀(i:Nat) (f:Edge),(mW es)[i]?=some f->nxt (mCC C) f=if i+1<es.length then ((mW es)[i+1]?).getD f else mE b:=by
  intro i f hf;have hi:i<es.length:=by rw[<- zca];exact (Ac.mp hf).1
  cases i with
  |zero =>
   rw[z0]at hf
   cases hf
   have s:=(zj8 C hlE).2;rw[hb]at s;rw[s]
   by_cases h1:0+1<es.length
   .rw[if_pos h1,zh9 h1,show es.length-(0+1)=es.length-1 by lia,hl];rfl
   .rw[if_neg h1];have e1:es.length-1=0:=by lia
    rw[e1,h0]at hl
    cases hl;rfl
  |succ i =>
   rw[zh9 hi]at hf;obtain⟨g,hg,rfl⟩:=AA.mp hf;have hj:es.length-(i+1)-1<es.length:=by lia
   have hp:=Aa hj;have hgn:=hs (es.length-(i+1)-1) _ g hp (by rw[show es.length-(i+1)-1+1=es.length-(i+1) by lia];exact hg);have s:=(zj8 C (hE _ (AV hj))).2;rw[<- hgn]at s;rw[s]
   by_cases h1:i+1+1<es.length
   .rw[if_pos h1,zh9 h1,show es.length-(i+1+1)=es.length-(i+1)-1 by lia,hp];rfl
   .rw[if_neg h1];have e1:es.length-(i+1)-1=0:=by lia
    have e2:es[es.length-(i+1)-1]=b:=by
     rw[Aa hpos]at h0;have:=AX h0;rw[<- this]
     congr 1
    rw[e2]
 refine⟨⟨z0,λi f g h1 h2=>?_,λf hf=>?_,?_⟩,?_⟩
 .have hi:i+1<es.length:=by rw[<- zca];exact (Ac.mp h2).1
  rw[go1 i f h1,if_pos hi,h2];rfl
 .obtain⟨a,ha,rfl⟩:=Aq.mp ((zia es).mem_iff.mp hf);exact (isE_m C (hE a ha).1).mpr (hE a ha)
 .refine (zia es).nodup_iff.mpr ?_
  unfold List.Nodup;rw[Bv];exact Dm (λ{a b} ha hb hab e=>hab (znU (hE a ha).1 (hE b hb).1 e)) hn
 .have hlast:(mW es).length-1<(mW es).length:=by rw[zca];lia
  refine⟨_,Aa hlast,?_⟩;rw[go1 _ _ (Aa hlast),if_neg (by rw[zca];lia)]
theorem wk_m{C:Cell->Bool}{b:Edge}{es:List Edge}(h:Closed C b es):wk (mCC C) (mW es)=(((es.drop 1++es.take 1).zip (wk C es)).map λq=>(mE q.1,mS q.2.2)).reverse:=by
 unfold mW;unfold wk;rw[List.map_reverse,BM]
 congr 1
 apply List.ext_getElem?
 intro i;have hl:(es.drop 1++es.take 1).length=es.length:=by rw[An,BB,AB];lia
 rw[Ak,Ak]
 by_cases hi:i<es.length
 .have hE:=h.1.2.2.1
  have hb:(es.drop 1++es.take 1)[i]?=some (nxt C es[i]):=by
   by_cases h1:i+1<es.length
   .rw[As (by rw[BB];lia),Dz,show 1+i=i+1 by lia,Aa h1];rw[h.1.2.1 i es[i] es[i+1] (Aa hi) (Aa h1)]
   .obtain⟨_,l,hl',hn⟩:=id h;have e1:i=es.length-1:=by lia
    rw[AF (by rw[BB];lia),BB,show i-(es.length-1)=0 by lia,List.getElem?_take_of_lt (by lia)];have h0:=h.1.1;rw[h0];subst e1;rw[Aa hi]at hl'
    cases hl'
    rw[hn]
  have hz:((es.drop 1++es.take 1).zip (es.map λe=>(e,stepB C e)))[i]?=some (nxt C es[i],(es[i],stepB C es[i])):=by rw[De];exact⟨hb,by rw[Ak,Aa hi];rfl⟩
  rw[hb,hz];show some (mE (nxt C es[i]),stepB (mCC C) (mE (nxt C es[i])))=some (mE (nxt C es[i]),mS (stepB C es[i]));rw[(zj8 C (hE _ (AV hi))).1]
 .rw[BJ (by rw[hl];lia),BJ (by rw[List.length_zip,hl,Ai];lia)];rfl
noncomputable def zkg(K:W.Frag):Sp:=λvs H Q _=>∃(a:Addr) (e:Edge),vs=[.ref a]/\SqT K H a (edgeT e)/\e.w<4/\∀p H',H p=none->Same H H'->H' p=some (.tup (edgeT (mE e)))->Q (.ref p) H'
theorem zeW (d:Df K mg "mirror_edge" zch ["edge"]):FnOk P w K mg base CX0 1 d.f d.fd ["edge"] (zkg K):=by
 refine d.F.ok zbv (λvs H Q E h=>?_) (λcdv A outer s H vs Q E hr h=>?_)
 .obtain⟨a,e,rfl,_⟩:=h;rfl
 .obtain⟨a,e,rfl,hq,hw,k⟩:=h
  refine⟨_,(zac (zbs (pv 0) (zaX (by rfl) (zag (nG 1 zbv.nd) (zag (nG 2 zbv.nd) (zag (nG 3 zbv.nd) zao)))))
   (zaf (zai (zap (pa_U (pe_un zgH (pv 1)) (pa_N (pv 2) (pa_B (pe_op za2 (pe_op zaP zae (pv 3)) zae) zab))))))),?_⟩
  refine⟨_,rfl,a,_,rfl,hq,rfl,_,_,rfl,_,_,rfl,_,_,rfl,rfl,?_⟩;refine⟨_,rfl,_,rfl,_,rfl,_,rfl,_,_,rfl,rfl,_,_,rfl,rfl,(by show (0:Int)<4;decide),three,λp hp=>k p _ hp (Same.up hp) ?_⟩;rw[zaa];show some (HO.tup [V.int (-e.c.1),V.int e.c.2,V.int ((4-(e.w:Int)) % 4)])=some (HO.tup [V.int (-e.c.1),V.int e.c.2,V.int (((4-e.w) % 4:Nat):Int)]);rw[show (4-(e.w:Int)) % 4=(((4-e.w) % 4:Nat):Int) by lia]
noncomputable def zkf:Sp:=λvs H Q _=>∃o:Option Nat,vs=[sv o]/\(∀n,o=some n->n<8)/\Q (sv (mS o)) H
theorem zeV (d:Df K mg "mirror_step" zcg ["step"]):FnOk P w K mg base CX0 1 d.f d.fd ["step"] zkf:=by
 refine d.F.ok zeR (λvs H Q E h=>?_) (λcdv A outer s H vs Q E hr h=>?_)
 .obtain⟨o,rfl,_⟩:=h;rfl
 .obtain⟨o,rfl,h8,k⟩:=h;refine⟨_,(zaf (zai (zcn (zas zdn (pv 0) zaY (zaq _)) zaY (pe_op za2 (pe_op zaP zae (pv 0)) zae)))),?_⟩
  cases o with
  |none=>exact⟨_,rfl,rfl,_,rfl,iteT k⟩
  |some n =>
   have:=h8 n rfl;refine⟨_,rfl,rfl,_,rfl,iteF ⟨_,rfl,_,_,rfl,rfl,_,_,rfl,rfl,(by show (0:Int)<8;decide),?_⟩⟩;show Q (V.int ((8-(n:Int)) % 8)) H;rw[show (8-(n:Int)) % 8=(((8-n) % 8:Nat):Int) by lia];exact k
theorem VR.rev{α:Type}{vs:List V}{l:List α}{R:α->V->Hp->Prop}{H:Hp}(h:VR vs l R H):VR vs.reverse l.reverse R H:=by
 refine⟨by simp[h.1],λi x v h1 h2=>?_⟩;have hi:i<l.length:=by have:=(Ac.mp h1).1;simpa using this
 rw[List.getElem?_reverse hi]at h1;rw[List.getElem?_reverse (by rw[h.1];exact hi),h.1]at h2;exact h.2 _ x v h1 h2
noncomputable def zfm(K:W.Frag):Sp:=λvs H Q _=>∃(v:V) (r:Rnd) (C:Cell->Bool) (es:List Edge),vs=[v]/\rR r v H/\Can C es r/\es.length<=500 /\
 ∀v' H' r',Same H H'->rR r' v' H'->IsRnd (wk (mCC C) (mW es)) r'->Q v' H'
theorem zhX (T:Txt P w K mg) (g_walk_of:Fn P w K mg base 5 "walk_of" ["one"] (zfN K)) (g_mirror_edge:Fn P w K mg base 1 "mirror_edge" ["edge"] (zkg K)) (g_mirror_step:Fn P w K mg base 1 "mirror_step" ["step"] zkf)
  (g_round_of:Fn P w K mg base 5 "round_of" ["walk"] (zdd K)) (d:Df K mg "mirrored" zb7 ["one"]):FnOk P w K mg base CX0 6 d.f d.fd ["one"] (zfm K):=by
 refine d.F.ok zbG (λvs H Q E h=>?_) (λcdv A outer s H vs Q E hr h=>?_)
 .obtain⟨v,r,C,es,rfl,_⟩:=h;rfl
 .obtain⟨v,r,C,es,rfl,hv,hc,hlen,k⟩:=h;have nb0:(["edge","step"]:List Str).Nodup:=by decide +kernel
  have nb1:(["other","edge","step"]:List Str).Nodup:=by decide +kernel
  refine⟨_,(zac (sE 1 zbG.nd (pC g_walk_of hr (pa_N (pv 0) zab)))
   (zac (zdl (i:=2) (osc:=zad zb7) (N:=zdL) (N':=["edge","step"]) (sel:=[none,none]) bO zbG.nd (by rfl) (Or.inl rfl) (zay (pv 1)) (λ_ _ _ _ _=>(zbp (K:=K) (n:=2) (by rfl) (zag (nG 0 nb0) (zag (nG 1 nb0) zao)))) (λ_ _ _ _ _=>zaU) (λ_ _ _ _ _=>(pv 0)))
   (zac (sE 3 zbG.nd (pe_op zg4 (zcK zfQ (pv 2) (zdC zae) zdD) (zcK zfQ (pv 2) zdD (zdC zae))))
   (zac (zdl (i:=4) (osc:=zad zb7) (N:=zdL) (N':=["other","edge","step"]) (sel:=[none,none,none]) bO zbG.nd (by rfl) (Or.inl rfl) (znL (by rfl) T.nzip (pa_N (pv 3) (pa_N (pv 1) zab))) (λ_ _ _ _ _=>(zbp (K:=K) (n:=2) (by rfl) (zag (nG 0 nb1) (zag (zbp (K:=K) (n:=2) (by rfl) (zag (nG 1 nb1) (zag (nG 2 nb1) zao))) zao)))) (λ_ _ _ _ _=>zaU) (λ_ _ _ _ _=>(zap (zah (pC g_mirror_edge hr (pa_N (pv 0) zab)) (zah (pC g_mirror_step hr (pa_N (pv 2) zab)) zab)))))
   (zaf (zai (pC g_round_of hr (zah (zm2 (pv 4) (pe_un zgH zae)) zab)))))))),?_⟩
  refine⟨_,rfl,v,r,C,es,rfl,hv,hc.cl,hc.row,hc.bg,hc.so,hlen,λp H1 ws hp s1 e1 hw=>?_⟩;have hpos:0<es.length:=(Ac.mp hc.cl.1.1).1;have wl:ws.length=es.length:=by rw[hw.1,zaK]
  refine⟨_,rfl,p,rfl,⟨_,SqL.of e1⟩,λp2 hp2=>?_⟩
  refine zar (K:=K) (a:=p) (xs:=ws) (λj σ H3=>∃o0 o1,σ=[o0,o1]/\Same H1 H3/\∃us:List V,H3 p2=some (.lst us)/\VR us (es.take j) eR H3)
   ⟨_,_,rfl,Same.up hp2,[],zaa,VR.nil⟩ (λj σ H3 _ ⟨_,_,_,s3,_⟩=>SqL.of (s3 _ _ e1)) ?_ ?_
  .rintro j u σ H3 hj ⟨o0,o1,rfl,s3,us,e3,hv3⟩;obtain⟨⟨f,st⟩,he,B,bb,rfl,q1,q2⟩:=hw.at hj
   have hf:es[j]?=some f:=by
    unfold wk at he;rw[Ak]at he;obtain⟨g,hg,eg⟩:=AA.mp he
    cases eg;exact hg
   have hl3:us.length<=500:=by rw[hv3.1,AB];lia
   refine⟨B,_,rfl,SqT.of (s3 _ _ q1),rfl,_,_,rfl,_,_,rfl,rfl,?_⟩;refine zbu ?_
   refine⟨_,rfl,us,e3,zal (by lia),_,_,rfl,zam hp2 s3,_,zaa,?_⟩;rw[zau hf];exact hv3.snoc (λx v h=>h.kt (KT.lst e3)) ⟨bb,rfl,KT.lst e3 _ _ (s3 _ _ q2)⟩
  .rintro σ H2 ⟨o0,o1,rfl,s2,us,e2,hv2⟩;rw[wl,AG]at hv2;have hul:us.length=es.length:=hv2.1;have c1:cutV us (some 1) none=us.drop 1:=zjf us (j:=1) (by lia);have c2:cutV us none (some 1)=us.take 1:=zmM us (j:=1) (by lia);refine⟨_,rfl,_,rfl,p2,us,rfl,SqL.of e2,λa1 ha1=>?_⟩;rw[c1];have s3:=Same.up (o:=.lst (us.drop 1)) ha1;have q3:upd H2 a1 (.lst (us.drop 1)) a1=some (.lst (us.drop 1)):=zaa;generalize upd H2 a1 (.lst (us.drop 1))=H3 at s3 q3;refine⟨_,rfl,_,rfl,p2,us,rfl,SqL.of (s3 _ _ e2),λa2 ha2=>?_⟩;rw[c2];have s4:=Same.up (o:=.lst (us.take 1)) ha2;have q4:upd H3 a2 (.lst (us.take 1)) a2=some (.lst (us.take 1)):=zaa;generalize upd H3 a2 (.lst (us.take 1))=H4 at s4 q4;refine⟨a1,a2,_,_,rfl,rfl,s4 _ _ q3,q4,BU (zal (by simp;lia)),λa3 ha3=>?_⟩;have s5:=Same.up (o:=.lst (us.drop 1++us.take 1)) ha3;have q5:upd H4 a3 (.lst (us.drop 1++us.take 1)) a3=some (.lst (us.drop 1++us.take 1)):=zaa;generalize upd H4 a3 (.lst (us.drop 1++us.take 1))=H5 at s5 q5;have s15:=s2.trans (s3.trans (s4.trans s5));have hb5:VR (us.drop 1++us.take 1) (es.drop 1++es.take 1) eR H5:=(VR.rot hv2 1).mono λx v h=>h.kt (KT.of (s3.trans (s4.trans s5)))
   have hw5:=hw.mono λx v h=>h.kt (KT.of s15)
   have lb:(us.drop 1++us.take 1).length=ws.length:=by rw[hb5.1,wl];simp;lia
   refine⟨_,rfl,_,rfl,a3,p,rfl,⟨_,SqL.of q5⟩,⟨_,SqL.of (s15 _ _ e1)⟩,λp6 hp6=>?_⟩
   refine znl (K:=K) (a:=a3) (b:=p) (xs:=us.drop 1++us.take 1) (ys:=ws) (λj σ H6=>∃o0 o1 o2,σ=[o0,o1,o2]/\Same H5 H6/\∃ms:List V,H6 p6=some (.lst ms)/\VR ms ((((es.drop 1++es.take 1).zip (wk C es)).take j).map λq=>(mE q.1,mS q.2.2)) wR H6)
    ⟨_,_,_,rfl,Same.up hp6,[],zaa,VR.nil⟩ (λj σ H6 _ ⟨_,_,_,_,s6,_⟩=>⟨SqL.of (s6 _ _ q5),SqL.of (s6 _ _ (s15 _ _ e1))⟩) lb ?_ ?_
   .rintro j x y σ H6 t hx hy ⟨o0,o1,o2,rfl,s6,ms,e6,hm6⟩ ht;obtain⟨f,hf,b1,rfl,f1⟩:=hb5.at hx;obtain⟨⟨g,st⟩,hg,B,bb,rfl,g1,g2⟩:=hw5.at hy
    have hgE:g∈es/\st=stepB C g:=by
     unfold wk at hg;rw[Ak]at hg;obtain⟨g',hg',eg⟩:=AA.mp hg
     cases eg;exact⟨Af hg',rfl⟩
    have hfE:f∈es:=by
     rcases AH.mp (Af hf) with z |z
     .exact List.mem_of_mem_drop z
     .exact List.mem_of_mem_take z
    have hzz:((es.drop 1++es.take 1).zip (wk C es))[j]?=some (f,(g,st)):=by rw[De];exact⟨hf,hg⟩
    have hml:ms.length<=500:=by rw[hm6.1,Ai,AB,List.length_zip,zaK];lia
    have s7:=Same.up (o:=.tup [.ref b1,.ref B]) ht;have q7:upd H6 t (.tup [.ref b1,.ref B]) t=some (.tup [.ref b1,.ref B]):=zaa;generalize upd H6 t (.tup [.ref b1,.ref B])=H7 at s7 q7;have s57:=s6.trans s7;refine⟨t,_,rfl,SqT.of q7,rfl,_,_,rfl,⟨_,_,rfl,⟨B,_,rfl,SqT.of (s57 _ _ g1),rfl,_,_,rfl,_,_,rfl,rfl,rfl,?_⟩⟩⟩;refine zbu ?_
    refine⟨_,rfl,b1,f,rfl,SqT.of (s57 _ _ f1),(hc.cl.1.2.2.1 f hfE).1,λp8 H8 hp8 s8 e8=>⟨_,rfl,st,rfl,(λn hn=>zcH (hc.cl.1.2.2.1 g hgE.1).1 n (hgE.2.symm.trans hn)),two,λt9 ht9=>?_⟩⟩;have s9:Same H8 (upd H8 t9 (.tup [.ref p8,sv (mS st)])):=Same.up ht9;have r9:wR (mE f,mS st) (.ref t9) (upd H8 t9 (.tup [.ref p8,sv (mS st)])):=⟨t9,p8,rfl,zaa,s9 _ _ e8⟩;generalize upd H8 t9 (.tup [.ref p8,sv (mS st)])=H9 at s9 r9;have s69:=s7.trans (s8.trans s9);have e9:=s69 _ _ e6;refine⟨ms,e9,zal (by lia),_,_,_,rfl,zam hp6 (s6.trans s69),_,zaa,?_⟩;rw[zau hzz,AN];exact hm6.snoc (λx v h=>(h.kt (KT.of s69)).kt (KT.lst e9)) (r9.kt (KT.lst e9))
   .rintro σ H6 ⟨o0,o1,o2,rfl,s6,ms,e6,hm6⟩;have tz:((es.drop 1++es.take 1).zip (wk C es)).take (us.drop 1++us.take 1).length=(es.drop 1++es.take 1).zip (wk C es):=Co (by rw[List.length_zip,zaK,lb,wl];lia);rw[tz]at hm6;have hcm:=zjq hc.cl
    have hh:∀kk,kk=0∨kk=2->∃x∈(wk (mCC C) (mW es)).map (·.1),x.w=kk:=λkk hkk=>by obtain⟨x,h1,h2⟩:=hcm.has hkk;exact⟨x,by rw[zbE];exact h1,h2⟩
    refine⟨_,rfl,_,rfl,rfl,p6,ms,rfl,SqL.of e6,λp7 hp7=>?_⟩;have hmr:=hm6.rev;rw[<- wk_m hc.cl]at hmr;have s7:=Same.up (o:=.lst ms.reverse) hp7;refine⟨p7,_,rfl,LR.of zaa (hmr.mono λx v h=>h.kt (KT.of s7)),by rw[zaK,zca];exact hlen,hh 0 (.inl rfl),hh 2 (.inr rfl),λv' H8 r' s8 hr8 hrn8=>?_⟩;exact k v' H8 r' (s1.trans (s15.trans (s6.trans (s7.trans s8)))) hr8 hrn8
noncomputable def rowI(row:List Nat):List Int:=row.map λn:Nat=>(n:Int)
noncomputable def dR(r:Rnd):PyData:=.tuple [.str r.so,.int r.x,.int r.y,tI (rowI r.row)]
theorem znG(row:List Nat):rowV row=(rowI row).map V.int:=by unfold rowV rowI;rw[BM];rfl
theorem zlK{a b:List Nat}(h:rowI a=rowI b):a=b:=by unfold rowI at h;exact List.map_inj_right (f:=λn:Nat=>(n:Int)) (λx y e=>by lia) |>.mp h
theorem zlL{K:W.Frag}{H:Hp}{r:Rnd}{v:V}(h:rR r v H):RD K H v (dR r):=by obtain⟨a,b,rfl,q1,q2⟩:=h;refine .tup (SqT.of q1) (.cons (.str _) (.cons (.int _) (.cons (.int _) (.cons (.tup (SqT.of q2) ?_) .nil))));rw[znG];exact RDs.ints _
theorem zn9(r q:Rnd):B5 (dR r) (dR q)=decide (r=q):=by
 show ((r.so == q.so) && ((r.x == q.x) && ((r.y == q.y) && (B5 (tI (rowI r.row)) (tI (rowI q.row)) && true))))=_;rw[zeF,Bool.and_true];obtain⟨a,b,c,d⟩:=r;obtain⟨a',b',c',d'⟩:=q;simp only
 by_cases h1:a=a'
 .by_cases h2:b=b'
  .by_cases h3:c=c'
   .by_cases h4:d=d'
    .subst h1 h2 h3 h4;simp
    .have:¬ rowI d=rowI d':=λz=>h4 (zlK z)
     simp[h4,this]
   .simp[h3]
  .simp[h2]
 .have:(a == a')=false:=by rw[beq_eq_false_iff_ne];exact h1
  rw[this];simp[h1]
noncomputable abbrev SoOk (r:Rnd):Prop:=r.so = "rim" ∨ r.so = "hole"
theorem zlo{r:Rnd}(h:SoOk r):Ct (dR r)=true:=by have:=za6 (rowI r.row);unfold Bl at this;rw[BQ]at this;show (PyData.strOk r.so && (true && (true && (Ct (tI (rowI r.row)) && true))))=true;rw[this.1];rcases h with h |h <;> rw[h] <;> decide +kernel
theorem zje(ns:List Int):BW (tI ns)=1:=by unfold tI;rw[BW,zco]
theorem zma(r:Rnd):BW (dR r)=2:=by show BW (.tuple [.str r.so,.int r.x,.int r.y,tI (rowI r.row)])=2;rw[BW];show max 0 (max 0 (max 0 (max (BW (tI (rowI r.row))) 0)))+1=2;rw[zje];rfl
noncomputable def lR(R:List Rnd):PyData:=.list (R.map dR)
theorem zhm:∀R S:List Rnd,CV (R.map dR) (S.map dR)=decide (R=S)
 |[],[]=>rfl
 |[],_::_=>rfl
 |_::_,[]=>rfl
 |r::R,q::S=>by
  show (B5 (dR r) (dR q) && CV (R.map dR) (S.map dR))=_;rw[zhm R S,zn9]
  by_cases e:r=q
  .subst e;by_cases e2:R=S <;> simp[e2]
  .simp[e]
theorem zn8(R S:List Rnd):B5 (lR R) (lR S)=decide (R=S):=zhm R S
theorem zdS:∀R:List Rnd,(∀r∈R,SoOk r)->BI (R.map dR)=true
 |[],_=>rfl
 |r::R,h=>by show (Ct (dR r) && BI (R.map dR))=true;rw[zlo (h r AC),zdS R λq hq=>h q (At _ hq)];rfl
theorem zeI:∀R:List Rnd,Cy (R.map dR)<=2
 |[]=>A5 _
 |r::R=>by show max (BW (dR r)) (Cy (R.map dR))<=2;rw[zma];have:=zeI R;lia
theorem zgS{R:List Rnd}(h:∀r∈R,SoOk r):Bl (lR R)=true:=by unfold Bl lR;rw[Ct,zdS R h,BW];have:=zeI R;simp only[Bool.true_and,decide_eq_true_eq];lia
theorem zfs{K:W.Frag}{H:Hp}:∀{vs:List V}{R:List Rnd},VR vs R rR H->RDs K H vs (R.map dR)
 |[],[],_=>.nil
 |[],_::_,h=>by have:=h.1;cases this
 |_::_,[],h=>by have:=h.1;cases this
 |v::vs,r::R,h=>by
  obtain⟨h1,h2⟩:=VR.cons.mp h;exact .cons (zlL h1) (zfs h2)
theorem zg0{K:W.Frag}{H:Hp}{a:Addr}{vs:List V}{R:List Rnd}(e:SqL K H a vs)(h:VR vs R rR H):RD K H (.ref a) (lR R):=.lst e (zfs h)
theorem Whole.so{cs:List Cell}{R:List Rnd}(h:Whole cs R):∀r∈R,SoOk r:=λr hr=>let ⟨_,hP,_⟩:=h;hP.so hr
theorem Whole.few{cs:List Cell}{R:List Rnd}(h:Whole cs R):R.length<=cs.length:=let ⟨_,hP,_⟩:=h;hP.few
theorem four:4<=sizeLine:=by decide
noncomputable def zdg(K:W.Frag):Sp:=λvs H Q _=>∃(a:Addr) (rs:List V) (R:List Rnd),vs=[.ref a]/\SqL K H a rs/\VR rs R rR H/\R.length<=60 /\
 ∀p H' rs' S,H p=none->Same H H'->H' p=some (.lst rs')->VR rs' S rR H'->S.Perm R->InKey S->Q (.ref p) H'
theorem zh6 (T:Txt P w K mg) (g_round_order:Fn P w K mg base 1 "round_order" ["one"] (zcs K)) (d:Df K mg "in_order" zdy ["some"]):FnOk P w K mg base CX0 4 d.f d.fd ["some"] (zdg K):=by
 refine d.F.ok zhN (λvs H Q E h=>?_) (λcdv A outer s H vs Q E hr h=>?_)
 .obtain⟨a,rs,R,rfl,_⟩:=h;rfl
 .obtain⟨a,rs,R,rfl,hL,hR,hlen,k⟩:=h;have hu1:=hu_of hr;refine⟨_,(zaf (zai (zd2 g_round_order.ok (hr.mono (by decide)) g_round_order.b (by rfl) T.nsorted (by rfl) g_round_order.m (pv 0)))),?_⟩;have ge:∀(i:Nat) r,R[i]?=some r->R.getD i ⟨"",0,0,[]⟩=r:=λi r h=>by simp only[AI,h,Option.getD_some]
  have hrl:rs.length<=60:=by rw[hR.1];exact hlen
  refine⟨_,rfl,a,rs,λi=>keyV (R.getD i ⟨"",0,0,[]⟩),λi=>keyI (R.getD i ⟨"",0,0,[]⟩),rfl,hL,by lia,λi x H7 hx s7=>?_,
   λi j hi hj=>⟨_,_,_,_,_,_,rfl,rfl,.cons (.int _ _) (.cons (.bl _ _) .nil),rfl,rfl⟩,λpp D H7 hpm hpo hD s7 f7=>?_⟩
  .obtain⟨r,hr',hx'⟩:=hR.at hx;refine⟨x,r,rfl,hx'.kt (KT.of s7),λq H8 hq s8 f8=>⟨s8,q,rfl,SqT.of ?_⟩⟩;show H8 q=some (HO.tup (keyV (R.getD i ⟨"",0,0,[]⟩)));rw[ge i r hr'];exact f8
  .have hlt:∀i ∈ pp, i < R.length := λi hi => by have:=Bx.mp (hpm.mem_iff.mp hi);rw[hR.1]at this;exact this
   have hRR:(pp.map λi=>R.getD i ⟨"",0,0,[]⟩).Perm R:=by
    have h1:=hpm.map λi=>R.getD i (⟨"",0,0,[]⟩:Rnd)
    rw[hR.1]at h1
    have h2:((Ba R.length).map λi=>R.getD i (⟨"",0,0,[]⟩:Rnd))=R:=by
     apply List.ext_getElem
     .simp
     .intro i a b;simp[show i<R.length by simpa using a]
    rw[h2]at h1;exact h1
   have vR:VR (pp.map λi=>rs.getD i V.non) (pp.map λi=>R.getD i ⟨"",0,0,[]⟩) rR H7:=by
    refine⟨by simp,λi r v h1 h2=>?_⟩;rw[Ak]at h1 h2;obtain⟨a,ha,rfl⟩:=AA.mp h1;rw[ha]at h2
    cases h2
    have hal:=hlt a (Af ha);have hal2:a<rs.length:=by rw[hR.1];exact hal
    have e1:R.getD a ⟨"",0,0,[]⟩=R[a]:=by simp[hal]
    have e2:rs.getD a V.non=rs[a]:=by simp[hal2]
    rw[e1];show rR R[a] (rs.getD a V.non) H7;rw[e2];exact (hR.2 a _ _ (Aa hal) (Aa hal2)).kt (KT.of s7)
   refine k D H7 _ _ hD s7 f7 vR hRR ?_
   unfold InKey;rw[Bv];exact hpo
inductive Al {α β:Type} (P:α->β->Prop):List α->List β->Prop where
 |nil:Al P [] []
 |cons {a:α} {b:β} {l:List α} {m:List β}:P a b->Al P l m->Al P (a::l) (b::m)
theorem Al.of{α β:Type}{P:α->β->Prop}:∀{l:List α}{m:List β},l.length=m.length->(∀(i:Nat) a b,m[i]?=some b->l[i]?=some a->P a b)->Al P l m
 |[],[],_,_=>.nil
 |[],_::_,h,_=>by cases h
 |_::_,[],h,_=>by cases h
 |a::l,b::m,h,q=>.cons (q 0 a b rfl rfl) (Al.of (by simpa using h) λi x y h1 h2=>q (i+1) x y (by simpa using h1) (by simpa using h2))
theorem Al.length{α β:Type}{P:α->β->Prop}{l:List α}{m:List β}(h:Al P l m):l.length=m.length:=by
 induction h with
 |nil=>rfl
 |cons _ _ ih=>simp[ih]
theorem Al.at{α β:Type}{P:α->β->Prop}{l:List α}{m:List β}(h:Al P l m):∀{i:Nat}{a:α}{b:β},m[i]?=some b->l[i]?=some a->P a b:=by
 induction h with
 |nil=>intro i a b h1;simp at h1
 |cons p _ ih =>
  intro i a b h1 h2
  cases i with
  |zero=>simp at h1 h2;subst h1 h2;exact p
  |succ i=>exact ih (by simpa using h1) (by simpa using h2)
theorem Al.perm{α β:Type}{P:α->β->Prop}{l' l:List α}(p:l'.Perm l):∀{m:List β},Al P l m->∃m',m'.Perm m/\Al P l' m':=by
 induction p with
 |nil=>intro m h;exact⟨m,.refl _,h⟩
 |cons a _ ih =>
  intro m h
  cases h with
  |cons p t =>
   obtain⟨m',q,r⟩:=ih t;exact⟨_::m',q.cons _,.cons p r⟩
 |swap a b l =>
  intro m h
  cases h with
  |cons p t =>
   cases t with
   |cons p2 t2=>exact⟨_::_::_,.swap _ _ _,.cons p2 (.cons p t2)⟩
 |trans _ _ ih1 ih2 =>
  intro m h;obtain⟨m1,q1,r1⟩:=ih2 h;obtain⟨m2,q2,r2⟩:=ih1 r1;exact⟨m2,q2.trans q1,r2⟩
theorem Al.bind{α γ:Type}{P Q:α->List γ->Prop}(f:∀a b,P a b->∃c,Q a c/\c.Perm b){l:List α}{m:List (List γ)}(h:Al P l m):∃m',Al Q l m'/\m'.flatten.Perm m.flatten:=by
 induction h with
 |nil=>exact⟨[],.nil,.refl _⟩
 |cons p _ ih =>
  obtain⟨c,q1,q2⟩:=f _ _ p;obtain⟨m',r1,r2⟩:=ih;exact⟨c::m',.cons q1 r1,by rw[Bn,Bn];exact q2.append r2⟩
theorem zhk{γ:Type}{a b:List (List γ)}(p:a.Perm b):a.flatten.Perm b.flatten:=by
 induction p with
 |nil=>exact .refl _
 |cons x _ ih=>rw[Bn,Bn];exact ih.append_left _
 |swap x y l =>
  simp only[Bn];rw[<- CZ,<- CZ];exact List.perm_append_comm.append_right _
 |trans _ _ i1 i2=>exact i1.trans i2
structure Cans (C:Cell->Bool) (ESS:List (List Edge)) (R:List Rnd):Prop where
 al:Al (λr es=>Can C es r) R ESS
 nd:ESS.flatten.Nodup
 all:∀e,e∈ESS.flatten ↔ IsE C e
theorem Whole.cans{cs:List Cell}{R R0:List Rnd}(p:R.Perm R0)(h:Whole cs R0):∃ESS,Cans (isIn cs) ESS R:=by
 obtain⟨E,h1,h2⟩:=h;have a1:Al (λr es=>(∃b,Closed (isIn cs) b es)/\IsRnd (wk (isIn cs) es) r) R0 E:=Al.of h1.len λi r es e1 e2=>h1.each i es r e1 e2
 obtain⟨F,q1,a2⟩:=a1.perm p
 obtain⟨G,a3,q2⟩:=Al.bind (Q:=λr es=>Can (isIn cs) es r) (λr es ⟨⟨b,hb⟩,hr⟩=>by obtain⟨es',k1,k2,k3,k4,k5,_⟩:=IsRnd.walk hb hr;exact⟨es',⟨k1,k3,k4,k5⟩,k2⟩) a2
 have pm:=q2.trans (zhk q1);exact⟨G,a3,pm.nodup_iff.mpr h1.nd,λe=>by rw[pm.mem_iff];exact h2 e⟩
theorem Cans.so{C:Cell->Bool}{ESS:List (List Edge)}{R:List Rnd}(h:Cans C ESS R){i:Nat}{r:Rnd}(hr:R[i]?=some r):∃es,ESS[i]?=some es/\Can C es r:=by have hi:=(Ac.mp hr).1;rw[h.al.length]at hi;exact⟨_,Aa hi,h.al.at (Aa hi) hr⟩
theorem zk8{C:Cell->Bool}{e:Edge}(hw:e.w<4):∀k,IsE (rCn k C) (qEn k e) ↔ IsE C e
 | 0=>Iff.rfl
 |k+1=>by
  have:∀k,(qEn k e).w<4:=λk=>by
   cases k with
   |zero=>exact hw
   |succ k=>exact AU _ (by decide)
  exact (isE_q (rCn k C) (this k)).trans (zk8 hw k)
theorem znH{e:Edge}(hw:e.w<4):∃f,f.w<4/\qE f=e:=by refine⟨⟨(e.c.2,-e.c.1),(e.w+3) % 4⟩,AU _ (by decide),?_⟩;obtain⟨⟨x,y⟩,w⟩:=e;simp only at hw;show (⟨(-(-x),y),((w+3) % 4+1) % 4⟩:Edge)=⟨(x,y),w⟩;rw[Int.neg_neg,show ((w+3) % 4+1) % 4=w by lia]
theorem zkx{e:Edge}(hw:e.w<4):∀k,∃f,f.w<4/\qEn k f=e
 | 0=>⟨e,hw,rfl⟩
 |k+1=>by
  obtain⟨f,h1,h2⟩:=znH hw;obtain⟨g,h3,h4⟩:=zkx h1 k;exact⟨g,h3,by show qE (qEn k g)=e;rw[h4,h2]⟩
theorem Al.snoc{α β:Type}{P:α->β->Prop}{l:List α}{m:List β}{a:α}{b:β}(h:Al P l m)(p:P a b):Al P (l++[a]) (m++[b]):=by
 induction h with
 |nil=>exact .cons p .nil
 |cons q _ ih=>exact .cons q ih
noncomputable def qCn:Nat->Cell->Cell
 | 0,c=>c
 |k+1,c=>qC (qCn k c)
theorem zky{a b:Cell}:∀k,qCn k a=qCn k b->a=b
 | 0,h=>h
 |k+1,h=>zky k (zkz h)
theorem zn1(cs:List Cell)(c:Cell):isIn (cs.map qC) c=rC (isIn cs) c:=by
 have e:c=qC (c.2,-c.1):=Bj (by show c.1=- -c.1;lia) rfl;unfold rC isIn;rw[decide_eq_decide];constructor
 .intro h;obtain⟨x,hx,ex⟩:=Aq.mp h;rw[e]at ex;rw[<- zkz ex];exact hx
 .intro h;exact Aq.mpr ⟨_,h,e.symm⟩
theorem zk5(cs:List Cell):∀k c,isIn (cs.map (qCn k)) c=rCn k (isIn cs) c
 | 0,c=>by
  have:cs.map (qCn 0)=cs:=List.map_id' _;rw[this];rfl
 |k+1,c=>by
  have e:cs.map (qCn (k+1))=(cs.map (qCn k)).map qC:=by rw[BM];rfl
  rw[e,zn1];show isIn (cs.map (qCn k)) (c.2,-c.1)=rCn k (isIn cs) (c.2,-c.1);exact zk5 cs k _
theorem zk6{a b:List Cell}(p:a.Perm b)(c:Cell):isIn a c=isIn b c:=decide_eq_decide.mpr p.mem_iff
noncomputable abbrev rank(c:Cell):List Int:=[c.2,c.1]
theorem ziJ{a b:Cell}(h:rank a=rank b):a=b:=by simp only[rank,List.cons.injEq,and_true]at h;exact Bj h.2 h.1
theorem InOrd.pw{cs:List Cell}(h:InOrd cs):cs.Pairwise λa b=>HT.lexLt (rank a) (rank b)=true:=by
 induction cs with
 |nil=>exact .nil
 |cons a r ih =>
  have ih':=ih λi c d h1 h2=>h (i+1) c d (by simpa using h1) (by simpa using h2)
  refine List.pairwise_cons.mpr ⟨λb hb=>?_,ih'⟩
  cases r with
  |nil=>cases hb
  |cons c r =>
   have h0:HT.lexLt (rank a) (rank c)=true:=h 0 a c rfl rfl;rcases Aw.mp hb with rfl |hb
   .exact h0
   .exact HT.lexLt_trans h0 ((List.pairwise_cons.mp ih').1 b hb)
theorem InOrd.nodup{cs:List Cell}(h:InOrd cs):cs.Nodup:=h.pw.imp λ{a b} q e=>by subst e;rw[HT.lexLt_irrefl]at q;cases q
theorem InOrd.of{cs:List Cell}(hs:cs.Pairwise λa b=>HT.lexLt (rank b) (rank a)=false)(hn:cs.Nodup):InOrd cs:=by
 intro i c d h1 h2;have hi:=(Ac.mp h1).1;have hj:=(Ac.mp h2).1;have e1:=(Ac.mp h1).2;have e2:=(Ac.mp h2).2;have a:=List.pairwise_iff_getElem.mp hs i (i+1) hi hj (by lia);have b:=List.pairwise_iff_getElem.mp hn i (i+1) hi hj (by lia);rw[e1,e2]at a b;show HT.lexLt (rank c) (rank d)=true
 cases q:HT.lexLt (rank c) (rank d) with
 |true=>rfl
 |false=>exact absurd (ziJ (HT.lexLt_total q a)) b
noncomputable def zcU(K:W.Frag):Sp:=λvs H Q _=>∃(a:Addr) (rs:List V) (R:List Rnd) (q:Int) (C:Cell->Bool) (ESS:List (List Edge)),vs=[.ref a,.int q]/\SqL K H a rs/\VR rs R rR H/\R.length<=60/\Al (λr es=>Can C es r) R ESS/\(∀es∈ESS,es.length<=500) /\
 ∀p H' rs' S S0,H p=none->Same H H'->H' p=some (.lst rs')->VR rs' S rR H'->S.Perm S0->InKey S->Al (λr es=>IsRnd (wk (rCn (q % 4).toNat C) (es.map (qEn (q % 4).toNat))) r) S0 ESS->Q (.ref p) H'
theorem zf7 (T:Txt P w K mg) (g_turned:Fn P w K mg base 6 "turned" ["one","quarters"] (ziB K)) (g_in_order:Fn P w K mg base 4 "in_order" ["some"] (zdg K)) (d:Df K mg "turned_all" zbV ["some","quarters"]):FnOk P w K mg base CX0 7 d.f d.fd ["some","quarters"] (zcU K):=by
 refine d.F.ok zfS (λvs H Q E h=>?_) (λcdv A outer s H vs Q E hr h=>?_)
 .obtain⟨a,rs,R,q,C,ESS,rfl,_⟩:=h;rfl
 .obtain⟨a,rs,R,q,C,ESS,rfl,hL,hR,hlen,al,hes,k⟩:=h;have hu1:=hu_of hr;have nb0:(["one","quarters"]:List Str).Nodup:=by decide +kernel
  refine⟨_,(zaf (zai (pC g_in_order hr (zah (zaN (osc:=zad zbV) (N:=zdU) (N':=["one","quarters"]) (sel:=[none,some 1]) bO (zay (pv 0)) (λ_ _ _ _ _=>(nG 0 nb0)) (λ_ _ _ _ _=>zaU) (λ_ _ _ _ _=>(pC g_turned hr (pa_N (pv 0) (pa_N (pv 1) zab))))) zab)))),?_⟩;have hrl:rs.length<=60:=by rw[hR.1];exact hlen
  refine⟨_,rfl,a,rfl,⟨_,hL⟩,λp0 hp0=>?_⟩
  refine zar (K:=K) (a:=a) (xs:=rs) (λj σ H9=>∃o,σ=[o,some (.int q)]/\Same H H9/\∃vs' S0,H9 p0=some (.lst vs')/\VR vs' S0 rR H9/\Al (λr es=>IsRnd (wk (rCn (q % 4).toNat C) (es.map (qEn (q % 4).toNat))) r) S0 (ESS.take j))
   ⟨_,rfl,Same.up hp0,[],[],zaa,VR.nil,.nil⟩ (λj σ H9 _ ⟨_,_,s9,_⟩=>s9.seq hL) ?_ ?_
  .rintro j v σ H9 hj ⟨o,rfl,s9,vs',S0,e9,hv,ha⟩;obtain⟨r,hr',hx⟩:=hR.at hj;have hjR:j<R.length:=(Ac.mp hr').1;have hjE:j<ESS.length:=by rw[<- al.length];exact hjR
   have hE:=Aa hjE;have hcan:=al.at hE hr'
   have hel:vs'.length<=500:=by have:=ha.length;rw[hv.1,this,AB];have:=al.length;lia
   refine gN ?_
   refine⟨_,rfl,_,rfl,v,q,r,C,ESS[j],rfl,hx.kt (KT.of s9),hcan,hes _ (AV _),λv' H10 r' s10 hr10 hrn=>?_⟩;have e10:=s10 _ _ e9;refine⟨vs',e10,zal (by lia),_,rfl,zam hp0 (s9.trans s10),_,S0++[r'],zaa,?_,?_⟩
   .exact hv.snoc (λx v h=>(h.kt (KT.of s10)).kt (KT.lst e10)) (hr10.kt (KT.lst e10))
   .rw[zau hE];exact ha.snoc hrn
  .rintro σ H9 ⟨o,rfl,s9,vs',S0,e9,hv,ha⟩;have ht:ESS.take rs.length=ESS:=Co (by rw[hR.1,al.length];exact Aj _);rw[ht]at ha;exact⟨p0,vs',S0,rfl,SqL.of e9,hv,(by rw[ha.length,<- al.length];exact hlen),λp H' rs' S hp s' e' hv' hpm hin=>k p H' rs' S S0 (s9.free hp) (s9.trans s') e' hv' hpm hin ha⟩
theorem zh0 (d:Df K mg "_law_rank" zc0 ["_law_cell"]):FnOk P w K mg base CX0 1 d.f d.fd ["_law_cell"] (zcV K):=by
 refine d.F.ok zgW (λvs H Q E h=>?_) (λcdv A outer s H vs Q E hr h=>?_)
 .obtain⟨a,x,y,r,rfl,_⟩:=h;rfl
 .obtain⟨a,x,y,r,rfl,hq,k⟩:=h;refine⟨_,(zaf (zai (zap (zah (pe_ix zaT (pv 0) zae (λ_ _=>rfl)) (zah (pe_ix zaT (pv 0) zae (λ_ _=>rfl)) zab))))),?_⟩;refine⟨_,rfl,a,_,_,_,rfl,rfl,hq,zak (j:=1) rfl,_,rfl,a,_,_,_,rfl,rfl,hq,zak (j:=0) rfl,two,λp hp=>k p _ hp (Same.up hp) zaa⟩
theorem znV{a b:Cell}(h:mC a=mC b):a=b:=by rw[<- mC_mC a,h,mC_mC]
theorem zn2(cs:List Cell)(c:Cell):isIn (cs.map mC) c=mCC (isIn cs) c:=by
 unfold mCC isIn;rw[decide_eq_decide];constructor
 .intro h;obtain⟨x,hx,ex⟩:=Aq.mp h;rw[<- ex,mC_mC];exact hx
 .intro h;exact Aq.mpr ⟨_,h,mC_mC c⟩
noncomputable def zde(K:W.Frag):Sp:=λvs H Q _=>∃(a:Addr) (rs:List V) (R:List Rnd) (C:Cell->Bool) (ESS:List (List Edge)),vs=[.ref a]/\SqL K H a rs/\VR rs R rR H/\R.length<=60/\Al (λr es=>Can C es r) R ESS/\(∀es∈ESS,es.length<=500) /\
 ∀p H' rs' S S0,H p=none->Same H H'->H' p=some (.lst rs')->VR rs' S rR H'->S.Perm S0->InKey S->Al (λr es=>IsRnd (wk (mCC C) (mW es)) r) S0 ESS->Q (.ref p) H'
theorem zev (T:Txt P w K mg) (g_mirrored:Fn P w K mg base 6 "mirrored" ["one"] (zfm K)) (g_in_order:Fn P w K mg base 4 "in_order" ["some"] (zdg K)) (d:Df K mg "mirrored_all" zbw ["some"]):FnOk P w K mg base CX0 7 d.f d.fd ["some"] (zde K):=by
 refine d.F.ok zeh (λvs H Q E h=>?_) (λcdv A outer s H vs Q E hr h=>?_)
 .obtain⟨a,rs,R,C,ESS,rfl,_⟩:=h;rfl
 .obtain⟨a,rs,R,C,ESS,rfl,hL,hR,hlen,al,hes,k⟩:=h;have hu1:=hu_of hr;have nb0:(["one"]:List Str).Nodup:=by decide +kernel
  refine⟨_,(zaf (zai (pC g_in_order hr (zah (zaN (osc:=zad zbw) (N:=zcT) (N':=["one"]) (sel:=[none]) bO (zay (pv 0)) (λ_ _ _ _ _=>(nG 0 nb0)) (λ_ _ _ _ _=>zaU) (λ_ _ _ _ _=>(pC g_mirrored hr (pa_N (pv 0) zab)))) zab)))),?_⟩;have hrl:rs.length<=60:=by rw[hR.1];exact hlen
  refine⟨_,rfl,a,rfl,⟨_,hL⟩,λp0 hp0=>?_⟩
  refine zar (K:=K) (a:=a) (xs:=rs) (λj σ H9=>∃o,σ=[o]/\Same H H9/\∃vs' S0,H9 p0=some (.lst vs')/\VR vs' S0 rR H9/\Al (λr es=>IsRnd (wk (mCC C) (mW es)) r) S0 (ESS.take j))
   ⟨_,rfl,Same.up hp0,[],[],zaa,VR.nil,.nil⟩ (λj σ H9 _ ⟨_,_,s9,_⟩=>s9.seq hL) ?_ ?_
  .rintro j v σ H9 hj ⟨o,rfl,s9,vs',S0,e9,hv,ha⟩;obtain⟨r,hr',hx⟩:=hR.at hj;have hjR:j<R.length:=(Ac.mp hr').1;have hjE:j<ESS.length:=by rw[<- al.length];exact hjR
   have hE:=Aa hjE;have hcan:=al.at hE hr'
   have hel:vs'.length<=500:=by have:=ha.length;rw[hv.1,this,AB];have:=al.length;lia
   refine gN ?_
   refine⟨_,rfl,v,r,C,ESS[j],rfl,hx.kt (KT.of s9),hcan,hes _ (AV _),λv' H10 r' s10 hr10 hrn=>?_⟩;have e10:=s10 _ _ e9;refine⟨vs',e10,zal (by lia),_,rfl,zam hp0 (s9.trans s10),_,S0++[r'],zaa,?_,?_⟩
   .exact hv.snoc (λx v h=>(h.kt (KT.of s10)).kt (KT.lst e10)) (hr10.kt (KT.lst e10))
   .rw[zau hE];exact ha.snoc hrn
  .rintro σ H9 ⟨o,rfl,s9,vs',S0,e9,hv,ha⟩;have ht:ESS.take rs.length=ESS:=Co (by rw[hR.1,al.length];exact Aj _);rw[ht]at ha;exact⟨p0,vs',S0,rfl,SqL.of e9,hv,(by rw[ha.length,<- al.length];exact hlen),λp H' rs' S hp s' e' hv' hpm hin=>k p H' rs' S S0 (s9.free hp) (s9.trans s') e' hv' hpm hin ha⟩
noncomputable def mvC(d:Cell)(c:Cell):Cell:=(c.1+d.1,c.2+d.2)
noncomputable def mvE(d:Cell)(e:Edge):Edge:=⟨mvC d e.c,e.w⟩
noncomputable def mvR(d:Cell)(r:Rnd):Rnd:=⟨r.so,r.x+d.1,r.y+d.2,r.row⟩
theorem zkQ{d a b:Cell}(h:mvC d a=mvC d b):a=b:=by obtain⟨a1,a2⟩:=a;obtain⟨b1,b2⟩:=b;simp only[mvC,Prod.mk.injEq]at h;exact Bj (by show a1=b1;lia) (by show a2=b2;lia)
theorem zgh(d c:Cell):mvC d (mvC (-d.1,-d.2) c)=c:=Bj (by show c.1+-d.1+d.1=c.1;lia) (by show c.2+-d.2+d.2=c.2;lia)
theorem zkR(d c:Cell):mvC (-d.1,-d.2) (mvC d c)=c:=Bj (by show c.1+d.1+-d.1=c.1;lia) (by show c.2+d.2+-d.2=c.2;lia)
theorem znc{d:Cell}{e f:Edge}(h:mvE d e=mvE d f):e=f:=by obtain⟨a,w⟩:=e;obtain⟨b,v⟩:=f;simp only[mvE,Edge.mk.injEq]at h;rw[zkQ h.1,h.2]
theorem ziZ(d:Cell)(e:Edge):mvE d (mvE (-d.1,-d.2) e)=e:=by unfold mvE;rw[zgh]
theorem zk7(d:Cell)(cs:List Cell)(c:Cell):isIn (cs.map (mvC d)) (mvC d c)=isIn cs c:=by
 unfold isIn;rw[decide_eq_decide];constructor
 .intro h;obtain⟨x,hx,e⟩:=Aq.mp h;rw[<- zkQ e];exact hx
 .intro h;exact Aq.mpr ⟨c,h,rfl⟩
theorem go_mv(d c:Cell)(i:Nat):go (mvC d c) i=mvC d (go c i):=Bj (by show c.1+d.1+(mv i).1=c.1+(mv i).1+d.1;lia) (by show c.2+d.2+(mv i).2=c.2+(mv i).2+d.2;lia)
theorem zn6(d:Cell)(e:Edge):gap (mvE d e)=mvC d (gap e):=go_mv d e.c _
theorem zkY(a b c d x y:Int):HT.lexLt [a+x,b+y] [c+x,d+y]=HT.lexLt [a,b] [c,d]:=by
 rw[HT.lexLt_cons,HT.lexLt_cons,HT.lexLt_cons,HT.lexLt_cons]
 by_cases h1:a=c
 .subst h1;rw[if_pos rfl,if_pos rfl]
  by_cases h2:b=d
  .subst h2;rw[if_pos rfl,if_pos rfl]
  .rw[if_neg (by lia),if_neg h2];exact decide_eq_decide.mpr (by lia)
 .rw[if_neg (by lia),if_neg h1];exact decide_eq_decide.mpr (by lia)
theorem zjo(d:Cell){cs:List Cell}(h:InOrd cs):InOrd (cs.map (mvC d)):=by intro i a b h1 h2;rw[Ak]at h1 h2;obtain⟨c,hc,rfl⟩:=AA.mp h1;obtain⟨e,he,rfl⟩:=AA.mp h2;show HT.lexLt [c.2+d.2,c.1+d.1] [e.2+d.2,e.1+d.1]=true;rw[zkY];exact h i c e hc he
noncomputable def zke(K:W.Frag):Sp:=λvs H Q _=>∃(v:V) (r:Rnd) (dx dy:Int),vs=[v,.int dx,.int dy]/\rR r v H/\∀p H',H p=none->Same H H'->rR (mvR (dx,dy) r) (.ref p) H'->Q (.ref p) H'
theorem zlU (d:Df K mg "moved" zhR ["one","dx","dy"]):FnOk P w K mg base CX0 1 d.f d.fd ["one","dx","dy"] (zke K):=by
 refine d.F.ok zdk (λvs H Q E h=>?_) (λcdv A outer s H vs Q E hr h=>?_)
 .obtain⟨v,r,dx,dy,rfl,_⟩:=h;rfl
 .obtain⟨v,r,dx,dy,rfl,⟨a,b,rfl,q1,q2⟩,k⟩:=h
  refine⟨_,(zac (zbs (pv 0) (zaX (by rfl) (zag (nG 3 zdk.nd) (zag (nG 4 zdk.nd) (zag (nG 5 zdk.nd) (zag (nG 6 zdk.nd) zao))))))
   (zaf (zai (zap (pa_N (pv 3) (pa_B (pe_op zax (pv 4) (pv 1)) (pa_B (pe_op zax (pv 5) (pv 2)) (pa_N (pv 6) zab)))))))),?_⟩
  refine⟨_,rfl,a,_,rfl,SqT.of q1,rfl,_,_,rfl,_,_,rfl,_,_,rfl,_,_,rfl,rfl,?_⟩;refine⟨_,rfl,_,rfl,_,rfl,_,_,rfl,rfl,_,rfl,_,rfl,_,_,rfl,rfl,_,rfl,(by show 4<=sizeLine;decide),λp hp=>k p _ hp (Same.up hp) ⟨p,b,rfl,zaa,?_⟩⟩;exact Same.up hp _ _ q2
noncomputable def zfl(K:W.Frag):Sp:=λvs H Q _=>∃(a:Addr) (rs:List V) (R:List Rnd) (dx dy:Int),vs=[.ref a,.int dx,.int dy]/\SqL K H a rs/\VR rs R rR H/\R.length<=60 /\
 ∀p H' rs' S,H p=none->Same H H'->H' p=some (.lst rs')->VR rs' S rR H'->S.Perm (R.map (mvR (dx,dy)))->InKey S->Q (.ref p) H'
theorem zg7 (T:Txt P w K mg) (g_moved:Fn P w K mg base 1 "moved" ["one","dx","dy"] (zke K)) (g_in_order:Fn P w K mg base 4 "in_order" ["some"] (zdg K)) (d:Df K mg "moved_all" zcf ["some","dx","dy"]):FnOk P w K mg base CX0 5 d.f d.fd ["some","dx","dy"] (zfl K):=by
 refine d.F.ok zgT (λvs H Q E h=>?_) (λcdv A outer s H vs Q E hr h=>?_)
 .obtain⟨a,rs,R,dx,dy,rfl,_⟩:=h;rfl
 .obtain⟨a,rs,R,dx,dy,rfl,hL,hR,hlen,k⟩:=h;have hu1:=hu_of hr;have nb0:(["one","dx","dy"]:List Str).Nodup:=by decide +kernel
  refine⟨_,(zaf (zai (pC g_in_order hr (zah (zaN (osc:=zad zcf) (N:=zeO) (N':=["one","dx","dy"]) (sel:=[none,some 1,some 2]) bO (zay (pv 0)) (λ_ _ _ _ _=>(nG 0 nb0)) (λ_ _ _ _ _=>zaU) (λ_ _ _ _ _=>(pC g_moved hr (pa_N (pv 0) (pa_N (pv 1) (pa_N (pv 2) zab)))))) zab)))),?_⟩;have hrl:rs.length<=60:=by rw[hR.1];exact hlen
  refine⟨_,rfl,a,rfl,⟨_,hL⟩,λq hq=>?_⟩
  refine zar (K:=K) (a:=a) (xs:=rs) (λj σ H9=>∃o,σ=[o,some (.int dx),some (.int dy)]/\Same H H9/\∃es,H9 q=some (.lst es)/\VR es ((R.take j).map (mvR (dx,dy))) rR H9)
   ⟨_,rfl,Same.up hq,[],zaa,VR.nil⟩ (λj σ H9 _ ⟨_,_,s9,_⟩=>s9.seq hL) ?_ ?_
  .rintro j v σ H9 hj ⟨o,rfl,s9,es,e9,hv⟩;obtain⟨r,hr',hx⟩:=hR.at hj;have hjl:j<rs.length:=(Ac.mp hj).1;have hel:es.length<=500:=by rw[hv.1,Ai,AB];lia
   refine gN ?_
   refine⟨_,rfl,_,rfl,_,rfl,v,r,dx,dy,rfl,hx.kt (KT.of s9),λp H10 hp s10 hm=>?_⟩;have e10:=s10 _ _ e9;refine⟨es,e10,zal (by lia),_,rfl,zam hq (s9.trans s10),_,zaa,?_⟩;rw[zau hr',AN];exact hv.snoc (λx v h=>(h.kt (KT.of s10)).kt (KT.lst e10)) (hm.kt (KT.lst e10))
  .rintro σ H9 ⟨o,rfl,s9,es,e9,hv⟩;have ht:R.take rs.length=R:=Co (by rw[hR.1];exact Aj _);rw[ht]at hv;exact⟨q,es,_,rfl,SqL.of e9,hv,(by rw[Ai];exact hlen),λp H' rs' S hp s' e' hv' hpm hin=>k p H' rs' S (s9.free hp) (s9.trans s') e' hv' hpm hin⟩
theorem Can.wby{C:Cell->Bool}{es:List Edge}{r:Rnd}(h:Can C es r):wk C es=wby (begE r) (RP.deeds (begE r).w r.row):=by have h1:=h.cl.deeds;rw[<- h.row]at h1;obtain⟨⟨h0,hs,_,_⟩,_⟩:=h.cl;rw[<- zd8 es (.inl h0) hs,h1]
theorem Can.uniq{C D:Cell->Bool}{es fs:List Edge}{r:Rnd}(h:Can C es r)(k:Can D fs r):es=fs:=by
 have e:wk C es=wk D fs:=by rw[h.wby,k.wby]
 have:=congrArg (List.map Prod.fst) e
 rwa [zbE,zbE]at this
theorem zdP{α:Type}(f:α->Int):∀{l:List α},l≠[]->∃x∈l,∀y∈l,f x<=f y
 |[],h=>absurd rfl h
 |[a],_=>⟨a,by simp,λy hy=>by rw[Am.mp hy];exact Cr _⟩
 |a::b::l,_=>by
  obtain⟨x,hx,hm⟩:=zdP f (l:=b::l) (by simp);rcases Int.le_total (f a) (f x) with h |h
  .exact⟨a, by simp, λy hy => by
    rcases Aw.mp hy with rfl |hy
    .exact Cr _
    .exact Int.le_trans h (hm y hy)⟩
  .exact⟨x, At _ hx, λy hy => by
    rcases Aw.mp hy with rfl |hy
    .exact h
    .exact hm y hy⟩
noncomputable def Shift(ds es:List Cell)(d:Cell):Prop:=(ds=[]/\es=[]/\d=(0,0))∨(es≠[]/\∀c,isIn es c=isIn (ds.map (mvC d)) c)
noncomputable def brt(q:Bool×Int)(cs:List Cell):List Cell:=(if q.1 then cs.map mC else cs).map (qCn (q.2 % 4).toNat)
noncomputable def trns:List (Bool×Int):=[(false,0),(false,1),(false,2),(false,3),(true,0),(true,1),(true,2),(true,3)]
theorem InOrd.ext:∀{cs ds:List Cell},InOrd cs->InOrd ds->(∀c,isIn cs c=isIn ds c)->cs=ds:=λ{cs ds} h k e=>by
 have hp:cs.Perm ds:=(List.perm_ext_iff_of_nodup h.nodup k.nodup).mpr λc=>by have:=decide_eq_decide.mp (e c);exact this
 refine hp.eq_of_pairwise (le:=λa b=>HT.lexLt (rank b) (rank a)=false) (λa b _ _ h1 h2=>ziJ (HT.lexLt_total h2 h1)) ?_ ?_
 .exact h.pw.imp λ{a b} q=>HT.lexLt_asym q
 .exact k.pw.imp λ{a b} q=>HT.lexLt_asym q
noncomputable def tR(q:Bool×Int)(v:V)(H:Hp):Prop:=∃b,v=.ref b/\H b=some (.tup [.bl q.1,.int q.2])
noncomputable def zml:Sp:=λvs H Q _=>vs=[]/\∀p H' (us:List V),Same H H'->H' p=some (.lst us)->VR us trns tR H'->Q (.ref p) H'
theorem Cans.short{C:Cell->Bool}{cs:List Cell}{ESS:List (List Edge)}{R:List Rnd}(h:Cans (isIn cs) ESS R):∀es∈ESS,es.length<=4*cs.length:=λes he=>by
 obtain⟨i,hi,ei⟩:=AD he;have hr:i<R.length:=by rw[h.al.length];exact hi
 have:=h.al.at (i:=i) (by rw[Aa hi,ei]) (Aa hr);exact this.cl.1.short
theorem Whole.pack{ds:List Cell}{S S0:List Rnd}(wh:Whole ds S0)(pm:S.Perm S0)(hl:ds.length<=60):S.length<=60/\(∀r∈S,SoOk r)/\∃ESS,Cans (isIn ds) ESS S/\∀es∈ESS,es.length<=480:=by obtain⟨ESS,hcan⟩:=wh.cans pm;exact⟨by rw[pm.length_eq];exact Bb wh.few hl,λr h=>wh.so r (pm.mem_iff.mp h),ESS,hcan,λes he=>by have:=hcan.short (C:=isIn ds) es he;lia⟩
structure Rds (K:W.Frag) (H:Hp) (a:Addr) (cs:List Cell) (rs:List V) (R:List Rnd):Prop where
 li:SqL K H a rs
 vr:VR rs R rR H
 key:InKey R
 wh:∃R0,R.Perm R0/\Whole cs R0
 le:cs.length<=60
noncomputable def First(cs ds:List Cell)(i:Nat)(q:Bool×Int)(d:Cell):Prop:=trns[i]?=some q/\Shift (brt q cs) ds d/\∀(j:Nat) q',j<i->trns[j]?=some q'->∀d,¬ Shift (brt q' cs) ds d
noncomputable def NoWay(cs ds:List Cell):Prop:=∀(j:Nat) q',trns[j]?=some q'->∀d,¬ Shift (brt q' cs) ds d
noncomputable def howV(q:Bool×Int)(d:Cell):List V:=[.bl q.1,.int q.2,.int d.1,.int d.2]
theorem zj0{A:Prop}{D:Addr->Hp->Prop}(C:Addr->Hp->Prop)(g:(∀n H1,D n H1->C n H1)->A)(h:∀n H1,D n H1->C n H1):A:=g h
noncomputable def zee(K:W.Frag):Sp:=λvs H Q _=>∃(a:Addr) (fl:Bool) (q:Int) (cs:List Cell),vs=[.ref a,.bl fl,.int q]/\LR K H a cs cR/\InOrd cs/\cs.length<=60 /\
 ∀p H' ds,H p=none->Same H H'->(∃vs,H' p=some (.lst vs)/\VR vs ds cR H')->InOrd ds->ds.length=cs.length->(∀c,isIn ds c=isIn (brt (fl,q) cs) c)->Q (.ref p) H'
theorem zeZ (T:Txt P w K mg) (g__law_rank:Fn P w K mg base 1 "_law_rank" ["_law_cell"] (zcV K)) (d:Df K mg "_law_brought" za9 ["_law_cells","_law_flipped","_law_quarters"]):FnOk P w K mg base CX0 4 d.f d.fd ["_law_cells","_law_flipped","_law_quarters"] (zee K):=by
 refine d.F.ok zbo (λvs H Q E h=>?_) (λcdv A outer s H vs Q E hr h=>?_)
 .obtain⟨a,fl,q,cs,rfl,_⟩:=h;rfl
 .obtain⟨a,fl,q,cs,rfl,hLR,hord,hlen0,k⟩:=h;have hu1:=hu_of hr;have nb0:(["_law_x","_law_y"]:List Str).Nodup:=by decide +kernel
  have nb1:(["_law_x","_law_y"]:List Str).Nodup:=by decide +kernel
  refine⟨_,(zac (ps_if (zcQ (pv 1))
   (zaf (zdl (i:=0) (osc:=zad za9) (N:=zb4) (N':=["_law_x","_law_y"]) (sel:=[none,none]) bO zbo.nd (by rfl) (Or.inl rfl) (zay (pv 0)) (λ_ _ _ _ _=>(zbp (K:=K) (n:=2) (by rfl) (zag (nG 0 nb0) (zag (nG 1 nb0) zao)))) (λ_ _ _ _ _=>zaU) (λ_ _ _ _ _=>(zap (pa_B (pe_op zaP zae (pv 0)) (pa_N (pv 1) zab))))))
   zat)
   (zac (za4 AO rfl (zb8 (by rfl) T.nrange (pa_B (pe_op za2 (pv 2) zae) zab)) (nG 3 zbo.nd)
   (zaf (zdl (i:=0) (osc:=zad za9) (N:=zb4) (N':=["_law_x","_law_y"]) (sel:=[none,none]) bO zbo.nd (by rfl) (Or.inl rfl) (zay (pv 0)) (λ_ _ _ _ _=>(zbp (K:=K) (n:=2) (by rfl) (zag (nG 0 nb1) (zag (nG 1 nb1) zao)))) (λ_ _ _ _ _=>zaU) (λ_ _ _ _ _=>(zap (pa_B (pe_op zaP zae (pv 1)) (pa_N (pv 0) zab)))))))
   (zaf (zai (zd2 g__law_rank.ok (hr.mono (by decide)) g__law_rank.b (by rfl) T.nsorted (by rfl) g__law_rank.m (pv 0)))))),?_⟩
  have hq0:0<=q % 4:=Int.emod_nonneg _ (by decide);have hq4:q % 4<4:=DB _ (by decide);generalize h1:(if fl then cs.map mC else cs)=cs1;have hl1:cs1.length=cs.length:=by rw[<- h1];split <;> simp
  have hlen:cs1.length<=60:=by lia
  have hnd1:cs1.Nodup:=by
   rw[<- h1];split
   .unfold List.Nodup;rw[Bv];exact hord.nodup.imp λ{a b} hab e=>hab (znV e)
   .exact hord.nodup
  refine zj0 (D:=λb H1=>Same H H1/\LR K H1 b cs1 cR) ?C (λmain=>⟨_,rfl,_,rfl,ite2 (λhy=>?t) (λhn=>?f)⟩) ?h
  case t =>
   obtain⟨ws,hq,hw⟩:=hLR.vr;refine⟨_,rfl,a,rfl,⟨_,hq⟩,λp3 hp3=>?_⟩
   refine zar (K:=K) (a:=a) (xs:=ws) (λj σ H3=>∃o0 o1,σ=[o0,o1]/\Same H H3/\∃ws':List V,H3 p3=some (.lst ws')/\VR ws' ((cs.take j).map mC) cR H3)
    ⟨_,_,rfl,Same.up hp3,[],zaa,VR.nil⟩ (λj σ H3 _ ⟨_,_,_,s3,_⟩=>s3.seq hq) ?_ ?_
   .rintro j u σ H3 hj ⟨o0,o1,rfl,s3,ws',e3,hv3⟩;have hjl:j<ws.length:=(Ac.mp hj).1;obtain⟨c,hc,B,rfl,q1⟩:=hw.at hj;have hl3:ws'.length<=60:=by rw[hv3.1,Ai,AB];lia
    refine⟨B,_,rfl,SqT.of (s3 _ _ q1),rfl,_,_,rfl,_,_,rfl,rfl,?_⟩;refine zbu ?_
    refine⟨_,rfl,_,_,rfl,rfl,_,rfl,two,λt ht=>?_⟩;have s5:Same H3 (upd H3 t (.tup [.int (0-c.1),.int c.2])):=Same.up ht
    have r5:cR (mC c) (.ref t) (upd H3 t (.tup [.int (0-c.1),.int c.2])):=⟨t,rfl,by
     rw[zaa];show _=some (HO.tup [V.int (-c.1),V.int c.2]);rw[Int.zero_sub]⟩
    generalize upd H3 t (.tup [.int (0-c.1),.int c.2])=H5 at s5 r5;have e5:=s5 _ _ e3;refine⟨ws',e5,zal (by lia),_,_,rfl,zam hp3 (s3.trans s5),_,zaa,?_⟩;rw[zau hc,AN];exact hv3.snoc (λx v h=>(h.kt (KT.of s5)).kt (KT.lst e5)) (r5.kt (KT.lst e5))
   rintro σ H3 ⟨o0,o1,rfl,s3,ws',e3,hv3⟩;rw[hw.1,AG]at hv3;exact main p3 H3 ⟨s3,by rw[<- h1,if_pos hy];exact LR.of e3 hv3⟩
  case f=>exact main a H ⟨Same.refl _,by rw[<- h1,if_neg hn];exact hLR⟩
  rintro b0 H0 ⟨s0,hb0⟩;refine⟨_,rfl,_,_,rfl,rfl,(by show (0:Int)<4;decide),_,rfl,(by show -(2 ^ 62)<=q % 4;lia),(by show q % 4<2 ^ 62;lia),?_⟩;refine zbq (lo:=0) (n:=(q % 4).toNat) (λi σ H2=>∃(b:Addr) (o3:Option V),σ=[some (.ref b),some (.bl fl),some (.int q),o3]/\Same H H2/\LR K H2 b (cs1.map (qCn i)) cR) ⟨b0,_,rfl,s0,?_⟩ ?_ ?_
  .have:cs1.map (qCn 0)=cs1:=List.map_id' _;rw[this];exact hb0
  .rintro i σ H2 hi ⟨b,o3,rfl,s2,hb⟩;obtain⟨ws,hq,hw⟩:=hb.vr;refine⟨_,rfl,b,rfl,⟨_,hq⟩,λp3 hp3=>?_⟩;have wl:ws.length=cs1.length:=by rw[hw.1,Ai]
   refine zar (K:=K) (a:=b) (xs:=ws) (λj σ H3=>∃o0 o1,σ=[o0,o1]/\Same H2 H3/\∃ws':List V,H3 p3=some (.lst ws')/\VR ws' (((cs1.map (qCn i)).take j).map qC) cR H3)
    ⟨_,_,rfl,Same.up hp3,[],zaa,VR.nil⟩ (λj σ H3 _ ⟨_,_,_,s3,_⟩=>s3.seq hq) ?_ ?_
   .rintro j u σ H3 hj ⟨o0,o1,rfl,s3,ws',e3,hv3⟩;have hjl:j<ws.length:=(Ac.mp hj).1;obtain⟨c,hc,B,rfl,q1⟩:=hw.at hj;have hl3:ws'.length<=60:=by rw[hv3.1,Ai,AB,Ai];lia
    refine⟨B,_,rfl,SqT.of (s3 _ _ q1),rfl,_,_,rfl,_,_,rfl,rfl,?_⟩;refine zbu ?_
    refine⟨_,rfl,_,_,rfl,rfl,_,rfl,two,λt ht=>?_⟩;have s5:Same H3 (upd H3 t (.tup [.int (0-c.2),.int c.1])):=Same.up ht
    have r5:cR (qC c) (.ref t) (upd H3 t (.tup [.int (0-c.2),.int c.1])):=⟨t,rfl,by
     rw[zaa];show _=some (HO.tup [V.int (-c.2),V.int c.1]);rw[Int.zero_sub]⟩
    generalize upd H3 t (.tup [.int (0-c.2),.int c.1])=H5 at s5 r5;have e5:=s5 _ _ e3;refine⟨ws',e5,zal (by lia),_,_,rfl,zam hp3 (s3.trans s5),_,zaa,?_⟩;rw[zau hc,AN];exact hv3.snoc (λx v h=>(h.kt (KT.of s5)).kt (KT.lst e5)) (r5.kt (KT.lst e5))
   .rintro σ H3 ⟨o0,o1,rfl,s3,ws',e3,hv3⟩;rw[hw.1,AG,BM]at hv3;exact⟨p3,_,rfl,s2.trans s3,LR.of e3 hv3⟩
  .rintro σ H2 ⟨b,o3,rfl,s2,hb⟩;obtain⟨ws,hq,hw⟩:=hb.vr;have wl:ws.length=cs1.length:=by rw[hw.1,Ai]
   generalize hR:cs1.map (qCn (q % 4).toNat)=R at hw hb;have ge:∀(i:Nat) r,R[i]?=some r->R.getD i (0,0)=r:=λi r h=>by simp only[AI,h,Option.getD_some]
   refine⟨_,rfl,b,ws,λi=>[.int (R.getD i (0,0)).2,.int (R.getD i (0,0)).1],λi=>rank (R.getD i (0,0)),rfl,hq,by lia,λi x H7 hx s7=>?_,
    λi j hi hj=>⟨_,_,_,_,_,_,rfl,rfl,.cons (.int _ _) .nil,rfl,rfl⟩,λpp D H7 hpm hpo hD s7 f7=>?_⟩
   .obtain⟨r,hr',c,rfl,hx'⟩:=hw.at hx;refine⟨c,r.1,r.2,[],rfl,SqT.of (s7 _ _ hx'),λp8 H8 hp8 s8 f8=>⟨s8,p8,rfl,SqT.of ?_⟩⟩;show H8 p8=some (HO.tup [.int (R.getD i (0,0)).2,.int (R.getD i (0,0)).1]);rw[ge i r hr'];exact f8
   .have hlt:∀i ∈ pp, i < R.length := λi hi => by have:=Bx.mp (hpm.mem_iff.mp hi);rw[hw.1]at this;exact this
    have hRR:(pp.map λi=>R.getD i (0,0)).Perm R:=by
     have h1:=hpm.map λi=>R.getD i ((0,0):Cell)
     rw[hw.1]at h1
     have h2:((Ba R.length).map λi=>R.getD i ((0,0):Cell))=R:=by
      apply List.ext_getElem
      .simp
      .intro i a b;simp[show i<R.length by simpa using a]
     rw[h2]at h1;exact h1
    have vR:VR (pp.map λi=>ws.getD i V.non) (pp.map λi=>R.getD i (0,0)) cR H7:=by
     refine⟨by simp,λi r v h1 h2=>?_⟩;rw[Ak]at h1 h2;obtain⟨a,ha,rfl⟩:=AA.mp h1;rw[ha]at h2
     cases h2
     have hal:=hlt a (Af ha);have hal2:a<ws.length:=by rw[hw.1];exact hal
     have e1:R.getD a (0,0)=R[a]:=by simp[hal]
     have e2:ws.getD a V.non=ws[a]:=by simp[hal2]
     rw[e1];show cR R[a] (ws.getD a V.non) H7;rw[e2];exact (hw.2 a _ _ (Aa hal) (Aa hal2)).kt (KT.of s7)
    have nd:R.Nodup:=by rw[<- hR];unfold List.Nodup;rw[Bv];exact hnd1.imp λ{a b} hab e=>hab (zky _ e)
    refine k D H7 _ (s2.free hD) (s2.trans s7) ⟨_,f7,vR⟩ (InOrd.of ?_ (hRR.nodup_iff.mpr nd)) ?_ (λc=>?_)
    .rw[Bv];exact hpo
    .rw[hRR.length_eq,<- hR,Ai,hl1]
    .rw[zk6 hRR,<- hR,<- h1];rfl
noncomputable def lT(l:List (List Int)):PyData:=.list (l.map tI)
theorem zhl:∀l m:List (List Int),CV (l.map tI) (m.map tI)=decide (l=m)
 |[],[]=>rfl
 |[],_::_=>rfl
 |_::_,[]=>rfl
 |x::l,y::m=>by
  show (B5 (tI x) (tI y) && CV (l.map tI) (m.map tI))=_;rw[zhl l m,zeF]
  by_cases e:x=y
  .subst e;by_cases e2:l=m <;> simp[e2]
  .simp[e]
theorem zn7(l m:List (List Int)):B5 (lT l) (lT m)=decide (l=m):=zhl l m
theorem zdR:∀l:List (List Int),BI (l.map tI)=true
 |[]=>rfl
 |x::l=>by
  have:=za6 x;unfold Bl at this;rw[BQ]at this;show (Ct (tI x) && BI (l.map tI))=true;rw[this.1,zdR l];rfl
theorem zeH:∀l:List (List Int),Cy (l.map tI)<=1
 |[]=>A5 _
 |x::l=>by show max (BW (tI x)) (Cy (l.map tI))<=1;rw[zje];have:=zeH l;lia
theorem zdi(l:List (List Int)):Bl (lT l)=true:=by unfold Bl lT;rw[Ct,zdR l,BW];have:=zeH l;simp only[Bool.true_and,decide_eq_true_eq];lia
noncomputable def cI(c:Cell):List Int:=[c.1,c.2]
theorem zgZ{K:W.Frag}{H:Hp}:∀{vs:List V}{cs:List Cell},VR vs cs cR H->RDs K H vs ((cs.map cI).map tI)
 |[],[],_=>.nil
 |[],_::_,h=>by have:=h.1;cases this
 |_::_,[],h=>by have:=h.1;cases this
 |v::vs,r::R,h=>by
  obtain⟨⟨b,rfl,q⟩,h2⟩:=VR.cons.mp h;exact .cons (.tup (SqT.of q) (RDs.ints (cI r))) (zgZ h2)
theorem zf0{K:W.Frag}{H:Hp}{a:Addr}{vs:List V}{cs:List Cell}(e:SqL K H a vs)(h:VR vs cs cR H):RD K H (.ref a) (lT (cs.map cI)):=.lst e (zgZ h)
theorem zod{a b:Cell}(h:cI a=cI b):a=b:=by unfold cI at h;injection h with h1 h2;injection h2 with h2 _;exact Bj h1 h2
theorem zoc{cs ds:List Cell}:decide (cs.map cI=ds.map cI)=decide (cs=ds):=decide_eq_decide.mpr ⟨λh=>(List.map_inj_right (λx y e=>zod e)).mp h,λh=>by rw[h]⟩
theorem zfx(d:Cell)(l:List Cell)(c:Cell):isIn (l.map (mvC d)) c=isIn l (mvC (-d.1,-d.2) c):=by
 have:=zk7 d l (mvC (-d.1,-d.2) c)
 rwa [zgh]at this
theorem zdO(d:Cell){l m:List Cell}(h:∀c,isIn l c=isIn m c)(c:Cell):isIn (l.map (mvC d)) c=isIn (m.map (mvC d)) c:=by rw[zfx,zfx,h]
theorem Shift.eq{ms ds B:List Cell}{d:Cell}(hm:InOrd ms)(hd:InOrd ds)(hne:ds≠[])(e:∀c,isIn ms c=isIn B c)(h:Shift B ds d):ds=ms.map (mvC d):=by
 rcases h with⟨_,z,_⟩ |⟨_,hh⟩
 .exact absurd z hne
 .exact hd.ext (zjo d hm) λc=>by rw[hh,zdO d e]
theorem Shift.of_eq{ms ds B:List Cell}{d:Cell}(hne:ds≠[])(e:∀c,isIn ms c=isIn B c)(h:ms.map (mvC d)=ds):Shift B ds d:=.inr ⟨hne,λc=>by rw[<- h,zdO d e]⟩
noncomputable def spHow(K:W.Frag):Sp:=λvs H Q _=>∃(a b:Addr) (cs ds:List Cell) (us ws:List V),vs=[.ref a,.ref b]/\H a=some (.lst us)/\VR us cs cR H/\InOrd cs/\cs.length<=60/\H b=some (.lst ws)/\VR ws ds cR H/\InOrd ds/\ds≠[]/\ds.length<=60 /\
 (∀p H' i q d,Same H H'->H' p=some (.tup (howV q d))->First cs ds i q d->Q (.ref p) H')/\(∀H',Same H H'->NoWay cs ds->Q .non H')
theorem zjG (T:Txt P w K mg) (g__law_ways:Fn P w K mg base 1 "_law_ways" [] zml) (g__law_brought:Fn P w K mg base 4 "_law_brought" ["_law_cells","_law_flipped","_law_quarters"] (zee K)) (d:Df K mg "_law_how" zcJ ["_law_cells","_law_others"]):FnOk P w K mg base CX0 5 d.f d.fd ["_law_cells","_law_others"] (spHow K):=by
 refine d.F.ok zbt (λvs H Q E h=>?_) (λcdv A outer s H vs Q E hr h=>?_)
 .obtain⟨a,b,cs,ds,us,ws,rfl,_⟩:=h;rfl
 .obtain⟨a,b,cs,ds,us,ws,rfl,ha,hva,ordA,lenA,hb,hvb,ordB,neB,lenB,k1,k2⟩:=h;have hu64:=hr.units;have nb0:(["_law_x","_law_y","_law_dx","_law_dy"]:List Str).Nodup:=by decide +kernel
  refine⟨_,(zac (za4 AO rfl (zay (zd4 g__law_ways.ok (hr.mono (by decide)) (by rfl) g__law_ways.m g__law_ways.kp g__law_ways.b .nil pass0)) (zaX (by rfl) (zag (nG 2 zbt.nd) (zag (nG 3 zbt.nd) zao)))
   (zac (sE 4 zbt.nd (pC g__law_brought hr (pa_N (pv 0) (pa_N (pv 2) (pa_N (pv 3) zab)))))
   (zaf (ps_if (zas op_eq (zav zaF (by rfl) T.nlen (by rfl) (pa_N (pv 4) zab)) (zav zaF (by rfl) T.nlen (by rfl) (pa_N (pv 1) zab)) (zaq _))
   (zac (zft (i:=5) zbt.nd (by rfl) (Or.inr rfl) (pe_op zaP (pe_ix zaT (pe_ix zaA (pv 1) zae (λ_ _=>rfl)) zae (λ_ _=>rfl)) (pe_ix zaT (pe_ix zaA (pv 4) zae (λ_ _=>rfl)) zae (λ_ _=>rfl))))
   (zac (zft (i:=6) zbt.nd (by rfl) (Or.inr rfl) (pe_op zaP (pe_ix zaT (pe_ix zaA (pv 1) zae (λ_ _=>rfl)) zae (λ_ _=>rfl)) (pe_ix zaT (pe_ix zaA (pv 4) zae (λ_ _=>rfl)) zae (λ_ _=>rfl))))
   (zaf (ps_if (zas (ziS hu64) (zaN (osc:=zad zcJ) (N:=zfF) (N':=["_law_x","_law_y","_law_dx","_law_dy"]) (sel:=[none,none,some 5,some 6]) bO (zay (pv 4)) (λ_ _ _ _ _=>(zbp (K:=K) (n:=2) (by rfl) (zag (nG 0 nb0) (zag (nG 1 nb0) zao)))) (λ_ _ _ _ _=>zaU) (λ_ _ _ _ _=>(zap (pa_B (pe_op zax (pv 0) (pv 2)) (pa_B (pe_op zax (pv 1) (pv 3)) zab))))) (pv 1) (zaq _))
   (zaf (zai (zap (pa_N (pv 2) (pa_N (pv 3) (pa_N (pv 5) (pa_N (pv 6) zab)))))))
   zat))))
   zat))))
   (zaf (zai zaY))),?_⟩
  refine⟨rfl,λpw H1 wy s1 e1 hwy=>?_⟩;refine⟨pw,rfl,⟨_,SqL.of e1⟩,?_⟩
  refine zar (K:=K) (a:=pw) (xs:=wy) (λi σ H2=>∃o2 o3 o4 o5 o6,σ=[some (.ref a),some (.ref b),o2,o3,o4,o5,o6]/\Same H1 H2/\∀(j:Nat) q',j<i->trns[j]?=some q'->∀d,¬ Shift (brt q' cs) ds d)
   ⟨_,_,_,_,_,rfl,Same.refl _,λj q' hj=>absurd hj (Du _)⟩ (λi σ H2 _ ⟨_,_,_,_,_,_,s2,_⟩=>SqL.of (s2 _ _ e1)) ?_ ?_
  .rintro i x σ H2 hi ⟨o2,o3,o4,o5,o6,rfl,s2,hno⟩;obtain⟨q,hq,bt,rfl,qt⟩:=hwy.at hi;have s02:=s1.trans s2
   have more:(∀d,¬ Shift (brt q cs) ds d)->∀(j:Nat) q',j<i+1->trns[j]?=some q'->∀d,¬ Shift (brt q' cs) ds d:=λhn j q' hj hj'=>by
    rcases AL j i with z |z
    .exact hno j q' z hj'
    .have:j=i:=by lia
     subst this;rw[hq]at hj'
     cases hj'
     exact hn
   refine⟨bt,_,rfl,SqT.of (s2 _ _ qt),rfl,_,_,rfl,_,_,rfl,rfl,?_⟩;refine⟨_,rfl,_,rfl,_,rfl,a,q.1,q.2,cs,rfl,LR.of (s02 _ _ ha) (hva.mono λx v h=>h.kt (KT.of s02)),ordA,lenA,λpm H3 ms hpm s3 hmade ordM lenM inM=>?_⟩;obtain⟨mvs,em,hvm⟩:=hmade;have s03:=s02.trans s3;have hb3:=s03 _ _ hb;have hvb3:=hvb.mono λx v h=>h.kt (KT.of s03)
   refine⟨_,rfl,pm,_,rfl,.inl (SqL.of em),_,rfl,b,_,rfl,.inl (SqL.of hb3),rfl,_,rfl,?_⟩
   by_cases hll:mvs.length=ws.length
   .refine iteY (by rw[hll];simp) ?_
    have hdl:0<ds.length:=DG.mpr neB;have hwl:0<ws.length:=by rw[hvb.1];exact hdl
    obtain⟨u0,hu0⟩:∃u,ws[0]?=some u:=⟨_,Aa hwl⟩;obtain⟨m0,hm0⟩:∃u,mvs[0]?=some u:=⟨_,Aa (by lia)⟩;obtain⟨c1,hc1,x1,rfl,f1⟩:=hvb3.at hu0;obtain⟨c0,hc0,x0,rfl,f0⟩:=hvm.at hm0;refine⟨_,rfl,b,_,_,_,rfl,rfl,SqL.of hb3,zak (j:=0) hu0,x1,_,_,_,rfl,rfl,SqT.of f1,zak (j:=0) rfl,_,rfl,pm,_,_,_,rfl,rfl,SqL.of em,zak (j:=0) hm0,x0,_,_,_,rfl,rfl,SqT.of f0,zak (j:=0) rfl,_,_,rfl,rfl,?_⟩;refine⟨_,rfl,b,_,_,_,rfl,rfl,SqL.of hb3,zak (j:=0) hu0,x1,_,_,_,rfl,rfl,SqT.of f1,zak (j:=1) rfl,_,rfl,pm,_,_,_,rfl,rfl,SqL.of em,zak (j:=0) hm0,x0,_,_,_,rfl,rfl,SqT.of f0,zak (j:=1) rfl,_,_,rfl,rfl,?_⟩;refine⟨_,rfl,pm,rfl,⟨_,SqL.of em⟩,λg hg=>?_⟩;have hml:ms.length<=60:=by lia
    refine zar (K:=K) (a:=pm) (xs:=mvs) (λm σ H4=>∃o0 o1,σ=[o0,o1,some (.int (c1.1-c0.1)),some (.int (c1.2-c0.2))]/\Same H3 H4/\∃zs,H4 g=some (.lst zs)/\VR zs ((ms.take m).map (mvC (c1.1-c0.1,c1.2-c0.2))) cR H4)
     ⟨_,_,rfl,Same.up hg,[],zaa,VR.nil⟩ (λm σ H4 _ ⟨_,_,_,s4,_⟩=>SqL.of (s4 _ _ em)) ?_ ?_
    .rintro m x σ H4 hm ⟨o0,o1,rfl,s4,zs,e4,hv4⟩;obtain⟨c,hc,B,rfl,qc⟩:=hvm.at hm;have hzl:zs.length<=60:=by rw[hv4.1,Ai,AB];lia
     refine⟨B,_,rfl,SqT.of (s4 _ _ qc),rfl,_,_,rfl,_,_,rfl,rfl,?_⟩;refine zbu ?_
     refine⟨_,rfl,_,rfl,_,_,rfl,rfl,_,rfl,_,rfl,_,_,rfl,rfl,two,λt ht=>?_⟩;have s5:=Same.up (o:=.tup [.int (c.1+(c1.1-c0.1)),.int (c.2+(c1.2-c0.2))]) ht;have r5:cR (mvC (c1.1-c0.1,c1.2-c0.2) c) (.ref t) (upd H4 t (.tup [.int (c.1+(c1.1-c0.1)),.int (c.2+(c1.2-c0.2))])):=⟨t,rfl,zaa⟩;generalize upd H4 t (.tup [.int (c.1+(c1.1-c0.1)),.int (c.2+(c1.2-c0.2))])=H5 at s5 r5;have e5:=s5 _ _ e4;refine⟨zs,e5,zal (by lia),_,_,rfl,zam hg (s4.trans s5),_,zaa,?_⟩;rw[zau hc,AN];exact hv4.snoc (λx v h=>(h.kt (KT.of s5)).kt (KT.lst e5)) (r5.kt (KT.lst e5))
    .rintro σ H4 ⟨o0,o1,rfl,s4,zs,e4,hv4⟩;rw[hvm.1,AG]at hv4;have s04:=s03.trans s4;refine⟨_,rfl,lT ((ms.map (mvC (c1.1-c0.1,c1.2-c0.2))).map cI),lT (ds.map cI),zf0 (SqL.of e4) hv4,zf0 (SqL.of (s4 _ _ hb3)) (hvb3.mono λx v h=>h.kt (KT.of s4)),zdi _,zdi _,_,rfl,?_⟩;rw[zn7,zoc]
     by_cases heq:ms.map (mvC (c1.1-c0.1,c1.2-c0.2))=ds
     .rw[decide_eq_true heq];refine iteT ⟨_,rfl,_,rfl,_,rfl,_,rfl,four,λp hp=>?_⟩;exact k1 p _ i q (c1.1-c0.1,c1.2-c0.2) (s04.trans (Same.up hp)) zaa ⟨hq,Shift.of_eq neB inM heq,hno⟩
     .rw[decide_eq_false heq];refine iteF ⟨_,_,_,_,_,rfl,s2.trans (s3.trans s4),more λdd hsh=>heq ?_⟩;have hds:=hsh.eq ordM ordB neB inM;have h0:ds[0]?=(ms.map (mvC dd))[0]?:=by rw[<- hds]
      rw[hc1,Ak,hc0]at h0;have h0':c1=mvC dd c0:=AX h0
      have ed:dd=(c1.1-c0.1,c1.2-c0.2):=by rw[h0'];exact Bj (by show dd.1=c0.1+dd.1-c0.1;lia) (by show dd.2=c0.2+dd.2-c0.2;lia)
      rw[<- ed];exact hds.symm
   .refine iteN (by simp;lia) ?_
    refine⟨_,_,_,_,_,rfl,s2.trans s3,more λdd hsh=>hll ?_⟩;have:=congrArg List.length (hsh.eq ordM ordB neB inM);rw[Ai]at this;rw[hvm.1,hvb.1,this]
  .rintro σ H2 ⟨o2,o3,o4,o5,o6,rfl,s2,hno⟩;refine k2 H2 (s1.trans s2) λj q' hj=>hno j q' ?_ hj
   rw[hwy.1];exact (Ac.mp hj).1
noncomputable def pR(q:V×V)(v:V)(H:Hp):Prop:=∃b,v=.ref b/\H b=some (.tup [q.1,q.2])
theorem zgK:∀(l:List (V×V)){σ:St}{H:Hp}{Q:List V->Hp->Prop},(∀ts H',Same H H'->VR ts l pR H'->Q ts H')->tPrs l σ H Q
 |[],σ,H,Q,h=>h [] H (Same.refl _) VR.nil
 | (a,b)::r,σ,H,Q,h=>by
  refine⟨two,λp hp=>?_⟩;refine zgK r λts H' s' v'=>h _ _ ((Same.up hp).trans s') (VR.cons.mpr ⟨⟨p,rfl,s' _ _ zaa⟩,v'⟩)
theorem zkv(l:List (V×V))(hl:l.length<=sizeLine){D:Ends}{σ:St}{H:Hp}(k:∀p H' ts,Same H H'->H' p=some (.lst ts)->VR ts l pR H'->D.rt (.ref p) H'):tRet (tLst (tPrs l)) D σ H:=by
 show tPrs l σ H _;refine zgK l λts H1 s1 v1=>⟨by rw[v1.1];exact hl,λp hp=>?_⟩
 refine k p _ ts (s1.trans (Same.up hp)) zaa (v1.mono λx v h=>?_);obtain⟨b,rfl,hb⟩:=h;exact⟨b,rfl,Same.up hp _ _ hb⟩
noncomputable def prsOf(l:List (Bool×Int)):List (V×V):=l.map λq=>(.bl q.1,.int q.2)
theorem zhY (d:Df K mg "_law_ways" zbK []):FnOk P w K mg base CX0 1 d.f d.fd [] zml:=by
 refine d.F.ok zgV (λvs H Q E h=>?_) (λcdv A outer s H vs Q E hr h=>?_)
 .obtain⟨rfl,_⟩:=h;rfl
 .obtain⟨rfl,k⟩:=h;have hb:RetPs (zaz zbK) (prsOf trns):=.mk (.cons .bl .int (.cons .bl .int (.cons .bl .int (.cons .bl .int (.cons .bl .int (.cons .bl .int (.cons .bl .int (.cons .bl .int .nil))))))));revert hb;generalize zaz zbK=body;intro hb;have hl:(prsOf trns).length<=sizeLine:=by decide
  have hv:∀(i:Nat) q,trns[i]?=some q->(prsOf trns)[i]?=some (.bl q.1,.int q.2):=λi q h=>by unfold prsOf;rw[Ak,h];rfl
  have hn:(prsOf trns).length=trns.length:=Ai ..;generalize prsOf trns=l at hb hl hv hn;refine⟨_,zcC hb,zkv l hl λp H1 ts s1 e1 v1=>k p H1 ts s1 e1 ⟨v1.1.trans hn,λi q v h1 h2=>?_⟩⟩;obtain⟨q',hq,b,rfl,hb'⟩:=v1.at h2;rw[hv i q h1]at hq
  cases hq
  exact⟨b,rfl,hb'⟩
noncomputable def dHow(q:Bool×Int)(d:Cell):PyData:=.tuple [.bool q.1,.int q.2,.int d.1,.int d.2]
theorem znm(q:Bool×Int)(d:Cell):B5 (dHow q d) (dHow q d)=true:=by unfold dHow;simp[B5,CV]
theorem zfq(q:Bool×Int)(d:Cell):Bl (dHow q d)=true:=by unfold dHow Bl;simp only[Ct,BI,BW,Cy];rfl
theorem zmw{K:W.Frag}{H:Hp}{p:Addr}{q:Bool×Int}{d:Cell}(h:SqT K H p (howV q d)):RD K H (.ref p) (dHow q d):=.tup h (.cons (.bl _) (.cons (.int _) (.cons (.int _) (.cons (.int _) .nil))))
noncomputable def zkj(K:W.Frag):Sp:=λvs H Q _=>(vs=[.non,.non]/\Q (.bl true) H)∨∃(p1 p2:Addr) (q:Bool×Int) (d:Cell),vs=[.ref p1,.ref p2]/\H p1=some (.tup (howV q d))/\H p2=some (.tup (howV q d))/\∀H',Same H H'->Q (.bl true) H'
theorem zga (T:Txt P w K mg) (d:Df K mg "_law_is_how" zbC ["_law_found","_law_due"]):FnOk P w K mg base CX0 1 d.f d.fd ["_law_found","_law_due"] (zkj K):=by
 refine d.F.ok zeS (λvs H Q E h=>?_) (λcdv A outer s H vs Q E hr h=>?_)
 .rcases h with⟨rfl,_⟩ |⟨p1,p2,q,dd,rfl,_⟩ <;> rfl
 .have hu64:=hr.units;have nb0:(["_law_one"]:List Str).Nodup:=by decide +kernel
  refine⟨_,(zac (ps_if (pw_or (zas zdn (pv 1) zaY (zaq _)) (zkA (zas zdn (pv 0) zaY (zaq _)))).pt
   (zaf (zai (ziQ (zbf zdn (pv 0) zaY (zaq _)) (zfu (zbf zdn (pv 1) zaY (zaq _))))))
   zat)
   (zac (ps_if (pw_or (zeo (zcQ (zav zgt (by rfl) T.nisinstance (by rfl) (pa_N (pv 0) (pa_N (zf5 (v:=.ty "tuple") (by rfl) T.ntuple (by rfl) rfl) zab))))) (pw_or (zas op_ne (zav zaF (by rfl) T.nlen (by rfl) (pa_N (pv 0) zab)) zae (zaq _)) (zkA (zeo (zcQ (zav zgt (by rfl) T.nisinstance (by rfl) (zah (pe_ix zaT (pv 0) zae (λ_ _=>rfl)) (pa_N (zf5 (v:=.ty "bool") (by rfl) T.nbool (by rfl) rfl) zab)))))))).pt
   (zaf (zai pe_bl))
   zat)
   (zaf (zai (ziQ (zbf (ziS hu64) (pv 0) (pv 1) (zaq _)) (zfu (zmA (zav (zlt rfl) (by rfl) T.nany (by rfl) (zah (zaN (osc:=zad zbC) (N:=zds) (N':=["_law_one"]) (sel:=[none]) bO (ziN (zcK zkm (pv 0) (zdC zae) zdD)) (λ_ _ _ _ _=>(nG 0 nb0)) (λ_ _ _ _ _=>zaU) (λ_ _ _ _ _=>(pe_or (zav (zhs (K:=K)) (by rfl) T.nisinstance (by rfl) (pa_N (pv 0) (pa_N (zf5 (v:=.ty "bool") (by rfl) T.nbool (by rfl) rfl) zab))) (zfu (zmA (zav (zhs (K:=K)) (by rfl) T.nisinstance (by rfl) (pa_N (pv 0) (pa_N (zf5 (v:=.ty "int") (by rfl) T.nint (by rfl) rfl) zab)))))))) zab))))))))),?_⟩
  rcases h with⟨rfl,k⟩ |⟨p1,p2,q,dd,rfl,h1,h2,k⟩
  .refine⟨_,rfl,rfl,_,rfl,iteY rfl ?_⟩;exact⟨_,rfl,rfl,_,rfl,iteY rfl ⟨_,rfl,rfl,k⟩⟩
  .refine⟨_,rfl,rfl,_,rfl,iteN rfl ?_⟩;refine⟨_,rfl,rfl,_,rfl,iteN rfl ?_⟩;refine⟨_,rfl,.ref p1,"tuple",_,true,rfl,.tup h1,zgl _ _,_,rfl,iteF ?_⟩;refine⟨_,rfl,p1,_,rfl,.inr (SqT.of h1),rfl,_,rfl,iteN rfl ?_⟩;refine⟨_,rfl,p1,_,_,_,rfl,rfl,SqT.of h1,zak (j:=0) rfl,.bl q.1,"bool",_,true,rfl,.bl q.1,zgl _ _,_,rfl,iteF ?_⟩;refine⟨_,rfl,_,rfl,dHow q dd,dHow q dd,zmw (SqT.of h1),zmw (SqT.of h2),zfq _ _,zfq _ _,_,rfl,iteY (by rw[znm]) ?_⟩;refine⟨_,rfl,_,rfl,p1,_,rfl,SqT.of h1,(λhw=>absurd hw.1 (by show ¬ (1=0);decide)),λhw p3 hp3=>?_⟩;have s3:=Same.up (o:=.tup [.int q.2,.int dd.1,.int dd.2]) hp3;have e3:upd H p3 (.tup [.int q.2,.int dd.1,.int dd.2]) p3=some (.tup ([q.2,dd.1,dd.2].map V.int)):=zaa;change ∃_,_;generalize hG:upd H p3 (.tup [.int q.2,.int dd.1,.int dd.2])=H3 at s3 e3;have hG':upd H p3 (.tup (cutV (howV q dd) (some 1) none))=H3:=hG;rw[hG'];refine⟨p3,rfl,⟨_,SqT.of e3⟩,λg hg=>?_⟩
   refine zgn (K:=K) (a:=p3) (xs:=[q.2,dd.1,dd.2].map V.int) (λj σ H4=>∃o,σ=[o]/\Same H3 H4/\H4 g=some (.lst ((Ap j false).map V.bl)))
    ⟨_,rfl,Same.up hg,zaa⟩ (λj σ H4 _ ⟨_,_,s4,_⟩=>SqT.of (s4 _ _ e3)) ?_ ?_
   .rintro j v σ H4 hj ⟨o,rfl,s4,e4⟩;have hjl:j<3:=(Ac.mp hj).1;rw[Ak]at hj;obtain⟨n,hn,rfl⟩:=AA.mp hj;refine gN ?_
    refine⟨_,rfl,.int n,"bool",_,false,rfl,.int n,zhe _,_,rfl,iteF ?_⟩;refine⟨_,rfl,.int n,"int",_,true,rfl,.int n,zgl _ _,?_⟩;refine⟨_,rfl,?_⟩;refine⟨_,e4,zal (by simp;lia),_,rfl,zam hg s4,?_⟩;rw[zaa,List.replicate_succ',AN];rfl
   .rintro σ H4 ⟨o,rfl,s4,e4⟩;refine⟨g,Ap 3 false,rfl,SqL.of e4,?_⟩;exact⟨_,rfl,k H4 (s3.trans s4)⟩
noncomputable def Boxed(m:Nat)(cs:List Cell):Prop:=∃(x y:Int) (w h:Nat),w*h<=m/\∀c∈cs,x<=c.1/\c.1<x+w/\y<=c.2/\c.2<y+h
noncomputable def apart(o:Cell)(k:Int)(c:Cell):Cell:=(o.1+(c.1-o.1)*k,o.2+(c.2-o.2)*k)
theorem VR.app{α:Type}{vs ws:List V}{l m:List α}{R:α->V->Hp->Prop}{H:Hp}(h:VR vs l R H)(k:VR ws m R H):VR (vs++ws) (l++m) R H:=by
 refine⟨by rw[An,An,h.1,k.1],λi x v h1 h2=>?_⟩
 by_cases hi:i<l.length
 .rw[As hi]at h1;rw[As (by rw[h.1];exact hi)]at h2;exact h.2 i x v h1 h2
 .rw[AF (by lia)]at h1;rw[AF (by rw[h.1];lia),h.1]at h2;exact k.2 _ x v h1 h2
noncomputable def dC(L:List Cell):List (List Key×V):=L.map λc=>(kC c,V.bl true)
theorem zfA(L:List Cell):(dC L).length=L.length:=by unfold dC;rw[Ai]
theorem zdv(c:Cell):∀L:List Cell,(valV (dC L) (kC c)).isSome=isIn L c
 |[]=>by simp[dC,valV,isIn]
 |d::L=>by
  have ih:=zdv c L;unfold isIn at *
  by_cases e:d=c
  .subst e;simp[dC,valV]
  .have e2:¬ kC d=kC c:=λz=>e (zi5.mp z)
   have e3:¬ c=d:=λz=>e z.symm
   have e4:valV (dC (d::L)) (kC c)=valV (dC L) (kC c):=by simp[dC,valV,Cw,e2]
   rw[e4,ih];simp[e3]
theorem ziL{L:List Cell}{c:Cell}(h:c ∉ L):putK (dC L) (kC c) (.bl true)=dC (L++[c]):=by
 rw[zlO]
 .unfold dC;rw[AN];rfl
 .have:=zdv c L;unfold isIn at this;rw[decide_eq_false h]at this
  cases z:valV (dC L) (kC c) with
  |none=>rfl
  |some v=>rw[z]at this;cases this
theorem znS{K:W.Frag}{H:Hp}{a:Addr}{vs:List V}{cs:List Cell}(e:SqL K H a vs)(h:VR vs cs cR H){q:Addr}{Q:VK}(f:H q=some (.lst []))(k:Q (.bl (!decide (cs=[]))) H):rNeD K (.ref a) (.ref q) H Q:=by
 refine⟨lT (cs.map cI),lT [],zf0 e h,.lst (SqL.of f) .nil,zdi _,zdi _,?_⟩
 cases cs with
 |nil=>exact k
 |cons c l=>exact k
noncomputable def pRk(q:V×V)(v:V)(H:Hp):Prop:=∃b,v=.ref b/\H b=some (.tup [q.1,q.2])
theorem zfi:∀(l:List (V×V)){σ:St}{H:Hp}{Q:List V->Hp->Prop},(∀ts H',Same H H'->VR ts l pRk H'->Q ts H')->tPrs l σ H Q
 |[],σ,H,Q,h=>h [] H (Same.refl _) VR.nil
 | (a,b)::r,σ,H,Q,h=>by
  refine⟨two,λp hp=>?_⟩;refine zfi r λts H' s' v'=>h _ _ ((Same.up hp).trans s') (VR.cons.mpr ⟨⟨p,rfl,s' _ _ zaa⟩,v'⟩)
theorem zfr(l:List (V×V))(hl:l.length<=sizeLine){D:Ends}{σ:St}{H:Hp}(k:∀p H' ts,H p=none->Same H H'->H' p=some (.lst ts)->VR ts l pRk H'->D.rt (.ref p) H'):tRet (tLst (tPrs l)) D σ H:=by
 show tPrs l σ H _;refine zfi l λts H1 s1 v1=>⟨by rw[v1.1];exact hl,λp hp=>?_⟩
 refine k p _ ts (s1.free hp) (s1.trans (Same.up hp)) zaa (v1.mono λx v h=>?_);obtain⟨b,rfl,hb⟩:=h;exact⟨b,rfl,Same.up hp _ _ hb⟩
noncomputable def prsC(l:List Cell):List (V×V):=l.map λq=>(.int q.1,.int q.2)
theorem VR.prsC{ts:List V}{l:List Cell}{H:Hp}(h:VR ts (prsC l) pRk H):VR ts l cR H:=by
 refine⟨h.1.trans (Ai ..),λi q v h1 h2=>?_⟩;obtain⟨q',hq,b,rfl,hb'⟩:=h.at h2;have:(RR.prsC l)[i]?=some (.int q.1,.int q.2):=by unfold RR.prsC;rw[Ak,h1];rfl
 rw[this]at hq
 cases hq
 exact⟨b,rfl,hb'⟩
noncomputable def zfO(S:List Nat):Sp:=λvs H Q _=>vs=[]/\∀p H' us,H p=none->Same H H'->H' p=some (.lst us)->VR us (S.map mv) cR H'->Q (.ref p) H'
theorem zh3 (d:Df K mg "_law_four" zbM []):FnOk P w K mg base CX0 1 d.f d.fd [] (zfO S4):=by
 refine d.F.ok zgX (λvs H Q E h=>?_) (λcdv A outer s H vs Q E hr h=>?_)
 .obtain⟨rfl,_⟩:=h;rfl
 .obtain⟨rfl,k⟩:=h;have hb:RetPs (zaz zbM) (prsC (S4.map mv)):=.mk (.cons .int .int (.cons .int .int (.cons .neg .int (.cons .int .neg .nil))));revert hb;generalize zaz zbM=body;intro hb;have hl:(prsC (S4.map mv)).length<=sizeLine:=by decide
  generalize S4.map mv=ms at hb hl k;exact⟨_,zcC hb,zfr _ hl λp H1 ts hp s1 e1 v1=>k p H1 ts hp s1 e1 v1.prsC⟩
theorem zg8 (d:Df K mg "_law_eight" zbz []):FnOk P w K mg base CX0 1 d.f d.fd [] (zfO S8):=by
 refine d.F.ok zfW (λvs H Q E h=>?_) (λcdv A outer s H vs Q E hr h=>?_)
 .obtain⟨rfl,_⟩:=h;rfl
 .obtain⟨rfl,k⟩:=h;have hb:RetPs (zaz zbz) (prsC (S8.map mv)):=.mk (.cons .int .int (.cons .int .int (.cons .int .int (.cons .neg .int (.cons .neg .int (.cons .neg .neg (.cons .int .neg (.cons .int .neg .nil))))))));revert hb;generalize zaz zbz=body;intro hb;have hl:(prsC (S8.map mv)).length<=sizeLine:=by decide
  generalize S8.map mv=ms at hb hl k;exact⟨_,zcC hb,zfr _ hl λp H1 ts hp s1 e1 v1=>k p H1 ts hp s1 e1 v1.prsC⟩
noncomputable def zmt(K:W.Frag):Sp:=λvs H Q _=>∃(a:Addr) (cs:List Cell),vs=[.ref a]/\LR K H a cs cR/\cs.Nodup/\cs.length<=500/\∀p H',H p=none->Same H H'->H' p=some (.dT (dC cs))->Q (.ref p) H'
theorem zh4 (d:Df K mg "_law_dict" zc2 ["_law_cells"]):FnOk P w K mg base CX0 1 d.f d.fd ["_law_cells"] (zmt K):=by
 refine d.F.ok zcu (λvs H Q E h=>?_) (λcdv A outer s H vs Q E hr h=>?_)
 .obtain⟨a,cs,rfl,_⟩:=h;rfl
 .obtain⟨a,cs,rfl,hL,nd,hlen,k⟩:=h;have hu1:=hu_of hr;obtain⟨us,hq,hv⟩:=hL.vr
  refine⟨_,(zac (sE 1 zcu.nd zd3)
   (zac (za4 AO rfl (zay (pv 0)) (nG 2 zcu.nd)
   (zaf (zf3 hu1 (pv 1) (pv 2) pe_bl rfl)))
   (zaf (zai (pv 1))))),?_⟩
  refine λp hp=>?_
  refine⟨_,rfl,a,rfl,⟨_,(Same.up hp).seq hq⟩,?_⟩
  refine zar (K:=K) (a:=a) (xs:=us) (λi σ H2=>∃o,σ=[some (.ref a),some (.ref p),o]/\Same H H2/\H2 p=some (.dT (dC (cs.take i))))
   ⟨_,rfl,Same.up hp,zaa⟩ (λi σ H2 _ ⟨_,_,s2,_⟩=>s2.seq hq) ?_ ?_
  .rintro i v σ H2 hi ⟨o,rfl,s2,e2⟩;obtain⟨c,hc,b,rfl,q⟩:=hv.at hi
   have hn:c ∉ cs.take i:=λm=>by obtain⟨j,hj,ej⟩:=AD m;rw[AB]at hj;rw[List.getElem_take]at ej;have:=(Cb (i:=j) (j:=i) (by lia) nd).mp (by rw[hc,Aa (by lia),ej]);lia
   refine⟨_,rfl,_,rfl,p,_,rfl,.inr ⟨_,kC c,b,e2,rfl,s2 _ _ q,zal (by rw[zfA,AB];lia),rfl⟩,_,rfl,zam hp s2,?_⟩;rw[zaa,ziL hn,zau hc]
  .rintro σ H2 ⟨o,rfl,s2,e2⟩;rw[hv.1,AG]at e2;exact⟨_,rfl,k p H2 hp s2 e2⟩
structure Fld (D:Cell->Bool) (S:List Nat) (a:Cell) (F L:List Cell):Prop where
 nd:F.Nodup
 st:a∈F
 rch:∀c∈F,Rch D S a c
 dom:∀c∈F,c=a∨D c=true
 sub:∀c∈L,c∈F
 cls:∀c∈F,c∈L∨∀s∈S,D (go c s)=true->go c s∈F
 le:L.length<=F.length
theorem Fld.done{D:Cell->Bool}{S:List Nat}{a:Cell}{F:List Cell}(h:Fld D S a F [])(c:Cell):c∈F ↔ Rch D S a c:=by
 refine⟨h.rch c,λr=>?_⟩
 induction r with
 |refl=>exact h.st
 |step k hs hd ih =>
  rcases h.cls _ ih with z |z
  .cases z
  .exact z _ hs hd
theorem Fld.few{Ls:List Cell}{S:List Nat}{a:Cell}{F L:List Cell}(h:Fld (isIn Ls) S a F L):F.length<=Ls.length+1:=by
 have:=zaB (a:=F) (b:=a::Ls) h.nd λc hc=>by
  rcases h.dom c hc with rfl |z
  .exact AC
  .exact At _ (of_decide_eq_true z)
 simpa using this
noncomputable def spLot(K:W.Frag):Sp:=λvs H Q _=>∃(b t q:Addr) (a:Cell) (Ls:List Cell) (S:List Nat) (us:List V),vs=[.ref b,.ref t,.ref q]/\H b=some (.tup (cellT a))/\Rd H t (.dT (dC Ls))/\H q=some (.lst us)/\VR us (S.map mv) cR H/\Ls.length<=100000 /\
 ∀f H' F,H f=none->Same H H'->H' f=some (.dT (dC F))->F.Nodup->F.length<=Ls.length+1->(∀c,c∈F ↔ Rch (isIn Ls) S a c)->Q (.ref f) H'
theorem Rd.same{H H':Hp}{a:Addr}{o:HO}(h:Rd H a o)(s:Same H H'):Rd H' a o:=by
 rcases h with h |⟨u,h⟩
 .exact .inl (s _ _ h)
 .exact .inr ⟨u,s _ _ h⟩
noncomputable def FI(H0:Hp)(D:Cell->Bool)(S:List Nat)(a:Cell)(f l:Addr)(H:Hp)(F L:List Cell):Prop :=
 Same H0 H/\H f=some (.dT (dC F))/\(∃zs,H l=some (.lst zs)/\VR zs L cR H)/\Fld D S a F L
theorem zjF (d:Df K mg "_law_lot" zdz ["_law_start","_law_there","_law_steps"]):FnOk P w K mg base CX0 1 d.f d.fd ["_law_start","_law_there","_law_steps"] (spLot K):=by
  refine d.F.ok zbd (λvs H Q E h=>?_) (λcdv A outer s H vs Q E hr h=>?_)
  . obtain⟨b,t,q,a,Ls,S,us,rfl,_⟩:=h;rfl
  . obtain⟨b,t,q,a,Ls,S,us,rfl,hb,ht,hq,hv,hlen,k⟩:=h;have hu1:=hu_of hr;have hu64:=hr.units
    refine⟨_,(zac (sE 3 zbd.nd (zlR hu1 (pv 0) pe_bl))
      (zac (sE 4 zbd.nd (zba (pa_N (pv 0) zab)))
      (zac (ziM AO (zas (zkJ hu64) (pv 4) (zba zab) (zaq _))
      (zac (zbs (znO A0 PySem.F.slot_list_pop PySem.F.type_list_pop znT (pv 4)) (zaX (by rfl) (zag (nG 5 zbd.nd) (zag (nG 6 zbd.nd) zao))))
      (zaf (za4 AO rfl (zay (pv 2)) (zaX (by rfl) (zag (nG 7 zbd.nd) (zag (nG 8 zbd.nd) zao)))
      (zaf (ps_if (zmx (zep (zmB hu1 (zap (pa_B (pe_op zax (pv 5) (pv 7)) (pa_B (pe_op zax (pv 6) (pv 8)) zab))) (pv 1))) (zkB (zep (zcD hu1 (zap (pa_B (pe_op zax (pv 5) (pv 7)) (pa_B (pe_op zax (pv 6) (pv 8)) zab))) (pv 3))))).pt
      (zac (zf3 hu1 (pv 3) (zap (pa_B (pe_op zax (pv 5) (pv 7)) (pa_B (pe_op zax (pv 6) (pv 8)) zab))) pe_bl rfl)
      (zaf (zbN (pe_bm A0 Be Bg zbb (pv 4) (pa_T (zap (pa_B (pe_op zax (pv 5) (pv 7)) (pa_B (pe_op zax (pv 6) (pv 8)) zab))) zab)))))
      zat))))))
      (zaf (zai (pv 3)))))),?_⟩
    have hσ:L2.start zfE [V.ref b,V.ref t,V.ref q]=[some (.ref b),some (.ref t),some (.ref q),none,none,none,none,none,none]:=rfl;rw[hσ];refine λf hf=>?_
    have hfb:f≠b:=λz=>by subst z;rw[hb]at hf;cases hf
    have b1:upd H f (.dT []) b=some (.tup (cellT a)):=by rw[zaj (Bu hfb)];exact hb
    refine⟨_,rfl,_,.inr ⟨[],kC a,b,zaa,rfl,b1,(by show 0<sizeLine;decide),rfl⟩,?_⟩;have e0:putK ([]:List (List Key×V)) (kC a) (.bl true)=dC [a]:=ziL (L:=[]) (by simp);rw[e0,zjZ];have s1:Same H (upd H f (.dT (dC [a]))):=Same.up hf;have f1:upd H f (.dT (dC [a])) f=some (.dT (dC [a])):=zaa;simp only[zaQ,AY,AZ];generalize upd H f (.dT (dC [a]))=H1 at s1 f1;refine⟨_,rfl,(by show 1<=sizeLine;decide),λl hl=>?_⟩;have hl0:H l=none:=s1.free hl;have hlf:l≠f:=λz=>by subst z;rw[f1]at hl;cases hl
    have s2:Same H (upd H1 l (.lst [.ref b])):=s1.trans (Same.up hl);have f2:=Same.up (o:=.lst [.ref b]) hl _ _ f1;have l2:upd H1 l (.lst [.ref b]) l=some (.lst [.ref b]):=zaa;simp only[zaQ,AY,AZ];generalize upd H1 l (.lst [.ref b])=H2 at s2 f2 l2;have hul:=hv.1;rw[Ai]at hul;refine⟨λm σ H3=>∃F L o5 o6 o7 o8,m=2*(Ls.length+1-F.length)+L.length/\σ=[some (.ref b),some (.ref t),some (.ref q),some (.ref f),some (.ref l),o5,o6,o7,o8]/\FI H (isIn Ls) S a f l H3 F L,⟨_,[a],[a],_,_,_,_,rfl,rfl,s2,f2,⟨_,l2,VR.cons.mpr ⟨⟨b,rfl,s2 _ _ hb⟩,VR.nil⟩⟩,by simp,by simp,λc hc=>?_,λc hc=>.inl (by simpa using hc),λc hc=>hc,λc hc=>.inl hc,Aj _⟩,?_⟩
    . rw[Am.mp hc];exact .refl
    . rintro m σ H3 ⟨F,L,o5,o6,o7,o8,rfl,rfl,s3,f3,⟨zs,l3,v3⟩,fld⟩;refine⟨_,rfl,A5 _,λe he=>?_⟩;have s4:=s3.trans (Same.up (o:=.lst []) he);have f4:=Same.up (o:=.lst []) he _ _ f3;have l4:=Same.up (o:=.lst []) he _ _ l3;have v4:=v3.mono λx v h=>h.kt (KT.up (o:=.lst []) he)
      have e4:upd H3 e (.lst []) e=some (.lst []):=zaa;generalize upd H3 e (.lst [])=H4 at s4 f4 l4 v4 e4;refine znS (SqL.of l4) v4 e4 ⟨_,rfl,?_⟩
      by_cases hL:L=[]
      . subst hL;refine iteN (by simp) ?_
        exact⟨_,rfl,k f H4 F hf s4 f4 fld.nd fld.few fld.done⟩
      . refine iteY (by simp[hL]) ?_
        obtain⟨L',c,rfl⟩:∃L' c,L=L'++[c]:=⟨L.dropLast,L.getLast hL,(List.dropLast_concat_getLast hL).symm⟩;have zl:zs.length=L'.length+1:=by rw[v4.1];simp
        obtain⟨z,hz⟩:∃z,zs[L'.length]?=some z:=⟨_,Aa (by lia)⟩;obtain⟨c',hc',x,hx,ex⟩:=v4.at hz;have:c'=c:=by rw[AF (Aj _)]at hc';simpa using hc'.symm
        subst this;subst hx;refine⟨λσ' H'=>∃F2 L2 o5 o6 o7 o8,2*(Ls.length+1-F2.length)+L2.length<2*(Ls.length+1-F.length)+(L'++[c']).length/\σ'=[some (.ref b),some (.ref t),some (.ref q),some (.ref f),some (.ref l),o5,o6,o7,o8]/\FI H (isIn Ls) S a f l H' F2 L2,λσ' H' ⟨F2,L2,o5,o6,o7,o8,h1,h2,h3⟩=>⟨_,h1,F2,L2,o5,o6,o7,o8,rfl,h2,h3⟩,?_⟩;refine⟨_,rfl,.inl ⟨rfl,_,SqL.of l4⟩,l,zs,_,rfl,rfl,l4,(by rw[zl];exact hz),?_⟩;have kl:KT H4 (upd H4 l (.lst zs.dropLast)):=KT.lst l4;have s5:Same H (upd H4 l (.lst zs.dropLast)):=zam hl0 s4;have f5:upd H4 l (.lst zs.dropLast) f=some (.dT (dC F)):=by rw[zaj (Bu hlf)];exact f4
        have l5:upd H4 l (.lst zs.dropLast) l=some (.lst zs.dropLast):=zaa
        have v5:VR zs.dropLast L' cR (upd H4 l (.lst zs.dropLast)):=by
          refine VR.mono (H:=H4) ⟨by rw[List.length_dropLast,zl];lia,λi y v h1 h2=>?_⟩ λx v h=>h.kt kl
          have hi:=(Ac.mp h1).1;rw[List.getElem?_dropLast]at h2;split at h2
          . exact v4.2 i y v (by rw[As hi];exact h1) h2
          . cases h2
        have ex5:=kl _ _ ex;generalize upd H4 l (.lst zs.dropLast)=H5 at s5 f5 l5 v5 ex5;have cF:c'∈F:=fld.sub c' (by simp);refine⟨x,_,rfl,SqT.of ex5,rfl,_,_,rfl,_,_,rfl,rfl,?_⟩;refine⟨_,rfl,q,rfl,⟨_,SqL.of (s5 _ _ hq)⟩,?_⟩
        refine zar (K := K) (a := q) (xs := us) (λi σ H6 => ∃F2 L2 o7 o8, σ = [some (.ref b), some (.ref t), some (.ref q), some (.ref f), some (.ref l), some (.int c'.1), some (.int c'.2), o7, o8] /\ Same H H6 /\ H6 f=some (.dT (dC F2)) /\ (∃zs, H6 l=some (.lst zs) /\ VR zs L2 cR H6) /\
            F2.Nodup/\a∈F2/\(∀y∈F2,Rch (isIn Ls) S a y)/\(∀y∈F2,y=a∨isIn Ls y=true)/\(∀y∈L2,y∈F2)/\c'∈F2/\(∀y∈F2,y∈L2∨y=c'∨∀s∈S,isIn Ls (go y s)=true->go y s∈F2)/\(∀j s,j<i->S[j]?=some s->isIn Ls (go c' s)=true->go c' s∈F2) /\
            2*(Ls.length+1-F2.length)+L2.length<=2*(Ls.length+1-F.length)+L'.length/\L2.length<F2.length)
          ⟨F,L',_,_,rfl,s5,f5,⟨_,l5,v5⟩,fld.nd,fld.st,fld.rch,fld.dom,λy hy=>fld.sub y (Bc _ hy),cF,λy hy=>?_,λj s hj=>absurd hj (Du _),Aj _,(by have:=fld.le;rw[An,A9]at this;lia)⟩
          (λi σ H6 _ ⟨_,_,_,_,_,s6,_⟩=>SqL.of (s6 _ _ hq)) ?_ ?_
        . rcases fld.cls y hy with z |z
          . rcases AH.mp z with z |z
            . exact .inl z
            . exact .inr (.inl (Am.mp z))
          . exact .inr (.inr z)
        . rintro i v σ H6 hi ⟨F2,L2,o7,o8,rfl,s6,f6,⟨ys,l6,v6⟩,nd,st,rc,dm,sb,cf,cl,dn,hm,hlt⟩;obtain⟨mm,hmm,g,rfl,gm⟩:=hv.at hi;rw[Ak]at hmm;obtain⟨sn,hsn,rfl⟩:=AA.mp hmm;have hsS:sn∈S:=Af hsn;have few:F2.length<=Ls.length+1:=Fld.few (S:=S) (a:=a) (L:=F2) ⟨nd,st,rc,dm,λc h=>h,λc h=>.inl h,Aj _⟩;refine⟨g,_,rfl,SqT.of (s6 _ _ gm),rfl,_,_,rfl,_,_,rfl,rfl,?_⟩;have hgo:[V.int (c'.1+(mv sn).1),V.int (c'.2+(mv sn).2)]=(kC (go c' sn)).map kV:=rfl;refine⟨_,rfl,_,rfl,_,_,rfl,rfl,_,rfl,_,rfl,_,_,rfl,rfl,two,λp1 hp1=>?_⟩;rw[hgo];have s7:=s6.trans (Same.up (o:=.tup ((kC (go c' sn)).map kV)) hp1);have f7:=Same.up (o:=.tup ((kC (go c' sn)).map kV)) hp1 _ _ f6;have l7:=Same.up (o:=.tup ((kC (go c' sn)).map kV)) hp1 _ _ l6;have v7:=v6.mono λx v h=>h.kt (KT.up (o:=.tup ((kC (go c' sn)).map kV)) hp1)
          have g7:upd H6 p1 (.tup ((kC (go c' sn)).map kV)) p1=some (.tup ((kC (go c' sn)).map kV)):=zaa;generalize upd H6 p1 (.tup ((kC (go c' sn)).map kV))=H7 at s7 f7 l7 v7 g7
          have stay:∀H8,Same H H8->H8 f=some (.dT (dC F2))->H8 l=some (.lst ys)->VR ys L2 cR H8->(isIn Ls (go c' sn)=true->go c' sn∈F2)->∃F2 L2 o7' o8',[some (V.ref b),some (.ref t),some (.ref q),some (.ref f),some (.ref l),some (.int c'.1),some (.int c'.2),some (.int (mv sn).1),some (.int (mv sn).2)]=[some (.ref b),some (.ref t),some (.ref q),some (.ref f),some (.ref l),some (.int c'.1),some (.int c'.2),o7',o8']/\Same H H8/\H8 f=some (.dT (dC F2))/\(∃zs,H8 l=some (.lst zs)/\VR zs L2 cR H8) /\
            F2.Nodup/\a∈F2/\(∀y∈F2,Rch (isIn Ls) S a y)/\(∀y∈F2,y=a∨isIn Ls y=true)/\(∀y∈L2,y∈F2)/\c'∈F2/\(∀y∈F2,y∈L2∨y=c'∨∀s∈S,isIn Ls (go y s)=true->go y s∈F2)/\(∀j s,j<i+1->S[j]?=some s->isIn Ls (go c' s)=true->go c' s∈F2) /\
            2*(Ls.length+1-F2.length)+L2.length<=2*(Ls.length+1-F.length)+L'.length/\L2.length<F2.length:=λH8 t1 t2 t3 t4 t5=>by
            refine⟨F2,L2,_,_,rfl,t1,t2,⟨_,t3,t4⟩,nd,st,rc,dm,sb,cf,cl,λj s hj hs hd=>?_,hm,hlt⟩;rcases AL j i with z |z
            . exact dn j s z hs hd
            . have:j=i:=by lia
              subst this;rw[hsn]at hs
              cases hs
              exact t5 hd
          refine⟨_,rfl,t,_,rfl,.inr ⟨_,_,p1,Rd.same ht s7,rfl,g7,rfl⟩,_,rfl,?_⟩;rw[zdv]
          by_cases hD:isIn Ls (go c' sn)=true
          . refine iteY hD ?_
            refine⟨_,rfl,_,rfl,_,_,rfl,rfl,_,rfl,_,rfl,_,_,rfl,rfl,two,λp2 hp2=>?_⟩;rw[hgo];have s8:=s7.trans (Same.up (o:=.tup ((kC (go c' sn)).map kV)) hp2);have f8:=Same.up (o:=.tup ((kC (go c' sn)).map kV)) hp2 _ _ f7;have l8:=Same.up (o:=.tup ((kC (go c' sn)).map kV)) hp2 _ _ l7;have v8:=v7.mono λx v h=>h.kt (KT.up (o:=.tup ((kC (go c' sn)).map kV)) hp2)
            have g8:upd H7 p2 (.tup ((kC (go c' sn)).map kV)) p2=some (.tup ((kC (go c' sn)).map kV)):=zaa;generalize upd H7 p2 (.tup ((kC (go c' sn)).map kV))=H8 at s8 f8 l8 v8 g8;refine⟨_,rfl,f,_,rfl,.inr ⟨_,_,p2,.inl f8,rfl,g8,rfl⟩,_,rfl,?_⟩;rw[zdv]
            by_cases hF:go c' sn∈F2
            . refine iteN (by simp[isIn,hF]) ?_
              exact stay H8 s8 f8 l8 v8 λ_=>hF
            . refine iteY (by simp[isIn,hF]) ?_
              refine⟨_,rfl,_,rfl,_,rfl,_,_,rfl,rfl,_,rfl,_,rfl,_,_,rfl,rfl,two,λp3 hp3=>?_⟩;rw[hgo];have s9:=s8.trans (Same.up (o:=.tup ((kC (go c' sn)).map kV)) hp3);have f9:=Same.up (o:=.tup ((kC (go c' sn)).map kV)) hp3 _ _ f8;have l9:=Same.up (o:=.tup ((kC (go c' sn)).map kV)) hp3 _ _ l8;have v9:=v8.mono λx v h=>h.kt (KT.up (o:=.tup ((kC (go c' sn)).map kV)) hp3)
              have g9:upd H8 p3 (.tup ((kC (go c' sn)).map kV)) p3=some (.tup ((kC (go c' sn)).map kV)):=zaa;generalize upd H8 p3 (.tup ((kC (go c' sn)).map kV))=H9 at s9 f9 l9 v9 g9;have kd:KT H9 (upd H9 f (.dT (dC (F2++[go c' sn])))):=KT.dct f9;refine⟨f,_,rfl,.inr ⟨_,_,p3,f9,rfl,g9,(by rw[zfA,CA];lia),rfl⟩,?_⟩;rw[ziL hF];have s10:Same H (upd H9 f (.dT (dC (F2++[go c' sn])))):=zam hf s9;have f10:upd H9 f (.dT (dC (F2++[go c' sn]))) f=some (.dT (dC (F2++[go c' sn]))):=zaa;have l10:upd H9 f (.dT (dC (F2++[go c' sn]))) l=some (.lst ys):=by rw[zaj hlf];exact l9
              have v10:=v9.mono λx v h=>h.kt kd
              generalize upd H9 f (.dT (dC (F2++[go c' sn])))=H10 at s10 f10 l10 v10;refine⟨_,rfl,.inl ⟨rfl,_,SqL.of l10⟩,_,rfl,_,rfl,_,_,rfl,rfl,_,rfl,_,rfl,_,_,rfl,rfl,two,λp4 hp4=>?_⟩;rw[hgo];have s11:=s10.trans (Same.up (o:=.tup ((kC (go c' sn)).map kV)) hp4);have f11:=Same.up (o:=.tup ((kC (go c' sn)).map kV)) hp4 _ _ f10;have l11:=Same.up (o:=.tup ((kC (go c' sn)).map kV)) hp4 _ _ l10;have v11:=v10.mono λx v h=>h.kt (KT.up (o:=.tup ((kC (go c' sn)).map kV)) hp4)
              have g11:cR (go c' sn) (.ref p4) (upd H10 p4 (.tup ((kC (go c' sn)).map kV))):=⟨p4,rfl,zaa⟩;generalize upd H10 p4 (.tup ((kC (go c' sn)).map kV))=H11 at s11 f11 l11 v11 g11
              have nd3:(F2++[go c' sn]).Nodup:=by rw[Ca];exact⟨nd,by simp,λu hu v hv e=>by rw[Am.mp hv]at e;exact hF (e ▸ hu)⟩
              have rc3:∀y∈F2++[go c' sn],Rch (isIn Ls) S a y:=λy hy=>by
                rcases AH.mp hy with z |z
                . exact rc y z
                . rw[Am.mp z];exact .step (rc c' cf) hsS hD
              have dm3:∀y∈F2++[go c' sn],y=a∨isIn Ls y=true:=λy hy=>by
                rcases AH.mp hy with z |z
                . exact dm y z
                . rw[Am.mp z];exact .inr hD
              have st3:a∈F2++[go c' sn]:=Bc _ st;have few3:(F2++[go c' sn]).length<=Ls.length+1:=Fld.few (S:=S) (a:=a) (L:=F2++[go c' sn]) ⟨nd3,st3,rc3,dm3,λc h=>h,λc h=>.inl h,Aj _⟩;rw[An,A9]at few3
              have ysl:ys.length<=200000:=by have h1:ys.length=L2.length:=v11.1;lia
              refine⟨l,ys,_,rfl,rfl,l11,(by rw[CA];lia),?_⟩;have kl2:KT H11 (upd H11 l (.lst (ys++[.ref p4]))):=KT.lst l11;refine⟨F2++[go c' sn],L2++[go c' sn],_,_,rfl,zam hl0 s11,(by rw[zaj (Bu hlf)];exact f11),⟨_,zaa,v11.snoc (λx v h=>h.kt kl2) (g11.kt kl2)⟩,nd3,st3,rc3,dm3,λy hy=>?_,Bc _ cf,λy hy=>?_,λj s' hj hs hd=>?_,?_,?_⟩
              . rcases AH.mp hy with z |z
                . exact Bc _ (sb y z)
                . exact Au _ z
              . rcases AH.mp hy with z |z
                . rcases cl y z with u |u |u
                  . exact .inl (Bc _ u)
                  . exact .inr (.inl u)
                  . exact .inr (.inr λs' hs' hd'=>Bc _ (u s' hs' hd'))
                . exact .inl (Au _ z)
              . rcases AL j i with z |z
                . exact Bc _ (dn j s' z hs hd)
                . have:j=i:=by lia
                  subst this;rw[hsn]at hs
                  cases hs
                  simp
              . rw[An,An,A9];lia
              . rw[An,An,A9];lia
          . refine iteN (by simpa using hD) (iteF ?_);exact stay H7 s7 f7 l7 v7 λz=>absurd z hD
        . rintro σ H6 ⟨F2,L2,o7,o8,rfl,s6,f6,hz6,nd,st,rc,dm,sb,cf,cl,dn,hm,hlt⟩;refine⟨F2,L2,_,_,_,_,?_,rfl,s6,f6,hz6,nd,st,rc,dm,sb,λy hy=>?_,by lia⟩
          . rw[An,A9];lia
          . rcases cl y hy with z |rfl |z
            . exact .inl z
            . refine .inr λs hs hd=>?_
              obtain⟨j,hj,ej⟩:=AD hs;exact dn j s (by lia) (by rw[Aa hj,ej]) hd
            . exact .inr z
noncomputable def Bf(H H':Hp)(f:Addr):Prop:=∀z o,z≠f->H z=some o->H' z=some o
theorem Bf.trans{H H1 H2:Hp}{f:Addr}(a:Bf H H1 f)(b:Bf H1 H2 f):Bf H H2 f:=λz o hz h=>b z o hz (a z o hz h)
theorem Bf.of{H H1:Hp}{f:Addr}(a:Same H H1):Bf H H1 f:=λz o _ h=>a z o h
theorem Bf.same{H0 H H1:Hp}{f:Addr}(a:Bf H H1 f)(s:Same H0 H)(h:H0 f=none):Same H0 H1:=λz o e=>a z o (zan e h) (s z o e)
theorem Rd.dn{H:Hp}{a:Addr}{kvs:List (List Key×V)}(h:Rd H a (.dT kvs)){b:Addr}{xs:List V}(e:H b=some (.tup xs)):b≠a:=λz=>by subst z;rcases h with h |⟨u,h⟩ <;> rw[h]at e <;> cases e
theorem Bf.kt{H H1:Hp}{f:Addr}{kvs:List (List Key×V)}(a:Bf H H1 f)(h:Rd H f (.dT kvs)):KT H H1:=λb xs e=>a b _ (Rd.dn h e) e
noncomputable def co(k:Nat)(c:Cell):Int:=if k=0 then c.1 else c.2
theorem zmL{P:List Cell}{i:Nat}{kk:List Key}{v:V}(h:(dC P)[i]?=some (kk,v)):∃c,P[i]?=some c/\kk=kC c:=by
 unfold dC at h;rw[Ak]at h;obtain⟨c,hc,e⟩:=AA.mp h
 cases e
 exact⟨c,hc,rfl⟩
theorem zmN{K:W.Frag}(kk:Nat)(hk:kk < 2){i:Nat}{σ : St}{H:Hp}{Q:VK}{f:Addr}{P:List Cell}(hσ : σ[i]? = some (some (.ref f)))(hl:P.length <= 1000)(hf:Rd H f (.dT (dC P)))
    (k:∀g H' od,H g=none->H' f=some (.frz od (.dT (dC P)))->Bf H H' f->H' g=some (.lst ((P.map (co kk)).map V.int))->Q (.ref g) H') :
    zgL (zhh (tVar i)) [none] (gName 0) (λx H Q=>Q true H) (tOp (rIxT K) (tVar 0) (tC (.int kk))) σ H Q:=by
  have main:∀(od:Obj) (H1:Hp) (g:Addr), H1 g=none -> H1 f=some (.frz od (.dT (dC P))) -> (∀H', Same H1 H' -> H' g=some (.lst ((P.map (co kk)).map V.int)) -> Q (.ref g) H') ->
      zbR (Itd f od) (gName 0) (tIfs (λx H Q=>Q true H) (zb5 g (tOp (rIxT K) (tVar 0) (tC (.int kk))))) { nx:=λ_ H'=>Q (.ref g) H',rt:=λ_ _=>False } (selSt [none] σ) (upd H1 g (.lst [])):=λod H1 g hg hf1 k'=>by
    refine zi6 (λj σ H2=>∃o,σ=[o]/\Same H1 H2/\H2 g=some (.lst (((P.take j).map (co kk)).map V.int))) ⟨_,rfl,Same.up hg,zaa⟩ (λj σ H2 _ ⟨_,_,s2,_⟩=>s2 _ _ hf1) ?_ ?_
    . rintro j b kx v σ H2 hj hb ⟨o,rfl,s2,e2⟩;obtain⟨c,hc,rfl⟩:=zmL hj;have hjl:=(Ac.mp hc).1;refine gN ?_
      have hat:atI ((kC c).map kV) (kk:Int)=some (.int (co kk c)):=by
        have:kk=0∨kk=1:=by lia
        rcases this with rfl |rfl <;> rfl
      refine⟨_,rfl,b,_,_,_,rfl,rfl,SqT.of hb,hat,_,e2,zal (by simp;lia),_,rfl,zam hg s2,?_⟩;rw[zaa,zau hc,AN,AN];rfl
    . rintro σ H2 ⟨o,rfl,s2,e2⟩;rw[zfA,AG]at e2;exact k' H2 s2 e2
  refine⟨_,hσ,f,dC P,rfl,?_⟩;rcases hf with hf |⟨od,hf⟩
  . refine .inl ⟨hf,λod g hg=>?_⟩;have hgf:g≠f:=λz=>by subst z;rw[zaa]at hg;cases hg
    refine main od _ g hg zaa λH' s' e'=>k g H' od (by rw[zaj hgf]at hg;exact hg) (s' _ _ zaa) (λz o hz h=>s' z o (by rw[zaj hz];exact h)) e'
  . refine .inr ⟨od,hf,λg hg=>?_⟩;exact main od _ g hg hf λH' s' e'=>k g H' od hg (s' _ _ hf) (Bf.of s') e'
theorem zmi{r:R2}{ta tb:TE}{σ:St}{H:Hp}{Q:VK}:tOp r ta tb σ H Q=ta σ H λx H1=>tb σ H1 λy H2=>r x y H2 Q:=rfl
theorem zmj{r:List V->Hp->VK->Prop}{t:TA}{σ:St}{H:Hp}{Q:VK}:tCB r t σ H Q=t σ H λvs H1=>r vs H1 Q:=rfl
theorem ziw{ta:TE}{tr:TA}{σ:St}{H:Hp}{Q:List V->Hp->Prop}:tCons ta tr σ H Q=ta σ H λx H1=>tr σ H1 λxs H2=>Q (x::xs) H2:=rfl
theorem zj5{σ:St}{H:Hp}{Q:List V->Hp->Prop}:tNil σ H Q=Q [] H:=rfl
theorem tC_eq{v:V}{σ:St}{H:Hp}{Q:VK}:tC v σ H Q=Q v H:=rfl
theorem zlw{K K':W.Frag}(kk:Nat)(hk:kk < 2){i j:Nat}{u:TS}{D:Ends}{σ : St}{H:Hp}{f:Addr}{P:List Cell}(hσ : σ[i]? = some (some (.ref f)))(hl:P.length <= 1000)(hne:P ≠ [])(hf:Rd H f (.dT (dC P)))
  (k:∀H' od m,H' f=some (.frz od (.dT (dC P)))->Bf H H' f->IsMin (P.map (co kk)) m->u D (σ.set j (some (.int (m-1)))) H') :
  tSeq (tAsg (tOp (rI0 λi j=>V.int (i-j)) (tCB (λxs H Q=>∃(p:Addr) (ns:List Int),xs=[.ref p]/\SqL K' H p (ns.map V.int)/\ns≠[]/\∀m,IsMin ns m->Q (.int m) H)
   (tCons (zgL (zhh (tVar i)) [none] (gName 0) (λx H Q=>Q true H) (tOp (rIxT K) (tVar 0) (tC (.int kk)))) tNil)) (tC (.int 1))) (gName j)) u D σ H:=by
 unfold tSeq tAsg;simp only[zmi,zmj,ziw,zj5,tC_eq,zaQ];refine zmN (i:=i) (f:=f) (P:=P) kk hk hσ hl hf λg H' od hg f' bf' e'=>?_
 exact⟨g,_,rfl,SqL.of e',λz=>hne (List.map_eq_nil_iff.mp z),λm hm=>⟨_,_,rfl,rfl,k H' od m f' bf' hm⟩⟩
theorem zlg{K K':W.Frag}(kk:Nat)(hk:kk < 2){i a:Nat}{lo:Int}{g:TG}{tb:TS}{D:Ends}{σ : St}{H:Hp}{f:Addr}{P:List Cell}(ha : σ[a]? = some (some (.int lo)))(hσ : σ[i]? = some (some (.ref f)))(hl:P.length <= 1000)(hne:P ≠ [])(hf:Rd H f (.dT (dC P)))
  (k:∀H' od m,H' f=some (.frz od (.dT (dC P)))->Bf H H' f->IsMax (P.map (co kk)) m->zbR (Itr lo (m+2-lo).toNat) g tb D σ H') :
  tFor (iRngB (tCons (tVar a) (tCons (tOp (rI0 λi j=>V.int (i+j)) (tCB (λxs H Q=>∃(p:Addr) (ns:List Int),xs=[.ref p]/\SqL K' H p (ns.map V.int)/\ns≠[]/\∀m,IsMax ns m->Q (.int m) H)
   (tCons (zgL (zhh (tVar i)) [none] (gName 0) (λx H Q=>Q true H) (tOp (rIxT K) (tVar 0) (tC (.int kk)))) tNil)) (tC (.int 2))) tNil))) g tb D σ H:=by
 unfold tFor iRngB;refine⟨_,ha,?_⟩;simp only[zmi,zmj,ziw,zj5,tC_eq,zaQ];refine zmN (i:=i) (f:=f) (P:=P) kk hk hσ hl hf λg H' od hg f' bf' e'=>?_
 exact⟨g,_,rfl,SqL.of e',λz=>hne (List.map_eq_nil_iff.mp z),λm hm=>⟨_,_,rfl,rfl,_,_,rfl,k H' od m f' bf' hm⟩⟩
theorem KeyL.vr{H:Hp}{ts:List V}{P:List Cell}(h:KeyL H ts (dC P)):VR ts P cR H:=by refine⟨by rw[h.1,zfA],λi c v h1 h2=>?_⟩;obtain⟨b,rfl,hb⟩:=h.2 i v (kC c) (.bl true) h2 (by unfold dC;rw[Ak,h1];rfl);exact⟨b,rfl,hb⟩
theorem zjO{i j:Nat}{σ : St}{H:Hp}{Q:VK}{f u:Addr}{Fr Ou:List Cell}(hσ : σ[i]? = some (some (.ref f)))(hu : σ[j]? = some (some (.ref u)))(hl:Fr.length <= 100000)(hf:Rd H f (.dT (dC Fr)))(hu':Rd H u (.dT (dC Ou)))(hne:u ≠ f)
    (k:∀g H' ts,H g=none->Bf H H' f->H' g=some (.lst ts)->VR ts (Fr.filter λc=>!isIn Ou c) cR H'->Q (.ref g) H') :
    zgL (zhh (tVar i)) [none,some j] (gName 0) (tB (zhH (tVar 0) (tVar 1))) (tVar 0) σ H Q:=by
  have hsel:selSt [none,some j] σ=[none,some (.ref u)]:=by unfold selSt;simp[hu]
  have main:∀(od:Obj) (H1:Hp) (g:Addr), H1 g=none -> H1 f=some (.frz od (.dT (dC Fr))) -> Rd H1 u (.dT (dC Ou)) -> (∀H' ts, Same H1 H' -> H' g=some (.lst ts) -> VR ts (Fr.filter λc => !isIn Ou c) cR H' -> Q (.ref g) H') ->
      zbR (Itd f od) (gName 0) (tIfs (tB (zhH (tVar 0) (tVar 1))) (zb5 g (tVar 0))) { nx:=λ_ H'=>Q (.ref g) H',rt:=λ_ _=>False } (selSt [none,some j] σ) (upd H1 g (.lst [])):=λod H1 g hg hf1 hu1 k'=>by
    rw[hsel];refine zi6 (λm σ H2=>∃o ts,σ=[o,some (.ref u)]/\Same H1 H2/\H2 g=some (.lst ts)/\VR ts ((Fr.take m).filter λc=>!isIn Ou c) cR H2) ⟨_,[],rfl,Same.up hg,zaa,VR.nil⟩ (λm σ H2 _ ⟨_,_,_,s2,_⟩=>s2 _ _ hf1) ?_ ?_
    . rintro m b kx v σ H2 hm hb ⟨o,ts,rfl,s2,e2,v2⟩;obtain⟨c,hc,rfl⟩:=zmL hm;have hml:=(Ac.mp hc).1;refine⟨_,rfl,_,rfl,u,_,rfl,.inr ⟨_,_,b,Rd.same hu1 s2,rfl,hb,rfl⟩,_,rfl,?_⟩;rw[zdv]
      have e:(Fr.take (m+1)).filter (λc=>!isIn Ou c)=(Fr.take m).filter (λc=>!isIn Ou c)++(if (!isIn Ou c)=true then [c] else []):=by
        rw[zau hc,List.filter_append]
        congr 1
        simp only[List.filter_cons,List.filter_nil]
      by_cases hi:isIn Ou c=true
      . refine iteN (by rw[hi];rfl) ?_
        refine⟨_,ts,rfl,s2,e2,?_⟩;rw[e,hi];simpa using v2
      . have hi':isIn Ou c=false:=by simpa using hi
        refine iteY (by rw[hi'];rfl) ?_
        have tl:ts.length<=m:=by rw[v2.1];have:=BK (λc=>!isIn Ou c) (Fr.take m);rw[AB]at this;lia
        have kl:KT H2 (upd H2 g (.lst (ts++[.ref b]))):=KT.lst e2;refine⟨_,rfl,ts,e2,(by rw[CA];lia),_,_,rfl,zam hg s2,zaa,?_⟩;rw[e,hi'];exact v2.snoc (λx v h=>h.kt kl) ⟨b,rfl,kl _ _ hb⟩
    . rintro σ H2 ⟨o,ts,rfl,s2,e2,v2⟩;rw[zfA,AG]at v2;exact k' H2 ts s2 e2 v2
  refine⟨_,hσ,f,dC Fr,rfl,?_⟩;rcases hf with hf |⟨od,hf⟩
  . refine .inl ⟨hf,λod g hg=>?_⟩;have hgf:g≠f:=λz=>by subst z;rw[zaa]at hg;cases hg
    have hu2:Rd (upd H f (.frz od (.dT (dC Fr)))) u (.dT (dC Ou)):=by
      rcases hu' with z |⟨o,z⟩
      . exact .inl (by rw[zaj hne];exact z)
      . exact .inr ⟨o,by rw[zaj hne];exact z⟩
    refine main od _ g hg zaa hu2 λH' ts s' e' v'=>k g H' ts (by rw[zaj hgf]at hg;exact hg) (λz o hz h=>s' z o (by rw[zaj hz];exact h)) e' v'
  . refine .inr ⟨od,hf,λg hg=>?_⟩;exact main od _ g hg hf hu' λH' ts s' e' v'=>k g H' ts hg (Bf.of s') e' v'
theorem znj{P:List Cell}(kk:Nat)(h:P≠[]):P.map (co kk)≠[]:=λz=>h (List.map_eq_nil_iff.mp z)
theorem Can.sum {C:Cell->Bool}{es:List Edge}{r:Rnd}(h:Can C es r):(r.so = "rim" /\ (es.map (tt C)).sum=4)∨(r.so = "hole" /\ (es.map (tt C)).sum=-4):=by
 have e:(es.map (tt C)).sum=(nL (wk C es):Int)-nS (wk C es):=by rw[nL_wk,nS_wk,<- zfL]
 rw[h.so,e];unfold sortS;rcases zj1 h.cl with z |z
 .left;rw[if_pos (by lia)];exact⟨rfl,z⟩
 .right;rw[if_neg (by lia)];exact⟨rfl,z⟩
theorem zlu {r:Rnd}(h:r.so = "hole"):begE r=⟨(r.x,r.y),2⟩:=by unfold begE;rw[h];rfl
theorem zmF{P:List Cell}{kk:Nat}{m:Int}(h:IsMin (P.map (co kk)) m):(∃c∈P,co kk c=m)/\∀c∈P,m<=co kk c:=⟨by obtain⟨c,hc,e⟩:=Aq.mp h.1;exact⟨c,hc,e⟩,λc hc=>h.2 _ (Aq.mpr ⟨c,hc,rfl⟩)⟩
theorem zmG{P:List Cell}{kk:Nat}{m:Int}(h:IsMax (P.map (co kk)) m):(∃c∈P,co kk c=m)/\∀c∈P,co kk c<=m:=⟨by obtain⟨c,hc,e⟩:=Aq.mp h.1;exact⟨c,hc,e⟩,λc hc=>h.2 _ (Aq.mpr ⟨c,hc,rfl⟩)⟩
structure Grd (P:List Cell) (l lo r:Int) (i j:Nat) (Fr:List Cell):Prop where
 nd:Fr.Nodup
 iff:∀c,c∈Fr ↔ c ∉ P/\l<=c.1/\c.1<=r/\lo<=c.2/\(c.2<lo+i∨(c.2=lo+i/\c.1<l+j))
theorem Grd.skip{P:List Cell}{l lo r:Int}{i j:Nat}{Fr:List Cell}(h:Grd P l lo r i j Fr)(hm:(l+(j:Int),lo+(i:Int))∈P):Grd P l lo r i (j+1) Fr:=⟨h.nd,λc=>by
 rw[h.iff];constructor
 .rintro⟨h1,h2,h3,h4,h5⟩;exact⟨h1,h2,h3,h4,by lia⟩
 .rintro⟨h1,h2,h3,h4,h5⟩;refine⟨h1,h2,h3,h4,?_⟩;rcases h5 with z |⟨z,y⟩
  .exact .inl z
  .rcases Int.lt_or_le c.1 (l+j) with u |u
   .exact .inr ⟨z,u⟩
   .exfalso;have:c=(l+(j:Int),lo+(i:Int)):=Bj (by show c.1=l+j;lia) z;rw[this]at h1;exact h1 hm⟩
theorem Grd.more{P:List Cell}{l lo r:Int}{i j:Nat}{Fr:List Cell}(h:Grd P l lo r i j Fr)(hm:(l+(j:Int),lo+(i:Int)) ∉ P)(hr:l+j<=r):(l+(j:Int),lo+(i:Int)) ∉ Fr/\Grd P l lo r i (j+1) (Fr++[(l+(j:Int),lo+(i:Int))]):=by
 have hn:(l+(j:Int),lo+(i:Int)) ∉ Fr:=λm=>by have:=((h.iff _).mp m).2.2.2.2;simp only at this;lia
 refine⟨hn,?_,λc=>?_⟩
 .rw[Ca];exact⟨h.nd,by simp,λu hu v hv e=>by rw[Am.mp hv]at e;exact hn (e ▸ hu)⟩
 .rw[AH,List.mem_singleton,h.iff];constructor
  .rintro (⟨h1,h2,h3,h4,h5⟩ |rfl)
   .exact⟨h1,h2,h3,h4,by lia⟩
   .exact⟨hm,by simp only;lia,hr,by simp only;lia,.inr ⟨rfl,by simp only;lia⟩⟩
  .rintro⟨h1,h2,h3,h4,h5⟩;rcases h5 with z |⟨z,y⟩
   .exact .inl ⟨h1,h2,h3,h4,.inl z⟩
   .rcases Int.lt_or_le c.1 (l+j) with u |u
    .exact .inl ⟨h1,h2,h3,h4,.inr ⟨z,u⟩⟩
    .exact .inr (Bj (by show c.1=l+j;lia) z)
theorem Grd.row{P:List Cell}{l lo r:Int}{i j:Nat}{Fr:List Cell}(h:Grd P l lo r i j Fr)(hr:r<l+j):Grd P l lo r (i+1) 0 Fr:=⟨h.nd,λc=>by
 rw[h.iff];constructor
 .rintro⟨h1,h2,h3,h4,h5⟩;exact⟨h1,h2,h3,h4,by lia⟩
 .rintro⟨h1,h2,h3,h4,h5⟩;refine⟨h1,h2,h3,h4,by lia⟩⟩
noncomputable def ziE(K:W.Frag):Sp:=λvs H Q _=>∃(t:Addr) (r:Rnd) (cs:List Cell) (es:List Edge),vs=[.ref t,.str r.so,.int r.x,.int r.y]/\Rd H t (.dT (dC cs))/\Can (isIn cs) es r/\cs.length<=120/\Boxed 120 cs /\
 ∀l H' ts L,Same H H'->H' l=some (.lst ts)->VR ts L cR H'->L.Nodup->L.length<=30000->(∀c,c∈L ↔ wd es c≠0)->Q (.ref l) H'
theorem zf9 (T:Txt P w K mg) (g__law_lot:Fn P w K mg base 1 "_law_lot" ["_law_start", "_law_there", "_law_steps"] (spLot K)) (g__law_eight:Fn P w K mg base 1 "_law_eight" [] (zfO S8)) (g__law_four:Fn P w K mg base 1 "_law_four" [] (zfO S4))
  (d:Df K mg "_law_within" zaM ["_law_there","_law_sort","_law_x","_law_y"]):FnOk P w K mg base CX0 2 d.f d.fd ["_law_there","_law_sort","_law_x","_law_y"] (ziE K):=by
 refine d.F.ok zaD (λvs H Q E h=>?_) (λcdv A outer s H vs Q E hr h=>?_)
 .obtain⟨t,r,cs,es,rfl,_⟩:=h;rfl
 .obtain⟨t,r,cs,es,rfl,ht,hc,hlen,hbox,k⟩:=h;have hu1:=hu_of hr;have hu64:=hr.units;have nb0:(["_law_cell"]:List Str).Nodup:=by decide +kernel
  have nb1:(["_law_cell"]:List Str).Nodup:=by decide +kernel
  have nb2:(["_law_cell"]:List Str).Nodup:=by decide +kernel
  have nb3:(["_law_cell"]:List Str).Nodup:=by decide +kernel
  have nb4:(["_law_cell","_law_outside"]:List Str).Nodup:=by decide +kernel
  refine⟨_,(zac (sE 4 zaD.nd (pC g__law_lot hr (pa_T (zap (pa_N (pv 2) (pa_N (pv 3) zab))) (pa_N (pv 0) (zah (zd4 g__law_eight.ok (hr.mono (by decide)) (by rfl) g__law_eight.m g__law_eight.kp g__law_eight.b .nil pass0) zab)))))
   (zac (sE 5 zaD.nd (pe_op zaP (zav (zhp rfl) (by rfl) T.nmin (by rfl) (zah (zaN (osc:=zad zaM) (N:=zaW) (N':=["_law_cell"]) (sel:=[none]) bO (zdm (pv 4)) (λ_ _ _ _ _=>(nG 0 nb0)) (λ_ _ _ _ _=>zaU) (λ_ _ _ _ _=>(pe_ix (zc5 (K:=K)) (pv 0) zae (λ_ _=>rfl)))) zab)) zae))
   (zac (sE 6 zaD.nd (pe_op zaP (zav (zhp rfl) (by rfl) T.nmin (by rfl) (zah (zaN (osc:=zad zaM) (N:=zaW) (N':=["_law_cell"]) (sel:=[none]) bO (zdm (pv 4)) (λ_ _ _ _ _=>(nG 0 nb1)) (λ_ _ _ _ _=>zaU) (λ_ _ _ _ _=>(pe_ix (zc5 (K:=K)) (pv 0) zae (λ_ _=>rfl)))) zab)) zae))
   (zac (sE 7 zaD.nd zd3)
   (zac (za4 AO rfl (zg1 (by rfl) T.nrange (pa_N (pv 6) (pa_B (pe_op zax (zav (zhq rfl) (by rfl) T.nmax (by rfl) (zah (zaN (osc:=zad zaM) (N:=zaW) (N':=["_law_cell"]) (sel:=[none]) bO (zdm (pv 4)) (λ_ _ _ _ _=>(nG 0 nb2)) (λ_ _ _ _ _=>zaU) (λ_ _ _ _ _=>(pe_ix (zc5 (K:=K)) (pv 0) zae (λ_ _=>rfl)))) zab)) zae) zab))) (nG 8 zaD.nd)
   (zaf (za4 AO rfl (zg1 (by rfl) T.nrange (pa_N (pv 5) (pa_B (pe_op zax (zav (zhq rfl) (by rfl) T.nmax (by rfl) (zah (zaN (osc:=zad zaM) (N:=zaW) (N':=["_law_cell"]) (sel:=[none]) bO (zdm (pv 4)) (λ_ _ _ _ _=>(nG 0 nb3)) (λ_ _ _ _ _=>zaU) (λ_ _ _ _ _=>(pe_ix (zc5 (K:=K)) (pv 0) zae (λ_ _=>rfl)))) zab)) zae) zab))) (nG 9 zaD.nd)
   (zaf (ps_if (zep (zcD hu1 (zap (pa_N (pv 9) (pa_N (pv 8) zab))) (pv 4)))
   (zaf (zf3 hu1 (pv 7) (zap (pa_N (pv 9) (pa_N (pv 8) zab))) pe_bl rfl))
   zat)))))
   (zac (ps_if (zas op_eq (pv 1) ziO (zaq _))
   (zaf (zai (zb9 (zdT rfl) (by rfl) T.nlist (by rfl) (zah (pC g__law_lot hr (pa_T (zap (pa_N (pv 2) (pa_B (pe_op zax (pv 3) zae) zab))) (pa_N (pv 7) (zah (zd4 g__law_four.ok (hr.mono (by decide)) (by rfl) g__law_four.m g__law_four.kp g__law_four.b .nil pass0) zab)))) zab))))
   zat)
   (zac (zft (i:=10) zaD.nd (by rfl) (Or.inr rfl) (pC g__law_lot hr (pa_T (zap (pa_N (pv 5) (pa_N (pv 6) zab))) (pa_N (pv 7) (zah (zd4 g__law_four.ok (hr.mono (by decide)) (by rfl) g__law_four.m g__law_four.kp g__law_four.b .nil pass0) zab)))))
   (zaf (zai (pe_op zg4 (zb9 (zdT rfl) (by rfl) T.nlist (by rfl) (pa_N (pv 4) zab)) (zaN (osc:=zad zaM) (N:=zaW) (N':=["_law_cell","_law_outside"]) (sel:=[none,some 10]) bO (zdm (pv 7)) (λ_ _ _ _ _=>(nG 0 nb4)) (λ_ _ _ _ _=>zdB (zep (zcD hu1 (pv 0) (pv 1)))) (λ_ _ _ _ _=>(pv 0))))))))))))),?_⟩
  have hσ:L2.start zaW [V.ref t,V.str r.so,V.int r.x,V.int r.y]=[some (.ref t),some (.str r.so),some (.int r.x),some (.int r.y),none,none,none,none,none,none,none]:=rfl;rw[hσ];refine⟨_,rfl,_,rfl,two,λb0 hb0=>?_⟩;have s1:=Same.up (o:=.tup [.int r.x,.int r.y]) hb0;have e1:upd H b0 (.tup [.int r.x,.int r.y]) b0=some (.tup (cellT (r.x,r.y))):=zaa;generalize upd H b0 (.tup [.int r.x,.int r.y])=H1 at s1 e1;refine⟨_,rfl,rfl,λq1 H2 us hq1 s2 e2 v2=>?_⟩;refine⟨b0,t,q1,(r.x,r.y),cs,S8,us,rfl,s2 _ _ e1,Rd.same ht (s1.trans s2),e2,v2,by lia,λf H3 Pc hf s3 f3 ndP hlP hP=>?_⟩;simp only[zaQ,AY,AZ];have s03:=s1.trans (s2.trans s3);have hf0:H f=none:=(s1.trans s2).free hf;have b0P:(r.x,r.y)∈Pc:=(hP _).mpr .refl;have Pne:Pc≠[]:=λz=>by rw[z]at b0P;cases b0P
  have Pl:Pc.length<=121:=by lia
  have inC:∀c∈Pc,c∈cs:=λc h=>by have hE:=hc.cl.1.2.2.1 _ (Af hc.cl.1.1);exact of_decide_eq_true (((hP c).mp h).dom (by exact hE.2.1))
  obtain⟨X,Y,W,G,hWG,hin⟩:=hbox;refine zlw (i:=4) (f:=f) (P:=Pc) 0 (by decide) rfl (by lia) Pne (.inl f3) λH4 od1 mx f4 bf4 hmx=>?_
  obtain⟨⟨cx,hcx,ecx⟩,mnx⟩:=zmF hmx;simp only[AY,AZ];refine zlw (i:=4) (f:=f) (P:=Pc) 1 (by decide) rfl (by lia) Pne (.inr ⟨od1,f4⟩) λH5 od2 my f5 bf5 hmy=>?_
  obtain⟨⟨cy,hcy,ecy⟩,mny⟩:=zmF hmy;simp only[AY,AZ];refine λfr hfr=>?_
  have bf35:=bf4.trans bf5;have s05:Same H H5:=bf35.same s03 hf0;have hfr0:H fr=none:=s05.free hfr;have hff:fr≠f:=λz=>by subst z;rw[f5]at hfr;cases hfr
  have s06:Same H (upd H5 fr (.dT [])):=s05.trans (Same.up hfr);have f6:=Same.up (o:=.dT []) hfr _ _ f5;have r6:upd H5 fr (.dT []) fr=some (.dT (dC [])):=zaa;simp only[zaQ,AY,AZ];generalize upd H5 fr (.dT [])=H6 at s06 f6 r6;refine zlg (i:=4) (a:=6) (f:=f) (P:=Pc) 1 (by decide) rfl rfl (by lia) Pne (.inr ⟨od2,f6⟩) λH7 od3 My f7 bf7 hMy=>?_
  obtain⟨⟨dy',hdy,edy⟩,mxy⟩:=zmG hMy;have s07:Same H H7:=bf7.same s06 hf0;have r7:=bf7 _ _ hff r6
  have hMx:∃Mx,IsMax (Pc.map (co 0)) Mx:=by
   have:∀l:List Int,l≠[]->∃M,IsMax l M:=by
    intro l
    induction l with
    |nil=>intro h;exact absurd rfl h
    |cons a l ih =>
     intro _
     by_cases hl:l=[]
     .subst hl;exact⟨a,by simp,λn hn=>by rw[Am.mp hn];exact Cr _⟩
     .obtain⟨M,h1,h2⟩:=ih hl;rcases Int.le_total a M with z |z
      .exact⟨M, At _ h1, λn hn => by
        rcases Aw.mp hn with rfl |hn
        .exact z
        .exact h2 n hn⟩
      .exact⟨a, AC, λn hn => by
        rcases Aw.mp hn with rfl |hn
        .exact Cr _
        .exact Int.le_trans (h2 n hn) z⟩
   exact this _ (znj 0 Pne)
  obtain⟨Mx,hMx⟩:=hMx;obtain⟨⟨dx',hdx,edx⟩,mxx⟩:=zmG hMx;have uniq:∀M,IsMax (Pc.map (co 0)) M->M=Mx:=λM h=>Int.le_antisymm (hMx.2 _ h.1) (h.2 _ hMx.1)
  have bx:=hin _ (inC _ hcx);have by':=hin _ (inC _ hcy);have bX:=hin _ (inC _ hdx);have bY:=hin _ (inC _ hdy);have le1:=mnx _ hdx;have le2:=mny _ hdy;simp only[co,if_true,if_false,Nat.one_ne_zero]at ecx ecy edx edy le1 le2
  have hW:W<=120:=by
   have h1:1<=G:=by lia
   have:=Di W h1;lia
  have hG:G<=120:=by
   have h1:1<=W:=by lia
   have:=Nat.mul_le_mul_right G h1;lia
  have nW:(Mx+2-(mx-1)).toNat<=122:=by lia
  have nG:(My+2-(my-1)).toNat<=122:=by lia
  have BO:BoxOf Pc (mx-1) (my-1) (Mx+1) (My+1):=⟨λc hc'=>by have a1:=mnx c hc';have a2:=mny c hc';have a3:=mxx c hc';have a4:=mxy c hc';simp only[co,if_true,if_false,Nat.one_ne_zero]at a1 a2 a3 a4;lia,cy,hcy,by lia⟩
  refine zbq (lo:=my-1) (n:=(My+2-(my-1)).toNat) (λi σ H8=>∃o8 o9 od Fr,σ=[some (.ref t),some (.str r.so),some (.int r.x),some (.int r.y),some (.ref f),some (.int (mx-1)),some (.int (my-1)),some (.ref fr),o8,o9,none]/\Same H H8/\H8 f=some (.frz od (.dT (dC Pc)))/\H8 fr=some (.dT (dC Fr))/\Grd Pc (mx-1) (my-1) (Mx+1) i 0 Fr/\Fr.length<=122*i)
   ⟨_,_,od3,[],rfl,s07,f7,r7,⟨by simp,λc=>by simp;lia⟩,A5 _⟩ ?_ ?_
  .rintro i σ H8 hi ⟨o8,o9,od,Fr,rfl,s8,f8,r8,hg8,hl8⟩;simp only[zaQ,AY,AZ];refine zlg (i:=4) (a:=5) (f:=f) (P:=Pc) 0 (by decide) rfl rfl (by lia) Pne (.inr ⟨od,f8⟩) λH9 od4 M f9 bf9 hM=>?_
   rw[uniq M hM];have s9:Same H H9:=bf9.same s8 hf0;have r9:=bf9 _ _ hff r8
   refine zbq (lo:=mx-1) (n:=(Mx+2-(mx-1)).toNat) (λj σ H10=>∃o9 Fr,σ=[some (.ref t),some (.str r.so),some (.int r.x),some (.int r.y),some (.ref f),some (.int (mx-1)),some (.int (my-1)),some (.ref fr),some (.int (my-1+(i:Int))),o9,none]/\Same H H10/\H10 f=some (.frz od4 (.dT (dC Pc)))/\H10 fr=some (.dT (dC Fr))/\Grd Pc (mx-1) (my-1) (Mx+1) i j Fr/\Fr.length<=122*i+j)
    ⟨_,Fr,rfl,s9,f9,r9,hg8,by lia⟩ ?_ ?_
   .rintro j σ H10 hj ⟨o9,Fr,rfl,s10,f10,r10,hg10,hl10⟩;simp only[zaQ,AY,AZ];refine⟨_,rfl,_,rfl,two,λp1 hp1=>?_⟩;obtain⟨nc,hnc⟩:∃nc:Cell,nc=(mx-1+(j:Int),my-1+(i:Int)):=⟨_,rfl⟩;have hcell:[V.int (mx-1+(j:Int)),V.int (my-1+(i:Int))]=(kC nc).map kV:=by rw[hnc];rfl
    rw[hcell];have s11:=s10.trans (Same.up (o:=.tup ((kC nc).map kV)) hp1);have f11:=Same.up (o:=.tup ((kC nc).map kV)) hp1 _ _ f10;have r11:=Same.up (o:=.tup ((kC nc).map kV)) hp1 _ _ r10;have g11:upd H10 p1 (.tup ((kC nc).map kV)) p1=some (.tup ((kC nc).map kV)):=zaa;generalize upd H10 p1 (.tup ((kC nc).map kV))=H11 at s11 f11 r11 g11;refine⟨_,rfl,f,_,rfl,.inr ⟨_,_,p1,.inr ⟨od4,f11⟩,rfl,g11,rfl⟩,_,rfl,?_⟩;rw[zdv]
    by_cases hm:nc∈Pc
    .refine iteN (by simp[isIn,hm]) ?_
     exact⟨_,Fr,rfl,s11,f11,r11,hg10.skip (by rw[<- hnc];exact hm),by lia⟩
    .refine iteY (by simp[isIn,hm]) ?_
     obtain⟨hn,hg⟩:=hg10.more (by rw[<- hnc];exact hm) (by lia);rw[<- hnc]at hn hg;refine⟨_,rfl,_,rfl,_,rfl,two,λp2 hp2=>?_⟩;rw[hcell];have s12:=s11.trans (Same.up (o:=.tup ((kC nc).map kV)) hp2);have f12:=Same.up (o:=.tup ((kC nc).map kV)) hp2 _ _ f11;have r12:=Same.up (o:=.tup ((kC nc).map kV)) hp2 _ _ r11;have g12:upd H11 p2 (.tup ((kC nc).map kV)) p2=some (.tup ((kC nc).map kV)):=zaa;generalize upd H11 p2 (.tup ((kC nc).map kV))=H12 at s12 f12 r12 g12
     refine⟨fr,_,rfl,.inr ⟨_,_,p2,r12,rfl,g12,(by
      have h4:122*i<=122*122:=Di _ (by lia);rw[zfA,CA];lia),rfl⟩,?_⟩
     rw[ziL hn];refine⟨_,Fr++[nc],rfl,zam hfr0 s12,(by rw[zaj (Bu hff)];exact f12),zaa,hg,by rw[An,A9];lia⟩
   .rintro σ H10 ⟨o9,Fr,rfl,s10,f10,r10,hg10,hl10⟩;exact⟨_,_,od4,Fr,rfl,s10,f10,r10,hg10.row (by lia),by rw[Nat.mul_succ];lia⟩
  .rintro σ H8 ⟨o8,o9,od,Fr,rfl,s8,f8,r8,hg8,hl8⟩
   have hFl:Fr.length<=14884:=by have h4:122*(My+2-(my-1)).toNat<=122*122:=Di _ nG;lia
   have FO:FreeOf (isIn Fr) Pc (mx-1) (my-1) (Mx+1) (My+1):=⟨λc=>by
    unfold isIn inBox;rw[decide_eq_true_iff,hg8.iff];constructor
    .rintro⟨h1,h2,h3,h4,h5⟩;exact⟨⟨h2,h3,h4,by lia⟩,h1⟩
    .rintro⟨⟨h2,h3,h4,h5⟩,h1⟩;exact⟨h1,h2,h3,h4,by lia⟩⟩
   have hP':∀c,c∈Pc ↔ Rch (isIn cs) S8 (begE r).c c:=hP;have csum:=hc.sum;have hz0:∀c∈Pc,isIn cs c=true:=λc h=>decide_eq_true (inC c h)
   rcases csum with⟨hso,hsum⟩ |⟨hso,hsum⟩
   .-- a rim
    refine⟨_,rfl,rfl,_,rfl,iteN (by rw[hso];decide) ?_⟩;refine⟨_,rfl,_,rfl,two,λb2 hb2=>?_⟩;have s9:=s8.trans (Same.up (o:=.tup [.int (mx-1),.int (my-1)]) hb2);have f9:=Same.up (o:=.tup [.int (mx-1),.int (my-1)]) hb2 _ _ f8;have r9:=Same.up (o:=.tup [.int (mx-1),.int (my-1)]) hb2 _ _ r8;have e9:upd H8 b2 (.tup [.int (mx-1),.int (my-1)]) b2=some (.tup (cellT (mx-1,my-1))):=zaa;generalize upd H8 b2 (.tup [.int (mx-1),.int (my-1)])=H9 at s9 f9 r9 e9;refine⟨_,rfl,rfl,λq2 H10 us2 hq2 s10 e10 v10=>?_⟩;refine⟨b2,fr,q2,(mx-1,my-1),Fr,S4,us2,rfl,s10 _ _ e9,.inl (s10 _ _ r9),e10,v10,by lia,λou H11 Ou hou s11 o11 ndO hlO hO=>?_⟩;simp only[zaQ,AY,AZ];have s911:=s10.trans s11;have f11:=s911 _ _ f9;have r11:=s911 _ _ r9;have houf:ou≠fr:=λz=>by subst z;rw[s10 _ _ r9]at hou;cases hou
    refine⟨_,rfl,f,_,rfl,.inr ⟨od,f11⟩,λl1 ts1 hl1 hk1=>?_⟩;have s12:=Same.up (o:=.lst ts1) hl1;have v12:VR ts1 Pc cR (upd H11 l1 (.lst ts1)):=(KeyL.vr hk1).mono λx v h=>h.kt (KT.up hl1)
    have e12:upd H11 l1 (.lst ts1) l1=some (.lst ts1):=zaa;generalize upd H11 l1 (.lst ts1)=H12 at s12 v12 e12;have hl1f:l1≠fr:=λz=>by subst z;rw[r11]at hl1;cases hl1
    refine zjO (i:=7) (j:=10) (f:=fr) (u:=ou) (Fr:=Fr) (Ou:=Ou) rfl rfl (by lia) (.inl (s12 _ _ r11)) (.inl (s12 _ _ o11)) houf λg H13 ts2 hg bf13 e13 v13=>?_
    have e12':=bf13 _ _ hl1f e12;have v12':=v12.mono λx v h=>h.kt (Bf.kt bf13 (.inl (s12 _ _ r11)))
    have s013:Same H H13:=bf13.same ((s9.trans s911).trans s12) hfr0
    refine⟨l1,g,ts1,ts2,rfl,rfl,e12',e13,(by
     have h1:ts1.length=Pc.length:=v12.1;have h2:ts2.length<=Fr.length:=by rw[v13.1];exact BK _ _
     rw[CA];lia),λp hp=>?_⟩
    have kp:KT H13 (upd H13 p (.lst (ts1++ts2))):=KT.up hp;refine k p _ (ts1++ts2) (Pc++Fr.filter λc=>!isIn Ou c) (s013.trans (Same.up hp)) zaa ((v12'.mono λx v h=>h.kt kp).app (v13.mono λx v h=>h.kt kp)) ?_ ?_ ?_
    .rw[Ca];refine⟨ndP,hg8.nd.filter _,λu hu v hv e=>?_⟩;subst e;exact ((hg8.iff u).mp (DF.mp hv).1).1 hu
    .rw[An];have:=BK (λc=>!isIn Ou c) Fr;lia
    .intro c;rw[AH,List.mem_filter];have bm:begE r∈es:=Af hc.cl.1.1
     have ins:∀e∈es,wd es e.c=1/\wd es (gap e)=0:=by
      rcases hc.cl.inside with⟨_,k⟩ |⟨s,_⟩
      .exact k
      .lia
     have hbC:isIn cs (begE r).c=true:=(hc.cl.1.2.2.1 _ bm).2.1;have pz:∀x∈Pc,wd es x=1:=λx hx=>(zd0 hc.cl ((hP' x).mp hx) hbC).trans (ins _ bm).1
     constructor
     .rintro (h |⟨h1,h2⟩)
      .rw[pz c h];decide
      .have hD:isIn Fr c=true:=decide_eq_true h1;intro hz;have:=(zku hc.cl hsum hP' BO FO hD).mpr hz;have hm:=(hO c).mpr this;simp[isIn,hm]at h2
     .intro hz
      by_cases hp':c∈Pc
      .exact .inl hp'
      .right;have hbx:=wd_in hc.cl (λe he=>(hP' _).mpr (hc.cl.reach e he).1) BO hz;have hD:isIn Fr c=true:=(FO.iff c).mpr ⟨⟨hbx.1,hbx.2.1,by lia,by lia⟩,hp'⟩;refine⟨of_decide_eq_true hD,?_⟩;have:c ∉ Ou:=λm=>hz ((zku hc.cl hsum hP' BO FO hD).mp ((hO c).mp m))
       simp[isIn,this]
   .refine⟨_,rfl,rfl,_,rfl,iteY (by rw[hso];decide) ?_⟩;refine⟨_,rfl,_,rfl,_,_,rfl,rfl,two,λb2 hb2=>?_⟩;have s9:=s8.trans (Same.up (o:=.tup [.int r.x,.int (r.y+1)]) hb2);have r9:=Same.up (o:=.tup [.int r.x,.int (r.y+1)]) hb2 _ _ r8;have e9:upd H8 b2 (.tup [.int r.x,.int (r.y+1)]) b2=some (.tup (cellT (r.x,r.y+1))):=zaa;generalize upd H8 b2 (.tup [.int r.x,.int (r.y+1)])=H9 at s9 r9 e9;refine⟨_,rfl,rfl,λq2 H10 us2 hq2 s10 e10 v10=>?_⟩;refine⟨b2,fr,q2,(r.x,r.y+1),Fr,S4,us2,rfl,s10 _ _ e9,.inl (s10 _ _ r9),e10,v10,by lia,λou H11 Ou hou s11 o11 ndO hlO hO=>?_⟩;refine⟨ou,_,rfl,.inl o11,λl1 ts1 hl1 hk1=>?_⟩;have v12:VR ts1 Ou cR (upd H11 l1 (.lst ts1)):=(KeyL.vr hk1).mono λx v h=>h.kt (KT.up hl1)
    refine k l1 _ ts1 Ou ((s9.trans (s10.trans s11)).trans (Same.up hl1)) zaa v12 ndO (by lia) λc=>?_
    rw[hO];have hgap:gap (begE r)=(r.x,r.y+1):=by rw[zlu hso,gap2]
    rw[<- hgap,zl1 hc.cl hsum hP' BO FO c];constructor
    .intro z;rw[z];decide
    .intro z;rcases wd_0m hc.cl hsum c with y |y
     .exact absurd y z
     .exact y
structure One (C:Cell->Bool) (es:List Edge) (r:Rnd):Prop where
 can:Can C es r
 all:∀e,e∈es ↔ IsE C e
theorem Can.alone{C:Cell->Bool}{es:List Edge}{r:Rnd}{m:Int}(h:Can C es r)(hm:∀c,wd es c=m-1∨wd es c=m):One (CD es m) es r:=by
 have st:∀e∈es,stepB (CD es m) e=stepB C e:=λe he=>CD.step h.cl hm he
 have wke:wk (CD es m) es=wk C es:=by unfold wk;exact Cj λe he=>by rw[st e he]
 refine⟨⟨CD.closed h.cl hm,?_,by rw[wke];exact h.bg,by rw[wke];exact h.so⟩,λe=>(CD.isE h.cl hm e).symm⟩;rw[h.row,Cj st]
noncomputable def mOf (s:Str):Int:=if s = "rim" then 1 else 0
theorem Can.alone'{C:Cell->Bool}{es:List Edge}{r:Rnd}(h:Can C es r):One (CD es (mOf r.so)) es r:=by
 refine h.alone λc=>?_
 rcases h.sum with⟨z,s⟩ |⟨z,s⟩
 .have:=wd_01 h.cl s c;rw[z];show _=(1:Int)-1∨_=(1:Int);lia
 .have:=wd_0m h.cl s c;rw[z];show _=(0:Int)-1∨_=(0:Int);lia
theorem CD.rim {C:Cell->Bool}{es:List Edge}{r:Rnd}(h:Can C es r){L:List Cell}(hL:∀c,c∈L ↔ wd es c≠0) (hr:r.so = "rim"):CD es (mOf r.so)=isIn L:=by
 funext c
 rcases h.sum with⟨z,s⟩ |⟨z,s⟩
 .have:=wd_01 h.cl s c;unfold CD isIn;rw[z];refine decide_eq_decide.mpr ?_
  rw[hL];show _=(1:Int) ↔ _;lia
 .rw[hr]at z;cases z
theorem CD.hole {es:List Edge}{r:Rnd}{L:List Cell}(hL:∀c,c∈L ↔ wd es c≠0) (hr:r.so = "hole"):CD es (mOf r.so)=λc=>!isIn L c:=by
 funext c
 unfold CD isIn;rw[hr];show decide (wd es c=0)=!decide (c∈L)
 by_cases z:wd es c=0
 .rw[decide_eq_true z,decide_eq_false (λq=>(hL c).mp q z)];rfl
 .rw[decide_eq_false z,decide_eq_true ((hL c).mpr z)];rfl
theorem One.at{C:Cell->Bool}{es:List Edge}{r:Rnd}(h:One C es r):C (begE r).c=true:=(h.can.cl.1.2.2.1 _ (Af h.can.cl.1.1)).2.1
theorem One.inj{C D:Cell->Bool}{es fs:List Edge}{r:Rnd}(h:One C es r)(k:One D fs r):C=D:=by have e:=h.can.uniq k.can;subst e;exact zfX (λe=>(h.all e).symm.trans (k.all e)) (h.at.trans k.at.symm)
theorem One.det{C:Cell->Bool}{es fs:List Edge}{r q:Rnd}(h:One C es r)(k:One C fs q):r=q:=by
 have p:es.Perm fs:=(List.perm_ext_iff_of_nodup h.can.cl.1.2.2.2 k.can.cl.1.2.2.2).mpr λe=>(h.all e).trans (k.all e).symm
 have so:r.so=q.so:=by have pw:(wk C es).Perm (wk C fs):=p.map _;rw[h.can.so,k.can.so];unfold sortS nL nS;rw[(pw.filter _).length_eq,(pw.filter _).length_eq]
 have be:begE r=begE q:=by have b1:=h.can.bg;have b2:=k.can.bg;rw[<- so]at b2;exact b1.one (by rw[zbE,zbE];exact p) b2
 have c1:=h.can.cl;rw[be]at c1;have ee:=c1.uniq k.can.cl;have rr:r.row=q.row:=by rw[h.can.row,k.can.row,ee]
 obtain⟨s1,x1,y1,w1⟩:=r;obtain⟨s2,x2,y2,w2⟩:=q;simp only at so rr;subst so rr;have bc:(begE ⟨s1,x1,y1,w1⟩).c=(begE ⟨s1,x2,y2,w1⟩).c:=by rw[be]
 have bc:((x1,y1):Cell)=(x2,y2):=bc
 cases bc
 rfl
noncomputable def mvP(d:Cell)(C:Cell->Bool)(c:Cell):Bool:=C (mvC (-d.1,-d.2) c)
theorem ziX(d:Cell)(C:Cell->Bool)(c:Cell):mvP d C (mvC d c)=C c:=by unfold mvP;rw[zkR]
theorem zeb(d:Cell)(C:Cell->Bool)(e:Edge):stepB (mvP d C) (mvE d e)=stepB C e:=by unfold stepB;show (if mvP d C (go (mvC d e.c) ((2*e.w+7) % 8))=true then _ else if mvP d C (go (mvC d e.c) (2*e.w))=true then _ else _)=_;rw[go_mv,go_mv,ziX,ziX];rfl
theorem zl8(d:Cell)(e:Edge)(o:Option Nat):edgeB (mvE d e) o=mvE d (edgeB e o):=by
 cases o with
 |none=>rfl
 |some s =>
  unfold edgeB;simp only;split
  .show (⟨go (mvC d e.c) s,_⟩:Edge)=mvE d ⟨go e.c s,_⟩;rw[go_mv];rfl
  .show (⟨go (mvC d e.c) s,_⟩:Edge)=mvE d ⟨go e.c s,_⟩;rw[go_mv];rfl
theorem zkO(d:Cell)(C:Cell->Bool)(e:Edge):nxt (mvP d C) (mvE d e)=mvE d (nxt C e):=by unfold nxt;rw[zeb,zl8]
theorem zie(d:Cell)(C:Cell->Bool)(e:Edge):IsE (mvP d C) (mvE d e) ↔ IsE C e:=by unfold IsE;rw[zn6,ziX];show e.w<4/\mvP d C (mvC d e.c)=true/\_ ↔ _;rw[ziX]
theorem One.mv(d:Cell){C:Cell->Bool}{es:List Edge}{r:Rnd}(h:One C es r):One (mvP d C) (es.map (mvE d)) (mvR d r):=by
 have be:begE (mvR d r)=mvE d (begE r):=rfl
 have wkm:wk (mvP d C) (es.map (mvE d))=(wk C es).map λq=>(mvE d q.1,q.2):=by unfold wk;rw[BM,BM];exact Cj λe _=>by show (mvE d e,stepB (mvP d C) (mvE d e))=(mvE d e,stepB C e);rw[zeb]
 obtain⟨⟨⟨c1,c2,c3,c4⟩,l,l1,l2⟩,row,⟨b1,b2,b3⟩,so⟩:=h.can;refine⟨⟨⟨⟨?_,?_,?_,?_⟩,mvE d l,?_,?_⟩,?_,⟨?_,?_,?_⟩,?_⟩,λe=>?_⟩
 .rw[be,Ak,c1];rfl
 .intro i e f h1 h2;rw[Ak]at h1 h2;obtain⟨e',e1,rfl⟩:=AA.mp h1;obtain⟨f',f1,rfl⟩:=AA.mp h2;rw[zkO,c2 i e' f' e1 f1]
 .intro e he;obtain⟨e',h1,rfl⟩:=Aq.mp he;exact (zie d C e').mpr (c3 e' h1)
 .unfold List.Nodup;rw[Bv];exact List.Pairwise.imp (λhab e=>hab (znc e)) c4
 .rw[Ai,Ak,l1];rfl
 .rw[zkO,l2,be]
 .show r.row=_;rw[row,BM]
  congr 1
  exact Cj λe _=>(zeb d C e).symm
 .rw[be,zbE];rw[zbE]at b1;exact Aq.mpr ⟨_,b1,rfl⟩
 .exact b2
 .intro f hf hw;rw[zbE]at hf;obtain⟨a,ha,rfl⟩:=Aq.mp hf;show HT.lexLt [a.c.2+d.2,a.c.1+d.1] [(begE r).c.2+d.2,(begE r).c.1+d.1]=false;rw[zkY];exact b3 a (by rw[zbE];exact ha) hw
 .show r.so=_;rw[so,wkm];unfold sortS nL nS;rw[List.filter_map,Ai,List.filter_map,Ai];rfl
 .constructor
  .intro he;obtain⟨e',h1,rfl⟩:=Aq.mp he;exact (zie d C e').mpr ((h.all e').mp h1)
  .intro he;refine Aq.mpr ⟨mvE (-d.1,-d.2) e,(h.all _).mpr ?_,ziZ d e⟩;rw[<- ziZ d e]at he;exact (zie d C _).mp he
theorem One.turned{C:Cell->Bool}{es:List Edge}{r q:Rnd}(h:One C es r)(k:Nat)(hq:IsRnd (wk (rCn k C) (es.map (qEn k))) q):∃fs,One (rCn k C) fs q/\fs.length=es.length:=by
 obtain⟨fs,f1,f2,f3,f4,f5,_⟩:=IsRnd.walk (zdt h.can.cl k) hq;refine⟨fs,⟨⟨f1,f3,f4,f5⟩,λe=>?_⟩,by rw[f2.length_eq,Ai]⟩;rw[f2.mem_iff];constructor
 .intro m;obtain⟨a,ha,rfl⟩:=Aq.mp m;exact (zk8 ((h.all a).mp ha).1 k).mpr ((h.all a).mp ha)
 .intro m;obtain⟨f,h1,h2⟩:=zkx m.1 k;refine Aq.mpr ⟨f,(h.all f).mpr ?_,h2⟩;rw[<- h2]at m;exact (zk8 h1 k).mp m
theorem One.mirrored{C:Cell->Bool}{es:List Edge}{r q:Rnd}(h:One C es r)(hq:IsRnd (wk (mCC C) (mW es)) q):∃fs,One (mCC C) fs q/\fs.length=es.length:=by
 obtain⟨fs,f1,f2,f3,f4,f5,_⟩:=IsRnd.walk (zjq h.can.cl) hq;refine⟨fs,⟨⟨f1,f3,f4,f5⟩,λe=>?_⟩,by rw[f2.length_eq,zca]⟩;rw[f2.mem_iff,(zia es).mem_iff];constructor
 .intro m;obtain⟨a,ha,rfl⟩:=Aq.mp m;exact (isE_m _ ((h.all a).mp ha).1).mpr ((h.all a).mp ha)
 .intro m;have e2:=mE_mE m.1;refine Aq.mpr ⟨mE e,(h.all _).mpr ?_,e2⟩;rw[<- e2]at m;exact (isE_m _ (mE_lt e)).mp m
noncomputable def pb(q:Bool×Int)(C:Cell->Bool):Cell->Bool:=rCn (q.2 % 4).toNat (if q.1=true then mCC C else C)
theorem zhU(C:Cell->Bool):∀k,rCn k (λc=>!C c)=λc=>!rCn k C c
 | 0=>rfl
 |k+1=>by
  show rC (rCn k λc=>!C c)=_;rw[zhU C k];rfl
theorem zmC(q:Bool×Int)(C:Cell->Bool):pb q (λc=>!C c)=λc=>!pb q C c:=by
 unfold pb;split
 .exact zhU (mCC C) _
 .exact zhU C _
theorem zmD(q:Bool×Int)(cs:List Cell):isIn (brt q cs)=pb q (isIn cs):=by
 funext c
 unfold brt pb;rw[zk5];split
 .rename_i z
  rw[show isIn (cs.map mC)=mCC (isIn cs) from funext (zn2 cs)]
 .rfl
theorem zkP(d:Cell)(C:Cell->Bool):mvP d (λc=>!C c)=λc=>!mvP d C c:=rfl
theorem ziY(d:Cell)(cs:List Cell):isIn (cs.map (mvC d))=mvP d (isIn cs):=by
 funext c
 have:=zk7 d cs (mvC (-d.1,-d.2) c);rw[zgh]at this;exact this
theorem zgR{q:Bool×Int}{M N:List Cell}(hN:N≠[]){d:Cell}:Shift (brt q M) N d ↔ isIn N=mvP d (pb q (isIn M)):=by
 rw[<- zmD,<- ziY];constructor
 .rintro (⟨_,z,_⟩ |⟨_,h⟩)
  .exact absurd z hN
  .exact funext h
 .intro h;exact .inr ⟨hN,λc=>by rw[h]⟩
theorem zjx{q:Bool×Int}{M N:List Cell}(hN:N≠[]){d:Cell}:Shift (brt q M) N d ↔ (λc=>!isIn N c)=mvP d (pb q λc=>!isIn M c):=by
 rw[zgR hN,zmC,zkP];constructor
 .intro h;rw[h]
 .intro h
  funext c
  have:=congrFun h c;simpa using this
theorem zl6(L:List Cell):∃m:Int,∀c∈L,c.1<m/\-m<c.1/\c.2<m/\-m<c.2:=by
 induction L with
 |nil=>exact⟨0,λ_ h=>by cases h⟩
 |cons a L ih =>
  obtain⟨m,hm⟩:=ih;refine⟨(m.natAbs:Int)+a.1.natAbs+a.2.natAbs+1,λc hc=>?_⟩;rcases Aw.mp hc with rfl |hc
  .lia
  .have:=hm c hc;lia
theorem ziT{q:Bool×Int}{M N:List Cell}{d:Cell}:isIn N≠mvP d (pb q λc=>!isIn M c)/\(λc=>!isIn N c)≠mvP d (pb q (isIn M)):=by
 have key:∀N':List Cell,isIn N'=mvP d (pb q (isIn M))->isIn N≠λc=>!isIn N' c:=λN' _ h=>by
  obtain⟨m,hm⟩:=zl6 (N++N');have h1:=congrFun h (m,m);have n1:isIn N (m,m)=false:=decide_eq_false λz=>by have:=(hm _ (Bc _ z)).1;simp only at this;lia
  have n2:isIn N' (m,m)=false:=decide_eq_false λz=>by have:=(hm _ (Au _ z)).1;simp only at this;lia
  rw[n1]at h1;rw[n2]at h1
  cases h1
 have e:isIn ((brt q M).map (mvC d))=mvP d (pb q (isIn M)):=by rw[ziY,zmD]
 constructor
 .intro h;rw[zmC,zkP,<- e]at h;exact key _ e h
 .intro h;rw[<- e]at h;refine key _ e ?_
  funext c
  have:=congrFun h c;rw[<- this,Bool.not_not]
theorem One.so {C:Cell->Bool}{es:List Edge}{r:Rnd}(h:One C es r):SoOk r:=by show r.so = "rim" ∨ r.so = "hole";rw[h.can.so];exact zdh _
structure Rd1 (K:W.Frag) (H:Hp) (a:Addr) (C:Cell->Bool) (v:V) (es:List Edge) (r:Rnd):Prop where
 li:SqL K H a [v]
 rd:rR r v H
 on:One C es r
 le:es.length<=480
theorem Rd1.same{H H':Hp}{a:Addr}{C:Cell->Bool}{v:V}{es:List Edge}{r:Rnd}(h:Rd1 K H a C v es r)(s:Same H H'):Rd1 K H' a C v es r:=⟨s.seq h.li,rR.kt h.rd (KT.of s),h.on,h.le⟩
theorem VR.one1{α:Type}{R:α->V->Hp->Prop}{v:V}{x:α}{H:Hp}(h:R x v H):VR [v] [x] R H:=VR.cons.mpr ⟨h,VR.nil⟩
theorem Rd1.vr{H:Hp}{a:Addr}{C:Cell->Bool}{v:V}{es:List Edge}{r:Rnd}(h:Rd1 K H a C v es r):VR [v] [r] rR H:=VR.one1 h.rd
theorem Al.one1{α β:Type}{P:α->β->Prop}{x:α}{y:β}(h:P x y):Al P [x] [y]:=.cons h .nil
theorem Al.to1{α β:Type}{P:α->β->Prop}{l:List α}{y:β}(h:Al P l [y]):∃x,l=[x]/\P x y:=by
 cases h with
 |cons p t=>cases t;exact⟨_,rfl,p⟩
theorem VR.to1{α:Type}{R:α->V->Hp->Prop}{vs:List V}{x:α}{H:Hp}(h:VR vs [x] R H):∃v,vs=[v]/\R x v H:=by
 match vs,h with
 |[v],h=>exact⟨v,rfl,(VR.cons.mp h).1⟩
noncomputable def zgP(K:W.Frag):Sp:=λvs H Q _=>∃(a:Addr) (q:Bool×Int) (C:Cell->Bool) (v:V) (es:List Edge) (r:Rnd),vs=[.ref a,.bl q.1,.int q.2]/\Rd1 K H a C v es r /\
 ∀p H' v' es' r',Same H H'->Rd1 K H' p (pb q C) v' es' r'->Q (.ref p) H'
theorem zjI (g_turned_all:Fn P w K mg base 7 "turned_all" ["some","quarters"] (zcU K)) (g_mirrored_all:Fn P w K mg base 7 "mirrored_all" ["some"] (zde K)) (d:Df K mg "become" zfZ ["some","mirror","quarters"]):FnOk P w K mg base CX0 8 d.f d.fd ["some","mirror","quarters"] (zgP K):=by
 refine d.F.ok zkp (λvs H Q E h=>?_) (λcdv A outer s H vs Q E hr h=>?_)
 .obtain⟨a,q,C,v,es,r,rfl,_⟩:=h;rfl
 .obtain⟨a,⟨m,q⟩,C,v,es,r,rfl,hR,k⟩:=h;refine⟨_,(zaf (zai (pC g_turned_all hr (zah (zcn (zcQ (pv 1)) (pC g_mirrored_all hr (pa_N (pv 0) zab)) (pv 0)) (pa_N (pv 2) zab))))),?_⟩
  have turn:∀(a1:Addr) (H1:Hp) (C1:Cell->Bool) (v1:V) (es1:List Edge) (r1:Rnd),Same H H1->Rd1 K H1 a1 C1 v1 es1 r1->(∀p H' v' es' r',Same H H'->Rd1 K H' p (rCn (q % 4).toNat C1) v' es' r'->Q (.ref p) H')->zcU K [.ref a1,.int q] H1 Q E0:=λa1 H1 C1 v1 es1 r1 s1 hR1 k1=>by refine⟨a1,[v1],[r1],q,C1,[es1],rfl,hR1.li,hR1.vr,(by simp),Al.one1 hR1.on.can,(λe he=>by rw[Am.mp he];have:=hR1.le;lia),λp2 H2 rs2 S2 S20 hp2 s2 e2 hS2 pm2 in2 al2=>?_⟩;obtain⟨r2,rfl,hr2⟩:=al2.to1;obtain rfl:=List.perm_singleton.mp pm2;obtain⟨v2,rfl,hv2⟩:=hS2.to1;obtain⟨fs,hf,hfl⟩:=hR1.on.turned _ hr2;exact k1 p2 H2 v2 fs r2 (s1.trans s2) ⟨SqL.of e2,hv2,hf,by have:=hR1.le;lia⟩
  cases m with
  |true =>
   refine⟨_,rfl,_,rfl,iteT ?_⟩;refine⟨_,rfl,a,[v],[r],C,[es],rfl,hR.li,hR.vr,(by simp),Al.one1 hR.on.can,(λe he=>by rw[Am.mp he];have:=hR.le;lia),λp1 H1 rs1 S1 S10 hp1 s1 e1 hS1 pm1 in1 al1=>?_⟩;obtain⟨r1,rfl,hr1⟩:=al1.to1;obtain rfl:=List.perm_singleton.mp pm1;obtain⟨v1,rfl,hv1⟩:=hS1.to1;obtain⟨fs,hf,hfl⟩:=hR.on.mirrored hr1;exact⟨_,rfl,turn p1 H1 (mCC C) v1 fs r1 s1 ⟨SqL.of e1,hv1,hf,by have:=hR.le;lia⟩ k⟩
  |false =>
   refine⟨_,rfl,_,rfl,iteF ?_⟩;exact⟨_,rfl,_,rfl,turn a H C v es r (Same.refl _) hR k⟩
noncomputable def ziC(K:W.Frag):Sp:=λvs H Q _=>∃(a b:Addr) (C D:Cell->Bool) (v u:V) (es fs:List Edge) (r t:Rnd),vs=[.ref a,.ref b]/\Rd1 K H a C v es r/\Rd1 K H b D u fs t /\
 (∀p H' d,Same H H'->H' p=some (.tup [.int d.1,.int d.2])->D=mvP d C->Q (.ref p) H')/\(∀H',Same H H'->(∀d,D≠mvP d C)->Q .non H')
theorem zdF (T:Txt P w K mg) (g_moved_all:Fn P w K mg base 5 "moved_all" ["some","dx","dy"] (zfl K)) (d:Df K mg "shift_between" zbI ["some","others"]):FnOk P w K mg base CX0 6 d.f d.fd ["some","others"] (ziC K):=by
 refine d.F.ok zcr (λvs H Q E h=>?_) (λcdv A outer s H vs Q E hr h=>?_)
 .obtain⟨a,b,C,D,v,u,es,fs,r,t,rfl,_⟩:=h;rfl
 .obtain⟨a,b,C,D,v,u,es,fs,r,t,rfl,hS,hT,k1,k2⟩:=h;have hu64:=hr.units
  refine⟨_,(zac (ps_if (zmx (zeo (zf1 (pv 0) (λ_=>rfl))) (zkB (zeo (zf1 (pv 1) (λ_=>rfl))))).pt
   (zaf (zai (zap (pa_C zae (pa_C zae zab)))))
   zat)
   (zac (ps_if (zas op_ne (zav zaF (by rfl) T.nlen (by rfl) (pa_N (pv 0) zab)) (zav zaF (by rfl) T.nlen (by rfl) (pa_N (pv 1) zab)) (zaq _))
   (zaf (zai zaY))
   zat)
   (zac (znJ (i:=2) (j:=3) rfl zcr.nd (by rfl) (by rfl) (by decide) (by rfl) (by rfl) (pa_B (pe_op zaP (pe_ix zaT (pe_ix zaA (pv 1) zae (λ_ _=>rfl)) zae (λ_ _=>rfl)) (pe_ix zaT (pe_ix zaA (pv 0) zae (λ_ _=>rfl)) zae (λ_ _=>rfl))) (pa_B (pe_op zaP (pe_ix zaT (pe_ix zaA (pv 1) zae (λ_ _=>rfl)) zae (λ_ _=>rfl)) (pe_ix zaT (pe_ix zaA (pv 0) zae (λ_ _=>rfl)) zae (λ_ _=>rfl))) zab)) (by rfl))
   (zaf (zai (zcn (zas (ziS hu64) (pC g_moved_all hr (pa_N (pv 0) (pa_N (pv 2) (pa_N (pv 3) zab)))) (pv 1) (zaq _)) (zap (pa_N (pv 2) (pa_N (pv 3) zab))) zaY)))))),?_⟩
  obtain⟨x1,y1,rfl,f1,_⟩:=id hT.rd;obtain⟨x0,y0,rfl,f0,_⟩:=id hS.rd;refine⟨_,rfl,_,.inl ⟨_,hS.li,rfl⟩,iteN rfl ?_⟩;refine⟨_,rfl,a,_,rfl,.inl hS.li,_,rfl,b,_,rfl,.inl hT.li,rfl,_,rfl,iteN (by simp) ?_⟩;refine⟨_,rfl,b,_,_,_,rfl,rfl,hT.li,zak (j:=0) rfl,x1,_,_,_,rfl,rfl,SqT.of f1,zak (j:=1) rfl,_,rfl,a,_,_,_,rfl,rfl,hS.li,zak (j:=0) rfl,x0,_,_,_,rfl,rfl,SqT.of f0,zak (j:=1) rfl,_,_,rfl,rfl,?_⟩;refine⟨_,rfl,b,_,_,_,rfl,rfl,hT.li,zak (j:=0) rfl,x1,_,_,_,rfl,rfl,SqT.of f1,zak (j:=2) rfl,_,rfl,a,_,_,_,rfl,rfl,hS.li,zak (j:=0) rfl,x0,_,_,_,rfl,rfl,SqT.of f0,zak (j:=2) rfl,_,_,rfl,rfl,?_⟩;refine⟨_,_,rfl,?_⟩;refine⟨_,rfl,_,rfl,_,rfl,a,_,[r],t.x-r.x,t.y-r.y,rfl,hS.li,hS.vr,(by simp),λp H1 rs' S' hp s1 e1 hS' pm' in'=>?_⟩;obtain rfl:S'=[mvR (t.x-r.x,t.y-r.y) r]:=List.perm_singleton.mp pm';have om:=hS.on.mv (t.x-r.x,t.y-r.y);refine⟨_,rfl,_,_,zg0 (SqL.of e1) hS',zg0 (s1.seq hT.li) (hT.same s1).vr,zgS (λq h=>by rw[Am.mp h];exact om.so),zgS (λq h=>by rw[Am.mp h];exact hT.on.so),_,rfl,?_⟩;rw[zn8]
  by_cases hST:[mvR (t.x-r.x,t.y-r.y) r]=[t]
  .rw[decide_eq_true hST];refine iteT ⟨_,rfl,_,rfl,two,λp2 hp2=>k1 p2 _ (t.x-r.x,t.y-r.y) (s1.trans (Same.up hp2)) zaa ?_⟩;have e:mvR (t.x-r.x,t.y-r.y) r=t:=by injection hST
   rw[e]at om;exact hT.on.inj om
  .rw[decide_eq_false hST];refine iteF (k2 H1 s1 λdd h=>hST ?_);have o2:=hS.on.mv dd;rw[<- h]at o2;have e:=hT.on.det o2
   have ed:(t.x-r.x,t.y-r.y)=dd:=by rw[e];exact Bj (by show r.x+dd.1-r.x=dd.1;lia) (by show r.y+dd.2-r.y=dd.2;lia)
   rw[ed,<- e]
noncomputable def zhF(C D:Cell->Bool)(i:Nat)(q:Bool×Int)(d:Cell):Prop:=trns[i]?=some q/\D=mvP d (pb q C)/\∀(j:Nat) q',j<i->trns[j]?=some q'->∀d,D≠mvP d (pb q' C)
noncomputable def zfC(C D:Cell->Bool):Prop:=∀(j:Nat) q',trns[j]?=some q'->∀d,D≠mvP d (pb q' C)
noncomputable def ziG(K:W.Frag):Sp:=λvs H Q _=>∃(a b:Addr) (C D:Cell->Bool) (v u:V) (es fs:List Edge) (r t:Rnd),vs=[.ref a,.ref b]/\Rd1 K H a C v es r/\Rd1 K H b D u fs t /\
 (∀p H' i q d,Same H H'->H' p=some (.tup (howV q d))->zhF C D i q d->Q (.ref p) H')/\(∀H',Same H H'->zfC C D->Q .non H')
theorem zgg (T:Txt P w K mg) (g_become:Fn P w K mg base 8 "become" ["some","mirror","quarters"] (zgP K)) (g_shift_between:Fn P w K mg base 6 "shift_between" ["some","others"] (ziC K)) (d:Df K mg "alike_all" zcY ["some","others"]):FnOk P w K mg base CX0 9 d.f d.fd ["some","others"] (ziG K):=by
 refine d.F.ok zbS (λvs H Q E h=>?_) (λcdv A outer s H vs Q E hr h=>?_)
 .obtain⟨a,b,C,D,v,u,es,fs,r,t,rfl,_⟩:=h;rfl
 .obtain⟨a,b,C,D,v,u,es,fs,r,t,rfl,hS,hT,k1,k2⟩:=h;obtain⟨MTU,hTU,hms⟩:=T.tTURNS
  refine⟨_,(zac (za4 AO rfl (ziN (zdE (v:=.ref MTU) rfl hTU rfl)) (zaX (by rfl) (zag (nG 2 zbS.nd) (zag (nG 3 zbS.nd) zao)))
   (zac (sE 4 zbS.nd (pC g_shift_between hr (zah (pC g_become hr (pa_N (pv 0) (pa_N (pv 2) (pa_N (pv 3) zab)))) (pa_N (pv 1) zab))))
   (zaf (ps_if (zas zeq (pv 4) zaY (zaq _))
   (zaf (zai (zap (pa_N (pv 2) (pa_N (pv 3) (zah (pe_ix zaT (pv 4) zae (λ_ _=>rfl)) (zah (pe_ix zaT (pv 4) zae (λ_ _=>rfl)) zab)))))))
   zat))))
   (zaf (zai zaY))),?_⟩
  obtain⟨ms,hM,hml,hmq⟩:=hms H;refine⟨MTU,rfl,⟨_,hM⟩,?_⟩
  refine zgn (K:=K) (a:=MTU) (xs:=ms.map V.ref) (λi σ H2=>∃o2 o3 o4,σ=[some (.ref a),some (.ref b),o2,o3,o4]/\Same H H2/\∀(j:Nat) q',j<i->trns[j]?=some q'->∀d,D≠mvP d (pb q' C))
   ⟨_,_,_,rfl,Same.refl _,λj q' hj=>absurd hj (Du _)⟩ (λi σ H2 _ ⟨_,_,_,_,s2,_⟩=>s2.seqT hM) ?_ ?_
  .rintro i x σ H2 hi ⟨o2,o3,o4,rfl,s2,hno⟩;rw[Ak]at hi;obtain⟨m,hm,rfl⟩:=AA.mp hi;obtain⟨q,hq,hmt⟩:=hmq i m hm;have hq':trns[i]?=some q:=hq;refine⟨m,_,rfl,s2.seqT hmt,rfl,_,_,rfl,_,_,rfl,rfl,?_⟩;refine⟨_,rfl,_,rfl,_,rfl,a,q,C,v,es,r,rfl,hS.same s2,λp1 H3 v1 es1 r1 s3 hR1=>?_⟩;refine⟨_,rfl,p1,b,pb q C,D,v1,u,es1,fs,r1,t,rfl,hR1,hT.same (s2.trans s3),λp2 H4 dd s4 e4 hsh=>?_,λH4 s4 hnone=>?_⟩
   .refine⟨_,rfl,rfl,_,rfl,iteY rfl ?_⟩;refine⟨_,rfl,_,rfl,_,rfl,p2,_,_,_,rfl,rfl,SqT.of e4,zak (j:=0) rfl,_,rfl,p2,_,_,_,rfl,rfl,SqT.of e4,zak (j:=1) rfl,four,λp hp=>?_⟩;exact k1 p _ i q dd ((s2.trans (s3.trans s4)).trans (Same.up hp)) zaa ⟨hq',hsh,hno⟩
   .refine⟨_,rfl,rfl,_,rfl,iteN rfl ?_⟩;refine⟨_,_,_,rfl,s2.trans (s3.trans s4),λj q' hj hj'=>?_⟩;rcases AL j i with z |z
    .exact hno j q' z hj'
    .have:j=i:=by lia
     subst this;rw[hq']at hj'
     cases hj'
     exact hnone
  .rintro σ H2 ⟨o2,o3,o4,rfl,s2,hno⟩;refine k2 H2 s2 λj q' hj=>hno j q' ?_ hj
   rw[Ai,hml];exact (Ac.mp hj).1
noncomputable def zms(K:W.Frag):Sp:=λvs H Q _=>∃(C D:Cell->Bool) (v u:V) (es fs:List Edge) (r t:Rnd),vs=[v,u]/\rR r v H/\rR t u H/\One C es r/\One D fs t/\es.length<=480/\fs.length<=480 /\
 (∀p H' i q d,Same H H'->H' p=some (.tup (howV q d))->zhF C D i q d->Q (.ref p) H')/\(∀H',Same H H'->zfC C D->Q .non H')
theorem zlV (g_alike_all:Fn P w K mg base 9 "alike_all" ["some","others"] (ziG K)) (d:Df K mg "alike" zhS ["one","other"]):FnOk P w K mg base CX0 10 d.f d.fd ["one","other"] (zms K):=by
 refine d.F.ok zlI (λvs H Q E h=>?_) (λcdv A outer s H vs Q E hr h=>?_)
 .obtain⟨C,D,v,u,es,fs,r,t,rfl,_⟩:=h;rfl
 .obtain⟨C,D,v,u,es,fs,r,t,rfl,hv,hu,o1,o2,l1,l2,k1,k2⟩:=h;refine⟨_,(zaf (zai (pC g_alike_all hr (zah (zba (pa_N (pv 0) zab)) (zah (zba (pa_N (pv 1) zab)) zab))))),?_⟩;refine⟨_,rfl,zg5,λp1 hp1=>?_⟩;have s1:=Same.up (o:=.lst [v]) hp1;have e1:upd H p1 (.lst [v]) p1=some (.lst [v]):=zaa;generalize upd H p1 (.lst [v])=H1 at s1 e1;refine⟨_,rfl,zg5,λp2 hp2=>?_⟩;have s2:=Same.up (o:=.lst [u]) hp2;have e2:upd H1 p2 (.lst [u]) p2=some (.lst [u]):=zaa;generalize upd H1 p2 (.lst [u])=H2 at s2 e2;have s12:=s1.trans s2;refine⟨p1,p2,C,D,v,u,es,fs,r,t,rfl,⟨SqL.of (s2 _ _ e1),rR.kt hv (KT.of s12),o1,l1⟩,⟨SqL.of e2,rR.kt hu (KT.of s12),o2,l2⟩,λp H' i q d s=>k1 p H' i q d (s12.trans s),λH' s=>k2 H' (s12.trans s)⟩
noncomputable def zog(H:Hp)(p:Addr)(t:Int):Prop:=∃c:Int,H p=some (.lst [.int c,.int t])/\0<=t/\t<2 ^ 40
theorem cpow{i j:Int}(h:0<=j/\j<=1000000/\i.natAbs<2 ^ 64):CPow i j:=h
noncomputable def ziF(K:W.Frag):Sp:=λvs H Q _=>∃(a:Addr) (ns:List Int) (k:Nat),vs=[.ref a,.int k]/\SqL K H a (ns.map V.int)/\∀n,Q (.int n) H
theorem zeY (T:Txt P w K mg) (d:Df K mg "_law_cell_at" zb2 ["_law_script","_law_k"]):FnOk P w K mg base CX0 1 d.f d.fd ["_law_script","_law_k"] (ziF K):=by
 refine d.F.ok zej (λvs H Q E h=>?_) (λcdv A outer s H vs Q E hr h=>?_)
 .obtain⟨a,ns,k,rfl,_⟩:=h;rfl
 .obtain⟨a,ns,i,rfl,hq,k⟩:=h
  refine⟨_,(zac (ps_if (zas op_lt (pv 1) (zav zaF (by rfl) T.nlen (by rfl) (pa_N (pv 0) zab)) (zaq _))
   (zaf (zai (pe_ix zaA (pv 0) (pv 1) (λ_ _=>rfl))))
   zat)
   (zaf (zai zae))),?_⟩
  refine⟨_,rfl,_,rfl,a,_,rfl,.inl hq,_,_,rfl,rfl,_,rfl,?_⟩;refine ite2 (λhy=>?_) (λhn=>k 0)
  have hlt:i<ns.length:=by have:=of_decide_eq_true hy;rw[Ai]at this;lia
  exact⟨_,rfl,_,rfl,a,_,_,_,rfl,rfl,hq,zak (v:=.int ns[i]) (by simp[hlt]),k _⟩
noncomputable def zmn:Sp:=λvs H Q _=>∃(p:Addr) (t b:Int),vs=[.ref p,.int b]/\zog H p t/\0<b/\b.natAbs.log2<9000/\∀(n c:Int),0<=n->n<b->Q (.int n) (upd H p (.lst [.int c,.int (t+1)]))
theorem zhZ (T:Txt P w K mg) (d:Df K mg "_law_take" zcZ ["_law_pen","_law_base"]):FnOk P w K mg base CX0 1 d.f d.fd ["_law_pen","_law_base"] zmn:=by
 refine d.F.ok zby (λvs H Q E h=>?_) (λcdv A outer s H vs Q E hr h=>?_)
 .obtain⟨p,t,b,rfl,_⟩:=h;rfl
 .obtain⟨p,t,b,rfl,⟨c,hp,ht0,ht1⟩,hb,hlog,k⟩:=h
  refine⟨_,(zac (zbs (pe_op zax (pe_ix zaA (pv 0) zae (λ_ _=>rfl)) zae) (zmz (pv 0) zae ziH))
   (zac (ps_if (zas op_ge (zav zjj (by rfl) T.nabs (by rfl) (zah (pe_ix zaA (pv 0) zae (λ_ _=>rfl)) zab)) (pe_op zg3 zae zae) (zaq _))
   (zac (sE 2 zby.nd (pe_op zaP (zav zjj (by rfl) T.nabs (by rfl) (zah (pe_ix zaA (pv 0) zae (λ_ _=>rfl)) zab)) (pe_op zg3 zae zae)))
   (zac (zbs (pe_op zax (pe_op zg3 zae zae) (pe_op ziR (pv 2) (pv 1))) (zmz (pv 0) zae ziH))
   (zaf (zai (pe_op za2 (pv 2) (pv 1))))))
   zat)
   (zac (sE 3 zby.nd (pe_op zax (pe_op zcR (pe_op za2 (pe_ix zaA (pv 0) zae (λ_ _=>rfl)) zae) zae) (pe_op zcR (pe_op zcR zae (pe_ix zaA (pv 0) zae (λ_ _=>rfl))) (pe_ix zaA (pv 0) zae (λ_ _=>rfl)))))
   (zac (sE 3 zby.nd (pe_op za2 (pe_op zax (pe_op zax (pv 3) (pe_op zcR zae (pe_ix zaA (pv 0) zae (λ_ _=>rfl)))) zae) zae))
   (zac (sE 3 zby.nd (pe_op za2 (pe_op zax (pe_op zax (pe_op zcR (pv 3) (pv 3)) (pe_op zcR zae (pv 3))) (pe_ix zaA (pv 0) zae (λ_ _=>rfl))) zae))
   (zaf (zai (pe_op za2 (pe_op zkK (pv 3) zae) (pv 1))))))))),?_⟩
  refine⟨_,rfl,p,_,_,_,rfl,rfl,SqL.of hp,zak (j:=1) rfl,_,_,rfl,rfl,_,rfl,p,_,_,1,rfl,rfl,hp,rfl,?_⟩;have h1:upd H p (.lst [.int c,.int (t+1)]) p=some (.lst [.int c,.int (t+1)]):=zaa;have hmod:∀z:Int,0<=z % b/\z % b<b:=λz=>⟨Int.emod_nonneg _ (by lia),DB _ hb⟩
  refine⟨_,rfl,p,_,_,_,rfl,rfl,SqL.of h1,zak (j:=0) rfl,c,rfl,_,_,rfl,rfl,(by refine cpow ?_;decide),_,_,rfl,rfl,_,rfl,?_⟩;refine ite2 (λ_=>?_) (λ_=>?_)
  .refine⟨_,rfl,p,_,_,_,rfl,rfl,SqL.of h1,zak (j:=0) rfl,c,rfl,_,_,rfl,rfl,(by refine cpow ?_;decide),_,_,rfl,rfl,?_⟩;refine⟨_,_,rfl,rfl,(by refine cpow ?_;decide),_,rfl,_,rfl,_,_,rfl,rfl,⟨hb,hlog⟩,_,_,rfl,rfl,_,rfl,p,_,_,0,rfl,rfl,h1,rfl,?_⟩;refine⟨_,rfl,_,rfl,_,_,rfl,rfl,hb,?_⟩;rw[zjZ];exact k _ _ (hmod _).1 (hmod _).2
  .refine⟨_, rfl, p, _, _, _, rfl, rfl, SqL.of h1, zak (j := 0) rfl, _, _, rfl, rfl, (by show (0:Int) < 2147483647; decide), _, _, rfl, rfl, .inr ⟨by decide, by decide⟩,
    _,rfl,p,_,_,_,rfl,rfl,SqL.of h1,zak (j:=1) rfl,_,_,rfl,rfl,.inl ⟨by decide,by decide⟩,_,rfl,p,_,_,_,rfl,rfl,SqL.of h1,zak (j:=1) rfl,_,_,rfl,rfl,.inr ⟨by lia,by lia⟩,_,_,rfl,rfl,?_⟩
   refine⟨_,rfl,_,rfl,p,_,_,_,rfl,rfl,SqL.of h1,zak (j:=1) rfl,_,_,rfl,rfl,.inl ⟨by decide,by decide⟩,_,_,rfl,rfl,_,_,rfl,rfl,_,_,rfl,rfl,(by show (0:Int)<2147483629;decide),?_⟩
   refine⟨_,rfl,_,rfl,_,_,rfl,rfl,.inl ⟨Int.lt_of_lt_of_le (show (-(2 ^ 64):Int)<0 by decide) (Int.emod_nonneg _ (by decide)),Int.lt_trans (DB _ (by decide)) (by decide)⟩,_,rfl,_,_,rfl,rfl,.inl ⟨by decide,by decide⟩,_,_,rfl,rfl,
    _,rfl,p,_,_,_,rfl,rfl,SqL.of h1,zak (j:=1) rfl,_,_,rfl,rfl,_,_,rfl,rfl,(by show (0:Int)<2147483587;decide),?_⟩
   refine⟨_,rfl,_,_,rfl,rfl,⟨by decide,by decide⟩,_,rfl,_,_,rfl,rfl,hb,?_⟩;exact k _ _ (hmod _).1 (hmod _).2
noncomputable def HasB(H:Hp)(p:Addr)(n:Nat):Prop:=∃c t:Int,H p=some (.lst [.int c,.int t])/\0<=t/\t+n<2 ^ 40
theorem HasB.le{H:Hp}{p:Addr}{n m:Nat}(h:HasB H p n)(hm:m<=n):HasB H p m:=let ⟨c,t,e,a,b⟩:=h;⟨c,t,e,a,by lia⟩
theorem HasB.same{H H':Hp}{p:Addr}{n:Nat}(h:HasB H p n)(s:Same H H'):HasB H' p n:=let ⟨c,t,e,a,b⟩:=h;⟨c,t,s _ _ e,a,b⟩
noncomputable def But(H H':Hp)(p:Addr):Prop:=∀z o,z≠p->H z=some o->H' z=some o
theorem But.refl(H:Hp)(p:Addr):But H H p:=λ_ _ _ h=>h
theorem But.trans{H H1 H2:Hp}{p:Addr}(a:But H H1 p)(b:But H1 H2 p):But H H2 p:=λz o hz h=>b z o hz (a z o hz h)
theorem But.of{H H1:Hp}{p:Addr}(a:Same H H1):But H H1 p:=λz o _ h=>a z o h
theorem But.free{H H1:Hp}{p q:Addr}{n:Nat}(a:But H H1 p)(h:HasB H p n)(hq:H1 q=none)(hp:HasB H1 p 0):H q=none:=by
 obtain⟨c,t,e,_⟩:=hp;have hne:q≠p:=λz=>by subst z;rw[e]at hq;cases hq
 cases x:H q with
 |none=>rfl
 |some o=>rw[a q o hne x]at hq;cases hq
theorem But.kt{H H1:Hp}{p:Addr}{n:Nat}(a:But H H1 p)(h:HasB H p n):KT H H1:=λb xs e=>by obtain⟨c,t,ep,_⟩:=h;exact a b _ (ne_of e ep (λz=>nomatch z)) e
theorem zlE{A:Prop}{D:Int->Hp->Prop}(C:Int->Hp->Prop)(g:(∀n H1,D n H1->C n H1)->A)(h:∀n H1,D n H1->C n H1):A:=g h
theorem zaG{b:Int}(h0:0<b)(h:b<=1000):b.natAbs.log2<9000:=by refine (Nat.log2_lt (by lia)).mpr (AS (show b.natAbs<2 ^ 10 by lia) (Nat.pow_le_pow_right (by decide) (by decide)))
noncomputable def spTk:Sp:=λvs H Q _=>∃(p:Addr) (n:Nat) (b:Int),vs=[.ref p,.int b]/\HasB H p (n+1)/\0<b/\b.natAbs.log2<9000/\∀(r:Int) (H':Hp),0<=r->r<b->But H H' p->HasB H' p n->Q (.int r) H'
theorem tk_of {f:Addr}{fd:Bo}(h:FnOk P w K mg base CX0 1 f fd ["_law_pen","_law_base"] zmn):FnOk P w K mg base CX0 1 f fd ["_law_pen","_law_base"] spTk:=by
 refine h.imp λvs H Q E h=>?_
 obtain⟨p,n,b,rfl,⟨c,t,e,h0,h1⟩,hb,hl,k⟩:=h;refine⟨p,t,b,rfl,⟨c,e,h0,by lia⟩,hb,hl,λr c' h2 h3=>k r _ h2 h3 (λz o hz h=>by rw[zaj hz];exact h) ⟨c',t+1,zaa,by lia,by lia⟩⟩
noncomputable abbrev Tk (P:AJ) (w:A1) (K:W.Frag) (mg:Str->Option Ad) (base:Heap):=Fn P w K mg base 1 "_law_take" ["_law_pen","_law_base"] spTk
noncomputable def spFar:Sp:=λvs H Q _=>∃(p:Addr) (n:Nat),vs=[.ref p]/\HasB H p (n+3)/\∀(r:Int) (H':Hp),-(2 ^ 104)<r/\r<2 ^ 104->But H H' p->HasB H' p n->Q (.int r) H'
theorem atI3{a b c:V}{n:Int}(h0:0<=n)(h3:n<3):∃v,atI [a,b,c] n=some v/\(v=a∨v=b∨v=c):=by
 have:n=0∨n=1∨n=2:=by lia
 rcases this with rfl |rfl |rfl
 .exact⟨a,rfl,.inl rfl⟩
 .exact⟨b,rfl,.inr (.inl rfl)⟩
 .exact⟨c,rfl,.inr (.inr rfl)⟩
theorem zjH (g__law_take:Tk P w K mg base) (d:Df K mg "_law_far" zdA ["_law_pen"]):FnOk P w K mg base CX0 2 d.f d.fd ["_law_pen"] spFar:=by
 refine d.F.ok zei (λvs H Q E h=>?_) (λcdv A outer s H vs Q E hr h=>?_)
 .obtain⟨p,n,rfl,_⟩:=h;rfl
 .obtain⟨p,n,rfl,hp,k⟩:=h
  refine⟨_,(zac (sE 1 zei.nd (pC g__law_take hr (pa_N (pv 0) (pa_C zae zab))))
   (zac (ps_if (zas op_lt (pv 1) zae (zaq _))
   (zaf (zai (pe_ix zaA (zba (pa_C zae (pa_B (pe_op zaP (pC g__law_take hr (pa_N (pv 0) (pa_C zae zab))) zae) (pa_B (pe_op zaP (pC g__law_take hr (pa_N (pv 0) (pa_C zae zab))) zae) zab)))) (pv 1) (λ_ _=>rfl))))
   zat)
   (zaf (zai (pe_op zax (pe_op zaP (pC g__law_take hr (pa_N (pv 0) (pa_B (pe_op zaP (pe_op zcR zae (pe_op zg3 zae zae)) zae) zab))) (pe_op zg3 zae zae)) zae))))),?_⟩
  refine⟨_,rfl,p,n+2,4,rfl,hp,by decide,zaG (by decide) (by decide),λr H1 h0 h4 b1 p1=>?_⟩;refine⟨_,rfl,_,_,rfl,rfl,_,rfl,?_⟩;refine ite2 (λhy=>?_) (λhn=>?_)
  .have h3:r<3:=of_decide_eq_true hy;refine⟨_,rfl,p,n+1,41,rfl,p1,by decide,zaG (by decide) (by decide),λr2 H2 x1 x2 b2 p2=>⟨_,_,rfl,rfl,?_⟩⟩;refine⟨_,rfl,p,n,2000001,rfl,p2,by decide,by decide +kernel,λr3 H3 y1 y2 b3 p3=>⟨_,_,rfl,rfl,three,λl hl=>?_⟩⟩;obtain⟨v,hv,hor⟩:=atI3 (a:=.int 0) (b:=.int (r2-20)) (c:=.int (r3-1000000)) h0 h3;refine⟨_,rfl,l,_,_,v,rfl,rfl,SqL.of zaa,hv,?_⟩;have fin:∀z:Int,-(2 ^ 104)<z/\z<2 ^ 104->Q (.int z) (upd H3 l (.lst [.int 0,.int (r2-20),.int (r3-1000000)])):=λz hz=>k z _ hz ((b1.trans (b2.trans b3)).trans (But.of (Same.up hl))) (p3.same (Same.up hl))
   rcases hor with z |z |z <;> rw[z] <;> exact fin _ (by lia)
  .refine⟨_,rfl,_,_,rfl,rfl,(by refine cpow ?_;decide),_,_,rfl,rfl,.inl ⟨by decide,by decide⟩,_,_,rfl,rfl,p,n+1,_,rfl,p1,(by decide),(by decide +kernel),λr2 H2 x1 x2 b2 p2=>?_⟩;refine⟨_,_,rfl,rfl,(by refine cpow ?_;decide),_,_,rfl,rfl,_,_,rfl,rfl,?_⟩;refine k _ _ ?_ (b1.trans b2) (p2.le (by lia))
   have x2':r2<2*10 ^ 30-799:=x2;show -(2 ^ 104)<r2-10 ^ 30+400/\r2-10 ^ 30+400<2 ^ 104;lia
noncomputable def zka:Sp:=λvs H Q _=>∃(p:Addr) (n:Nat) (way x y wd hg:Int),vs=[.ref p,.int way,.int x,.int y,.int wd,.int hg]/\0<=way/\HasB H p (n+1)/\∀(b:Bool) (H':Hp),But H H' p->HasB H' p n->Q (.bl b) H'
theorem zew (T:Txt P w K mg) (g__law_take:Tk P w K mg base) (d:Df K mg "_law_is_there" zbL ["_law_pen", "_law_way", "_law_x", "_law_y", "_law_wide", "_law_high"]) :
  FnOk P w K mg base CX0 2 d.f d.fd ["_law_pen","_law_way","_law_x","_law_y","_law_wide","_law_high"] zka:=by
 refine d.F.ok zdX (λvs H Q E h=>?_) (λcdv A outer s H vs Q E hr h=>?_)
 .obtain⟨p,n,way,x,y,wd,hg,rfl,_⟩:=h;rfl
 .obtain⟨p,n,way,x,y,wd,hg,rfl,hw,hp,k⟩:=h
  refine⟨_,(zac (ps_if (zas op_eq (pv 1) zae (zaq _))
   (zaf (zai pe_bl))
   zat)
   (zac (ps_if (zas op_lt (pv 1) zae (zaq _))
   (zaf (zai (zbf op_lt (pC g__law_take hr (pa_N (pv 0) (zah (pe_ix zaA (zba (pa_C zae (pa_C zae (pa_C zae zab)))) (pe_op zaP (pv 1) zae) (λ_ _=>rfl)) zab))) (pe_ix zaA (zba (pa_C zae (pa_C zae (pa_C zae zab)))) (pe_op zaP (pv 1) zae) (λ_ _=>rfl)) (zaq _))))
   zat)
   (zac (ps_if (zas op_eq (pv 1) zae (zaq _))
   (zaf (zai (zbf op_eq (pe_op za2 (zav (zlq rfl) (by rfl) T.nmin (by rfl) (pa_N (pv 2) (pa_N (pv 3) (pa_B (pe_op zaP (pe_op zaP (pv 4) zae) (pv 2)) (pa_B (pe_op zaP (pe_op zaP (pv 5) zae) (pv 3)) zab))))) zae) zae (zaq _))))
   zat)
   (zaf (zai (pe_or (zbf op_eq (pe_op za2 (pe_op zax (pv 2) (pv 3)) zae) zae (zaq _)) (zfu (zbf op_eq (pC g__law_take hr (pa_N (pv 0) (pa_C zae zab))) zae (zaq _))))))))),?_⟩
  have fin:∀b,Q (.bl b) H:=λb=>k b H (But.refl _ _) (hp.le (by lia))
  refine⟨_,rfl,rfl,_,rfl,?_⟩;refine ite2 (λ_=>fin _) (λhn0=>?_);refine⟨_,rfl,_,_,rfl,rfl,_,rfl,?_⟩;refine ite2 (λhy=>?_) (λ_=>?_)
  .have h4:way<4:=of_decide_eq_true hy;have hne:way≠0:=λz=>hn0 (by rw[z];rfl)
   refine⟨_,rfl,three,λl hl=>?_⟩;obtain⟨v,hv,hor⟩:=atI3 (a:=V.int 2) (b:=V.int 5) (c:=V.int 4) (n:=way-1) (by lia) (by lia)
   obtain⟨bb,rfl,hb0,hb1⟩:∃bb:Int,v=.int bb/\0<bb/\bb<=1000:=by
    rcases hor with z |z |z
    .exact⟨2,z,by decide,by decide⟩
    .exact⟨5,z,by decide,by decide⟩
    .exact⟨4,z,by decide,by decide⟩
   refine⟨_,rfl,_,_,rfl,rfl,l,_,_,_,rfl,rfl,SqL.of zaa,hv,p,n,bb,rfl,hp.same (Same.up hl),hb0,zaG hb0 hb1,λr H1 _ _ b1 p1=>?_⟩;refine⟨three,λl2 hl2=>?_⟩;obtain⟨v2,hv2,hor2⟩:=atI3 (a:=V.int 1) (b:=V.int 4) (c:=V.int 1) (n:=way-1) (by lia) (by lia)
   obtain⟨b2,rfl⟩:∃bb:Int,v2=.int bb:=by
    rcases hor2 with z |z |z
    .exact⟨1,z⟩
    .exact⟨4,z⟩
    .exact⟨1,z⟩
   refine⟨_,rfl,_,_,rfl,rfl,l2,_,_,_,rfl,rfl,SqL.of zaa,hv2,_,_,rfl,rfl,?_⟩;exact k _ _ (((But.of (Same.up hl)).trans b1).trans (But.of (Same.up hl2))) (p1.same (Same.up hl2))
  .refine⟨_,rfl,rfl,_,rfl,?_⟩;refine ite2 (λ_=>?_) (λ_=>?_)
   .refine⟨_,rfl,_,rfl,_,rfl,_,_,rfl,rfl,_,rfl,_,_,rfl,rfl,_,rfl,_,_,rfl,rfl,_,rfl,_,_,rfl,rfl,_,_,_,_,rfl,λz=>⟨_,_,rfl,rfl,(by show (0:Int)<2;decide),rfl,fin _⟩⟩
   .refine⟨_,rfl,_,rfl,_,_,rfl,rfl,_,_,rfl,rfl,(by show (0:Int)<2;decide),rfl,_,rfl,?_⟩;refine ite2 (λ_=>fin _) (λ_=>?_);refine⟨_,rfl,p,n,6,rfl,hp,by decide,zaG (by decide) (by decide),λr H1 _ _ b1 p1=>⟨rfl,k _ _ b1 p1⟩⟩
noncomputable def Bef(cs:List Cell)(x y:Int):Prop:=∀c∈cs,c.2<y∨(c.2=y/\c.1<x)
theorem InOrd.snoc{cs:List Cell}{x y:Int}(h:InOrd cs)(b:Bef cs x y):InOrd (cs++[(x,y)]):=λi c e h1 h2=>by
 have hi:i+1<(cs++[(x,y)]).length:=(Ac.mp h2).1;rw[An,A9]at hi;rw[As (by lia)]at h1;rcases AL (i+1) cs.length with hl |hl
 .rw[As hl]at h2;exact h i c e h1 h2
 .rw[AF hl,show i+1-cs.length=0 by lia]at h2
  cases h2
  have hb:=b c (Af h1);rw[HT.lexLt_cons];rcases hb with z |⟨z1,z2⟩
  .rw[if_neg (by lia)];exact decide_eq_true z
  .rw[if_pos z1,HT.lexLt_cons,if_neg (by lia)];exact decide_eq_true z2
noncomputable def CellB(c:Cell):Prop:=(-(2 ^ 105)<c.1/\c.1<2 ^ 105)/\-(2 ^ 105)<c.2/\c.2<2 ^ 105
noncomputable def zgM(K:W.Frag):Sp:=λvs H Q _=>∃(p:Addr) (n m:Nat),vs=[.ref p,.int m]/\HasB H p (n+(20+m))/\1<=m/\m<=200 /\
 ∀(a:Addr) (cs:List Cell) (H':Hp),H a=none->But H H' p->HasB H' p n->(∃vs,H' a=some (.lst vs)/\VR vs cs cR H')->InOrd cs->Boxed m cs->cs.length<=m->(∀c∈cs,CellB c)->Q (.ref a) H'
theorem zeX (T:Txt P w K mg) (g__law_take:Tk P w K mg base) (g__law_far:Fn P w K mg base 2 "_law_far" ["_law_pen"] spFar)
    (g__law_is_there:Fn P w K mg base 2 "_law_is_there" ["_law_pen","_law_way","_law_x","_law_y","_law_wide","_law_high"] zka) (d:Df K mg "_law_picture" zb1 ["_law_pen","_law_most"]) :
    FnOk P w K mg base CX0 3 d.f d.fd ["_law_pen","_law_most"] (zgM K):=by
  refine d.F.ok zaw (λvs H Q E h=>?_) (λcdv A outer s H vs Q E hr h=>?_)
  . obtain⟨p,n,m,rfl,_⟩:=h;rfl
  . obtain⟨p,n,m,rfl,hp,hm1,hm,k⟩:=h
    refine⟨_,(zac (sE 2 zaw.nd (pe_op zax zae (pC g__law_take hr (pa_N (pv 0) (zah (zcn (zas op_gt (pv 1) zae (zaq _)) (pe_ix zaA (zba (pa_C zae (pa_N (pv 1) zab))) (zb9 zht (by rfl) T.nint (by rfl) (zah (zbf op_eq (pC g__law_take hr (pa_N (pv 0) (pa_C zae zab))) zae (zaq _)) zab)) (λ_ _=>rfl)) (pv 1)) zab)))))
      (zac (sE 3 zaw.nd (pe_op zax zae (pC g__law_take hr (pa_N (pv 0) (pa_B (pe_op ziR (pv 1) (pv 2)) zab)))))
      (zac (sE 4 zaw.nd (pC g__law_take hr (pa_N (pv 0) (pa_C zae zab))))
      (zac (sE 5 zaw.nd (pC g__law_far hr (pa_N (pv 0) zab)))
      (zac (sE 6 zaw.nd (pC g__law_far hr (pa_N (pv 0) zab)))
      (zac (sE 7 zaw.nd (zba zab))
      (zac (za4 AO rfl (zb8 (by rfl) T.nrange (pa_N (pv 3) zab)) (nG 8 zaw.nd)
      (zaf (za4 AO rfl (zb8 (by rfl) T.nrange (pa_N (pv 2) zab)) (nG 9 zaw.nd)
      (zaf (ps_if (zcQ (pC g__law_is_there hr (pa_N (pv 0) (pa_N (pv 4) (pa_N (pv 9) (pa_N (pv 8) (pa_N (pv 2) (pa_N (pv 3) zab))))))))
      (zaf (zbN (pe_bm A0 Be Bg zbb (pv 7) (pa_T (zap (pa_B (pe_op zax (pv 9) (pv 5)) (pa_B (pe_op zax (pv 8) (pv 6)) zab))) zab))))
      zat)))))
      (zaf (zai (pv 7)))))))))),?_⟩
    refine zlE (D:=λr H1=>0<=r/\r<m/\But H H1 p/\HasB H1 p (n+(18+m))) ?C (λshare=>?g) ?h
    case g =>
      refine⟨_,rfl,_,rfl,_,_,rfl,rfl,_,rfl,?_⟩;refine ite2 (λhy=>?_) (λhn=>?_)
      . have h12:(12:Int)<m:=of_decide_eq_true hy;refine⟨_,rfl,two,λl hl=>?_⟩;refine⟨_,rfl,p,n+(19+m),4,rfl,(hp.same (Same.up hl)).le (by lia),by decide,zaG (by decide) (by decide),λr H1 _ _ b1 p1=>?_⟩;refine⟨rfl,.inr ⟨_,rfl,?_⟩⟩;obtain⟨c0,t0,e0,_⟩:=hp;have hlp:l≠p:=λz=>by subst z;rw[e0]at hl;cases hl
        have l1:H1 l=some (.lst [.int 12,.int m]):=b1 _ _ hlp zaa
        obtain⟨v,hv,bb,rfl,hb0,hb1⟩:∃v,atI [V.int 12,V.int (m:Int)] (if decide (V.int r=V.int 0)=true then 1 else 0)=some v/\∃bb:Int,v=.int bb/\0<bb/\bb<=m:=by
          by_cases hz:decide (V.int r=V.int 0)=true
          . rw[if_pos hz];exact⟨_,rfl,m,rfl,by lia,by lia⟩
          . rw[if_neg hz];exact⟨_,rfl,12,rfl,by decide,by lia⟩
        refine⟨l,_,_,_,rfl,rfl,SqL.of l1,hv,p,n+(18+m),bb,rfl,p1.le (by lia),hb0,zaG hb0 (by lia),λr2 H2 h0 h2 b2 p2=>?_⟩;exact share r2 H2 ⟨h0,by lia,((But.of (Same.up hl)).trans b1).trans b2,p2⟩
      . refine⟨_,rfl,p,n+(18+m),m,rfl,hp.le (by lia),by lia,zaG (by lia) (by lia),λr2 H2 h0 h2 b2 p2=>?_⟩;exact share r2 H2 ⟨h0,h2,b2,p2⟩
    case h =>
      rintro r H1 ⟨h0,hrm,b1,p1⟩;refine⟨_,_,rfl,rfl,?_⟩;have hwd:0<1+r:=by lia
      obtain⟨W,hW⟩:∃W:Nat,(1+r:Int)=W:=⟨(1+r).toNat,by lia⟩;have hq1:1<=(m:Int) / (1+r):=Int.le_ediv_of_mul_le hwd (by lia);have hq2:(m:Int) / (1+r)<=m:=Int.ediv_le_self _ (by lia);have hq3:(1+r)*((m:Int) / (1+r))<=m:=Int.mul_ediv_self_le (by lia);refine⟨_,rfl,_,rfl,_,rfl,_,_,rfl,rfl,⟨hwd,zaG hwd (by lia)⟩,p,n+(17+m),_,rfl,p1.le (by lia),by lia,zaG (by lia) (by lia),λr2 H2 h20 h2 b2 p2=>⟨_,_,rfl,rfl,?_⟩⟩;obtain⟨G,hG⟩:∃G:Nat,(1+r2:Int)=G:=⟨(1+r2).toNat,by lia⟩
      have hWG:W*G<=m:=by
        have h1:(1+r)*(1+r2)<=(1+r)*((m:Int) / (1+r)):=Int.mul_le_mul_of_nonneg_left (by lia) (by lia);rw[hW,hG]at h1;rw[hW]at hq3
        have h2:((W*G:Nat):Int)<=m:=by rw[Int.natCast_mul];lia
        lia
      refine⟨_,rfl,p,n+(16+m),6,rfl,p2.le (by lia),by decide,zaG (by decide) (by decide),λr3 H3 h30 _ b3 p3=>?_⟩;refine⟨_,rfl,p,n+(13+m),rfl,p3.le (by lia),λdx H4 fx b4 p4=>?_⟩;refine⟨_,rfl,p,n+(10+m),rfl,p4.le (by lia),λdy H5 fy b5 p5=>?_⟩;refine⟨(by show 0<=sizeLine;decide),λq hq=>?_⟩;have b05:But H H5 p:=b1.trans (b2.trans (b3.trans (b4.trans b5)));have hq0:H q=none:=b05.free hp hq (p5.le (by lia))
      have hqp:q≠p:=λz=>by obtain⟨c0,t0,e0,_⟩:=hp;subst z;rw[e0]at hq0;cases hq0
      refine⟨_,rfl,1+r2,rfl,by lia,by lia,?_⟩;have hGn:(1+r2:Int).toNat=G:=by lia
      have hWn:(1+r:Int).toNat=W:=by lia
      rw[hGn]
      refine zbq (lo := 0) (n := G) (λi σ H6 => ∃o8 o9 cs vs, σ = [some (.ref p), some (.int m), some (.int (1 + r)), some (.int (1 + r2)), some (.int r3), some (.int dx), some (.int dy), some (.ref q), o8, o9] /\ But H H6 p /\ HasB H6 p (n + (m-W * i)) /\
          H6 q=some (.lst vs)/\VR vs cs cR H6/\InOrd cs/\(cs.length<=W*i/\(∀c∈cs,dx<=c.1/\c.1<dx+W/\dy<=c.2))/\Bef cs dx (dy+i))
        ⟨_,_,[],[],rfl,b05.trans (But.of (Same.up hq)),(p5.same (Same.up hq)).le (by lia),zaa,VR.nil,(λi c e h=>by simp at h),⟨A5 _,λc hc=>by cases hc⟩,(λc hc=>by cases hc)⟩ ?_ ?_
      . rintro i σ H6 hi ⟨o8,o9,cs,vs,rfl,b6,p6,q6,hv,ho,hl,hbf⟩;have hWi:W*i+W<=W*G:=by rw[<- Nat.mul_succ];exact Di _ hi
        refine⟨_,rfl,1+r,rfl,by lia,by lia,?_⟩;rw[hWn]
        refine zbq (lo := 0) (n := W) (λj σ H7 => ∃o9 cs vs, σ = [some (.ref p), some (.int m), some (.int (1 + r)), some (.int (1 + r2)), some (.int r3), some (.int dx), some (.int dy), some (.ref q), some (.int (0 + (i:Int))), o9] /\ But H H7 p /\ HasB H7 p (n + (m-(W * i + j))) /\
            H7 q=some (.lst vs)/\VR vs cs cR H7/\InOrd cs/\(cs.length<=W*i+j/\(∀c∈cs,dx<=c.1/\c.1<dx+W/\dy<=c.2))/\Bef cs (dx+j) (dy+i))
          ⟨_,cs,vs,rfl,b6,p6,q6,hv,ho,hl,by simpa using hbf⟩ ?_ ?_
        . rintro j σ H7 hj ⟨o9,cs,vs,rfl,b7,p7,q7,hv,ho,⟨hl,hbox⟩,hbf⟩;refine⟨_,rfl,_,rfl,_,rfl,_,rfl,_,rfl,_,rfl,p,n+(m-(W*i+j+1)),_,_,_,_,_,rfl,h30,p7.le (by lia),λb H8 b8 p8=>⟨_,rfl,?_⟩⟩;have q8:=b8 _ _ hqp q7;have kt8:=b8.kt p7;refine ite2 (λ_=>?_) (λ_=>?_)
          . have hvl:vs.length<=1000:=by rw[hv.1];lia
            refine⟨_,rfl,.inl ⟨rfl,_,SqL.of q8⟩,_,rfl,_,rfl,_,_,rfl,rfl,_,rfl,_,rfl,_,_,rfl,rfl,two,λa ha=>?_⟩;have haq:q≠a:=zan q8 ha;refine⟨q,vs,_,rfl,rfl,(by rw[zaj haq];exact q8),zal hvl,?_⟩
            have hap:a≠p:=λz=>by obtain⟨c0,t0,e0,_⟩:=p8;subst z;rw[e0]at ha;cases ha
            obtain⟨nc,hnc⟩:∃nc:Cell,nc=(dx+(j:Int),dy+(i:Int)):=⟨_,rfl⟩
            have hcell:[V.int (0+(j:Int)+dx),V.int (0+(i:Int)+dy)]=cellT nc:=by rw[hnc];unfold cellT;rw[show 0+(j:Int)+dx=dx+j by lia,show 0+(i:Int)+dy=dy+i by lia]
            rw[hcell];have k2:KT (upd H8 a (.tup (cellT nc))) (upd (upd H8 a (.tup (cellT nc))) q (.lst (vs++[.ref a]))):=KT.lst (xs:=vs) (by rw[zaj haq];exact q8);refine⟨_,cs++[nc],vs++[.ref a],rfl,(λz o hz h=>?_),?_,zaa,?_,?_,?_,?_⟩
            . rw[zaj (zan h hq0)];exact Same.up ha _ _ (b8 _ _ hz (b7 _ _ hz h))
            . obtain⟨c0,t0,e0,h1,h2⟩:=p8;refine⟨c0,t0,?_,h1,by lia⟩;rw[zaj (Bu hqp),zaj (Bu hap)];exact e0
            . exact hv.snoc (λx v hx=>hx.kt (kt8.trans ((KT.up ha).trans k2))) ⟨a,rfl,k2 _ _ zaa⟩
            . rw[hnc];exact ho.snoc hbf
            . refine⟨by rw[An,A9];lia,λc hc=>?_⟩;rcases AH.mp hc with z |z
              . exact hbox c z
              . rw[Am.mp z,hnc];exact⟨by show dx<=dx+(j:Int);lia,by show dx+(j:Int)<dx+(W:Int);lia,by show dy<=dy+(i:Int);lia⟩
            . intro c hc;rcases AH.mp hc with z |z
              . rcases hbf c z with y |⟨y1,y2⟩
                . exact .inl y
                . exact .inr ⟨y1,by lia⟩
              . rw[Am.mp z,hnc];exact .inr ⟨rfl,by show dx+(j:Int)<dx+((j+1:Nat):Int);lia⟩
          . refine⟨_,cs,vs,rfl,b7.trans b8,p8.le (by lia),q8,hv.mono λx v hx=>hx.kt kt8,ho,⟨by lia,hbox⟩,λc hc=>?_⟩;rcases hbf c hc with y |⟨y1,y2⟩
            . exact .inl y
            . exact .inr ⟨y1,by lia⟩
        . rintro σ H7 ⟨o9,cs,vs,rfl,b7,p7,q7,hv,ho,⟨hl,hbox⟩,hbf⟩;refine⟨_,_,cs,vs,rfl,b7,?_,q7,hv,ho,⟨by rw[Nat.mul_succ];exact hl,hbox⟩,λc hc=>?_⟩
          . rw[Nat.mul_succ];exact p7
          . rcases hbf c hc with y |⟨y1,y2⟩
            . exact .inl (by lia)
            . exact .inl (by lia)
      . rintro σ H6 ⟨o8,o9,cs,vs,rfl,b6,p6,q6,hv,ho,⟨hl,hbox⟩,hbf⟩
        have hcell:∀c∈cs,dx<=c.1/\c.1<dx+W/\dy<=c.2/\c.2<dy+G:=λc hc=>by
          obtain⟨x1,x2,x3⟩:=hbox c hc;refine⟨x1,x2,x3,?_⟩;rcases hbf c hc with y |⟨y1,y2⟩
          . exact y
          . lia
        refine⟨_,rfl,k q cs H6 hq0 b6 (p6.le (by lia)) ⟨_,q6,hv⟩ ho ⟨dx,dy,W,G,hWG,hcell⟩ (by lia) λc hc=>?_⟩;obtain⟨x1,x2,x3,x4⟩:=hcell c hc;have hW2:W<=200:=by lia
        have hG2:G<=200:=by lia
        unfold CellB;lia
theorem Boxed.sub{m:Nat}{cs ds:List Cell}(h:Boxed m cs)(s:∀c∈ds,c∈cs):Boxed m ds:=let ⟨x,y,w,hh,h1,h2⟩:=h;⟨x,y,w,hh,h1,λc hc=>h2 c (s c hc)⟩
theorem Boxed.le{m n:Nat}{cs:List Cell}(h:Boxed m cs)(l:m<=n):Boxed n cs:=let ⟨x,y,w,hh,h1,h2⟩:=h;⟨x,y,w,hh,Bb h1 l,h2⟩
theorem Boxed.m{m:Nat}{cs:List Cell}(h:Boxed m cs):Boxed m (cs.map mC):=by obtain⟨x,y,w,hh,h1,h2⟩:=h;refine⟨1-x-w,y,w,hh,h1,λc hc=>?_⟩;obtain⟨a,ha,rfl⟩:=Aq.mp hc;have:=h2 a ha;show 1-x-(w:Int)<=-a.1/\-a.1<1-x-(w:Int)+w/\y<=a.2/\a.2<y+hh;lia
theorem Boxed.q{m:Nat}{cs:List Cell}(h:Boxed m cs):Boxed m (cs.map qC):=by obtain⟨x,y,w,hh,h1,h2⟩:=h;refine⟨1-y-hh,x,hh,w,by rw[Nat.mul_comm];exact h1,λc hc=>?_⟩;obtain⟨a,ha,rfl⟩:=Aq.mp hc;have:=h2 a ha;show 1-y-(hh:Int)<=-a.2/\-a.2<1-y-(hh:Int)+hh/\x<=a.1/\a.1<x+w;lia
theorem Boxed.qn{m:Nat}{cs:List Cell}(h:Boxed m cs):∀k,Boxed m (cs.map (qCn k))
 | 0=>h.sub λc hc=>by obtain⟨a,ha,rfl⟩:=Aq.mp hc;exact ha
 |k+1=>(h.qn k).q.sub λc hc=>by
  obtain⟨a,ha,rfl⟩:=Aq.mp hc;exact Aq.mpr ⟨_,Aq.mpr ⟨a,ha,rfl⟩,rfl⟩
theorem Boxed.brt{m:Nat}{cs:List Cell}(h:Boxed m cs)(q:Bool×Int):Boxed m (brt q cs):=by
 unfold RR.brt;refine Boxed.qn ?_ _;split
 .exact h.m
 .exact h
theorem Boxed.mv{m:Nat}{cs:List Cell}(h:Boxed m cs)(d:Cell):Boxed m (cs.map (mvC d)):=by obtain⟨x,y,w,hh,h1,h2⟩:=h;refine⟨x+d.1,y+d.2,w,hh,h1,λc hc=>?_⟩;obtain⟨a,ha,rfl⟩:=Aq.mp hc;have:=h2 a ha;show x+d.1<=a.1+d.1/\a.1+d.1<x+d.1+w/\y+d.2<=a.2+d.2/\a.2+d.2<y+d.2+hh;lia
theorem Boxed.within{m:Nat}{cs:List Cell}{b:Edge}{es:List Edge}(h:Boxed m cs)(hc:Closed (isIn cs) b es){L:List Cell}(nd:L.Nodup)(hL:∀c∈L,wd es c≠0):L.length<=m:=by
 obtain⟨x,y,w,hh,h1,h2⟩:=h;refine Bb ?_ h1
 have bx:∀c∈L,x<=c.1/\c.1<x+w/\y<=c.2/\c.2<y+hh:=λc hc'=>by
  obtain⟨e,he,f,hf,r1,r2,l1,l2,v1,v2⟩:=zjV hc (hL c hc');have be:=h2 e.c (of_decide_eq_true (hc.1.2.2.1 e he).2.1);have bf:=h2 f.c (of_decide_eq_true (hc.1.2.2.1 f hf).2.1);have pe:e.c.1<=px e:=by unfold px;split <;> lia
  have pf:px f<=f.c.1+1:=by unfold px;split <;> lia
  lia
 rw[<- zic w hh,<- Ai (as:=L) (f:=λc:Cell=>((c.1-x).toNat,(c.2-y).toNat))];refine zaB ?_ λp hp=>?_
 .unfold List.Nodup;rw[Bv];refine Dm ?_ nd;intro a b ha hb hab e;have ba:=bx a ha;have bb:=bx b hb;injection e with e1 e2;exact hab (Bj (by lia) (by lia))
 .obtain⟨c,hc',rfl⟩:=Aq.mp hp;have:=bx c hc';exact zlY.mpr ⟨by show (c.1-x).toNat<w;lia,by show (c.2-y).toNat<hh;lia⟩
theorem Shift.le{B es:List Cell}{d d':Cell}(hne:es≠[])(f:Cell->Int)(hf:∀d c,f (mvC d c)=f c+f d)(h:Shift B es d)(k:Shift B es d'):f d'<=f d:=by
 rcases h with⟨_,z,_⟩ |⟨_,h⟩
 .exact absurd z hne
 rcases k with⟨_,z,_⟩ |⟨_,k⟩
 .exact absurd z hne
 have hB:B≠[]:=λz=>by
  cases es with
  |nil=>exact hne rfl
  |cons c l =>
   have:=h c;rw[z]at this;simp[isIn]at this
 obtain⟨u,hu,hm⟩:=zdP f hB;have h1:isIn es (mvC d u)=true:=by rw[h];exact decide_eq_true (Aq.mpr ⟨u,hu,rfl⟩)
 rw[k]at h1;obtain⟨v,hv,e⟩:=Aq.mp (of_decide_eq_true h1);have h2:=congrArg f e;rw[hf,hf]at h2;have:=hm v hv;lia
theorem Shift.one{B es:List Cell}{d d':Cell}(hne:es≠[])(h:Shift B es d)(k:Shift B es d'):d=d':=by have a:=h.le hne (λc=>c.1) (λ_ _=>rfl) k;have b:=k.le hne (λc=>c.1) (λ_ _=>rfl) h;have c:=h.le hne (λc=>c.2) (λ_ _=>rfl) k;have e:=k.le hne (λc=>c.2) (λ_ _=>rfl) h;exact Bj (by lia) (by lia)
theorem First.one{cs ds:List Cell}{i j:Nat}{q q':Bool×Int}{d d':Cell}(hne:ds≠[])(h:First cs ds i q d)(k:First cs ds j q' d'):q=q'/\d=d':=by
 obtain⟨h1,h2,h3⟩:=h;obtain⟨k1,k2,k3⟩:=k
 have e:i=j:=by
  rcases Nat.lt_trichotomy i j with z |z |z
  .exact absurd h2 (k3 i q z h1 d)
  .exact z
  .exact absurd k2 (h3 j q' z k1 d')
 subst e;rw[h1]at k1
 cases k1
 exact⟨rfl,h2.one hne k2⟩
theorem zjW{C D:Cell->Bool}{M N:List Cell}(h:∀q d,Shift (brt q M) N d ↔ D=mvP d (pb q C)):(∀i q d,zhF C D i q d ↔ First M N i q d)/\(zfC C D ↔ NoWay M N):=by
 constructor
 .intro i q d;unfold zhF First;simp only[h,ne_eq]
 .unfold zfC NoWay;simp only[h,ne_eq]
noncomputable def Lc(H:Hp)(a:Addr)(cs:List Cell):Prop:=∃vs,H a=some (.lst vs)/\VR vs cs cR H
noncomputable def zmq(K:W.Frag):Sp:=λvs H Q _=>∃(p:Addr) (n m:Nat),vs=[.ref p,.int m]/\HasB H p (n+(60+2*m))/\2<=m/\m<=30 /\
 ∀(t a b:Addr) (cs ds:List Cell) (H':Hp),But H H' p->H a=none->H b=none->H' t=some (.tup [.ref a,.ref b])->Lc H' a cs->Lc H' b ds->InOrd cs->InOrd ds->cs.length<=60->ds.length<=60->Boxed 60 cs->Boxed 60 ds->Q (.ref t) H'
theorem zh1 (g__law_take:Tk P w K mg base) (g__law_picture:Fn P w K mg base 3 "_law_picture" ["_law_pen", "_law_most"] (zgM K)) (g__law_brought:Fn P w K mg base 4 "_law_brought" ["_law_cells", "_law_flipped", "_law_quarters"] (zee K))
  (d:Df K mg "_law_pair" zcm ["_law_pen","_law_most"]):FnOk P w K mg base CX0 5 d.f d.fd ["_law_pen","_law_most"] (zmq K):=by
 refine d.F.ok zbT (λvs H Q E h=>?_) (λcdv A outer s H vs Q E hr h=>?_)
 .obtain⟨p,n,m,rfl,_⟩:=h;rfl
 .obtain⟨p,n,m,rfl,hp,hm1,hm,k⟩:=h;have nb0:(["_law_x","_law_y","_law_far_here"]:List Str).Nodup:=by decide +kernel
  refine⟨_,(zac (sE 2 zbT.nd (pC g__law_picture hr (pa_N (pv 0) (pa_N (pv 1) zab))))
   (zac (ps_if (zas op_eq (pC g__law_take hr (pa_N (pv 0) (pa_C zae zab))) zae (zaq _))
   (zaf (zai (zap (pa_N (pv 2) (zah (pC g__law_picture hr (pa_N (pv 0) (pa_N (pv 1) zab))) zab)))))
   zat)
   (zac (sE 3 zbT.nd (pC g__law_brought hr (pa_N (pv 2) (zah (zbf op_eq (pC g__law_take hr (pa_N (pv 0) (pa_C zae zab))) zae (zaq _)) (zah (pC g__law_take hr (pa_N (pv 0) (pa_C zae zab))) zab)))))
   (zac (zft (i:=4) zbT.nd (by rfl) (Or.inr rfl) (zap (pa_B (pe_op zaP (pC g__law_take hr (pa_N (pv 0) (pa_C zae zab))) zae) (pa_B (pe_op zaP (pC g__law_take hr (pa_N (pv 0) (pa_C zae zab))) zae) zab))))
   (zaf (zai (zap (pa_N (pv 2) (zah (zaN (osc:=zad zcm) (N:=zeP) (N':=["_law_x","_law_y","_law_far_here"]) (sel:=[none,none,some 4]) bO (zay (pv 3)) (λ_ _ _ _ _=>(zbp (K:=K) (n:=2) (by rfl) (zag (nG 0 nb0) (zag (nG 1 nb0) zao)))) (λ_ _ _ _ _=>zaU) (λ_ _ _ _ _=>(zap (pa_B (pe_op zax (pv 0) (pe_ix (zc5 (K:=K)) (pv 2) zae (λ_ _=>rfl))) (pa_B (pe_op zax (pv 1) (pe_ix (zc5 (K:=K)) (pv 2) zae (λ_ _=>rfl))) zab))))) zab))))))))),?_⟩
  refine⟨_,rfl,_,rfl,p,n+(40+m),m,rfl,hp.le (by lia),by lia,by lia,λap cs H1 hap b1 p1 hL1 hord1 hbx1 hl1 _=>?_⟩;obtain⟨us,ea,hva⟩:=hL1
  have happ:ap≠p:=λz=>by obtain⟨c0,t0,e0,_⟩:=hp;subst z;rw[e0]at hap;cases hap
  refine⟨_,rfl,p,n+(39+m),2,rfl,p1.le (by lia),by decide,zaG (by decide) (by decide),λr H2 _ _ b2 p2=>⟨rfl,_,rfl,?_⟩⟩;have e2:=b2 _ _ happ ea;have hva2:=hva.mono λx v h=>h.kt (b2.kt p1)
  have b12:=b1.trans b2;refine ite2 (λ_=>?_) (λ_=>?_)
  .refine⟨_,rfl,_,rfl,_,rfl,p,n,m,rfl,p2.le (by lia),by lia,by lia,λbp ds H3 hbp b3 p3 hL3 hord3 hbx3 hl3 _=>⟨two,λt ht=>?_⟩⟩;obtain⟨ws,eb,hvb⟩:=hL3;have s4:=Same.up (o:=.tup [.ref ap,.ref bp]) ht;refine k t ap bp cs ds _ ((b12.trans b3).trans (But.of s4)) hap (b12.free hp hbp (p2.le (by lia))) zaa ⟨us,s4 _ _ (b3 _ _ happ e2),hva2.mono λx v h=>h.kt ((b3.kt p2).trans (KT.of s4))⟩ ⟨ws,s4 _ _ eb,hvb.mono λx v h=>h.kt (KT.of s4)⟩ hord1 hord3 (by lia) (by lia) (hbx1.le (by lia)) (hbx3.le (by lia))
  .refine⟨_,rfl,_,rfl,p,n+20,2,rfl,p2.le (by lia),by decide,zaG (by decide) (by decide),λr3 H3 _ _ b3 p3=>⟨rfl,?_⟩⟩;refine⟨_,rfl,p,n+19,4,rfl,p3.le (by lia),by decide,zaG (by decide) (by decide),λr4 H4 _ _ b4 p4=>?_⟩;have e4:=b4 _ _ happ (b3 _ _ happ e2);have hva4:=hva2.mono λx v h=>h.kt ((b3.kt p2).trans (b4.kt p3))
   have b14:=b12.trans (b3.trans b4);refine⟨ap,_,r4,cs,rfl,LR.of e4 hva4,hord1,by lia,λop H5 os hop s5 hL5 hord5 hl5 hin5=>?_⟩;obtain⟨ws,eo,hvo⟩:=hL5;have b15:=b14.trans (But.of s5);have p5:=p4.same s5;have hop0:=b14.free hp hop (p4.le (by lia))
   have hopp:op≠p:=λz=>by obtain⟨c0,t0,e0,_⟩:=hp;subst z;rw[e0]at hop0;cases hop0
   refine⟨_,rfl,p,n+18,401,rfl,p5.le (by lia),by decide,zaG (by decide) (by decide),λr6 H6 _ _ b6 p6=>⟨_,_,rfl,rfl,?_⟩⟩;refine⟨_,rfl,p,n+17,401,rfl,p6.le (by lia),by decide,zaG (by decide) (by decide),λr7 H7 _ _ b7 p7=>⟨_,_,rfl,rfl,two,λf hf=>?_⟩⟩;have s8:=Same.up (o:=.tup [.int (r6-200),.int (r7-200)]) hf;have f8:upd H7 f (.tup [.int (r6-200),.int (r7-200)]) f=some (.tup [.int (r6-200),.int (r7-200)]):=zaa;change (λσ H=>_) _ _;generalize upd H7 f (.tup [.int (r6-200),.int (r7-200)])=H8 at s8 f8;have kt8:KT H5 H8:=(b6.kt p5).trans ((b7.kt p6).trans (KT.of s8));have b18:=b15.trans ((b6.trans b7).trans (But.of s8));have p8:=p7.same s8;have eo8:=s8 _ _ (b7 _ _ hopp (b6 _ _ hopp eo));have hvo8:=hvo.mono λx v h=>h.kt kt8
   have ea8:=s8 _ _ (b7 _ _ happ (b6 _ _ happ (s5 _ _ e4)));have hva8:=hva4.mono λx v h=>h.kt ((KT.of s5).trans kt8)
   refine⟨_,rfl,_,rfl,op,rfl,⟨_,SqL.of eo8⟩,λg hg=>?_⟩
   refine zar (K:=K) (a:=op) (xs:=ws) (λm σ H9=>∃o0 o1,σ=[o0,o1,some (.ref f)]/\Same H8 H9/\∃zs,H9 g=some (.lst zs)/\VR zs ((os.take m).map (mvC (r6-200,r7-200))) cR H9)
    ⟨_,_,rfl,Same.up hg,[],zaa,VR.nil⟩ (λm σ H9 _ ⟨_,_,_,s9,_⟩=>SqL.of (s9 _ _ eo8)) ?_ ?_
   .rintro j x σ H9 hj ⟨o0,o1,rfl,s9,zs,e9,hv9⟩;obtain⟨c,hc,B,rfl,qc⟩:=hvo8.at hj;have hzl:zs.length<=60:=by rw[hv9.1,Ai,AB];lia
    refine⟨B,_,rfl,SqT.of (s9 _ _ qc),rfl,_,_,rfl,_,_,rfl,rfl,?_⟩;refine zbu ?_
    refine⟨_,rfl,_,rfl,f,_,_,_,rfl,rfl,SqT.of (s9 _ _ f8),zak (j:=0) rfl,_,_,rfl,rfl,_,rfl,_,rfl,f,_,_,_,rfl,rfl,SqT.of (s9 _ _ f8),zak (j:=1) rfl,_,_,rfl,rfl,two,λt ht=>?_⟩;have s10:=Same.up (o:=.tup [.int (c.1+(r6-200)),.int (c.2+(r7-200))]) ht;have r10:cR (mvC (r6-200,r7-200) c) (.ref t) (upd H9 t (.tup [.int (c.1+(r6-200)),.int (c.2+(r7-200))])):=⟨t,rfl,zaa⟩;generalize upd H9 t (.tup [.int (c.1+(r6-200)),.int (c.2+(r7-200))])=H10 at s10 r10;have e10:=s10 _ _ e9;refine⟨zs,e10,zal (by lia),_,_,rfl,zam hg (s9.trans s10),_,zaa,?_⟩;rw[zau hc,AN];exact hv9.snoc (λx v h=>(h.kt (KT.of s10)).kt (KT.lst e10)) (r10.kt (KT.lst e10))
   .rintro σ H9 ⟨o0,o1,rfl,s9,zs,e9,hv9⟩;rw[hvo8.1,AG]at hv9;have b19:=b18.trans (But.of s9)
    have hbo:Boxed m (os.map (mvC (r6-200,r7-200))):=((hbx1.brt _).sub λc hc=>by have:=hin5 c;rw[show isIn os c=true from decide_eq_true hc]at this;exact of_decide_eq_true this.symm).mv _
    refine⟨two,λt ht=>?_⟩;have s11:=Same.up (o:=.tup [.ref ap,.ref g]) ht;exact k t ap g cs _ _ (b19.trans (But.of s11)) hap (b18.free hp hg (p8.le (by lia))) zaa ⟨us,s11 _ _ (s9 _ _ ea8),hva8.mono λx v h=>h.kt ((KT.of s9).trans (KT.of s11))⟩ ⟨zs,s11 _ _ e9,hv9.mono λx v h=>h.kt (KT.of s11)⟩ hord1 (zjo _ hord5) (by lia) (by rw[Ai];lia) (hbx1.le (by lia)) (hbo.le (by lia))
theorem zju{K:W.Frag}{R:List Cell}{ws:List V}{H2:Hp}(hw:VR ws R cR H2)(nd:R.Nodup) :
  ∃ κV:Nat->List V,∃ κ:Nat->List Int,(∀i x H3,ws[i]?=some x->Same H2 H3->zcV K [x] H3 (λv H'=>Same H3 H'/\∃a,v=.ref a/\SqT K H' a (κV i)) E0) /\
   (∀i j,i<ws.length->j<ws.length->∃n m r q rn rm,κV i=.int n::r/\κV j=.int m::q/\VCols r q rn rm/\κ i=n::rn/\κ j=m::rm)/\∀(p:List Nat) D H',p.Perm (Ba ws.length)->p.Pairwise (λi j=>HT.lexLt (κ j) (κ i)=false)->Same H2 H'->H' D=some (.lst (p.map λi=>ws.getD i .non))->∃zs R',H' D=some (.lst zs)/\VR zs R' cR H'/\R'.Perm R/\InOrd R':=by
 have ge:∀(i:Nat) r,R[i]?=some r->R.getD i (0,0)=r:=λi r h=>by simp only[AI,h,Option.getD_some]
 refine⟨λi=>[.int (R.getD i (0,0)).2,.int (R.getD i (0,0)).1],λi=>rank (R.getD i (0,0)),λi x H7 hx s7=>?_,
  λi j hi hj=>⟨_,_,_,_,_,_,rfl,rfl,.cons (.int _ _) .nil,rfl,rfl⟩,λpp D H7 hpm hpo s7 f7=>?_⟩
 .obtain⟨r,hr',c,rfl,hx'⟩:=hw.at hx;refine⟨c,r.1,r.2,[],rfl,SqT.of (s7 _ _ hx'),λp8 H8 hp8 s8 f8=>⟨s8,p8,rfl,SqT.of ?_⟩⟩;show H8 p8=some (HO.tup [.int (R.getD i (0,0)).2,.int (R.getD i (0,0)).1]);rw[ge i r hr'];exact f8
 .have hlt:∀i ∈ pp, i < R.length := λi hi => by have:=Bx.mp (hpm.mem_iff.mp hi);rw[hw.1]at this;exact this
  have hRR:(pp.map λi=>R.getD i (0,0)).Perm R:=by
   have h1:=hpm.map λi=>R.getD i ((0,0):Cell)
   rw[hw.1]at h1
   have h2:((Ba R.length).map λi=>R.getD i ((0,0):Cell))=R:=by
    apply List.ext_getElem
    .simp
    .intro i a b;simp[show i<R.length by simpa using a]
   rw[h2]at h1;exact h1
  have vR:VR (pp.map λi=>ws.getD i V.non) (pp.map λi=>R.getD i (0,0)) cR H7:=by
   refine⟨by simp,λi r v h1 h2=>?_⟩;rw[Ak]at h1 h2;obtain⟨a,ha,rfl⟩:=AA.mp h1;rw[ha]at h2
   cases h2
   have hal:=hlt a (Af ha);have hal2:a<ws.length:=by rw[hw.1];exact hal
   have e1:R.getD a (0,0)=R[a]:=by simp[hal]
   have e2:ws.getD a V.non=ws[a]:=by simp[hal2]
   rw[e1];show cR R[a] (ws.getD a V.non) H7;rw[e2];exact (hw.2 a _ _ (Aa hal) (Aa hal2)).kt (KT.of s7)
  refine⟨_,_,f7,vR,hRR,InOrd.of ?_ (hRR.nodup_iff.mpr nd)⟩;rw[Bv];exact hpo
noncomputable def lotR(f:Addr)(s:Rnd×List Cell)(v:V)(H:Hp):Prop:=∃t u l us,v=.ref t/\H t=some (.tup [u,.ref l])/\rR s.1 u H/\H l=some (.lst us)/\VR us s.2 cR H/\l≠f
structure LotOk (cs:List Cell) (s:Rnd×List Cell):Prop where
 ord:InOrd s.2
 le:s.2.length<=60
 ne:s.2≠[]
 ex:∃es,Can (isIn cs) es s.1/\es.length<=480/\∀c,c∈s.2 ↔ wd es c≠0
theorem lotR.up{f:Addr}{s:Rnd×List Cell}{v:V}{H H':Hp}{xs:List V}(h:lotR f s v H)(b:∀z o,z≠f->H z=some o->H' z=some o)(hf:H f=some (.lst xs)):lotR f s v H':=by
 have kt:KT H H':=λz ys e=>b z _ (ne_of e hf (λq=>nomatch q)) e
 obtain⟨t,u,l,us,rfl,h1,h2,h3,h4,h5⟩:=h;exact⟨t,u,l,us,rfl,kt _ _ h1,rR.kt h2 kt,b _ _ h5 h3,h4.mono λx v h=>h.kt kt,h5⟩
theorem lotR.same{f:Addr}{s:Rnd×List Cell}{v:V}{H H':Hp}(h:lotR f s v H)(b:Same H H'):lotR f s v H':=by obtain⟨t,u,l,us,rfl,h1,h2,h3,h4,h5⟩:=h;exact⟨t,u,l,us,rfl,b _ _ h1,rR.kt h2 (KT.of b),b _ _ h3,h4.mono λx v h=>h.kt (KT.of b),h5⟩
noncomputable def zmr(K:W.Frag):Sp:=λvs H Q _=>∃(a:Addr) (cs:List Cell),vs=[.ref a]/\Lc H a cs/\InOrd cs/\cs.length<=60/\Boxed 60 cs /\
 ∀p H' ts S,H p=none->Same H H'->H' p=some (.lst ts)->VR ts S (lotR p) H'->S.length<=60->(∀s∈S,LotOk cs s)->Q (.ref p) H'
theorem zh2 (T:Txt P w K mg) (g_rounds:Fn P w K mg base 7 "rounds" ["picture"] (ziD K)) (g__law_dict:Fn P w K mg base 1 "_law_dict" ["_law_cells"] (zmt K)) (g__law_within:Fn P w K mg base 2 "_law_within" ["_law_there", "_law_sort", "_law_x", "_law_y"] (ziE K))
  (g__law_rank:Fn P w K mg base 1 "_law_rank" ["_law_cell"] (zcV K)) (d:Df K mg "_law_lots" zc1 ["_law_picture_here"]):FnOk P w K mg base CX0 8 d.f d.fd ["_law_picture_here"] (zmr K):=by
 refine d.F.ok zbU (λvs H Q E h=>?_) (λcdv A outer s H vs Q E hr h=>?_)
 .obtain⟨a,cs,rfl,_⟩:=h;rfl
 .obtain⟨a,cs,rfl,⟨us,ha,hv⟩,hord,hlen,hbox,k⟩:=h
  refine⟨_,(zac (sE 1 zbU.nd (pC g__law_dict hr (pa_N (pv 0) zab)))
   (zac (sE 2 zbU.nd (zba zab))
   (zac (za4 AO rfl (zay (pC g_rounds hr (zah (zb9 zhr (by rfl) T.nlist (by rfl) (pa_N (pv 0) zab)) zab))) (nG 3 zbU.nd)
   (zaf (zbN (pe_bm A0 Be Bg zbb (pv 2) (pa_T (zap (pa_N (pv 3) (zah (zd2 g__law_rank.ok (hr.mono (by decide)) g__law_rank.b (by rfl) T.nsorted (by rfl) g__law_rank.m (pC g__law_within hr (pa_N (pv 1) (zah (pe_ix zaT (pv 3) zae (λ_ _=>rfl)) (zah (pe_ix zaT (pv 3) zae (λ_ _=>rfl)) (zah (pe_ix zaT (pv 3) zae (λ_ _=>rfl)) zab)))))) zab))) zab)))))
   (zaf (zai (pv 2)))))),?_⟩
  refine⟨_,rfl,a,cs,rfl,LR.of ha hv,hord.nodup,by lia,λtd H1 htd s1 e1=>?_⟩;refine⟨A5 _,λf hf=>?_⟩;have s2:=Same.up (o:=.lst []) hf;have f2:upd H1 f (.lst []) f=some (.lst []):=zaa;change (λσ H=>_) _ _;generalize upd H1 f (.lst [])=H2 at s2 f2;have s12:=s1.trans s2;have hf0:H f=none:=s1.free hf;refine⟨_,rfl,a,us,rfl,.inl (SqL.of (s12 _ _ ha)),λl3 hl3=>?_⟩;have s3:=Same.up (o:=.lst us) hl3;have e3:upd H2 l3 (.lst us) l3=some (.lst us):=zaa;change (λσ H=>_) _ _;generalize upd H2 l3 (.lst us)=H3 at s3 e3;refine⟨l3,cs,rfl,LR.of e3 (hv.mono λx v h=>h.kt (KT.of (s12.trans s3))),hord,hlen,λpr H4 rv R R0 hpr s4 e4 hvr hpm _ hwh=>?_⟩;have s24:=s3.trans s4;obtain⟨lR0,_,ESS,hcans,hES⟩:=hwh.pack hpm hlen;have td4:=(s2.trans s24) _ _ e1;have f4:=s24 _ _ f2;refine⟨pr,rfl,⟨_,SqL.of e4⟩,?_⟩;have hprf:pr≠f:=λz=>by rw[z,s3 _ _ f2]at hpr;cases hpr
  refine zar (K:=K) (a:=pr) (xs:=rv) (λj σ H6=>∃o3,σ=[some (.ref a),some (.ref td),some (.ref f),o3]/\(∀z o,z≠f->H4 z=some o->H6 z=some o)/\∃ts S,H6 f=some (.lst ts)/\VR ts S (lotR f) H6/\S.length=j/\∀s∈S,LotOk cs s)
   ⟨_,rfl,(λz o _ h=>h),[],[],f4,VR.nil,rfl,λ_ z=>by cases z⟩ (λj σ H6 _ ⟨_,_,b6,_⟩=>SqL.of (b6 _ _ hprf e4)) ?_ ?_
  .rintro j v σ H6 hj ⟨o3,rfl,b6,ts,S,f6,hS,hSl,hok⟩;obtain⟨r,hr',x,b,rfl,q1,q2⟩:=hvr.at hj;have hjl:j<rv.length:=(Ac.mp hj).1;have hjR:j<60:=by have:=hvr.1;lia
   obtain⟨es,hes,hcan⟩:=hcans.so hr';have hel:=hES es (Af hes);have x6:=b6 _ _ (ne_of q1 f4 (λq=>nomatch q)) q1;have b6':=b6 _ _ (ne_of q2 f4 (λq=>nomatch q)) q2;have t6:=b6 _ _ (ne_of td4 f4 (λq=>nomatch q)) td4;simp only[zaQ,AY,AZ];refine⟨_,rfl,.inl ⟨rfl,_,SqL.of f6⟩,_,rfl,_,rfl,_,rfl,x,_,_,_,rfl,rfl,SqT.of x6,zak (j:=0) rfl,_,rfl,x,_,_,_,rfl,rfl,SqT.of x6,zak (j:=1) rfl,_,rfl,x,_,_,_,rfl,rfl,SqT.of x6,zak (j:=2) rfl,?_⟩;refine⟨td,r,cs,es,rfl,.inl t6,hcan,by lia,hbox.le (by decide),λlw H7 us7 L s7 e7 v7 ndL _ hL=>?_⟩;have hLl:L.length<=60:=hbox.within hcan.cl ndL λc hc=>(hL c).mp hc
   obtain⟨κV,κ,k1,k2,k3⟩:=zju (K:=K) v7 ndL;refine⟨lw,us7,κV,κ,rfl,SqL.of e7,by rw[v7.1];lia,k1,k2,λpp D H8 hp1 hp2 hD s8 e8'=>?_⟩;obtain⟨zs,L',e8,v8,pm8,ord8⟩:=k3 pp D H8 hp1 hp2 s8 e8';refine⟨two,λt ht=>?_⟩;have s9:=Same.up (o:=.tup [.ref x,.ref D]) ht;have e9:upd H8 t (.tup [.ref x,.ref D]) t=some (.tup [.ref x,.ref D]):=zaa;generalize upd H8 t (.tup [.ref x,.ref D])=H9 at s9 e9;have s69:=s7.trans (s8.trans s9);have f9:=s69 _ _ f6;have hDf:D≠f:=λz=>by rw[z,s7 _ _ f6]at hD;cases hD
   have tl:ts.length<=60:=by rw[hS.1];lia
   refine⟨f,_,_,rfl,rfl,f9,zal (by lia),?_⟩;have kf:KT H9 (upd H9 f (.lst (ts++[.ref t]))):=KT.lst f9;have bf:∀z o,z≠f->H9 z=some o->upd H9 f (.lst (ts++[.ref t])) z=some o:=λz o z1 h=>by rw[zaj z1];exact h
   have ok:LotOk cs (r,L'):=⟨ord8,by rw[pm8.length_eq];exact hLl,?_,es,hcan,hel,λc=>by rw[pm8.mem_iff];exact hL c⟩
   .refine⟨_,rfl,λz o z1 h=>bf z o z1 (s69 _ _ (b6 z o z1 h)),ts++[.ref t],S++[(r,L')],zaa,?_,by rw[An,hSl];rfl,λs hs=>?_⟩
    .refine hS.snoc (λs v h=>(h.same s69).up bf f9) ⟨t,.ref x,D,zs,rfl,kf _ _ e9,?_,?_,?_,hDf⟩
     .exact⟨x,b,rfl,kf _ _ (s69 _ _ x6),kf _ _ (s69 _ _ b6')⟩
     .exact bf _ _ hDf (s9 _ _ e8)
     .exact v8.mono λx v h=>(h.kt (KT.of s9)).kt kf
    .rcases AH.mp hs with z |z
     .exact hok s z
     .rw[Am.mp z];exact ok
   .intro z;have z:L'=[]:=z
    have hLn:L=[]:=by have:=pm8.length_eq;rw[z]at this;exact List.eq_nil_of_length_eq_zero this.symm
    have he:begE r∈es:=Af hcan.cl.1.1;have k1:=zbQ hcan.cl (hcan.cl.1.2.2.1 _ he);have i1:ind es (begE r)=1:=by unfold ind;rw[if_pos he]
    have n1:wd es (begE r).c=0:=BE λq=>by have:=(hL _).mpr q;rw[hLn]at this;cases this
    have n2:wd es (gap (begE r))=0:=BE λq=>by have:=(hL _).mpr q;rw[hLn]at this;cases this
    lia
  .rintro σ H6 ⟨o3,rfl,b6,ts,S,f6,hS,hSl,hok⟩;refine⟨_,rfl,k f H6 ts S hf0 (λz o h=>b6 z o (zan h hf0) ((s12.trans s24) _ _ h)) f6 hS (by have:=hvr.1;lia) hok⟩
theorem zng{cs ds:List Cell}{s1 s2:Rnd × List Cell}(h:LotOk cs s1)(k:LotOk ds s2):∃C D es fs, One C es s1.1 /\ One D fs s2.1 /\ es.length <= 480 /\ fs.length <= 480 /\
  (s1.1.so=s2.1.so->(∀i q d,zhF C D i q d ↔ First s1.2 s2.2 i q d)/\(zfC C D ↔ NoWay s1.2 s2.2))/\(s1.1.so≠s2.1.so->zfC C D):=by
 obtain⟨es,h1,h2,h3⟩:=h.ex;obtain⟨fs,k1,k2,k3⟩:=k.ex;refine⟨_,_,es,fs,h1.alone',k1.alone',h2,k2,λso=>?_,λso=>?_⟩
 .refine zjW λq d=>?_
  rcases h1.sum with⟨z,_⟩ |⟨z,_⟩
  .rw[CD.rim h1 h3 z,CD.rim k1 k3 (so ▸ z)];exact zgR k.ne
  .rw[CD.hole h3 z,CD.hole k3 (so ▸ z)];exact zjx k.ne
 .intro j q _ d;rcases h1.sum with⟨z,_⟩ |⟨z,_⟩ <;> rcases k1.sum with⟨y,_⟩ |⟨y,_⟩
  .exact absurd (z.trans y.symm) so
  .rw[CD.rim h1 h3 z,CD.hole k3 y];exact ziT.2
  .rw[CD.hole h3 z,CD.rim k1 k3 y];exact ziT.1
  .exact absurd (z.trans y.symm) so
noncomputable def lotW(s:Rnd×List Cell)(v:V)(H:Hp):Prop:=∃t u l us,v=.ref t/\H t=some (.tup [u,.ref l])/\rR s.1 u H/\H l=some (.lst us)/\VR us s.2 cR H
theorem lotR.tW{f:Addr}{s:Rnd×List Cell}{v:V}{H:Hp}(h:lotR f s v H):lotW s v H:=let ⟨t,u,l,us,a,b,c,d,e,_⟩:=h;⟨t,u,l,us,a,b,c,d,e⟩
theorem lotW.same{s:Rnd×List Cell}{v:V}{H H':Hp}(h:lotW s v H)(b:Same H H'):lotW s v H':=by obtain⟨t,u,l,us,rfl,h1,h2,h3,h4⟩:=h;exact⟨t,u,l,us,rfl,b _ _ h1,rR.kt h2 (KT.of b),b _ _ h3,h4.mono λx v h=>h.kt (KT.of b)⟩
theorem VR.app'{α:Type}{vs:List V}{v:V}{l:List α}{x:α}{R:α->V->Hp->Prop}{H:Hp}(h:VR vs l R H)(k:R x v H):VR (vs++[v]) (l++[x]) R H:=h.snoc (λ_ _ h=>h) k
theorem zhQ{H0 H H':Hp}{p:Addr}(s:Same H0 H)(b:But H H' p)(hp:H0 p=none):Same H0 H':=λz o h=>b z o (zan h hp) (s z o h)
noncomputable def spLaw(K:W.Frag):Sp:=λvs H Q _=>∃(a:Addr) (ns:List Int),vs=[.ref a]/\SqL K H a (ns.map V.int)/\ns.length<=63/\∀H',Q (.bl true) H'
theorem znQ (T:Txt P w K mg) (g__law_cell_at:Fn P w K mg base 1 "_law_cell_at" ["_law_script", "_law_k"] (ziF K)) (g__law_pair:Fn P w K mg base 5 "_law_pair" ["_law_pen", "_law_most"] (zmq K)) (g__law_lots:Fn P w K mg base 8 "_law_lots" ["_law_picture_here"] (zmr K))
  (g__law_how:Fn P w K mg base 5 "_law_how" ["_law_cells","_law_others"] (spHow K)) (g__law_is_how:Fn P w K mg base 1 "_law_is_how" ["_law_found","_law_due"] (zkj K)) (g_alike:Fn P w K mg base 10 "alike" ["one","other"] (zms K))
  (d:Df K mg "law" s_law ["_law_script"]):FnOk P w K mg base CX0 11 d.f d.fd ["_law_script"] (spLaw K):=by
 refine d.F.ok zcO (λvs H Q E h=>?_) (λcdv A outer s H vs Q E hr h=>?_)
 .obtain⟨a,ns,rfl,_⟩:=h;rfl
 .obtain⟨a,ns,rfl,hS,hlen,k⟩:=h;have hu64:=hr.units
  refine⟨_,(zac (za4 AO rfl (zb8 (by rfl) T.nrange (zah (zav (zls rfl) (by rfl) T.nmax (by rfl) (pa_C zae (zah (zav (zlr rfl) (by rfl) T.nmin (by rfl) (pa_C zae (zah (zav zaF (by rfl) T.nlen (by rfl) (pa_N (pv 0) zab)) zab))) zab))) zab)) (nG 1 zcO.nd)
   (zac (zbs (pC g__law_pair hr (zah (zba (zah (pC g__law_cell_at hr (pa_N (pv 0) (pa_N (pv 1) zab))) (pa_C zae zab))) (zah (pe_ix zaA (zba (pa_C zae (pa_C zae zab))) (zb9 zht (by rfl) T.nint (by rfl) (zah (zbf op_gt (pv 1) zae (zaq _)) zab)) (λ_ _=>rfl)) zab))) (zaX (by rfl) (zag (nG 2 zcO.nd) (zag (nG 3 zcO.nd) zao))))
   (zaf (za4 AO rfl (zay (pC g__law_lots hr (pa_N (pv 2) zab))) (zaX (by rfl) (zag (nG 4 zcO.nd) (zag (nG 5 zcO.nd) zao)))
   (zaf (za4 AO rfl (zay (pe_op zg4 (pC g__law_lots hr (pa_N (pv 3) zab)) (zba (pa_T (zap (pa_N (pv 4) (pa_N (pv 5) zab))) zab)))) (zaX (by rfl) (zag (nG 6 zcO.nd) (zag (nG 7 zcO.nd) zao)))
   (zac (sE 8 zcO.nd zaY)
   (zac (ps_if (zas op_eq (pe_ix zaT (pv 4) zae (λ_ _=>rfl)) (pe_ix zaT (pv 6) zae (λ_ _=>rfl)) (zaq _))
   (zaf (sE 8 zcO.nd (pC g__law_how hr (pa_N (pv 5) (pa_N (pv 7) zab)))))
   zat)
   (zaf (ps_if (zeo (zcQ (pC g__law_is_how hr (zah (pC g_alike hr (pa_N (pv 4) (pa_N (pv 6) zab))) (pa_N (pv 8) zab)))))
   (zaf (zai pe_bl))
   zat))))))))))
   (zaf (zai pe_bl))),?_⟩
  have hσ:L2.start N_law [V.ref a]=[some (.ref a),none,none,none,none,none,none,none,none]:=rfl;rw[hσ];refine⟨_,rfl,a,_,rfl,.inl hS,_,_,rfl,_,_,rfl,_,rfl,?_,?_,?_⟩
  .split <;> lia
  .split
   .split <;> lia
   .decide
  refine zbq (lo:=0) (λi σ H5=>∃o1 o2 o3 o4 o5 o6 o7 o8,σ=[some (.ref a),o1,o2,o3,o4,o5,o6,o7,o8]/\Same H H5) ⟨_,_,_,_,_,_,_,_,rfl,Same.refl _⟩ ?_ ?_
  .rintro i σ H5 hi ⟨o1,o2,o3,o4,o5,o6,o7,o8,rfl,s5⟩;simp only[zaQ,AY,AZ];refine⟨_,rfl,_,rfl,a,ns,i,(by rw[show ((0:Int)+(i:Int))=(i:Int) by lia];rfl),s5.seq hS,λc=>⟨two,λp hp=>?_⟩⟩;have sp5:Same H5 (upd H5 p (.lst [.int c,.int 0])):=Same.up hp;have pen0:HasB (upd H5 p (.lst [.int c,.int 0])) p 1000:=⟨c,0,zaa,by decide,by decide⟩;generalize upd H5 p (.lst [.int c,.int 0])=H6 at sp5 pen0;refine⟨two,λl hl=>?_⟩;refine⟨_,rfl,_,_,rfl,rfl,.inr ⟨_,rfl,?_⟩⟩
   obtain⟨v,hv,m,rfl,hm1,hm⟩:∃v,atI [V.int 30,V.int 16] (if decide ((0:Int)<0+(i:Int))=true then 1 else 0)=some v/\∃m:Nat,v=.int m/\2<=m/\m<=30:=by
    by_cases hz:decide ((0:Int)<0+(i:Int))=true
    .rw[if_pos hz];exact⟨_,rfl,16,rfl,by decide,by decide⟩
    .rw[if_neg hz];exact⟨_,rfl,30,rfl,by decide,by decide⟩
   refine⟨l,_,_,_,rfl,rfl,SqL.of zaa,hv,p,400,m,rfl,(pen0.same (Same.up hl)).le (by lia),hm1,by lia,λt ap bp cs ds H7 b7 hap hbp ht hLa hLb orda ordb la lb bxa bxb=>?_⟩;have s7:Same H5 H7:=zhQ (sp5.trans (Same.up hl)) b7 hp;refine⟨t,_,rfl,SqT.of ht,rfl,_,_,rfl,_,_,rfl,rfl,?_⟩;simp only[zaQ,AY,AZ];refine⟨_,rfl,ap,cs,rfl,hLa,orda,la,bxa,λp8 H8 ts S hp8 s8 e8 vS lS okS=>?_⟩;have s58:=s7.trans s8;have hLb8:Lc H8 bp ds:=let ⟨us,e,v⟩:=hLb;⟨us,s8 _ _ e,v.mono λx v h=>h.kt (KT.of s8)⟩
   refine⟨p8,rfl,⟨_,SqL.of e8⟩,?_⟩;refine zar (K:=K) (a:=p8) (xs:=ts) (λj σ H9=>∃o1 o4 o5 o6 o7 o8,σ=[some (.ref a),o1,some (.ref ap),some (.ref bp),o4,o5,o6,o7,o8]/\Same H8 H9) ⟨_,_,_,_,_,_,rfl,Same.refl _⟩ (λj σ H9 _ ⟨_,_,_,_,_,_,_,s9⟩=>SqL.of (s9 _ _ e8)) ?_ ?_
   .rintro j v σ H9 hj ⟨o1,o4,o5,o6,o7,o8,rfl,s9⟩;obtain⟨s1,hs1,hl1⟩:=vS.at hj;have ok1:=okS s1 (Af hs1);obtain⟨t1,u1,l1,us1,rfl,g1,g2,g3,g4⟩:=hl1.tW.same s9;refine⟨t1,_,rfl,SqT.of g1,rfl,_,_,rfl,_,_,rfl,rfl,?_⟩;simp only[zaQ,AY,AZ];have hLb9:Lc H9 bp ds:=let ⟨us,e,v⟩:=hLb8;⟨us,s9 _ _ e,v.mono λx v h=>h.kt (KT.of s9)⟩
    refine⟨_,rfl,bp,ds,rfl,hLb9,ordb,lb,bxb,λp10 H10 ts2 S2 hp10 s10 e10 vS2 lS2 okS2=>?_⟩;refine⟨_,rfl,_,rfl,two,λt11 ht11=>?_⟩;have s11:=Same.up (o:=.tup [u1,.ref l1]) ht11;have e11:upd H10 t11 (.tup [u1,.ref l1]) t11=some (.tup [u1,.ref l1]):=zaa;generalize upd H10 t11 (.tup [u1,.ref l1])=H11 at s11 e11;refine⟨zg5,λl12 hl12=>?_⟩;have s12:=Same.up (o:=.lst [.ref t11]) hl12;have e12:upd H11 l12 (.lst [.ref t11]) l12=some (.lst [.ref t11]):=zaa;generalize upd H11 l12 (.lst [.ref t11])=H12 at s12 e12;have tsl:ts2.length<=60:=by rw[vS2.1];exact lS2
    refine⟨p10,l12,_,_,rfl,rfl,(s11.trans s12) _ _ e10,e12,BU (zal (by simp;lia)),λp13 hp13=>?_⟩;have s13:=Same.up (o:=.lst (ts2++[.ref t11])) hp13;have e13:upd H12 p13 (.lst (ts2++[.ref t11])) p13=some (.lst (ts2++[.ref t11])):=zaa;generalize upd H12 p13 (.lst (ts2++[.ref t11]))=H13 at s13 e13;have s913:=s10.trans (s11.trans (s12.trans s13))
    have v13:VR (ts2++[.ref t11]) (S2++[s1]) lotW H13:=VR.app' ⟨vS2.1,λi x v z1 z2=>(vS2.2 i x v z1 z2).tW.same (s11.trans (s12.trans s13))⟩
     ⟨t11,u1,l1,us1,rfl,(s12.trans s13) _ _ e11,rR.kt g2 (KT.of s913),s913 _ _ g3,g4.mono λx v h=>h.kt (KT.of s913)⟩
    have ok2:∀s∈S2++[s1],∃ds',LotOk ds' s:=λs hs=>by
     rcases AH.mp hs with z |z
     .exact⟨ds,okS2 s z⟩
     .rw[Am.mp z];exact⟨cs,ok1⟩
    refine⟨p13,rfl,⟨_,SqL.of e13⟩,?_⟩;refine zar (K:=K) (a:=p13) (xs:=ts2++[.ref t11]) (λj σ H14=>∃o1 o6 o7 o8,σ=[some (.ref a),o1,some (.ref ap),some (.ref bp),some u1,some (.ref l1),o6,o7,o8]/\Same H13 H14) ⟨_,_,_,_,rfl,Same.refl _⟩ (λj σ H14 _ ⟨_,_,_,_,_,s14⟩=>SqL.of (s14 _ _ e13)) ?_ ?_
    .rintro j2 v2 σ H14 hj2 ⟨o1,o6,o7,o8,rfl,s14⟩;obtain⟨s2,hs2,hl2⟩:=v13.at hj2;obtain⟨ds',ok2'⟩:=ok2 s2 (Af hs2);obtain⟨t2,u2,l2,us2,rfl,f1,f2,f3,f4⟩:=hl2.same s14;have s914:=s913.trans s14;have g2':=rR.kt g2 (KT.of s914);have g3':=s914 _ _ g3;have g4':=g4.mono λx v h=>h.kt (KT.of s914)
     obtain⟨x1,y1,rfl,q1,r1⟩:=id g2';obtain⟨x2,y2,rfl,q2,r2⟩:=id f2;obtain⟨C,D,es,fs,o1',o2',le1,le2,same,other⟩:=zng ok1 ok2';refine⟨t2,_,rfl,SqT.of f1,rfl,_,_,rfl,_,_,rfl,rfl,?_⟩;simp only[zaQ,AY,AZ];refine⟨_,rfl,x1,_,_,_,rfl,rfl,SqT.of q1,zak (j:=0) rfl,_,rfl,x2,_,_,_,rfl,rfl,SqT.of q2,zak (j:=0) rfl,rfl,_,rfl,?_⟩
     by_cases hso:s1.1.so=s2.1.so
     .refine iteY (decide_eq_true (congrArg V.str hso)) ?_
      obtain⟨sF,sN⟩:=same hso;refine⟨_,rfl,_,rfl,l1,l2,s1.2,s2.2,us1,us2,rfl,g3',g4',ok1.ord,ok1.le,f3,f4,ok2'.ord,ok2'.ne,ok2'.le,λp7 H15 i7 qq7 dd7 s15 e7 hF7=>?_,λH15 s15 hN7=>?_⟩
      .simp only[zaQ,AY,AZ];refine⟨_,rfl,_,rfl,C,D,.ref x1,.ref x2,es,fs,s1.1,s2.1,rfl,rR.kt g2' (KT.of s15),rR.kt f2 (KT.of s15),o1',o2',le1,le2,λp8 H16 i8 qq8 dd8 s16 e8 hF8=>?_,λH16 s16 hN8=>?_⟩
       .obtain⟨rfl,rfl⟩:=First.one ok2'.ne hF7 ((sF _ _ _).mp hF8);refine⟨_,rfl,.inr ⟨p8,p7,_,_,rfl,e8,s16 _ _ e7,λH17 s17=>⟨_,rfl,iteF ?_⟩⟩⟩;exact⟨_,_,_,_,rfl,s14.trans (s15.trans (s16.trans s17))⟩
       .exact absurd hF7.2.1 ((sN.mp hN8) i7 qq7 hF7.1 dd7)
      .simp only[zaQ,AY,AZ];refine⟨_,rfl,_,rfl,C,D,.ref x1,.ref x2,es,fs,s1.1,s2.1,rfl,rR.kt g2' (KT.of s15),rR.kt f2 (KT.of s15),o1',o2',le1,le2,λp8 H16 i8 qq8 dd8 s16 e8 hF8=>?_,λH16 s16 hN8=>?_⟩
       .have hF:=(sF _ _ _).mp hF8;exact absurd hF.2.1 (hN7 i8 qq8 hF.1 dd8)
       .refine⟨_,rfl,.inl ⟨rfl,_,rfl,iteF ?_⟩⟩;exact⟨_,_,_,_,rfl,s14.trans (s15.trans s16)⟩
     .refine iteN (decide_eq_false (λz=>hso (V.str.inj z))) ?_
      refine⟨_,rfl,_,rfl,C,D,.ref x1,.ref x2,es,fs,s1.1,s2.1,rfl,g2',f2,o1',o2',le1,le2,λp8 H16 i8 qq8 dd8 s16 e8 hF8=>?_,λH16 s16 hN8=>?_⟩
      .exact absurd hF8.2.1 (other hso i8 qq8 hF8.1 dd8)
      .refine⟨_,rfl,.inl ⟨rfl,_,rfl,iteF ?_⟩⟩;exact⟨_,_,_,_,rfl,s14.trans s16⟩
    .rintro σ H14 ⟨o1,o6,o7,o8,rfl,s14⟩;exact⟨_,_,_,_,_,_,rfl,s9.trans (s913.trans s14)⟩
   .rintro σ H9 ⟨o1,o4,o5,o6,o7,o8,rfl,s9⟩;exact⟨_,_,_,_,_,_,_,_,rfl,s5.trans (s58.trans s9)⟩
  .rintro σ H5 ⟨o1,o2,o3,o4,o5,o6,o7,o8,rfl,s5⟩;exact k _
end
theorem all_mk {l:W.OpenLaw}{w:A1}{K:W.Frag}{h:Heap}{mg:Str -> Option Ad}{fa:Addr}(X:K.In h) (G:h.Ns AE mg) (hfa:mg "law" = some (.ref fa)){fx62:Addr}{od62 an62:Option Addr}{sl62:Array (Option Ad)}{oc62 kV62 dc62 pm62 ct62 cd62:Ad}
  (h0:DA K "cell_order" zcz)
  (h1:DA K "ask_picture" zcl)
  (h2:DA K "gone" zkq)
  (h3:DA K "cell_table" zbW)
  (h4:DA K "gap_beside" zcx)
  (h5:DA K "all_edges" zbJ)
  (h6:DA K "straight_step" zbH)
  (h7:DA K "slant_step" zcw)
  (h8:DA K "step_behind" zcd)
  (h9:DA K "is_slant" zdx)
  (h10:DA K "edge_behind" zcj)
  (h11:DA K "walk_from" zcW)
  (h12:DA K "lefts_and_slants" zaL)
  (h13:DA K "lefts_less_slants" zbe)
  (h14:DA K "sort_of" zen)
  (h15:DA K "begin_of" zcI)
  (h16:DA K "round_of" zbD)
  (h17:DA K "round_order" zce)
  (h18:DA K "rounds_along" zbY)
  (h19:DA K "rounds" zfY)
  (h20:DA K "begin_edge" zcA)
  (h21:DA K "way_for" zek)
  (h22:DA K "deeds_along" zck)
  (h23:DA K "walk_by" zem)
  (h24:DA K "walk_along" zcv)
  (h25:DA K "seen_between" zbX)
  (h26:DA K "gainsaid_at" zci)
  (h27:DA K "comes_back" zcy)
  (h28:DA K "is_closed" zcX)
  (h29:DA K "walk_of" zel)
  (h30:DA K "in_order" zdy)
  (h31:DA K "moved" zhR)
  (h32:DA K "moved_all" zcf)
  (h33:DA K "quarter_edge" zb0)
  (h34:DA K "quarter_step" zbZ)
  (h35:DA K "turned" zd1)
  (h36:DA K "turned_all" zbV)
  (h37:DA K "mirror_edge" zch)
  (h38:DA K "mirror_step" zcg)
  (h39:DA K "mirrored" zb7)
  (h40:DA K "mirrored_all" zbw)
  (h41:DA K "become" zfZ)
  (h42:DA K "shift_between" zbI)
  (h43:DA K "alike" zhS)
  (h44:DA K "alike_all" zcY)
  (h45:DA K "_law_cell_at" zb2)
  (h46:DA K "_law_take" zcZ)
  (h47:DA K "_law_far" zdA)
  (h48:DA K "_law_is_there" zbL)
  (h49:DA K "_law_picture" zb1)
  (h50:DA K "_law_lot" zdz)
  (h51:DA K "_law_four" zbM)
  (h52:DA K "_law_eight" zbz)
  (h53:DA K "_law_dict" zc2)
  (h54:DA K "_law_within" zaM)
  (h55:DA K "_law_rank" zc0)
  (h56:DA K "_law_brought" za9)
  (h57:DA K "_law_ways" zbK)
  (h58:DA K "_law_how" zcJ)
  (h59:DA K "_law_is_how" zbC)
  (h60:DA K "_law_lots" zc1)
  (h61:DA K "_law_pair" zcm)
  (a62:CI K AE "law" = some (some (.ref fx62))) (l62:K.lookup fx62=some ⟨oc62,od62,.func (CC "law" "law" (zaS s_law) (zaz s_law) (zad s_law) .none kV62 dc62 pm62 an62 cd62 ct62),sl62⟩) (c62:W.codeIn K cd62 "law" = true) (k62:W.keepIn K (.ref fx62)=true)
  {M m0 m1 m2 m3 m4 m5 m6 m7:Addr}{odM:Option Addr}{nM:Nat}{slM:Array (Option Ad)}
  (aM:CI K AE "MOVES" = some (some (.ref M))) (lM:K.lookup M=some ⟨.type "tuple",odM,.seq #[.ref m0,.ref m1,.ref m2,.ref m3,.ref m4,.ref m5,.ref m6,.ref m7] nM,slM⟩)
  {odm0:Option Addr}{nm0:Nat}{slm0:Array (Option Ad)}{tm0 um0:Tok} (x0:K.lookup m0=some ⟨.type "tuple",odm0,.seq #[.int (1) tm0,.int (0) um0] nm0,slm0⟩)
  {odm1:Option Addr}{nm1:Nat}{slm1:Array (Option Ad)}{tm1 um1:Tok} (x1:K.lookup m1=some ⟨.type "tuple",odm1,.seq #[.int (1) tm1,.int (1) um1] nm1,slm1⟩)
  {odm2:Option Addr}{nm2:Nat}{slm2:Array (Option Ad)}{tm2 um2:Tok} (x2:K.lookup m2=some ⟨.type "tuple",odm2,.seq #[.int (0) tm2,.int (1) um2] nm2,slm2⟩)
  {odm3:Option Addr}{nm3:Nat}{slm3:Array (Option Ad)}{tm3 um3:Tok} (x3:K.lookup m3=some ⟨.type "tuple",odm3,.seq #[.int (-1) tm3,.int (1) um3] nm3,slm3⟩)
  {odm4:Option Addr}{nm4:Nat}{slm4:Array (Option Ad)}{tm4 um4:Tok} (x4:K.lookup m4=some ⟨.type "tuple",odm4,.seq #[.int (-1) tm4,.int (0) um4] nm4,slm4⟩)
  {odm5:Option Addr}{nm5:Nat}{slm5:Array (Option Ad)}{tm5 um5:Tok} (x5:K.lookup m5=some ⟨.type "tuple",odm5,.seq #[.int (-1) tm5,.int (-1) um5] nm5,slm5⟩)
  {odm6:Option Addr}{nm6:Nat}{slm6:Array (Option Ad)}{tm6 um6:Tok} (x6:K.lookup m6=some ⟨.type "tuple",odm6,.seq #[.int (0) tm6,.int (-1) um6] nm6,slm6⟩)
  {odm7:Option Addr}{nm7:Nat}{slm7:Array (Option Ad)}{tm7 um7:Tok} (x7:K.lookup m7=some ⟨.type "tuple",odm7,.seq #[.int (1) tm7,.int (-1) um7] nm7,slm7⟩)
  {B:Addr}{t1 t2 t3 t4:Tok}{nB:Nat} (aB:CI K AE "BEGIN_WAYS" = some (some (.ref B))) (lB:K.lookup B=some ⟨.type "dict",none,.dict #[⟨By w.params "rim",.str "rim" t1,.int 0 t2⟩,⟨By w.params "hole",.str "hole" t3,.int 2 t4⟩] nB,#[]⟩)
  {B2:Addr}{u1 u2 u3 u4:Tok}{nB2:Nat} (aB2:CI K AE "MORE_LEFTS" = some (some (.ref B2))) (lB2:K.lookup B2=some ⟨.type "dict",none,.dict #[⟨By w.params "rim",.str "rim" u1,.int 4 u2⟩,⟨By w.params "hole",.str "hole" u3,.int (-4) u4⟩] nB2,#[]⟩)
  {MTURNS TURNS0 TURNS1 TURNS2 TURNS3 TURNS4 TURNS5 TURNS6 TURNS7:Addr}{odTURNS:Option Addr}{nTURNS:Nat}{slTURNS:Array (Option Ad)}
  (aTURNS:CI K AE "TURNS" = some (some (.ref MTURNS))) (lTURNS:K.lookup MTURNS=some ⟨.type "tuple",odTURNS,.seq #[.ref TURNS0,.ref TURNS1,.ref TURNS2,.ref TURNS3,.ref TURNS4,.ref TURNS5,.ref TURNS6,.ref TURNS7] nTURNS,slTURNS⟩)
  {odTURNS0:Option Addr}{nTURNS0:Nat}{slTURNS0:Array (Option Ad)}{uTURNS0:Tok} (xTURNS0:K.lookup TURNS0=some ⟨.type "tuple",odTURNS0,.seq #[.bool false,.int (0) uTURNS0] nTURNS0,slTURNS0⟩)
  {odTURNS1:Option Addr}{nTURNS1:Nat}{slTURNS1:Array (Option Ad)}{uTURNS1:Tok} (xTURNS1:K.lookup TURNS1=some ⟨.type "tuple",odTURNS1,.seq #[.bool false,.int (1) uTURNS1] nTURNS1,slTURNS1⟩)
  {odTURNS2:Option Addr}{nTURNS2:Nat}{slTURNS2:Array (Option Ad)}{uTURNS2:Tok} (xTURNS2:K.lookup TURNS2=some ⟨.type "tuple",odTURNS2,.seq #[.bool false,.int (2) uTURNS2] nTURNS2,slTURNS2⟩)
  {odTURNS3:Option Addr}{nTURNS3:Nat}{slTURNS3:Array (Option Ad)}{uTURNS3:Tok} (xTURNS3:K.lookup TURNS3=some ⟨.type "tuple",odTURNS3,.seq #[.bool false,.int (3) uTURNS3] nTURNS3,slTURNS3⟩)
  {odTURNS4:Option Addr}{nTURNS4:Nat}{slTURNS4:Array (Option Ad)}{uTURNS4:Tok} (xTURNS4:K.lookup TURNS4=some ⟨.type "tuple",odTURNS4,.seq #[.bool true,.int (0) uTURNS4] nTURNS4,slTURNS4⟩)
  {odTURNS5:Option Addr}{nTURNS5:Nat}{slTURNS5:Array (Option Ad)}{uTURNS5:Tok} (xTURNS5:K.lookup TURNS5=some ⟨.type "tuple",odTURNS5,.seq #[.bool true,.int (1) uTURNS5] nTURNS5,slTURNS5⟩)
  {odTURNS6:Option Addr}{nTURNS6:Nat}{slTURNS6:Array (Option Ad)}{uTURNS6:Tok} (xTURNS6:K.lookup TURNS6=some ⟨.type "tuple",odTURNS6,.seq #[.bool true,.int (2) uTURNS6] nTURNS6,slTURNS6⟩)
  {odTURNS7:Option Addr}{nTURNS7:Nat}{slTURNS7:Array (Option Ad)}{uTURNS7:Tok} (xTURNS7:K.lookup TURNS7=some ⟨.type "tuple",odTURNS7,.seq #[.bool true,.int (3) uTURNS7] nTURNS7,slTURNS7⟩)
  (z_range:CI K AE "range" = some none)
  (z_len:CI K AE "len" = some none)
  (z_min:CI K AE "min" = some none)
  (z_max:CI K AE "max" = some none)
  (z_sorted:CI K AE "sorted" = some none)
  (z_tuple:CI K AE "tuple" = some none)
  (z_int:CI K AE "int" = some none)
  (z_bool:CI K AE "bool" = some none)
  (z_abs:CI K AE "abs" = some none)
  (z_all:CI K AE "all" = some none)
  (z_isinstance:CI K AE "isinstance" = some none)
  (z_list:CI K AE "list" = some none)
  (z_zip:CI K AE "zip" = some none)
  (z_enumerate:CI K AE "enumerate" = some none)
  (z_any:CI K AE "any" = some none) :
  ∃fd:Bo,(∀(s:Ae) (v:Ad),BindsTo s fd ⟨[v],[]⟩ [("_law_script",v)])/\∀base:Heap,K.In base->base.Ns AE mg->FnOk l.prog w K mg base CX0 11 fa fd ["_law_script"] (spLaw K):=by
 have e:=hfa.symm.trans (Dr X G a62)
 cases e
 have moves:∃M,mg "MOVES" = some (.ref M)/\∀H,∃ms:List Addr,SqT K H M (ms.map V.ref)/\ms.length=8/\∀(i:Nat) a,ms[i]?=some a->SqT K H a [.int (mv i).1,.int (mv i).2]:=by
  refine⟨M,Dr X G aM,λH=>⟨[m0,m1,m2,m3,m4,m5,m6,m7],.inr ⟨_,_,_,lM,rfl,rfl,(by show 8<=sizeLine;decide),.cons rfl (.cons rfl (.cons rfl (.cons rfl (.cons rfl (.cons rfl (.cons rfl (.cons rfl .nil)))))))⟩,rfl,λi a e=>?_⟩⟩
  match i,e with
  | 0,e=>cases e;exact .inr ⟨_,_,_,x0,rfl,rfl,(by show 2<=sizeLine;decide),.cons ⟨_,rfl⟩ (.cons ⟨_,rfl⟩ .nil)⟩
  | 1,e=>cases e;exact .inr ⟨_,_,_,x1,rfl,rfl,(by show 2<=sizeLine;decide),.cons ⟨_,rfl⟩ (.cons ⟨_,rfl⟩ .nil)⟩
  | 2,e=>cases e;exact .inr ⟨_,_,_,x2,rfl,rfl,(by show 2<=sizeLine;decide),.cons ⟨_,rfl⟩ (.cons ⟨_,rfl⟩ .nil)⟩
  | 3,e=>cases e;exact .inr ⟨_,_,_,x3,rfl,rfl,(by show 2<=sizeLine;decide),.cons ⟨_,rfl⟩ (.cons ⟨_,rfl⟩ .nil)⟩
  | 4,e=>cases e;exact .inr ⟨_,_,_,x4,rfl,rfl,(by show 2<=sizeLine;decide),.cons ⟨_,rfl⟩ (.cons ⟨_,rfl⟩ .nil)⟩
  | 5,e=>cases e;exact .inr ⟨_,_,_,x5,rfl,rfl,(by show 2<=sizeLine;decide),.cons ⟨_,rfl⟩ (.cons ⟨_,rfl⟩ .nil)⟩
  | 6,e=>cases e;exact .inr ⟨_,_,_,x6,rfl,rfl,(by show 2<=sizeLine;decide),.cons ⟨_,rfl⟩ (.cons ⟨_,rfl⟩ .nil)⟩
  | 7,e=>cases e;exact .inr ⟨_,_,_,x7,rfl,rfl,(by show 2<=sizeLine;decide),.cons ⟨_,rfl⟩ (.cons ⟨_,rfl⟩ .nil)⟩
  |i+8,e=>exact absurd (Ac.mp e).1 (by simp)
 have ways:Ways l.prog w K mg:=⟨⟨B,t1,t2,t3,t4,nB,Dr X G aB,lB⟩⟩
 have htTURNS:∃M,mg "TURNS" = some (.ref M)/\∀H,∃ms:List Addr,SqT K H M (ms.map V.ref)/\ms.length=8/\∀(i:Nat) a,ms[i]?=some a->∃q,([(false,0),(false,1),(false,2),(false,3),(true,0),(true,1),(true,2),(true,3)]:List (Bool×Int))[i]?=some q/\SqT K H a [.bl q.1,.int q.2]:=by
  refine⟨MTURNS,Dr X G aTURNS,λH=>⟨[TURNS0,TURNS1,TURNS2,TURNS3,TURNS4,TURNS5,TURNS6,TURNS7],.inr ⟨_,_,_,lTURNS,rfl,rfl,(by show 8<=sizeLine;decide),(.cons rfl (.cons rfl (.cons rfl (.cons rfl (.cons rfl (.cons rfl (.cons rfl (.cons rfl .nil))))))))⟩,rfl,λi a e=>?_⟩⟩
  match i,e with
  | 0,e=>cases e;exact⟨_,rfl,.inr ⟨_,_,_,xTURNS0,rfl,rfl,(by show 2<=sizeLine;decide),.cons rfl (.cons ⟨_,rfl⟩ .nil)⟩⟩
  | 1,e=>cases e;exact⟨_,rfl,.inr ⟨_,_,_,xTURNS1,rfl,rfl,(by show 2<=sizeLine;decide),.cons rfl (.cons ⟨_,rfl⟩ .nil)⟩⟩
  | 2,e=>cases e;exact⟨_,rfl,.inr ⟨_,_,_,xTURNS2,rfl,rfl,(by show 2<=sizeLine;decide),.cons rfl (.cons ⟨_,rfl⟩ .nil)⟩⟩
  | 3,e=>cases e;exact⟨_,rfl,.inr ⟨_,_,_,xTURNS3,rfl,rfl,(by show 2<=sizeLine;decide),.cons rfl (.cons ⟨_,rfl⟩ .nil)⟩⟩
  | 4,e=>cases e;exact⟨_,rfl,.inr ⟨_,_,_,xTURNS4,rfl,rfl,(by show 2<=sizeLine;decide),.cons rfl (.cons ⟨_,rfl⟩ .nil)⟩⟩
  | 5,e=>cases e;exact⟨_,rfl,.inr ⟨_,_,_,xTURNS5,rfl,rfl,(by show 2<=sizeLine;decide),.cons rfl (.cons ⟨_,rfl⟩ .nil)⟩⟩
  | 6,e=>cases e;exact⟨_,rfl,.inr ⟨_,_,_,xTURNS6,rfl,rfl,(by show 2<=sizeLine;decide),.cons rfl (.cons ⟨_,rfl⟩ .nil)⟩⟩
  | 7,e=>cases e;exact⟨_,rfl,.inr ⟨_,_,_,xTURNS7,rfl,rfl,(by show 2<=sizeLine;decide),.cons rfl (.cons ⟨_,rfl⟩ .nil)⟩⟩
  |i+8,e=>exact absurd (Ac.mp e).1 (by simp)
 have T:Txt l.prog w K mg:={ moves:=moves,ways:=ways,more:=⟨⟨B2,u1,u2,u3,u4,nB2,Dr X G aB2,lB2⟩⟩,tTURNS:=htTURNS,nrange:=Bw X G z_range,nlen:=Bw X G z_len,nmin:=Bw X G z_min,nmax:=Bw X G z_max,nsorted:=Bw X G z_sorted,ntuple:=Bw X G z_tuple,nint:=Bw X G z_int,nbool:=Bw X G z_bool,nabs:=Bw X G z_abs,nall:=Bw X G z_all,nisinstance:=Bw X G z_isinstance,nlist:=Bw X G z_list,nzip:=Bw X G z_zip,nenumerate:=Bw X G z_enumerate,nany:=Bw X G z_any };obtain⟨d'0⟩:=h0.d1 X G (p0:="cell");obtain⟨d'1⟩:=h1.d1 X G (p0:="picture");obtain⟨d'2⟩:=h2.d3 X G (p0:="x") (p1:="y") (p2:="step");obtain⟨d'3⟩:=h3.d1 X G (p0:="picture");obtain⟨d'4⟩:=h4.d1 X G (p0:="edge");obtain⟨d'5⟩:=h5.d1 X G (p0:="picture");obtain⟨d'6⟩:=h6.d1 X G (p0:="way");obtain⟨d'7⟩:=h7.d1 X G (p0:="way");obtain⟨d'8⟩:=h8.d2 X G (p0:="table") (p1:="edge");obtain⟨d'9⟩:=h9.d1 X G (p0:="step");obtain⟨d'a⟩:=h10.d2 X G (p0:="edge") (p1:="step");obtain⟨d'b⟩:=h11.d2 X G (p0:="table") (p1:="begin");obtain⟨d'c⟩:=h12.d1 X G (p0:="walk");obtain⟨d'd⟩:=h13.d1 X G (p0:="walk");obtain⟨d'e⟩:=h14.d1 X G (p0:="walk");obtain⟨d'f⟩:=h15.d2 X G (p0:="walk") (p1:="sort");obtain⟨d'10⟩:=h16.d1 X G (p0:="walk");obtain⟨d'11⟩:=h17.d1 X G (p0:="one");obtain⟨d'12⟩:=h18.d2 X G (p0:="table") (p1:="edges");obtain⟨d'13⟩:=h19.d1 X G (p0:="picture");obtain⟨d'14⟩:=h20.d1 X G (p0:="one");obtain⟨d'15⟩:=h21.d1 X G (p0:="step");obtain⟨d'16⟩:=h22.d2 X G (p0:="begin_way") (p1:="row");obtain⟨d'17⟩:=h23.d2 X G (p0:="begin") (p1:="deeds");obtain⟨d'18⟩:=h24.d2 X G (p0:="begin") (p1:="row");obtain⟨d'19⟩:=h25.d2 X G (p0:="edge") (p1:="step");obtain⟨d'1a⟩:=h26.d1 X G (p0:="walk");obtain⟨d'1b⟩:=h27.d1 X G (p0:="walk");obtain⟨d'1c⟩:=h28.d2 X G (p0:="walk") (p1:="sort");obtain⟨d'1d⟩:=h29.d1 X G (p0:="one");obtain⟨d'1e⟩:=h30.d1 X G (p0:="some");obtain⟨d'1f⟩:=h31.d3 X G (p0:="one") (p1:="dx") (p2:="dy");obtain⟨d'20⟩:=h32.d3 X G (p0:="some") (p1:="dx") (p2:="dy");obtain⟨d'21⟩:=h33.d1 X G (p0:="edge");obtain⟨d'22⟩:=h34.d1 X G (p0:="step");obtain⟨d'23⟩:=h35.d2 X G (p0:="one") (p1:="quarters");obtain⟨d'24⟩:=h36.d2 X G (p0:="some") (p1:="quarters");obtain⟨d'25⟩:=h37.d1 X G (p0:="edge");obtain⟨d'26⟩:=h38.d1 X G (p0:="step");obtain⟨d'27⟩:=h39.d1 X G (p0:="one");obtain⟨d'28⟩:=h40.d1 X G (p0:="some");obtain⟨d'29⟩:=h41.d3 X G (p0:="some") (p1:="mirror") (p2:="quarters");obtain⟨d'2a⟩:=h42.d2 X G (p0:="some") (p1:="others");obtain⟨d'2b⟩:=h43.d2 X G (p0:="one") (p1:="other");obtain⟨d'2c⟩:=h44.d2 X G (p0:="some") (p1:="others");obtain⟨d'2d⟩:=h45.d2 X G (p0:="_law_script") (p1:="_law_k");obtain⟨d'2e⟩:=h46.d2 X G (p0:="_law_pen") (p1:="_law_base");obtain⟨d'2f⟩:=h47.d1 X G (p0:="_law_pen");obtain⟨d'30⟩:=h48.d6 X G (p0:="_law_pen") (p1:="_law_way") (p2:="_law_x") (p3:="_law_y") (p4:="_law_wide") (p5:="_law_high");obtain⟨d'31⟩:=h49.d2 X G (p0:="_law_pen") (p1:="_law_most");obtain⟨d'32⟩:=h50.d3 X G (p0:="_law_start") (p1:="_law_there") (p2:="_law_steps");obtain⟨d'33⟩:=h51.d0 X G;obtain⟨d'34⟩:=h52.d0 X G;obtain⟨d'35⟩:=h53.d1 X G (p0:="_law_cells");obtain⟨d'36⟩:=h54.d4 X G (p0:="_law_there") (p1:="_law_sort") (p2:="_law_x") (p3:="_law_y");obtain⟨d'37⟩:=h55.d1 X G (p0:="_law_cell");obtain⟨d'38⟩:=h56.d3 X G (p0:="_law_cells") (p1:="_law_flipped") (p2:="_law_quarters");obtain⟨d'39⟩:=h57.d0 X G;obtain⟨d'3a⟩:=h58.d2 X G (p0:="_law_cells") (p1:="_law_others");obtain⟨d'3b⟩:=h59.d2 X G (p0:="_law_found") (p1:="_law_due");obtain⟨d'3c⟩:=h60.d1 X G (p0:="_law_picture_here");obtain⟨d'3d⟩:=h61.d2 X G (p0:="_law_pen") (p1:="_law_most");have F62:=zcb (st:=s_law) l62 c62 k62;have b62:=F62.b1 (p0:="_law_script");refine⟨CC "law" "law" (zaS s_law) (zaz s_law) (zad s_law) .none kV62 dc62 pm62 an62 cd62 ct62,λs v=>.of_eq rfl,λbase _ _=>?_⟩;have fn:∀{k:Nat}{x:Str}{s:Stmt}{ps:List Str}{sp:Sp} (d:Df K mg x s ps),FnOk l.prog w K mg base CX0 k d.f d.fd ps sp->Fn l.prog w K mg base k x ps sp:=λd h=>d.fn h
 have g'3e:=fn d'0 (zge d'0);have g'3f:=fn d'2 (zm7 T d'2);have g'40:=fn d'6 (zdY d'6);have g'41:=fn d'7 (zf8 d'7);have g'42:=fn d'9 (zh5 d'9);have g'43:=fn d'4 (zgb g'3f d'4);have g'44:=fn d'1 (ze3 T g'3e d'1);have g'45:=fn d'3 (zgd d'3);have g'46:=fn d'8 (zeT g'3f g'41 g'40 d'8);have g'47:=fn d'a (ze1 g'3f g'42 d'a);have g'48:=fn d'5 (zha T g'45 g'43 d'5);have g'49:=fn d'b (zg6 g'46 g'47 d'b);have g'4a:=fn d'c (zc3 T g'42 d'c);have g'4b:=fn d'd (zcN g'4a d'd);have g'4c:=fn d'e (zjE g'4b d'e);have g'4d:=fn d'f (zh7 T g'3e d'f);have g'4e:=fn d'10 (zhW T g'4c g'4d d'10);have g'4f:=fn d'11 (zeU d'11);have g'50:=fn d'12 (zes T g'49 g'4e g'4f d'12);have g'51:=fn d'13 (zkM T g'44 g'45 g'48 g'50 d'13);have g'52:=fn d'14 (zgf T d'14);have g'53:=fn d'15 (zjB d'15);have g'54:=fn d'16 (ze2 g'53 d'16);have g'55:=fn d'17 (zjD g'47 d'17);have g'56:=fn d'18 (zf6 g'55 g'54 d'18);have g'57:=fn d'19 (zer g'47 g'43 g'42 g'3f g'41 g'40 d'19);have g'58:=fn d'1a (ze0 g'57 d'1a);have g'59:=fn d'1b (zgc g'47 d'1b);have g'5a:=fn d'1c (zg9 T g'59 g'4b d'1c);have g'5b:=fn d'1d (zjC g'52 g'56 g'58 g'5a g'4d d'1d);have g'5c:=fn d'25 (zeW d'25);have g'5d:=fn d'26 (zeV d'26);have g'5e:=fn d'1e (zh6 T g'4f d'1e);have g'5f:=fn d'27 (zhX T g'5b g'5c g'5d g'4e d'27);have g'60:=fn d'28 (zev T g'5f g'5e d'28);have g'61:=fn d'21 (zeu d'21);have g'62:=fn d'22 (zet d'22);have g'63:=fn d'23 (zkL T g'5b g'61 g'62 g'4e d'23);have g'64:=fn d'24 (zf7 T g'63 g'5e d'24);have g'65:=fn d'1f (zlU d'1f);have g'66:=fn d'20 (zg7 T g'65 g'5e d'20);have g'67:=fn d'29 (zjI g'64 g'60 d'29);have g'68:=fn d'2a (zdF T g'66 d'2a);have g'69:=fn d'2c (zgg T g'67 g'68 d'2c);have g'6a:=fn d'2b (zlV g'69 d'2b);have g'6b:=fn d'37 (zh0 d'37);have g'6c:=fn d'38 (zeZ T g'6b d'38);have g'6d:=fn d'39 (zhY d'39);have g'6e:=fn d'3a (zjG T g'6d g'6c d'3a);have g'6f:=fn d'3b (zga T d'3b);have g'70:=fn d'2d (zeY T d'2d);have g'71:=fn d'2e (tk_of (zhZ T d'2e));have g'72:=fn d'2f (zjH g'71 d'2f);have g'73:=fn d'30 (zew T g'71 d'30);have g'74:=fn d'31 (zeX T g'71 g'72 g'73 d'31);have g'75:=fn d'33 (zh3 d'33);have g'76:=fn d'34 (zg8 d'34);have g'77:=fn d'32 (zjF d'32);have g'78:=fn d'35 (zh4 d'35);have g'79:=fn d'36 (zf9 T g'77 g'76 g'75 d'36);have g'7a:=fn d'3c (zh2 T g'51 g'78 g'79 g'6b d'3c);have g'7b:=fn d'3d (zh1 g'71 g'74 g'6c d'3d);exact znQ T g'70 g'7b g'7a g'6e g'6f g'6a ⟨_,_,F62,Dr X G a62,b62⟩
theorem walk{l:W.OpenLaw}{q:AJ}{loose:List Str}{XP:(Str -> Option Ad) -> Heap -> Prop}{YP:A1 -> Heap -> Prop}{d:DefRec}{K:Params -> W.Frag}(hn:l.most=some 63)(hdf:d.params.defaults = [])
  (hY:∀(w:A1) (h:Heap),YP w h->(K w.params).In h)
  (F:∀(w:A1) (mg:Str->Option Ad) (fa:Addr) (h:Heap),(K w.params).In h->h.Ns AE mg->mg d.name=some (.ref fa) ->
   ∃fd:Bo,(∀(s:Ae) (u:Ad),BindsTo s fd ⟨[u],[]⟩ [("_law_script",u)])/\∀base:Heap,(K w.params).In base->base.Ns AE mg->FnOk l.prog w (K w.params) mg base CX0 11 fa fd ["_law_script"] (spLaw (K w.params))) :
  W.WalkO q loose XP YP l.row.toRowW d [] (λf vs=>PySem.call f vs) :=
 L2.walk_of (n:=63) (k:=11) (x:="_law_script") (CX:=λ_=>CX0) (sp:=λw=>spLaw (K w.params)) hn (by decide) hdf ⟨rfl,by decide,by decide⟩ hY F (λ_ _ a ns hl _ hS=>⟨a,ns,rfl,hS,hl,λ_=>rfl⟩) λ_ _ _ _ _ z=>z
end RR
namespace PySem.W.Fast
noncomputable def tw9359068250636734905:=()
noncomputable def tw16102125072614507630:=()
noncomputable def tw6602468223098633231:=()
noncomputable def tw6753063650484214131:=()
noncomputable def tw9288581919019300097:=()
noncomputable def tw8581470628462413869:=()
noncomputable def tw1520059735605105931:=()
noncomputable def tw9038413176554177579:=()
noncomputable def tw16235810131770840604:=()
noncomputable def tw17165250227648224802:=()
noncomputable def tw17050561178007792399:=()
noncomputable def tw7498996719003197168:=()
noncomputable def tw12895908143471633100:=()
noncomputable def tw3186434994580112589:=()
noncomputable def tw15704390864270092647:=()
noncomputable def tw1074831323540619577:=()
noncomputable def tw12477835690023808677:=()
noncomputable def tw10475542366223216139:=()
noncomputable def tw1574880778086954043:=()
noncomputable def tw4118468130765772727:=()
noncomputable def tw13873202790320761349:=()
noncomputable def tw10000581970245658602:=()
noncomputable def tw11766237754583419331:=()
noncomputable def tw11614298422508965030:=()
noncomputable def tw13771915347398287601:=()
noncomputable def tw3143924708671446283:=()
noncomputable def tw7192271714092786273:=()
noncomputable def tw15237066277561785779:=()
noncomputable def tw8659702051750277139:=()
noncomputable def tw4342629837184749120:=()
noncomputable def tw14900897273439244187:=()
noncomputable def tw13043384513508955280:=()
noncomputable def tw8580535829940341523:=()
noncomputable def tw1706096021116813999:=()
noncomputable def tw15943748202700717972:=()
noncomputable def tw2878500648768140167:=()
noncomputable def tw3457375462095091765:=()
noncomputable def tw11140199358858560213:=()
noncomputable def tw276446885313019760:=()
noncomputable def tw7738476405799325330:=()
noncomputable def tw9196924482006103189:=()
noncomputable def tw16092594426644752773:=()
noncomputable def tw17660879936884862104:=()
noncomputable def tw3664991048710411500:=()
noncomputable def tw10632858755400715041:=()
noncomputable def tw6520083998456078183:=()
noncomputable def tw5693134629671385088:=()
noncomputable def tw13817461923739441819:=()
noncomputable def tw14718588824676206911:=()
noncomputable def tw4491551920441420726:=()
noncomputable def tw4498445477218248033:=()
noncomputable def tw11760665961725476906:=()
noncomputable def tw16301755587569392095:=()
noncomputable def tw8136594367355130805:=()
noncomputable def tw14109879635064459471:=()
noncomputable def tw9224989223834692983:=()
noncomputable def tw3046211876230208531:=()
noncomputable def tw15618560386203372183:=()
noncomputable def tw12682896429755516310:=()
noncomputable def tw2510150120740377310:=()
noncomputable def tw8990603001069953468:=()
noncomputable def tw8419036481409661467:=()
noncomputable def tw17481917082321831693:=()
noncomputable def tw17235790394736749982:=()
noncomputable def tw12529655790583512767:=()
noncomputable def tw18319737657128143797:=()
noncomputable def tw4870231521494933669:=()
noncomputable def tw4835519064781797600:=()
noncomputable def tw14729860609910495481:=()
noncomputable def tw10736149045679719610:=()
noncomputable def tw17163489723010585585:=()
noncomputable def tw2311270635893284409:=()
noncomputable def tw8106878433729068:=()
noncomputable def tw10555973467267467892:=()
noncomputable def tw9431123198799757293:=()
noncomputable def tw9457707779213292701:=()
noncomputable def tw4522072848486339462:=()
noncomputable def tw13820285130298709021:=()
noncomputable def tw12918931813267802483:=()
noncomputable def tw4339203945796256589:=()
noncomputable def tw13599146676477946516:=()
noncomputable def tw6135178196574226180:=()
noncomputable def tw14265832261302038122:=()
noncomputable def tw2518805018854033348:=()
noncomputable def tw16002993117466266158:=()
noncomputable def tw8409988678520127342:=()
noncomputable def tw5702007937609589300:=()
noncomputable def tw15003634949158553656:=()
noncomputable def tw16697498291556697349:=()
noncomputable def tw3817033510502188223:=()
noncomputable def tw3056224895044703873:=()
noncomputable def tw10663153003182252009:=()
noncomputable def tw6754975346666298927:=()
noncomputable def tw5586968000806268946:=()
noncomputable def tw12260520927370989581:=()
noncomputable def tw5773784037093018027:=()
noncomputable def tw16063873889883345353:=()
noncomputable def tw3248618525377324560:=()
noncomputable def tw1582493222055050290:=()
noncomputable def tw12648883993720461636:=()
noncomputable def tw10390440541386353419:=()
noncomputable def tw9442629801184501572:=()
noncomputable def tw2888997621294575738:=()
noncomputable def tw1276744083796100580:=()
noncomputable def tw3009178389921186075:=()
noncomputable def tw16639069524668501429:=()
noncomputable def tw7546167811647818127:=()
noncomputable def tw11201294180616119120:=()
noncomputable def tw13009114061314930257:=()
noncomputable def tw2708459229610449156:=()
noncomputable def tw937213980580376912:=()
noncomputable def tw2472902472012208989:=()
noncomputable def tw15494411929027435332:=()
noncomputable def tw5313695463719331727:=()
noncomputable def tw14428383091966687309:=()
noncomputable def tw4500894604439476849:=()
noncomputable def tw14561104622296301913:=()
noncomputable def tw2277404745213304554:=()
noncomputable def tw5708570562457321707:=()
noncomputable def tw13314891047611649587:=()
noncomputable def tw1935336878175726023:=()
noncomputable def tw10901257621737458138:=()
noncomputable def tw6985359380508799800:=()
noncomputable def tw6407290747851513307:=()
noncomputable def tw2288560843853634434:=()
noncomputable def tw1562534083906450468:=()
noncomputable def tw8651695883655145316:=()
noncomputable def tw346295981852477410:=()
noncomputable def tw1152516064364392774:=()
noncomputable def tw13487226168584505669:=()
noncomputable def tw451880304784043897:=()
noncomputable def tw1828019706472307629:=()
noncomputable def tw9124996876123000163:=()
noncomputable def tw5157714238105816569:=()
noncomputable def tw8279626727589058889:=()
noncomputable def tw16632742175569777771:=()
noncomputable def tw2771276222195870040:=()
noncomputable def tw10012462448538751661:=()
noncomputable def tw11874436736519340880:=()
noncomputable def tw15099889254115166580:=()
noncomputable def tw15166642309845026997:=()
noncomputable def tw5984123988515062236:=()
noncomputable def tw8800675429214180562:=()
noncomputable def tw7602036511084479612:=()
noncomputable def tw4213384212299903221:=()
noncomputable def tw16767136837637557102:=()
noncomputable def tw2589960961527565211:=()
noncomputable def tw12213091410517058987:=()
noncomputable def tw5803930192634813509:=()
noncomputable def tw498944525566996198:=()
noncomputable def tw5001668856165602634:=()
noncomputable def tw13922151584235183835:=()
noncomputable def tw5929933086863657224:=()
noncomputable def tw1387044011242084410:=()
noncomputable def tw15253676276256767889:=()
noncomputable def tw12811995287854925791:=()
noncomputable def tw8342804603966925483:=()
noncomputable def tw2169934940488452132:=()
noncomputable def tw6386006108125609337:=()
noncomputable def tw7874601768501645264:=()
noncomputable def tw14159413834564805584:=()
noncomputable def tw11543347904787003926:=()
noncomputable def tw6991045146177202306:=()
noncomputable def tw10887787204167278500:=()
noncomputable def tw18246945763268855802:=()
noncomputable def tw16340172096137006505:=()
noncomputable def tw9215392629570508676:=()
noncomputable def tw3639666667608396764:=()
noncomputable def tw17348773520426769992:=()
noncomputable def tw9967634198820997767:=()
noncomputable def tw5709602591287415081:=()
noncomputable def tw1080131113799824513:=()
noncomputable def tw666256627945858311:=()
noncomputable def tw2438174460482828608:=()
noncomputable def tw9998318459211358905:=()
noncomputable def tw10896048095814194006:=()
noncomputable def tw15998172318698835717:=()
noncomputable def tw641391785405812325:=()
noncomputable def tw5453230619615827846:=()
noncomputable def tw6461395032613959835:=()
noncomputable def tw15788331063588747093:=()
noncomputable def tw7630131075635977617:=()
noncomputable def tw15439643937157730575:=()
noncomputable def tw8761415341652755366:=()
noncomputable def tw607006530186739500:=()
noncomputable def tw15355131652569658765:=()
noncomputable def tw10450625836111047455:=()
noncomputable def tw17889684227066973721:=()
noncomputable def tw4711947458894036559:=()
noncomputable def tw5191673112135779392:=()
noncomputable def tw4287828020597331405:=()
noncomputable def tw8603029953390761896:=()
noncomputable def tw2320097098780306091:=()
noncomputable def tw419520332818705466:=()
noncomputable def tw15753848275390748188:=()
noncomputable def tw17272171407205302013:=()
noncomputable def tw971967197427203240:=()
noncomputable def tw3645907308086653853:=()
noncomputable def tw14407869022096640552:=()
noncomputable def tw1109720766089951213:=()
noncomputable def tw9190984966618857012:=()
noncomputable def tw8392469959349383897:=()
noncomputable def tw6542169781217598841:=()
noncomputable def tw15772623756534897234:=()
noncomputable def tw8716169142469178406:=()
noncomputable def tw18304777752705277769:=()
noncomputable def tw12138599221368144390:=()
noncomputable def tw1737783960813486250:=()
noncomputable def tw7046417627616165437:=()
noncomputable def tw9333158449519103759:=()
noncomputable def tw3252503762485400999:=()
noncomputable def tw792893741347127092:=()
noncomputable def tw18180753794112096058:=()
noncomputable def tw9275250444771721813:=()
noncomputable def tw1765942247813260756:=()
noncomputable def tw10358686283137822472:=()
noncomputable def tw6935087990706347498:=()
noncomputable def tw3003122620199753182:=()
noncomputable def tw7998693308272632855:=()
noncomputable def tw6329305553253584003:=()
noncomputable def tw9972651825945187657:=()
noncomputable def tw3679640505557042181:=()
noncomputable def tw4775193444101394831:=()
noncomputable def tw4307206501907068240:=()
noncomputable def tw2783037325892071697:=()
noncomputable def tw1050812519150350426:=()
noncomputable def tw16467450176945432656:=()
noncomputable def tw16275462838097422168:=()
noncomputable def tw3755287435997596750:=()
noncomputable def tw12831624918371622670:=()
noncomputable def tw5223747297458557904:=()
noncomputable def tw3536323644810633023:=()
noncomputable def tw11017383520547780074:=()
noncomputable def tw14772451142341616321:=()
noncomputable def tw4340213465421336161:=()
noncomputable def tw13293776537936582185:=()
noncomputable def tw14086930303523491904:=()
noncomputable def tw11084121652004211213:=()
noncomputable def tw4844165656393761473:=()
noncomputable def tw143016476624654677:=()
noncomputable def tw2168668698204442126:=()
noncomputable def tw18341361579435149936:=()
noncomputable def tw8278221344596906027:=()
noncomputable def tw16452394543203613602:=()
noncomputable def tw14380665203581023569:=()
noncomputable def tw10179597450695278387:=()
noncomputable def tw7556489187257021045:=()
noncomputable def tw12584249915116005531:=()
noncomputable def tw4077191481183632054:=()
noncomputable def tw3733365323945072029:=()
noncomputable def tw14961653088321123417:=()
noncomputable def tw11220351976826053112:=()
noncomputable def tw475902258897741376:=()
noncomputable def tw18075263538886848816:=()
noncomputable def tw4176959612612211111:=()
noncomputable def tw7127439944891487686:=()
noncomputable def tw11334109116935706579:=()
noncomputable def tw15091638508687149243:=()
noncomputable def tw16238516868560144326:=()
noncomputable def tw7960329843530049291:=()
noncomputable def tw4052754868955909456:=()
noncomputable def tw4561834167925639593:=()
noncomputable def tw15770463505233138298:=()
noncomputable def tw11051792061086256948:=()
noncomputable def tw18328477261180622698:=()
noncomputable def tw5784936115990309568:=()
noncomputable def tw6784870837805379114:=()
noncomputable def tw10364621546270779685:=()
noncomputable def tw4759697620351831344:=()
noncomputable def tw13502969050493660158:=()
noncomputable def tw11906253378669153693:=()
noncomputable def tw9104048100924717420:=()
noncomputable def tw1800942240460367031:=()
noncomputable def tw690188099682694797:=()
noncomputable def tw9447700733868854878:=()
noncomputable def tw16108853977148107441:=()
noncomputable def tw7316731169451393042:=()
noncomputable def tw13122745251449821135:=()
noncomputable def tw4451102300805435238:=()
noncomputable def tw16699815509940167283:=()
noncomputable def tw4505706320215090452:=()
noncomputable def tw4594450796694463824:=()
noncomputable def tw12201098224484378651:=()
noncomputable def tw2194654575645217292:=()
noncomputable def tw4894909629070871377:=()
noncomputable def tw15321315463172805668:=()
noncomputable def tw1439946390883758112:=()
noncomputable def tw4954252834189587481:=()
noncomputable def tw18427484284217783663:=()
noncomputable def tw12629979456765663580:=()
noncomputable def tw2463248298184813800:=()
noncomputable def tw17468895084947257211:=()
noncomputable def tw2037257009643030375:=()
noncomputable def tw14674242567197234249:=()
noncomputable def tw12236157382911271356:=()
noncomputable def tw5938035810667964550:=()
noncomputable def tw15729480506588967892:=()
noncomputable def tw10667064008876229385:=()
noncomputable def tw6978478363343497242:=()
noncomputable def tw16215254698924145061:=()
noncomputable def tw13957980507423570413:=()
noncomputable def tw2676353207705216566:=()
noncomputable def tw10784225480956406874:=()
noncomputable def tw7395281961340500498:=()
noncomputable def tw17011222895978031716:=()
noncomputable def tw13536946431826041117:=()
noncomputable def tw2450815186301296877:=()
noncomputable def tw17734436860131441621:=()
noncomputable def tw6430886234452697769:=()
noncomputable def tw4490900917117821891:=()
noncomputable def tw12288489933608097380:=()
noncomputable def tw11750640355368587805:=()
noncomputable def tw18001157591526616297:=()
noncomputable def tw9145842615263742525:=()
noncomputable def tw15007330285703499590:=()
noncomputable def tw8846419234340800586:=()
noncomputable def tw12881014663606352586:=()
noncomputable def tw4967432370346828971:=()
noncomputable def tw6105001333184470148:=()
noncomputable def tw6666582602241632492:=()
noncomputable def tw4779234905385563795:=()
noncomputable def tw1555290434899281566:=()
noncomputable def tw12322200497480363563:=()
noncomputable def tw14992528847985640649:=()
noncomputable def tw17549457096335639193:=()
noncomputable def tw588949971524557062:=()
noncomputable def tw18390139631752204202:=()
noncomputable def tw1305835865712270482:=()
noncomputable def tw5810992521487923994:=()
noncomputable def tw1006160139795354284:=()
noncomputable def tw13670769087390192239:=()
end PySem.W.Fast
open PySem PySem.W PyProof.Rows
set_option maxRecDepth 100000 in
set_option maxHeartbeats 0 in
theorem PySem.Challenge.cw_rimsteps_k56_how_rounds_are_alike_holds : PySem.Challenge.rw_rimsteps_k56_how_rounds_are_alike.Holds := by
 w_on;o_law;k_head;(case hw=>w_witness2)
 k_fill
 refine RR.walk (l:=PySem.Challenge.rw_rimsteps_k56_how_rounds_are_alike) rfl rfl (λw h Y=>W.kIn_of Y) ?F
 case F =>
  intro w mg fa h KX G hmg
  refine' RR.all_mk KX G hmg (.mk ?a0 ?l0 ?c0 ?k0) (.mk ?a1 ?l1 ?c1 ?k1) (.mk ?a2 ?l2 ?c2 ?k2) (.mk ?a3 ?l3 ?c3 ?k3) (.mk ?a4 ?l4 ?c4 ?k4) (.mk ?a5 ?l5 ?c5 ?k5) (.mk ?a6 ?l6 ?c6 ?k6) (.mk ?a7 ?l7 ?c7 ?k7) (.mk ?a8 ?l8 ?c8 ?k8) (.mk ?a9 ?l9 ?c9 ?k9) (.mk ?a10 ?l10 ?c10 ?k10) (.mk ?a11 ?l11 ?c11 ?k11) (.mk ?a12 ?l12 ?c12 ?k12) (.mk ?a13 ?l13 ?c13 ?k13) (.mk ?a14 ?l14 ?c14 ?k14) (.mk ?a15 ?l15 ?c15 ?k15) (.mk ?a16 ?l16 ?c16 ?k16) (.mk ?a17 ?l17 ?c17 ?k17) (.mk ?a18 ?l18 ?c18 ?k18) (.mk ?a19 ?l19 ?c19 ?k19) (.mk ?a20 ?l20 ?c20 ?k20) (.mk ?a21 ?l21 ?c21 ?k21) (.mk ?a22 ?l22 ?c22 ?k22) (.mk ?a23 ?l23 ?c23 ?k23) (.mk ?a24 ?l24 ?c24 ?k24) (.mk ?a25 ?l25 ?c25 ?k25) (.mk ?a26 ?l26 ?c26 ?k26) (.mk ?a27 ?l27 ?c27 ?k27) (.mk ?a28 ?l28 ?c28 ?k28) (.mk ?a29 ?l29 ?c29 ?k29) (.mk ?a30 ?l30 ?c30 ?k30) (.mk ?a31 ?l31 ?c31 ?k31) (.mk ?a32 ?l32 ?c32 ?k32) (.mk ?a33 ?l33 ?c33 ?k33) (.mk ?a34 ?l34 ?c34 ?k34) (.mk ?a35 ?l35 ?c35 ?k35) (.mk ?a36 ?l36 ?c36 ?k36) (.mk ?a37 ?l37 ?c37 ?k37) (.mk ?a38 ?l38 ?c38 ?k38) (.mk ?a39 ?l39 ?c39 ?k39) (.mk ?a40 ?l40 ?c40 ?k40) (.mk ?a41 ?l41 ?c41 ?k41) (.mk ?a42 ?l42 ?c42 ?k42) (.mk ?a43 ?l43 ?c43 ?k43) (.mk ?a44 ?l44 ?c44 ?k44) (.mk ?a45 ?l45 ?c45 ?k45) (.mk ?a46 ?l46 ?c46 ?k46) (.mk ?a47 ?l47 ?c47 ?k47) (.mk ?a48 ?l48 ?c48 ?k48) (.mk ?a49 ?l49 ?c49 ?k49) (.mk ?a50 ?l50 ?c50 ?k50) (.mk ?a51 ?l51 ?c51 ?k51) (.mk ?a52 ?l52 ?c52 ?k52) (.mk ?a53 ?l53 ?c53 ?k53) (.mk ?a54 ?l54 ?c54 ?k54) (.mk ?a55 ?l55 ?c55 ?k55) (.mk ?a56 ?l56 ?c56 ?k56) (.mk ?a57 ?l57 ?c57 ?k57) (.mk ?a58 ?l58 ?c58 ?k58) (.mk ?a59 ?l59 ?c59 ?k59) (.mk ?a60 ?l60 ?c60 ?k60) (.mk ?a61 ?l61 ?c61 ?k61) ?a62 ?l62 ?c62 ?k62 ?aM ?lM ?x0 ?x1 ?x2 ?x3 ?x4 ?x5 ?x6 ?x7 ?aB ?lB ?aB2 ?lB2 ?aTURNS ?lTURNS ?xTURNS0 ?xTURNS1 ?xTURNS2 ?xTURNS3 ?xTURNS4 ?xTURNS5 ?xTURNS6 ?xTURNS7 ?z_range ?z_len ?z_min ?z_max ?z_sorted ?z_tuple ?z_int ?z_bool ?z_abs ?z_all ?z_isinstance ?z_list ?z_zip ?z_enumerate ?z_any
  (case a0=>k_is)
  (case l0=>k_is)
  (case c0=>k_is)
  (case k0=>k_is)
  (case a1=>k_is)
  (case l1=>k_is)
  (case c1=>k_is)
  (case k1=>k_is)
  (case a2=>k_is)
  (case l2=>k_is)
  (case c2=>k_is)
  (case k2=>k_is)
  (case a3=>k_is)
  (case l3=>k_is)
  (case c3=>k_is)
  (case k3=>k_is)
  (case a4=>k_is)
  (case l4=>k_is)
  (case c4=>k_is)
  (case k4=>k_is)
  (case a5=>k_is)
  (case l5=>k_is)
  (case c5=>k_is)
  (case k5=>k_is)
  (case a6=>k_is)
  (case l6=>k_is)
  (case c6=>k_is)
  (case k6=>k_is)
  (case a7=>k_is)
  (case l7=>k_is)
  (case c7=>k_is)
  (case k7=>k_is)
  (case a8=>k_is)
  (case l8=>k_is)
  (case c8=>k_is)
  (case k8=>k_is)
  (case a9=>k_is)
  (case l9=>k_is)
  (case c9=>k_is)
  (case k9=>k_is)
  (case a10=>k_is)
  (case l10=>k_is)
  (case c10=>k_is)
  (case k10=>k_is)
  (case a11=>k_is)
  (case l11=>k_is)
  (case c11=>k_is)
  (case k11=>k_is)
  (case a12=>k_is)
  (case l12=>k_is)
  (case c12=>k_is)
  (case k12=>k_is)
  (case a13=>k_is)
  (case l13=>k_is)
  (case c13=>k_is)
  (case k13=>k_is)
  (case a14=>k_is)
  (case l14=>k_is)
  (case c14=>k_is)
  (case k14=>k_is)
  (case a15=>k_is)
  (case l15=>k_is)
  (case c15=>k_is)
  (case k15=>k_is)
  (case a16=>k_is)
  (case l16=>k_is)
  (case c16=>k_is)
  (case k16=>k_is)
  (case a17=>k_is)
  (case l17=>k_is)
  (case c17=>k_is)
  (case k17=>k_is)
  (case a18=>k_is)
  (case l18=>k_is)
  (case c18=>k_is)
  (case k18=>k_is)
  (case a19=>k_is)
  (case l19=>k_is)
  (case c19=>k_is)
  (case k19=>k_is)
  (case a20=>k_is)
  (case l20=>k_is)
  (case c20=>k_is)
  (case k20=>k_is)
  (case a21=>k_is)
  (case l21=>k_is)
  (case c21=>k_is)
  (case k21=>k_is)
  (case a22=>k_is)
  (case l22=>k_is)
  (case c22=>k_is)
  (case k22=>k_is)
  (case a23=>k_is)
  (case l23=>k_is)
  (case c23=>k_is)
  (case k23=>k_is)
  (case a24=>k_is)
  (case l24=>k_is)
  (case c24=>k_is)
  (case k24=>k_is)
  (case a25=>k_is)
  (case l25=>k_is)
  (case c25=>k_is)
  (case k25=>k_is)
  (case a26=>k_is)
  (case l26=>k_is)
  (case c26=>k_is)
  (case k26=>k_is)
  (case a27=>k_is)
  (case l27=>k_is)
  (case c27=>k_is)
  (case k27=>k_is)
  (case a28=>k_is)
  (case l28=>k_is)
  (case c28=>k_is)
  (case k28=>k_is)
  (case a29=>k_is)
  (case l29=>k_is)
  (case c29=>k_is)
  (case k29=>k_is)
  (case a30=>k_is)
  (case l30=>k_is)
  (case c30=>k_is)
  (case k30=>k_is)
  (case a31=>k_is)
  (case l31=>k_is)
  (case c31=>k_is)
  (case k31=>k_is)
  (case a32=>k_is)
  (case l32=>k_is)
  (case c32=>k_is)
  (case k32=>k_is)
  (case a33=>k_is)
  (case l33=>k_is)
  (case c33=>k_is)
  (case k33=>k_is)
  (case a34=>k_is)
  (case l34=>k_is)
  (case c34=>k_is)
  (case k34=>k_is)
  (case a35=>k_is)
  (case l35=>k_is)
  (case c35=>k_is)
  (case k35=>k_is)
  (case a36=>k_is)
  (case l36=>k_is)
  (case c36=>k_is)
  (case k36=>k_is)
  (case a37=>k_is)
  (case l37=>k_is)
  (case c37=>k_is)
  (case k37=>k_is)
  (case a38=>k_is)
  (case l38=>k_is)
  (case c38=>k_is)
  (case k38=>k_is)
  (case a39=>k_is)
  (case l39=>k_is)
  (case c39=>k_is)
  (case k39=>k_is)
  (case a40=>k_is)
  (case l40=>k_is)
  (case c40=>k_is)
  (case k40=>k_is)
  (case a41=>k_is)
  (case l41=>k_is)
  (case c41=>k_is)
  (case k41=>k_is)
  (case a42=>k_is)
  (case l42=>k_is)
  (case c42=>k_is)
  (case k42=>k_is)
  (case a43=>k_is)
  (case l43=>k_is)
  (case c43=>k_is)
  (case k43=>k_is)
  (case a44=>k_is)
  (case l44=>k_is)
  (case c44=>k_is)
  (case k44=>k_is)
  (case a45=>k_is)
  (case l45=>k_is)
  (case c45=>k_is)
  (case k45=>k_is)
  (case a46=>k_is)
  (case l46=>k_is)
  (case c46=>k_is)
  (case k46=>k_is)
  (case a47=>k_is)
  (case l47=>k_is)
  (case c47=>k_is)
  (case k47=>k_is)
  (case a48=>k_is)
  (case l48=>k_is)
  (case c48=>k_is)
  (case k48=>k_is)
  (case a49=>k_is)
  (case l49=>k_is)
  (case c49=>k_is)
  (case k49=>k_is)
  (case a50=>k_is)
  (case l50=>k_is)
  (case c50=>k_is)
  (case k50=>k_is)
  (case a51=>k_is)
  (case l51=>k_is)
  (case c51=>k_is)
  (case k51=>k_is)
  (case a52=>k_is)
  (case l52=>k_is)
  (case c52=>k_is)
  (case k52=>k_is)
  (case a53=>k_is)
  (case l53=>k_is)
  (case c53=>k_is)
  (case k53=>k_is)
  (case a54=>k_is)
  (case l54=>k_is)
  (case c54=>k_is)
  (case k54=>k_is)
  (case a55=>k_is)
  (case l55=>k_is)
  (case c55=>k_is)
  (case k55=>k_is)
  (case a56=>k_is)
  (case l56=>k_is)
  (case c56=>k_is)
  (case k56=>k_is)
  (case a57=>k_is)
  (case l57=>k_is)
  (case c57=>k_is)
  (case k57=>k_is)
  (case a58=>k_is)
  (case l58=>k_is)
  (case c58=>k_is)
  (case k58=>k_is)
  (case a59=>k_is)
  (case l59=>k_is)
  (case c59=>k_is)
  (case k59=>k_is)
  (case a60=>k_is)
  (case l60=>k_is)
  (case c60=>k_is)
  (case k60=>k_is)
  (case a61=>k_is)
  (case l61=>k_is)
  (case c61=>k_is)
  (case k61=>k_is)
  (case a62=>k_is)
  (case l62=>k_is)
  (case c62=>k_is)
  (case k62=>k_is)
  (case aM=>k_is)
  (case lM=>k_is)
  (case x0=>k_is)
  (case x1=>k_is)
  (case x2=>k_is)
  (case x3=>k_is)
  (case x4=>k_is)
  (case x5=>k_is)
  (case x6=>k_is)
  (case x7=>k_is)
  (case aB=>k_is)
  (case lB=>k_is)
  (case aB2=>k_is)
  (case lB2=>k_is)
  (case aTURNS=>k_is)
  (case lTURNS=>k_is)
  (case xTURNS0=>k_is)
  (case xTURNS1=>k_is)
  (case xTURNS2=>k_is)
  (case xTURNS3=>k_is)
  (case xTURNS4=>k_is)
  (case xTURNS5=>k_is)
  (case xTURNS6=>k_is)
  (case xTURNS7=>k_is)
  (case z_range=>k_is)
  (case z_len=>k_is)
  (case z_min=>k_is)
  (case z_max=>k_is)
  (case z_sorted=>k_is)
  (case z_tuple=>k_is)
  (case z_int=>k_is)
  (case z_bool=>k_is)
  (case z_abs=>k_is)
  (case z_all=>k_is)
  (case z_isinstance=>k_is)
  (case z_list=>k_is)
  (case z_zip=>k_is)
  (case z_enumerate=>k_is)
  (case z_any=>k_is)

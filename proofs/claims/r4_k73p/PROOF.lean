import PyProof.Rows.All
import Wide.All
import OpenK.AllK
import Wide.FinOn
import Lean
import PyProof.EqAt
import PyProof.EqKinds
import PyProof.TupleCall
import PySem.Challenge.RW_rimsteps_k73_whole_turns_tell_turnings
set_option Elab.async false
set_option linter.all false
set_option maxRecDepth 100000
open List renaming getElem?_eq_getElem → Aa,getElem?_eq_some_iff → Ad,length_map → Af,mem_of_getElem? → Ah,replicate → Aj,getElem?_map → Ak,size_toArray → An,getElem?_append_left → Ao,length_append → Ap,getD_eq_getElem?_getD → Ar,mem_cons → At,mem_cons_of_mem → Au,length_take → Av,mem_append_right → Aw,map_append → Ax,mem_singleton → AA,getElem?_append_right → AB,mem_cons_self → AE,mem_map → AF,range → AJ,map_cons → AL,take_length → AO,getElem_of_mem → AQ,lookup_cons → AV,getElem_mem → AW,getElem?_eq_none → AZ,length_drop → A0,append_nil → A3,length_cons → A5,set_cons_succ → Bc,set_cons_zero → Bd,mem_append → Bf,flatten_cons → Bk,map_map → Bp,mem_range → Bq,sum_cons → Bw,map_congr_left → BA,length_filter_le → BC,take_of_length_le → BH,replicate_succ → BW,map_eq_nil_iff → BX,length_replicate → B3,filterMap_map → B5,not_mem_nil → B6,map_take → B9,ext_getElem? → Cb,mem_filter → Cc,nodup_cons → Cd,length_nil → Ce,filter_map → Cg,getElem?_drop → Cy,getElem?_take → Cz,length_singleton → CB,take_append_drop → CC,getElem?_zip_eq_some → CH,append_assoc → CK,getElem?_inj → CM,length_range → CN,map_drop → CQ,getElem?_range → CU,cons_append → CV,eq_nil_of_length_eq_zero → CZ,find?_cons → C7,sum_append → Dc,range_succ → Dd,filterMap_append → Dg,pairwise_map → Di,take_succ → Dm,mem_of_mem_take → Do,flatten_append → Dv,getElem?_take_of_lt → Dy,length_filterMap_le → DB,zip_cons_cons → DI,filter_append → DK,append_eq_nil_iff → DO,drop_eq_nil_iff → DP
open PySem renaming Value → Ab,wpAny_bind → Ac,Shared → Ae,wpAny_pure → Am,wpAny → As,model → Az,mainGlobals → AG,Program → AH,Around → AS,World → A1,starEach → A4,Spec → A9,wpAny_holding → Be,wpAny_newObj_type → Bh,foldedSetIterable → Bi,FuncData → Br,compareOp → Bs,cellsFrom → Bv,wpAny_truthy_bool → BD,wpAny_mono → BJ,mem_of_lookup → BK,wpAny_tryCatch → BU,wpAny_loadPart' → BY,wpAny_Call_Name_kw → B4,wpAny_comprehension_free → B8,compEnvC → Ch,wpAny_standAt → Cm,keywordEach → Cn,plainId_quiet → Co,sysModules → Cr,binaryOp → Cs,NameKind → Ct,codeAny → CA,wpAny_passesOwn → CI,wpAny_letGo → CY,codeAny_compStart_list → C4,codeAny_builtin → C9,wpAny_updateSeq → Da,wpAny_pyIter_list → Dh,wpAny_seqItems → Dk,holding → Dr,codeAny_mono → Ds,backToKw → Dx,letOwnedTupleGo → DC,assignEach → DF,wpAny_rule → DG,tupleKind_room_in1 → DH,sliceBounds → DM
open PySem.Heap renaming get?_push_of_some → Ag,lt_size → Aq,get?_push_size → AD,SameBut → C0,get?_update_other → C3
open Nat renaming le_refl → Ai,lt_or_ge → AC,ne_of_lt → AK,lt_of_lt_of_le → AM,mod_lt → AU,le_trans → Ba,le_of_lt → Bg,zero_le → Bj,eq_zero_or_pos → Bu,lt_irrefl → BM,dvd_of_mod_eq_zero → BV,zero_add → Ck,le_succ → Cp,le_add_right → Cq,mod_eq_of_lt → CW,mod_two_eq_zero_or_one → Dp,min_eq_left → DE
open PySem.Value renaming ref → Ay
open Option.some renaming inj → AI
open PyProof.Rows renaming arrOf → AN,wpS_bind → Bb,seqObj → Bm,slot_tuple_getitem → Bo,getElem?_mirror_all → Bz,wpS_pure → BI,callWith_type1 → BQ,SortSt → BZ,SortKind → Ci,IntsAre → Cj,failedOf → Db,pendingOf → De,wpS_forRange → Dt,get?_update_seq → DD
open Bool renaming false_ne_true → AR,eq_iff_iff → BN,and_eq_true → BO,false_eq_true → Cv
open PySem.Obj renaming mapSeq → AT
open PySem.F renaming plain_min_loop → AX,plainAttrs_list → A6,slot_list_append → Bx,type_list_append → By,entry_min_loop → BS,args_tuple_add_2 → Dz,entry_tuple_add → DL,slot_list_index → DN
open Option renaming map_eq_some_iff → AY,map_some → C8
open PySem.NameKind renaming free → A7,cell → Bn
open PySem.PassesOwn renaming never → A8
open PySem.SeqAt renaming shaped → Bl
open PySem.PyData renaming depth → Bt,keyHash → BG,eqv → Cf,canLay0 → Cw,canLayAll0 → CL,int → C5
open False renaming elim → BB
open PySem.Builtin.Builtins renaming bindParams → BE
open PySem.W renaming mg_none_of → BF,nsIn → CS,fnOf → Dj,kas_item → Dl
open PySem.Heap.SameBut renaming update → BL
open Ne renaming symm → BP
open Lean renaming maxHeartbeats → BR
open PySem.Str renaming ofString → B7
open PySem.Around renaming under_plainId → Ca
open Prod renaming ext → Cu
open PySem.Builtin.Slice renaming slicePlaces → CF,sliceAdjust → Du
open Int renaming toNat_natCast → CJ,zero_add → C6
open PySem.Builtin.Tuple renaming tupleExact → CO
open PySem.Builtin.List renaming listTooLong → CP
open Array renaming length_toList → CT
open Sum renaming inl → Dq
open PySem.Paired renaming length → Dw
open PySem.Walks renaming list → DJ
namespace L2
open PySem PySem.Spec PyProof.Rows
noncomputable abbrev Key:=Sum Int Str
noncomputable def keyIs:Key->Ab->Bool
 |.inl k,v=>Value.isInt k v
 |.inr x,v=>Value.isStrOf x v
noncomputable def keyH(w:A1):Key->Int
 |.inl k=>hashInt k
 |.inr x=>hashStr w x
theorem zaU:∀{k:Key}{v:Ab},keyIs k v=true->(∃i t,k=Dq i/\v=Value.int i t)∨(∃x t,k=Sum.inr x/\v=Value.str x t)
 |.inl i,v,h=>by
  obtain⟨t,e⟩:=Value.isInt_shape (k:=i) (v:=v) h;exact .inl ⟨i,t,rfl,e⟩
 |.inr x,v,h=>by
  obtain⟨t,e⟩:=Value.isStrOf_shape (x:=x) (v:=v) h;exact .inr ⟨x,t,rfl,e⟩
theorem zkL(i:Int)(t:Tok):keyIs (.inl i) (.int i t)=true:=by simp[keyIs,Value.isInt]
theorem zkK(x:Str)(t:Tok):keyIs (.inr x) (.str x t)=true:=by simp[keyIs,Value.isStrOf]
theorem znP(a b:Int):decide ((Dq a:Key)=Dq b)=(a == b):=by
 by_cases e:a=b
 .subst e;simp
 .have h:¬ (Dq a:Key)=Dq b:=λq=>e (Sum.inl.inj q)
  rw[decide_eq_false h];exact (beq_eq_false_iff_ne.mpr e).symm
theorem znM(a b:Str):decide ((Sum.inr a:Key)=Sum.inr b)=decide (a=b):=by
 by_cases e:a=b
 .subst e;simp
 .have h:¬ (Sum.inr a:Key)=Sum.inr b:=λq=>e (Sum.inr.inj q)
  rw[decide_eq_false h,decide_eq_false e]
theorem znO(a:Int)(b:Str):decide ((Dq a:Key)=Sum.inr b)=false:=decide_eq_false (λq=>nomatch q)
theorem znN(a:Str)(b:Int):decide ((Sum.inr a:Key)=Dq b)=false:=decide_eq_false (λq=>nomatch q)
noncomputable def zaR(prog:AH)(w:A1):PySem.KeyKind prog w Key where
 is:=keyIs
 hash:=keyH w
 inj:=λv a b ha hb=>by
  rcases zaU ha with⟨i,t,rfl,rfl⟩ |⟨x,t,rfl,rfl⟩
  .rcases zaU hb with⟨j,u,rfl,e⟩ |⟨y,u,rfl,e⟩
   .injection e with e1 _;rw[e1]
   .exact nomatch e
  .rcases zaU hb with⟨j,u,rfl,e⟩ |⟨y,u,rfl,e⟩
   .exact nomatch e
   .injection e with e1 _;rw[e1]
 byValue:=λk v h=>by rcases zaU h with⟨i,t,rfl,rfl⟩ |⟨x,t,rfl,rfl⟩ <;> rfl
 pyHash:=λhv h=>by
  rcases zaU hv with⟨i,t,rfl,rfl⟩ |⟨x,t,rfl,rfl⟩
  .exact wpAny_pyHash_int h
  .exact wpAny_pyHash_str h
 eqBool:=λhu hv h=>by
  rcases zaU hu with⟨i,t,rfl,rfl⟩ |⟨x,t,rfl,rfl⟩
  .rcases zaU hv with⟨j,u,rfl,rfl⟩ |⟨y,u,rfl,rfl⟩
   .rw[znP]at h;exact wpAny_eqBool_int h
   .rw[znO]at h;exact SeqAt.EqAt.int_str i t y u _ _ _ _ h
  .rcases zaU hv with⟨j,u,rfl,rfl⟩ |⟨y,u,rfl,rfl⟩
   .rw[znN]at h;exact SeqAt.EqAt.str_int x t j u _ _ _ _ h
   .rw[znM]at h;exact wpAny_eqBool_str h
 «strs»:=λk x t v h=>by
  rcases zaU h with⟨i,u,rfl,e⟩ |⟨y,u,rfl,e⟩
  .exact nomatch e
  .injection e with e1 _;subst e1
   cases v <;> rfl
theorem zh2(prog:AH)(w:A1)(i:Int)(t:Tok):(zaR prog w).is (.inl i) (.int i t)=true:=zkL i t
theorem zbS(prog:AH)(w:A1)(x:Str)(t:Tok):(zaR prog w).is (.inr x) (.str x t)=true:=zkK x t
inductive V where
 |non |bl (b:Bool) |int (i:Int) |str (x:Str) |byt (b:Array UInt8) |flt (b:UInt64) |ref (a:Addr) |ty (n:String)
 deriving DecidableEq
noncomputable def RelV:V->Ab->Prop
 |.non,u=>u=Value.none
 |.bl b,u=>u=Value.bool b
 |.int i,u=>∃t,u=Value.int i t
 |.str x,u=>∃t,u=Value.str x t
 |.byt b,u=>∃t,u=Value.bytes b t
 |.flt b,u=>∃t,u=Value.float b t
 |.ref a,u=>u=Ay a
 |.ty n,u=>u=Value.type n
noncomputable abbrev Vals:List V->List Ab->Prop:=Paired RelV
theorem Vals.length{xs:List V}{us:List Ab}(r:Vals xs us):xs.length=us.length:=Dw r
theorem Vals.get:∀{xs:List V}{us:List Ab}{i:Nat}{x:V},Vals xs us->xs[i]?=some x->∃u,us[i]?=some u/\RelV x u
 |_,_,_,_,.nil,e=>by simp at e
 |_,_,0,_,.cons r _,e=>by simp at e;subst e;exact⟨_,rfl,r⟩
 |_,_,i+1,x,.cons _ t,e=>by
  obtain⟨u,h1,h2⟩:=Vals.get (i:=i) (x:=x) t (by simpa using e);exact⟨u,by simpa using h1,h2⟩
theorem Vals.set{x:V}{u:Ab}(r:RelV x u):∀{xs:List V}{us:List Ab}(i:Nat),Vals xs us->Vals (xs.set i x) (us.set i u)
 |_,_,_,.nil=>.nil
 |_,_,0,.cons _ t=>.cons r t
 |_,_,i+1,.cons q t=>.cons q (Vals.set r i t)
theorem Vals.append:∀{xs ys:List V}{us ws:List Ab},Vals xs us->Vals ys ws->Vals (xs++ys) (us++ws)
 |_,_,_,_,.nil,s=>s
 |_,_,_,_,.cons r t,s=>.cons r (Vals.append t s)
theorem Vals.take:∀{xs:List V}{us:List Ab}(n:Nat),Vals xs us->Vals (xs.take n) (us.take n)
 |_,_,0,_=>.nil
 |_,_,_+1,.nil=>.nil
 |_,_,n+1,.cons r t=>.cons r (Vals.take n t)
theorem Vals.drop:∀{xs:List V}{us:List Ab}(n:Nat),Vals xs us->Vals (xs.drop n) (us.drop n)
 |_,_,0,r=>r
 |_,_,_+1,.nil=>.nil
 |_,_,n+1,.cons _ t=>Vals.drop n t
noncomputable def RelO:Option V->Option Ab->Prop
 |some v,some u=>RelV v u
 |none,none=>True
 |_,_=>False
noncomputable def KV{κ:Type}:List (κ×V)->List (κ×Ab)->Prop:=Paired λ(p:κ×V) (q:κ×Ab)=>p.1=q.1/\RelV p.2 q.2
noncomputable def kV:Key->V
 |.inl i=>.int i
 |.inr x=>.str x
inductive HO where
 /-- a list -/
 |lst (xs:List V)
 /-- a tuple (never changes) -/
 |tup (xs:List V)
 /-- a dict whose keys are ints and texts;one whose keys are tuples of ints and texts (the empty one is both) -/
 |dK (kvs:List (Key×V)) |dT (kvs:List (List Key×V))
 /-- a set of ints: its members,its size -/
 |set (S:Int->Bool) (n:Nat)
 /-- an instance of the class at C,its dict at dx,its attributes -/
 |ins (C dx:Addr) (fs:List (Str×V))
 /-- the dict of the instance at x -/
 |own (x:Addr)
 /-- the dict of an exception -/
 |xd (fs:List (Str×V))
 /-- a bound method,f of x -/
 |met (f x:Addr)
 /-- a range object lo,lo+1,.. below hi -/
 |rng (lo hi:Int)
 /-- a thing that is known to the object (the script;a dict while a loop walks it): read,never written while it is so -/
 |frz (o:Obj) (u:HO)
 /-- a code object's table -/
 |tbl (ps:Array Ab)
 /-- any other thing,by what is true of its one object (a def of one's own: SetO a S n:=HO.ext λh=>..) -/
 |ext (φ:Heap->Prop)
noncomputable abbrev Hp:=Addr->Option HO
noncomputable def upd(H:Hp)(a:Addr)(o:HO):Hp:=λb=>if b=a then some o else H b
theorem zaa{H:Hp}{a:Addr}{o:HO}:upd H a o a=some o:=by unfold upd;rw[if_pos rfl]
theorem zam{H:Hp}{a b:Addr}{o:HO}(h:b≠a):upd H a o b=H b:=by unfold upd;rw[if_neg h]
theorem zmv{H:Hp}{a:Addr}{o u:HO}:upd (upd H a o) a u=upd H a u:=by
 funext b;unfold upd;split <;> rfl
theorem ne_of{H:Hp}{a b:Addr}{o u:HO}(h:H a=some o)(h':H b=some u)(d:o≠u):a≠b:=by intro e;subst e;rw[h]at h';exact d (AI h')
theorem zaq{H:Hp}{a b:Addr}{o:HO}(h:H a=some o)(h':H b=none):a≠b:=by intro e;subst e;rw[h]at h';cases h'
section
variable (P:AH) (w:A1)
noncomputable def ObjOk(H:Hp)(h:Heap)(a:Addr):HO->Prop
  |.lst xs=>xs.length<=sizeLine/\∃(its:List Ab) (n:Nat),Vals xs its/\h.get? a=some { cls:=.type "list",data:=.seq its.toArray n }
  |.tup xs=>xs.length<=sizeLine/\∃its:List Ab,Vals xs its/\IsTup h a its.toArray
  |.dK kvs=>kvs.length<=sizeLine/\(a == Cr)=false/\∃vs,KV kvs vs/\h.DictOf (zaR P w) a vs
  |.dT kvs => kvs.length <= sizeLine /\ (a == Cr)=false /\ ∃xs:List (List Key × Addr × Ab),
      Paired (λ(p:List Key×V) (q:List Key×Addr×Ab)=>p.1=q.1/\H q.2.1=some (.tup (p.1.map kV))/\RelV p.2 q.2.2) kvs xs /\
      ∃o es ep,h.get? a=some o/\o.ExactDict/\o.data=.dict es ep/\es.toList=xs.map (entryOfKey (tupleKind (zaR P w)))/\(xs.map (·.1)).Nodup
  |.set S n=>h.SetOf (intKind P w) a S n
  |.ins C dx fs => H dx=some (.own a) /\ fs.length <= 1000 /\ dx ≠ a /\ h.get? a=some (W.instObj C dx) /\
      ∃mA,h.Ns1 dx mA/\(∀f,RelO (fs.lookup f) (mA f))/\PySem.Within mA (fs.map (·.1))
  |.own _=>∃o,h.get? a=some o
  |.xd fs=>∃mA,h.Ns1 a mA/\∀f,RelO (fs.lookup f) (mA f)
  |.rng lo hi=>∃t u v,h.get? a=some { cls:=.type "range",data:=.fields #[.int lo t,.int hi u,.int 1 v] }
  |.frz o u=>h.get? a=some o/\ObjOk H h a u
  |.tbl ps=>h.get? a=some { cls:=.none,data:=.fields ps }
  |.met f x=>h.get? a=some (W.methodObj (.ref f) (.ref x))
  |.ext φ=>φ h/\(∃o,h.get? a=some o)/\∀h1 h2:Heap,φ h1->(∀o,h1.get? a=some o->h2.get? a=some o)->φ h2
noncomputable def HOk(H:Hp)(h:Heap):Prop:=∀a o,H a=some o->ObjOk P w H h a o
end
section
variable {P:AH}{w:A1}{H H':Hp}{h h':Heap}{a:Addr}{o:HO}
theorem ObjOk.lt(x:ObjOk P w H h a o):a<h.objs.size:=by
 cases o with
 |lst xs=>obtain⟨_,_,_,_,e⟩:=x;exact Aq e
 |tup xs=>obtain⟨_,_,_,p⟩:=x;exact p.lt
 |dK kvs=>obtain⟨_,_,_,_,o,_,_,e,_⟩:=x;exact Aq e
 |dT kvs=>obtain⟨_,_,_,_,o,_,_,e,_⟩:=x;exact Aq e
 |set S n=>obtain⟨o,_,_,_,e,_⟩:=x;exact Aq e
 |ins C dx fs=>obtain⟨_,_,_,e,_⟩:=x;exact Aq e
 |own y=>obtain⟨_,e⟩:=x;exact Aq e
 |xd fs=>obtain⟨_,⟨_,_,_,e,_⟩,_⟩:=x;exact Aq e
 |rng lo hi=>obtain⟨_,_,_,e⟩:=x;exact Aq e
 |frz ob u=>obtain⟨e,_⟩:=x;exact Aq e
 |tbl ps=>exact Aq (show h.get? a=some _ from x)
 |met f y=>exact Aq (show h.get? a=some _ from x)
 |ext φ=>obtain⟨_,⟨_,e⟩,_⟩:=x;exact Aq e
theorem Paired.mapP{α β:Type}{F G:α->β->Prop}:∀{l₁:List α}{l₂:List β},Paired F l₁ l₂->(∀a b,F a b->G a b)->Paired G l₁ l₂
 |_,_,.nil,_=>.nil
 |_,_,.cons r t,f=>.cons (f _ _ r) (Paired.mapP t f)
theorem ObjOk.stay(x:ObjOk P w H h a o)(k:∀b u, (b=a ∨ H b=some (.own a)) -> h.get? b=some u -> h'.get? b=some u)
  (ho:∀b,H b=some (.own a)->H' b=some (.own a)) (ht:∀b xs,H b=some (.tup xs)->H' b=some (.tup xs)):ObjOk P w H' h' a o:=by
 induction o with
 |lst xs=>obtain⟨z,its,n,r,e⟩:=x;exact⟨z,its,n,r,k _ _ (.inl rfl) e⟩
 |tup xs=>obtain⟨z,its,r,ob,e,c⟩:=x;exact⟨z,its,r,ob,k _ _ (.inl rfl) e,c⟩
 |dK kvs=>obtain⟨z,y,vs,r,ob,es,ep,e,c⟩:=x;exact⟨z,y,vs,r,ob,es,ep,k _ _ (.inl rfl) e,c⟩
 |dT kvs =>
  obtain⟨z,y,xs,r,ob,es,ep,e,c⟩:=x;exact⟨z,y,xs,Paired.mapP r λp q z=>⟨z.1,ht _ _ z.2.1,z.2.2⟩,ob,es,ep,k _ _ (.inl rfl) e,c⟩
 |set S n=>obtain⟨ob,es,ep,t,e,c⟩:=x;exact⟨ob,es,ep,t,k _ _ (.inl rfl) e,c⟩
 |ins C dx fs =>
  obtain⟨d,z,ne,e,mA,⟨od,es,ep,e2,c⟩,r⟩:=x;exact⟨ho _ d,z,ne,k _ _ (.inl rfl) e,mA,⟨od,es,ep,k _ _ (.inr d) e2,c⟩,r⟩
 |own y=>obtain⟨ob,e⟩:=x;exact⟨ob,k _ _ (.inl rfl) e⟩
 |xd fs=>obtain⟨mA,⟨od,es,ep,e,c⟩,r⟩:=x;exact⟨mA,⟨od,es,ep,k _ _ (.inl rfl) e,c⟩,r⟩
 |rng lo hi=>obtain⟨t,u,v,e⟩:=x;exact⟨t,u,v,k _ _ (.inl rfl) e⟩
 |frz ob u ih=>obtain⟨e,q⟩:=x;exact⟨k _ _ (.inl rfl) e,ih q⟩
 |tbl ps =>
  have e:h.get? a=some { cls:=.none,data:=.fields ps }:=x;show h'.get? a=some { cls:=.none,data:=.fields ps };exact k a _ (.inl rfl) e
 |met f y =>
  have e:h.get? a=some (W.methodObj (.ref f) (.ref y)):=x;show h'.get? a=some (W.methodObj (.ref f) (.ref y));exact k a _ (.inl rfl) e
 |ext φ=>obtain⟨p,⟨o,e⟩,st⟩:=x;exact⟨st _ _ p λo q=>k _ _ (.inl rfl) q,⟨o,k _ _ (.inl rfl) e⟩,st⟩
theorem HOk.lt(x:HOk P w H h)(e:H a=some o):a<h.objs.size:=(x a o e).lt
theorem HOk.fresh(x:HOk P w H h)(e:h.objs.size<=a):H a=none:=by
 cases q:H a with
 |none=>rfl
 |some u=>exact absurd (AM (x.lt q) e) (BM _)
theorem HOk.kept(x:HOk P w H h)(k:∀b u,h.get? b=some u->h'.get? b=some u):HOk P w H h':=λa o e =>
 (x a o e).stay (λb u _ q=>k b u q) (λ_ q=>q) λ_ _ q=>q
theorem HOk.laid(x:HOk P w H h)(k:∀b u,h.get? b=some u->h'.get? b=some u)(hp:h.objs.size<=a)(new:ObjOk P w (upd H a o) h' a o):HOk P w (upd H a o) h':=λb u e=>by
 have hn:=x.fresh hp
 by_cases hb:b=a
 .subst hb;rw[zaa]at e;cases e;exact new
 .rw[zam hb]at e;exact (x b u e).stay (λc v _ q=>k c v q) (λc q=>by rw[zam (zaq q hn)];exact q) λc xs q=>by rw[zam (zaq q hn)];exact q
end
noncomputable def Rd(H:Hp)(a:Addr)(u:HO):Prop:=H a=some u∨∃o,H a=some (.frz o u)
theorem Rd.of{H:Hp}{a:Addr}{u:HO}(h:H a=some u):Rd H a u:=.inl h
theorem Rd.ok{P:AH}{w:A1}{H:Hp}{h:Heap}{a:Addr}{u:HO}(r:Rd H a u)(x:HOk P w H h):ObjOk P w H h a u:=by
 rcases r with r |⟨o,r⟩
 .exact x a u r
 .obtain⟨_,q⟩:=x a _ r;exact q
noncomputable def Mut:Option HO->Prop
 |some (.lst _)=>True
 |some (.dK _)=>True
 |some (.dT _)=>True
 |some (.set _ _)=>True
 |some (.ins _ _ _)=>True
 |some (.ext _)=>True
 |_=>False
section
variable {P:AH}{w:A1}{H:Hp}{h h':Heap}{x e:Addr}{o':HO}
theorem HOk.write(ok:HOk P w H h)(mu:Mut (H x))(he:e=x ∨ H e=some (.own x))(k:∀b u, b ≠ e -> h.get? b=some u -> h'.get? b=some u)(heo:∃u, h'.get? e=some u)
  (new:ObjOk P w (upd H x o') h' x o'):HOk P w (upd H x o') h':=λb u q=>by
 have nown:∀c y,H c=some (.own y)->c≠x:=λc y r z=>by subst z;rw[r]at mu;exact mu
 have ntup:∀c xs,H c=some (.tup xs)->c≠x:=λc xs r z=>by subst z;rw[r]at mu;exact mu
 by_cases hb:b=x
 .subst hb;rw[zaa]at q;cases q;exact new
 .rw[zam hb]at q
  by_cases hbe:b=e
  .have q':H b=some (.own x) := by
    rcases he with z |z
    .exact absurd (hbe.trans z) hb
    .rw[hbe];exact z
   rw[q]at q';cases q';obtain⟨v,hv⟩:=heo;exact⟨v,by rw[hbe];exact hv⟩
  .refine (ok b u q).stay (λc v hc r=>k c v ?_ r) (λc r=>by rw[zam (nown c b r)];exact r) λc xs r=>by rw[zam (ntup c xs r)];exact r
   rcases hc with rfl |hc
   .exact hbe
   .rintro rfl;rcases he with z |z
    .exact nown c b hc z
    .rw[hc]at z;cases z;exact hb rfl
end
structure Un (fs ex:List Addr) (H H':Hp) (h h':Heap):Prop where
 keep:∀b o,h.get? b=some o->H b=none->b ∉ fs->b ∉ ex->h'.get? b=some o
 slot:∀b o,h.get? b=some o->H b=none->b∈fs->b ∉ ex->∃sl,h'.get? b=some { o with slots:=sl }
 free:∀b o,h.get? b=some o->H b=none->b ∉ ex->H' b=none
 there:∀b o,h.get? b=some o->b ∉ ex->∃o',h'.get? b=some o'
 tups:∀b xs,H b=some (.tup xs)->H' b=some (.tup xs)
 frzs:∀b o u,H b=some (.frz o u)->H' b=some (.frz o u)
 tbls:∀b ps,H b=some (.tbl ps)->∃more,H' b=some (.tbl (ps++more))
section
variable {fs fs' ex ex':List Addr}{H H1 H2:Hp}{h h1 h2 h':Heap}{a x e:Addr}{o:HO}
theorem Un.any(u:Un fs ex H H1 h h1){b:Addr}{ob:Obj}(q:h.get? b=some ob)(n:H b=none)(hx:b ∉ ex):∃sl,h1.get? b=some { ob with slots:=sl }:=by
 by_cases hb:b∈fs
 .exact u.slot b ob q n hb hx
 .exact⟨ob.slots,u.keep b ob q n hb hx⟩
theorem Un.kept(k:∀b u,h.get? b=some u->h'.get? b=some u):Un fs ex H H h h' :=
 ⟨λb ob q _ _ _=>k b ob q,λb ob q _ _ _=>⟨ob.slots,k b ob q⟩,λ_ _ _ n _=>n,λb ob q _=>⟨ob,k b ob q⟩,λ_ _ q=>q,λ_ _ _ q=>q,λ_ ps q=>⟨#[],by rw[q];simp⟩⟩
theorem Un.refl:Un fs ex H H h h:=Un.kept λ_ _ q=>q
theorem Un.laid(k:∀b u,h.get? b=some u->h'.get? b=some u)(hp:h.objs.size<=a)(hn:H a=none):Un fs ex H (upd H a o) h h' where
 keep:=λb u q _ _ _=>k b u q
 slot:=λb u q _ _ _=>⟨u.slots,k b u q⟩
 free:=λb u q n _=>by rw[zam (AK (AM (Aq q) hp))];exact n
 there:=λb u q _=>⟨u,k b u q⟩
 tups:=λb xs q=>by rw[zam (zaq q hn)];exact q
 frzs:=λb u xs q=>by rw[zam (zaq q hn)];exact q
 tbls:=λb ps q=>⟨#[],by rw[zam (zaq q hn),q];simp⟩
theorem Un.write(mu:Mut (H x))(he:e=x∨H e=some (.own x))(k:∀b u,b≠e->h.get? b=some u->h'.get? b=some u)(heo:∃u,h'.get? e=some u):Un fs ex H (upd H x o) h h':=by
 have hx:∀b,H b=none->b≠x:=λb n z=>by subst z;rw[n]at mu;exact mu
 have hb:∀b,H b=none->b≠e:=λb n z=>by
  subst z;rcases he with r |r
  .exact hx b n r
  .rw[n]at r;cases r
 have hm:∀b u,H b=some u->¬ Mut (some u)->b≠x:=λb u q nm z=>by subst z;rw[q]at mu;exact nm mu
 refine⟨λb u q n _ _=>k b u (hb b n) q,λb u q n _ _=>⟨u.slots,k b u (hb b n) q⟩,λb u q n _=>by rw[zam (hx b n)];exact n,λb u q _=>?_,
  λb xs q=>by rw[zam (hm b _ q λz=>z)];exact q,λb u xs q=>by rw[zam (hm b _ q λz=>z)];exact q,λb ps q=>⟨#[],by rw[zam (hm b _ q λz=>z),q];simp⟩⟩
 by_cases hbe:b=e
 .subst hbe;exact heo
 .exact⟨u,k b u hbe q⟩
end
noncomputable def trk(h:Heap)(H:Hp):List Addr:=(AJ h.objs.size).filter λa=>(H a).isSome
noncomputable def hidT(h:Heap)(H:Hp):Heap:=W.hideAll h (trk h H)
theorem zkS(h:Heap)(H:Hp):(hidT h H).objs.size=h.objs.size:=W.hideAll_size _ _
theorem zlM{h:Heap}{H:Hp}{b:Addr}{o:Obj}(e:h.get? b=some o)(n:H b=none):(hidT h H).get? b=some o :=
 W.hideAll_get _ e λhm=>by have q:(H b).isSome=true:=(Cc.mp hm).2;rw[n]at q;simp at q
theorem zmX{h:Heap}{H:Hp}{b:Addr}{o:Obj}(e:(hidT h H).get? b=some o):h.get? b=some o/\H b=none:=by
 have e':h.get? b=some o:=W.of_hideAll (trk h H) e;refine⟨e',?_⟩
 cases q:H b with
 |none=>rfl
 |some x =>
  have hm:b∈trk h H:=Cc.mpr ⟨Bq.mpr (Aq e'),by simp[q]⟩;have z:(hidT h H).get? b=none:=W.hideAll_none (trk h H) hm;rw[z]at e;cases e
noncomputable def znd(g h:Heap)(L:Addr):List (Addr×Obj):=(AJ h.objs.size).filterMap λa=>if a=L∨(g.get? a).isSome=true then none else (h.get? a).map λo=>(a,o)
noncomputable def rest(g h:Heap)(L d:Addr):List (Addr×Obj):=(znd g h L).filter λp=>decide (p.1≠d)
structure Mod (K:W.Frag) (mg:Str->Option Ab) (base:Heap):Prop where
 kin:K.In base
 glob:base.Ns AG mg
 blt:∃mb,base.Ns builtinsNs mb/\∀x:Str,x ≠ "__name__" -> mb x=bootBuiltins x
 nolimit:base.NoLimit
structure Cx where
 prog:AH
 w:A1
 K:W.Frag
 mg:Str->Option Ab
 base:Heap
 A:AS
 N:List Str
 s₀:Ae
 H₀:Hp
 env:Env
 outer:List Env
 stack:List Env
 ex:List Addr
 fn:Str->Bool
 calm:Bool
 pn:List (Addr×Obj)
 xe:Ab->Ae->Prop
noncomputable def frs(l:List Env):List Addr:=l.filterMap (·.frame)
noncomputable abbrev Cx.fs(X:Cx):List Addr:=frs X.outer
noncomputable def Vis(sc:Scope)(x:Str):Prop:=sc.names.lookup x=some .local∨sc.names.lookup x=some .cell∨sc.names.lookup x=some .free
noncomputable def Loc(sc:Scope)(x:Str):Prop:=sc.names.lookup x=some .local∨sc.names.lookup x=some .cell
noncomputable def Look(env:Env)(h:Heap)(m:Str->Option Ab)(x:Str)(u:Ab):Prop :=
 (env.kindOf x=some .local/\m x=some u)∨((env.kindOf x=some .cell∨env.kindOf x=some .free)/\∃c,env.cells.lookup x=some c/\h.IsCell c (some u))
structure Cx.Ok (X:Cx):Prop where
 mod:Mod X.K X.mg X.base
 kind:X.env.scope.kind=.function
 glob:X.env.globals=AG
 blt:X.env.builtins=builtinsNs
 above:X.s₀.heap.objs.size<=X.env.locals
 inj:∀x y c,X.env.cells.lookup x=some c->X.env.cells.lookup y=some c->x=y
 has:∀x,(X.env.kindOf x=some .cell∨X.env.kindOf x=some .free)->∃c,X.env.cells.lookup x=some c
 cab:∀x c,X.fn x=true->X.env.cells.lookup x=some c->X.s₀.heap.objs.size<=c
 hd:X.calm=true->X.A.handled=none
 frames:X.A.frames=some X.stack
 stk:X.stack=X.outer∨(X.stack=X.env::X.outer/\X.env.frame=some X.env.locals)
 exf:∀b∈X.ex,b≠X.env.locals/\∀x c,X.env.cells.lookup x=some c->c≠b
 bs:∀b o,X.base.get? b=some o->X.s₀.heap.get? b=some o/\X.H₀ b=none
 bsz:X.base.objs.size<=X.s₀.heap.objs.size
 noex:∀b o,X.base.get? b=some o->b ∉ X.ex
 exfs:∀b∈X.ex,b ∉ X.fs
 funs:X.s₀.heap.FunFrames X.base X.outer
 frf:∀b∈X.fs,X.H₀ b=none
structure Inv (X:Cx) (pins:List (Addr×Obj)) (σ:List (Option V)) (H:Hp) (s:Ae):Prop where
 ok:X.Ok
 os:s.os=X.s₀.os
 bare:AllBare s.gens
 base:Un X.fs X.ex X.H₀ H X.s₀.heap s.heap
 loc:∃m,s.heap.Ns X.env.locals m/\∀(i:Nat) (x:Str) (v:V),X.N[i]?=some x->σ[i]?=some (some v)->Vis X.env.scope x->∃u,RelV v u/\Look X.env s.heap m x u
 cell:∀x c,X.env.cells.lookup x=some c->∃v,s.heap.IsCell c v
 free:H X.env.locals=none
 freeC:∀x c,X.env.cells.lookup x=some c->H c=none
 pin:∀p∈X.pn++pins,s.heap.get? p.1=some p.2/\H p.1=none/\p.1≠X.env.locals/\p.1 ∉ X.fs/\∀v,p.2.data≠.cell v
 hok:HOk X.prog X.w H s.heap
 len:σ.length=X.N.length
section
variable {X:Cx}{pins:List (Addr×Obj)}{σ:List (Option V)}{H H':Hp}{s:Ae}{h':Heap}
theorem Cx.Ok.nofr(ok:X.Ok){b:Addr}{o:Obj}(e:X.base.get? b=some o):b ∉ X.fs:=λhb=>by have:=(ok.funs.mem hb).1;rw[e]at this;cases this
theorem Inv.bs(I:Inv X pins σ H s):∀b o,X.base.get? b=some o->s.heap.get? b=some o/\H b=none:=λb o e =>
 ⟨I.base.keep b o (I.ok.bs b o e).1 (I.ok.bs b o e).2 (I.ok.nofr e) (I.ok.noex b o e),I.base.free b o (I.ok.bs b o e).1 (I.ok.bs b o e).2 (I.ok.noex b o e)⟩
theorem Inv.bk(I:Inv X pins σ H s):∀b o,X.base.get? b=some o->s.heap.get? b=some o:=λb o e=>(I.bs b o e).1
theorem Inv.mod(I:Inv X pins σ H s):Mod X.K X.mg X.base:=I.ok.mod
theorem Inv.kIn(I:Inv X pins σ H s):X.K.In s.heap:=I.ok.mod.kin.keeps I.bk
theorem Inv.lt(I:Inv X pins σ H s):X.env.locals<s.heap.objs.size:=let ⟨_,hn,_⟩:=I.loc;hn.lt
theorem Inv.sz(I:Inv X pins σ H s):X.s₀.heap.objs.size<=s.heap.objs.size:=Ba I.ok.above (Bg I.lt)
theorem Inv.nofs(I:Inv X pins σ H s){a:Addr}(h:s.heap.objs.size<=a):a ∉ X.fs:=λhb=>by obtain⟨_,o,ho,_⟩:=I.ok.funs.mem hb;exact absurd (AM (Aq ho) (Ba I.sz h)) (BM _)
theorem Inv.cne(I:Inv X pins σ H s):∀x c,X.env.cells.lookup x=some c->c≠X.env.locals:=λx c e z=>by obtain⟨v,o,ho,hd⟩:=I.cell x c e;obtain⟨m,⟨o',es,ep,ho',hd',_⟩,_⟩:=I.loc;rw[z,ho']at ho;cases ho;rw[hd']at hd;cases hd
theorem Inv.funs(I:Inv X pins σ H s):s.heap.FunFrames X.base X.outer:=by
 have all:∀(l:List Env),(∀b∈frs l,b∈X.fs)->X.s₀.heap.FunFrames X.base l->s.heap.FunFrames X.base l:=by
  intro l
  induction l with
  |nil=>intro _ _;trivial
  |cons env r ih =>
   intro hs hl;obtain⟨hk,⟨L,o,hf,hn,ho,hd⟩,hr⟩:=hl;have hL:L∈X.fs:=hs L (by unfold frs;rw[List.filterMap_cons,hf];exact AE);obtain⟨sl,e⟩:=I.base.slot L o ho (I.ok.frf L hL) hL λz=>I.ok.exfs L z hL
   exact⟨hk,⟨L,_,hf,hn,e,hd⟩,ih (λb hb=>hs b (by unfold frs;rw[List.filterMap_cons,hf];exact Au _ hb)) hr⟩
 exact all X.outer (λ_ hb=>hb) I.ok.funs
theorem Inv.stack(I:Inv X pins σ H s):s.heap.FunFrames X.base X.stack:=by
 rcases I.ok.stk with e |⟨e,hf⟩
 .rw[e];exact I.funs
 .rw[e];obtain⟨m,hn,_⟩:=I.loc;refine .cons (by rw[I.ok.kind];decide) hf hn ?_ I.funs;exact Heap.get?_none_of_le (Ba I.ok.bsz I.ok.above)
theorem Inv.stkSub(I:Inv X pins σ H s):∀b∈frs X.stack,b∈X.env.locals::X.fs:=λb hb=>by
 rcases I.ok.stk with e |⟨e,hf⟩
 .rw[e]at hb;exact Au _ hb
 .rw[e]at hb;unfold frs at hb;rw[List.filterMap_cons,hf]at hb;exact hb
theorem Inv.stkFree(I:Inv X pins σ H s):∀b∈frs X.stack,H b=none:=λb hb=>by
 rcases At.mp (I.stkSub b hb) with e |hb
 .rw[e];exact I.free
 .obtain⟨_,o,ho,_⟩:=I.ok.funs.mem hb;exact I.base.free b o ho (I.ok.frf b hb) λz=>I.ok.exfs b z hb
theorem Inv.step{g':Array GenState}{t':Nat}{d':Drawn}{ch:List Addr}(I:Inv X pins σ H s)
  (hch:∀b∈ch,(b∈X.ex∨X.s₀.heap.objs.size<=b)/\b≠X.env.locals/\(∀x c,X.env.cells.lookup x=some c->c≠b)/\∀p∈X.pn++pins,p.1≠b)
  (keep:∀b o,b≠X.env.locals->b ∉ X.fs->b ∉ ch->s.heap.get? b=some o->H b=none->h'.get? b=some o)
  (slot:∀b o,b≠X.env.locals->b∈X.fs->b ∉ ch->s.heap.get? b=some o->H b=none->∃sl,h'.get? b=some { o with slots:=sl }) (free:∀b o,b ∉ ch->s.heap.get? b=some o->H b=none->H' b=none)
  (there:∀b o,b ∉ ch->s.heap.get? b=some o->∃o',h'.get? b=some o')
  (tups:∀b xs,H b=some (.tup xs)->H' b=some (.tup xs)) (frzs:∀b o u,H b=some (.frz o u)->H' b=some (.frz o u)) (tbls:∀b ps,H b=some (.tbl ps)->∃more,H' b=some (.tbl (ps++more)))
  (ns:∀m,s.heap.Ns X.env.locals m->h'.Ns X.env.locals m) (hok:HOk X.prog X.w H' h') (hg:AllBare g') :
  Inv X pins σ H' { s with heap:=h',gens:=g',drawn:=d',toks:=t' }:=by
 have neL:∀b o,X.s₀.heap.get? b=some o->b≠X.env.locals:=λb o e=>AK (AM (Aq e) I.ok.above)
 have neC:∀b o,X.s₀.heap.get? b=some o->b ∉ X.ex->b ∉ ch:=λb o e hx hb=>by
  rcases (hch b hb).1 with z |z
  .exact hx z
  .exact absurd (AM (Aq e) z) (BM _)
 have cellK:∀x c,X.env.cells.lookup x=some c->∀v,s.heap.IsCell c v->h'.IsCell c v:=λx c e v ⟨o,ho,hd⟩=>by
  have nch:c ∉ ch:=λz=>(hch c z).2.2.1 x c e rfl
  by_cases hc:c∈X.fs
  .obtain⟨sl,q⟩:=slot c o (I.cne x c e) hc nch ho (I.freeC x c e);exact⟨_,q,hd⟩
  .exact⟨o,keep c o (I.cne x c e) hc nch ho (I.freeC x c e),hd⟩
 refine⟨I.ok,I.os,hg,⟨λb o e n hb hx=>?_,λb o e n hb hx=>?_,λb o e n hx=>?_,λb o e hx=>?_,λb xs e=>tups b xs (I.base.tups b xs e),λb o xs e=>frzs b o xs (I.base.frzs b o xs e),λb ps e=>?_⟩,?_,λx c e=>?_,?_,λx c e=>?_,λp hp=>?_,hok,I.len⟩
 .exact keep b o (neL b o e) hb (neC b o e hx) (I.base.keep b o e n hb hx) (I.base.free b o e n hx)
 .obtain⟨sl,e1⟩:=I.base.slot b o e n hb hx;obtain⟨sl',e2⟩:=slot b _ (neL b o e) hb (neC b o e hx) e1 (I.base.free b o e n hx);exact⟨sl',e2⟩
 .obtain⟨o',e1⟩:=I.base.there b o e hx;exact free b o' (neC b o e hx) e1 (I.base.free b o e n hx)
 .obtain⟨o',e1⟩:=I.base.there b o e hx;exact there b o' (neC b o e hx) e1
 .obtain⟨m1,e1⟩:=I.base.tbls b ps e;obtain⟨m2,e2⟩:=tbls b _ e1;exact⟨m1++m2,by rw[e2,Array.append_assoc]⟩
 .obtain⟨m,hn,hl⟩:=I.loc;refine⟨m,ns m hn,λi x v e1 e2 e3=>?_⟩;obtain⟨u,r,l⟩:=hl i x v e1 e2 e3;refine⟨u,r,?_⟩;rcases l with l |⟨k,c,e,z⟩
  .exact .inl l
  .exact .inr ⟨k,c,e,cellK x c e _ z⟩
 .obtain⟨v,z⟩:=I.cell x c e;exact⟨v,cellK x c e v z⟩
 .obtain⟨m,⟨o,_,_,ho,_⟩,_⟩:=I.loc;exact free _ o (λz=>(hch _ z).2.1 rfl) ho I.free
 .obtain⟨v,o,ho,hd⟩:=I.cell x c e;exact free c o (λz=>(hch c z).2.2.1 x c e rfl) ho (I.freeC x c e)
 .obtain⟨e,n,ne,nf,d⟩:=I.pin p hp;have nch:p.1 ∉ ch:=λz=>(hch p.1 z).2.2.2 p hp rfl
  exact⟨keep p.1 p.2 ne nf nch e n,free p.1 p.2 nch e n,ne,nf,d⟩
theorem Inv.un{t':Nat}(I:Inv X pins σ H s)(u:Un X.fs [] H H' s.heap h')(hok:HOk X.prog X.w H' h'):Inv X pins σ H' { s with heap:=h',toks:=t' }:=by
 obtain⟨m,⟨o,es,ep,ho,r⟩,_⟩:=id I.loc;obtain⟨sl,hL⟩:=u.any ho I.free (by simp)
 exact I.step (g':=s.gens) (d':=s.drawn) (ch:=[]) (λ_ z=>nomatch z) (λb o _ hb _ e n=>u.keep b o e n hb (by simp)) (λb o _ hb _ e n=>u.slot b o e n hb (by simp)) (λb o _ e n=>u.free b o e n (by simp)) (λb o _ e=>u.there b o e (by simp)) u.tups u.frzs u.tbls (λm' hm=>by obtain⟨o',es',ep',ho',r'⟩:=hm;rw[ho]at ho';cases ho';exact⟨_,es',ep',hL,r'⟩) hok I.bare
theorem Inv.call{g':Array GenState}{t':Nat}{d':Drawn}{ch:List Addr}(I:Inv X pins σ H s)(u:Un (frs X.stack) ch H H' s.heap h')(hok:HOk X.prog X.w H' h')(hg:AllBare g')
  (hch:∀b∈ch,(b∈X.ex∨X.s₀.heap.objs.size<=b)/\b≠X.env.locals/\(∀x c,X.env.cells.lookup x=some c->c≠b)/\∀p∈X.pn++pins,p.1≠b) :
  Inv X pins σ H' { s with heap:=h',gens:=g',drawn:=d',toks:=t' }:=by
 obtain⟨m,⟨o,es,ep,ho,r⟩,_⟩:=id I.loc;obtain⟨sl,hL⟩:=u.any ho I.free λz=>(hch _ z).2.1 rfl
 exact I.step (ch:=ch) hch (λb o hL hb hc e n=>u.keep b o e n (λz=>(At.mp (I.stkSub b z)).elim hL hb) hc) (λb o _ _ hc e n=>u.any e n hc) (λb o hc e n=>u.free b o e n hc) (λb o hc e=>u.there b o e hc) u.tups u.frzs u.tbls (λm' hm=>by obtain⟨o',es',ep',ho',r'⟩:=hm;rw[ho]at ho';cases ho';exact⟨_,es',ep',hL,r'⟩) hok hg
theorem Inv.turned{t':Nat}{it:Addr}(I:Inv X pins σ H s)(k:∀b o, b ≠ it -> s.heap.get? b=some o -> h'.get? b=some o)(hn:H it=none)(hL:it ≠ X.env.locals)
  (h1:it∈X.ex∨X.s₀.heap.objs.size<=it) (h2:∀x c,X.env.cells.lookup x=some c->c≠it) (h3:∀p∈X.pn++pins,p.1≠it):Inv X pins σ H { s with heap:=h',toks:=t' }:=by
 have nit:∀b u,H b=some u->b≠it:=λb u e z=>by rw[z,hn]at e;cases e
 refine I.step (g':=s.gens) (d':=s.drawn) (ch:=[it]) (λb hb=>?_) (λb o _ _ hc e _=>k b o (λz=>hc (by simp[z])) e) (λb o _ _ hc e _=>⟨o.slots,k b o (λz=>hc (by simp[z])) e⟩) (λ_ _ _ _ n=>n)
  (λb o hc e=>⟨o,k b o (λz=>hc (by simp[z])) e⟩) (λ_ _ e=>e) (λ_ _ _ e=>e) (λb ps e=>⟨#[],by rw[e];simp⟩) (λm hm=>?_) (λb u e=>?_) I.bare
 .have e:b=it:=by simpa using hb
  subst e;exact⟨h1,hL,h2,h3⟩
 .obtain⟨o,es,ep,ho,r⟩:=hm;exact⟨o,es,ep,k _ o (BP hL) ho,r⟩
 .refine (I.hok b u e).stay (λc v hc q=>k c v ?_ q) (λ_ q=>q) λ_ _ q=>q
  rcases hc with z |z
  .rw[z];exact nit b u e
  .exact nit c _ z
theorem Inv.tok(I:Inv X pins σ H s)(t:Nat):Inv X pins σ H { s with toks:=t }:=I.un (h':=s.heap) (t':=t) Un.refl I.hok
theorem Inv.kept{t':Nat}(I:Inv X pins σ H s)(k:∀b u,s.heap.get? b=some u->h'.get? b=some u):Inv X pins σ H { s with heap:=h',toks:=t' }:=I.un (Un.kept k) (I.hok.kept k)
theorem Inv.laid{a:Addr}{o:HO}{t':Nat}(I:Inv X pins σ H s)(k:∀b u, s.heap.get? b=some u -> h'.get? b=some u)(hp:s.heap.objs.size <= a)(new:ObjOk X.prog X.w (upd H a o) h' a o) :
  Inv X pins σ (upd H a o) { s with heap:=h',toks:=t' }:=I.un (Un.laid k hp (I.hok.fresh hp)) (I.hok.laid k hp new)
theorem Inv.write{x e:Addr}{o:HO}{t':Nat}(I:Inv X pins σ H s)(mu:Mut (H x))(he:e=x ∨ H e=some (.own x))(k:∀b u, b ≠ e -> s.heap.get? b=some u -> h'.get? b=some u)(heo:∃u, h'.get? e=some u)
  (new:ObjOk X.prog X.w (upd H x o) h' x o):Inv X pins σ (upd H x o) { s with heap:=h',toks:=t' }:=I.un (Un.write mu he k heo) (I.hok.write mu he k heo new)
theorem Inv.pins_of{pins':List (Addr×Obj)}(I:Inv X pins σ H s)(h:∀p∈pins',s.heap.get? p.1=some p.2/\H p.1=none/\p.1≠X.env.locals/\p.1 ∉ X.fs/\∀v,p.2.data≠.cell v):Inv X pins' σ H s :=
 ⟨I.ok,I.os,I.bare,I.base,I.loc,I.cell,I.free,I.freeC,λp hp=>(Bf.mp hp).elim (λz=>I.pin p (List.mem_append_left _ z)) (h p),I.hok,I.len⟩
theorem ziM{N:List Str}(hN:N.Nodup){i j:Nat}{x:Str}(a:N[i]?=some x)(b:N[j]?=some x):i=j:=by obtain⟨h1,e1⟩:=Ad.mp a;obtain⟨h2,e2⟩:=Ad.mp b;exact (List.getElem_inj hN).mp (e1.trans e2.symm)
theorem zeh{M:Model}{A:AS}{E:Ab -> Ae -> Prop}{i:Nat}{x:Str}{v:V}{u:Ab}{Q:Unit -> Ae -> Prop}(I:Inv X pins σ H s)(hN:X.N.Nodup)(hi:X.N[i]? = some x)(hx:Loc X.env.scope x)(r:RelV v u)
  (h:∀s',Inv X pins (σ.set i (some v)) H s'->(∃a,C0 a s.heap s'.heap/\(a=X.env.locals∨X.env.cells.lookup x=some a))->Q () s') (hf:X.fn x=true∨X.env.scope.names.lookup x=some .local:=by first |exact .inl rfl |exact .inr rfl |assumption):As M A (storeName X.env x u) Q E s:=by
 obtain⟨m,hn,hl⟩:=id I.loc;have hcls:(X.env.scope.kind == .class || (X.env.scope.kind == .module && X.env.locals != X.env.globals))=false:=by rw[I.ok.kind];rfl
 have hiσ:i<σ.length:=by rw[I.len];exact (Ad.mp hi).1
 have cne:=I.cne
 have tracked:∀{a:Addr} {h':Heap},(∃o,s.heap.get? a=some o/\H a=none)->C0 a s.heap h'->HOk X.prog X.w H h':=λ{a h'} ha hs b ob e=>by
  obtain⟨_,_,hfree⟩:=ha;refine (I.hok b ob e).stay (λc w' hc q=>(hs.2 c ?_).trans q) (λ_ q=>q) λ_ _ q=>q
  rintro rfl;rcases hc with rfl |hc
  .rw[hfree]at e;cases e
  .rw[hfree]at hc;cases hc
 rcases hx with hk |hk
 .refine wpAny_storeName_local hk hn (λh' hn' hs=>?_) hcls;obtain⟨oL,_,_,hoL,_⟩:=id hn;refine h _ ⟨I.ok,I.os,I.bare,⟨λb o e n hb hx=>?_,λb o e n hb hx=>?_,I.base.free,λb o e hx=>?_,I.base.tups,I.base.frzs,I.base.tbls⟩,⟨_,hn',λj y v' e1 e2 e3=>?_⟩,λy c e=>?_,I.free,I.freeC,λp hp=>?_,tracked ⟨oL,hoL,I.free⟩ hs,by simpa using I.len⟩ ⟨_,hs,.inl rfl⟩
  .exact (hs.2 b (AK (AM (Aq e) I.ok.above))).trans (I.base.keep b o e n hb hx)
  .obtain⟨sl,e1⟩:=I.base.slot b o e n hb hx;exact⟨sl,(hs.2 b (AK (AM (Aq e) I.ok.above))).trans e1⟩
  .obtain⟨o',e1⟩:=I.base.there b o e hx;exact⟨o',(hs.2 b (AK (AM (Aq e) I.ok.above))).trans e1⟩
  .by_cases hj:j=i
   .subst hj;rw[hi]at e1;cases e1;rw[List.getElem?_set_self hiσ]at e2
    cases e2
    exact⟨u,r,.inl ⟨hk,by simp⟩⟩
   .rw[List.getElem?_set_ne (BP hj)]at e2;obtain⟨u',r',q⟩:=hl j y v' e1 e2 e3;refine⟨u',r',?_⟩;rcases q with⟨k,e⟩ |⟨k,c,e,z⟩
    .refine .inl ⟨k,?_⟩;have:y≠x:=λe=>hj (ziM hN e1 (e ▸ hi))
     simp[this,e]
    .exact .inr ⟨k,c,e,z.sameBut hs (cne y c e)⟩
  .obtain⟨w',z⟩:=I.cell y c e;exact⟨w',z.sameBut hs (cne y c e)⟩
  .obtain⟨e,n,ne,nf,d⟩:=I.pin p hp;exact⟨(hs.2 p.1 ne).trans e,n,ne,nf,d⟩
 .have hfn:X.fn x=true := by
   rcases hf with z |z
   .exact z
   .rw[z]at hk;cases hk
  obtain⟨c,hc⟩:=I.ok.has x (.inl hk);obtain⟨w',z⟩:=I.cell x c hc;refine wpAny_storeName_cell I.ok.kind hk hc z (λh' hc' hs=>?_);obtain⟨oc,hoc,hocd⟩:=id z;refine h { s with heap:=h' } ⟨I.ok,I.os,I.bare,⟨λb o e n hb hx=>?_,λb o e n hb hx=>?_,I.base.free,λb o e hx=>?_,I.base.tups,I.base.frzs,I.base.tbls⟩,⟨m,hn.sameBut hs (BP (cne x c hc)),λj y v' e1 e2 e3=>?_⟩,λy c' e=>?_,I.free,I.freeC,λp hp=>?_,tracked ⟨oc,hoc,I.freeC x c hc⟩ hs,by simpa using I.len⟩ ⟨c,hs,.inr hc⟩
  .exact (hs.2 b (AK (AM (Aq e) (I.ok.cab x c hfn hc)))).trans (I.base.keep b o e n hb hx)
  .obtain⟨sl,e1⟩:=I.base.slot b o e n hb hx;exact⟨sl,(hs.2 b (AK (AM (Aq e) (I.ok.cab x c hfn hc)))).trans e1⟩
  .obtain⟨o',e1⟩:=I.base.there b o e hx;exact⟨o',(hs.2 b (AK (AM (Aq e) (I.ok.cab x c hfn hc)))).trans e1⟩
  .by_cases hj:j=i
   .subst hj;rw[hi]at e1;cases e1;rw[List.getElem?_set_self hiσ]at e2
    cases e2
    exact⟨u,r,.inr ⟨.inl hk,c,hc,hc'⟩⟩
   .rw[List.getElem?_set_ne (BP hj)]at e2;obtain⟨u',r',q⟩:=hl j y v' e1 e2 e3;refine⟨u',r',?_⟩;rcases q with q |⟨k,c',e,z'⟩
    .exact .inl q
    .refine .inr ⟨k,c',e,z'.sameBut hs ?_⟩;rintro rfl;exact hj (ziM hN e1 (I.ok.inj _ _ _ e hc ▸ hi))
  .by_cases hcc:c'=c
   .subst hcc;exact⟨_,hc'⟩
   .obtain⟨w2,z2⟩:=I.cell y c' e;exact⟨w2,z2.sameBut hs hcc⟩
  .obtain⟨e,n,ne,nf,d⟩:=I.pin p hp;refine⟨(hs.2 p.1 ?_).trans e,n,ne,nf,d⟩;intro q;rw[q,hoc]at e;have q':oc=p.2:=AI e;exact d w' (by rw[<- q'];exact hocd)
theorem zdf{M:Model}{A:AS}{E:Ab -> Ae -> Prop}{i:Nat}{x:Str}{v:V}{u:Ab}{Q:Unit -> Ae -> Prop}(I:Inv X pins σ H s)(hN:X.N.Nodup)(hi:X.N[i]? = some x)(hx:Loc X.env.scope x)(r:RelV v u)
  (h:∀s',Inv X pins (σ.set i (some v)) H s'->Q () s') (hf:X.fn x=true∨X.env.scope.names.lookup x=some .local:=by first |exact .inl rfl |exact .inr rfl |assumption):As M A (storeName X.env x u) Q E s :=
 zeh I hN hi hx r (λs' I' _=>h s' I') hf
theorem Inv.call'{s':Ae}{ch:List Addr}(I:Inv X pins σ H s)(ho:s'.os=s.os)(u:Un (frs X.stack) ch H H' s.heap s'.heap)(hok:HOk X.prog X.w H' s'.heap)(hg:AllBare s'.gens)
  (hch:∀b∈ch,(b∈X.ex∨X.s₀.heap.objs.size<=b)/\b≠X.env.locals/\(∀x c,X.env.cells.lookup x=some c->c≠b)/\∀p∈X.pn++pins,p.1≠b):Inv X pins σ H' s':=by
 obtain⟨h',g',d',t',o'⟩:=s';have e:o'=s.os:=ho;subst e;exact I.call (g':=g') (t':=t') (d':=d') u hok hg hch
end
noncomputable abbrev XK:=Ab->Option Addr->Hp->Prop
noncomputable abbrev St:=List (Option V)
noncomputable abbrev VK:=V->Hp->Prop
noncomputable abbrev TE:=St->Hp->VK->Prop
noncomputable abbrev TT:=St->Hp->(Bool->Hp->Prop)->Prop
noncomputable abbrev TA:=St->Hp->(List V->Hp->Prop)->Prop
structure Ends where
 nx:St->Hp->Prop
 rt:VK
 bk:St->Hp->Prop:=λ_ _=>False
 ct:St->Hp->Prop:=λ_ _=>False
noncomputable abbrev TS:=Ends->St->Hp->Prop
noncomputable def EP(X:Cx)(pins:List (Addr×Obj))(σ:St)(Q:VK)(u:Ab)(s':Ae):Prop:=∃v H',Inv X pins σ H' s'/\RelV v u/\Q v H'
noncomputable def TP(X:Cx)(pins:List (Addr×Obj))(σ:St)(Q:Bool->Hp->Prop)(b:Bool)(s':Ae):Prop:=∃H',Inv X pins σ H' s'/\Q b H'
noncomputable def AP(X:Cx)(pins:List (Addr×Obj))(σ:St)(Q:List V->Hp->Prop)(us:List Ab)(s':Ae):Prop:=∃vs H',Inv X pins σ H' s'/\Vals vs us/\Q vs H'
noncomputable def SP(X:Cx)(pins:List (Addr×Obj))(D:Ends)(f:Flow)(s':Ae):Prop :=
 match f with
 |.next=>∃ σ' H',Inv X pins σ' H' s'/\D.nx σ' H'
 |.brk=>∃ σ' H',Inv X pins σ' H' s'/\D.bk σ' H'
 |.cont=>∃ σ' H',Inv X pins σ' H' s'/\D.ct σ' H'
 |.ret u=>∃v σ' H',Inv X pins σ' H' s'/\RelV v u/\D.rt v H'
noncomputable def PE(X:Cx)(e:Expr)(t:TE):Prop :=
 ∀(pins:List (Addr×Obj)) (s:Ae) (σ:St) (H:Hp) (Q:VK),Inv X pins σ H s->t σ H Q->As (Az X.prog X.w) X.A (eval e X.env) (EP X pins σ Q) X.xe s
noncomputable def PT(X:Cx)(e:Expr)(t:TT):Prop :=
 ∀(pins:List (Addr×Obj)) (s:Ae) (σ:St) (H:Hp) (Q:Bool->Hp->Prop),Inv X pins σ H s->t σ H Q->As (Az X.prog X.w) X.A (isTrue e X.env (eval e X.env)) (TP X pins σ Q) X.xe s
noncomputable def PW(X:Cx)(e:Expr)(t:TT):Prop :=
 ∀(whole:Sem Ab) (pins:List (Addr×Obj)) (s:Ae) (σ:St) (H:Hp) (Q:Bool->Hp->Prop),Inv X pins σ H s->t σ H Q->As (Az X.prog X.w) X.A (isTrue e X.env whole) (TP X pins σ Q) X.xe s
theorem PW.pt{X:Cx}{e:Expr}{t:TT}(h:PW X e t):PT X e t:=h _
noncomputable def PA(X:Cx)(es:List Expr)(t:TA):Prop :=
 ∀(pos:Pos) (pins:List (Addr×Obj)) (s:Ae) (σ:St) (H:Hp) (Q:List V->Hp->Prop),Inv X pins σ H s->t σ H Q->As (Az X.prog X.w) X.A (spliced (backTo pos (A4 es X.env))) (AP X pins σ Q) X.xe s
noncomputable def PS(X:Cx)(st:Stmt)(t:TS):Prop :=
 ∀(pins:List (Addr×Obj)) (s:Ae) (σ:St) (H:Hp) (D:Ends),Inv X pins σ H s->t D σ H->As (Az X.prog X.w) X.A (exec st X.env) (SP X pins D) X.xe s
noncomputable def PSs(X:Cx)(st:List Stmt)(t:TS):Prop :=
 ∀(pins:List (Addr×Obj)) (s:Ae) (σ:St) (H:Hp) (D:Ends),Inv X pins σ H s->t D σ H->As (Az X.prog X.w) X.A (execs st X.env) (SP X pins D) X.xe s
theorem thn{α:Type}{t:Sem α}{Q Q':α->Ae->Prop}{M:Model}{A:AS}{E:Ab->Ae->Prop}{s:Ae}(h:As M A t Q E s)(hQ:∀a s,Q a s->Q' a s):As M A t Q' E s:=BJ h hQ λ_ _ x=>x
section
variable {X:Cx}
noncomputable def tVar(i:Nat):TE:=λσ H Q=>∃v,σ[i]?=some (some v)/\Q v H
noncomputable def tC(v:V):TE:=λ_ H Q=>Q v H
theorem znD {i:Nat}{x:Str}{pos:Pos}(hN:X.N[i]?=some x) (hv:Vis X.env.scope x) (hd:(x == ("__debug__" : Str))=false:=by decide) (hcd:(x == ("__classdict__" : Str))=false:=by decide):PE X (.Name x pos) (tVar i):=by
 intro pins s σ H Q I h;obtain⟨v,e,h⟩:=h;obtain⟨m,hn,hl⟩:=I.loc;obtain⟨u,r,l⟩:=hl i x v hN e hv;have fin:EP X pins σ Q u s:=⟨v,H,I,r,h⟩;rcases l with⟨hk,hm⟩ |⟨hk,c,hc,hcell⟩
 .exact wpAny_Name (wpAny_loadName_local I.ok.kind hk hn hm fin) hd
 .rcases hk with hk |hk
  .exact wpAny_Name (wpAny_loadName_cell I.ok.kind hk hc hcell fin) hd
  .exact wpAny_Name (wpAny_loadName_free I.ok.kind hk hc hcell fin hcd) hd
theorem zae{i j pos}:PE X (.Constant (.int i) j pos) (tC (.int i)):=λ_ _ _ H _ I h=>wpAny_Constant_int ⟨.int i,H,I.tok _,⟨_,rfl⟩,h⟩
theorem pe_bl{b j pos}:PE X (.Constant (.bool b) j pos) (tC (.bl b)):=λ_ _ _ H _ I h=>Constant_bool ⟨.bl b,H,I,rfl,h⟩
theorem zbf{j pos}:PE X (.Constant .none j pos) (tC .non):=λ_ _ _ H _ I h=>Constant_none ⟨.non,H,I,rfl,h⟩
theorem zkk{x j pos}:PE X (.Constant (.str x) j pos) (tC (.str x)):=λ_ _ _ H _ I h=>Calls.Constant_str ⟨.str x,H,I.tok _,⟨_,rfl⟩,h⟩
noncomputable def Gl(X:Cx)(x:Str):Prop:=X.env.kindOf x=some .globalImplicit
theorem zkJ{E:Ab -> Ae -> Prop}{pins:List (Addr × Obj)}{s:Ae}{σ : St}{H:Hp}{x:Str}{u:Ab}{pos:Pos}{Q:Ab -> Ae -> Prop}(I:Inv X pins σ H s)(hg:Gl X x)(hm:X.mg x=some u)(h:Q u s)
  (hd:(x == ("__debug__" : Str))=false:=by decide):As (Az X.prog X.w) X.A (eval (.Name x pos) X.env) Q E s :=
 Calls.Name_function_global I.ok.kind hg (Calls.loadGlobal_global (by rw[I.ok.glob];exact I.mod.glob.keeps I.bk) hm h) hd
theorem zdT{E:Ab -> Ae -> Prop}{pins:List (Addr × Obj)}{s:Ae}{σ : St}{H:Hp}{x:Str}{u:Ab}{pos:Pos}{Q:Ab -> Ae -> Prop}(I:Inv X pins σ H s)(hg:Gl X x)(hm:X.mg x=none)(hv:bootBuiltins x=some u)(h:Q u s)
  (hn:x ≠ "__name__":=by decide) (hd:(x == ("__debug__" : Str))=false:=by decide):As (Az X.prog X.w) X.A (eval (.Name x pos) X.env) Q E s:=by
 obtain⟨mb,h1,h2⟩:=I.mod.blt;exact Calls.Name_function_global I.ok.kind hg (Calls.loadGlobal_builtin (by rw[I.ok.glob];exact I.mod.glob.keeps I.bk) hm (by rw[I.ok.blt];exact h1.keeps I.bk) ((h2 x hn).trans hv) h) hd
theorem zdH {x:Str}{v:V}{u:Ab}{pos:Pos}(hg:Gl X x) (hm:X.mg x=some u) (r:RelV v u) (hd:(x == ("__debug__" : Str))=false:=by decide):PE X (.Name x pos) (tC v) :=
 λ_ _ _ H _ I h=>zkJ I hg hm ⟨v,H,I,r,h⟩ hd
variable {a b:Expr}{ta tb:TE}{pos:Pos}
noncomputable def PC(X:Cx)(op:CmpOp)(a b:Expr)(t:TE):Prop :=
 ∀(pins:List (Addr×Obj)) (s:Ae) (σ:St) (H:Hp) (Q:VK),Inv X pins σ H s->t σ H Q ->
  As (Az X.prog X.w) X.A (eval a X.env) (λv s₁=>As (Az X.prog X.w) X.A (eval b X.env) (λu s₂=>As (Az X.prog X.w) X.A (Bs op v u) (EP X pins σ Q) X.xe s₂) X.xe s₁) X.xe s
noncomputable def tB(t:TE):TT:=λσ H Q=>t σ H λx H1=>∃c,x=.bl c/\Q c H1
theorem zke{op:CmpOp}{t:TE}(h:PC X op a b t)(h1:behindInMarks op b=false:=by first |exact nobehind _ (by decide) (by decide) |rfl):PT X (.Compare a [op] [b] pos) (tB t):=by
 intro pins s σ H Q I hw;refine wpAny_isTrue_Compare1 (thn (h pins s σ H _ I hw) λv s1 h1=>thn h1 λu s2 h2=>thn h2 λc s3 ⟨x,H1,I1,r1,q1⟩=>?_) h1;obtain⟨d,rfl,q⟩:=q1
 cases r1
 exact BD ⟨H1,I1,q⟩
theorem zdR{e:Expr}{t:TE}(h:PE X e t)(he:∀whole,isTrue e X.env whole=(do let v <- whole;standAt e.pos;Dr [v] (truthy v)):=by intro _;rfl):PT X e (tB t):=by
 intro pins s σ H Q I hw;refine isTrue_plain (thn (h pins s σ H _ I hw) λv s1 ⟨x,H1,I1,r1,q1⟩=>?_) (he _);obtain⟨d,rfl,q⟩:=q1
 cases r1
 exact BD ⟨H1,I1,q⟩
variable {tA tB':TT}{rest:List Expr}
noncomputable def tAnd(t u:TT):TT:=λσ H Q=>t σ H λc H1=>if c=true then u σ H1 Q else Q false H1
noncomputable def tOr(t u:TT):TT:=λσ H Q=>t σ H λc H1=>if c=true then Q true H1 else u σ H1 Q
noncomputable def tNot(t:TT):TT:=λσ H Q=>t σ H λc H1=>Q (!c) H1
theorem zkd(ha:PT X a tA):PW X (.BoolOp .And [a] pos) tA:=by
 intro wh pins s σ H Q I h;refine isTrue_and (thn (ha pins s σ H Q I h) λc s1 e=>?_)
 cases c with
 |true=>exact isTrue_and_nil e
 |false=>exact e
theorem zmf(ha:PT X a tA):PW X (.BoolOp .Or [a] pos) tA:=by
 intro wh pins s σ H Q I h;refine isTrue_or (thn (ha pins s σ H Q I h) λc s1 e=>?_)
 cases c with
 |false=>exact isTrue_or_nil e
 |true=>exact e
theorem zmg(ha:PT X a tA)(hb:PW X (.BoolOp .And (b::rest) pos) tB'):PW X (.BoolOp .And (a::b::rest) pos) (tAnd tA tB'):=by
 intro wh pins s σ H Q I h;refine isTrue_and (thn (ha pins s σ H _ I h) λc s1 ⟨H1,I1,q1⟩=>?_)
 cases c with
 |true=>exact hb wh pins s1 σ H1 Q I1 q1
 |false=>exact⟨H1,I1,q1⟩
theorem pw_or(ha:PT X a tA)(hb:PW X (.BoolOp .Or (b::rest) pos) tB'):PW X (.BoolOp .Or (a::b::rest) pos) (tOr tA tB'):=by
 intro wh pins s σ H Q I h;refine isTrue_or (thn (ha pins s σ H _ I h) λc s1 ⟨H1,I1,q1⟩=>?_)
 cases c with
 |true=>exact⟨H1,I1,q1⟩
 |false=>exact hb wh pins s1 σ H1 Q I1 q1
theorem zez(ha:PT X a tA):PT X (.UnaryOp .Not a pos) (tNot tA):=by intro pins s σ H Q I h;exact isTrue_not (ha pins s σ H (λc H1=>Q (!c) H1) I h)
noncomputable def tAndV(ta tb:TE):TE:=λσ H Q=>ta σ H λx H1=>∃c,x=.bl c/\if c=true then tb σ H1 Q else Q (.bl false) H1
noncomputable def tOrV(ta tb:TE):TE:=λσ H Q=>ta σ H λx H1=>∃c,x=.bl c/\if c=true then Q (.bl true) H1 else tb σ H1 Q
theorem zeB{op}{t:TE}(h:PE X a t):PE X (.BoolOp op [a] pos) t:=λpins s σ H Q I hw=>BoolOp_one (h pins s σ H Q I hw)
theorem ziF(ha:PE X a ta)(hb:PE X (.BoolOp .And (b::rest) pos) tb):PE X (.BoolOp .And (a::b::rest) pos) (tAndV ta tb):=by
 intro pins s σ H Q I h;refine BoolOp_and (thn (ha pins s σ H _ I h) λv s1 ⟨x,H1,I1,r1,q1⟩=>?_);obtain⟨c,rfl,q1⟩:=q1
 cases r1
 refine BD ?_
 cases c with
 |true=>exact hb pins s1 σ H1 Q I1 q1
 |false=>exact⟨.bl false,H1,I1,rfl,q1⟩
theorem pe_or(ha:PE X a ta)(hb:PE X (.BoolOp .Or (b::rest) pos) tb):PE X (.BoolOp .Or (a::b::rest) pos) (tOrV ta tb):=by
 intro pins s σ H Q I h;refine BoolOp_or (thn (ha pins s σ H _ I h) λv s1 ⟨x,H1,I1,r1,q1⟩=>?_);obtain⟨c,rfl,q1⟩:=q1
 cases r1
 refine BD ?_
 cases c with
 |false=>exact hb pins s1 σ H1 Q I1 q1
 |true=>exact⟨.bl true,H1,I1,rfl,q1⟩
noncomputable def tIf(t:TT)(ta tb:TE):TE:=λσ H Q=>t σ H λc H1=>if c=true then ta σ H1 Q else tb σ H1 Q
theorem zcq{c:Expr}(hc:PT X c tA)(ha:PE X a ta)(hb:PE X b tb):PE X (.IfExp c a b pos) (tIf tA ta tb):=by
 intro pins s σ H Q I h;refine wpAny_IfExp (thn (hc pins s σ H _ I h) λd s1 ⟨H1,I1,q1⟩=>?_)
 cases d with
 |true=>exact ha pins s1 σ H1 Q I1 q1
 |false=>exact hb pins s1 σ H1 Q I1 q1
end
noncomputable def SqL(K:W.Frag)(H:Hp)(a:Addr)(xs:List V):Prop :=
 Rd H a (.lst xs) ∨
  ∃(o:Obj) (its:Array Ab) (n:Nat),K.lookup a=some o/\o.cls=.type "list" /\ o.dict=none/\o.data=.seq its n/\its.size<=sizeLine/\Vals xs its.toList
noncomputable def SqT(K:W.Frag)(H:Hp)(a:Addr)(xs:List V):Prop :=
 Rd H a (.tup xs) ∨
  ∃(o:Obj) (its:Array Ab) (n:Nat),K.lookup a=some o/\o.cls=.type "tuple" /\ o.data=.seq its n/\its.size<=sizeLine/\Vals xs its.toList
noncomputable def absV:Ab->Option V
 |.none=>some .non
 |.bool b=>some (.bl b)
 |.int i _=>some (.int i)
 |.str x _=>some (.str x)
 |.bytes b _=>some (.byt b)
 |.float b _=>some (.flt b)
 |.ref a=>some (.ref a)
 |.type n=>some (.ty n)
 |_=>none
theorem RelV.abs{x:V}{u:Ab}(r:RelV x u):absV u=some x:=by
 cases x with
 |non=>cases r;rfl
 |bl _=>cases r;rfl
 |int _=>obtain⟨t,rfl⟩:=r;rfl
 |str _=>obtain⟨t,rfl⟩:=r;rfl
 |byt _=>obtain⟨t,rfl⟩:=r;rfl
 |flt _=>obtain⟨t,rfl⟩:=r;rfl
 |ref _=>cases r;rfl
 |ty _=>cases r;rfl
theorem RelV.inj{x y:V}{u:Ab}(r:RelV x u)(q:RelV y u):x=y:=AI (r.abs.symm.trans q.abs)
theorem Vals.inj:∀{xs ys:List V}{us:List Ab},Vals xs us->Vals ys us->xs=ys
 |_,_,_,.nil,.nil=>rfl
 |_,_,_,.cons r t,.cons r' t'=>by rw[r.inj r',Vals.inj t t']
section
variable {X:Cx}{pins:List (Addr×Obj)}{σ:St}{H:Hp}{s:Ae}{a:Addr}{xs ys:List V}
theorem SqL.of{K:W.Frag}(h:H a=some (.lst xs)):SqL K H a xs:=.inl (.inl h)
theorem SqT.of{K:W.Frag}(h:H a=some (.tup xs)):SqT K H a xs:=.inl (.inl h)
theorem Inv.list(I:Inv X pins σ H s)(h:SqL X.K H a xs):∃its:List Ab,Vals xs its/\PlainL s.heap a its.toArray/\xs.length<=sizeLine:=by
 rcases h with h |⟨o,its,n,hk,hc,hd,hs,hz,r⟩
 .obtain⟨z,its,n,r,e⟩:=h.ok I.hok;exact⟨its,r,⟨_,n,e,rfl,rfl,rfl⟩,z⟩
 .refine⟨its.toList,r,⟨o,n,I.kIn a o hk,hc,hd,by simpa using hs⟩,?_⟩;have e:=r.length;simp only[CT]at e;lia
theorem Inv.tuple(I:Inv X pins σ H s)(h:SqT X.K H a xs):∃its:List Ab,Vals xs its/\IsTup s.heap a its.toArray/\xs.length<=sizeLine:=by
 rcases h with h |⟨o,its,n,hk,hc,hs,hz,r⟩
 .obtain⟨z,its,r,p⟩:=h.ok I.hok;exact⟨its,r,p,z⟩
 .refine⟨its.toList,r,⟨o,I.kIn a o hk,hc,n,by simpa using hs⟩,?_⟩;have e:=r.length;simp only[CT]at e;lia
theorem Inv.list_inj(I:Inv X pins σ H s)(h:SqL X.K H a xs)(h':SqL X.K H a ys):xs=ys:=by
 obtain⟨its,r,⟨o,n,e,_,_,d⟩,_⟩:=I.list h;obtain⟨its',r',⟨o',n',e',_,_,d'⟩,_⟩:=I.list h';rw[e]at e';cases e';rw[d]at d';injection d' with d1 _;have:its=its':=by simpa using congrArg Array.toList d1
 subst this;exact r.inj r'
theorem Inv.tuple_inj(I:Inv X pins σ H s)(h:SqT X.K H a xs)(h':SqT X.K H a ys):xs=ys:=by
 obtain⟨its,r,⟨o,e,_,n,d⟩,_⟩:=I.tuple h;obtain⟨its',r',⟨o',e',_,n',d'⟩,_⟩:=I.tuple h';rw[e]at e';cases e';rw[d]at d';injection d' with d1 _;have:its=its':=by simpa using congrArg Array.toList d1
 subst this;exact r.inj r'
end
noncomputable abbrev Cx.wish(X:Cx)(E:Ab->Ae->Prop):Cx:={ X with xe:=E }
noncomputable abbrev Cx.nox(X:Cx):Cx:=X.wish λ_ _=>False
theorem Cx.Ok.wish{X:Cx}(ok:X.Ok)(E:Ab->Ae->Prop):(X.wish E).Ok :=
 ⟨ok.mod,ok.kind,ok.glob,ok.blt,ok.above,ok.inj,ok.has,ok.cab,ok.hd,ok.frames,ok.stk,ok.exf,ok.bs,ok.bsz,ok.noex,ok.exfs,ok.funs,ok.frf⟩
theorem Cx.Ok.unwish{X:Cx}{E:Ab->Ae->Prop}(ok:(X.wish E).Ok):X.Ok :=
 ⟨ok.mod,ok.kind,ok.glob,ok.blt,ok.above,ok.inj,ok.has,ok.cab,ok.hd,ok.frames,ok.stk,ok.exf,ok.bs,ok.bsz,ok.noex,ok.exfs,ok.funs,ok.frf⟩
section
variable {X:Cx}{pins:List (Addr×Obj)}{σ:St}{H:Hp}{s:Ae}{E:Ab->Ae->Prop}
theorem Inv.wish(I:Inv X pins σ H s)(E:Ab->Ae->Prop):Inv (X.wish E) pins σ H s:=⟨I.ok.wish E,I.os,I.bare,I.base,I.loc,I.cell,I.free,I.freeC,I.pin,I.hok,I.len⟩
theorem Inv.unwish(I:Inv (X.wish E) pins σ H s):Inv X pins σ H s:=⟨I.ok.unwish,I.os,I.bare,I.base,I.loc,I.cell,I.free,I.freeC,I.pin,I.hok,I.len⟩
theorem SP.unwish{D:Ends}{f:Flow}{s':Ae}(h:SP (X.wish E) pins D f s'):SP X pins D f s':=by
 cases f with
 |next=>obtain⟨σ',H',I,q⟩:=h;exact⟨σ',H',I.unwish,q⟩
 |brk=>obtain⟨σ',H',I,q⟩:=h;exact⟨σ',H',I.unwish,q⟩
 |cont=>obtain⟨σ',H',I,q⟩:=h;exact⟨σ',H',I.unwish,q⟩
 |ret u=>obtain⟨v,σ',H',I,r,q⟩:=h;exact⟨v,σ',H',I.unwish,r,q⟩
theorem PSs.nox{st:List Stmt}{t:TS}(h:PSs X.nox st t):PSs X st t:=λpins s σ H D I hw =>
 BJ (h pins s σ H D (I.wish _) hw) (λ_ _ q=>q.unwish) λ_ _ z=>BB z
end
section
variable {X:Cx}{st:Stmt}{rest:List Stmt}{t u:TS}{e:Expr}{te:TE}{pos:Pos}
noncomputable def tNext:TS:=λD σ H=>D.nx σ H
noncomputable def tSeq(t u:TS):TS:=λD σ H=>t { D with nx:=u D } σ H
theorem zau:PSs X [] tNext:=λ_ _ σ H _ I h=>wpAny_execs_nil ⟨σ,H,I,h⟩
theorem zac(h1:PS X st t)(h2:PSs X rest u):PSs X (st::rest) (tSeq t u):=by
 intro pins s σ H D I h;refine wpAny_execs_cons (thn (h1 pins s σ H { D with nx:=u D } I h) λf s1 q=>?_)
 cases f with
 |next =>
  obtain⟨σ',H',I',q⟩:=q;exact h2 pins s1 σ' H' D I' q
 |ret v=>exact q
 |brk=>exact q
 |cont=>exact q
theorem zaf(h1:PS X st t):PSs X [st] t:=by
 intro pins s σ H D I h;refine wpAny_execs_cons (thn (h1 pins s σ H D I h) λf s1 q=>?_)
 cases f with
 |next=>exact wpAny_execs_nil q
 |ret v=>exact q
 |brk=>exact q
 |cont=>exact q
theorem Inv.quiet{pins:List (Addr×Obj)}{σ:St}{H:Hp}{s:Ae}(I:Inv X pins σ H s):interactive X.env=false:=by simp[interactive,I.ok.kind]
noncomputable def tDrop(te:TE):TS:=λD σ H=>te σ H λ_ H1=>D.nx σ H1
theorem zcp(he:PE X e te)(hs:swapsWith e none pos.line X.env=pure false:=by rfl):PS X (.Expr e pos) (tDrop te):=by intro pins s σ H D I h;exact wpAny_Expr_any (thn (he pins s σ H _ I h) λv s1 ⟨x,H1,I1,r1,q1⟩=>⟨σ,H1,I1,q1⟩) I.quiet hs
noncomputable def tRet(te:TE):TS:=λD σ H=>te σ H D.rt
theorem zai(he:PE X e te):PS X (.Return (some e) pos) (tRet te):=by intro pins s σ H D I h;exact wpAny_Return_some (thn (he pins s σ H _ I h) λv s1 ⟨x,H1,I1,r1,q1⟩=>⟨x,σ,H1,I1,r1,q1⟩)
noncomputable def tIfS(c:TT)(t u:TS):TS:=λD σ H=>c σ H λb H1=>if b=true then t D σ H1 else u D σ H1
theorem ps_if{c:Expr}{a b:List Stmt}{tc:TT}(hc:PT X c tc)(ha:PSs X a t)(hb:PSs X b u):PS X (.If c a b pos) (tIfS tc t u):=by
 intro pins s σ H D I h;refine wpAny_If (thn (hc pins s σ H _ I h) λd s1 ⟨H1,I1,q1⟩=>?_)
 cases d with
 |true=>exact ha pins s1 σ H1 D I1 q1
 |false=>exact hb pins s1 σ H1 D I1 q1
noncomputable def znl:TS:=λ_ _ _=>False
theorem zf7:PS X st znl:=λ_ _ _ _ _ _ h=>h.elim
end
noncomputable abbrev TG:=V->St->Hp->(St->Hp->Prop)->Prop
noncomputable abbrev TGs:=List V->St->Hp->(St->Hp->Prop)->Prop
noncomputable def PG(X:Cx)(target:Expr)(t:TG):Prop :=
 ∀(pins:List (Addr×Obj)) (s:Ae) (σ:St) (H:Hp) (v:V) (u:Ab) (Q:St->Hp->Prop),Inv X pins σ H s->RelV v u->t v σ H Q ->
  As (Az X.prog X.w) X.A (assign target X.env u) (λ_ s'=>∃ σ' H',Inv X pins σ' H' s'/\Q σ' H') X.xe s
noncomputable def PGs(X:Cx)(ts:List Expr)(t:TGs):Prop :=
 ∀(pins:List (Addr×Obj)) (s:Ae) (σ:St) (H:Hp) (vs:List V) (us:List Ab) (Q:St->Hp->Prop),Inv X pins σ H s->Vals vs us->t vs σ H Q ->
  As (Az X.prog X.w) X.A (assignInOrder ((DF ts X.env).map (·.2)) us) (λ_ s'=>∃ σ' H',Inv X pins σ' H' s'/\Q σ' H') X.xe s
noncomputable abbrev TSet:=V->V->V->Hp->(Hp->Prop)->Prop
noncomputable def PSet(X:Cx)(t:TSet):Prop :=
 ∀(pins:List (Addr×Obj)) (s:Ae) (σ:St) (H:Hp) (o i v:V) (ov iv u:Ab) (Q:Hp->Prop),Inv X pins σ H s->RelV o ov->RelV i iv->RelV v u->t o i v H Q ->
  As (Az X.prog X.w) X.A (setItem ov iv u) (λ_ s'=>∃H',Inv X pins σ H' s'/\Q H') X.xe s
noncomputable abbrev TIp:=V->V->Hp->VK->Prop
noncomputable def PIp(X:Cx)(op:Operator)(t:TIp):Prop :=
 ∀(pins:List (Addr×Obj)) (s:Ae) (σ:St) (H:Hp) (x y:V) (v u:Ab) (Q:VK),Inv X pins σ H s->RelV x v->RelV y u->t x y H Q ->
  As (Az X.prog X.w) X.A (inplaceOp op v u) (EP X pins σ Q) X.xe s
section
variable {X:Cx}{pos:Pos}
noncomputable def gName(i:Nat):TG:=λv σ H Q=>Q (σ.set i (some v)) H
theorem zhP{i:Nat}{x:Str}(hN:X.N.Nodup)(hi:X.N[i]?=some x)(hx:Loc X.env.scope x)(hf:X.fn x=true∨X.env.scope.names.lookup x=some .local:=by first |exact .inl rfl |exact .inr rfl |assumption):PG X (.Name x pos) (gName i):=by intro pins s σ H v u Q I r h;exact wpAny_assign_Name (zdf I hN hi hx r (λs' I'=>⟨_,H,I',h⟩) hf)
noncomputable def gNil:TGs:=λvs σ H Q=>vs=[]/\Q σ H
noncomputable def gCons(t:TG)(u:TGs):TGs:=λvs σ H Q=>∃v r,vs=v::r/\t v σ H λσ' H'=>u r σ' H' Q
theorem zas:PGs X [] gNil:=by
 intro pins s σ H vs us Q I r h;obtain⟨e,h⟩:=h;subst e
 cases r
 exact assignInOrder_nil ⟨σ,H,I,h⟩
theorem zag{e:Expr}{es:List Expr}{t:TG}{u:TGs}(h1:PG X e t)(h2:PGs X es u)
  (hs:(DF (e::es) X.env).map (·.2)=assign e X.env::(DF es X.env).map (·.2):=by rfl):PGs X (e::es) (gCons t u):=by
 intro pins s σ H vs us Q I r h;obtain⟨v,vr,e1,h⟩:=h;subst e1
 cases r with
 |cons r rr =>
  rw[hs];refine assignInOrder_cons (thn (h1 pins s σ H _ _ _ I r h) λ_ s1 ⟨σ1,H1,I1,q1⟩=>?_);exact h2 pins s1 σ1 H1 _ _ Q I1 rr q1
noncomputable def gTup(K:W.Frag)(n:Nat)(t:TGs):TG:=λv σ H Q=>∃a xs,v=.ref a/\SqT K H a xs/\xs.length=n/\t xs σ H Q
theorem zbe{es:List Expr}{k:Nat}{t:TGs}{n:Nat}(hc:X.calm=true)(h:PGs X es t)
  (hn:(DF es X.env).length=n:=by rfl) (hst:(DF es X.env).findIdx? (·.1)=none:=by rfl):PG X (.Tuple es k pos) (gTup X.K n t):=by
 intro pins s σ H v u Q I r hw;obtain⟨a,xs,e1,hq,hl,hw⟩:=hw;subst e1
 cases r
 obtain⟨its,rv,ht,hz⟩:=I.tuple hq;refine assign_Tuple_tuple (I.ok.hd hc) ht (by simp[hn,<- hl,rv.length]) hst λh' hx=>?_
 have I1:Inv X pins σ H { s with heap:=h' }:=I.kept (t':=s.toks) λb o e=>hx b o (AK (Aq e)) e
 exact h pins _ σ H xs _ Q I1 (by simpa using rv) hw
noncomputable def gSub(to ti:TE)(t:TSet):TG:=λv σ H Q=>to σ H λo H1=>ti σ H1 λi H2=>t o i v H2 λH3=>Q σ H3
theorem zmj{o i:Expr}{to ti:TE}{t:TSet}(ho:PE X o to)(hi:PE X i ti)(hs:PSet X t)
  (ha:∀v,assign (.Subscript o i pos) X.env v=(do
   let ov <- Dr [v] (eval o X.env)
   let iv <- Dr [v,ov] (eval i X.env)
   standAt pos
   Dr [v,ov,iv] (setItem ov iv v)
   release [v,ov,iv] []):=by intro _;rfl):PG X (.Subscript o i pos) (gSub to ti t):=by
 intro pins s σ H v u Q I r h;rw[ha];refine Ac (Be (thn (ho pins s σ H _ I h) λov s1 ⟨x,H1,I1,r1,q1⟩=>?_));refine Ac (Be (thn (hi pins s1 σ H1 _ I1 q1) λiv s2 ⟨y,H2,I2,r2,q2⟩=>?_));refine Ac (Cm (Ac (Be (thn (hs pins s2 σ H2 x y v ov iv u _ I2 r1 r2 r q2) λ_ s3 ⟨H3,I3,q3⟩=>?_))));exact wpAny_release ⟨σ,H3,I3,q3⟩
noncomputable def tAsg(te:TE)(g:TG):TS:=λD σ H=>te σ H λx H1=>g x σ H1 D.nx
theorem zbC{tg e:Expr}{te:TE}{g:TG}(he:PE X e te)(hg:PG X tg g)(hs:swapsWithSole [tg] e pos.line X.env=pure false := by rfl)(hw:swappedStores [tg] e X.env=pure none := by rfl)
  (h1:(DF [tg] X.env).map (·.2)=[assign tg X.env]:=by rfl):PS X (.Assign [tg] e pos) (tAsg te g):=by
 intro pins s σ H D I h;refine wpAny_Assign_stores (thn (he pins s σ H _ I h) λv s1 ⟨x,H1,I1,r1,q1⟩=>?_) hs hw;rw[h1];exact thn (hg pins s1 σ H1 x v _ I1 r1 q1) λ_ s2 q=>q
theorem zmh{i:Nat}{x:Str}{e:Expr}{te:TE}{pos':Pos}(hN:X.N.Nodup)(hi:X.N[i]? = some x)(hx:Loc X.env.scope x)(he:PE X e te)(hs:swapsWith e (some (.Name x pos')) pos.line X.env=pure false := by rfl)(hf:X.fn x=true ∨ X.env.scope.names.lookup x=some .local := by first |exact .inl rfl |exact .inr rfl |assumption) :
  PS X (.Assign [.Name x pos'] e pos) (tAsg te (gName i)):=by
 intro pins s σ H D I h;refine wpAny_Assign_Name (thn (he pins s σ H _ I h) λv s1 ⟨y,H1,I1,r1,q1⟩=>?_) hs;exact zdf I1 hN hi hx r1 (λs2 I2=>⟨_,H1,I2,q1⟩) hf
noncomputable def tPar(i j:Nat)(ta:TA):TS:=λD σ H=>ta σ H λvs H1=>∃v w,vs=[v,w]/\D.nx ((σ.set i (some v)).set j (some w)) H1
theorem znA{i j:Nat}{x y:Str}{a b:Expr}{ta:TA}{px py pt:Pos}{kt k2 pt2}(hc:X.calm=true)(hN:X.N.Nodup)(hi:X.N[i]? = some x)(hj:X.N[j]? = some y)(hij:i ≠ j)
  (hx:X.env.scope.names.lookup x=some .local) (hy:X.env.scope.names.lookup y=some .local) (ha:PA X [a,b] ta)
  (hw:swappedStores [.Tuple [.Name x px,.Name y py] kt pt] (.Tuple [a,b] k2 pt2) X.env=pure (some [x,y]))
  (hs:swapsWithSole [.Tuple [.Name x px,.Name y py] kt pt] (.Tuple [a,b] k2 pt2) pos.line X.env=pure false:=by rfl) :
  PS X (.Assign [.Tuple [.Name x px,.Name y py] kt pt] (.Tuple [a,b] k2 pt2) pos) (tPar i j ta):=by
 intro pins s σ H D I h;rw[exec_Assign_arm];refine Ac (Cm ?_);rw[hs];refine Ac (Am ?_);rw[if_neg (by decide)];refine Ac (Tuple_ (thn (ha _ pins s σ H _ I h) λus s1 ⟨vs,H1,I1,r1,q1⟩=>?_));obtain⟨v,w,e1,q1⟩:=q1;subst e1
 obtain⟨u1,u2,rfl,rv,rw'⟩:∃u1 u2,us=[u1,u2]/\RelV v u1/\RelV w u2:=by
  cases r1 with
  |cons p q =>
   cases q with
   |cons p' q' =>
    cases q'
    exact⟨_,_,rfl,p,p'⟩
 refine Bh ?_ (by show 2<=sizeLine;decide)
 have I2:Inv X pins σ H1 { s1 with heap:=s1.heap.push { cls:=.type "tuple",data:=.seq [u1,u2].toArray } }:=I1.kept (t':=s1.toks) λb o e=>Ag _ e
 rw[hw];refine Ac (Am ?_);show As (Az X.prog X.w) X.A (do rule "assign.swapped-stores";let items <- unpackItems (.ref s1.heap.objs.size) 2 none;assignInOrder [λv=>bindName X.env y v,λv=>bindName X.env x v] items.reverse;pure Flow.next) _ _ _;refine Ac (DG (Ac (unpackItems_tuple (items:=#[u1,u2]) (I.ok.hd hc) (IsTup.new s1.heap _) λh' hx'=>?_)));have I3:=I2.kept (h':=h') (t':=s1.toks) λb o e=>hx' b o (AK (Aq e)) e
 show As _ _ (assignInOrder [λv=>bindName X.env y v,λv=>bindName X.env x v] [u2,u1] >>= λ_=>pure Flow.next) _ _ _;refine Ac (assignInOrder_cons (wpAny_bindName (zdf I3 hN hj (.inl hy) rw' (λs2 I4=>?_) (.inr hy))));refine assignInOrder_cons (wpAny_bindName (zdf I4 hN hi (.inl hx) rv (λs3 I5=>assignInOrder_nil (Am ?_)) (.inr hx)));rw[List.set_comm _ _ (BP hij)]at I5;exact⟨_,H1,I5,q1⟩
noncomputable def tAug(i:Nat)(te:TE)(ti:TIp):TS:=λD σ H=>∃x,σ[i]?=some (some x)/\te σ H λy H1=>ti x y H1 λz H2=>D.nx (σ.set i (some z)) H2
theorem znB{i:Nat}{x:Str}{e:Expr}{te:TE}{op:Operator}{ti:TIp}{pos':Pos}(hN:X.N.Nodup)(hi:X.N[i]? = some x)(hx:Loc X.env.scope x)(he:PE X e te)(ho:PIp X op ti)(hf:X.fn x=true ∨ X.env.scope.names.lookup x=some .local := by first |exact .inl rfl |exact .inr rfl |assumption) :
  PS X (.AugAssign (.Name x pos') op e pos) (tAug i te ti):=by
 intro pins s σ H D I h;obtain⟨v,e1,h⟩:=h;obtain⟨m,hn,hl⟩:=I.loc;have vis:Vis X.env.scope x:=by rcases hx with k |k;exact .inl k;exact .inr (.inl k)
 obtain⟨u,r,l⟩:=hl i x v hi e1 vis;refine wpAny_AugAssign_Name ?_
 have go:As (Az X.prog X.w) X.A (eval e X.env) (λw s₂=>As (Az X.prog X.w) X.A (inplaceOp op u w) (λr s₃=>As (Az X.prog X.w) X.A (storeName X.env x r) (λ_=>SP X pins D .next) X.xe s₃) X.xe s₂) X.xe s:=by
  refine thn (he pins s σ H _ I h) λw s1 ⟨y,H1,I1,r1,q1⟩=>?_
  refine thn (ho pins s1 σ H1 v y u w _ I1 r r1 q1) λz s2 ⟨zv,H2,I2,r2,q2⟩=>?_
  exact zdf I2 hN hi hx r2 (λs3 I3=>⟨_,H2,I3,q2⟩) hf
 rcases l with⟨hk,hm⟩ |⟨hk,c,hc,hcell⟩
 .exact wpAny_loadName_local I.ok.kind hk hn hm go
 .rcases hk with hk |hk
  .exact wpAny_loadName_cell I.ok.kind hk hc hcell go
  .rcases hx with k |k
   .have:X.env.scope.names.lookup x=some .free:=hk;rw[k]at this;cases this
   .have:X.env.scope.names.lookup x=some .free:=hk;rw[k]at this;cases this
noncomputable def ipI(f:Int->Int->Int):TIp:=λx y H Q=>∃i j,x=.int i/\y=.int j/\Q (.int (f i j)) H
theorem znT:PIp X .Add (ipI λi j=>i+j):=by intro pins s σ H x y v u Q I r1 r2 h;obtain⟨i,j,e1,e2,q⟩:=h;subst e1;subst e2;obtain⟨t,rfl⟩:=r1;obtain⟨t',rfl⟩:=r2;exact iadd_int ⟨.int _,H,I.tok _,⟨_,rfl⟩,q⟩
end
section
variable {X:Cx}{pos:Pos}
noncomputable def zl5(c:TT)(tb:TS):TS:=λD σ H=>∃W:Nat->St->Hp->Prop,(∃m,W m σ H)/\∀m σ H,W m σ H ->
 c σ H λb H1=>if b=true then ∃N:St->Hp->Prop,(∀ σ' H',N σ' H'->∃m',m'<m/\W m' σ' H')/\tb { D with nx:=N,ct:=N,bk:=D.nx } σ H1 else D.nx σ H1
theorem zlA{c:Expr}{body:List Stmt}{tc:TT}{tb:TS}(hp:PassesOwn (Az X.prog X.w) X.A X.env X.xe)(hc:PT X c tc)(hb:PSs X body tb):PS X (.While c body [] pos) (zl5 tc tb):=by
 intro pins s σ H D I h;obtain⟨W,⟨m0,w0⟩,turn⟩:=h;refine wpAny_While (codeAny_whileLoop (λn s'=>∃ σ' H',Inv X pins σ' H' s'/\W n σ' H') ?_ m0 ⟨σ,H,I,w0⟩);rintro n s1 ⟨σ1,H1,I1,w1⟩;refine CI hp (thn (hc pins s1 σ1 H1 _ I1 (turn n σ1 H1 w1)) λb s2 ⟨H2,I2,q2⟩=>?_)
 cases b with
 |true =>
  obtain⟨N,hN,q2⟩:=q2;rw[if_pos rfl];refine CI hp (thn (hb pins s2 σ1 H2 _ I2 q2) λf s3 q3=>?_)
  cases f with
  |next =>
   obtain⟨σ3,H3,I3,n3⟩:=q3;obtain⟨m',hm,w3⟩:=hN σ3 H3 n3;exact⟨m',hm,σ3,H3,I3,w3⟩
  |cont =>
   obtain⟨σ3,H3,I3,n3⟩:=q3;obtain⟨m',hm,w3⟩:=hN σ3 H3 n3;exact⟨m',hm,σ3,H3,I3,w3⟩
  |brk=>exact q3
  |ret v=>exact q3
 |false =>
  rw[if_neg AR];exact wpAny_execs_nil ⟨σ1,H2,I2,q2⟩
end
structure It where
 go:Nat->Hp->Prop
 yld:Nat->Hp->V->Hp->Prop
 stop:Nat->Hp->Prop
noncomputable def FpOk(X:Cx)(pins:List (Addr×Obj))(H:Hp)(b:Addr):Prop :=
 H b=none/\b≠X.env.locals/\b ∉ X.fs/\(b∈X.ex∨X.s₀.heap.objs.size<=b)/\(∀x c,X.env.cells.lookup x=some c->c≠b)/\∀p∈X.pn++pins,p.1≠b
theorem Inv.fpOk{X:Cx}{pins:List (Addr×Obj)}{σ:St}{H H':Hp}{s:Ae}{b:Addr}(I:Inv X pins σ H s)(hb:s.heap.objs.size<=b)(hn:H' b=none):FpOk X pins H' b:=by
 refine⟨hn,Nat.ne_of_gt (AM I.lt hb),I.nofs hb,.inr (Ba I.sz hb),λx c e z=>?_,λp hp z=>?_⟩
 .obtain⟨v,q⟩:=I.cell x c e;exact absurd (AM q.lt (by rw[z];exact hb)) (BM _)
 .exact absurd (AM (Aq (I.pin p hp).1) (by rw[z];exact hb)) (BM _)
structure Turn (P:AH) (w:A1) (K:W.Frag) (tg:Expr) (J:It) (fp:List Addr) (it:Addr) (tn:Nat->Heap->Prop):Prop where
 mem:it∈fp
 obj:∀i h,tn i h->∀b∈fp,∃o,h.get? b=some o/\∀v,o.data≠.cell v
 keep:∀i h h',tn i h->(∀b∈fp,∀o,h.get? b=some o->h'.get? b=some o)->tn i h'
 item:∀(X:Cx),X.prog=P->X.w=w->X.K=K->X.calm=true->∀(i:Nat) (pins:List (Addr×Obj)) (s:Ae) (σ:St) (H:Hp) (E:Ab->Ae->Prop),Inv X pins σ H s->(∀b∈fp,FpOk X pins H b)->tn i s.heap->J.go i H ->
  As (Az P w) X.A (pyNext (.ref it)) (λr s1=>∃u,r=some u /\
   As (Az P w) X.A (DC tg (.ref it) u) (λ_ s2=>∃x H',Inv X pins σ H' s2/\RelV x u/\J.yld i H x H'/\tn (i+1) s2.heap/\∀b∈fp,H' b=none) E s1) E s
 done:∀(X:Cx),X.prog=P->X.w=w->X.K=K->X.calm=true->∀(i:Nat) (pins:List (Addr×Obj)) (s:Ae) (σ:St) (H:Hp) (E:Ab->Ae->Prop),Inv X pins σ H s->(∀b∈fp,FpOk X pins H b)->tn i s.heap->J.stop i H ->
  As (Az P w) X.A (pyNext (.ref it)) (λr s1=>r=none/\Inv X pins σ H s1) E s
 self:∀(A:AS) (i:Nat) (s:Ae) (Q:Ab->Ae->Prop) (E:Ab->Ae->Prop),tn i s.heap->Q (.ref it) s->As (Az P w) A (pyIter (.ref it)) Q E s
noncomputable abbrev TI:=St->Hp->(It->Hp->Prop)->Prop
noncomputable def PIE(X:Cx)(pins:List (Addr×Obj))(σ:St)(tg:Expr)(R:It->Hp->Prop)(itv:Ab)(s2:Ae):Prop :=
 ∃(it:Addr) (fp:List Addr) (tn:Nat->Heap->Prop) (J:It) (H':Hp),itv=.ref it/\Inv X pins σ H' s2/\Turn X.prog X.w X.K tg J fp it tn/\tn 0 s2.heap/\(∀b∈fp,FpOk X pins H' b)/\R J H'
noncomputable def PI(X:Cx)(tg iter:Expr)(wi:TI):Prop :=
 ∀(pins:List (Addr×Obj)) (s:Ae) (σ:St) (H:Hp) (R:It->Hp->Prop),Inv X pins σ H s->wi σ H R ->
  As (Az X.prog X.w) X.A (eval iter X.env) (λv s1=>As (Az X.prog X.w) X.A (pyIter v) (PIE X pins σ tg R) X.xe s1) X.xe s
theorem go_of {M : Model}{A : AS}{E : Ab → Ae → Prop}{s : Ae}{tg : Expr}{it : Addr}{u : Ab}{o : Obj}{n : String}{vs : Array Ab}{Q : Unit → Ae → Prop}(ho : s.heap.get? it = some o) (hc : o.cls = .type n) (hd : o.data = .fields vs)
    (hn:["enumerate","zip","dict_itemiterator","dict_reverseitemiterator","odict_iterator","itertools.zip_longest","itertools.pairwise"].contains n=false) (hQ:Q () s):As M A (DC tg (.ref it) u) Q E s:=by
  unfold DC
  cases tg <;> first
    | exact Am hQ
    | (cases u <;> first
        | exact Am hQ
        | (refine Ac (wpAny_load ho ?_)
           rw[hc,hd]
           show As M A (if (["enumerate","zip","dict_itemiterator","dict_reverseitemiterator","odict_iterator","itertools.zip_longest","itertools.pairwise"].contains n && vs[0]? == some (rawInt _))=true then _ else _) Q E s
           rw[if_neg (by intro h;rw[hn,Bool.false_and] at h;cases h)]
           exact Am hQ))
noncomputable def Itl(K:W.Frag)(a:Addr):It :=
 ⟨λi H=>∃xs x,SqL K H a xs/\xs[i]?=some x,λi H x H'=>H'=H/\∀xs,SqL K H a xs->xs[i]?=some x,λi H=>∃xs,SqL K H a xs/\xs.length<=i⟩
noncomputable def Itt(K:W.Frag)(a:Addr):It :=
 ⟨λi H=>∃xs x,SqT K H a xs/\xs[i]?=some x,λi H x H'=>H'=H/\∀xs,SqT K H a xs->xs[i]?=some x,λi H=>∃xs,SqT K H a xs/\xs.length<=i⟩
noncomputable def Itr(lo:Int)(n:Nat):It:=⟨λi _=>i<n,λi H x H'=>H'=H/\x=.int (lo+i),λi _=>n<=i⟩
theorem zjJ{P:AH}{w:A1}{K:W.Frag}{tg:Expr}(a it:Addr):Turn P w K tg (Itl K a) [it] it (λi h=>h.IsListIter it a i) where
 mem:=by simp
 obj:=λi h st b hb=>by
  have e:b=it:=by simpa using hb
  subst e;obtain⟨o,e,c,d⟩:=st;exact⟨o,e,λv z=>by rw[d]at z;cases z⟩
 keep:=λi h h' st k=>st.at λo e=>k it (by simp) o e
 item:=by
  intro X hP hw hK hc i pins s σ H E I hf st hg;subst hP hw hK;obtain⟨xs,x,hq,hx⟩:=hg;obtain⟨its,rv,p,hz⟩:=I.list hq;obtain⟨u,hu,ru⟩:=rv.get hx;obtain⟨f0,f1,f2,f3,f4,f5⟩:=hf it (by simp);refine wpAny_pyNext_list_item st p.isList (x:=u) (by simpa using hu) λh' st' sb=>?_
  have I1:Inv X pins σ H { s with heap:=h' }:=I.turned (t':=s.toks) (λb o hb e=>(sb.2 b hb).trans e) f0 f1 f3 f4 f5;obtain⟨o,e,c,d⟩:=id st';exact⟨u,rfl,go_of (s:={ s with heap:=h' }) e c d (by decide) ⟨x,H,I1,ru,⟨rfl,λys hy=>by rw[I.list_inj hy hq];exact hx⟩,st',λb hb=>(hf b hb).1⟩⟩
 done:=by intro X hP hw hK hc i pins s σ H E I hf st hg;subst hP hw hK;obtain⟨xs,hq,hx⟩:=hg;obtain⟨its,rv,p,hz⟩:=I.list hq;obtain⟨f0,f1,f2,f3,f4,f5⟩:=hf it (by simp);have hl:=rv.length;exact wpAny_pyNext_list_end (I.ok.hd hc) st p.isList (by simp;lia) λh' eb=>⟨rfl,I.turned (t':=s.toks) (λb o hb e=>eb b o hb e) f0 f1 f3 f4 f5⟩
 self:=λ_ _ _ _ _ st h=>wpAny_pyIter_listiter st h
theorem zjd{P:AH}{w:A1}{K:W.Frag}{tg:Expr}(a it:Addr):Turn P w K tg (Itt K a) [it] it (λi h=>h.IsTupleIter it a i) where
 mem:=by simp
 obj:=λi h st b hb=>by
  have e:b=it:=by simpa using hb
  subst e;obtain⟨o,e,c,d⟩:=st;exact⟨o,e,λv z=>by rw[d]at z;cases z⟩
 keep:=λi h h' st k=>st.at λo e=>k it (by simp) o e
 item:=by
  intro X hP hw hK hc i pins s σ H E I hf st hg;subst hP hw hK;obtain⟨xs,x,hq,hx⟩:=hg;obtain⟨its,rv,p,hz⟩:=I.tuple hq;obtain⟨u,hu,ru⟩:=rv.get hx;obtain⟨f0,f1,f2,f3,f4,f5⟩:=hf it (by simp);refine wpAny_pyNext_tuple_item st (show s.heap.IsTuple a its.toArray from p) (x:=u) (by simpa using hu) λh' st' sb=>?_
  have I1:Inv X pins σ H { s with heap:=h' }:=I.turned (t':=s.toks) (λb o hb e=>(sb.2 b hb).trans e) f0 f1 f3 f4 f5;obtain⟨o,e,c,d⟩:=id st';exact⟨u,rfl,go_of (s:={ s with heap:=h' }) e c d (by decide) ⟨x,H,I1,ru,⟨rfl,λys hy=>by rw[I.tuple_inj hy hq];exact hx⟩,st',λb hb=>(hf b hb).1⟩⟩
 done:=by intro X hP hw hK hc i pins s σ H E I hf st hg;subst hP hw hK;obtain⟨xs,hq,hx⟩:=hg;obtain⟨its,rv,p,hz⟩:=I.tuple hq;obtain⟨f0,f1,f2,f3,f4,f5⟩:=hf it (by simp);have hl:=rv.length;exact wpAny_pyNext_tuple_end (I.ok.hd hc) st (show s.heap.IsTuple a its.toArray from p) (by simp;lia) λh' eb=>⟨rfl,I.turned (t':=s.toks) (λb o hb e=>eb b o hb e) f0 f1 f3 f4 f5⟩
 self:=λ_ _ _ _ _ st h=>wpAny_pyIter_tupleiter st h
theorem zje{P:AH}{w:A1}{K:W.Frag}{tg:Expr}(it:Addr)(lo:Int)(n:Nat):Turn P w K tg (Itr lo n) [it] it (λi h=>IsRangeIter h it (lo+(i:Nat)*1) ((n:Int)-(i:Nat)) 1) where
 mem:=by simp
 obj:=λi h st b hb=>by
  have e:b=it:=by simpa using hb
  subst e
  exact⟨_,st,λv z=>by
   have z':Data.fields _=Data.cell v:=z
   cases z'⟩
 keep:=λi h h' st k=>k it (by simp) _ st
 item:=by
  intro X hP hw hK hc i pins s σ H E I hf st hg;subst hP hw hK;obtain⟨f0,f1,f2,f3,f4,f5⟩:=hf it (by simp);have W:=Walks.range (prog:=X.prog) (w:=X.w) (I.ok.hd hc) it lo 1 n;refine W.item i s _ _ hg st λv h' tk hv st' kk=>?_
  obtain⟨t,rfl⟩:=hv;have I1:Inv X pins σ H { s with heap:=h',toks:=tk }:=I.turned (λb o hb e=>kk b o (by simpa using hb) e) f0 f1 f3 f4 f5;refine⟨_,rfl,go_of (s:={ s with heap:=h',toks:=tk }) (n:="range_iterator") st' rfl rfl (by decide) ⟨.int (lo+i),H,I1,⟨t,?_⟩,⟨rfl,rfl⟩,st',λb hb=>(hf b hb).1⟩⟩;rw[Int.mul_one]
 done:=by intro X hP hw hK hc i pins s σ H E I hf st hg;subst hP hw hK;obtain⟨f0,f1,f2,f3,f4,f5⟩:=hf it (by simp);exact wpAny_pyNext_range_end (I.ok.hd hc) st (by have:n<=i:=hg;lia) λh' eb=>⟨rfl,I.turned (t':=s.toks) (λb o hb e=>eb b o hb e) f0 f1 f3 f4 f5⟩
 self:=λ_ _ _ _ _ st h=>wpAny_pyIter_rangeiter st h
section
variable {X:Cx}{tg:Expr}
noncomputable def iList(K:W.Frag)(tl:TE):TI:=λσ H R=>tl σ H λx H1=>∃a,x=.ref a/\(∃xs,SqL K H1 a xs)/\R (Itl K a) H1
noncomputable def iTup(K:W.Frag)(tl:TE):TI:=λσ H R=>tl σ H λx H1=>∃a,x=.ref a/\(∃xs,SqT K H1 a xs)/\R (Itt K a) H1
theorem zaP{l:Expr}{tl:TE}(hl:PE X l tl):PI X tg l (iList X.K tl):=by
 intro pins s σ H R I h;refine thn (hl pins s σ H _ I h) λv s1 ⟨x,H1,I1,r1,q1⟩=>?_
 obtain⟨a,e,⟨xs,hq⟩,q⟩:=q1;subst e
 cases r1
 obtain⟨its,rv,p,hz⟩:=I1.list hq;refine Dh p.isList ?_
 refine⟨s1.heap.objs.size,[s1.heap.objs.size],_,_,H1,rfl,I1.kept (t':=s1.toks) λb o e=>Ag _ e,zjJ a _,⟨_,AD _ rfl,rfl,rfl⟩,λb hb=>?_,q⟩;have e:b=s1.heap.objs.size:=by simpa using hb
 subst e;exact I1.fpOk (Ai _) (I1.hok.fresh (Ai _))
theorem ziC{l:Expr}{tl:TE}(hl:PE X l tl):PI X tg l (iTup X.K tl):=by
 intro pins s σ H R I h;refine thn (hl pins s σ H _ I h) λv s1 ⟨x,H1,I1,r1,q1⟩=>?_
 obtain⟨a,e,⟨xs,hq⟩,q⟩:=q1;subst e
 cases r1
 obtain⟨its,rv,p,hz⟩:=I1.tuple hq;refine wpAny_pyIter_tuple (show s1.heap.IsTuple a its.toArray from p) ?_
 refine⟨s1.heap.objs.size,[s1.heap.objs.size],_,_,H1,rfl,I1.kept (t':=s1.toks) λb o e=>Ag _ e,zjd a _,⟨_,AD _ rfl,rfl,rfl⟩,λb hb=>?_,q⟩;have e:b=s1.heap.objs.size:=by simpa using hb
 subst e;exact I1.fpOk (Ai _) (I1.hok.fresh (Ai _))
theorem ziB{pins:List (Addr × Obj)}{σ : St}{H:Hp}{s:Ae}{R:It -> Hp -> Prop}{E:Ab -> Ae -> Prop}{lo hi:Int}{t u v:Tok}{tk:Nat}(I:Inv X pins σ H s)(h1 : -(2 ^ 62) <= lo)(h2:lo < 2 ^ 62)(h3 : -(2 ^ 62) <= hi)(h4:hi < 2 ^ 62)
  (q:R (Itr lo (hi-lo).toNat) H):As (Az X.prog X.w) X.A (pyIter (.ref s.heap.objs.size)) (PIE X pins σ tg R) E { s with heap:=s.heap.push { cls:=.type "range",data:=.fields #[.int lo t,.int hi u,.int 1 v] },toks:=tk }:=by
 refine wpAny_pyIter_range (IsRange.new ..) (small_one h1 h2 h3 h4) ?_
 have I1:Inv X pins σ H { s with heap:=s.heap.push { cls:=.type "range",data:=.fields #[.int lo t,.int hi u,.int 1 v] },toks:=tk }:=I.kept λb o e=>Ag _ e
 refine⟨(s.heap.push { cls:=.type "range",data:=.fields #[.int lo t,.int hi u,.int 1 v] }).objs.size,[(s.heap.push { cls:=.type "range",data:=.fields #[.int lo t,.int hi u,.int 1 v] }).objs.size],_,_,H,rfl,
  I1.kept (t':=tk) λb o e=>Ag _ e,zje _ lo (hi-lo).toNat,?_,λb hb=>?_,q⟩
 .have e1:lo+((0:Nat):Int)*1=lo:=by simp
  have e2:(((hi-lo).toNat:Nat):Int)-((0:Nat):Int)=Builtin.Range.rangeSize lo hi 1:=by rw[rangeSize_one];split <;> lia
  show IsRangeIter _ _ (lo+((0:Nat):Int)*1) ((((hi-lo).toNat:Nat):Int)-((0:Nat):Int)) 1;rw[e1,e2];exact AD _ rfl
 .have e:b=(s.heap.push { cls:=.type "range",data:=.fields #[.int lo t,.int hi u,.int 1 v] }).objs.size:=by simpa using hb
  subst e;exact I1.fpOk (Ai _) (I1.hok.fresh (Ai _))
noncomputable def iRng1(ta:TA):TI:=λσ H R=>ta σ H λvs H1=>∃j:Int,vs=[.int j]/\-(2 ^ 62)<=j/\j<2 ^ 62/\R (Itr 0 j.toNat) H1
noncomputable def iRng2(ta:TA):TI:=λσ H R=>ta σ H λvs H1=>∃i j:Int,vs=[.int i,.int j]/\(-(2 ^ 62)<=i/\i<2 ^ 62/\-(2 ^ 62)<=j/\j<2 ^ 62)/\R (Itr i (j-i).toNat) H1
theorem zbd {a:Expr}{ta:TA}{p pos:Pos}(hg:Gl X "range") (hm:X.mg "range" = none) (ha:PA X [a] ta) (hs:A4 [a] X.env=[(false,eval a X.env)]:=by rfl):PI X tg (.Call (.Name "range" p) [a] [] pos) (iRng1 ta):=by
 intro pins s σ H R I h;refine Call_ (zdT I hg hm boot_range (BQ (thn (ha pos pins s σ H _ I h) λus s1 ⟨vs,H1,I1,r1,q1⟩=>?_) hs rfl));obtain⟨j,e,q1,q2,q⟩:=q1;subst e
 cases r1 with
 |cons r rr =>
  cases rr
  obtain⟨t,rfl⟩:=r;exact call_range_1 (ziB I1 (by lia) (by lia) q1 q2 (by simpa using q))
theorem zeA {a b:Expr}{ta:TA}{p pos:Pos}(hg:Gl X "range") (hm:X.mg "range" = none) (ha:PA X [a, b] ta) (hs:A4 [a, b] X.env = [(false, eval a X.env), (false, eval b X.env)] := by rfl) (hs2:A4 [b] X.env = [(false, eval b X.env)] := by rfl) :
  PI X tg (.Call (.Name "range" p) [a,b] [] pos) (iRng2 ta):=by
 intro pins s σ H R I h;refine Call_ (zdT I hg hm boot_range (BQ (thn (ha pos pins s σ H _ I h) λus s1 ⟨vs,H1,I1,r1,q1⟩=>?_) (by rw[hs,hs2]) (by rw[hs2];rfl)));obtain⟨i,j,e,⟨q1,q2,q3,q4⟩,q⟩:=q1;subst e
 cases r1 with
 |cons r rr =>
  cases rr with
  |cons r' rr =>
   cases rr
   obtain⟨t,rfl⟩:=r;obtain⟨t',rfl⟩:=r';exact call_range_2 (ziB I1 q1 q2 q3 q4 q)
noncomputable def tFor(wi:TI)(g:TG)(tb:TS):TS:=λD σ H=>wi σ H λJ H1=>∃W:Nat->Nat->St->Hp->Prop,(∃m,W 0 m σ H1)/\∀i m σ H,W i m σ H ->
 (J.stop i H/\D.nx σ H)∨(J.go i H/\∃N:St->Hp->Prop,(∀ σ' H',N σ' H'->∃m',m'<m/\W (i+1) m' σ' H')/\∀x H',J.yld i H x H'->g x σ H' λσ2 H2=>tb { D with nx:=N,ct:=N,bk:=D.nx } σ2 H2)
noncomputable def zdS(fp:List Addr)(h:Heap):List (Addr×Obj):=fp.filterMap λb=>(h.get? b).map λo=>(b,o)
theorem zaZ{fp:List Addr}{h:Heap}{b:Addr}{o:Obj}(hb:b∈fp)(e:h.get? b=some o):(b,o)∈zdS fp h:=List.mem_filterMap.mpr ⟨b,hb,by rw[e];rfl⟩
theorem zku{fp:List Addr}{h:Heap}{p:Addr×Obj}(hp:p∈zdS fp h):p.1∈fp/\h.get? p.1=some p.2:=by
 obtain⟨b,hb,e⟩:=List.mem_filterMap.mp hp
 cases q:h.get? b with
 |none=>rw[q]at e;cases e
 |some o =>
  rw[q]at e;have e':(b,o)=p:=AI e;subst e';exact⟨hb,q⟩
theorem Inv.pinned{pins:List (Addr×Obj)}{σ:St}{H:Hp}{s:Ae}{fp:List Addr}(I:Inv X pins σ H s)(hf:∀b∈fp,FpOk X pins H b)(ho:∀b∈fp,∃o,s.heap.get? b=some o/\∀v,o.data≠.cell v):Inv X (pins++zdS fp s.heap) σ H s :=
 I.pins_of λp hp=>(Bf.mp hp).elim (λz=>I.pin p (Aw _ z)) λz=>by obtain⟨hb,e⟩:=zku z;obtain⟨f0,f1,f2,_⟩:=hf p.1 hb;obtain⟨o,e',d⟩:=ho p.1 hb;rw[e]at e';cases e';exact⟨e,f0,f1,f2,d⟩
theorem Inv.unpinned{pins pl:List (Addr×Obj)}{σ:St}{H:Hp}{s:Ae}(I:Inv X (pins++pl) σ H s):Inv X pins σ H s:=I.pins_of λp hp=>I.pin p (Aw _ (List.mem_append_left _ hp))
theorem zbR{iter:Expr}{body:List Stmt}{wi:TI}{g:TG}{tb:TS}{pos:Pos}(hp:PassesOwn (Az X.prog X.w) X.A X.env X.xe)(hc:X.calm=true)(hi:PI X tg iter wi)(hg:PG X tg g)(hb:PSs X body tb)
  (hs:∀x,Bi iter X.env x=pure x:=by intro _;rfl):PS X (.For tg iter body [] pos) (tFor wi g tb):=by
 intro pins s σ H D I h;refine wpAny_For (thn (hi pins s σ H _ I h) λv s1 h1=>thn h1 λitv s2 h2=>?_) hs;obtain⟨it,fp,tn,J,H2,e,I2,T,st2,f2,W,⟨m0,w0⟩,turn⟩:=h2;subst e;have stat:∀{H':Hp},(∀b∈fp,H' b=none)->∀b∈fp,FpOk X pins H' b:=λhn b hb=>⟨hn b hb,(f2 b hb).2⟩
 refine codeAny_forLoop_any (λn s'=>∃i σ' H',Inv X pins σ' H' s'/\tn i s'.heap/\(∀b∈fp,H' b=none)/\W i n σ' H') ?_ m0 ⟨0,σ,H2,I2,st2,λb hb=>(f2 b hb).1,w0⟩;rintro n s3 ⟨i,σ3,H3,I3,st3,fr3,w3⟩;rcases turn i n σ3 H3 w3 with⟨stop,qn⟩ |⟨go,N,hN,step⟩
 .refine CI hp (thn (T.done X rfl rfl rfl hc i pins s3 σ3 H3 X.xe I3 (stat fr3) st3 stop) λr s4 ⟨hr,I4⟩=>?_);subst hr;exact wpAny_execs_nil ⟨σ3,H3,I4,qn⟩
 .refine CI hp (thn (T.item X rfl rfl rfl hc i pins s3 σ3 H3 X.xe I3 (stat fr3) st3 go) λr s4 ⟨u,hr,h4⟩=>?_);subst hr;refine CI hp (thn h4 λ_ s5 ⟨x,H5,I5,r5,y5,st5,fr5⟩=>?_);have I5':=I5.pinned (stat fr5) (T.obj _ _ st5);refine CI hp (thn (hg _ s5 σ3 H5 x u _ I5' r5 (step x H5 y5)) λ_ s6 ⟨σ6,H6,I6,q6⟩=>?_);refine CI hp (thn (hb _ s6 σ6 H6 _ I6 q6) λf s7 q7=>?_)
  have again:∀{σ7:St} {H7:Hp},Inv X (pins++zdS fp s5.heap) σ7 H7 s7->N σ7 H7->∃m,m<n/\∃i σ' H',Inv X pins σ' H' s7/\tn i s7.heap/\(∀b∈fp,H' b=none)/\W i m σ' H':=λ{σ7 H7} I7 n7=>by obtain⟨m',hm,w7⟩:=hN σ7 H7 n7;refine⟨m',hm,i+1,σ7,H7,I7.unpinned,T.keep _ _ _ st5 λb hb o e=>(I7.pin (b,o) (Aw _ (Aw _ (zaZ hb e)))).1,λb hb=>?_,w7⟩;obtain⟨o,e,d⟩:=T.obj _ _ st5 b hb;exact (I7.pin (b,o) (Aw _ (Aw _ (zaZ hb e)))).2.1
  cases f with
  |next=>obtain⟨σ7,H7,I7,n7⟩:=q7;exact again I7 n7
  |cont=>obtain⟨σ7,H7,I7,n7⟩:=q7;exact again I7 n7
  |brk=>obtain⟨σ7,H7,I7,q7⟩:=q7;exact⟨σ7,H7,I7.unpinned,q7⟩
  |ret v=>obtain⟨x7,σ7,H7,I7,r7,q7⟩:=q7;exact⟨x7,σ7,H7,I7.unpinned,r7,q7⟩
end
theorem zay{K:W.Frag}{a:Addr}{xs:List V}{g:TG}{tb:TS}{D:Ends}{σ : St}{H:Hp}(Pv:Nat -> St -> Hp -> Prop)(h0:Pv 0 σ H)(hl:∀i σ H, i <= xs.length -> Pv i σ H -> SqL K H a xs)
  (hs:∀i x σ H,xs[i]?=some x->Pv i σ H->g x σ H λσ2 H2=>tb { D with nx:=Pv (i+1),ct:=Pv (i+1),bk:=D.nx } σ2 H2) (hd:∀ σ H,Pv xs.length σ H->D.nx σ H) :
  ∃W:Nat->Nat->St->Hp->Prop,(∃m,W 0 m σ H)/\∀i m σ H,W i m σ H ->
   ((Itl K a).stop i H/\D.nx σ H)∨((Itl K a).go i H/\∃N:St->Hp->Prop,(∀ σ' H',N σ' H'->∃m',m'<m/\W (i+1) m' σ' H')/\∀x H',(Itl K a).yld i H x H'->g x σ H' λσ2 H2=>tb { D with nx:=N,ct:=N,bk:=D.nx } σ2 H2):=by
 refine⟨λi m σ H=>m=xs.length-i/\i<=xs.length/\Pv i σ H,⟨xs.length,by simp,Bj _,h0⟩,?_⟩;rintro i m σ H ⟨rfl,hi,p⟩;have q:=hl i σ H hi p
 by_cases hlt:i<xs.length
 .refine .inr ⟨⟨xs,xs[i],q,by simp[hlt]⟩,Pv (i+1),λσ' H' p'=>⟨xs.length-(i+1),by lia,rfl,hlt,p'⟩,λx H' y=>?_⟩;obtain⟨e,y⟩:=y;subst e;exact hs i x σ _ (y xs q) p
 .have e:i=xs.length:=by lia
  subst e;exact .inl ⟨⟨xs,q,Ai _⟩,hd σ H p⟩
theorem zgq{K:W.Frag}{a:Addr}{xs:List V}{g:TG}{tb:TS}{D:Ends}{σ : St}{H:Hp}(Pv:Nat -> St -> Hp -> Prop)(h0:Pv 0 σ H)(hl:∀i σ H, i <= xs.length -> Pv i σ H -> SqT K H a xs)
  (hs:∀i x σ H,xs[i]?=some x->Pv i σ H->g x σ H λσ2 H2=>tb { D with nx:=Pv (i+1),ct:=Pv (i+1),bk:=D.nx } σ2 H2) (hd:∀ σ H,Pv xs.length σ H->D.nx σ H) :
  ∃W:Nat->Nat->St->Hp->Prop,(∃m,W 0 m σ H)/\∀i m σ H,W i m σ H ->
   ((Itt K a).stop i H/\D.nx σ H)∨((Itt K a).go i H/\∃N:St->Hp->Prop,(∀ σ' H',N σ' H'->∃m',m'<m/\W (i+1) m' σ' H')/\∀x H',(Itt K a).yld i H x H'->g x σ H' λσ2 H2=>tb { D with nx:=N,ct:=N,bk:=D.nx } σ2 H2):=by
 refine⟨λi m σ H=>m=xs.length-i/\i<=xs.length/\Pv i σ H,⟨xs.length,by simp,Bj _,h0⟩,?_⟩;rintro i m σ H ⟨rfl,hi,p⟩;have q:=hl i σ H hi p
 by_cases hlt:i<xs.length
 .refine .inr ⟨⟨xs,xs[i],q,by simp[hlt]⟩,Pv (i+1),λσ' H' p'=>⟨xs.length-(i+1),by lia,rfl,hlt,p'⟩,λx H' y=>?_⟩;obtain⟨e,y⟩:=y;subst e;exact hs i x σ _ (y xs q) p
 .have e:i=xs.length:=by lia
  subst e;exact .inl ⟨⟨xs,q,Ai _⟩,hd σ H p⟩
theorem zaS{lo:Int}{n:Nat}{g:TG}{tb:TS}{D:Ends}{σ : St}{H:Hp}(Pv:Nat -> St -> Hp -> Prop)(h0:Pv 0 σ H)
  (hs:∀i σ H,i<n->Pv i σ H->g (.int (lo+i)) σ H λσ2 H2=>tb { D with nx:=Pv (i+1),ct:=Pv (i+1),bk:=D.nx } σ2 H2) (hd:∀ σ H,Pv n σ H->D.nx σ H) :
  ∃W:Nat->Nat->St->Hp->Prop,(∃m,W 0 m σ H)/\∀i m σ H,W i m σ H ->
   ((Itr lo n).stop i H/\D.nx σ H)∨((Itr lo n).go i H/\∃N:St->Hp->Prop,(∀ σ' H',N σ' H'->∃m',m'<m/\W (i+1) m' σ' H')/\∀x H',(Itr lo n).yld i H x H'->g x σ H' λσ2 H2=>tb { D with nx:=N,ct:=N,bk:=D.nx } σ2 H2):=by
 refine⟨λi m σ H=>m=n-i/\i<=n/\Pv i σ H,⟨n,by simp,Bj _,h0⟩,?_⟩;rintro i m σ H ⟨rfl,hi,p⟩
 by_cases hlt:i<n
 .refine .inr ⟨hlt,Pv (i+1),λσ' H' p'=>⟨n-(i+1),by lia,rfl,hlt,p'⟩,λx H' y=>?_⟩;obtain⟨e,y⟩:=y;subst e y;exact hs i σ _ hlt p
 .have e:i=n:=by lia
  subst e;exact .inl ⟨Ai _,hd σ H p⟩
theorem zlm{c:TT}{tb:TS}{D:Ends}{σ : St}{H:Hp}(Pv:St -> Hp -> Prop)(μ : St -> Hp -> Nat)(h0:Pv σ H)
  (hs:∀ σ H,Pv σ H->c σ H λb H1=>if b=true then tb { D with nx:=λσ' H'=>Pv σ' H'/\μ σ' H'<μ σ H,ct:=λσ' H'=>Pv σ' H'/\μ σ' H'<μ σ H,bk:=D.nx } σ H1 else D.nx σ H1)
  (mono:∀ σ H Q Q',(∀b H1,Q b H1->Q' b H1)->c σ H Q->c σ H Q'):zl5 c tb D σ H:=by
 refine⟨λm σ H=>m=μ σ H/\Pv σ H,⟨_,rfl,h0⟩,?_⟩;rintro m σ H ⟨rfl,p⟩;refine mono σ H _ _ (λb H1 q=>?_) (hs σ H p)
 cases b with
 |true=>exact⟨_,λσ' H' ⟨p',l⟩=>⟨_,l,rfl,p'⟩,q⟩
 |false=>exact q
noncomputable abbrev R2:=V->V->Hp->VK->Prop
noncomputable def OpR(X:Cx)(f:Ab->Ab->Sem Ab)(r:R2):Prop :=
 ∀(pins:List (Addr×Obj)) (s:Ae) (σ:St) (H:Hp) (x y:V) (v u:Ab) (Q:VK),Inv X pins σ H s->RelV x v->RelV y u->r x y H Q ->
  As (Az X.prog X.w) X.A (f v u) (EP X pins σ Q) X.xe s
noncomputable def UnR(X:Cx)(f:Ab->Sem Ab)(r:V->Hp->VK->Prop):Prop :=
 ∀(pins:List (Addr×Obj)) (s:Ae) (σ:St) (H:Hp) (x:V) (v:Ab) (Q:VK),Inv X pins σ H s->RelV x v->r x H Q ->
  As (Az X.prog X.w) X.A (f v) (EP X pins σ Q) X.xe s
noncomputable def CallR(X:Cx)(f:Ab)(r:List V->Hp->VK->Prop):Prop :=
 ∀(pins:List (Addr×Obj)) (s:Ae) (σ:St) (H:Hp) (xs:List V) (us:List Ab) (Q:VK),Inv X pins σ H s->Vals xs us->r xs H Q ->
  As (Az X.prog X.w) X.A (call f us) (EP X pins σ Q) X.xe s
noncomputable def TruR(X:Cx)(r:V->Hp->(Bool->Hp->Prop)->Prop):Prop :=
 ∀(pins:List (Addr×Obj)) (s:Ae) (σ:St) (H:Hp) (x:V) (v:Ab) (Q:Bool->Hp->Prop),Inv X pins σ H s->RelV x v->r x H Q ->
  As (Az X.prog X.w) X.A (truthy v) (TP X pins σ Q) X.xe s
noncomputable def tOp(r:R2)(ta tb:TE):TE:=λσ H Q=>ta σ H λx H1=>tb σ H1 λy H2=>r x y H2 Q
noncomputable def tUn(r:V->Hp->VK->Prop)(ta:TE):TE:=λσ H Q=>ta σ H λx H1=>r x H1 Q
noncomputable def rI(C:Int->Int->Prop)(g:Int->Int->V):R2:=λx y H Q=>∃i j,x=.int i/\y=.int j/\C i j/\Q (g i j) H
noncomputable def rI0(g:Int->Int->V):R2:=λx y H Q=>∃i j,x=.int i/\y=.int j/\Q (g i j) H
noncomputable def rU(g:Int->V):V->Hp->VK->Prop:=λx H Q=>∃i,x=.int i/\Q (g i) H
section
variable {X:Cx}{a b c:Expr}{ta tb tc:TE}{pos:Pos}
theorem binT(ha:PE X a ta)(hb:PE X b tb){pins:List (Addr × Obj)}{s:Ae}{σ : St}{H:Hp}{R:V -> V -> Hp -> Prop}(I:Inv X pins σ H s)
  (h:ta σ H λx H1=>tb σ H1 λy H2=>R x y H2) {Q:Ab->Ae->Prop} {f:Ab->Ab->Sem Ab}
  (hf:∀v u s2 x y H2,Inv X pins σ H2 s2->RelV x v->RelV y u->R x y H2->As (Az X.prog X.w) X.A (f v u) Q X.xe s2) :
  As (Az X.prog X.w) X.A (eval a X.env) (λv s₁=>As (Az X.prog X.w) X.A (eval b X.env) (λu s₂=>As (Az X.prog X.w) X.A (f v u) Q X.xe s₂) X.xe s₁) X.xe s:=by
 refine thn (ha pins s σ H _ I h) λv s1 ⟨x,H1,I1,r1,q1⟩=>?_
 refine thn (hb pins s1 σ H1 _ I1 q1) λu s2 ⟨y,H2,I2,r2,q2⟩=>?_
 exact hf v u s2 x y H2 I2 r1 r2 q2
theorem pe_op{op:Operator}{r:R2}(ho:OpR X (Cs op) r)(ha:PE X a ta)(hb:PE X b tb):PE X (.BinOp a op b pos) (tOp r ta tb):=by intro pins s σ H Q I h;exact wpAny_BinOp (binT ha hb I h λv u s2 x y H2 I2 rx ry q=>ho pins s2 σ H2 x y v u Q I2 rx ry q)
theorem pe_un{op:UnaryOp}{r:V->Hp->VK->Prop}(ho:UnR X (unaryOp op) r)(ha:PE X a ta):PE X (.UnaryOp op a pos) (tUn r ta):=by intro pins s σ H Q I h;exact UnaryOp_ (thn (ha pins s σ H _ I h) λv s1 ⟨x,H1,I1,r1,q1⟩=>ho pins s1 σ H1 x v Q I1 r1 q1)
theorem opI{f:Ab -> Ab -> Sem Ab}{C:Int -> Int -> Prop}{g:Int -> Int -> Int}
  (rule:∀(i j:Int) (t u:Tok) (s:Ae) (Q:Ab->Ae->Prop) (E:Ab->Ae->Prop),C i j->Q (.int (g i j) s.toks) { s with toks:=s.toks+1 }->As (Az X.prog X.w) X.A (f (.int i t) (.int j u)) Q E s) :
  OpR X f (rI C λi j=>.int (g i j)):=by
 intro pins s σ H x y v u Q I rx ry h;obtain⟨i,j,rfl,rfl,hc,q⟩:=h;obtain⟨t,rfl⟩:=rx;obtain⟨t',rfl⟩:=ry;exact rule i j t t' s _ _ hc ⟨.int (g i j),H,I.tok _,⟨_,rfl⟩,q⟩
theorem opI0{f:Ab -> Ab -> Sem Ab}{g:Int -> Int -> Int}
  (rule:∀(i j:Int) (t u:Tok) (s:Ae) (Q:Ab->Ae->Prop) (E:Ab->Ae->Prop),Q (.int (g i j) s.toks) { s with toks:=s.toks+1 }->As (Az X.prog X.w) X.A (f (.int i t) (.int j u)) Q E s) :
  OpR X f (rI0 λi j=>.int (g i j)):=by
 intro pins s σ H x y v u Q I rx ry h;obtain⟨i,j,rfl,rfl,q⟩:=h;obtain⟨t,rfl⟩:=rx;obtain⟨t',rfl⟩:=ry;exact rule i j t t' s _ _ ⟨.int (g i j),H,I.tok _,⟨_,rfl⟩,q⟩
theorem opB0{f:Ab -> Ab -> Sem Ab}{g:Int -> Int -> Bool}
  (rule:∀(i j:Int) (t u:Tok) (s:Ae) (Q:Ab->Ae->Prop) (E:Ab->Ae->Prop),Q (.bool (g i j)) s->As (Az X.prog X.w) X.A (f (.int i t) (.int j u)) Q E s) :
  OpR X f (rI0 λi j=>.bl (g i j)):=by
 intro pins s σ H x y v u Q I rx ry h;obtain⟨i,j,rfl,rfl,q⟩:=h;obtain⟨t,rfl⟩:=rx;obtain⟨t',rfl⟩:=ry;exact rule i j t t' s _ _ ⟨.bl (g i j),H,I,rfl,q⟩
noncomputable def CDiv(i j:Int):Prop:=0<j/\j<1073741824
noncomputable def CPow(i j:Int):Prop:=0<=j/\j<=1000000/\i.natAbs<2 ^ 64
noncomputable def CMul(i j:Int):Prop:=(-(2 ^ 64)<i/\i<2 ^ 64)∨(-(2 ^ 64)<j/\j<2 ^ 64)
theorem CMul.ok{i j:Int}(h:CMul i j):IntMulOk i j:=by
 rcases h with⟨h1,h2⟩ |⟨h1,h2⟩
 .exact .of_left (intBits_le_64 h1 h2)
 .exact .of_right (intBits_le_64 h1 h2)
theorem zaQ:OpR X (Cs .Add) (rI0 λi j=>.int (i+j)):=opI0 λ_ _ _ _ _ _ _ q=>add_int q
theorem za5:OpR X (Cs .Sub) (rI0 λi j=>.int (i-j)):=opI0 λ_ _ _ _ _ _ _ q=>sub_int q
theorem zcZ:OpR X (Cs .Mult) (rI CMul λi j=>.int (i*j)):=opI λ_ _ _ _ _ _ _ hc q=>mul_int q hc.ok
theorem zkp:OpR X (Cs .FloorDiv) (rI CDiv λi j=>.int (i / j)):=opI λi j _ _ _ _ _ hc q=>by have h1:(0:Int)<j:=hc.1;have h2:j<1073741824:=hc.2;exact floordiv_int (by lia) (by rw[Int.fdiv_eq_ediv_of_nonneg i (by lia)];exact q) (.inl (PyProof.noPylong_small (by lia)))
theorem zaT:OpR X (Cs .Mod) (rI (λ_ j=>0<j) λi j=>.int (i % j)):=opI λi j _ _ _ _ _ hc q=>by have h1:(0:Int)<j:=hc;exact mod_int' (by lia) (by rw[Int.fmod_eq_emod_of_nonneg i (by lia)];exact q)
theorem zgX:OpR X (Cs .Pow) (rI CPow λi j=>.int (i ^ j.toNat)):=opI λ_ _ _ _ _ _ _ hc q=>pow_int_small hc.1 hc.2.1 hc.2.2 q
theorem unI{f:Ab -> Sem Ab}{g:Int -> Int}
  (rule:∀(i:Int) (t:Tok) (s:Ae) (Q:Ab->Ae->Prop) (E:Ab->Ae->Prop),Q (.int (g i) s.toks) { s with toks:=s.toks+1 }->As (Az X.prog X.w) X.A (f (.int i t)) Q E s) :
  UnR X f (rU λi=>.int (g i)):=by
 intro pins s σ H x v Q I rx h;obtain⟨i,rfl,q⟩:=h;obtain⟨t,rfl⟩:=rx;exact rule i t s _ _ ⟨.int (g i),H,I.tok _,⟨_,rfl⟩,q⟩
theorem zii:UnR X (unaryOp .USub) (rU λi=>.int (-i)):=unI λ_ _ _ _ _ q=>neg_int q
end
noncomputable def scal:V->V->Bool
 |.non,.non=>true |.non,.int _=>true |.int _,.non=>true |.non,.bl _=>true |.bl _,.non=>true |.non,.str _=>true |.str _,.non=>true
 |.int _,.int _=>true |.bl _,.bl _=>true |.str _,.str _=>true |.byt _,.byt _=>true
 |.int _,.str _=>true |.str _,.int _=>true |.bl _,.str _=>true |.str _,.bl _=>true
 |_,_=>false
noncomputable def rEq:R2:=λx y H Q=>scal x y=true/\Q (.bl (decide (x=y))) H
noncomputable def rNe:R2:=λx y H Q=>scal x y=true/\Q (.bl (!decide (x=y))) H
theorem zkZ{i j:Int}:decide (V.int i=V.int j)=(i == j):=by rw[BN];simp
theorem zmq{i j:Bool}:decide (V.bl i=V.bl j)=(i == j):=by rw[BN];simp
theorem zkY{i j:Str}:decide (V.str i=V.str j)=(i == j):=by rw[BN];simp
theorem zk0{i j:Array UInt8}:decide (V.byt i=V.byt j)=(i.toList == j.toList):=by
 rw[BN]
 cases i
 cases j
 simp
section
variable {X:Cx}{a b c:Expr}{ta tb tc:TE}{pos:Pos}
theorem zaA{pins:List (Addr×Obj)}{σ:St}{H:Hp}{s:Ae}{Q:VK}{k k':Bool}(I:Inv X pins σ H s)(q:Q (.bl k) H)(e:k=k'):EP X pins σ Q (.bool k') s:=by subst e;exact⟨.bl k,H,I,rfl,q⟩
theorem op_eq:OpR X (Bs .Eq) rEq:=by
 intro pins s σ H x y v u Q I rx ry h;obtain⟨hs,q⟩:=h
 cases x with
 |non =>
  cases rx
  cases y with
  |non=>cases ry;exact PySem.EqNone.eq_none_none (zaA I q (by simp))
  |bl j=>cases ry;exact PySem.EqNone.eq_none_bool (zaA I q (by simp))
  |int j=>obtain⟨t',rfl⟩:=ry;exact PySem.EqNone.eq_none_int (zaA I q (by simp))
  |str j=>obtain⟨t',rfl⟩:=ry;exact PySem.EqNone.eq_none_str (zaA I q (by simp))
  |_=>exact absurd (show false=true from hs) AR
 |bl i =>
  cases rx
  cases y with
  |non=>cases ry;exact PySem.EqNone.eq_bool_none (zaA I q (by simp))
  |bl j=>cases ry;exact eq_bool (zaA I q zmq)
  |str j=>obtain⟨t',rfl⟩:=ry;exact PySem.EqMixed.eq_bool_str (zaA I q (by simp))
  |_=>exact absurd (show false=true from hs) AR
 |int i =>
  obtain⟨t,rfl⟩:=rx
  cases y with
  |non=>cases ry;exact PySem.EqNone.eq_int_none (zaA I q (by simp))
  |int j=>obtain⟨t',rfl⟩:=ry;exact eq_int (zaA I q zkZ)
  |str j=>obtain⟨t',rfl⟩:=ry;exact PySem.EqMixed.eq_int_str (zaA I q (by simp))
  |_=>exact absurd (show false=true from hs) AR
 |str i =>
  obtain⟨t,rfl⟩:=rx
  cases y with
  |non=>cases ry;exact PySem.EqNone.eq_str_none (zaA I q (by simp))
  |bl j=>cases ry;exact PySem.EqMixed.eq_str_bool (zaA I q (by simp))
  |int j=>obtain⟨t',rfl⟩:=ry;exact PySem.EqMixed.eq_str_int (zaA I q (by simp))
  |str j=>obtain⟨t',rfl⟩:=ry;exact eq_str (zaA I q zkY)
  |_=>exact absurd (show false=true from hs) AR
 |byt i =>
  obtain⟨t,rfl⟩:=rx
  cases y with
  |byt j=>obtain⟨t',rfl⟩:=ry;exact W.eq_bytes (zaA I q zk0)
  |_=>exact absurd (show false=true from hs) AR
 |_=>cases y <;> exact absurd (show false=true from hs) AR
theorem op_ne:OpR X (Bs .NotEq) rNe:=by
 intro pins s σ H x y v u Q I rx ry h;obtain⟨hs,q⟩:=h
 cases x with
 |non =>
  cases rx
  cases y with
  |non=>cases ry;exact PySem.EqNone.ne_none_none (zaA I q (by simp))
  |bl j=>cases ry;exact PySem.EqNone.ne_none_bool (zaA I q (by simp))
  |int j=>obtain⟨t',rfl⟩:=ry;exact PySem.EqNone.ne_none_int (zaA I q (by simp))
  |str j=>obtain⟨t',rfl⟩:=ry;exact PySem.EqNone.ne_none_str (zaA I q (by simp))
  |_=>exact absurd (show false=true from hs) AR
 |bl i =>
  cases rx
  cases y with
  |non=>cases ry;exact PySem.EqNone.ne_bool_none (zaA I q (by simp))
  |bl j=>cases ry;exact ne_bool (zaA I q (congrArg not zmq))
  |str j=>obtain⟨t',rfl⟩:=ry;exact PySem.EqMixed.ne_bool_str (zaA I q (by simp))
  |_=>exact absurd (show false=true from hs) AR
 |int i =>
  obtain⟨t,rfl⟩:=rx
  cases y with
  |non=>cases ry;exact PySem.EqNone.ne_int_none (zaA I q (by simp))
  |int j=>obtain⟨t',rfl⟩:=ry;exact ne_int (zaA I q (congrArg not zkZ))
  |str j=>obtain⟨t',rfl⟩:=ry;exact PySem.EqMixed.ne_int_str (zaA I q (by simp))
  |_=>exact absurd (show false=true from hs) AR
 |str i =>
  obtain⟨t,rfl⟩:=rx
  cases y with
  |non=>cases ry;exact PySem.EqNone.ne_str_none (zaA I q (by simp))
  |bl j=>cases ry;exact PySem.EqMixed.ne_str_bool (zaA I q (by simp))
  |int j=>obtain⟨t',rfl⟩:=ry;exact PySem.EqMixed.ne_str_int (zaA I q (by simp))
  |str j=>obtain⟨t',rfl⟩:=ry;exact ne_str (zaA I q (congrArg not zkY))
  |_=>exact absurd (show false=true from hs) AR
 |byt i =>
  obtain⟨t,rfl⟩:=rx
  cases y with
  |byt j=>obtain⟨t',rfl⟩:=ry;exact W.ne_bytes (zaA I q (congrArg not zk0))
  |_=>exact absurd (show false=true from hs) AR
 |_=>cases y <;> exact absurd (show false=true from hs) AR
theorem op_lt:OpR X (Bs .Lt) (rI0 λi j=>.bl (decide (i<j))):=opB0 λ_ _ _ _ _ _ _ q=>lt_int q
theorem op_gt:OpR X (Bs .Gt) (rI0 λi j=>.bl (decide (j<i))):=opB0 λ_ _ _ _ _ _ _ q=>gt_int q
theorem op_ge:OpR X (Bs .GtE) (rI0 λi j=>.bl (decide (j<=i))):=opB0 λ_ _ _ _ _ _ _ q=>ge_int q
theorem zgZ:OpR X (Bs .Is) (λx y H Q=>y=.non/\Q (.bl (decide (x=.non))) H):=by
 intro pins s σ H x y v u Q I rx ry h;obtain⟨rfl,q⟩:=h
 cases ry
 refine is_none_gen (zaA I q ?_)
 cases x <;> first
  | (cases rx;rfl)
  | (obtain⟨t,rfl⟩:=rx;rfl)
theorem zdI:OpR X (Bs .IsNot) (λx y H Q=>y=.non/\Q (.bl (!decide (x=.non))) H):=by
 intro pins s σ H x y v u Q I rx ry h;obtain⟨rfl,q⟩:=h
 cases ry
 refine isnot_none_gen (zaA I q ?_)
 cases x <;> first
  | (cases rx;rfl)
  | (obtain⟨t,rfl⟩:=rx;rfl)
theorem zan(b:Expr){op:CmpOp}(h:op≠.In:=by decide)(h2:op≠.NotIn:=by decide):behindInMarks op b=false:=by
 have e1:(op == CmpOp.In)=false:=by cases op <;> first |rfl |exact absurd rfl h
 have e2:(op == CmpOp.NotIn)=false:=by cases op <;> first |rfl |exact absurd rfl h2
 cases b <;> simp[behindInMarks,e1,e2]
theorem zaK{op:CmpOp}{r:R2}(ho:OpR X (Bs op) r)(ha:PE X a ta)(hb:PE X b tb)(hm:behindInMarks op b=false):PE X (.Compare a [op] [b] pos) (tOp r ta tb):=by intro pins s σ H Q I h;exact wpAny_Compare1 (binT ha hb I h λv u s2 x y H2 I2 rx ry q=>ho pins s2 σ H2 x y v u Q I2 rx ry q) hm
noncomputable def tTest(t:TE):TT:=λσ H Q=>t σ H λx H'=>∃k,x=.bl k/\Q k H'
theorem zar{op:CmpOp}{r:R2}(ho:OpR X (Bs op) r)(ha:PE X a ta)(hb:PE X b tb)(hm:behindInMarks op b=false):PT X (.Compare a [op] [b] pos) (tTest (tOp r ta tb)):=by
 intro pins s σ H Q I h
 refine wpAny_isTrue_Compare1 (thn (ha pins s σ H _ I h) λv s1 ⟨x,H1,I1,r1,q1⟩=>thn (hb pins s1 σ H1 _ I1 q1) λu s2 ⟨y,H2,I2,r2,q2⟩ =>
  thn (ho pins s2 σ H2 x y v u _ I2 r1 r2 q2) λc s3 ⟨z,H3,I3,r3,k,e,q3⟩=>?_) hm
 subst e
 cases r3
 exact BD ⟨H3,I3,q3⟩
noncomputable def TruV(K:W.Frag)(x:V)(H:Hp)(k:Bool):Prop :=
 match x with
 |.non=>k=false
 |.bl b=>k=b
 |.int i=>k=(i != 0)
 |.str y=>y.length<=sizeLine/\k=((y.length:Int) != 0)
 |.byt y=>y.size<=sizeLine/\k=((y.size:Int) != 0)
 |.ref p=>(∃xs,SqL K H p xs/\k=!xs.isEmpty)∨(∃xs,SqT K H p xs/\k=!xs.isEmpty)∨∃kvs,H p=some (.dK kvs)/\k=!kvs.isEmpty
 |_=>False
theorem zjx{κ:Type}{kvs:List (κ×V)}{vs:List (κ×Ab)}(r:KV kvs vs):(!vs.isEmpty)=!kvs.isEmpty:=by
 cases r <;> rfl
theorem zfB{xs:List V}{its:List Ab}(r:Vals xs its):(!its.toArray.isEmpty)=!xs.isEmpty:=by
 cases r <;> simp
theorem zg8:(sizeLine:Nat)<2 ^ 63:=by rw[sizeLine_eq];decide
theorem znj:TruR X (λx H Q=>∃k,TruV X.K x H k/\Q k H):=by
 intro pins s σ H x v Q I rx h;obtain⟨k,e,q⟩:=h;have hl:=zg8;have hs:sizeLine=16777216:=sizeLine_eq
 cases x with
 |non =>
  cases rx
  have e':k=false:=e;subst e';exact truthy_none ⟨H,I,q⟩
 |bl b =>
  cases rx
  have e':k=b:=e;subst e';exact BD ⟨H,I,q⟩
 |int i =>
  obtain⟨t,rfl⟩:=rx;have e':k=(i != 0):=e;subst e';exact PySem.P.truthy_int ⟨H,I,q⟩
 |str y =>
  obtain⟨t,rfl⟩:=rx;obtain⟨hy,e'⟩:y.length<=sizeLine/\k=((y.length:Int) != 0):=e;subst e';exact PySem.P.truthy_str (by lia) ⟨H,I.tok _,q⟩
 |byt y =>
  obtain⟨t,rfl⟩:=rx;obtain⟨hy,e'⟩:y.size<=sizeLine/\k=((y.size:Int) != 0):=e;subst e';exact W.truthy_bytes (by lia) ⟨H,I.tok _,q⟩
 |ref p =>
  cases rx
  have e':(∃xs,SqL X.K H p xs/\k=!xs.isEmpty)∨(∃xs,SqT X.K H p xs/\k=!xs.isEmpty)∨∃kvs,H p=some (.dK kvs)/\k=!kvs.isEmpty:=e;rcases e' with⟨xs,hx,e'⟩ |⟨xs,hx,e'⟩ |⟨kvs,hx,e'⟩
  .subst e';obtain⟨its,r,pl,hz⟩:=I.list hx;have hlen:=r.length;exact wpAny_truthy_list pl.isList (by simp only[An];lia) ⟨H,I.tok _,by rw[zfB r];exact q⟩
  .subst e';obtain⟨its,r,pl,hz⟩:=I.tuple hx;have hlen:=r.length;exact truthy_tuple pl (by simp only[An];lia) ⟨H,I.tok _,by rw[zfB r];exact q⟩
  .subst e';obtain⟨hz,hS,vs,r,m⟩:kvs.length<=sizeLine/\(p == Cr)=false/\∃vs,KV kvs vs/\s.heap.DictOf (zaR X.prog X.w) p vs:=I.hok p _ hx;have hlen:kvs.length=vs.length:=Dw r;exact wpAny_truthy_dict hS m (by lia) ⟨H,I.tok _,by rw[zjx r];exact q⟩
 |_=>exact (show False from e).elim
theorem zdr(ha:PE X a ta)(he:∀whole, isTrue a X.env whole=(do let v <- whole; standAt a.pos; Dr [v] (truthy v))) :
  PT X a (λσ H Q=>ta σ H λx H'=>∃k,TruV X.K x H' k/\Q k H'):=by
 intro pins s σ H Q I h;exact isTrue_plain (thn (ha pins s σ H _ I h) λv s1 ⟨x,H1,I1,r1,q1⟩=>znj pins s1 σ H1 x v Q I1 r1 q1) (he _)
theorem vals1{x:V}{us:List Ab}(r:Vals [x] us):∃u,us=[u]/\RelV x u:=by
 cases r with
 |cons r1 r2=>cases r2;exact⟨_,rfl,r1⟩
theorem vals2{x y:V}{us:List Ab}(r:Vals [x,y] us):∃u w',us=[u,w']/\RelV x u/\RelV y w':=by
 cases r with
 |cons r1 r2 =>
  cases r2 with
  |cons r3 r4=>cases r4;exact⟨_,_,rfl,r1,r3⟩
theorem zi6:CallR X (.builtin "abs") (λxs H Q=>∃i,xs=[.int i]/\Q (.int (if i<0 then -i else i)) H):=by intro pins s σ H xs us Q I r h;obtain⟨i,rfl,q⟩:=h;obtain⟨u,rfl,t,rfl⟩:=vals1 r;exact call_abs_int λu tk=>⟨.int (if i<0 then -i else i),H,I.tok _,⟨_,rfl⟩,q⟩
theorem zla (hc:X.calm=true):CallR X (.builtin "max") (λxs H Q=>∃i j,xs=[.int i,.int j]/\Q (.int (if j > i then j else i)) H):=by
 intro pins s σ H xs us Q I r h;obtain⟨i,j,rfl,q⟩:=h;obtain⟨u,w',rfl,⟨t,rfl⟩,⟨t',rfl⟩⟩:=vals2 r;refine max_two_ints (I.ok.hd hc) λh' tk k=>⟨_,H,I.kept k,?_,q⟩
 by_cases hj:j > i
 .rw[if_pos hj,if_pos hj];exact⟨_,rfl⟩
 .rw[if_neg hj,if_neg hj];exact⟨_,rfl⟩
theorem zhi (hc:X.calm=true):CallR X (.builtin "min") (λxs H Q=>∃i j,xs=[.int i,.int j]/\Q (.int (if j<i then j else i)) H):=by
 intro pins s σ H xs us Q I r h;obtain⟨i,j,rfl,q⟩:=h;obtain⟨u,w',rfl,⟨t,rfl⟩,⟨t',rfl⟩⟩:=vals2 r;refine min_two_ints (I.ok.hd hc) λh' tk k=>⟨_,H,I.kept k,?_,q⟩
 by_cases hj:j<i
 .rw[if_pos hj,if_pos hj];exact⟨_,rfl⟩
 .rw[if_neg hj,if_neg hj];exact⟨_,rfl⟩
theorem zhj:CallR X (.type "int") (λxs H Q=>(∃i,xs=[.int i]/\Q (.int i) H)∨∃k,xs=[.bl k]/\Q (.int (if k then 1 else 0)) H):=by
 intro pins s σ H xs us Q I r h;rcases h with⟨i,rfl,q⟩ |⟨k,rfl,q⟩
 .obtain⟨u,rfl,t,rfl⟩:=vals1 r;exact call_int_int ⟨.int i,H,I,⟨_,rfl⟩,q⟩
 .obtain⟨u,rfl,r1⟩:=vals1 r
  cases r1
  exact call_int_bool ⟨.int (if k then 1 else 0),H,I.tok _,⟨_,rfl⟩,q⟩
end
structure ObjM (h:Heap) (x dx C:Addr) (mA:Str->Option Ab):Prop where
 obj:h.get? x=some (W.instObj C dx)
 ns:h.Ns1 dx mA
 ne:dx≠x
section
variable {prog:AH}{w:A1}{A:AS}{E:Ab->Ae->Prop}{s:Ae}{K:W.Frag}{x dx C f:Addr}{mA:Str->Option Ab}{name:Str}{v:Ab}
end
section
variable {P:AH}{w:A1}{H H':Hp}{h h':Heap}{a C dx:Addr}{fs fs':List (Str×V)}
end
structure Cls (K:W.Frag) (C:Addr):Prop where
 pg:W.plainGet K C Str.empty=true
 hd:W.hasDictIn K C=true
 po:W.plainOver K C=true
 sa:W.findIn K (.ref C) "__setattr__" = some (some (.builtin "object.__setattr__"))
structure Con (K:W.Frag) (C:Addr) (f:Str) (v:V) (u:Ab):Prop where
 at_:W.findIn K (.ref C) f=some (some u)
 rel:RelV v u
 get:W.specialIn K u "__get__" = some none
 cp:W.copiedNames.contains f=false
structure Meth (K:W.Frag) (C:Addr) (m:Str) (f:Addr):Prop where
 at_:W.findIn K (.ref C) m=some (some (.ref f))
 fn:W.isFn K (.ref f)=true
 kp:W.keepIn K (.ref f)=true
section
variable {X:Cx}{pins:List (Addr×Obj)}{σ:St}{H:Hp}{s:Ae}{a C dx:Addr}{fs:List (Str×V)}{f:Str}{v:V}{A:AS}{E:Ab->Ae->Prop}
end
section
variable {X:Cx}{o e value:Expr}{f:Str}{pos pos' tpos:Pos}{ta tv:TE}
end
section
variable {X:Cx}{pins:List (Addr×Obj)}{σ:St}{H:Hp}{s:Ae}{A:AS}{E:Ab->Ae->Prop}{Q:Ab->Ae->Prop}{c:Ab}{b:Bool}
inductive TyOf (K:W.Frag) (H:Hp):V->Ab->Prop where
  |non:TyOf K H .non (.type "NoneType")
  |bl (x:Bool):TyOf K H (.bl x) (.type "bool")
  |int (i:Int):TyOf K H (.int i) (.type "int")
  |str (x:Str):TyOf K H (.str x) (.type "str")
  |flt (x:UInt64):TyOf K H (.flt x) (.type "float")
  |lst {a:Addr} {xs:List V} (e:H a=some (.lst xs)):TyOf K H (.ref a) (.type "list")
  |frz {a:Addr} {o:Obj} {xs:List V} (e:H a=some (.frz o (.lst xs))):TyOf K H (.ref a) (.type "list")
  |tup {a:Addr} {xs:List V} (e:H a=some (.tup xs)):TyOf K H (.ref a) (.type "tuple")
  |dK {a:Addr} {kvs:List (Key×V)} (e:H a=some (.dK kvs)):TyOf K H (.ref a) (.type "dict")
  |dT {a:Addr} {kvs:List (List Key×V)} (e:H a=some (.dT kvs)):TyOf K H (.ref a) (.type "dict")
  |ins {a C dx:Addr} {fs:List (Str × V)} (e:H a=some (.ins C dx fs)) (cl:Cls K C) (ha:W.findIn K (.ref C) "__class__" = some (some (.builtin "object.__class__")))
      (hn:W.specialIn K (.builtin "object.__class__") "__get__" = some (some (.builtin "getset_descriptor.__get__"))) (htk:W.takesIn K (.builtin "object.__class__")=some true)
      (hm:W.mroIn K C (.type "object")=some true):TyOf K H (.ref a) (.ref C)
end
structure Room (k:Nat) (A:AS):Prop where
 hd:A.handled=none
 dp:A.depth+3*k+5<recursionLimit
 un:A.units+16*k+200<cLine
 gd:A.guards=some []
theorem Room.mono{j k:Nat}{A:AS}(r:Room k A)(h:j<=k):Room j A:=⟨r.hd,by have:=r.dp;lia,by have:=r.un;lia,r.gd⟩
theorem Room.deeper{k:Nat}{A:AS}(r:Room (k+1) A)(env:Env):Room k (A.deeper env) :=
 ⟨r.hd,by have:=r.dp;show A.depth+1+3*k+5<_;lia,by have:=r.un;show A.units+3+16*k+200<_;lia,r.gd⟩
theorem Room.in1{k:Nat}{A:AS}(r:Room (k+1) A):Room k A.in1 :=
 ⟨r.hd,by have:=r.dp;show A.depth+3*k+5<_;lia,by have:=r.un;show A.units+1+16*k+200<_;lia,r.gd⟩
theorem Room.depth{k:Nat}{A:AS}(r:Room k A):A.depth<recursionLimit:=by have:=r.dp;lia
theorem Room.units{k:Nat}{A:AS}(r:Room k A):A.units+64<cLine:=by have:=r.un;lia
theorem Room.units0{k:Nat}{A:AS}(r:Room k A):A.units<cLine:=by have:=r.un;lia
noncomputable def tNil:TA:=λ_ H Q=>Q [] H
noncomputable def tCons(ta:TE)(tr:TA):TA:=λσ H Q=>ta σ H λx H1=>tr σ H1 λxs H2=>Q (x::xs) H2
section
variable {X:Cx}{e:Expr}{es:List Expr}{te:TE}{t:TA}{pos:Pos}
theorem zab:PA X [] tNil:=λ_ _ _ _ H Q I h=>Calls.spliced_nil ⟨[],H,I,.nil,h⟩
theorem zah(ha:PE X e te)(hr:PA X es t)(hs:A4 (e::es) X.env=(false,eval e X.env)::A4 es X.env:=by rfl):PA X (e::es) (tCons te t):=by intro pos pins s σ H Q I h;rw[hs];show As _ _ (spliced ((false,eval e X.env)::backTo pos (A4 es X.env))) _ _ s;refine Calls.spliced_cons (thn (ha pins s σ H _ I h) λu s1 ⟨x,H1,I1,r1,q1⟩=>?_);exact thn (hr pos pins s1 σ H1 _ I1 q1) λus s2 ⟨xs,H2,I2,r2,q2⟩=>⟨x::xs,H2,I2,.cons r1 r2,q2⟩
noncomputable def tTup(t:TA):TE:=λσ H Q=>t σ H λxs H1=>xs.length<=sizeLine/\∀p,H1 p=none->Q (.ref p) (upd H1 p (.tup xs))
noncomputable def tLst(t:TA):TE:=λσ H Q=>t σ H λxs H1=>xs.length<=sizeLine/\∀p,H1 p=none->Q (.ref p) (upd H1 p (.lst xs))
theorem zax{x1}(h:PA X es t):PE X (.Tuple es x1 pos) (tTup t):=by intro pins s σ H Q I hq;refine wpAny_Tuple_spliced (thn (h pos pins s σ H _ I hq) λus s1 ⟨xs,H1,I1,r,z,q⟩=>⟨by rw[<- r.length];exact z,?_⟩);have hf:H1 s1.heap.objs.size=none:=I1.hok.fresh (Ai _);refine⟨.ref s1.heap.objs.size,upd H1 s1.heap.objs.size (.tup xs),I1.laid (t':=s1.toks) (λb u e=>Ag _ e) (Ai _) ?_,rfl,q _ hf⟩;exact⟨z,us,r,⟨_,AD _ rfl,rfl,_,rfl⟩⟩
theorem zbu(h:PA X es t):PE X (.List es pos) (tLst t):=by intro pins s σ H Q I hq;refine wpAny_List_spliced (thn (h pos pins s σ H _ I hq) λus s1 ⟨xs,H1,I1,r,z,q⟩=>⟨by rw[<- r.length];exact z,?_⟩);have hf:H1 s1.heap.objs.size=none:=I1.hok.fresh (Ai _);refine⟨.ref s1.heap.objs.size,upd H1 s1.heap.objs.size (.lst xs),I1.laid (t':=s1.toks) (λb u e=>Ag _ e) (Ai _) ?_,rfl,q _ hf⟩;exact⟨z,us,0,r,AD _ rfl⟩
end
noncomputable abbrev Sp:=List V->Hp->VK->XK->Prop
noncomputable abbrev CXT:=List Env->Hp->Ae->XK->Ab->Ae->Prop
structure Env0 (P:AH) (w:A1) (K:W.Frag) (mg:Str->Option Ab) (base:Heap) (A:AS) (outer:List Env) (s:Ae) (H:Hp):Prop where
 frames:A.frames=some outer
 mod:Mod K mg base
 bs:∀b o,base.get? b=some o->s.heap.get? b=some o/\H b=none
 bsz:base.objs.size<=s.heap.objs.size
 funs:s.heap.FunFrames base outer
 frf:∀b∈frs outer,H b=none
 hok:HOk P w H s.heap
 bare:AllBare s.gens
noncomputable def CE(outer:List Env)(P:AH)(w:A1)(H:Hp)(s:Ae)(Q:VK)(u:Ab)(s':Ae):Prop :=
 ∃v H',s'.os=s.os/\AllBare s'.gens/\Un (frs outer) [] H H' s.heap s'.heap/\HOk P w H' s'.heap/\RelV v u/\Q v H'
noncomputable def CR(CX:CXT)(outer:List Env)(P:AH)(w:A1)(H:Hp)(s:Ae)(Q:VK)(E:XK)(r:Result)(s':Ae):Prop :=
 match r with
 |.ok (.ret u)=>CE outer P w H s Q u s'
 |.ok _=>False
 |.error e=>CX outer H s E e s'
structure FnOk (P:AH) (w:A1) (K:W.Frag) (mg:Str->Option Ab) (base:Heap) (CX:CXT) (k:Nat) (f:Addr) (fd:Br) (ps:List Str) (sp:Sp):Prop where
 len:∀vs H Q E,sp vs H Q E->vs.length=ps.length
 run:∀(A:AS) (outer:List Env) (s:Ae) (H:Hp) (args:Args) (us:List Ab) (vs:List V) (Q:VK) (E:XK),Room k A->Env0 P w K mg base A outer s H->BindsTo s fd args (ps.zip us)->Vals vs us->sp vs H Q E ->
  CA (Az P w) A (.call (.ref f) args) (CR CX outer P w H s Q E) s
theorem FnOk.imp{P:AH}{w:A1}{K:W.Frag}{mg:Str -> Option Ab}{base:Heap}{CX:CXT}{k:Nat}{f:Addr}{fd:Br}{ps:List Str}{sp sp':Sp}(F:FnOk P w K mg base CX k f fd ps sp)
  (h:∀vs H Q E,sp' vs H Q E->sp vs H Q E):FnOk P w K mg base CX k f fd ps sp' :=
 ⟨λvs H Q E q=>F.len vs H Q E (h _ _ _ _ q),λA outer s H args us vs Q E hr he hb hv hs=>F.run A outer s H args us vs Q E hr he hb hv (h _ _ _ _ hs)⟩
theorem Env0.in1{P:AH}{w:A1}{K:W.Frag}{mg:Str -> Option Ab}{base:Heap}{A:AS}{outer:List Env}{s:Ae}{H:Hp}(e:Env0 P w K mg base A outer s H) :
  Env0 P w K mg base A.in1 outer s H:=⟨e.frames,e.mod,e.bs,e.bsz,e.funs,e.frf,e.hok,e.bare⟩
section
variable {X:Cx}{pins:List (Addr×Obj)}{σ:St}{H:Hp}{s s':Ae}
theorem Inv.env0(I:Inv X pins σ H s):Env0 X.prog X.w X.K X.mg X.base X.A X.stack s H :=
 ⟨I.ok.frames,I.ok.mod,I.bs,Ba I.ok.bsz I.sz,I.stack,I.stkFree,I.hok,I.bare⟩
theorem Inv.after{Q:VK}{u:Ab}(I:Inv X pins σ H s)(h:CE X.stack X.prog X.w H s Q u s'):EP X pins σ Q u s':=by obtain⟨v,H',os,bare,un,hok,r,q⟩:=h;obtain⟨hh,g,d,t,os'⟩:=s';obtain rfl:os'=s.os:=os;exact⟨v,H',I.call (h':=hh) (g':=g) (d':=d) (t':=t) (ch:=[]) un hok bare (λb z=>absurd z (by simp)),r,q⟩
end
noncomputable def tCall(sp:Sp)(dvs:List V)(E:XK)(t:TA):TE:=λσ H Q=>t σ H λvs H1=>sp (vs++dvs) H1 Q E
noncomputable def Binds(K:W.Frag)(fd:Br)(ps:List Str)(ds:List Ab):Prop :=
 ∀(s:Ae) (us:List Ab),K.In s.heap->(us++ds).length=ps.length->BindsTo s fd ⟨us,[]⟩ (ps.zip (us++ds))
theorem Binds.all{K:W.Frag}{fd:Br}{ps:List Str}(h:∀us:List Ab,us.length=ps.length->bindArgs fd ⟨us,[]⟩=pure (ps.zip us)):Binds K fd ps []:=λs us _ hl=>by rw[A3]at hl ⊢;exact .of_eq (h us hl)
noncomputable def zle(CX:CXT)(X:Cx)(E:XK):Prop:=∀(pins:List (Addr×Obj)) (σ:St) (H:Hp) (s:Ae) (e:Ab) (s':Ae),Inv X pins σ H s->CX X.stack H s E e s'->X.xe e s'
section
variable {X:Cx}{CX:CXT}{k:Nat}{f C:Addr}{fd:Br}{ps:List Str}{sp:Sp}{dvs:List V}{ds:List Ab}{E:XK}{x m:Str}{p pos apos:Pos}{e o:Expr}{es:List Expr}{ta:TE}{t:TA}
theorem znu{pins:List (Addr × Obj)}{σ : St}{H:Hp}{s:Ae}{Q:VK}{us:List Ab}{vs:List V}(F:FnOk X.prog X.w X.K X.mg X.base CX k f fd ps sp)(hr:Room k X.A)(hb:Binds X.K fd ps ds)(hd:Vals dvs ds)(hx:zle CX X E)
  (I:Inv X pins σ H s) (r:Vals vs us) (h:sp (vs++dvs) H Q E):As (Az X.prog X.w) X.A (call (.ref f) us) (EP X pins σ Q) X.xe s:=by
 have r2:Vals (vs++dvs) (us++ds):=r.append hd;have hl:(us++ds).length=ps.length:=by rw[<- r2.length];exact F.len _ _ _ _ h
 refine wpAny_call (Ds (F.run X.A X.stack s H ⟨us,[]⟩ (us++ds) (vs++dvs) Q E hr I.env0 (hb s us I.kIn hl) r2 h) λr s' hq=>?_)
 cases r with
 |error e=>exact hx pins σ H s e s' I hq
 |ok fl =>
  cases fl with
  |ret u=>exact I.after hq
  |next=>exact BB hq
  |brk=>exact BB hq
  |cont=>exact BB hq
theorem zmQ(F:FnOk X.prog X.w X.K X.mg X.base CX k f fd ps sp)(hr:Room k X.A)(hg:Gl X x)(hm:X.mg x=some (.ref f))(hk:W.keepIn X.K (.ref f)=true)(hb:Binds X.K fd ps ds)(hd:Vals dvs ds)(hx:zle CX X E)
  (ha:PA X (e::es) t) (hdb:(x == ("__debug__" : Str))=false:=by decide) (he:A4 (e::es) X.env=(false,eval e X.env)::A4 es X.env:=by rfl) (hpl:(backTo pos (A4 es X.env)).any (·.1)=false:=by rfl) :
  PE X (.Call (.Name x p) (e::es) [] pos) (tCall sp dvs E t):=by
 intro pins s σ H Q I h;refine B4 (zkJ I hg hm ?_ hdb);refine W.callWith_K (h₀:=X.base) I.ok.mod.kin hk (thn (ha pos pins s σ H _ I h) λus s1 ⟨vs,H1,I1,r,q⟩=>⟨I1.kIn,?_⟩) he hpl;exact znu F hr hb hd hx I1 r q
structure Mk (K:W.Frag) (C f:Addr):Prop where
 makes:W.makesIn K C=true
 init:W.findIn K (.ref C) "__init__" = some (some (.ref f))
 fn:W.isFn K (.ref f)=true
 kp:W.keepIn K (.ref C)=true
end
noncomputable def PK(X:Cx)(kws:List Keyword)(t:TA):Prop :=
 ∀(pos:Pos) (pins:List (Addr×Obj)) (s:Ae) (σ:St) (H:Hp) (Q:List V->Hp->Prop),Inv X pins σ H s->t σ H Q->As (Az X.prog X.w) X.A (evalAll ((Dx pos (Cn kws X.env)).map (·.2))) (AP X pins σ Q) X.xe s
section
variable {X:Cx}{CX:CXT}{k:Nat}{f C:Addr}{fd:Br}{ps ks:List Str}{sp:Sp}{E:XK}{x m:Str}{p pos apos kpos:Pos}{e o:Expr}{es:List Expr}{kws:List Keyword}{te ta:TE}{t tk:TA}{nm:Option Str}
theorem zmi:PK X [] tNil:=λ_ _ _ _ H Q I h=>wpAny_evalAll_nil ⟨[],H,I,.nil,h⟩
theorem zki(ha:PE X e te)(hr:PK X kws t):PK X (⟨nm,e,kpos⟩::kws) (tCons te t):=by intro pos pins s σ H Q I h;show As _ _ (evalAll ((do let v <- eval e X.env;standAt pos;pure v)::(Dx pos (Cn kws X.env)).map (·.2))) _ _ s;refine wpAny_evalAll_cons (Ac (thn (ha pins s σ H _ I h) λu s1 ⟨x,H1,I1,r1,q1⟩=>Ac (Cm (Am ?_))));exact thn (hr pos pins s1 σ H1 _ I1 q1) λus s2 ⟨xs,H2,I2,r2,q2⟩=>⟨x::xs,H2,I2,.cons r1 r2,q2⟩
structure KBinds (K:W.Frag) (fd:Br) (ps ks:List Str) (g:List Ab->List Ab->List Ab) (gV:List V->List V->List V):Prop where
 to:∀(s:Ae) (us ws:List Ab),K.In s.heap->(g us ws).length=ps.length->BindsTo s fd ⟨us,ks.zip ws⟩ (ps.zip (g us ws))
 rel:∀{vs:List V} {us:List Ab} {zs:List V} {ws:List Ab},Vals vs us->Vals zs ws->Vals (gV vs zs) (g us ws)
variable {g:List Ab->List Ab->List Ab}{gV:List V->List V->List V}
end
structure FnScope (N P:List Str) (sc:Scope):Prop where
 kind:sc.kind=.function
 co:sc.isCoroutine=false
 gen:sc.isGenerator=false
 nd:N.Nodup
 pre:N.take P.length=P
 par:∀x∈P,sc.names.lookup x=some .local∨sc.names.lookup x=some .cell
 nofree:∀y∈sc.names,y.2≠.free
theorem zhl{kindOf:Str->Option Ct}{x:Str}:∀{binds:List (Str×Ab)}{m:Str->Option Ab},(∀v,(x,v) ∉ binds)->bindL kindOf binds m x=m x
 |[],_,_=>rfl
 | (n,v)::r,m,h=>by
  unfold bindL;rw[zhl λw hw=>h w (Au _ hw)];split
  .have:x≠n:=by rintro rfl;exact h v AE
   simp[this]
  .rfl
theorem zhn{kindOf:Str->Option Ct}{x:Str}:∀{binds:List (Str×Ab)}{m:Str->Option Ab},(∀v,(x,v) ∉ binds)->bindC kindOf binds m x=m x
 |[],_,_=>rfl
 | (n,v)::r,m,h=>by
  unfold bindC;rw[zhn λw hw=>h w (Au _ hw)];split
  .rfl
  .have:x≠n:=by rintro rfl;exact h v AE
   simp[this]
theorem zhm{kindOf:Str -> Option Ct}{x:Str}{v:Ab} : ∀{P:List Str}{vs:List Ab}{i:Nat}{m:Str -> Option Ab}, P.Nodup -> P[i]? = some x -> vs[i]? = some v -> kindOf x=some .local ->
  bindL kindOf (P.zip vs) m x=some v
 |[],_,_,_,_,h,_,_=>by simp at h
 |_::_,[],_,_,_,_,h,_=>by simp at h
 |p::P,w::vs,0,m,nd,h1,h2,hk=>by
  simp at h1 h2;subst h1;subst h2;show bindL kindOf ((p,w)::P.zip vs) m p=_;unfold bindL;rw[zhl λv hv=>(Cd.mp nd).1 (List.of_mem_zip hv).1,if_pos hk];simp
 |p::P,w::vs,i+1,m,nd,h1,h2,hk=>by
  show bindL kindOf ((p,w)::P.zip vs) m x=_;unfold bindL;exact zhm (i:=i) (Cd.mp nd).2 (by simpa using h1) (by simpa using h2) hk
theorem zho{kindOf:Str -> Option Ct}{x:Str}{v:Ab} : ∀{P:List Str}{vs:List Ab}{i:Nat}{m:Str -> Option Ab}, P.Nodup -> P[i]? = some x -> vs[i]? = some v -> kindOf x ≠ some .local ->
  bindC kindOf (P.zip vs) m x=some v
 |[],_,_,_,_,h,_,_=>by simp at h
 |_::_,[],_,_,_,_,h,_=>by simp at h
 |p::P,w::vs,0,m,nd,h1,h2,hk=>by
  simp at h1 h2;subst h1;subst h2;show bindC kindOf ((p,w)::P.zip vs) m p=_;unfold bindC;rw[zhn λv hv=>(Cd.mp nd).1 (List.of_mem_zip hv).1,if_neg hk];simp
 |p::P,w::vs,i+1,m,nd,h1,h2,hk=>by
  show bindC kindOf ((p,w)::P.zip vs) m x=_;unfold bindC;exact zho (i:=i) (Cd.mp nd).2 (by simpa using h1) (by simpa using h2) hk
noncomputable def start(N:List Str)(vs:List V):St:=vs.map some++Aj (N.length-vs.length) none
noncomputable def cxOf(CX:CXT)(P:AH)(w:A1)(K:W.Frag)(mg:Str->Option Ab)(base:Heap)(N:List Str)(qual:Str)(scope:Scope)(f:Addr)(cd:Ab)(A:AS)(outer:List Env)(s:Ae)(H:Hp)(E:XK):Cx where
 prog:=P
 w:=w
 K:=K
 mg:=mg
 base:=base
 A:=A.deeper (envOfC qual scope s.heap.objs.size f cd)
 N:=N
 s₀:=s
 H₀:=H
 env:=envOfC qual scope s.heap.objs.size f cd
 outer:=outer
 stack:=envOfC qual scope s.heap.objs.size f cd::outer
 ex:=[]
 calm:=true
 fn:=λ_=>true
 pn:=[]
 xe:=λe s'=>As (Az P w) (A.deeper (envOfC qual scope s.heap.objs.size f cd)) (leaving (envOfC qual scope s.heap.objs.size f cd) e) (λ_ s''=>CX outer H s E e s'') (λe' s''=>CX outer H s E e' s'') s'
theorem zi5{sc:Scope}{n:Nat}{x:Str}(h:sc.names.lookup x=some .cell):∃c,(Bv n sc.names []).lookup x=some c:=by have q:=W.cellsFrom_some sc.names n [] (.inl h);exact Option.isSome_iff_exists.mp q
theorem zkQ{CX:CXT}{P:AH}{w:A1}{K:W.Frag}{mg:Str -> Option Ab}{base:Heap}{N ps:List Str}{qual:Str}{scope:Scope}{f:Addr}{cd:Ab}{A:AS}{outer:List Env}{s s1:Ae}{H:Hp}{E:XK}{us:List Ab}{vs:List V}
  (S:FnScope N ps scope) (hd:A.handled=none) (e0:Env0 P w K mg base A outer s H) (hl:vs.length=ps.length) (r:Vals vs us)
  (x:InCallC s s.heap.objs.size (bindL (envOfC qual scope s.heap.objs.size f cd).kindOf (ps.zip us) λ_=>none) (Bv (s.heap.objs.size+1) scope.names []) (bindC (envOfC qual scope s.heap.objs.size f cd).kindOf (ps.zip us) λ_=>none) s1) :
  Inv (cxOf CX P w K mg base N qual scope f cd A outer s H E) [] (start N vs) H s1:=by
 have hpl:ps.length<=N.length:=by have:=congrArg List.length S.pre;rw[Av]at this;lia
 obtain⟨h1,tk,rfl,hk⟩:=x.done;have noA:∀b:Addr,b ∉ (cxOf CX P w K mg base N qual scope f cd A outer s H E).ex:=λb z=>absurd (show b∈([]:List Addr) from z) (by simp)
 refine⟨⟨e0.mod,S.kind,rfl,rfl,Ai _,λy z c h1 h2=>?_,λy hy=>?_,λy c _ h=>?_,λ_=>hd,Around.frames_deeper e0.frames,.inr ⟨rfl,rfl⟩,λb z=>absurd z (noA b),e0.bs,e0.bsz,λb _ _=>noA b,λb z=>absurd z (noA b),e0.funs,e0.frf⟩,
  rfl,e0.bare,Un.kept hk,⟨_,x.toInCall.ns,λi y v h1 h2 h3=>?_⟩,λy c h=>⟨_,x.cell y c h⟩,e0.hok.fresh (Ai _),λy c h=>?_,λp hp=>absurd (show p∈([]:List (Addr×Obj)) from hp) (by simp),e0.hok.kept hk,?_⟩
 .exact name_of_addr x.apart (BK h1) (BK h2)
 .have hy:scope.names.lookup y=some .cell∨scope.names.lookup y=some .free:=hy;rcases hy with hy |hy
  .exact zi5 hy
  .exact absurd rfl (S.nofree _ (BK hy))
 .exact Bg (x.above y c (BK h))
 .have hi:i < vs.length := by
   unfold start at h2
   by_cases hi:i<vs.length
   .exact hi
   .rw[AB (by simpa using hi)]at h2;rw[List.getElem?_replicate]at h2;split at h2 <;> cases h2
  have ha:vs[i]?=some v:=by
   unfold start at h2;rw[Ao (by simpa using hi),Ak]at h2
   cases e:vs[i]? with
   |none=>rw[e]at h2;cases h2
   |some a=>rw[e]at h2;cases h2;rfl
  obtain⟨u,hu,rv⟩:=r.get ha
  have hp:ps[i]?=some y:=by rw[<- S.pre,Dy (by lia)];exact h1
  have ndP:ps.Nodup:=by rw[<- S.pre];exact S.nd.sublist (List.take_sublist _ _)
  refine⟨u,rv,?_⟩;rcases S.par y (Ah hp) with k |k
  .exact .inl ⟨k,zhm ndP hp hu k⟩
  .obtain⟨c,e⟩:=zi5 (n:=s.heap.objs.size+1) k;refine .inr ⟨.inl k,c,e,?_⟩;have q:=x.cell y c e;rw[zho ndP hp hu (by show scope.names.lookup y≠_;rw[k];decide)]at q;exact q
 .exact e0.hok.fresh (Bg (x.above y c (BK h)))
 .unfold start;show _=N.length;rw[Ap,Af,B3];lia
theorem fn_of{CX:CXT}{P:AH}{w:A1}{K:W.Frag}{mg:Str -> Option Ab}{base:Heap}{k:Nat}{f:Addr}{name qual:Str}{params:Arguments}{body:List Stmt}{scope:Scope}{dV kV doc pm cdv ct oc:Ab}{an od:Option Addr}
  {osl:Array (Option Ab)} {N ps:List Str} {sp:Sp} (lk:K.lookup f=some ⟨oc,od,.func (Dj name qual params body scope dV kV doc pm an cdv ct),osl⟩) (hcd:W.codeIn K cdv qual=true) (S:FnScope N ps scope)
  (len:∀vs H Q E,sp vs H Q E->vs.length=ps.length)
  (hbody:∀(A:AS) (outer:List Env) (s:Ae) (H:Hp) (vs:List V) (Q:VK) (E:XK),Room k (A.deeper (envOfC qual scope s.heap.objs.size f cdv))->sp vs H Q E ->
   ∃t,PSs (cxOf CX P w K mg base N qual scope f cdv A outer s H E) body t/\t { nx:=λ_ H'=>Q .non H',rt:=Q } (start N vs) H) :
  FnOk P w K mg base CX (k+1) f (Dj name qual params body scope dV kV doc pm an cdv ct) ps sp:=by
 refine⟨len,λA outer s H args us vs Q E hr e0 hb r hsp=>?_⟩;have hl:=len _ _ _ _ hsp;have KX:K.In s.heap:=e0.mod.kin.keeps λb o e=>(e0.bs b o e).1
 have lim:s.heap.NoLimit:=e0.mod.nolimit.keeps λb o e=>(e0.bs b o e).1
 have hkind:∀y∈ps.zip us,scope.names.lookup y.1=some .local∨(scope.names.lookup y.1=some .cell/\((Bv (s.heap.objs.size+1) scope.names []).lookup y.1).isSome=true):=λ⟨n,v⟩ hy=>by
  rcases S.par n (List.of_mem_zip hy).1 with q |q
  .exact .inl q
  .exact .inr ⟨q,W.cellsFrom_some _ _ _ (.inl q)⟩
 refine codeAny_call_function hr.depth (KX _ _ lk) rfl S.co S.gen rfl (W.codeRec_of KX hcd) (hb _ _ _ _ ?_);refine wpAny_newFunctionEnv_cells S.kind hkind λenv he s1 x=>?_
 subst he;refine⟨lim.keeps x.toInCall.keep,codeAny_func ?_⟩;obtain⟨t,ht,hq⟩:=hbody A outer s H vs Q E (hr.deeper _) hsp;have I:Inv (cxOf CX P w K mg base N qual scope f cdv A outer s H E) [] (start N vs) H s1:=zkQ S hr.hd e0 hl r x;refine BJ (ht [] s1 (start N vs) H _ I hq) (λfl s' hs=>?_) λe s' hs=>hs
 have fin:∀{σ':St} {H':Hp} {v:V} {u:Ab},Inv (cxOf CX P w K mg base N qual scope f cdv A outer s H E) [] σ' H' s'->RelV v u->Q v H'->CE outer P w H s Q u s' :=
  λ{σ' H' v u} J rv q=>⟨v,H',J.os,J.bare,J.base,J.hok,rv,q⟩
 cases fl with
 |ret u =>
  obtain⟨v,σ',H',J,rv,q⟩:=hs;exact fin J rv q
 |next =>
  obtain⟨σ',H',J,q⟩:=hs;exact fin (v:=V.non) (u:=Value.none) J rfl q
 |brk =>
  obtain⟨_,_,_,q⟩:=hs;exact BB q
 |cont =>
  obtain⟨_,_,_,q⟩:=hs;exact BB q
section
variable {X:Cx}{x:Str}{p pos:Pos}{e:Expr}{es:List Expr}{t:TA}{id T:String}{r:List V->Hp->VK->Prop}
noncomputable def tCB(r:List V->Hp->VK->Prop)(t:TA):TE:=λσ H Q=>t σ H λvs H1=>r vs H1 Q
theorem zap (hc:CallR X (.builtin id) r) (hg:Gl X x) (hm:X.mg x=none) (hv:bootBuiltins x=some (.builtin id)) (ha:PA X (e :: es) t) (hn:x ≠ "__name__" := by decide) (hdb:(x == ("__debug__" : Str))=false := by decide)
  (he:A4 (e::es) X.env=(false,eval e X.env)::A4 es X.env:=by rfl) (hpl:(backTo pos (A4 es X.env)).any (·.1)=false:=by rfl):PE X (.Call (.Name x p) (e::es) [] pos) (tCB r t):=by
 intro pins s σ H Q I h;refine B4 (zdT I hg hm hv ?_ hn hdb);exact PyProof.Rows.callWith_builtin1 (thn (ha pos pins s σ H _ I h) λus s1 ⟨vs,H1,I1,r1,q1⟩=>hc pins s1 σ H1 vs us Q I1 r1 q1) he hpl
theorem zds (hc:CallR X (.type T) r) (hg:Gl X x) (hm:X.mg x=none) (hv:bootBuiltins x=some (.type T)) (ha:PA X (e :: es) t) (hn:x ≠ "__name__" := by decide) (hdb:(x == ("__debug__" : Str))=false := by decide)
  (he:A4 (e::es) X.env=(false,eval e X.env)::A4 es X.env:=by rfl) (hpl:(backTo pos (A4 es X.env)).any (·.1)=false:=by rfl):PE X (.Call (.Name x p) (e::es) [] pos) (tCB r t):=by
 intro pins s σ H Q I h;refine B4 (zdT I hg hm hv ?_ hn hdb);exact BQ (thn (ha pos pins s σ H _ I h) λus s1 ⟨vs,H1,I1,r1,q1⟩=>hc pins s1 σ H1 vs us Q I1 r1 q1) he hpl
end
section
variable {κ:Type} [DecidableEq κ]
noncomputable def valV(kvs:List (κ×V))(k:κ):Option V:=(kvs.find? λkv=>decide (kv.1=k)).map (·.2)
noncomputable def putK(kvs:List (κ×V))(k:κ)(v:V):List (κ×V) :=
 if (kvs.any λkv=>decide (kv.1=k))=true then kvs.map (λkv=>if kv.1=k then (kv.1,v) else kv) else kvs++[(k,v)]
theorem zbq{p:κ×V}{r:List (κ×V)}{k:κ}(e:p.1=k):valV (p::r) k=some p.2:=by simp[valV,C7,e]
theorem zbr{p:κ×V}{r:List (κ×V)}{k:κ}(e:¬ p.1=k):valV (p::r) k=valV r k:=by simp[valV,C7,e]
theorem zd3(k:κ):∀kvs:List (κ×V),(kvs.any λkv=>decide (kv.1=k))=(valV kvs k).isSome
 |[]=>rfl
 |p::r=>by
  rw[List.any_cons]
  by_cases e:p.1=k
  .simp only[zbq e,decide_eq_true e,Bool.true_or,Option.isSome_some]
  .rw[zbr e,decide_eq_false e,Bool.false_or];exact zd3 k r
theorem zih(k j:κ)(y:V):∀kvs:List (κ×V),valV (kvs.map λkv=>if kv.1=k then (kv.1,y) else kv) j=(valV kvs j).map λx=>if j=k then y else x
 |[]=>rfl
 |p::r=>by
  have ih:=zih k j y r;rw[AL]
  by_cases h:p.1=k
  .rw[if_pos h]
   by_cases e:p.1=j
   .rw[zbq (p:=(p.1,y)) e,zbq e,C8,if_pos (e.symm.trans h)]
   .rw[zbr (p:=(p.1,y)) e,zbr e,ih]
  .rw[if_neg h]
   by_cases e:p.1=j
   .rw[zbq (p:=p) e,zbq e,C8,if_neg (λz=>h (e.trans z))]
   .rw[zbr (p:=p) e,zbr e,ih]
theorem zgH(k j:κ)(y:V):∀kvs:List (κ×V),valV kvs k=none->valV (kvs++[(k,y)]) j=if j=k then some y else valV kvs j
 |[],_=>by
  by_cases e:k=j
  .rw[if_pos e.symm];exact zbq (p:=(k,y)) e
  .rw[if_neg (λz=>e z.symm)];exact zbr (p:=(k,y)) e
 |p::r,hn=>by
  rw[CV];have hk:¬ p.1=k:=λz=>by rw[zbq z]at hn;cases hn
  rw[zbr hk]at hn;have ih:=zgH k j y r hn
  by_cases e:p.1=j
  .rw[zbq e,zbq e,if_neg (λz=>hk (e.trans z))]
  .rw[zbr e,zbr e,ih]
theorem zfK(kvs:List (κ×V))(k j:κ)(y:V):valV (putK kvs k y) j=if j=k then some y else valV kvs j:=by
 unfold putK
 by_cases a:(kvs.any λkv=>decide (kv.1=k))=true
 .rw[if_pos a,zih];rw[zd3]at a
  by_cases e:j=k
  .obtain⟨x,hx⟩:=Option.isSome_iff_exists.mp a;rw[if_pos e,e,hx,C8,if_pos rfl]
  .rw[if_neg e]
   cases valV kvs j with
   |none=>rfl
   |some x=>rw[C8,if_neg e]
 .rw[if_neg a];refine zgH k j y kvs ?_
  rw[zd3]at a
  cases q:valV kvs k with
  |none=>rfl
  |some x=>rw[q]at a;exact (a rfl).elim
theorem za6(kvs:List (κ×V))(k:κ)(v:V):(putK kvs k v).length<=kvs.length+1:=by
 unfold putK;split
 .rw[Af];lia
 .rw[Ap,A5,Ce];lia
theorem RelO.isSome_eq{o:Option V}{u:Option Ab}(r:RelO o u):o.isSome=u.isSome:=by
 cases o with
 |none=>cases u with
  |none=>rfl
  |some _=>exact (show False from r).elim
 |some _=>cases u with
  |none=>exact (show False from r).elim
  |some _=>rfl
theorem KV.val{kvs:List (κ×V)}{vs:List (κ×Ab)}(r:KV kvs vs)(k:κ):RelO (valV kvs k) (valueAt vs k):=by
 unfold KV at r
 induction r with
 |nil=>exact True.intro
 |@cons p q ps qs h t ih =>
  obtain⟨h1,h2⟩:=h
  by_cases e:p.1=k
  .have e':q.1=k:=h1.symm.trans e;have b:valueAt (q::qs) k=some q.2:=by simp[valueAt,C7,e']
   rw[zbq e,b];exact h2
  .have e':¬ q.1=k:=λz=>e (h1.trans z)
   have b:valueAt (q::qs) k=valueAt qs k:=by simp[valueAt,C7,e']
   rw[zbr e,b];exact ih
theorem KV.any{kvs:List (κ×V)}{vs:List (κ×Ab)}(r:KV kvs vs)(k:κ):(kvs.any λkv=>decide (kv.1=k))=vs.any λkv=>decide (kv.1=k):=by
 unfold KV at r
 induction r with
 |nil=>rfl
 |cons h t ih=>rw[List.any_cons,List.any_cons,ih,h.1]
theorem KV.repl{kvs:List (κ × V)}{vs:List (κ × Ab)}(r:KV kvs vs)(k : κ){y:V}{u:Ab}(ry:RelV y u) :
  KV (kvs.map λkv=>if kv.1=k then (kv.1,y) else kv) (vs.map λkv=>if kv.1=k then (kv.1,u) else kv):=by
 unfold KV at r ⊢
 induction r with
 |nil=>exact .nil
 |@cons p q ps qs h t ih =>
  rw[AL,AL];refine .cons ?_ ih;obtain⟨h1,h2⟩:=h
  by_cases e:p.1=k
  .rw[if_pos e,if_pos (h1.symm.trans e)];exact⟨h1,ry⟩
  .rw[if_neg e,if_neg (λz=>e (h1.trans z))];exact⟨h1,h2⟩
theorem KV.put{kvs:List (κ×V)}{vs:List (κ×Ab)}(r:KV kvs vs)(k:κ){y:V}{u:Ab}(ry:RelV y u):KV (putK kvs k y) (stored vs k u):=by
 unfold putK stored;rw[r.any k]
 by_cases e:(vs.any λkv=>decide (kv.1=k))=true
 .rw[if_pos e,if_pos e];exact r.repl k ry
 .rw[if_neg e,if_neg e];exact Paired.snoc r ⟨rfl,ry⟩
theorem KV.length{kvs:List (κ×V)}{vs:List (κ×Ab)}(r:KV kvs vs):kvs.length=vs.length:=Dw r
end
theorem kV_is{P:AH}{w:A1}{k:Key}{u:Ab}(r:RelV (kV k) u):(zaR P w).is k u=true:=by
 cases k with
 |inl i=>obtain⟨t,e⟩:=(show ∃t,u=Value.int i t from r);subst e;exact zh2 P w i t
 |inr x=>obtain⟨t,e⟩:=(show ∃t,u=Value.str x t from r);subst e;exact zbS P w x t
theorem zha{P:AH}{w:A1}:∀{ks:List Key}{us:List Ab},Vals (ks.map kV) us->ItemsAre (zaR P w) ks us
 |[],_,r=>by rw[List.map_nil]at r;cases r;exact .nil
 |k::ks,_,r=>by
  rw[AL]at r
  cases r with
  |cons h t=>exact .cons (kV_is h) (zha t)
noncomputable abbrev KT(H:Hp):List (List Key×V)->List (List Key×Addr×Ab)->Prop:=Paired λp q=>p.1=q.1/\H q.2.1=some (.tup (p.1.map kV))/\RelV p.2 q.2.2
theorem KT.val{H:Hp}{kvs:List (List Key×V)}{xs:List (List Key×Addr×Ab)}(r:KT H kvs xs)(k:List Key):RelO (valV kvs k) ((atKey xs k).map (·.2)):=by
 induction r with
 |nil=>exact True.intro
 |@cons p q ps qs h t ih =>
  obtain⟨h1,_,h2⟩:=h
  by_cases e:p.1=k
  .have e':q.1=k:=h1.symm.trans e;have b:atKey (q::qs) k=some q.2:=by simp[atKey,C7,e']
   rw[zbq e,b];exact h2
  .have e':¬ q.1=k:=λz=>e (h1.trans z)
   have b:atKey (q::qs) k=atKey qs k:=by simp[atKey,C7,e']
   rw[zbr e,b];exact ih
theorem KT.repl{H:Hp}{kvs:List (List Key × V)}{xs:List (List Key × Addr × Ab)}(r:KT H kvs xs)(k:List Key){y:V}{u:Ab}(ry:RelV y u) :
  KT H (kvs.map λkv=>if kv.1=k then (kv.1,y) else kv) (xs.map (putAt k u)):=by
 induction r with
 |nil=>exact .nil
 |@cons p q ps qs h t ih =>
  rw[AL,AL];refine .cons ?_ ih;obtain⟨h1,h2,h3⟩:=h;unfold putAt
  by_cases e:p.1=k
  .rw[if_pos e,if_pos (h1.symm.trans e)];exact⟨h1,h2,ry⟩
  .rw[if_neg e,if_neg (λz=>e (h1.trans z))];exact⟨h1,h2,h3⟩
theorem KT.put{H:Hp}{kvs:List (List Key × V)}{xs:List (List Key × Addr × Ab)}(r:KT H kvs xs)(k:List Key){b:Addr}{y:V}{u:Ab}(hb:H b=some (.tup (k.map kV)))(ry:RelV y u) :
  KT H (putK kvs k y) (storedH xs k b u):=by
 have e:(kvs.any λkv=>decide (kv.1=k))=(atKey xs k).isSome:=by rw[zd3,(r.val k).isSome_eq,Option.isSome_map]
 unfold putK storedH;rw[e]
 by_cases q:(atKey xs k).isSome=true
 .rw[if_pos q,if_pos q];exact r.repl k ry
 .rw[if_neg q,if_neg q];exact Paired.snoc r ⟨rfl,hb,ry⟩
theorem KT.keeps{H H':Hp}{kvs:List (List Key×V)}{xs:List (List Key×Addr×Ab)}(r:KT H kvs xs)(ht:∀b ys,H b=some (.tup ys)->H' b=some (.tup ys)):KT H' kvs xs :=
 Paired.mapP r λ_ _ z=>⟨z.1,ht _ _ z.2.1,z.2.2⟩
section
variable {P:AH}{w:A1}{H:Hp}{h:Heap}{a:Addr}
theorem rd_of{u:HO}(ok:HOk P w H h)(e:Rd H a u):ObjOk P w H h a u:=e.ok ok
theorem dk_rd{kvs:List (Key×V)}(ok:HOk P w H h)(e:Rd H a (.dK kvs)):kvs.length<=sizeLine/\(a == Cr)=false/\∃vs,KV kvs vs/\h.DictOf (zaR P w) a vs :=
 show ObjOk P w H h a (.dK kvs) from rd_of ok e
theorem dk_of{kvs:List (Key×V)}(ok:HOk P w H h)(e:H a=some (.dK kvs)):kvs.length<=sizeLine/\(a == Cr)=false/\∃vs,KV kvs vs/\h.DictOf (zaR P w) a vs:=dk_rd ok (.inl e)
theorem zfA{ks:List Key}(ok:HOk P w H h)(e:H a=some (.tup (ks.map kV))):(tupleKind (zaR P w)).is h ks a:=by obtain⟨_,its,r,o,h1,h2,n,h3⟩:=(show ObjOk P w H h a (.tup (ks.map kV)) from ok a _ e);exact⟨o,its.toArray,n,h1,h2,h3,by simpa using zha r⟩
theorem dt_rd{kvs:List (List Key × V)}(ok:HOk P w H h)(e:Rd H a (.dT kvs)):kvs.length <= sizeLine /\ (a == Cr)=false /\
  ∃xs,KT H kvs xs/\h.DictOfH (tupleKind (zaR P w)) a xs:=by
 obtain⟨z,y,xs,r,o,es,ep,h1,h2,h3,h4,h5⟩:=(show ObjOk P w H h a (.dT kvs) from rd_of ok e);refine⟨z,y,xs,r,o,es,ep,h1,h2,h3,h4,λx hx=>?_,h5⟩
 have all:∀{l:List (List Key×V)} {m:List (List Key×Addr×Ab)},KT H l m->∀x∈m,(tupleKind (zaR P w)).is h x.1 x.2.1:=by
  intro l m q
  induction q with
  |nil=>intro x hx;exact nomatch hx
  |@cons p q ps qs hq t ih =>
   intro x hx;rcases At.mp hx with e |hx
   .subst e;exact zfA ok (by rw[<- hq.1];exact hq.2.1)
   .exact ih x hx
 exact all r x hx
theorem dt_of{kvs:List (List Key × V)}(ok:HOk P w H h)(e:H a=some (.dT kvs)):kvs.length <= sizeLine /\ (a == Cr)=false /\
  ∃xs,KT H kvs xs/\h.DictOfH (tupleKind (zaR P w)) a xs:=dt_rd ok (.inl e)
end
noncomputable def DGet(H:Hp)(a:Addr)(y:V)(r:Option V):Prop :=
 (∃kvs k,Rd H a (.dK kvs)/\y=kV k/\r=valV kvs k)∨∃kvs k b,Rd H a (.dT kvs)/\y=.ref b/\H b=some (.tup (k.map kV))/\r=valV kvs k
noncomputable def DPut(H:Hp)(a:Addr)(y v:V)(H':Hp):Prop :=
 (∃kvs k,H a=some (.dK kvs)/\y=kV k/\kvs.length<sizeLine/\H'=upd H a (.dK (putK kvs k v))) ∨
 ∃kvs k b,H a=some (.dT kvs)/\y=.ref b/\H b=some (.tup (k.map kV))/\kvs.length<sizeLine/\H'=upd H a (.dT (putK kvs k v))
section
variable {X:Cx}{pins:List (Addr×Obj)}{σ:St}{H:Hp}{s:Ae}{a:Addr}{y v:V}{u r:Ab}{o:Option V}{A:AS}{E:Ab->Ae->Prop}
theorem Inv.big(I:Inv X pins σ H s):Cr<s.heap.objs.size:=by have h:AG<s.heap.objs.size:=(I.mod.glob.keeps I.bk).lt;exact Nat.lt_trans (by decide) h
theorem d_in{Q:Ab -> Ae -> Prop}(hu:A.units + 1 < cLine)(I:Inv X pins σ H s)(g:DGet H a y o)(ry:RelV y u)(h:∀s', Inv X pins σ H s' -> Q (.bool o.isSome) s') :
  As (Az X.prog X.w) A (Bs .In u (.ref a)) Q E s:=by
 rcases g with⟨kvs,k,e,ey,l⟩ |⟨kvs,k,b,e,ey,eb,l⟩
 .subst ey;obtain⟨z,hd,vs,rel,dd⟩:=dk_rd I.hok e;refine wpAny_in_of (kV_is ry) hd dd.mapOf ?_
  rw[<- (rel.val k).isSome_eq,<- l];exact h _ (I.tok _)
 .subst ey
  cases (show u=Ay b from ry)
  obtain⟨z,hd,xs,rel,dd⟩:=dt_rd I.hok e;refine wpAny_in_heap (DH hu) (zfA I.hok eb) hd dd ?_
  have q:=(rel.val k).isSome_eq;rw[Option.isSome_map]at q;rw[<- q,<- l];exact h _ (I.tok _)
theorem zm9{Q:Ab -> Ae -> Prop}(hu:A.units + 1 < cLine)(I:Inv X pins σ H s)(g:DGet H a y o)(ry:RelV y u)(h:∀s', Inv X pins σ H s' -> Q (.bool (!o.isSome)) s') :
  As (Az X.prog X.w) A (Bs .NotIn u (.ref a)) Q E s:=by
 rcases g with⟨kvs,k,e,ey,l⟩ |⟨kvs,k,b,e,ey,eb,l⟩
 .subst ey;obtain⟨z,hd,vs,rel,dd⟩:=dk_rd I.hok e;refine wpAny_notIn_of (kV_is ry) hd dd.mapOf ?_
  rw[<- (rel.val k).isSome_eq,<- l];exact h _ (I.tok _)
 .subst ey
  cases (show u=Ay b from ry)
  obtain⟨z,hd,xs,rel,dd⟩:=dt_rd I.hok e;refine wpAny_notIn_heap (DH hu) (zfA I.hok eb) hd dd ?_
  have q:=(rel.val k).isSome_eq;rw[Option.isSome_map]at q;rw[<- q,<- l];exact h _ (I.tok _)
theorem zeR{h':Heap}{t':Nat}{ob:HO}(I:Inv X pins σ H s)(mu:Mut (H a))(hs:C0 a s.heap h')(he:∃q, h'.get? a=some q)(new:ObjOk X.prog X.w (upd H a ob) h' a ob) :
  Inv X pins σ (upd H a ob) { s with heap:=h',toks:=t' } :=
 I.write (x:=a) (e:=a) mu (.inl rfl) (λb q hb z=>(hs.2 b hb).trans z) he new
theorem zmp{P:AH}{w:A1}{H':Hp}{h':Heap}{kvs:List (Key × V)}{vs:List (Key × Ab)}(z:kvs.length <= sizeLine)(hd:(a == Cr)=false)(rel:KV kvs vs)(dd:h'.DictOf (zaR P w) a vs) :
  ObjOk P w H' h' a (.dK kvs):=⟨z,hd,vs,rel,dd⟩
theorem zk1{H':Hp}{Q:Unit -> Ae -> Prop}(hu:A.units + 1 < cLine)(I:Inv X pins σ H s)(g:DPut H a y v H')(ry:RelV y u)(rv:RelV v r)(h:∀s', Inv X pins σ H' s' -> Q () s') :
  As (Az X.prog X.w) A (setItem (.ref a) u r) Q E s:=by
 rcases g with⟨kvs,k,e,ey,l,eH⟩ |⟨kvs,k,b,e,ey,eb,l,eH⟩
 .subst ey eH;obtain⟨z,hd,vs,rel,dd⟩:=dk_of I.hok e;have hz:vs.length<=sizeLine:=by rw[<- rel.length];exact z
  have hl:(putK kvs k v).length<=sizeLine:=by have:=za6 kvs k v;lia
  refine wpAny_setItem_pairs (hsz:=hz) (kV_is ry) dd λh' dd' hs=>h _ ?_
  have he:∃q,h'.get? a=some q:=let ⟨q,_,_,hq,_⟩:=dd';⟨q,hq⟩
  exact zeR I (by rw[e];exact True.intro) hs he (zmp hl hd (rel.put k rv) dd')
 .subst ey eH
  cases (show u=Ay b from ry)
  obtain⟨z,hd,xs,rel,dd⟩:=dt_of I.hok e;have hz:xs.length<=sizeLine:=by rw[<- Dw rel];exact z
  have hl:(putK kvs k v).length<=sizeLine:=by have:=za6 kvs k v;lia
  refine wpAny_setItem_heap (hsz:=hz) (DH hu) (zfA I.hok eb) dd λh' dd' hs=>h _ ?_
  obtain⟨q,es,ep,hq,h2,h3,h4,_,h5⟩:=dd';refine zeR I (by rw[e];exact True.intro) hs ⟨q,hq⟩ ⟨hl,hd,_,(rel.put k eb rv).keeps λc ys ec=>?_,q,es,ep,hq,h2,h3,h4,h5⟩;rw[zam (ne_of ec e (λz=>nomatch z))];exact ec
end
section
variable {X:Cx}{pins:List (Addr×Obj)}{σ:St}{H:Hp}{s:Ae}{a:Addr}{kvs:List (Key×V)}{k:Key}{u:Ab}{A:AS}{E:Ab->Ae->Prop}
end
noncomputable def NoSl(i:Expr):Prop:=∀ov iv,subscripted i false ov iv=operate [ov,iv] (getItem ov iv)
theorem zjN{prog:AH}{w:A1}{A:AS}{E:Ab -> Ae -> Prop}{s:Ae}{env:Env}{value slice:Expr}{pos:Pos}{T id:String}{Q:Ab -> Ae -> Prop}
  (hl:typeLookup (.type T) "__getitem__" = pure (some (.builtin id))) (hs:NoSl slice)
  (h:As (Az prog w) A (eval value env) (λo s₁=>As (Az prog w) A (eval slice env) (λi s₂=>s₂.TypeIs o T/\As (Az prog w) A (getItem o i) Q E s₂) E s₁) E s) :
  As (Az prog w) A (eval (.Subscript value slice pos) env) Q E s:=by
 refine Subscript_ (BJ h (λo s₁ h₁=>BJ h₁ (λi s₂ h₂=>?_) λ_ _ x=>x) λ_ _ x=>x);obtain⟨hT,h₂⟩:=h₂;unfold subscriptTail;refine Ac ?_
 rw[getitemInPython_of_ne hT.not_modules];refine Ac (wpAny_specialOf hT hl ?_)
 have fin:As (Az prog w) A (subscripted slice false o i) (λr s₃=>As (Az prog w) A (letTemporaryGo value o r >>= λ_=>pure r) Q E s₃) E s₂:=by rw[hs o i];exact wpAny_operating (BJ h₂ (λr s₃ h₃=>Ac (wpAny_letTemporaryGo (Am h₃))) λ_ _ x=>x)
 first
  |exact Am (Ac fin)
  |exact Ac (Am (Ac fin))
  |exact Ac fin
noncomputable def tDIn(ty td:TE):TE:=λσ H Q=>ty σ H λy H1=>td σ H1 λx H2=>∃a o,x=.ref a/\DGet H2 a y o/\Q (.bl o.isSome) H2
noncomputable def zmz(ty td:TE):TE:=λσ H Q=>ty σ H λy H1=>td σ H1 λx H2=>∃a o,x=.ref a/\DGet H2 a y o/\Q (.bl (!o.isSome)) H2
noncomputable def sDPut(td ty tv:TE):TS:=λD σ H=>tv σ H λv H1=>td σ H1 λx H2=>ty σ H2 λy H3=>∃a H4,x=.ref a/\DPut H3 a y v H4/\D.nx σ H4
section
variable {X:Cx}{o i e value:Expr}{pos pos' tpos:Pos}{td ty tv:TE}
theorem znF(hu:X.A.units+1<cLine)(hi:PE X i ty)(ho:PE X o td):PC X .In i o (tDIn ty td):=by
 intro pins s σ H Q I h;refine thn (hi pins s σ H _ I h) λiv s1 ⟨y,H1,I1,ry,q1⟩=>thn (ho pins s1 σ H1 _ I1 q1) λu s2 ⟨x,H2,I2,rx,a,ov,ex,g,q2⟩=>?_
 subst ex;obtain rfl:u=Ay a:=rx;exact d_in hu I2 g ry λs3 I3=>⟨.bl ov.isSome,H2,I3,rfl,q2⟩
theorem zgW(hu:X.A.units+1<cLine)(hi:PE X i ty)(ho:PE X o td):PC X .NotIn i o (zmz ty td):=by
 intro pins s σ H Q I h;refine thn (hi pins s σ H _ I h) λiv s1 ⟨y,H1,I1,ry,q1⟩=>thn (ho pins s1 σ H1 _ I1 q1) λu s2 ⟨x,H2,I2,rx,a,ov,ex,g,q2⟩=>?_
 subst ex;obtain rfl:u=Ay a:=rx;exact zm9 hu I2 g ry λs3 I3=>⟨.bl (!ov.isSome),H2,I3,rfl,q2⟩
theorem zmL(hu:X.A.units + 1 < cLine)(ho:PE X o td)(hi:PE X i ty)(hv:PE X value tv)(hs:swapsWith value (some (.Subscript o i pos')) pos.line X.env=pure false) :
  PS X (.Assign [.Subscript o i pos'] value pos) (sDPut td ty tv):=by
 intro pins s σ H D I h;refine wpAny_Assign_Subscript (thn (hv pins s σ H _ I h) λr s1 ⟨v,H1,I1,rv,q1⟩=>thn (ho pins s1 σ H1 _ I1 q1) λu s2 ⟨x,H2,I2,rx,q2⟩=>thn (hi pins s2 σ H2 _ I2 q2) λiv s3 ⟨y,H3,I3,ry,a,H4,ex,g,q3⟩=>?_) hs;subst ex;obtain rfl:u=Ay a:=rx;exact zk1 hu I3 g ry rv λs4 I4=>⟨σ,H4,I4,q3⟩
end
theorem zi1 {P:AH}{w:A1}{H:Hp}(h:Heap) (hb:Cr<h.objs.size):ObjOk P w H (h.push { cls:=.type "dict",data:=.dict #[] }) h.objs.size (.dT []) :=
 ⟨Bj _,beq_eq_false_iff_ne.mpr (BP (AK hb)),[],.nil,_,#[],0,AD _ rfl,⟨rfl,rfl,rfl⟩,rfl,rfl,List.nodup_nil⟩
noncomputable def znn:TE:=λ_ H Q=>∀p,H p=none->Q (.ref p) (upd H p (.dT []))
section
variable {X:Cx}{pos:Pos}
theorem ziE:PE X (.Dict [] [] pos) znn:=λpins s σ H Q I h =>
 wpAny_Dict_empty ⟨.ref s.heap.objs.size,_,I.laid (a:=s.heap.objs.size) (o:=.dT []) (t':=s.toks) (λ_ _ q=>Ag _ q) (Ai _) (zi1 s.heap I.big),rfl,h _ (I.hok.fresh (Ai _))⟩
end
structure M1 (X:Cx) (o:Expr) (m:Str) (apos:Pos) (e:Expr) (cpos:Pos):Prop where
 base:attributeBase o m X.env (eval o X.env)=eval o X.env
 few:((backTo cpos (A4 [e] X.env)).all (λx=>!x.1) && (Dx cpos (Cn [] X.env)).all (λx=>x.1.isSome)
  && decide (([e]:List Expr).length+([]:List Keyword).length+(if ([]:List Keyword).isEmpty then 0 else 1)<30))=true
 line:(apos.endLine == cpos.line)=true
 trees:backTo cpos (A4 [e] X.env)=[(false,eval e X.env)]
structure M2 (X:Cx) (o:Expr) (m:Str) (apos:Pos) (e f:Expr) (cpos:Pos):Prop where
 base:attributeBase o m X.env (eval o X.env)=eval o X.env
 few:((backTo cpos (A4 [e,f] X.env)).all (λx=>!x.1) && (Dx cpos (Cn [] X.env)).all (λx=>x.1.isSome)
  && decide (([e,f]:List Expr).length+([]:List Keyword).length+(if ([]:List Keyword).isEmpty then 0 else 1)<30))=true
 line:(apos.endLine == cpos.line)=true
 trees:backTo cpos (A4 [e,f] X.env)=[(false,eval e X.env),(false,eval f X.env)]
noncomputable def IsD(H:Hp)(a:Addr):Prop:=(∃kvs,Rd H a (.dK kvs))∨∃kvs,Rd H a (.dT kvs)
theorem znS{X:Cx}{pins:List (Addr × Obj)}{σ : St}{H:Hp}{s:Ae}{a:Addr}(I:Inv X pins σ H s)(d:IsD H a) :
  s.TypeIs (.ref a) "dict" /\ (∀b,Ay a=.ref b->∃ob,s.heap.get? b=some ob/\ob.dict=none)/\(a == Cr)=false:=by
 rcases d with⟨kvs,e⟩ |⟨kvs,e⟩
 .obtain⟨_,hd,vs,_,dd⟩:=dk_rd I.hok e;refine⟨dd.typeIs,λb q=>?_,hd⟩
  cases q
  obtain⟨ob,_,_,h1,h2,_⟩:=dd;exact⟨ob,h1,h2.2.1⟩
 .obtain⟨_,hd,xs,_,dd⟩:=dt_rd I.hok e;refine⟨dd.typeIs,λb q=>?_,hd⟩
  cases q
  obtain⟨ob,_,_,h1,h2,_⟩:=dd;exact⟨ob,h1,h2.2.1⟩
section
variable {X:Cx}{pins:List (Addr×Obj)}{σ:St}{H:Hp}{s:Ae}{a:Addr}{y d:V}{u r:Ab}{o:Option V}{A:AS}{E:Ab->Ae->Prop}
end
section
variable {X:Cx}{o e f:Expr}{apos cpos:Pos}{td ty tx:TE}
end
section
variable {X:Cx}{pins:List (Addr×Obj)}{σ:St}{H:Hp}{s:Ae}{a:Addr}{kvs:List (Key×V)}{A:AS}{E:Ab->Ae->Prop}
end
section
variable {X:Cx}{pins:List (Addr×Obj)}{σ:St}{H:Hp}{s:Ae}{a:Addr}{y:V}{u:Ab}{A:AS}{E:Ab->Ae->Prop}
end
end L2
namespace HT
open PySem PyProof.Rows
noncomputable def lexLt:List Int->List Int->Bool
 |[],[]=>false
 |[],_::_=>true
 |_::_,[]=>false
 |x::xs,y::ys=>if x=y then lexLt xs ys else decide (x<y)
theorem lexLt_cons(x y:Int)(xs ys:List Int):lexLt (x::xs) (y::ys)=if x=y then lexLt xs ys else decide (x<y):=rfl
theorem zgn:lexLt [] []=false:=rfl
theorem zfa(y:Int)(ys:List Int):lexLt [] (y::ys)=true:=rfl
theorem zfb(x:Int)(xs:List Int):lexLt (x::xs) []=false:=rfl
theorem ziX(A:AS)(s:Ae)(a:Int)(t:Tok)(c:Int)(u:Tok):∃e,SeqAt.EqAt A s (.int a t) (.int c u) e/\(e=true ↔ a=c) :=
 ⟨(a == c),SeqAt.EqAt.int_int a t c u,by simp⟩
theorem zly(A:AS)(s:Ae)(a:Int)(t:Tok)(c:Int)(u:Tok)(prog:AH)(w:A1)(E:Ab -> Ae -> Prop)(Q:Ab -> Ae -> Prop)(h:Q (.bool (decide (a < c))) s) :
  As (Az prog w) A (richCompare .Lt (.int a t) (.int c u)) Q E s :=
 (PyProof.Rows.lt_int h:As (Az prog w) A (Bs .Lt (.int a t) (.int c u)) Q E s)
section
open PySem.SeqAt
open PySem.AutoSeq1 (wpAny_loadPart')
open PySem.MeetsSeq PySem.MeetsSeq2 PySem.MeetsSeq3
theorem zfM(l b:Addr)(items items2:Array Ab)(n n2:Nat)(dd dd2:Option Addr)(sl sl2:Array (Option Ab))(ns ms:List Int)(hi:Cj items.toList ns)(hj:Cj items2.toList ms) :
  Meets (Builtin.«tuple.__lt__» ⟨[.ref l,.ref b],[]⟩)
   (λ_ R s=>s.heap.get? l=some { cls:=.type "tuple",dict:=dd,data:=.seq items n,slots:=sl }/\s.heap.get? b=some { cls:=.type "tuple",dict:=dd2,data:=.seq items2 n2,slots:=sl2 } /\
    R (.ok (.ret (.bool (lexLt ns ms)))) s) :=
 .of_wp λprog w A R s h=>by
  obtain⟨hp,g,d,tk,os⟩:=s;obtain⟨hl,hb,h⟩:=h;have f2:=AutoSeq1.sub_tuple_tuple;have z1:items.size=ns.length:=by rw[<- hi.length];simp
  have z2:items2.size=ms.length:=by rw[<- hj.length];simp
  wp_walk using BY hl,BY hb,wpAny_forIn_list _ (λrest b s'=>b.1=none/\s'=⟨hp,g,d,tk,os⟩/\∃(vs ws:List Ab) (ns' ms':List Int),rest=vs.zip ws /\
   Cj vs ns'/\Cj ws ms'/\ns'.length+items2.size=ms'.length+items.size/\R (.ok (.ret (.bool (lexLt ns' ms')))) ⟨hp,g,d,tk,os⟩) _
  case turn =>
   rintro⟨y,x⟩ rest b s' ⟨hb',rfl,vs,ws,ns',ms',hz,hvi,hwi,hlen,hR⟩
   cases hvi with
   |nil=>rw[List.zip_nil_left]at hz;cases hz
   |cons a t hvi' =>
    cases hwi with
    |nil=>rw[List.zip_nil_right]at hz;cases hz
    |cons c u hwi' =>
     rw[DI]at hz;injection hz with hyx hrest;injection hyx with hy hx;subst hy hx;rw[lexLt_cons]at hR;simp only[A5]at hlen;obtain⟨e,he,hiff⟩:=ziX A.in1 ⟨hp,g,d,tk,os⟩ a t c u;refine Ac (he prog w _ _ ?_)
     cases e with
     |true =>
      rw[if_pos (hiff.mp rfl)]at hR
      wp_walk
      exact⟨rfl,rfl,_,_,_,_,hrest,hvi',hwi',by lia,hR⟩
     |false =>
      rw[if_neg (λq=>absurd (hiff.mpr q) AR)]at hR;have hri:=zly A.in1 ⟨hp,g,d,tk,os⟩ a t c u prog w
      wp_walk using hri
      exact⟨_,rfl,by simpa using hR⟩
  case fin =>
   rintro⟨b1,b2⟩ s' ⟨hb',rfl,vs,ws,ns',ms',hz,hvi,hwi,hlen,hR⟩;simp only at hb';subst hb'
   have hv:lexLt ns' ms'=decide (items.size<items2.size):=by
    cases hvi with
    |nil =>
     cases hwi with
     |nil =>
      simp only[Ce]at hlen;rw[zgn];exact (decide_eq_false (by lia)).symm
     |cons c u hw =>
      simp only[Ce,A5]at hlen;rw[zfa];exact (decide_eq_true (by lia)).symm
    |cons a t hv =>
     cases hwi with
     |nil =>
      simp only[Ce,A5]at hlen;rw[zfb];exact (decide_eq_false (by lia)).symm
     |cons c u hw =>
      rw[DI]at hz
      cases hz
   rw[hv]at hR
   wp_walk
   exact⟨_,rfl,by simpa[Builtin.Tuple.tupleCompareSizes]using hR⟩
  case h =>
   exact⟨rfl,rfl,items.toList,items2.toList,ns,ms,rfl,hi,hj,by lia,h⟩
end
section
variable {prog:AH}{w:A1}{A:AS}{E:Ab->Ae->Prop}{s:Ae}
theorem lt_tupInts{l b:Addr}{items items2:Array Ab}{ns ms:List Int}{Q:Ab -> Ae -> Prop}(hl:IsTup s.heap l items)(hb:IsTup s.heap b items2)(hi:Cj items.toList ns)(hj:Cj items2.toList ms)
  (hu:A.units<cLine) (h:Q (.bool (lexLt ns ms)) s):As (Az prog w) A (Bs .Lt (.ref l) (.ref b)) Q E s:=by
 obtain⟨⟨cls,dd,data,sl⟩,ho,hc,n,hd⟩:=id hl;obtain⟨⟨cls2,dd2,data2,sl2⟩,ho2,hc2,n2,hd2⟩:=id hb;simp only at hc hd hc2 hd2;subst hc hd hc2 hd2
 exact richCompare_meets_room (op:=.Lt) ⟨_,ho,rfl⟩ ⟨_,ho2,rfl⟩ PySem.F.slot_tuple_lt PySem.F.entry_tuple_lt (PySem.F.args_tuple_lt_2 _ _) (zfM l b items items2 n n2 dd dd2 sl sl2 ns ms hi hj)
  ⟨ho,ho2,show Value.bool (lexLt ns ms)≠Value.notImplemented/\Q (.bool (lexLt ns ms)) s from ⟨(λx=>nomatch x),h⟩⟩ hu
theorem cat_tup{t b:Addr}{vs ws:List Ab}{Q:Ab -> Ae -> Prop}(ht:IsTup s.heap t vs.toArray)(hb:IsTup s.heap b ws.toArray)(hv:vs ≠ [])
  (h1:ws=[]->Q (.ref t) s) (h2:ws≠[]->Q (.ref s.heap.objs.size) { s with heap:=s.heap.push { cls:=.type "tuple",data:=.seq (vs++ws).toArray } })
  (hsz:vs.length+ws.length<=sizeLine):As (Az prog w) A (Cs .Add (.ref t) (.ref b)) Q E s:=by
 obtain⟨⟨cls,dd,data,sl⟩,ho,hc,n,hd⟩:=id ht;obtain⟨⟨cls2,dd2,data2,sl2⟩,ho2,hc2,n2,hd2⟩:=id hb;simp only at hc hd hc2 hd2;subst hc hd hc2 hd2;have e:vs.toArray++ws.toArray=(vs++ws).toArray:=by simp
 by_cases hw:ws=[]
 .exact concat_meets ⟨_, ho, rfl⟩ ⟨_, ho2, rfl⟩ noFill_tuple_add seq_tuple_add PySem.F.slot_tuple_add DL (Dz _ _)
   (tuple_addW1 t b vs.toArray ws.toArray n n2 dd dd2 sl sl2 (by simpa using hv) (by simp[hw])) ⟨ho,ho2,h1 hw⟩
 .refine concat_meets ⟨_, ho, rfl⟩ ⟨_, ho2, rfl⟩ noFill_tuple_add seq_tuple_add PySem.F.slot_tuple_add DL (Dz _ _)
   (tuple_addW2 t b vs.toArray ws.toArray n n2 dd dd2 sl sl2 (by simpa using hv) (by simpa using hw) (by rw[An,An];exact hsz)) ⟨ho,ho2,?_⟩
  rw[e];exact h2 hw
noncomputable def sIx(n d:Nat):Option Int->Nat
 |none=>d
 |some v=>if v<0 then (v+(n:Int)).toNat else min v.toNat n
theorem sIx_nat(n d k:Nat):sIx n d (some (k:Int))=min k n:=by show (if (k:Int)<0 then ((k:Int)+(n:Int)).toNat else min (k:Int).toNat n)=min k n;rw[if_neg (by lia),CJ]
theorem znr(n d:Nat)(hd:d<=n)(o:Option Int):sIx n d o<=n:=by
 cases o with
 |none=>exact hd
 |some v =>
  show (if v<0 then (v+(n:Int)).toNat else min v.toNat n)<=n
  by_cases hv:v<0
  .rw[if_pos hv];lia
  .rw[if_neg hv];exact Nat.min_le_right _ _
theorem zk3(v:Int)(n d:Nat):(if v<0 then max (v+(n:Int)) 0 else min v (n:Int))=((sIx n d (some v):Nat):Int):=by
 show (if v<0 then max (v+(n:Int)) 0 else min v (n:Int))=(((if v<0 then (v+(n:Int)).toNat else min v.toNat n):Nat):Int)
 by_cases hv:v<0
 .simp only[if_pos hv];lia
 .simp only[if_neg hv];lia
theorem zjB(lo hi:Option Int)(n:Nat):Du lo hi 1 (n:Int)=(((sIx n 0 lo:Nat):Int),((sIx n n hi:Nat):Int)):=by
 have h1:¬ ((1:Int)<0):=by lia
 unfold Du;simp only[h1,if_false];refine Cu ?_ ?_
 .cases lo with
  |none=>rfl
  |some v=>exact zk3 v n 0
 .cases hi with
  |none=>rfl
  |some v=>exact zk3 v n n
theorem zjn(i j:Nat):CF (i:Int) (j:Int) 1=j-i:=by
 unfold CF;have h1:(1:Int) > 0:=by lia
 simp only[h1,if_true,Int.ediv_one];split <;> lia
theorem zfu{v:Ab}{o:Option Int}{Q:Option Int->Ae->Prop}(p:IsPart v o)(h:Q o s):As (Az prog w) A (Builtin.Slice.slicePartIndex v) Q E s:=by
 cases p with
 |none=>exact slicePart_none h
 |int i t=>exact slicePart_int h
theorem zct{sl:Addr}{vl vu:Ab}{lo hi:Option Int}{n:Nat}{Q:Int × Int × Nat -> Ae -> Prop}(hs:s.heap.IsSliceOf sl vl vu .none)(pl:IsPart vl lo)(pu:IsPart vu hi)
  (h:Q (((sIx n 0 lo:Nat):Int),1,sIx n n hi-sIx n 0 lo) s):As (Az prog w) A (Builtin.Slice.sliceApplied (.ref sl) (pure (n:Int))) Q E s:=by
 obtain⟨os,hos,hcs,hds⟩:=id hs;unfold Builtin.Slice.sliceApplied Builtin.Slice.sliceFields;refine Ac (Ac (wpAny_field hos hds (x:=vl) rfl (Ac (wpAny_field hos hds (x:=vu) rfl (Ac (wpAny_field hos hds (x:=.none) rfl (Am ?_)))))));refine Ac (slicePart_none ?_);show As _ _ (if ((1:Int) == 0)=true then _ else _) _ _ s;rw[if_neg (by decide)];refine Ac (zfu pl (Ac (zfu pu (Ac (Am ?_)))));show As _ _ (match Du lo hi 1 (n:Int) with | (lo,hi)=>pure (lo,(1:Int),CF lo hi 1)) _ _ s;rw[zjB lo hi n];show As _ _ (pure (((sIx n 0 lo:Nat):Int),(1:Int),CF ((sIx n 0 lo:Nat):Int) ((sIx n n hi:Nat):Int) 1)) _ _ s;rw[zjn];exact Am h
theorem zlB(xs:Array Ab)(i k:Nat):((AJ k).filterMap λ(m:Nat)=>xs[((i:Int)+(m:Int)*1).toNat]?).toArray=((xs.toList.drop i).take k).toArray:=by
 have e:(λ(m:Nat)=>xs[((i:Int)+(m:Int)*1).toNat]?)=λm=>xs[i+m]?:=by
  funext m
  have:((i:Int)+(m:Int)*1).toNat=i+m:=by lia
  rw[this]
 rw[e];have:=pick_run xs i k;rw[B5]at this;have e2:((λx=>xs[x]?) ∘ λx=>i+x)=λm=>xs[i+m]?:=rfl
 rw[e2]at this;rw[this]
theorem getItem_tuple_cut{t sl:Addr}{items:Array Ab}{vl vu:Ab}{lo hi:Option Int}{Q:Ab -> Ae -> Prop}(ht:IsTup s.heap t items)(hs:s.heap.IsSliceOf sl vl vu .none)(pl:IsPart vl lo)(pu:IsPart vu hi)
  (hw:¬ (sIx items.size 0 lo=0/\sIx items.size items.size hi=items.size))
  (h:Q (.ref s.heap.objs.size) { s with heap:=s.heap.push { cls:=.type "tuple",data:=.seq ((items.toList.drop (sIx items.size 0 lo)).take (sIx items.size items.size hi-sIx items.size 0 lo)).toArray } })
  (hsz:items.size<=sizeLine):As (Az prog w) A (getItem (.ref t) (.ref sl)) Q E s:=by
 have htake:sizeOk (.seq ((items.toList.drop (sIx items.size 0 lo)).take (sIx items.size items.size hi-sIx items.size 0 lo)).toArray):=by show ((items.toList.drop (sIx items.size 0 lo)).take (sIx items.size items.size hi-sIx items.size 0 lo)).toArray.size<=sizeLine;rw[An,Av,A0,CT];lia
 have hj:sIx items.size items.size hi<=items.size:=znr _ _ (Ai _) hi;obtain⟨os,hos,hcs,hds⟩:=id hs;have hTs:s.TypeIs (.ref sl) "slice":=⟨os,hos,hcs⟩;unfold getItem
 try with_reducible refine Be ?_
 first |refine Ac (Am ?_) |skip
 refine Ac (wpAny_sequenceKey ht.typeIs (by decide) ?_)
 refine Ac (wpAny_callSpecial?_slot (name:=B7 "__getitem__") ht.typeIs Bo
  (wpAny_call_entry Bo ht.typeIs entry_tuple_getitem ?_ (args_tuple_getitem _ _)))
 show As _ _ (Builtin.Tuple.tupleItemsOf (.ref t) >>= _) _ _ s;refine Ac (tupleItemsOf_ ht ?_);refine Ac (wpAny_typeOf hTs ?_);rw[if_pos (by decide)];refine Ac (zct hs pl pu ?_)
 have hno:¬ ((((sIx items.size 0 lo:Nat):Int) == 0 && (1:Int) == 1 && (sIx items.size items.size hi-sIx items.size 0 lo) == items.size)=true):=by intro q;rw[BO,BO]at q;have q1:((sIx items.size 0 lo:Nat):Int)=0:=eq_of_beq q.1.1;have q2:sIx items.size items.size hi-sIx items.size 0 lo=items.size:=eq_of_beq q.2;exact hw ⟨by lia,by lia⟩
 show As _ _ (if (((sIx items.size 0 lo:Nat):Int) == 0 && (1:Int) == 1 && (sIx items.size items.size hi-sIx items.size 0 lo) == items.size)=true then _ else _) _ _ s;rw[if_neg hno,zlB]
 first
  |exact Ac (m:=CO _) (Bh (Am ⟨_,rfl,Am h⟩) htake)
  |exact Ac (m:=CO _) (Bh (Ac (Am (Am ⟨_,rfl,Am h⟩))) htake)
  |exact Ac (Ac (m:=CO _) (Bh (Am (Am ⟨_,rfl,Am h⟩)) htake))
  |exact Ac (Ac (m:=CO _) (Bh (Am ⟨_,rfl,Am h⟩) htake))
end
end HT
namespace L2
open PySem PySem.Spec PyProof.Rows
noncomputable abbrev TO:=St->Hp->(Option Int->Hp->Prop)->Prop
noncomputable def PO(X:Cx)(e:Option Expr)(t:TO):Prop :=
 ∀(pins:List (Addr×Obj)) (s:Ae) (σ:St) (H:Hp) (Q:Option Int->Hp->Prop),Inv X pins σ H s->t σ H Q ->
  As (Az X.prog X.w) X.A (evalPart e X.env) (λu s'=>∃o H',Inv X pins σ H' s'/\IsPart u o/\Q o H') X.xe s
noncomputable def zdA:TO:=λ_ H Q=>Q none H
noncomputable def tPart(t:TE):TO:=λσ H Q=>t σ H λx H1=>∃i,x=.int i/\Q (some i) H1
theorem zcW{ns:List Int}:∀{us:List Ab},Vals (ns.map V.int) us->Cj us ns:=by
 induction ns with
 |nil=>intro us r;rw[List.map_nil]at r;cases r;exact .nil
 |cons n ns ih =>
  intro us r;rw[AL]at r
  cases r with
  |cons r1 r2 =>
   obtain⟨t,e⟩:=r1;subst e;exact .cons n t (ih r2)
section
variable {X:Cx}{e:Expr}{te:TE}{lo hi:Option Expr}{tl th:TO}{pos p2:Pos}
theorem za4:PO X none zdA:=by intro pins s σ H Q I h;rw[evalPart_none];exact Am ⟨none,H,I,.none,h⟩
theorem za3(h:PE X e te):PO X (some e) (tPart te):=by
 intro pins s σ H Q I hw;rw[evalPart_some];refine thn (h pins s σ H _ I hw) λu s1 ⟨x,H1,I1,r1,q1⟩=>?_
 obtain⟨i,rfl,q⟩:=q1;obtain⟨t,rfl⟩:=r1;exact⟨some i,H1,I1,.int i t,q⟩
noncomputable def SlR(X:Cx)(r:V->Option Int->Option Int->Hp->VK->Prop):Prop :=
 ∀(pins:List (Addr×Obj)) (s:Ae) (σ:St) (H:Hp) (x:V) (v vl vu:Ab) (lo hi:Option Int) (sl:Addr) (Q:VK),Inv X pins σ H s->RelV x v->s.heap.IsSliceOf sl vl vu .none->IsPart vl lo->IsPart vu hi->r x lo hi H Q ->
  ∃T id,typeLookup (.type T) "__getitem__" = pure (some (.builtin id))/\s.TypeIs v T/\As (Az X.prog X.w) X.A (getItem v (.ref sl)) (EP X pins σ Q) X.xe s
noncomputable def tSl(r:V->Option Int->Option Int->Hp->VK->Prop)(te:TE)(tl th:TO):TE:=λσ H Q=>te σ H λx H1=>tl σ H1 λl H2=>th σ H2 λu H3=>r x l u H3 Q
theorem zaI{r:V->Option Int->Option Int->Hp->VK->Prop}(hr:SlR X r)(he:PE X e te)(hl:PO X lo tl)(hu:PO X hi th):PE X (.Subscript e (.Slice lo hi none p2) pos) (tSl r te tl th):=by
 intro pins s σ H Q I h;refine Subscript_ (thn (he pins s σ H _ I h) λv s1 ⟨x,H1,I1,r1,q1⟩=>?_);refine wpAny_Slice (thn (hl pins s1 σ H1 _ I1 q1) λvl s2 ⟨l,H2,I2,pl,q2⟩=>thn (hu pins s2 σ H2 _ I2 q2) λvu s3 ⟨u,H3,I3,pu,q3⟩=>?_);rw[evalPart_none];refine Am ?_
 have I4:Inv X pins σ H3 { s3 with heap:=s3.heap.push { cls:=.type "slice",data:=.fields #[vl,vu,.none] } }:=I3.kept (t':=s3.toks) λb ob q=>Ag _ q
 obtain⟨T,id,hT,ht,hg⟩:=hr pins { s3 with heap:=s3.heap.push { cls:=.type "slice",data:=.fields #[vl,vu,.none] } } σ H3 x v vl vu l u s3.heap.objs.size Q I4 r1 (Heap.IsSliceOf.new ..) pl pu q3;show As (Az X.prog X.w) X.A (subscriptTail e (.Slice lo hi none p2) v (.ref s3.heap.objs.size)) (EP X pins σ Q) X.xe { s3 with heap:=s3.heap.push { cls:=.type "slice",data:=.fields #[vl,vu,.none] } };exact tail_any (ops:=[.ref s3.heap.objs.size,v]) ht hT hg (by with_unfolding_all rfl)
noncomputable def cutV(xs:List V)(lo hi:Option Int):List V:=(xs.drop (HT.sIx xs.length 0 lo)).take (HT.sIx xs.length xs.length hi-HT.sIx xs.length 0 lo)
theorem zeS(xs:List V)(lo hi:Option Int):(cutV xs lo hi).length<=xs.length:=by unfold cutV;rw[Av,A0];lia
noncomputable def rSlT(K:W.Frag):V->Option Int->Option Int->Hp->VK->Prop:=λx lo hi H Q=>∃a xs,x=.ref a/\SqT K H a xs /\
 ¬ (HT.sIx xs.length 0 lo=0/\HT.sIx xs.length xs.length hi=xs.length)/\∀p,H p=none->Q (.ref p) (upd H p (.tup (cutV xs lo hi)))
theorem znp:SlR X (rSlT X.K):=by
 intro pins s σ H x v vl vu lo hi sl Q I rx hs pl pu h;obtain⟨a,xs,rfl,hx,hw,q⟩:=h
 cases rx
 obtain⟨its,r,ht,hz⟩:=I.tuple hx;have hlen:its.toArray.size=xs.length:=by rw[An];exact r.length.symm
 refine⟨"tuple",_,Bo.lookup,ht.typeIs,?_⟩;refine HT.getItem_tuple_cut ht hs pl pu (by rw[hlen];exact hw) ?_ (by rw[hlen];exact hz)
 rw[hlen];refine⟨.ref s.heap.objs.size,_,I.laid (t':=s.toks) (o:=.tup (cutV xs lo hi)) (λb ob q=>Ag _ q) (Ai _) ?_,rfl,q _ (I.hok.fresh (Ai _))⟩;exact⟨Ba (zeS xs lo hi) hz,_,(r.drop (HT.sIx xs.length 0 lo)).take (HT.sIx xs.length xs.length hi-HT.sIx xs.length 0 lo),IsTup.new _ _⟩
noncomputable def rCatT(K:W.Frag):R2:=λx y H Q=>∃a b xs ys,x=.ref a/\y=.ref b/\SqT K H a xs/\SqT K H b ys/\xs≠[]/\xs.length+ys.length<=sizeLine /\
 (ys=[]->Q (.ref a) H)/\(ys≠[]->∀p,H p=none->Q (.ref p) (upd H p (.tup (xs++ys))))
theorem Vals.nil_iff{xs:List V}{us:List Ab}(r:Vals xs us):us=[] ↔ xs=[]:=by
 cases r with
 |nil=>simp
 |cons _ _=>simp
theorem zkq:OpR X (Cs .Add) (rCatT X.K):=by
 intro pins s σ H x y v u Q I rx ry h;obtain⟨a,b,xs,ys,rfl,rfl,ha,hb,hx,hz,q1,q2⟩:=h
 cases rx
 cases ry
 obtain⟨its,r1,p1,_⟩:=I.tuple ha;obtain⟨its2,r2,p2,_⟩:=I.tuple hb;refine HT.cat_tup p1 p2 (λz=>hx (r1.nil_iff.mp z)) (λz=>⟨.ref a,H,I,rfl,q1 (r2.nil_iff.mp z)⟩) (λz=>?_) (by rw[<- r1.length,<- r2.length];exact hz);refine⟨.ref s.heap.objs.size,_,I.laid (t':=s.toks) (o:=.tup (xs++ys)) (λb ob q=>Ag _ q) (Ai _) ?_,rfl,q2 (λw=>z (r2.nil_iff.mpr w)) _ (I.hok.fresh (Ai _))⟩;exact⟨by rw[Ap];exact hz,_,r1.append r2,IsTup.new _ _⟩
end
noncomputable def ixN(n:Nat)(i:Int):Option Nat:=if 0<=i then (if i<n then some i.toNat else none) else if -(n:Int)<=i then some (i+n).toNat else none
noncomputable def atI{α:Type}(xs:List α)(i:Int):Option α:=(ixN xs.length i).bind λj=>xs[j]?
theorem zkO{n:Nat}{i:Int}{j:Nat}(h:ixN n i=some j):seqIndex? i n=some j/\j<n/\-(n:Int)<=i/\i<n:=by
 unfold ixN at h
 by_cases h0:0<=i
 .rw[if_pos h0]at h
  by_cases h1:i<n
  .rw[if_pos h1]at h;have e:i.toNat=j:=AI h;exact⟨by rw[seqIndex_of h0 h1,e],by lia,by lia,h1⟩
  .rw[if_neg h1]at h;cases h
 .rw[if_neg h0]at h
  by_cases h1:-(n:Int)<=i
  .rw[if_pos h1]at h;have e:(i+n).toNat=j:=AI h;exact⟨by rw[seqIndex_neg (by lia) h1,e],by lia,h1,by lia⟩
  .rw[if_neg h1]at h;cases h
theorem zlc{α:Type}{xs:List α}{i:Int}{v:α}(h:atI xs i=some v):∃j,seqIndex? i xs.length=some j/\xs[j]?=some v/\j<xs.length/\-(xs.length:Int)<=i/\i<xs.length:=by
 unfold atI at h
 cases e:ixN xs.length i with
 |none=>rw[e]at h;cases h
 |some j =>
  rw[e]at h;obtain⟨h1,h2,h3,h4⟩:=zkO e;exact⟨j,h1,h,h2,h3,h4⟩
theorem zal{α:Type}{xs:List α}{j:Nat}{v:α}(h:xs[j]?=some v):atI xs (j:Int)=some v:=by
 have hj:j<xs.length:=(Ad.mp h).1
 have e:ixN xs.length (j:Int)=some j:=by unfold ixN;rw[if_pos (by lia),if_pos (by lia)];simp
 unfold atI;rw[e];exact h
noncomputable def zne(b:Expr):Prop:=∀o i,subscripted b false o i=operate [o,i] (getItem o i)
noncomputable def IxR(X:Cx)(r:R2):Prop :=
 ∀(value slice:Expr) (pins:List (Addr×Obj)) (s:Ae) (σ:St) (H:Hp) (x y:V) (v u:Ab) (Q:VK),Inv X pins σ H s->RelV x v->RelV y u->r x y H Q ->
  subscripted slice false v u=operate [v,u] (getItem v u)->As (Az X.prog X.w) X.A (subscriptTail value slice v u) (EP X pins σ Q) X.xe s
noncomputable def MtR(X:Cx)(id:String)(r:V->List V->Hp->VK->Prop):Prop :=
 ∀(pins:List (Addr×Obj)) (s:Ae) (σ:St) (H:Hp) (x:V) (xs:List V) (v:Ab) (us:List Ab) (Q:VK),Inv X pins σ H s->RelV x v->Vals xs us->r x xs H Q ->
  As (Az X.prog X.w) X.A (call (.builtin id) (v::us)) (EP X pins σ Q) X.xe s
section
variable {X:Cx}{a b:Expr}{ta tb:TE}{pos:Pos}
theorem pe_ix{r:R2}(hr:IxR X r)(ha:PE X a ta)(hb:PE X b tb)(hs:zne b):PE X (.Subscript a b pos) (tOp r ta tb):=by intro pins s σ H Q I h;exact Subscript_ (binT ha hb I h λv u s2 x y H2 I2 rx ry q=>hr a b pins s2 σ H2 x y v u Q I2 rx ry q (hs _ _))
noncomputable def rIxL(K:W.Frag):R2:=λx y H Q=>∃p xs i v,x=.ref p/\y=.int i/\SqL K H p xs/\atI xs i=some v/\Q v H
noncomputable def rIxT(K:W.Frag):R2:=λx y H Q=>∃p xs i v,x=.ref p/\y=.int i/\SqT K H p xs/\atI xs i=some v/\Q v H
theorem zaD:IxR X (rIxL X.K):=by
 intro value slice pins s σ H x y v u Q I rx ry h hs;obtain⟨p,xs,i,z,rfl,rfl,hq,he,q⟩:=h
 cases rx
 obtain⟨t,rfl⟩:=ry;obtain⟨its,r,pl,hz⟩:=I.list hq;obtain⟨j,h1,h2,h3,h4,h5⟩:=zlc he;obtain⟨w,ew,rw'⟩:=r.get h2;have hl:=r.length;have hn:=zg8;have fin:EP X pins σ Q w s:=⟨z,H,I,rw',q⟩
 by_cases h0:0<=i
 .have hj:i.toNat=j := by rw[seqIndex_of h0 h5]at h1;exact AI h1
  exact item_listR pl.isList h0 (by lia) (by rw[hj];simpa using ew) fin hs
 .have hj:(i + (its.toArray.size:Int)).toNat=j := by rw[seqIndex_neg (by lia) h4]at h1;rw[An,<- hl];exact AI h1
  exact subscriptTail_builtinR (x:=w) pl.isList.typeIs slot_list_getitem.lookup
   (wpAny_getItem_list_neg (Q:=λr s'=>r=w/\EP X pins σ Q r s') pl.isList (by lia) (by rw[An] <;> lia) (by lia) (by rw[hj];simpa using ew) ⟨rfl,fin⟩) hs
theorem zaV:IxR X (rIxT X.K):=by
 intro value slice pins s σ H x y v u Q I rx ry h hs;obtain⟨p,xs,i,z,rfl,rfl,hq,he,q⟩:=h
 cases rx
 obtain⟨t,rfl⟩:=ry;obtain⟨its,r,pl,hz⟩:=I.tuple hq;obtain⟨j,h1,h2,h3,h4,h5⟩:=zlc he;obtain⟨w,ew,rw'⟩:=r.get h2;have hl:=r.length;have hn:=zg8;have fin:EP X pins σ Q w s:=⟨z,H,I,rw',q⟩
 exact subscriptTail_builtinR (x:=w) pl.typeIs slot_tuple_getitem.lookup
  (getItem_tuple (j:=j) (Q:=λr s'=>r=w/\EP X pins σ Q r s') pl (by lia) (by lia) (by rw[An,<- hl];exact h1) (by simpa using ew) ⟨rfl,fin⟩) hs
theorem zjw (its:List Ab) (n j:Nat) (u:Ab):AT (·.setIfInBounds j u) { cls:=.type "list",data:=.seq its.toArray n }={ cls:=.type "list",data:=.seq (its.set j u).toArray n }:=by simp[AT]
theorem Inv.lst{pins:List (Addr × Obj)}{σ : St}{H:Hp}{s:Ae}{p:Addr}{xs:List V}(I:Inv X pins σ H s)(h:H p=some (.lst xs)) :
  ∃(its:List Ab) (n:Nat),Vals xs its/\s.heap.get? p=some { cls:=.type "list",data:=.seq its.toArray n }/\xs.length<=sizeLine:=by
 obtain⟨z,its,n,r,e⟩:=I.hok p _ h;exact⟨its,n,r,e,z⟩
theorem Inv.lstUpd{pins:List (Addr × Obj)}{σ : St}{H:Hp}{s:Ae}{p:Addr}{xs ys:List V}{its its':List Ab}{n n':Nat}{f:Obj -> Obj}(I:Inv X pins σ H s)(h:H p=some (.lst xs))
  (ho:s.heap.get? p=some { cls:=.type "list",data:=.seq its.toArray n }) (hf:f { cls:=.type "list",data:=.seq its.toArray n }={ cls:=.type "list",data:=.seq its'.toArray n' }) (r:Vals ys its') (hz:ys.length<=sizeLine) (t:Nat) :
  Inv X pins σ (upd H p (.lst ys)) { s with heap:=s.heap.update p f,toks:=t }:=by
 have e:(s.heap.update p f).get? p=some { cls:=.type "list",data:=.seq its'.toArray n' }:=by rw[Heap.get?_update_self f ho (by rw[hf] <;> rfl),hf]
 refine I.write (x:=p) (e:=p) (by rw[h];trivial) (.inl rfl) (λb u hb q=>(C3 _ _ (BP hb)).trans q) ⟨_,e⟩ ?_
 exact⟨hz,its',n',r,e⟩
noncomputable def rSetL:V->V->V->Hp->(Hp->Prop)->Prop:=λo i v H Q=>∃p xs k j,o=.ref p/\i=.int k/\H p=some (.lst xs)/\ixN xs.length k=some j/\Q (upd H p (.lst (xs.set j v)))
theorem zix:PSet X rSetL:=by
 intro pins s σ H o i v ov iv u Q I ro ri rv h;obtain⟨p,xs,k,j,rfl,rfl,hp,hj,q⟩:=h
 cases ro
 obtain⟨t,rfl⟩:=ri;obtain⟨its,n,r,ho,hz⟩:=I.lst hp;obtain⟨h1,h2,h3,h4⟩:=zkO hj;have hl:=r.length;have hn:=zg8
 have I':Inv X pins σ (upd H p (.lst (xs.set j v))) { s with heap:=s.heap.update p (AT (·.setIfInBounds j u)) } :=
  I.lstUpd hp ho (zjw its n j u) (r.set rv j) (by rw[List.length_set];exact hz) s.toks
 by_cases h0:0<=k
 .have hk:k.toNat=j := by rw[seqIndex_of h0 h4]at h1;exact AI h1
  exact W.ki_setAt ho h0 (by lia) (by rw[An,<- hl];exact h4) (by rw[hk];exact⟨_,I',q⟩)
 .have hk:(k + (its.toArray.size:Int)).toNat=j := by rw[seqIndex_neg (by lia) h3]at h1;rw[An,<- hl];exact AI h1
  exact W.ki_setBack ho (by lia) (by rw[An,<- hl];exact h3) (by lia) (by rw[hk];exact⟨_,I',q⟩)
theorem zgO(lo hi:Option Int)(n:Nat):(DM lo hi none n).1=((HT.sIx n 0 lo:Nat):Int)/\(DM lo hi none n).2.1=((HT.sIx n n hi:Nat):Int)/\(DM lo hi none n).2.2=1:=by
 refine⟨?_,?_,rfl⟩
 .cases lo with
  |none=>simp[DM,HT.sIx]
  |some i =>
   simp only[DM,HT.sIx,Option.getD_none,show (1:Int) > 0 by decide,if_true]
   by_cases h:i<0
   .simp only[h,if_true] <;> lia
   .simp only[h,if_false] <;> lia
 .cases hi with
  |none=>simp[DM,HT.sIx]
  |some i =>
   simp only[DM,HT.sIx,Option.getD_none,show (1:Int) > 0 by decide,if_true]
   by_cases h:i<0
   .simp only[h,if_true] <;> lia
   .simp only[h,if_false] <;> lia
theorem zfW(its:List Ab)(lo hi:Option Int):slicePick its.toArray lo hi none=((its.drop (HT.sIx its.length 0 lo)).take (HT.sIx its.length its.length hi-HT.sIx its.length 0 lo)).toArray:=by obtain⟨h1,h2,h3⟩:=zgO lo hi its.toArray.size;unfold slicePick;rw[h1,h2,h3];simp only[sliceRange_one,pick_run,An] <;> rfl
noncomputable def rSlL(K:W.Frag):V->Option Int->Option Int->Hp->VK->Prop:=λx lo hi H Q=>∃a xs,x=.ref a/\SqL K H a xs/\∀p,H p=none->Q (.ref p) (upd H p (.lst (cutV xs lo hi)))
theorem zcz:SlR X (rSlL X.K):=by
 intro pins s σ H x v vl vu lo hi sl Q I rx hs pl pu h;obtain⟨a,xs,rfl,hx,q⟩:=h
 cases rx
 obtain⟨its,r,ht,hz⟩:=I.list hx;have hlen:=r.length;refine⟨"list",_,slot_list_getitem.lookup,ht.isList.typeIs,?_⟩;refine wpAny_getItem_list_slice ht.isList hs pl pu .none (by simp) ?_ (by rw[An] <;> lia)
 rw[zfW,<- hlen];refine⟨.ref s.heap.objs.size,_,I.laid (t':=s.toks) (o:=.lst (cutV xs lo hi)) (λb ob q=>Ag _ q) (Ai _) ?_,rfl,q _ (I.hok.fresh (Ai _))⟩;exact⟨Ba (zeS xs lo hi) hz,_,0,(r.drop (HT.sIx xs.length 0 lo)).take (HT.sIx xs.length xs.length hi-HT.sIx xs.length 0 lo),AD _ rfl⟩
theorem zak:CallR X (.builtin "len") (λxs H Q=>∃p ys,xs=[.ref p]/\(SqL X.K H p ys∨SqT X.K H p ys)/\Q (.int ys.length) H):=by
 intro pins s σ H xs us Q I r h;obtain⟨p,ys,rfl,hq,q⟩:=h;obtain⟨u,rfl,rx⟩:=vals1 r
 cases rx
 have hn:=zg8;rcases hq with hq |hq
 .obtain⟨its,r',pl,hz⟩:=I.list hq;have hlen:=r'.length;exact Calls.call_len_list pl.isList (by simp only[An] <;> lia) ⟨.int ys.length,H,I.tok _,⟨s.toks+1,by rw[An,hlen]⟩,q⟩
 .obtain⟨its,r',pl,hz⟩:=I.tuple hq;have hlen:=r'.length;exact len_tuple pl (by simp only[An] <;> lia) ⟨.int ys.length,H,I.tok _,⟨s.toks+1,by rw[An,hlen]⟩,q⟩
theorem zdz:CallR X (.type "tuple") (λxs H Q=>∃p ys,xs=[.ref p]/\((SqL X.K H p ys/\∀l,H l=none->Q (.ref l) (upd H l (.tup ys)))∨(SqT X.K H p ys/\Q (.ref p) H))):=by
 intro pins s σ H xs us Q I r h;obtain⟨p,ys,rfl,h⟩:=h;obtain⟨u,rfl,rx⟩:=vals1 r
 cases rx
 rcases h with⟨hq,q⟩ |⟨hq,q⟩
 .obtain⟨its,r',pl,hz⟩:=I.list hq;have hlen:=r'.length;refine call_tuple_list pl.isList (λh' kp=>?_) (by simp only[An] <;> lia);have I1:Inv X pins σ H { s with heap:=h' }:=I.kept (t':=s.toks) kp
  have I2:Inv X pins σ (upd H h'.objs.size (.tup ys)) { s with heap:=h'.push { cls:=.type "tuple",data:=.seq its.toArray } } :=
   I1.laid (t':=s.toks) (λb o e=>Ag _ e) (Ai _) (show ObjOk X.prog X.w _ _ _ (.tup ys) from ⟨hz,its,r',IsTup.new _ _⟩)
  exact⟨.ref h'.objs.size,_,I2,rfl,q _ (I1.hok.fresh (Ai _))⟩
 .obtain⟨its,r',pl,hz⟩:=I.tuple hq;exact call_tuple_same pl ⟨.ref p,H,I,rfl,q⟩
noncomputable def tyV(K:W.Frag)(T:String)(x:V)(H:Hp):Prop:=match x with
  |.str _=>T = "str"
  |.int _=>T = "int"
  |.ref p => (T = "list" /\ ∃xs, SqL K H p xs) ∨ (T = "tuple" /\ ∃o, K.lookup p=some o /\ o.cls = .type "tuple" /\ o.dict=none) ∨
      (T = "dict" /\ ((∃kvs,H p=some (.dK kvs))∨∃kvs,H p=some (.dT kvs)))∨(T = "set" /\ ∃S n,H p=some (.set S n))
  |_=>False
theorem zni{pins:List (Addr × Obj)}{σ : St}{H:Hp}{s:Ae}{T:String}{x:V}{v:Ab}(I:Inv X pins σ H s)(r:RelV x v)(ty:tyV X.K T x H) :
  s.TypeIs v T/\∀a,v=.ref a->∃ob,s.heap.get? a=some ob/\ob.dict=none:=by
 cases x with
 |str z =>
  obtain⟨t,rfl⟩:=r
  cases (show T = "str" from ty)
  exact⟨typeIs_str s z t,λ_ e=>nomatch e⟩
 |int i =>
  obtain⟨t,rfl⟩:=r
  cases (show T = "int" from ty)
  exact⟨typeIs_int s i t,λ_ e=>nomatch e⟩
 |ref p =>
  cases r
  rcases ty with⟨rfl,xs,hq⟩ |⟨rfl,o,hk,hc,hd⟩ |⟨rfl,hk⟩ |⟨rfl,S,n,hk⟩
  .obtain⟨its,_,pl,_⟩:=I.list hq;refine⟨pl.isList.typeIs,λa e=>?_⟩
   cases e
   obtain⟨o,n,e,c,hd,_⟩:=pl;exact⟨o,e,hd⟩
  .refine⟨⟨o,I.kIn p o hk,hc⟩,λa e=>?_⟩
   cases e
   exact⟨o,I.kIn _ o hk,hd⟩
  .have z:∃o, s.heap.get? p=some o /\ o.ExactDict := by
    rcases hk with⟨kvs,hk⟩ |⟨kvs,hk⟩
    .obtain⟨_,_,_,_,o,_,_,e,ex,_⟩:=I.hok p _ hk;exact⟨o,e,ex⟩
    .obtain⟨_,_,_,_,o,_,_,e,ex,_⟩:=I.hok p _ hk;exact⟨o,e,ex⟩
   obtain⟨o,e,ex⟩:=z;refine⟨⟨o,e,ex.1⟩,λa e2=>?_⟩
   cases e2
   exact⟨o,e,ex.2.1⟩
  .obtain⟨o,_,_,_,e,ex,_⟩:=I.hok p _ hk;refine⟨⟨o,e,ex.1⟩,λa e2=>?_⟩
   cases e2
   exact⟨o,e,ex.2.1⟩
 |_=>exact BB ty
noncomputable def tBM(K:W.Frag)(T:String)(r:V->List V->Hp->VK->Prop)(to:TE)(t:TA):TE:=λσ H Q=>to σ H λx H1=>tyV K T x H1/\t σ H1 λxs H2=>r x xs H2 Q
variable {o e:Expr}{es:List Expr}{to:TE}{t:TA}{name:Str}{apos cpos:Pos}{T id:String}{r:V->List V->Hp->VK->Prop}
theorem pe_bm (pa:PlainAttrs T) (slot:Slot T name id) (hty:typeOf (.builtin id)=pure (.type "method_descriptor")) (hm:MtR X id r) (ho:PE X o to) (ha:PA X (e :: es) t)
  (hbase:attributeBase o name X.env (eval o X.env)=eval o X.env:=by rfl)
  (hfew:((backTo cpos (A4 (e::es) X.env)).all (λx=>!x.1) && (Dx cpos (Cn [] X.env)).all (λx=>x.1.isSome)
   && decide ((e::es).length+([]:List Keyword).length+(if ([]:List Keyword).isEmpty then 0 else 1)<30))=true:=by rfl)
  (hline:(apos.endLine == cpos.line)=true:=by rfl) (hs:A4 (e::es) X.env=(false,eval e X.env)::A4 es X.env:=by rfl) (hplain:(backTo cpos (A4 es X.env)).any (·.1)=false:=by rfl) :
  PE X (.Call (.Attribute o name apos) (e::es) [] cpos) (tBM X.K T r to t):=by
 intro pins s σ H Q I h;refine wpAny_Call_method_late hbase hfew hline rfl (thn (ho pins s σ H _ I h) λv s1 ⟨x,H1,I1,r1,ty,q1⟩=>?_);obtain⟨h1,h2⟩:=zni I1 r1 ty;refine⟨T,id,pa,slot,hty,h1,h2,?_⟩;have hA:=ha cpos pins s1 σ H1 _ I1 q1;rw[hs]at hA ⊢;refine Calls.callWith_builtin (by show (false || (backTo cpos (A4 es X.env)).any (·.1))=false;rw[hplain] <;> rfl) (Calls.evalArgs_plain ?_);exact thn hA λus s2 ⟨vs,H2,I2,r2,q2⟩=>hm pins s2 σ H2 x vs v us Q I2 r1 r2 q2
/- xs.append(e),list.index on a module's tuple .. are MtR facts of 06m -/
end
noncomputable def MtM(X:Cx)(id:String)(r:V->List V->Hp->VK->Prop):Prop :=
 ∀(pins:List (Addr×Obj)) (s:Ae) (σ:St) (H:Hp) (x:V) (xs:List V) (v:Ab) (us:List Ab) (Q:VK),Inv X pins σ H s->RelV x v->Vals xs us->r x xs H Q ->
  As (Az X.prog X.w) X.A (call (.builtin id) (v::us)) (EP X pins σ Q) X.xe s
theorem Vals.one:∀{x:V}{us:List Ab},Vals [x] us->∃u,us=[u]/\RelV x u
 |_,_,.cons r .nil=>⟨_,rfl,r⟩
theorem Vals.reverse{xs:List V}{us:List Ab}(h:Vals xs us):Vals xs.reverse us.reverse:=by
 induction h with
 |nil=>exact .nil
 |cons r t ih=>rw[List.reverse_cons,List.reverse_cons];exact Vals.append ih (.cons r .nil)
theorem Vals.rep{xs:List V}{us:List Ab}(h:Vals xs us):∀k:Nat,Vals (Aj k xs).flatten (Aj k us).flatten
 | 0=>.nil
 |k+1=>by
  rw[BW,BW,Bk,Bk];exact Vals.append h (Vals.rep h k)
theorem zhb(its:List Ab):∀(k:Nat) (acc:List Ab),
  List.foldl (λx1 x2=>x1++x2) acc.toArray (Aj k its.toArray)=(acc++(Aj k its).flatten).toArray
 | 0,acc=>by simp
 |k+1,acc=>by
  have e:acc.toArray++its.toArray=(acc++its).toArray:=by simp
  have e2:(acc++its)++(Aj k its).flatten=acc++(Aj (k+1) its).flatten:=by rw[BW,Bk,CK]
  rw[<- e2,<- zhb its k (acc++its),<- e,BW,List.foldl_cons]
section
variable {X:Cx}{pins:List (Addr×Obj)}{σ:St}{H:Hp}{s:Ae}{l b:Addr}{xs ys zs:List V}
theorem Inv.lset{its its':List Ab}{n:Nat}{f:Array Ab -> Array Ab}{t':Nat}(I:Inv X pins σ H s)(hH:H l=some (.lst xs))
  (e:s.heap.get? l=some { cls:=.type "list",data:=.seq its.toArray n }) (hf:f its.toArray=its'.toArray) (hv:Vals ys its') (hz:ys.length<=sizeLine) :
  Inv X pins σ (upd H l (.lst ys)) { s with heap:=s.heap.update l (AT f),toks:=t' }:=by
 have q:=PySem.IsL.update e f;rw[hf]at q;refine I.write (x:=l) (e:=l) (by rw[hH];exact trivial) (.inl rfl) (λb' u hb hu=>(C3 s.heap (AT f) (BP hb)).trans hu) ⟨_,q⟩ ?_
 exact⟨hz,its',_,hv,q⟩
theorem Inv.lnew{its:List Ab}{t':Nat}(I:Inv X pins σ H s)(hv:Vals ys its)(hz:ys.length <= sizeLine) :
  Inv X pins σ (upd H s.heap.objs.size (.lst ys)) { s with heap:=s.heap.push { cls:=.type "list",data:=.seq its.toArray },toks:=t' } :=
 I.laid (λ_ _ q=>Ag _ q) (Ai _) ⟨hz,its,0,hv,AD _ rfl⟩
theorem Inv.fresh(I:Inv X pins σ H s):H s.heap.objs.size=none:=I.hok.fresh (Ai _)
theorem Inv.lstM (I:Inv X pins σ H s) (hH:H l=some (.lst xs)):xs.length<=sizeLine/\∃(its:List Ab) (n:Nat),Vals xs its/\xs.length=its.length/\s.heap.get? l=some { cls:=.type "list",data:=.seq its.toArray n }:=by obtain⟨z,its,n,r,e⟩:=I.hok l _ hH;exact⟨z,its,n,r,r.length,e⟩
theorem ziL{n:Nat}(h:n<=sizeLine):CP n=false:=by unfold CP;exact decide_eq_false (by lia)
end
section
variable {X:Cx}
noncomputable def zmK:V->List V->Hp->VK->Prop:=λx vs H Q=>∃l xs y,x=.ref l/\vs=[y]/\H l=some (.lst xs)/\xs.length<sizeLine/\Q .non (upd H l (.lst (xs++[y])))
theorem zbD:MtM X "list.append" zmK:=by
 intro pins s σ H x vs v us Q I rx rv h;obtain⟨l,xs,y,rfl,rfl,hH,hz,q⟩:=h
 cases rx
 obtain⟨u,rfl,ru⟩:=rv.one;obtain⟨z,its,n,r,hl,e⟩:=I.lstM hH;refine call_meets F.slot_list_append ⟨_,e,rfl⟩ F.entry_list_append (F.args_list_append_2 _ _) (PySem.list_append l its.toArray n u (by rw[An];lia)) ⟨e,?_⟩;refine⟨.non,_,I.lset (its':=its++[u]) hH e (by simp) (r.append (.cons ru .nil)) ?_,rfl,q⟩;rw[Ap,CB];lia
noncomputable def zmJ:V->List V->Hp->VK->Prop:=λx vs H Q=>∃l b xs zs,x=.ref l/\vs=[.ref b]/\H l=some (.lst xs)/\H b=some (.lst zs)/\xs.length+zs.length<=sizeLine/\Q .non (upd H l (.lst (xs++zs)))
theorem zky:MtM X "list.extend" zmJ:=by
 intro pins s σ H x vs v us Q I rx rv h;obtain⟨l,b,xs,zs,rfl,rfl,hH,hB,hz,q⟩:=h
 cases rx
 obtain⟨u,rfl,ru⟩:=rv.one
 cases ru
 obtain⟨z,its,n,r,hl,e⟩:=I.lstM hH;obtain⟨z2,its2,n2,r2,hl2,e2⟩:=I.lstM hB;have hsz:its.toArray.size+its2.toArray.size<=sizeLine:=by rw[An,An];lia
 have hlong:¬ (!its.toArray.isEmpty && CP (its.toArray.size+its2.toArray.size))=true:=by rw[ziL hsz,Bool.and_false];exact AR
 refine call_meets F.slot_list_extend ⟨_,e,rfl⟩ F.entry_list_extend (F.args_list_extend_2 _ _)
  (AutoSeq1.list_extend_list_list_0 l its.toArray n b its2.toArray n2 hlong (by rw[An];lia) (by lia)) ⟨e,e2,?_⟩
 refine⟨.non,_,I.lset (its':=its++its2) hH e (by simp) (r.append r2) ?_,rfl,q⟩;rw[Ap];lia
noncomputable def rCat:R2:=λx y H Q=>∃l b xs zs,x=.ref l/\y=.ref b/\H l=some (.lst xs)/\H b=some (.lst zs)/\xs.length+zs.length<=sizeLine/\∀p,H p=none->Q (.ref p) (upd H p (.lst (xs++zs)))
theorem ziJ:OpR X (Cs .Add) rCat:=by
 intro pins s σ H x y v u Q I rx ry h;obtain⟨l,b,xs,zs,rfl,rfl,hH,hB,hz,q⟩:=h
 cases rx
 cases ry
 obtain⟨z,its,n,r,hl,e⟩:=I.lstM hH;obtain⟨z2,its2,n2,r2,hl2,e2⟩:=I.lstM hB;refine PySem.P.add_list e e2 ?_ (by rw[An,An];lia)
 have ea:its.toArray++its2.toArray=(its++its2).toArray:=by simp
 rw[ea];exact⟨.ref _,_,I.lnew (t':=s.toks) (r.append r2) (by rw[Ap];lia),rfl,q _ I.fresh⟩
noncomputable def rRep:R2:=λx y H Q=>∃l k xs,x=.ref l/\y=.int k/\H l=some (.lst xs)/\-(2 ^ 63)<=k/\k<2 ^ 63/\xs.length*k.toNat<=sizeLine /\
 ∀p,H p=none->Q (.ref p) (upd H p (.lst (Aj k.toNat xs).flatten))
theorem zm6{α:Type}(xs:List α)(k:Nat):(Aj k xs).flatten.length=k*xs.length:=by
 induction k with
 |zero=>simp
 |succ k ih=>rw[BW,Bk,Ap,ih,Nat.succ_mul,Nat.add_comm]
theorem zko:OpR X (Cs .Mult) rRep:=by
 intro pins s σ H x y v u Q I rx ry h;obtain⟨l,k,xs,rfl,rfl,hH,h1,h2,hz,q⟩:=h
 cases rx
 obtain⟨t,rfl⟩:=ry;obtain⟨z,its,n,r,hl,e⟩:=I.lstM hH;have hlen:its.toArray.size*k.toNat<=sizeLine:=by rw[An,<- hl];exact hz
 have hcap:¬ its.toArray.size*k.toNat > (2 ^ 63-1) / 8:=by
  have:(sizeLine:Nat)<=(2 ^ 63-1) / 8:=by decide
  lia
 have hfit:¬ (!Builtin.List.listFitsIndex k)=true:=by rw[fitsIndex_both h1 h2];exact AR
 have hlong:¬ CP (its.toArray.size*k.toNat)=true:=by rw[ziL hlen];exact AR
 have hnew:List.foldl (λx1 x2=>x1++x2) #[] (Aj (if its.toArray.isEmpty=true then 0 else k.toNat) its.toArray)=(Aj k.toNat its).flatten.toArray:=by
  have f0:∀m:Nat,List.foldl (λx1 x2=>x1++x2) #[] (Aj m its.toArray)=(Aj m its).flatten.toArray:=λm=>by have:=zhb its m [];rw[List.nil_append]at this;exact this
  rw[f0]
  cases its with
  |nil=>simp
  |cons a r'=>rw[if_neg (by simp)]
 refine wpAny_binaryOp_repeat_ref (T:="list") (U:="int") (by decide) ⟨_,e,rfl⟩ (λs'=>typeIs_int s' k t) noFill_list_mul F.fills_int_mul F.slot_int_rmul repeat_list F.slot_int_index.lookup
  (call_meets F.slot_int_rmul (typeIs_int s k t) F.entry_int_rmul (F.args_int_rmul_2 _ _) (int___rmul___int_list k t l its.toArray n)
   ⟨e,rfl,⟨_,e,rfl⟩,call_meets F.slot_list_mul ⟨_,e,rfl⟩ F.entry_list_mul (F.args_list_mul_2 _ _) (AutoListH.list___mul___list_int_3 l its.toArray n k t hfit hcap hlong) ⟨e,?_⟩⟩)
 rw[hnew];exact⟨.ref _,_,I.lnew (t':=s.toks) (r.rep k.toNat) (by rw[zm6,Nat.mul_comm];exact hz),rfl,q _ I.fresh⟩
end
section
variable {prog:AH}{w:A1}{A:AS}{E:Ab->Ae->Prop}{s:Ae}
end
section
variable {X:Cx}
end
end L2
namespace Att
open PySem PySem.W PySem.Calls PyProof.Rows
theorem zeN{P:Params}{h:Heap}:∀(ns:List Int) (vs:List Ab),WellAll P h vs (ns.map WData.int)->Cj vs ns:=by
 intro ns
 induction ns with
 |nil =>
  intro vs w;rw[List.map_nil]at w
  cases w
  exact .nil
 |cons n ns ih =>
  intro vs w;rw[AL]at w
  cases w with
  |cons a b =>
   cases a
   exact .cons _ _ (ih _ b)
theorem zj3{l:OpenLaw}{n:Nat}(hn:l.most=some n){P:Params}{h:Heap}{args:List WData}{vals:List Ab}
  (hpre:l.row.toRowW.claim.pre args=true) (hwl:WellAll P h vals args) :
  ∃a vs ns,vals=[Ay a]/\args=[WData.list (ns.map WData.int)]/\h.get? a=some { cls:=.type "list",data:=.seq vs.toArray }/\Cj vs ns/\ns.length<=n:=by
 have hsh:WShape.hasAll [] args [.list .int]=true:=(pre_splitW hpre).1;have hc:l.pre.holds [] { args:=args }=true:=(pre_splitW hpre).2;obtain⟨d,r,rfl,h1,h2⟩:=hasAllW_cons hsh;obtain rfl:=hasAllW_nil h2;obtain⟨xs,rfl,h3⟩:=hasW_list h1;obtain⟨ns,rfl⟩:=items_int h3
 have hlen:ns.length<=n:=by
  unfold OpenLaw.pre at hc
  have h4:(WTm.not (.lt (.lit (.int (n:Int))) (.len (.arg 0)))).holds [] { args:=[.list (ns.map .int)] }=true:=by have h4:=(holds_andW hc).1;rw[hn]at h4;exact h4
  have h5:=condW_of h4 (w_not (w_lt w_lit (w_len_list (w_arg rfl))));rw[Af]at h5;refine Nat.le_of_not_lt λq=>?_
  have q':(n:Int)<((ns.length:Nat):Int):=by lia
  first
   | (rw[decide_eq_true q']at h5;exact absurd h5 (by decide))
   | (simp at h5;lia)
 cases hwl with
 |cons w1 w2 =>
  cases w2
  cases w1 with
  |list ho hall=>exact⟨_,_,ns,rfl,rfl,ho,zeN ns _ hall,hlen⟩
theorem zkh(l:OpenLaw)(args:List WData):l.row.toRowW.claim.post args (.bool true) args=true :=
 postW_of (r:=l.row.toRowW) (X:=(true == true))
  (show WShape.has [] (.bool true) .bool=true by first |rfl |decide |simp[WShape.has,WShape.arms,WShape.armsAll])
  (show (WTm.eq .res (.lit (.bool true))).value [] { args:=args,res:=some (.bool true),after:=args }=some (.bool (true == true)) from w_eq_bool (w_res rfl) w_lit) rfl
theorem attach_call{l:OpenLaw}{n:Nat}{q:AH}{loose:List Str}{XP:(Str -> Option Ab) -> Heap -> Prop}{YP:A1 -> Heap -> Prop}{d:DefRec}
  (hn:l.most=some n) (hdf:d.params.defaults=[])
  (call:∀(w:A1) (s₀ s₁:Ae) (mg mb:Str->Option Ab) (fa:Addr) (o:Obj) (pm cd doc:Ab) (a:Addr) (vs:List Ab) (ns:List Int),
   Ground q loose [] XP w s₀ mg mb s₁.heap->YP w s₁.heap ->
   s₁.heap.get? fa=some o->o.data=.func (docDef d.name d.params d.body d.scope pm cd doc)->s₁.heap.CodeRec cd d.name->mg d.name=some (.ref fa) ->
   s₁.heap.get? a=some { cls:=.type "list",data:=.seq vs.toArray }->Cj vs ns->ns.length<=n->s₁.gens=#[] ->
   CA (Az l.prog w) callerA (.call (.ref fa) ⟨[.ref a],[]⟩) (λr s'=>r=.ok (.ret (.bool true))/\OldK s₁.heap s'.heap/\s'.os=s₁.os/\AllBare s'.gens) s₁) :
  WalkO q loose XP YP l.row.toRowW d [] (λf vs=>PySem.call f vs):=by
 intro w s₀ s₁ mg mb G Y fa o pm cd doc dV kV ho hd hcd hD hmg hg args vals as hpre hlay hrd hwl hlo;obtain rfl:dV=.none:=Dflts.none hD hdf;obtain rfl:kV=.none:=Dflts.noKw hD;obtain⟨a,vs,ns,rfl,rfl,hobj,hints,hlen⟩:=zj3 hn hpre hwl;refine enter_call (Ds (call w s₀ s₁ mg mb fa o pm cd doc a vs ns G Y ho (fd_plain hd) hcd hmg hobj hints hlen hg) λr s' hq=>?_);obtain⟨rfl,h2,h3,h4⟩:=hq;exact⟨.inl ⟨.bool true,.bool true,[],rfl,λ_=>rfl,.bool true,zkh l _,λ_=>⟨List.Pairwise.nil,λ_ hm=>(nomatch hm)⟩⟩,h2,h3,h4⟩
section
variable {prog:AH}{w:A1}{A:AS}{E:Ab->Ae->Prop}{s:Ae}{K:Frag}
noncomputable def zn7(h:Heap)(L d:Addr):List (Addr×Obj):=(AJ h.objs.size).filterMap λa=>if a=L∨a=d then none else (h.get? a).map λo=>(a,o)
end
end Att
namespace L2
open PySem PySem.Spec PyProof.Rows
theorem zgG:∀{vs:List Ab}{ns:List Int},Cj vs ns->Vals (ns.map V.int) vs
 |_,_,.nil=>.nil
 |_,_,.cons n t h=>.cons ⟨t,rfl⟩ (zgG h)
noncomputable def Only(H:Hp):Prop:=∀b,H b=none∨∃o xs,H b=some (.frz o (.lst xs))
theorem zlK{P:AH}{w:A1}{K:W.Frag}{mg mb:Str -> Option Ab}{CX:CXT}{k:Nat}{fa a:Addr}{fd:Br}{x:Str}{sp:Sp}{s₁ : Ae}{vs:List Ab}{ns:List Int}
    (KX:K.In s₁.heap) (hns:s₁.heap.Ns AG mg) (hb:s₁.heap.Ns builtinsNs mb) (hbb:∀x:Str,x ≠ "__name__" -> mb x=bootBuiltins x) (hlim:s₁.heap.NoLimit) (hg:s₁.gens=#[])
    (ha:s₁.heap.get? a=some { cls:=.type "list",data:=.seq vs.toArray }) (hi:Cj vs ns) (hl:ns.length<=sizeLine) (hr:Room k callerA)
    (F:∀base:Heap,K.In base->base.Ns AG mg->FnOk P w K mg base CX k fa fd [x] sp) (hbind:∀(s:Ae) (u:Ab),BindsTo s fd ⟨[u],[]⟩ [(x,u)])
    (hsp:∀H:Hp,Only H->SqL K H a (ns.map V.int)->sp [.ref a] H (λv _=>v=.bl true) λ_ _ _=>False)
    (hCX:∀H e s',CX [] H s₁ (λ_ _ _=>False) e s'->False) :
    CA (Az P w) callerA (.call (.ref fa) ⟨[.ref a],[]⟩) (λr s'=>r=.ok (.ret (.bool true))/\OldK s₁.heap s'.heap/\s'.os=s₁.os/\AllBare s'.gens) s₁:=by
  have rv:=zgG hi;have lenV:=hi.length
  have core:∀H:Hp, Only H -> SqL K H a (ns.map V.int) -> HOk P w H s₁.heap -> (∀b, H b ≠ none -> b=a) -> (H a ≠ none -> K.lookup a=none) ->
      CA (Az P w) callerA (.call (.ref fa) ⟨[.ref a],[]⟩) (λr s'=>r=.ok (.ret (.bool true))/\OldK s₁.heap s'.heap/\s'.os=s₁.os/\AllBare s'.gens) s₁:=by
    intro H hO hS hok hA hK;have base_of:∀{b:Addr} {o:Obj},s₁.heap.get? b=some o->H b=none->(hidT s₁.heap H).get? b=some o:=λe n=>zlM e n
    have noA:∀{b:Addr} {o:Obj} {es:Array DictEntry} {ep:Nat},s₁.heap.get? b=some o->o.data=.dict es ep->H b=none:=λ{b o es ep} e d=>by
      cases q:H b with
      |none=>rfl
      |some u =>
        have e':b=a:=hA b (by rw[q];simp);subst e';rw[ha]at e;cases e;have d':Data.seq vs.toArray _=Data.dict es ep:=d
        cases d'
    have nsK:∀{b:Addr} {m:Str->Option Ab},s₁.heap.Ns b m->(hidT s₁.heap H).Ns b m:=λ{b m} ⟨o,es,ep,e,d,r⟩=>⟨o,es,ep,base_of e (noA e d),d,r⟩
    have hKb:K.In (hidT s₁.heap H):=λb o e=>base_of (KX b o e) (by
      cases q:H b with
      |none=>rfl
      |some u =>
        have e':b=a:=hA b (by rw[q];simp);subst e';rw[hK (by rw[q];simp)]at e;cases e)
    have hM:Mod K mg (hidT s₁.heap H):=⟨hKb,nsK hns,⟨mb,nsK hb,hbb⟩,let ⟨mc,h1,h2⟩:=hlim;⟨mc,nsK h1,h2⟩⟩;have e0:Env0 P w K mg (hidT s₁.heap H) callerA [] s₁ H:=⟨rfl,hM,λb o e=>zmX e,Nat.le_of_eq (zkS _ _),trivial,λb hb=>absurd (show b∈([]:List Addr) from hb) (by simp),hok,.of_eq hg⟩;refine Ds ((F _ hKb (nsK hns)).run callerA [] s₁ H ⟨[.ref a],[]⟩ [.ref a] [.ref a] _ _ hr e0 (hbind s₁ (.ref a)) (.cons rfl .nil) (hsp H hO hS)) λr s' h=>?_
    cases r with
    |error e=>exact (hCX H e s' h).elim
    |ok fl =>
      cases fl with
      |next=>exact BB h
      |brk=>exact BB h
      |cont=>exact BB h
      |ret u =>
        obtain⟨v,H',os,bare,un,hok',r',q⟩:=h;have q':v=.bl true:=q;subst q';obtain rfl:u=Value.bool true:=r';refine⟨rfl,OldK.of_keep λb o e=>?_,os,bare⟩
        cases q:H b with
        |none=>exact un.keep b o e q (by intro z;exact absurd (show b∈([]:List Addr) from z) (by simp)) (by simp)
        |some u =>
          rcases hO b with z |⟨ob,xs,z⟩
          . rw[q]at z;cases z
          . have z2:=un.frzs b ob _ z;obtain⟨e1,_⟩:=hok b _ z;obtain⟨e2,_⟩:=hok' b _ z2;rw[e]at e1;cases e1;exact e2
  cases hk:K.lookup a with
  |some o =>
    have e:=KX a o hk;rw[ha]at e
    cases e
    refine core (λ_=>none) (λ_=>.inl rfl) (.inr ⟨_,vs.toArray,_,hk,rfl,rfl,rfl,by rw[An,lenV];exact hl,by simpa using rv⟩) (λb u z=>by have z':(none:Option HO)=some u:=z;cases z') (λb z=>absurd rfl z) λz=>absurd rfl z
  |none =>
    refine core (λb=>if b=a then some (.frz { cls:=.type "list",data:=.seq vs.toArray } (.lst (ns.map V.int))) else none) (λb=>?_) (.inl (.inr ⟨{ cls:=.type "list",data:=.seq vs.toArray },if_pos rfl⟩)) (λb u z=>?_) (λb z=>?_) λ_=>hk
    . by_cases hb:b=a
      . exact .inr ⟨_,_,if_pos hb⟩
      . exact .inl (if_neg hb)
    . by_cases hb:b=a
      . have z':=(if_pos hb).symm.trans z
        cases z'
        subst hb;exact⟨ha,by rw[Af];exact hl,vs,_,rv,ha⟩
      . have z':=(if_neg hb).symm.trans z
        cases z'
    . by_cases hb:b=a
      . exact hb
      . exact absurd (if_neg hb) z
noncomputable abbrev KOf{K:W.Frag}{h:Heap}(_:K.In h):W.Frag:=K
theorem walk_of{l:W.OpenLaw}{n k:Nat}{q:AH}{loose:List Str}{XP:(Str -> Option Ab) -> Heap -> Prop}{YP:A1 -> Heap -> Prop}{d:DefRec}{K:Params -> W.Frag}{CX:A1 -> CXT}{sp:A1 -> Sp}{x:Str}
  (hn:l.most=some n) (hn2:n<=sizeLine) (hdf:d.params.defaults=[]) (hr:Room k callerA)
  (hY:∀(w:A1) (h:Heap),YP w h->(K w.params).In h)
  (F:∀(w:A1) (mg:Str->Option Ab) (fa:Addr) (h:Heap),(K w.params).In h->h.Ns AG mg->mg d.name=some (.ref fa) ->
   ∃fd:Br,(∀(s:Ae) (u:Ab),BindsTo s fd ⟨[u],[]⟩ [(x,u)]) /\
    ∀base:Heap,(K w.params).In base->base.Ns AG mg->FnOk l.prog w (K w.params) mg base (CX w) k fa fd [x] (sp w))
  (hsp:∀(w:A1) (H:Hp) (a:Addr) (ns:List Int),ns.length<=n->Only H->SqL (K w.params) H a (ns.map V.int)->sp w [.ref a] H (λv _=>v=.bl true) λ_ _ _=>False)
  (hCX:∀(w:A1) (H:Hp) (s:Ae) (e:Ab) (s':Ae),CX w [] H s (λ_ _ _=>False) e s'->False) :
  W.WalkO q loose XP YP l.row.toRowW d [] (λf vs=>PySem.call f vs):=by
 refine Att.attach_call hn hdf λw s₀ s₁ mg mb fa o pm cd doc a vs ns G Y ho hd hcd hmg hobj hints hlen hg=>?_
 have KX:=hY w _ Y;obtain⟨fd,hb,hF⟩:=F w mg fa _ KX G.T.g hmg;exact zlK KX G.T.g G.T.b G.T.builtins G.T.nolimit hg hobj hints (Ba hlen hn2) hr hF hb (λH hO hS=>hsp w H a ns hlen hO hS) λH e s'=>hCX w H s₁ e s'
end L2
/- THE LAST THEOREM (shape; LID, My.* are yours):
  My.Adr: a structure of the addresses that your layer names (classes,functions);My.Txt K t: a structure (Prop) of the equations over K;
  My.txt_mk:{K} {implicit addresses ..} (e1:nsIn K AG "law" = some (some (.ref f))) (e2:K.lookup f=some ⟨oc,od,.func (fnOf "law" "law" params body scope dV kV doc pm an cdv ct),sl⟩) (e3:codeIn K cdv "law" = true) ..:∃t,My.Txt K t
set_option maxRecDepth 100000 in
set_option maxHeartbeats 0 in
theorem PySem.Challenge.cw_LID_holds : PySem.Challenge.rw_LID.Holds := by
 w_on;o_law;k_head;(case hw=>w_witness2)
 k_fill
 refine L2.walk_of (l:=PySem.Challenge.rw_LID) (n:=63) (k:=40) (x:="script") (CX:=λw=>..) (sp:=λ_=>My.sp_law) rfl (by decide) rfl ⟨rfl,by decide,by decide⟩ (λw h Y=>W.kIn_of Y) ?F ?S ?C
 case F =>
  intro w mg fa h KX G hmg
  have T:∃ t,My.Txt (L2.KOf KX) t:=by
   dsimp only[L2.KOf]                          -- K must stand as «<heap const> w.params» for k_is
   refine' My.txt_mk ?e1 ?e2 ?e3 ..
   (case e1=>W.k_is)                    -- in the order: a name -> its address -> its object -> its parts
   (case e2=>W.k_is)
   ..
  obtain⟨t,T⟩:=T
  have e0:=hmg.symm.trans (W.mg_of KX G T.law)
  cases e0                                       -- fa is the law's own address
  exact⟨_,λs u=>.of_eq rfl,λbase kb nb=>My.law_fn T kb nb⟩     -- if «.of_eq rfl» comes too early: refine' ⟨_,?b,λbase kb nb=>My.law_fn T kb nb⟩;exact λs u=>.of_eq rfl
 case S=>exact λw H a ns hl hO hS=>..
 case C=>exact ..
(the tactic k_is has no namespace: write k_is) -/
namespace L2
open PySem PySem.Spec PyProof.Rows
noncomputable def za9(s:Stmt):Arguments:=match s with
 |.FunctionDef _ a _ _ _ _ _ _ _ _=>a
 |_=>{ posonlyargs:=[],args:=[],vararg:=none,kwonlyargs:=[],kw_defaults:=[],kwarg:=none,defaults:=[] }
noncomputable def za0(s:Stmt):List Stmt:=match s with
 |.FunctionDef _ _ b _ _ _ _ _ _ _=>b
 |_=>[]
noncomputable def zad(s:Stmt):Scope:=match s with
 |.FunctionDef _ _ _ _ _ _ sc _ _ _=>sc
 |_=>{ kind:=.function,names:=[],isGenerator:=false,isCoroutine:=false }
noncomputable abbrev CX0:CXT:=λ_ _ _ _ _ _=>False
noncomputable abbrev E0:XK:=λ_ _ _=>False
theorem pass0{X:Cx}:zle CX0 X E0:=λ_ _ _ _ _ _ _ h=>h.elim
structure Fun (K:W.Frag) (x qual:Str) (st:Stmt) (f:Addr) (fd:Br):Prop where
 ex:∃(oc:Ab) (od:Option Addr) (kV doc pm:Ab) (an:Option Addr) (cdv ct:Ab) (osl:Array (Option Ab)),
  fd=Dj x qual (za9 st) (za0 st) (zad st) .none kV doc pm an cdv ct/\K.lookup f=some ⟨oc,od,.func fd,osl⟩/\W.codeIn K cdv qual=true
 kp:W.keepIn K (.ref f)=true
section
variable {P:AH}{w:A1}{K:W.Frag}{mg:Str->Option Ab}{base:Heap}
theorem Fun.ok{x qual:Str}{st:Stmt}{f:Addr}{fd:Br}{N ps:List Str}{k:Nat}{sp:Sp}(F:Fun K x qual st f fd)(S:FnScope N ps (zad st))(len:∀vs H Q E, sp vs H Q E -> vs.length=ps.length)
  (hbody:∀(cdv:Ab) (A:AS) (outer:List Env) (s:Ae) (H:Hp) (vs:List V) (Q:VK) (E:XK),Room k (A.deeper (envOfC qual (zad st) s.heap.objs.size f cdv))->sp vs H Q E ->
   ∃t,PSs (cxOf CX0 P w K mg base N qual (zad st) f cdv A outer s H E).nox (za0 st) t/\t { nx:=λ_ H'=>Q .non H',rt:=Q } (start N vs) H):FnOk P w K mg base CX0 (k+1) f fd ps sp:=by
 obtain⟨oc,od,kV,doc,pm,an,cdv,ct,osl,rfl,lk,hcd⟩:=F.ex;refine fn_of lk hcd S len λA outer s H vs Q E hr hsp=>?_
 obtain⟨t,h,q⟩:=hbody cdv A outer s H vs Q E hr hsp;exact⟨t,h.nox,q⟩
theorem Fun.binds{x qual:Str}{st:Stmt}{f:Addr}{fd:Br}{ps:List Str}(F:Fun K x qual st f fd)
  (h:∀(kV doc pm:Ab) (an:Option Addr) (cdv ct:Ab) (us:List Ab),us.length=ps.length->bindArgs (Dj x qual (za9 st) (za0 st) (zad st) .none kV doc pm an cdv ct) ⟨us,[]⟩=pure (ps.zip us)):Binds K fd ps []:=by
 obtain⟨oc,od,kV,doc,pm,an,cdv,ct,osl,rfl,lk,hcd⟩:=F.ex;exact .all (h kV doc pm an cdv ct)
theorem zdv{x qual:Str}{st:Stmt}{f:Addr}{oc:Ab}{od an:Option Addr}{osl:Array (Option Ab)}{kV doc pm cdv ct:Ab}(l:K.lookup f=some ⟨oc, od, .func (Dj x qual (za9 st) (za0 st) (zad st) .none kV doc pm an cdv ct), osl⟩)
  (c:W.codeIn K cdv qual=true) (k:W.keepIn K (.ref f)=true):Fun K x qual st f (Dj x qual (za9 st) (za0 st) (zad st) .none kV doc pm an cdv ct):=⟨⟨oc,od,kV,doc,pm,an,cdv,ct,osl,rfl,l,c⟩,k⟩
end
theorem hu_of{A:AS}{k:Nat}(hr:Room k A):A.units+1<cLine:=Nat.lt_of_le_of_lt (Nat.add_le_add_left (by decide:1<=64) _) hr.units
theorem zaj{n:Nat}(h:n<=1000):n<sizeLine:=Nat.lt_of_le_of_lt h (by decide)
section
variable {X:Cx}
theorem pv (i:Nat){x:Str}{pos:Pos}(hN:X.N[i]? = some x := by rfl) (hv:Vis X.env.scope x := by first |exact Or.inl rfl |exact Or.inr (Or.inl rfl) |exact Or.inr (Or.inr rfl)) (hd:(x == ("__debug__" : Str))=false := by decide)
  (hcd:(x == ("__classdict__" : Str))=false:=by decide):PE X (.Name x pos) (tVar i):=znD hN hv hd hcd
end
theorem iteF{A B:Prop}(h:B):if false=true then A else B:=by rw[if_neg AR];exact h
theorem iteT{A B:Prop}(h:A):if true=true then A else B:=by rw[if_pos rfl];exact h
theorem ite2{c A B:Prop} [Decidable c](h1:c->A)(h2:¬ c->B):if c then A else B:=by
 by_cases h:c
 .rw[if_pos h];exact h1 h
 .rw[if_neg h];exact h2 h
noncomputable def Same(H H':Hp):Prop:=∀b o,H b=some o->H' b=some o
theorem Same.refl(H:Hp):Same H H:=λ_ _ h=>h
theorem Same.trans{H H1 H2:Hp}(a:Same H H1)(b:Same H1 H2):Same H H2:=λc o h=>b c o (a c o h)
theorem Same.free{H H':Hp}(e:Same H H'){l:Addr}(h:H' l=Option.none):H l=Option.none:=by
 cases q:H l with
 |none=>rfl
 |some o =>
  rw[e l o q]at h
  cases h
theorem Same.seq{K:W.Frag}{H H':Hp}{a:Addr}{xs:List V}(e:Same H H')(h:SqL K H a xs):SqL K H' a xs:=by
 rcases h with (h |⟨o,h⟩) |h
 .exact .inl (.inl (e _ _ h))
 .exact .inl (.inr ⟨o,e _ _ h⟩)
 .exact .inr h
section
variable {κ:Type} [DecidableEq κ]
end
end L2
set_option maxHeartbeats 4000000
namespace L2
open PySem PySem.Spec PyProof.Rows
noncomputable def zcw(J:It)(g:TG)(tb:TS):TS:=λD σ H=>∃W:Nat->Nat->St->Hp->Prop,(∃m,W 0 m σ H)/\∀i m σ H,W i m σ H ->
 (J.stop i H/\D.nx σ H)∨(J.go i H/\∃N:St->Hp->Prop,(∀ σ' H',N σ' H'->∃m',m'<m/\W (i+1) m' σ' H')/\∀x H',J.yld i H x H'->g x σ H' λσ2 H2=>tb { D with nx:=N,ct:=N,bk:=D.nx } σ2 H2)
noncomputable def PTs(X:Cx)(ifs:List Expr)(t:TT):Prop :=
 ∀(pins:List (Addr×Obj)) (s:Ae) (σ:St) (H:Hp) (Q:Bool->Hp->Prop),Inv X pins σ H s->t σ H Q ->
  As (Az X.prog X.w) X.A (forIn ifs true λc r=>if r=true then do let ok <- isTrue c X.env (eval c X.env);pure (ForInStep.yield ok) else pure (ForInStep.yield r)) (TP X pins σ Q) X.xe s
theorem za8{X:Cx}:PTs X [] (λ_ H Q=>Q true H):=λpins s σ H Q I h=>Am ⟨H,I,h⟩
theorem zcK{X:Cx}{c:Expr}{t:TT}(hc:PT X c t):PTs X [c] t:=λpins s σ H Q I h=>wpAny_tests_one (hc pins s σ H Q I h)
noncomputable def PB(X:Cx)(inner:Sem Unit)(t:TS):Prop :=
 ∀(pins:List (Addr×Obj)) (s:Ae) (σ:St) (H:Hp) (D:Ends),Inv X pins σ H s->t D σ H->As (Az X.prog X.w) X.A inner (λ_ s'=>∃ σ' H',Inv X pins σ' H' s'/\D.nx σ' H') X.xe s
noncomputable def tIfs(tt:TT)(tb:TS):TS:=λD σ H=>tt σ H λb H1=>if b=true then tb D σ H1 else D.nx σ H1
theorem zcN{X:Cx}{e tg:Expr}{d:Nat}{ifs:List Expr}{p:Pos}{acc:Ab}{inner:Sem Unit}{g:TG}{tt:TT}{tb:TS}{it:Addr}{fp:List Addr}{tn:Nat -> Heap -> Prop}{J:It}
  {pins:List (Addr×Obj)} {s:Ae} {σ:St} {H:Hp} {D:Ends} {R:Result->Ae->Prop}
  (hq:(Code.compLoop e d (.ref it) acc X.env).quiet=true)
  (hden:(Az X.prog X.w).den (.compLoop e d (.ref it) acc X.env)=(compTurn e d (.ref it) acc X.env).onRaise (λx=>do noteFrame x X.env;theTreesLotGoes x))
  (hT:compTurn e d (.ref it) acc X.env=(do
   standAt p
   match <- pyNext (.ref it) with
   |none=>pure (.done .next)
   |some v =>
    DC tg (.ref it) v
    assign tg X.env v
    let mut ok:=true
    for c in ifs do
     if ok then ok <- isTrue c X.env (eval c X.env)
    if ok then
     inner
    again (.compLoop e d (.ref it) acc X.env)))
  (hA:∀(B:AS) {α:Type} {t:Sem α} {Q:α->Ae->Prop} {E:Ab->Ae->Prop} {s:Ae},B=X.A.under (.compLoop e d (.ref it) acc X.env)->As (Az X.prog X.w) X.A t Q E s->As (Az X.prog X.w) B t Q E s)
  (hc:X.calm=true) (hx:X.xe=λ_ _=>False) (hg:PG X tg g) (ht:PTs X ifs tt) (hb:PB X inner tb)
  (I:Inv X pins σ H s) (T:Turn X.prog X.w X.K tg J fp it tn) (st:tn 0 s.heap) (f:∀b∈fp,FpOk X pins H b) (W:zcw J g (tIfs tt tb) D σ H)
  (hR:∀fl s',(∃ σ' H',Inv X pins σ' H' s'/\(∀b∈fp,H' b=none)/\D.nx σ' H')->R (.ok fl) s') :
  CA (Az X.prog X.w) X.A (.compLoop e d (.ref it) acc X.env) R s:=by
 obtain⟨W,⟨m0,w0⟩,turn⟩:=W;have stat:∀{H':Hp},(∀b∈fp,H' b=none)->∀b∈fp,FpOk X pins H' b:=λhn b hb=>⟨hn b hb,(f b hb).2⟩
 refine codeAny_loop hq (λn s'=>∃i σ' H',Inv X pins σ' H' s'/\tn i s'.heap/\(∀b∈fp,H' b=none)/\W i n σ' H') ?_ m0 ⟨0,σ,H,I,st,λb hb=>(f b hb).1,w0⟩;rintro n s3 ⟨i,σ3,H3,I3,st3,fr3,w3⟩;refine hA _ rfl ?_
 rw[hden];refine wpAny_noted (wpAny_noRaise ?_);rw[hT];refine Ac (Cm ?_)
 have nx:∀{α:Type} {t:Sem α} {Q:α->Ae->Prop} {s:Ae},As (Az X.prog X.w) X.A t Q X.xe s->As (Az X.prog X.w) X.A t Q (λ_ _=>False) s:=λ{α t Q s} h=>by rw[hx]at h;exact h
 rcases turn i n σ3 H3 w3 with⟨stop,qn⟩ |⟨go,N,hN,step⟩
 .refine Ac (thn (T.done X rfl rfl rfl hc i pins s3 σ3 H3 _ I3 (stat fr3) st3 stop) λr s4 ⟨hr,I4⟩=>?_);subst hr;exact Am (hR _ _ ⟨σ3,H3,I4,fr3,qn⟩)
 .refine Ac (thn (T.item X rfl rfl rfl hc i pins s3 σ3 H3 _ I3 (stat fr3) st3 go) λr s4 ⟨u,hr,h4⟩=>?_);subst hr;refine Ac (thn h4 λ_ s5 ⟨x,H5,I5,r5,y5,st5,fr5⟩=>?_);have I5':=I5.pinned (stat fr5) (T.obj _ _ st5)
  have again:∀{σ7:St} {H7:Hp} {s7:Ae},Inv X (pins++zdS fp s5.heap) σ7 H7 s7->N σ7 H7->∃m,m<n/\∃i σ' H',Inv X pins σ' H' s7/\tn i s7.heap/\(∀b∈fp,H' b=none)/\W i m σ' H':=λ{σ7 H7 s7} I7 n7=>by obtain⟨m',hm,w7⟩:=hN σ7 H7 n7;refine⟨m',hm,i+1,σ7,H7,I7.unpinned,T.keep _ _ _ st5 λb hb o e=>(I7.pin (b,o) (Aw _ (Aw _ (zaZ hb e)))).1,λb hb=>?_,w7⟩;obtain⟨o,e,d⟩:=T.obj _ _ st5 b hb;exact (I7.pin (b,o) (Aw _ (Aw _ (zaZ hb e)))).2.1
  refine Ac (thn (nx (hg _ s5 σ3 H5 x u _ I5' r5 (step x H5 y5))) λ_ s6 ⟨σ6,H6,I6,q6⟩=>?_);refine Ac (thn (nx (ht _ s6 σ6 H6 _ I6 q6)) λok s7 ⟨H7,I7,q7⟩=>?_)
  cases ok with
  |false =>
   exact Am ⟨rfl,again I7 q7⟩
  |true =>
   refine Ac (thn (nx (hb _ s7 σ6 H7 _ I7 q7)) λ_ s8 ⟨σ8,H8,I8,q8⟩=>?_);exact Am ⟨rfl,again I8 q8⟩
noncomputable abbrev blk(X:Cx)(sc:Scope)(cl:List (Str×Addr))(C:Addr)(N':List Str)(s0:Ae)(H0:Hp)(ex:List Addr):Cx :=
 { X with N:=N',s₀:=s0,H₀:=H0,env:=Ch sc cl C X.env,outer:=X.stack,stack:=X.stack,ex:=ex,fn:=λ_=>false,pn:=[],xe:=λ_ _=>False }
structure BlkOk (osc:Scope) (N:List Str) (sc:Scope) (N':List Str) (sel:List (Option Nat)):Prop where
 kind:sc.kind=.function
 nocell:∀y∈sc.names,y.2≠.cell
 names:∀y∈sc.names,y.2=.local->sc.names.lookup y.1=some .local
 free:∀y∈sc.names,y.2=.free->osc.names.lookup y.1=some .cell∨osc.names.lookup y.1=some .free
 len:sel.length=N'.length
 sel:∀p∈sel.zip N',∀i∈p.1,N[i]?=some p.2/\sc.names.lookup p.2=some .free
noncomputable def selSt(sel:List (Option Nat))(σ:St):St:=sel.map λo=>o.bind λi=>(σ[i]?).join
theorem zcr{env:Env} : ∀(names:List (Str × Ct)) (acc:List (Str × Addr)), (∀y ∈ names, y.2 = .free -> ∃c, env.cells.lookup y.1=some c) ->
  ∃cl,(forIn names acc λ(x:Str×Ct) (r:List (Str×Addr))=>(if (x.2 == .free)=true then do let c <- cellOf env x.1;pure (ForInStep.yield ((x.1,c)::r)) else pure (ForInStep.yield r):Sem (ForInStep (List (Str×Addr)))))=pure cl /\
   (∀x c,cl.lookup x=some c->acc.lookup x=some c∨(env.cells.lookup x=some c/\(x,A7)∈names))/\(∀y∈names,y.2=.free->∃c,cl.lookup y.1=some c)/\(∀x c,acc.lookup x=some c->∃c',cl.lookup x=some c')
 |[],acc,_=>⟨acc,rfl,λ_ _ h=>.inl h,(λ_ h=>nomatch h),λx c h=>⟨c,h⟩⟩
 | (n,k)::r,acc,h=>by
  by_cases hk:k=.free
  .subst hk;obtain⟨c,hc⟩:=h (n,.free) AE rfl;obtain⟨cl,e,h1,h2,h3⟩:=zcr r ((n,c)::acc) λy hy=>h y (Au _ hy)
   refine⟨cl,?_,λx c' hx=>?_,λy hy hf=>?_,λx c' hx=>?_⟩
   .rw[List.forIn_cons];have e1:cellOf env n=pure c:=by unfold cellOf;rw[hc]
    simp only[beq_self_eq_true,if_true,e1,pure_bind];exact e
   .rcases h1 x c' hx with q |⟨q,m⟩
    .by_cases hn:x=n
     .subst hn;rw[AV,beq_self_eq_true]at q
      cases q
      exact .inr ⟨hc,AE⟩
     .have hb:(x == n)=false:=by simpa using hn
      rw[AV,hb]at q;exact .inl q
    .exact .inr ⟨q,Au _ m⟩
   .rcases At.mp hy with z |z
    .subst z;exact h3 n c (by rw[AV,beq_self_eq_true])
    .exact h2 y z hf
   .by_cases hn:x=n
    .subst hn;exact h3 x c (by rw[AV,beq_self_eq_true])
    .have hb:(x == n)=false:=by simpa using hn
     exact h3 x c' (by rw[AV,hb];exact hx)
  .obtain⟨cl,e,h1,h2,h3⟩:=zcr r acc λy hy=>h y (Au _ hy)
   refine⟨cl,?_,λx c' hx=>?_,λy hy hf=>?_,h3⟩
   .rw[List.forIn_cons];have hb:(k == A7)=false:=by simpa using hk
    simp only[hb,Cv,if_false,pure_bind];exact e
   .rcases h1 x c' hx with q |⟨q,m⟩
    .exact .inl q
    .exact .inr ⟨q,Au _ m⟩
   .rcases At.mp hy with z |z
    .subst z;exact absurd hf hk
    .exact h2 y z hf
structure Clo (env:Env) (sc:Scope) (cl:List (Str×Addr)):Prop where
 run:closureFor sc env=pure cl
 old:∀x c,cl.lookup x=some c->env.cells.lookup x=some c/\(x,A7)∈sc.names
 has:∀y∈sc.names,y.2=.free->∃c,cl.lookup y.1=some c
theorem zi4{X:Cx}{osc:Scope}{N:List Str}{sc:Scope}{N':List Str}{sel:List (Option Nat)}(ok:X.Ok)(B:BlkOk osc N sc N' sel)(ho:X.env.scope=osc):∃cl,Clo X.env sc cl:=by
 have hc:∀y∈sc.names,y.2=.free->∃c,X.env.cells.lookup y.1=some c:=λy hy hf=>ok.has y.1 (by
  show X.env.scope.names.lookup y.1=_∨X.env.scope.names.lookup y.1=_;rw[ho];exact B.free y hy hf)
 obtain⟨cl,e,h1,h2,_⟩:=zcr (env:=X.env) sc.names [] hc;refine⟨cl,?_,λx c h=>?_,h2⟩
 .unfold closureFor;have e':=e;show (do let r <- forIn sc.names [] _;pure r)=_;simp only[bind_pure];exact e'
 .rcases h1 x c h with q |q
  .cases q
  .exact q
theorem zbg{env:Env} : ∀{names:List (Str × Ct)}{x:Str}{k:Ct}, (names.map λ(n, k) => if (k == A7 && env.scope.kind == .function && env.kindOf n == some .cell) then (n, Bn) else (n, k)).lookup x=some k ->
  ∃k',(x,k')∈names/\(k=k'∨(k=.cell/\k'=.free))
 |[],x,k,h=>nomatch h
 | (n,j)::r,x,k,h=>by
  have ih:=@zbg env r x k;have h:List.lookup x ((if (j == A7 && env.scope.kind == .function && env.kindOf n == some .cell)=true then (n,Bn) else (n,j))::_)=some k:=h
  by_cases hx:x=n
  .subst hx
   by_cases hc:(j == A7 && env.scope.kind == .function && env.kindOf x == some .cell)=true
   .rw[if_pos hc,AV,beq_self_eq_true]at h
    cases h
    refine⟨j,AE,.inr ⟨rfl,?_⟩⟩;simp only[BO,beq_iff_eq]at hc;exact hc.1.1
   .rw[if_neg hc,AV,beq_self_eq_true]at h
    cases h
    exact⟨j,AE,.inl rfl⟩
  .have hb:(x == n)=false:=by simpa using hx
   have h':List.lookup x (r.map λ(n,k)=>if (k == A7 && env.scope.kind == .function && env.kindOf n == some .cell) then (n,Bn) else (n,k))=some k:=by
    by_cases hc:(j == A7 && env.scope.kind == .function && env.kindOf n == some .cell)=true
    .rw[if_pos hc,AV,hb]at h;exact h
    .rw[if_neg hc,AV,hb]at h;exact h
   obtain⟨k',m,e⟩:=ih h';exact⟨k',Au _ m,e⟩
theorem zbl{env:Env} : ∀{names:List (Str × Ct)}{x:Str}, names.lookup x=some .free ->
  (names.map λ(n,k)=>if (k == A7 && env.scope.kind == .function && env.kindOf n == some .cell) then (n,Bn) else (n,k)).lookup x=some .cell ∨
  (names.map λ(n,k)=>if (k == A7 && env.scope.kind == .function && env.kindOf n == some .cell) then (n,Bn) else (n,k)).lookup x=some .free
 |[],x,h=>nomatch h
 | (n,j)::r,x,h=>by
  have ih:=@zbl env r x;rw[AV]at h;show List.lookup x ((if (j == A7 && env.scope.kind == .function && env.kindOf n == some .cell)=true then (n,Bn) else (n,j))::_)=_∨List.lookup x ((if (j == A7 && env.scope.kind == .function && env.kindOf n == some .cell)=true then (n,Bn) else (n,j))::_)=_
  cases hx:x == n with
  |true =>
   rw[hx]at h
   cases h
   by_cases hc:(A7 == A7 && env.scope.kind == .function && env.kindOf n == some .cell)=true
   .rw[if_pos hc,AV,hx];exact .inl rfl
   .rw[if_neg hc,AV,hx];exact .inr rfl
  |false =>
   rw[hx]at h
   by_cases hc:(j == A7 && env.scope.kind == .function && env.kindOf n == some .cell)=true
   .rw[if_pos hc,AV,hx];exact ih h
   .rw[if_neg hc,AV,hx];exact ih h
section
variable {X:Cx}{osc:Scope}{N:List Str}{sc:Scope}{N':List Str}{sel:List (Option Nat)}{cl:List (Str×Addr)}{pins:List (Addr×Obj)}{σ:St}{H:Hp}{s:Ae}{fp:List Addr}
theorem zm7{h':Heap}{ob:Obj}{tk:Nat}(B:BlkOk osc N sc N' sel)(ho:X.env.scope=osc)(hN:X.N=N)(Cl:Clo X.env sc cl)(I:Inv X pins σ H s)
    (f:∀b∈fp,FpOk X pins H b) (fo:∀b∈fp,∃o,s.heap.get? b=some o) (hns:h'.Ns s.heap.objs.size (λ_=>none)) (hsb:C0 s.heap.objs.size (s.heap.push ob) h') :
    Inv (blk X sc cl s.heap.objs.size N' s H fp) [] (selSt sel σ) H { s with heap:=h',toks:=tk }:=by
  have old:∀b o,s.heap.get? b=some o->h'.get? b=some o:=λb o e=>(hsb.2 b (AK (Aq e))).trans (Ag _ e)
  have bel:∀b∈fp,b<s.heap.objs.size:=λb hb=>by obtain⟨o,e⟩:=fo b hb;exact Aq e
  have kk:∀x,(Ch sc cl s.heap.objs.size X.env).kindOf x=some .cell∨(Ch sc cl s.heap.objs.size X.env).kindOf x=some .free->(x,A7)∈sc.names:=λx hx=>by
    rcases hx with hx |hx
    . obtain⟨k',m,e⟩:=zbg hx;rcases e with e |⟨_,e⟩
      . subst e;exact absurd rfl (B.nocell _ m)
      . subst e;exact m
    . obtain⟨k',m,e⟩:=zbg hx;rcases e with e |⟨e,_⟩
      . subst e;exact m
      . cases e
  refine⟨⟨I.mod, B.kind, I.ok.glob, I.ok.blt, Ai _, λx y c e1 e2 => I.ok.inj x y c (Cl.old x c e1).1 (Cl.old y c e2).1, λx hx => Cl.has _ (kk x hx) rfl, λx c z => absurd z (by intro q; cases q), I.ok.hd, I.ok.frames, .inl rfl,
      λb hb=>⟨AK (bel b hb),λx c e=>(f b hb).2.2.2.2.1 x c (Cl.old x c e).1⟩,I.bs,Ba I.ok.bsz I.sz,λb o e hb=>?_,λb hb hs=>?_,I.stack,I.stkFree⟩,
    rfl,I.bare,Un.kept old,⟨_,hns,λj x v e1 e2 e3=>?_⟩,λx c e=>?_,I.hok.fresh (Ai _),λx c e=>I.freeC x c (Cl.old x c e).1,λp hp=>absurd (show p∈([]:List (Addr×Obj)) from hp) (by simp),I.hok.kept old,?_⟩
  . rcases (f b hb).2.2.2.1 with z |z
    . exact I.ok.noex b o e z
    . exact absurd (AM (Aq e) (Ba I.ok.bsz z)) (BM _)
  . obtain⟨_,f1,f2,_⟩:=f b hb;rcases At.mp (I.stkSub b hs) with z |z
    . exact f1 z
    . exact f2 z
  . have e2':((sel[j]?).map λo => o.bind λi => (σ[i]?).join)=some (some v) := by have:=e2;unfold selSt at this;rw[Ak]at this;exact this
    cases hj:sel[j]? with
    |none=>rw[hj]at e2';cases e2'
    |some o =>
      rw[hj]at e2'
      cases o with
      |none=>cases e2'
      |some i =>
        have e4:(σ[i]?).join=some v:=AI e2'
        have e5:σ[i]?=some (some v):=by
          cases q:σ[i]? with
          |none=>rw[q]at e4;cases e4
          |some z=>rw[q]at e4;exact congrArg some e4
        have hz:(some i,x)∈sel.zip N':=by
          refine Ah (i:=j) ?_
          rw[CH];exact⟨hj,e1⟩
        obtain⟨g1,g2⟩:=B.sel _ hz i rfl;obtain⟨m,hn,hl⟩:=I.loc;have m2:(x,A7)∈sc.names:=BK g2
        have k2:X.env.kindOf x=some .cell∨X.env.kindOf x=some .free:=by show X.env.scope.names.lookup x=_∨X.env.scope.names.lookup x=_;rw[ho];exact B.free _ m2 rfl
        have v2:Vis X.env.scope x:=by
          rcases k2 with z |z
          . exact .inr (.inl z)
          . exact .inr (.inr z)
        obtain⟨u,r,l⟩:=hl i x v (by rw[hN];exact g1) e5 v2;refine⟨u,r,?_⟩;rcases l with⟨l,_⟩ |⟨_,c,e6,hc⟩
        . rcases k2 with z |z <;> (rw[l]at z;cases z)
        . obtain⟨c',hc'⟩:=Cl.has _ m2 rfl;have e7:=(Cl.old x c' hc').1;rw[e6]at e7
          cases e7
          exact .inr ⟨zbl g2,c,hc',hc.keeps old⟩
  . obtain⟨v,hc⟩:=I.cell x c (Cl.old x c e).1;exact⟨v,hc.keeps old⟩
  . show (selSt sel σ).length=N'.length;unfold selSt;rw[Af,B.len]
theorem znc{C:Addr}{H':Hp}{σ':St}{s':Ae}(I:Inv X pins σ H s)(f:∀b∈fp,FpOk X pins H b)(I':Inv (blk X sc cl C N' s H fp) [] σ' H' s'):Inv X pins σ H' s' :=
 I.call' (ch:=fp) I'.os I'.base I'.hok I'.bare λb hb=>by obtain⟨_,f1,_,f3,f4,f5⟩:=f b hb;exact⟨f3,f1,f4,f5⟩
end
section
variable {X:Cx}
noncomputable def zcx(p:Addr)(te:TE):TS:=λD σ H=>te σ H λv H1=>∃xs,H1 p=some (.lst xs)/\xs.length<sizeLine/\D.nx σ (upd H1 p (.lst (xs++[v])))
theorem zhR {p:Addr}{elt:Expr}{te:TE}(he:PE X elt te):PB X (do let _ <- call (.builtin "list.append") [.ref p,<- eval elt X.env]) (zcx p te):=by intro pins s σ H D I h;refine Ac (thn (he pins s σ H _ I h) λv s1 ⟨x,H1,I1,r1,xs,e1,hl,q⟩=>?_);refine Ac (thn (zbD pins s1 σ H1 (.ref p) [x] (.ref p) [v] (λz H2=>D.nx σ H2) I1 rfl (.cons r1 .nil) ⟨p,xs,x,rfl,rfl,e1,hl,q⟩) λu s2 ⟨z,H2,I2,_,q2⟩=>?_);exact Am ⟨σ,H2,I2,q2⟩
noncomputable def zik(p:Addr)(tk tv:TE):TS:=λD σ H=>tk σ H λy H1=>tv σ H1 λv H2=>∃H3,DPut H2 p y v H3/\D.nx σ H3
theorem d_set{pins:List (Addr × Obj)}{σ : St}{H H':Hp}{s:Ae}{a:Addr}{y v:V}{u r:Ab}{A:AS}{E:Ab -> Ae -> Prop}{Q:Unit -> Ae -> Prop}(hu:A.units + 1 < cLine)(I:Inv X pins σ H s)(g:DPut H a y v H')(ry:RelV y u)(rv:RelV v r)(h:∀s', Inv X pins σ H' s' -> Q () s') :
  As (Az X.prog X.w) A (dictSet a u r) Q E s:=by
 rcases g with⟨kvs,k,e,ey,l,eH⟩ |⟨kvs,k,b,e,ey,eb,l,eH⟩
 .subst ey eH;obtain⟨z,hd,vs,rel,dd⟩:=dk_of I.hok e;have hz:vs.length<=sizeLine:=by rw[<- rel.length];exact z
  have hl:(putK kvs k v).length<=sizeLine:=by have:=za6 kvs k v;lia
  refine wpAny_dictSet_pairs (hsz:=hz) (kV_is ry) dd λh' dd' hs=>h _ ?_
  have he:∃q,h'.get? a=some q:=let ⟨q,_,_,hq,_⟩:=dd';⟨q,hq⟩
  exact zeR I (by rw[e];exact True.intro) hs he (zmp hl hd (rel.put k rv) dd')
 .subst ey eH
  cases (show u=Ay b from ry)
  obtain⟨z,hd,xs,rel,dd⟩:=dt_of I.hok e;have hz:xs.length<=sizeLine:=by rw[<- Dw rel];exact z
  have hl:(putK kvs k v).length<=sizeLine:=by have:=za6 kvs k v;lia
  have hr:(tupleKind (zaR X.prog X.w)).room A:=by show A.units<cLine;lia
  refine wpAny_dictSet_heap (hsz:=hz) hr (zfA I.hok eb) dd λh' dd' hs=>h _ ?_
  obtain⟨q,es,ep,hq,h2,h3,h4,_,h5⟩:=dd';refine zeR I (by rw[e];exact True.intro) hs ⟨q,hq⟩ ⟨hl,hd,_,(rel.put k eb rv).keeps λc ys ec=>?_,q,es,ep,hq,h2,h3,h4,h5⟩;rw[zam (ne_of ec e (λz=>nomatch z))];exact ec
theorem zmS{p:Addr}{kx vx:Expr}{tk tv:TE}(hu:X.A.units + 1 < cLine)(hk:PE X kx tk)(hv:PE X vx tv) :
    PB X (do
        let kv <- eval kx X.env
        let vv <- Dr [kv] (eval vx X.env)
        match Ay p with
        |.ref d=>do
          standAt { kx.pos with endLine:=vx.pos.endLine,endCol:=vx.pos.endCol }
          Dr [kv,vv] (dictSet d kv vv)
        |_=>unsupported "internal:dictcomp") (zik p tk tv):=by
  intro pins s σ H D I h;refine Ac (thn (hk pins s σ H _ I h) λkv s1 ⟨y,H1,I1,r1,q1⟩=>?_);refine Ac (Be (thn (hv pins s1 σ H1 _ I1 q1) λvv s2 ⟨v,H2,I2,r2,H3,g,q⟩=>?_));refine Ac (Cm (Be (d_set hu I2 g r1 r2 λs3 I3=>⟨σ,H3,I3,q⟩)))
end
section
variable {X:Cx}{osc:Scope}{N:List Str}{sc:Scope}{N':List Str}{sel:List (Option Nat)}{pos:Pos}{elt kx vx tg iter:Expr}{ifs:List Expr}{wi:TI}{g:TG}{tt:TT}{te tk tv:TE}
noncomputable def InBlk(X:Cx)(sc:Scope)(N':List Str)(P:Cx->Prop):Prop:=∀cl C s0 H0 ex,P (blk X sc cl C N' s0 H0 ex)
theorem zdy{e:Expr}{inner:Env -> Addr -> Sem Unit}{tb:Addr -> TS}{use:Option (Ab -> Sem Unit)}{pins:List (Addr × Obj)}{s:Ae}{σ : St}{H:Hp}{J:It}{it:Addr}{fp:List Addr}{tn:Nat -> Heap -> Prop}{o0:HO}{ob:Obj}
    {D:Addr->Ends} {Q:Ab->Ae->Prop}
    (B:BlkOk osc N sc N' sel) (ho:X.env.scope=osc) (hN:X.N=N) (hc:X.calm=true)
    (hstart:∀(acc:Ab) (env:Env) (R:Result->Ae->Prop) (s:Ae),CA (Az X.prog X.w) X.A (.compLoop e 0 (.ref it) acc env) R s->As (Az X.prog X.w) X.A (pyIter (.ref it)) (λit' s'=>CA (Az X.prog X.w) X.A (.compLoop e 0 it' acc env) R s') (notedBy (Az X.prog X.w) X.A env λx s'=>R (.error x) s') s->CA (Az X.prog X.w) X.A (.compStart e 0 (.ref it) acc env) R s)
    (hloop:∀cl C s0 H0 ex p pins s σ H Dn R,Inv (blk X sc cl C N' s0 H0 ex) pins σ H s->tn 0 s.heap->(∀b∈fp,FpOk (blk X sc cl C N' s0 H0 ex) pins H b)->zcw J g (tIfs tt (tb p)) Dn σ H ->
      (∀fl s',(∃ σ' H',Inv (blk X sc cl C N' s0 H0 ex) pins σ' H' s'/\(∀b∈fp,H' b=none)/\Dn.nx σ' H')->R (.ok fl) s')->CA (Az X.prog X.w) X.A (.compLoop e 0 (.ref it) (.ref p) (Ch sc cl C X.env)) R s)
    (I:Inv X pins σ H s) (T:Turn X.prog X.w X.K tg J fp it tn) (st:tn 0 s.heap) (f:∀b∈fp,FpOk X pins H b)
    (hnew:ObjOk X.prog X.w (upd H s.heap.objs.size o0) (s.heap.push ob) s.heap.objs.size o0) (hfree:ob.isFreed=false)
    (h:zcw J g (tIfs tt (tb s.heap.objs.size)) (D s.heap.objs.size) (selSt sel σ) (upd H s.heap.objs.size o0))
    (hend:∀C H' s',Inv X pins σ H' s'->FpOk X pins H' C->(∃m,s'.heap.Ns C m)->(∃ σ',(D s.heap.objs.size).nx σ' H')->compPost (Az X.prog X.w) X.A X.xe use Q (.ref s.heap.objs.size) C (.ok .next) s') (tk:Nat)
    (cl:List (Str×Addr)) (Cl:Clo X.env sc cl) (E:Ab->Ae->Prop) :
    As (Az X.prog X.w) X.A (newFunctionEnv sc X.env.globals cl [] X.env.qual none .none (some X.env)) (λcenv s₄ =>
        CA (Az X.prog X.w) X.A (.compStart e 0 (.ref it) (.ref s.heap.objs.size) { cenv with scope:=relabel sc X.env }) (compPost (Az X.prog X.w) X.A X.xe use Q (.ref s.heap.objs.size) cenv.locals) s₄) E { s with heap:=s.heap.push ob,toks:=tk }:=by
  have grow:∀b o,s.heap.get? b=some o->(s.heap.push ob).get? b=some o:=λ_ _ q=>Ag _ q
  have I1:Inv X pins σ (upd H s.heap.objs.size o0) { s with heap:=s.heap.push ob,toks:=tk }:=I.laid grow (Ai _) hnew;have bel:∀b∈fp,∃o,s.heap.get? b=some o:=λb hb=>let ⟨o,e,_⟩:=T.obj _ _ st b hb;⟨o,e⟩
  have f1:∀b∈fp,FpOk X pins (upd H s.heap.objs.size o0) b:=λb hb=>by obtain⟨o,e⟩:=bel b hb;refine⟨?_,(f b hb).2⟩;rw[zam (AK (Aq e))];exact (f b hb).1
  refine wpAny_newFunctionEnv (s:={ s with heap:=s.heap.push ob,toks:=tk }) B.nocell (by intro x hx;cases hx) (λh1 hns hsb=>?_) B.kind;have I2:=zm7 (tk:=tk) B ho hN Cl I1 f1 (λb hb=>let ⟨o,e⟩:=bel b hb;⟨o,grow b o e⟩) hns hsb;have old:∀b o,s.heap.get? b=some o->h1.get? b=some o:=λb o e=>(hsb.2 b (AK (Aq (grow b o e)))).trans (Ag _ (grow b o e))
  have st1:tn 0 h1:=T.keep _ _ _ st λb _ o e=>old b o e
  have f2:∀b∈fp,FpOk (blk X sc cl (s.heap.push ob).objs.size N' { s with heap:=s.heap.push ob,toks:=tk } (upd H s.heap.objs.size o0) fp) [] (upd H s.heap.objs.size o0) b:=λb hb=>by
    obtain⟨g0,g1,g2,g3,g4,g5⟩:=f1 b hb;obtain⟨o,e⟩:=bel b hb;refine⟨g0,AK (Aq (grow b o e)),λz=>?_,.inl hb,λx c e=>g4 x c (Cl.old x c e).1,λp hp=>absurd (show p∈([]:List (Addr×Obj)) from hp) (by simp)⟩;rcases At.mp (I1.stkSub b z) with q |q
    . exact g1 q
    . exact g2 q
  have loop:=hloop cl _ _ _ _ s.heap.objs.size [] _ _ _ (D s.heap.objs.size) (compPost (Az X.prog X.w) X.A X.xe use Q (.ref s.heap.objs.size) (s.heap.push ob).objs.size) I2 st1 f2 h λfl s' ⟨σ',H',I',fr',q'⟩=>by
    have I3:=znc I1 f1 I';have hC:FpOk X pins H' (s.heap.push ob).objs.size:=I1.fpOk (Ai _) I'.free;obtain⟨m,hn,_⟩:=I'.loc;have:=hend _ H' s' I3 hC ⟨m,hn⟩ ⟨σ',q'⟩
    cases use <;> exact this
  exact hstart _ _ _ _ loop (T.self _ 0 _ _ _ st1 loop)
end
section
variable {X:Cx}{osc:Scope}{N:List Str}{sc:Scope}{N':List Str}{sel:List (Option Nat)}{pos:Pos}{elt kx vx tg iter:Expr}{ifs:List Expr}{wi:TI}{g:TG}{tt:TT}{te tk tv:TE}
theorem zfC{it:Addr}{fp:List Addr}{tn:Nat -> Heap -> Prop}{J:It}(T:Turn X.prog X.w X.K tg J fp it tn)(hc:X.calm=true)(hg:InBlk X sc N' λY => PG Y tg g)(ht:InBlk X sc N' λY => PTs Y ifs tt)(he:InBlk X sc N' λY => PE Y elt te) :
  ∀cl C s0 H0 ex p pins s σ H Dn R,Inv (blk X sc cl C N' s0 H0 ex) pins σ H s->tn 0 s.heap->(∀b∈fp,FpOk (blk X sc cl C N' s0 H0 ex) pins H b)->zcw J g (tIfs tt (zcx p te)) Dn σ H ->
   (∀fl s',(∃ σ' H',Inv (blk X sc cl C N' s0 H0 ex) pins σ' H' s'/\(∀b∈fp,H' b=none)/\Dn.nx σ' H')->R (.ok fl) s')->CA (Az X.prog X.w) X.A (.compLoop (.ListComp elt [⟨tg,iter,ifs,0⟩] sc pos) 0 (.ref it) (.ref p) (Ch sc cl C X.env)) R s :=
 λcl C s0 H0 ex p pins s σ H Dn R I st f W hR =>
  zcN (X:=blk X sc cl C N' s0 H0 ex) (p:=iter.pos) (inner:=do let _ <- call (.builtin "list.append") [.ref p,<- eval elt (Ch sc cl C X.env)]) rfl rfl rfl (λB {α t Q E s} h w=>by subst h;exact w) hc rfl (hg _ _ _ _ _) (ht _ _ _ _ _) (zhR (he _ _ _ _ _)) I T st f W hR
noncomputable def zgJ(wi:TI)(sel:List (Option Nat))(g:TG)(tt:TT)(te:TE):TE:=λσ H Q=>wi σ H λJ H1=>∀p,H1 p=none ->
 zcw J g (tIfs tt (zcx p te)) { nx:=λ_ H'=>Q (.ref p) H',rt:=λ_ _=>False } (selSt sel σ) (upd H1 p (.lst []))
theorem Inv.let_go{pins:List (Addr×Obj)}{σ:St}{H:Hp}{s:Ae}{C:Addr}{h':Heap}(I:Inv X pins σ H s)(f:FpOk X pins H C)(hs:C0 C s.heap h'):Inv X pins σ H { s with heap:=h' }:=by obtain⟨f0,f1,_,f3,f4,f5⟩:=f;exact I.turned (t':=s.toks) (λb o hb e=>(hs.2 b hb).trans e) f0 f1 f3 f4 f5
theorem zgk {P:AH}{w:A1}{H:Hp}{h:Heap}:ObjOk P w (upd H h.objs.size (.lst [])) (h.push { cls:=.type "list",dict:=none,data:=.seq ([]:List Ab).toArray }) h.objs.size (.lst []) :=
 ⟨Bj _,[],_,.nil,AD _ rfl⟩
theorem zaM(B:BlkOk osc N sc N' sel)(hi:PI X tg iter wi)(hg:InBlk X sc N' λY => PG Y tg g)(ht:InBlk X sc N' λY => PTs Y ifs tt)(he:InBlk X sc N' λY => PE Y elt te)
  (ho:X.env.scope=osc:=by rfl) (hN:X.N=N:=by rfl) (hc:X.calm=true:=by rfl) (hs:∀x,Bi iter X.env x=pure x:=by intro _;rfl) :
  PE X (.ListComp elt [⟨tg,iter,ifs,0⟩] sc pos) (zgJ wi sel g tt te):=by
 intro pins s σ H Q I h;obtain⟨cl,Cl⟩:=zi4 I.ok B ho;rw[eval_ListComp];refine B8 (use:=none) rfl hs Cl.run B.kind B.names (thn (hi pins s σ H _ I h) λv s1 h1=>thn h1 λitv s2 h2=>?_);obtain⟨it,fp,tn,J,H2,e,I2,T,st2,f2,h2⟩:=h2;subst e
 refine Bh (zdy (e:=.ListComp elt [⟨tg,iter,ifs,0⟩] sc pos) (inner:=λ_ _=>pure ()) (D:=λp=>{ nx:=λ_ H'=>Q (.ref p) H',rt:=λ_ _=>False }) (tb:=λp=>zcx p te) (use:=none) B ho hN hc (λacc env R s a b=>C4 a b)
  (zfC (iter:=iter) (pos:=pos) T hc hg ht he) I2 T st2 f2 zgk rfl (h2 _ (I2.hok.fresh (Ai _))) (λC H' s' I3 fC hn hq=>?_) s2.toks cl Cl X.xe)
 obtain⟨m,hn⟩:=hn;obtain⟨_,hq⟩:=hq;exact⟨m,hn,λh' hs'=>⟨.ref s2.heap.objs.size,H',I3.let_go fC hs',rfl,hq⟩⟩
noncomputable def znt(wi:TI)(sel:List (Option Nat))(g:TG)(tt:TT)(te:TE)(i:Nat):TS:=λD σ H=>wi σ H λJ H1=>∀p,H1 p=none ->
 zcw J g (tIfs tt (zcx p te)) { nx:=λ_ H'=>D.nx (σ.set i (some (.ref p))) H',rt:=λ_ _=>False } (selSt sel σ) (upd H1 p (.lst []))
theorem zd8{i:Nat}{x:Str}{px spos:Pos}(B:BlkOk osc N sc N' sel)(hnd:X.N.Nodup)(hi':X.N[i]? = some x)(hx:Loc X.env.scope x)(hi:PI X tg iter wi)(hg:InBlk X sc N' λY => PG Y tg g)(ht:InBlk X sc N' λY => PTs Y ifs tt)(he:InBlk X sc N' λY => PE Y elt te)
  (hsw:swapsWith (.ListComp elt [⟨tg,iter,ifs,0⟩] sc pos) (some (.Name x px)) spos.line X.env=pure true:=by rfl)
  (ho:X.env.scope=osc:=by rfl) (hN:X.N=N:=by rfl) (hc:X.calm=true:=by rfl) (hs:∀x,Bi iter X.env x=pure x:=by intro _;rfl)
  (hf:X.fn x=true∨X.env.scope.names.lookup x=some .local:=by first |exact .inl rfl |exact .inr rfl |assumption) :
  PS X (.Assign [.Name x px] (.ListComp elt [⟨tg,iter,ifs,0⟩] sc pos) spos) (znt wi sel g tt te i):=by
 intro pins s σ H D I h;obtain⟨cl,Cl⟩:=zi4 I.ok B ho;rw[exec_Assign_Name_used _ _ _ _ hsw];refine Ac (Cm (Ac ?_));show As _ X.A (do let _ <- comprehension (.ListComp elt [⟨tg,iter,ifs,0⟩] sc pos) sc X.env _ (newList []) false (eval iter X.env) (some (assign (.Name x px) X.env))) _ _ s;refine Ac (thn (B8 (use:=some (assign (.Name x px) X.env)) (Q:=λ_ s'=>SP X pins D .next s') rfl hs Cl.run B.kind B.names (thn (hi pins s σ H _ I h) λv s1 h1=>thn h1 λitv s2 h2=>?_)) λ_ s' hq=>Am (Am hq));obtain⟨it,fp,tn,J,H2,e,I2,T,st2,f2,h2⟩:=h2;subst e
 refine Bh (zdy (e:=.ListComp elt [⟨tg,iter,ifs,0⟩] sc pos) (inner:=λ_ _=>pure ()) (D:=λp=>{ nx:=λ_ H'=>D.nx (σ.set i (some (.ref p))) H',rt:=λ_ _=>False }) (tb:=λp=>zcx p te) (use:=some (assign (.Name x px) X.env)) B ho hN hc (λacc env R s a b=>C4 a b)
  (zfC (iter:=iter) (pos:=pos) T hc hg ht he) I2 T st2 f2 zgk rfl (h2 _ (I2.hok.fresh (Ai _))) (λC H' s' I3 fC hn hq=>?_) s2.toks cl Cl X.xe)
 obtain⟨m,hn⟩:=hn;obtain⟨_,hq⟩:=hq;show As _ X.A (assign (.Name x px) X.env (.ref s2.heap.objs.size)) _ _ _;refine wpAny_assign_Name (zeh I3 hnd hi' hx (v:=.ref s2.heap.objs.size) rfl (λs4 I4 hch=>?_) hf);obtain⟨a,sb,ha⟩:=hch
 have nC:C≠a:=by
  rcases ha with z |z
  .rw[z];exact fC.2.1
  .exact λq=>fC.2.2.2.2.1 x a z q.symm
 refine⟨m,hn.sameBut sb nC,λh' hs'=>⟨_,H',I4.let_go fC hs',hq⟩⟩
theorem zjz{it:Addr}{fp:List Addr}{tn:Nat -> Heap -> Prop}{J:It}(hu:X.A.units + 1 < cLine)(T:Turn X.prog X.w X.K tg J fp it tn)(hc:X.calm=true)(hg:InBlk X sc N' λY => PG Y tg g)(ht:InBlk X sc N' λY => PTs Y ifs tt)(hk:InBlk X sc N' λY => PE Y kx tk)(hv:InBlk X sc N' λY => PE Y vx tv) :
  ∀cl C s0 H0 ex p pins s σ H Dn R,Inv (blk X sc cl C N' s0 H0 ex) pins σ H s->tn 0 s.heap->(∀b∈fp,FpOk (blk X sc cl C N' s0 H0 ex) pins H b)->zcw J g (tIfs tt (zik p tk tv)) Dn σ H ->
   (∀fl s',(∃ σ' H',Inv (blk X sc cl C N' s0 H0 ex) pins σ' H' s'/\(∀b∈fp,H' b=none)/\Dn.nx σ' H')->R (.ok fl) s')->CA (Az X.prog X.w) X.A (.compLoop (.DictComp kx vx [⟨tg,iter,ifs,0⟩] sc pos) 0 (.ref it) (.ref p) (Ch sc cl C X.env)) R s :=
 λcl C s0 H0 ex p pins s σ H Dn R I st f W hR =>
  zcN (X:=blk X sc cl C N' s0 H0 ex) (p:=iter.pos) rfl rfl rfl (λB {α t Q E s} h w=>by subst h;exact w) hc rfl (hg _ _ _ _ _) (ht _ _ _ _ _) (zmS (X:=blk X sc cl C N' s0 H0 ex) hu (hk _ _ _ _ _) (hv _ _ _ _ _)) I T st f W hR
noncomputable def zno(wi:TI)(sel:List (Option Nat))(g:TG)(tt:TT)(tk tv:TE):TE:=λσ H Q=>wi σ H λJ H1=>∀p,H1 p=none ->
 zcw J g (tIfs tt (zik p tk tv)) { nx:=λ_ H'=>Q (.ref p) H',rt:=λ_ _=>False } (selSt sel σ) (upd H1 p (.dT []))
theorem zlD(hu:X.A.units + 1 < cLine)(B:BlkOk osc N sc N' sel)(hi:PI X tg iter wi)(hg:InBlk X sc N' λY => PG Y tg g)(ht:InBlk X sc N' λY => PTs Y ifs tt)(hk:InBlk X sc N' λY => PE Y kx tk)(hv:InBlk X sc N' λY => PE Y vx tv)
  (ho:X.env.scope=osc:=by rfl) (hN:X.N=N:=by rfl) (hc:X.calm=true:=by rfl) (hs:∀x,Bi iter X.env x=pure x:=by intro _;rfl) :
  PE X (.DictComp kx vx [⟨tg,iter,ifs,0⟩] sc pos) (zno wi sel g tt tk tv):=by
 intro pins s σ H Q I h;obtain⟨cl,Cl⟩:=zi4 I.ok B ho;show As _ X.A (comprehension (.DictComp kx vx [⟨tg,iter,ifs,0⟩] sc pos) sc X.env _ newDict false (eval iter X.env)) _ _ s;refine B8 (use:=none) rfl hs Cl.run B.kind B.names (thn (hi pins s σ H _ I h) λv s1 h1=>thn h1 λitv s2 h2=>?_);obtain⟨it,fp,tn,J,H2,e,I2,T,st2,f2,h2⟩:=h2;subst e
 refine Bh (zdy (e:=.DictComp kx vx [⟨tg,iter,ifs,0⟩] sc pos) (inner:=λ_ _=>pure ()) (D:=λp=>{ nx:=λ_ H'=>Q (.ref p) H',rt:=λ_ _=>False }) (tb:=λp=>zik p tk tv) (use:=none) B ho hN hc (λacc env R s a b=>codeAny_compStart_dict a b)
  (zjz (iter:=iter) (pos:=pos) hu T hc hg ht hk hv) I2 T st2 f2 (zi1 s2.heap I2.big) rfl (h2 _ (I2.hok.fresh (Ai _))) (λC H' s' I3 fC hn hq=>?_) s2.toks cl Cl X.xe)
 obtain⟨m,hn⟩:=hn;obtain⟨_,hq⟩:=hq;exact⟨m,hn,λh' hs'=>⟨.ref s2.heap.objs.size,H',I3.let_go fC hs',rfl,hq⟩⟩
end
mutual
inductive RD (K:W.Frag) (H:Hp):V->PyData->Prop where
 |non:RD K H .non .none
 |bl (b:Bool):RD K H (.bl b) (.bool b)
 |int (i:Int):RD K H (.int i) (.int i)
 |str (x:Str):RD K H (.str x) (.str x)
 |lst {a:Addr} {xs:List V} {ds:List PyData}:SqL K H a xs->RDs K H xs ds->RD K H (.ref a) (.list ds)
 |tup {a:Addr} {xs:List V} {ds:List PyData}:SqT K H a xs->RDs K H xs ds->RD K H (.ref a) (.tuple ds)
inductive RDs (K:W.Frag) (H:Hp):List V->List PyData->Prop where
 |nil:RDs K H [] []
 |cons {x:V} {xs:List V} {d:PyData} {ds:List PyData}:RD K H x d->RDs K H xs ds->RDs K H (x::xs) (d::ds)
end
section
variable {X:Cx}{pins:List (Addr×Obj)}{σ:St}{H:Hp}{s:Ae}
mutual
theorem Inv.reads(I:Inv X pins σ H s):∀{v:V}{d:PyData}{u:Ab},RD X.K H v d->RelV v u->∃as,Reads s.heap u d as
 |_,_,_,.non,r=>by cases (show _=Value.none from r);exact⟨_,.none⟩
 |_,_,_,.bl b,r=>by cases (show _=Value.bool b from r);exact⟨_,.bool b⟩
 |_,_,_,.int i,r=>by obtain⟨t,rfl⟩:=r;exact⟨_,.int i t⟩
 |_,_,_,.str x,r=>by obtain⟨t,rfl⟩:=r;exact⟨_,.str x t⟩
 |_,_,_,.lst (a:=a) hq hs,r=>by
  cases (show _=Ay a from r)
  obtain⟨its,rv,p,hz⟩:=I.list hq;obtain⟨as,ra⟩:=I.readsAll hs rv;obtain⟨o,ho,hc,n,hd⟩:=p.isList;exact⟨_,.list ho hc hd (by simpa using ra)⟩
 |_,_,_,.tup (a:=a) hq hs,r=>by
  cases (show _=Ay a from r)
  obtain⟨its,rv,p,hz⟩:=I.tuple hq;obtain⟨as,ra⟩:=I.readsAll hs rv;obtain⟨o,ho,hc,n,hd⟩:=p;exact⟨_,.tuple ho hc hd (by simpa using ra)⟩
theorem Inv.readsAll(I:Inv X pins σ H s):∀{vs:List V}{ds:List PyData}{us:List Ab},RDs X.K H vs ds->Vals vs us->∃as,ReadsAll s.heap us ds as
 |_,_,_,.nil,r=>by cases r;exact⟨_,.nil⟩
 |_,_,_,.cons h t,.cons r rr=>by
  obtain⟨as,h1⟩:=I.reads h r;obtain⟨bs,h2⟩:=I.readsAll t rr;exact⟨_,.cons h1 h2⟩
end
end
theorem RDs.ints{K:W.Frag}{H:Hp}:∀(ns:List Int),RDs K H (ns.map V.int) (ns.map C5)
 |[]=>.nil
 |n::r=>.cons (.int n) (RDs.ints r)
mutual
theorem RD.mono{K:W.Frag}{H H':Hp}(hl:∀a xs,SqL K H a xs->SqL K H' a xs)(ht:∀a xs,SqT K H a xs->SqT K H' a xs):∀{v:V}{d:PyData},RD K H v d->RD K H' v d
 |_,_,.non=>.non
 |_,_,.bl b=>.bl b
 |_,_,.int i=>.int i
 |_,_,.str x=>.str x
 |_,_,.lst h t=>.lst (hl _ _ h) (RDs.mono hl ht t)
 |_,_,.tup h t=>.tup (ht _ _ h) (RDs.mono hl ht t)
theorem RDs.mono{K:W.Frag}{H H':Hp}(hl:∀a xs,SqL K H a xs->SqL K H' a xs)(ht:∀a xs,SqT K H a xs->SqT K H' a xs):∀{v:List V}{d:List PyData},RDs K H v d->RDs K H' v d
 |_,_,.nil=>.nil
 |_,_,.cons h t=>.cons (RD.mono hl ht h) (RDs.mono hl ht t)
end
noncomputable def rEqD(K:W.Frag):R2:=λx y H Q=>∃d e,RD K H x d/\RD K H y e/\Bl d=true/\Bl e=true/\Q (.bl (Cf d e)) H
noncomputable def rNeD(K:W.Frag):R2:=λx y H Q=>∃d e,RD K H x d/\RD K H y e/\Bl d=true/\Bl e=true/\Q (.bl (!PyData.eqv d e)) H
section
variable {X:Cx}
theorem zfy(hu:X.A.units+64<cLine):OpR X (Bs .Eq) (rEqD X.K):=by intro pins s σ H x y v u Q I rx ry h;obtain⟨d,e,hd,he,sd,se,q⟩:=h;obtain⟨as,ra⟩:=I.reads hd rx;obtain⟨bs,rb⟩:=I.reads he ry;exact SeqAt.compareEq_shaped ra rb sd se hu ⟨.bl _,H,I,rfl,q⟩
theorem zgY(hu:X.A.units+64<cLine):OpR X (Bs .NotEq) (rNeD X.K):=by intro pins s σ H x y v u Q I rx ry h;obtain⟨d,e,hd,he,sd,se,q⟩:=h;obtain⟨as,ra⟩:=I.reads hd rx;obtain⟨bs,rb⟩:=I.reads he ry;exact SeqAt.compareNe_shaped ra rb sd se hu ⟨.bl _,H,I,rfl,q⟩
theorem zhh{ds:List PyData}(h:∀e∈ds,Bl e=true):CL ds=true:=by
 induction ds with
 |nil=>rfl
 |cons d r ih=>rw[CL,SeqAt.canLay_of_shaped (h d AE),ih λe he=>h e (Au _ he)];rfl
theorem zdb:∀ns ms:List Int,PyData.eqvAll (ns.map C5) (ms.map C5)=decide (ns=ms)
 |[],[]=>rfl
 |[],_::_=>rfl
 |_::_,[]=>rfl
 |n::r,m::t=>by
  show (n == m && PyData.eqvAll (r.map C5) (t.map C5))=_;rw[zdb r t]
  by_cases e:n=m
  .subst e;by_cases e2:r=t <;> simp[e2]
  .simp[e]
theorem zbv:∀ns:List Int,PyData.depthAll (ns.map C5)=0
 |[]=>rfl
 |n::r=>by show max 0 (PyData.depthAll (r.map C5))=0;rw[zbv r];rfl
theorem zb8:∀ns:List Int,CL (ns.map C5)=true
 |[]=>rfl
 |n::r=>by show (true && CL (r.map C5))=true;rw[zb8 r];rfl
noncomputable def tI(ns:List Int):PyData:=.tuple (ns.map .int)
theorem zcv(ns ms:List Int):Cf (tI ns) (tI ms)=decide (ns=ms):=zdb ns ms
theorem zav(ns:List Int):Bl (tI ns)=true:=by unfold Bl tI;rw[Cw,zb8,Bt,zbv];rfl
end
section
variable {prog:AH}{w:A1}{A:AS}{E:Ab->Ae->Prop}{s:Ae}
end
section
variable {X:Cx}{pos:Pos}
noncomputable def CDivB(i j:Int):Prop:=0<j/\j.natAbs.log2<9000
theorem zd9:OpR X (Cs .FloorDiv) (rI CDivB λi j=>.int (i / j)):=opI λi j _ _ _ _ _ hc q=>by have e:i.fdiv j=i / j:=Int.fdiv_eq_ediv_of_nonneg i (Int.le_of_lt hc.1);rw[<- e]at q;exact floordiv_int (by have:=hc.1;lia) q (.inl (PyProof.noPylong_of_log2 hc.2))
theorem zlb (hh:X.calm=true):CallR X (.builtin "all") (λxs H Q=>∃(p:Addr) (bs:List Bool),xs=[.ref p]/\SqL X.K H p (bs.map V.bl)/\Q (.bl (bs.all id)) H):=by
 intro pins s σ H xs us Q I r h;obtain⟨p,bs,rfl,hq,q⟩:=h;obtain⟨u,rfl,ru⟩:=vals1 r
 cases (show u=Ay p from ru)
 obtain⟨its,rv,pl,hz⟩:=I.list hq;have hlp:p<s.heap.objs.size:=by obtain⟨o,ho,_⟩:=pl.isList;exact Aq ho
 have hlen:its.length=bs.length:=by have:=rv.length;simpa using this.symm
 refine call_all_walk (Dh pl.isList ?_);refine⟨_,_,_,_,_,_,λi=>bs.getD i true,rfl,DJ (A:=X.A.in1) (I.ok.hd hh) s.heap.objs.size p (AK hlp) its.toArray,⟨⟨_,AD _ rfl,rfl,rfl⟩,pl.isList.push _⟩,?_,λh' tk hk=>?_⟩
 .intro i v s1 Q1 E1 hv hQ;have hv':its[i]?=some v:=by simpa using hv
  have hi:i<its.length:=(Ad.mp hv').1;obtain⟨w',hw,rw'⟩:=rv.get (i:=i) (x:=V.bl (bs[i]'(by lia))) (by simp[Aa,show i<bs.length by lia]);rw[hv']at hw
  cases hw
  cases (show v=Value.bool _ from rw')
  refine BD ?_
  have e:bs.getD i true=bs[i]'(by lia):=by simp[Ar,show i<bs.length by lia]
  rw[<- e];exact hQ
 .have I1:Inv X pins σ H { s with heap:=h',toks:=tk }:=I.kept λb o e=>hk b o (by simp;exact AK (Aq e)) (Ag _ e)
  refine⟨.bl _,H,I1,rfl,?_⟩
  have e:(AJ its.toArray.size).all (λi=>bs.getD i true)=bs.all id:=by
   rw[show its.toArray.size=bs.length by simpa using hlen];rw[BN];simp only[List.all_eq_true,List.mem_range,id];constructor
   .intro h b hb;obtain⟨i,hi,e⟩:=AQ hb;have:=h i hi;simpa[Ar,hi,e]using this
   .intro h i hi;have:=h bs[i] (AW hi);simpa[Ar,hi]using this
  rw[e];exact q
end
section
variable {X:Cx}
end
end L2
namespace HT
open PySem PyProof.Rows
noncomputable def lexLe:List Int->List Int->Bool
 |[],[]=>true
 |[],_::_=>true
 |_::_,[]=>false
 |x::xs,y::ys=>if x=y then lexLe xs ys else decide (x<=y)
theorem zfz(x y:Int)(xs ys:List Int):lexLe (x::xs) (y::ys)=if x=y then lexLe xs ys else decide (x<=y):=rfl
theorem zgo:lexLe [] []=true:=rfl
theorem zfc(y:Int)(ys:List Int):lexLe [] (y::ys)=true:=rfl
theorem zfd(x:Int)(xs:List Int):lexLe (x::xs) []=false:=rfl
theorem zlz(A:AS)(s:Ae)(a:Int)(t:Tok)(c:Int)(u:Tok)(prog:AH)(w:A1)(E:Ab -> Ae -> Prop)(Q:Ab -> Ae -> Prop)(h:Q (.bool (decide (a <= c))) s) :
  As (Az prog w) A (richCompare .LtE (.int a t) (.int c u)) Q E s :=
 (PyProof.Rows.le_int h:As (Az prog w) A (Bs .LtE (.int a t) (.int c u)) Q E s)
section
open PySem.SeqAt
open PySem.AutoSeq1 (wpAny_loadPart')
open PySem.MeetsSeq PySem.MeetsSeq2 PySem.MeetsSeq3
theorem zfN(l b:Addr)(items items2:Array Ab)(n n2:Nat)(dd dd2:Option Addr)(sl sl2:Array (Option Ab))(ns ms:List Int)(hi:Cj items.toList ns)(hj:Cj items2.toList ms) :
  Meets (Builtin.«tuple.__le__» ⟨[.ref l,.ref b],[]⟩)
   (λ_ R s=>s.heap.get? l=some { cls:=.type "tuple",dict:=dd,data:=.seq items n,slots:=sl }/\s.heap.get? b=some { cls:=.type "tuple",dict:=dd2,data:=.seq items2 n2,slots:=sl2 } /\
    R (.ok (.ret (.bool (lexLe ns ms)))) s) :=
 .of_wp λprog w A R s h=>by
  obtain⟨hp,g,d,tk,os⟩:=s;obtain⟨hl,hb,h⟩:=h;have f2:=AutoSeq1.sub_tuple_tuple;have z1:items.size=ns.length:=by rw[<- hi.length];simp
  have z2:items2.size=ms.length:=by rw[<- hj.length];simp
  wp_walk using BY hl,BY hb,wpAny_forIn_list _ (λrest b s'=>b.1=none/\s'=⟨hp,g,d,tk,os⟩/\∃(vs ws:List Ab) (ns' ms':List Int),rest=vs.zip ws /\
   Cj vs ns'/\Cj ws ms'/\ns'.length+items2.size=ms'.length+items.size/\R (.ok (.ret (.bool (lexLe ns' ms')))) ⟨hp,g,d,tk,os⟩) _
  case turn =>
   rintro⟨y,x⟩ rest b s' ⟨hb',rfl,vs,ws,ns',ms',hz,hvi,hwi,hlen,hR⟩
   cases hvi with
   |nil=>rw[List.zip_nil_left]at hz;cases hz
   |cons a t hvi' =>
    cases hwi with
    |nil=>rw[List.zip_nil_right]at hz;cases hz
    |cons c u hwi' =>
     rw[DI]at hz;injection hz with hyx hrest;injection hyx with hy hx;subst hy hx;rw[zfz]at hR;simp only[A5]at hlen;obtain⟨e,he,hiff⟩:=ziX A.in1 ⟨hp,g,d,tk,os⟩ a t c u;refine Ac (he prog w _ _ ?_)
     cases e with
     |true =>
      rw[if_pos (hiff.mp rfl)]at hR
      wp_walk
      exact⟨rfl,rfl,_,_,_,_,hrest,hvi',hwi',by lia,hR⟩
     |false =>
      rw[if_neg (λq=>absurd (hiff.mpr q) AR)]at hR;have hri:=zlz A.in1 ⟨hp,g,d,tk,os⟩ a t c u prog w
      wp_walk using hri
      exact⟨_,rfl,by simpa using hR⟩
  case fin =>
   rintro⟨b1,b2⟩ s' ⟨hb',rfl,vs,ws,ns',ms',hz,hvi,hwi,hlen,hR⟩;simp only at hb';subst hb'
   have hv:lexLe ns' ms'=decide (items.size<=items2.size):=by
    cases hvi with
    |nil =>
     cases hwi with
     |nil =>
      simp only[Ce]at hlen;rw[zgo];exact (decide_eq_true (by lia)).symm
     |cons c u hw =>
      simp only[Ce,A5]at hlen;rw[zfc];exact (decide_eq_true (by lia)).symm
    |cons a t hv =>
     cases hwi with
     |nil =>
      simp only[Ce,A5]at hlen;rw[zfd];exact (decide_eq_false (by lia)).symm
     |cons c u hw =>
      rw[DI]at hz
      cases hz
   rw[hv]at hR
   wp_walk
   exact⟨_,rfl,by simpa[Builtin.Tuple.tupleCompareSizes]using hR⟩
  case h =>
   exact⟨rfl,rfl,items.toList,items2.toList,ns,ms,rfl,hi,hj,by lia,h⟩
end
section
variable {prog:AH}{w:A1}{A:AS}{E:Ab->Ae->Prop}{s:Ae}
theorem le_tupInts{l b:Addr}{items items2:Array Ab}{ns ms:List Int}{Q:Ab -> Ae -> Prop}(hl:IsTup s.heap l items)(hb:IsTup s.heap b items2)(hi:Cj items.toList ns)(hj:Cj items2.toList ms)
  (hu:A.units<cLine) (h:Q (.bool (lexLe ns ms)) s):As (Az prog w) A (Bs .LtE (.ref l) (.ref b)) Q E s:=by
 obtain⟨⟨cls,dd,data,sl⟩,ho,hc,n,hd⟩:=id hl;obtain⟨⟨cls2,dd2,data2,sl2⟩,ho2,hc2,n2,hd2⟩:=id hb;simp only at hc hd hc2 hd2;subst hc hd hc2 hd2
 exact richCompare_meets_room (op:=.LtE) ⟨_,ho,rfl⟩ ⟨_,ho2,rfl⟩ PySem.F.slot_tuple_le PySem.F.entry_tuple_le (PySem.F.args_tuple_le_2 _ _) (zfN l b items items2 n n2 dd dd2 sl sl2 ns ms hi hj)
  ⟨ho,ho2,show Value.bool (lexLe ns ms)≠Value.notImplemented/\Q (.bool (lexLe ns ms)) s from ⟨(λx=>nomatch x),h⟩⟩ hu
end
end HT
namespace L2
open PySem PySem.Spec PyProof.Rows
section
variable {X:Cx}
noncomputable def rLeT(K:W.Frag):R2:=λx y H Q=>∃a b ns ms,x=.ref a/\y=.ref b/\SqT K H a (ns.map V.int)/\SqT K H b (ms.map V.int)/\Q (.bl (HT.lexLe ns ms)) H
theorem znH(hu:X.A.units<cLine):OpR X (Bs .LtE) (rLeT X.K):=by
 intro pins s σ H x y v u Q I rx ry h;obtain⟨a,b,ns,ms,rfl,rfl,ha,hb,q⟩:=h
 cases rx
 cases ry
 obtain⟨its,r1,p1,_⟩:=I.tuple ha;obtain⟨its2,r2,p2,_⟩:=I.tuple hb;have i1:Cj its.toArray.toList ns:=zcW r1;have i2:Cj its2.toArray.toList ms:=zcW r2;exact HT.le_tupInts p1 p2 i1 i2 hu ⟨.bl (HT.lexLe ns ms),H,I,rfl,q⟩
end
section
variable {X:Cx}
noncomputable def zmI(K:W.Frag):V->List V->Hp->VK->Prop:=λx vs H Q=>∃p xs y d ds j e,x=.ref p/\vs=[y]/\SqL K H p xs/\RD K H y d/\RDs K H xs ds/\Bl d=true/\(∀e∈ds,Bl e=true) /\
 ds[j]?=some e/\Cf e d=true/\(∀m e',m<j->ds[m]?=some e'->Cf e' d=false)/\Q (.int (j:Nat)) H
theorem zg6 (hu:X.A.units+65<cLine):MtR X "list.index" (zmI X.K):=by
 intro pins s σ H x vs v us Q I rx rv h;obtain⟨p,xs,y,d,ds,j,e,rfl,rfl,hq,hd,hds,sd,sds,hj,he,hno,q⟩:=h
 cases rx
 obtain⟨u,rfl,ru⟩:=rv.one;obtain⟨its,r,pl,hz⟩:=I.list hq;obtain⟨as,ra⟩:=I.reads hd ru;obtain⟨bs,rb⟩:=I.readsAll hds r;have hlay:=zhh sds;have hmap:=SeqAt.readsAll_map ds _ _ hlay rb;have hlen:its.length=ds.length:=by rw[<- hmap,Af]
 have hj':j<ds.length:=(Ad.mp hj).1
 have rd:∀m (hm:m<its.length),ds[m]?=some (SeqAt.readOf s.heap its[m]):=λm hm=>by rw[<- hmap,Ak,Aa hm];rfl
 obtain⟨⟨cls,dd,data,sl⟩,ho,hc,n,hdat⟩:=pl.isList;simp only at hc hdat
 subst hc hdat
 have hsz:xs.length<=sizeLine:=hz;have hl2:its.length=xs.length:=r.length.symm
 refine call_meets DN ⟨_,ho,rfl⟩ PySem.F.entry_list_index (PySem.F.args_list_index_2 _ _)
  (SeqAt.list_indexAt p its.toArray n dd sl u (λz=>Cf (SeqAt.readOf s.heap z) d) j (by simpa[hlen]using hj') (by have:=sizeLine_eq;lia) ?_ ?_)
  ⟨ho,SeqAt.items_eqAt (vs:=its.toArray) rb ra hlay (SeqAt.canLay_of_shaped sd) (PyProof.Rows.room_in_shaped sd hu),?_⟩
 .have:=rd j (by lia);rw[hj]at this;have e1:=AI this;show Cf (SeqAt.readOf s.heap its[j]) d=true;rw[<- e1];exact he
 .intro m hm hlt;have hm':m<its.length:=by simpa using hm
  exact hno m _ hlt (rd m hm')
 .exact⟨.int (j:Nat),H,I.tok _,⟨_,rfl⟩,q⟩
end
section
variable {X:Cx}{k:Nat}{f:Addr}{fd:Br}{ps:List Str}{sp:Sp}{pins:List (Addr×Obj)}{σ:St}
theorem zj8{H:Hp}{s:Ae}{Q:VK}{us:List Ab}{vs:List V}{E:Ab -> Ae -> Prop}(F:FnOk X.prog X.w X.K X.mg X.base CX0 k f fd ps sp)(hr:Room (k + 1) X.A)(hb:Binds X.K fd ps [])
  (I:Inv X pins σ H s) (r:Vals vs us) (h:sp vs H Q E0):As (Az X.prog X.w) X.A.in1 (call (.ref f) us) (EP X pins σ Q) E s:=by
 have hl:(us++[]).length=ps.length:=by rw[A3,<- r.length];exact F.len _ _ _ _ h
 have hb':=hb s us I.kIn hl;rw[A3]at hb';refine wpAny_call (Ds (F.run X.A.in1 X.stack s H ⟨us,[]⟩ us vs Q E0 hr.in1 I.env0.in1 hb' r h) λr s' hq=>?_)
 cases r with
 |error e=>exact BB hq
 |ok fl =>
  cases fl with
  |ret u=>exact I.after hq
  |next=>exact BB hq
  |brk=>exact BB hq
  |cont=>exact BB hq
theorem Inv.moved{H:Hp}{s:Ae}{b:Addr}{h':Heap}{t':Nat}(I:Inv X pins σ H s)(fb:FpOk X pins H b)(hk:∀c o,c ∉ [b]->s.heap.get? c=some o->h'.get? c=some o):Inv X pins σ H { s with heap:=h',toks:=t' } :=
 I.turned (λc o hc e=>hk c o (λz=>hc (AA.mp z)) e) fb.1 fb.2.1 fb.2.2.2.1 fb.2.2.2.2.1 fb.2.2.2.2.2
theorem FpOk.again{H H':Hp}{b:Addr}(fb:FpOk X pins H b)(hn:H' b=none):FpOk X pins H' b:=⟨hn,fb.2⟩
structure MK (X:Cx) (pins:List (Addr×Obj)) (σ:St) (H:Hp) (s:Ae) (it st l:Addr) (j:Nat) (vb kb:Ab):Prop where
 inv:Inv X pins σ H s
 fi:FpOk X pins H it
 fs:FpOk X pins H st
 ne:st≠it
 iter:s.heap.IsListIter it l j
 hold:∃c,s.heap.get? st=some (Bm "list" #[vb,kb] c)
noncomputable def Least(κ:Nat->List Int)(n i:Nat):Prop:=∀j,j<n->HT.lexLt (κ j) (κ i)=false/\(j<i->HT.lexLt (κ i) (κ j)=true)
end
end L2
namespace HT
theorem lexLt_irrefl:∀a:List Int,lexLt a a=false
 |[]=>rfl
 |x::r=>by rw[lexLt_cons,if_pos rfl];exact lexLt_irrefl r
theorem lexLt_trans:∀{a b c:List Int},lexLt a b=true->lexLt b c=true->lexLt a c=true
 |[],[],_,h,_=>by cases h
 |[],_::_,[],_,h=>by cases h
 |[],_::_,_::_,_,_=>rfl
 |_::_,[],_,h,_=>by cases h
 |_::_,_::_,[],_,h=>by cases h
 |x::a,y::b,z::c,h,g=>by
  rw[lexLt_cons]at h g ⊢
  by_cases e1:x=y
  .subst e1;rw[if_pos rfl]at h
   by_cases e2:x=z
   .subst e2;rw[if_pos rfl]at g ⊢;exact lexLt_trans h g
   .rw[if_neg e2]at g ⊢;exact g
  .rw[if_neg e1]at h;have h':x<y:=by simpa using h
   by_cases e2:y=z
   .subst e2;rw[if_neg e1];exact h
   .rw[if_neg e2]at g;have g':y<z:=by simpa using g
    rw[if_neg (by lia)];exact decide_eq_true (by lia)
theorem lexLt_total:∀{a b:List Int},lexLt a b=false->lexLt b a=false->a=b
 |[],[],_,_=>rfl
 |[],_::_,h,_=>by cases h
 |_::_,[],_,h=>by cases h
 |x::a,y::b,h,g=>by
  rw[lexLt_cons]at h g
  by_cases e:x=y
  .subst e;rw[if_pos rfl]at h g;rw[lexLt_total h g]
  .rw[if_neg e]at h;rw[if_neg (BP e)]at g;have h':¬ x<y:=by simpa using h
   have g':¬ y<x:=by simpa using g
   lia
theorem lexLe_eq:∀a b:List Int,lexLe a b=!lexLt b a
 |[],[]=>rfl
 |[],_::_=>rfl
 |_::_,[]=>rfl
 |x::a,y::b=>by
  rw[zfz,lexLt_cons]
  by_cases e:x=y
  .subst e;rw[if_pos rfl,if_pos rfl];exact lexLe_eq a b
  .rw[if_neg e,if_neg (BP e)]
   by_cases g:x<=y
   .rw[decide_eq_true g,decide_eq_false (by lia)];rfl
   .rw[decide_eq_false g,decide_eq_true (by lia)];rfl
theorem lexLt_of_not_lt_lt{a b c:List Int}(h:lexLt b a=false)(g:lexLt b c=true):lexLt a c=true:=by
 cases e:lexLt a b with
 |true=>exact lexLt_trans e g
 |false=>rw[lexLt_total e h];exact g
theorem lexLt_asym{a b:List Int}(h:lexLt a b=true):lexLt b a=false:=by
 cases e:lexLt b a with
 |false=>rfl
 |true=>have:=lexLt_trans h e;rw[lexLt_irrefl]at this;cases this
end HT
namespace L2
open PySem PySem.Spec PyProof.Rows
section
variable {X:Cx}{k:Nat}{f:Addr}{fd:Br}{ps:List Str}{sp:Sp}{pins:List (Addr×Obj)}{σ:St}{H0:Hp}{Q:VK}{l it st:Addr}{xs:List V}{κ:Nat->List Int}
noncomputable def MKR(X:Cx)(pins:List (Addr×Obj))(σ:St)(Q:VK):Result->Ae->Prop:=λr s'=>match r with
 |.ok (.ret v)=>EP X pins σ Q v s'
 |.ok _=>False
 |.error e=>X.xe e s'
theorem zcV {xs:Array Ab}{c:Nat}:∀v,(Bm "list" xs c).data≠.cell v:=λv h=>by cases h
theorem zeK{h:Heap}{it l:Addr}{j:Nat}(hi:h.IsListIter it l j):∃o,h.get? it=some o/\∀v,o.data≠.cell v:=by obtain⟨o,ho,_,hd⟩:=hi;exact⟨o,ho,λv z=>by rw[hd]at z;cases z⟩
theorem zlv{H:Hp}{s:Ae}{Q1:VK}{u:Ab}{x:V}{E:Ab -> Ae -> Prop}{j:Nat}{vb kb:Ab}(F:FnOk X.prog X.w X.K X.mg X.base CX0 k f fd ps sp)(hr:Room (k + 1) X.A)(hb:Binds X.K fd ps [])
    (M:MK X pins σ H s it st l j vb kb) (r:RelV x u) (h:sp [x] H Q1 E0):As (Az X.prog X.w) X.A.in1 (call (.ref f) [u]) (λv s'=>∃y H',RelV y v/\Q1 y H'/\MK X pins σ H' s' it st l j vb kb) E s:=by
  obtain⟨c,hc⟩:=M.hold;obtain⟨oi,hoi,ci,di⟩:=id M.iter
  have I1:Inv X (pins ++ zdS [it, st] s.heap) σ H s := M.inv.pinned (λb hb => by
      rcases At.mp hb with rfl |hb
      . exact M.fi
      . rw[AA.mp hb];exact M.fs) (λb hb=>by
      rcases At.mp hb with rfl |hb
      . exact zeK M.iter
      . rw[AA.mp hb];exact⟨_,hc,zcV⟩)
  refine BJ (zj8 F hr hb I1 (.cons r .nil) h) (λv s' hv=>?_) λ_ _ e=>e
  obtain⟨y,H',I2,ry,q⟩:=hv;have p1:=I2.pin (it,oi) (Aw _ (Aw _ (zaZ (by simp) hoi)));have p2:=I2.pin (st,Bm "list" #[vb,kb] c) (Aw _ (Aw _ (zaZ (by simp) hc)));exact⟨y,H',ry,q,I2.unpinned,M.fi.again p1.2.1,M.fs.again p2.2.1,M.ne,⟨oi,p1.1,ci,di⟩,c,p2.1⟩
theorem zkF{H:Hp}{s:Ae}{a b:Addr}{ns ms:List Int}{E:Ab -> Ae -> Prop}{Q1:Ab -> Ae -> Prop}(hu:X.A.units + 1 < cLine)(I:Inv X pins σ H s)(ha:SqT X.K H a (ns.map V.int))(hb:SqT X.K H b (ms.map V.int))(q:Q1 (.bool (HT.lexLt ns ms)) s) :
  As (Az X.prog X.w) X.A.in1 (richCompare .Lt (.ref a) (.ref b)) Q1 E s:=by
 obtain⟨its,r1,p1,_⟩:=I.tuple ha;obtain⟨its2,r2,p2,_⟩:=I.tuple hb;exact (HT.lt_tupInts p1 p2 (zcW r1) (zcW r2) hu q:As (Az X.prog X.w) X.A.in1 (Bs .Lt (.ref a) (.ref b)) Q1 E s)
theorem MK.set{H:Hp}{s:Ae}{j:Nat}{vb kb v kv:Ab}(M:MK X pins σ H s it st l j vb kb):MK X pins σ H { s with heap:=s.heap.update st (AT λ_=>#[v,kv]) } it st l j v kv:=by obtain⟨c,hc⟩:=M.hold;have sb:=BL s.heap st (AT λ_=>#[v,kv]);obtain⟨oi,hoi,ci,di⟩:=id M.iter;exact⟨M.inv.moved (t':=s.toks) M.fs (λb o hb e=>(sb.2 b λz=>hb (by simp[z])).trans e),M.fi,M.fs,M.ne,⟨oi,(sb.2 it M.ne.symm).trans hoi,ci,di⟩,_,DD hc λ_=>#[v,kv]⟩
theorem Least.next{n i:Nat}(h:Least κ n i)(e:HT.lexLt (κ n) (κ i)=false)(hi:i<n):Least κ (n+1) i:=λj hj=>by
 by_cases z:j=n
 .subst z;exact⟨e,λq=>absurd q (by lia)⟩
 .exact h j (by lia)
theorem Least.take{n i:Nat}(h:Least κ n i)(e:HT.lexLt (κ n) (κ i)=true)(hi:i<n):Least κ (n+1) n:=λj hj=>by
 by_cases z:j=n
 .subst z;exact⟨HT.lexLt_irrefl _,λq=>absurd q (by lia)⟩
 .have g:=(h j (by lia)).1
  have t:HT.lexLt (κ n) (κ j)=true:=by
   cases q:HT.lexLt (κ i) (κ j) with
   |true=>exact HT.lexLt_trans e q
   |false=>rw[<- HT.lexLt_total q g];exact e
  exact⟨HT.lexLt_asym t,λ_=>t⟩
theorem Room.un1{n:Nat}{A:AS}(r:Room n A):A.units+1<cLine:=by have:=r.units;lia
theorem Same.seqT{K:W.Frag}{H H':Hp}{a:Addr}{xs:List V}(e:Same H H')(h:SqT K H a xs):SqT K H' a xs:=by
 rcases h with (h |⟨o,h⟩) |h
 .exact .inl (.inl (e _ _ h))
 .exact .inl (.inr ⟨o,e _ _ h⟩)
 .exact .inr h
theorem zkA(hh:X.A.handled=none)(F:FnOk X.prog X.w X.K X.mg X.base CX0 k f fd ps sp)(hr:Room (k + 1) X.A)(hb:Binds X.K fd ps [])
  (turn:∀i x H,xs[i]?=some x->Same H0 H->sp [x] H (λv H'=>Same H H'/\∃a,v=.ref a/\SqT X.K H' a ((κ i).map V.int)) E0)
  (hl:SqL X.K H0 l xs) (hli:l≠it) (hQ:∀i x H',xs[i]?=some x->Least κ xs.length i->Same H0 H'->Q x H') :
  ∀(r j i:Nat) (H:Hp) (s:Ae) (vb:Ab) (xb:V) (b:Addr),xs.length-(j+1)=r->j+1<=xs.length->Same H0 H->MK X pins σ H s it st l (j+1) vb (.ref b)->xs[i]?=some xb->RelV xb vb->SqT X.K H b ((κ i).map V.int)->i<=j->Least κ (j+1) i ->
   CA (Az X.prog X.w) X.A (.builtin "min.loop" ⟨[.ref it,.ref f,.ref st],[]⟩) (MKR X pins σ Q) s:=by
 have nm:(toString "min" ++ toString ".loop" : String) = "min.loop":=by decide
 intro r
 induction r with
 |zero =>
  intro j i H s vb xb b hr0 hj hS M hxb rb kb' hij best;have hend:j+1=xs.length:=by lia
  obtain⟨its,rv,pl,hz⟩:=M.inv.list (hS.seq hl);have hlen:its.length=xs.length:=rv.length.symm;have W:=DJ (prog:=X.prog) (w:=X.w) (A:=X.A.in1) hh it l hli its.toArray;obtain⟨c,hc⟩:=M.hold;refine C9 BS ?_
  rw[Ca AX _];show As _ X.A.in1 (seqItems? (.ref st) >>= _) _ _ _;refine Ac (Dk hc rfl ?_);show As _ X.A.in1 (tryCatch (pyNext (.ref it)) _ >>= _) _ _ _;refine Ac (BU (W.done _ _ _ ⟨by rw[An,hlen,<- hend];exact M.iter,pl.isList⟩ λh1 tk1 hk1=>?_));have I1:=M.inv.moved (t':=tk1) M.fi hk1;have hc1:=hk1 st _ (by simpa using M.ne) hc;have sb:=BL h1 st (AT λ_=>(#[]:Array Ab));show As _ X.A.in1 (updateSeq st (λ_=>#[]) >>= _) _ _ _;refine Ac ?_
  refine Da hc1 rfl (Ac (CY (Am ?_)));have I2:Inv X pins σ H { s with heap:=h1.update st (AT λ_=>(#[]:Array Ab)),toks:=tk1 }:=I1.moved (s:={ s with heap:=h1,toks:=tk1 }) (t':=tk1) M.fs (λb o hb e=>(sb.2 b λz=>hb (by simp[z])).trans e);exact⟨xb,H,I2,rb,hQ i xb H hxb (by rw[<- hend];exact best) hS⟩
 |succ r ih =>
  intro j i H s vb xb b hr0 hj hS M hxb rb kb' hij best;have hlt:j+1<xs.length:=by lia
  obtain⟨its,rv,pl,hz⟩:=M.inv.list (hS.seq hl);have hlen:its.length=xs.length:=rv.length.symm;have W:=DJ (prog:=X.prog) (w:=X.w) (A:=X.A.in1) hh it l hli its.toArray;obtain⟨c,hc⟩:=M.hold;refine C9 BS ?_
  rw[Ca AX _];show As _ X.A.in1 (seqItems? (.ref st) >>= _) _ _ _;refine Ac (Dk hc rfl ?_);show As _ X.A.in1 (tryCatch (pyNext (.ref it)) _ >>= _) _ _ _;refine Ac (BU (W.item (j+1) _ _ _ (by rw[An,hlen];exact hlt) ⟨M.iter,pl.isList⟩ λv h1 tk1 hP hst1 hk1=>?_));have hv:its[j+1]?=some v:=by simpa using hP
  obtain⟨x,hx⟩:∃x,xs[j+1]?=some x:=⟨_,Aa hlt⟩;obtain⟨v',hv',rx⟩:=rv.get hx;rw[hv]at hv'
  cases hv'
  have M1:MK X pins σ H { s with heap:=h1,toks:=tk1 } it st l (j+1+1) vb (.ref b):=⟨M.inv.moved (t':=tk1) M.fi hk1,M.fi,M.fs,M.ne,hst1.1,c,hk1 st _ (by simpa using M.ne) hc⟩;show As _ X.A.in1 (tryCatch (Dr [v] (call (.ref f) [v])) _ >>= _) _ _ _;refine Ac (BU (Be (BJ (zlv F hr hb M1 rx (turn (j+1) x H hx hS) (E:=λ_ _=>False)) (λkv s2 he=>?_) λ_ _ hF=>hF.elim)));obtain⟨y,H2,ry,⟨hS2,a2,ey,ka2⟩,M2⟩:=he;subst ey
  cases (show kv=Ay a2 from ry)
  have hS3:=hS.trans hS2;have kb2:SqT X.K H2 b ((κ i).map V.int):=hS2.seqT kb';show As _ X.A.in1 (tryCatch (Dr [v,.ref a2] (richCompare .Lt (.ref a2) (.ref b) >>= _)) _ >>= _) _ _ _;refine Ac (BU (Be (Ac (zkF hr.un1 M2.inv ka2 kb2 ?_))));refine Ac (Be (BD ?_));refine Ac (CY (Am ?_));obtain⟨c2,hc2⟩:=M2.hold
  by_cases hbt:HT.lexLt (κ (j+1)) (κ i)=true
  .simp only[hbt,if_true];refine Ac ?_
   refine Da hc2 rfl (Ac (CY ?_));rw[nm];exact Am ⟨Co AX _,ih (j+1) (j+1) H2 _ v _ a2 (by lia) hlt hS3 M2.set hx rx ka2 (Ai _) (best.take hbt (by lia))⟩
  .have hbf:HT.lexLt (κ (j+1)) (κ i)=false:=by simpa using hbt
   simp only[hbf,Cv,if_false];refine Ac (CY ?_);rw[nm];exact Am ⟨Co AX _,ih (j+1) i H2 _ vb _ b (by lia) hlt hS3 M2 hxb rb kb2 (by lia) (best.next hbf (by lia))⟩
theorem zkz(hh:X.A.handled=none)(hu:X.A.units + 1 < cLine)
  (turn:∀i x,xs[i]?=some x->∃a,x=.ref a/\SqT X.K H0 a ((κ i).map V.int))
  (hl:SqL X.K H0 l xs) (hli:l≠it) (hQ:∀i x H',xs[i]?=some x->Least κ xs.length i->Same H0 H'->Q x H') :
  ∀(r j i:Nat) (H:Hp) (s:Ae) (vb:Ab) (xb:V) (b:Addr),xs.length-(j+1)=r->j+1<=xs.length->Same H0 H->MK X pins σ H s it st l (j+1) vb (.ref b)->xs[i]?=some xb->RelV xb vb->SqT X.K H b ((κ i).map V.int)->i<=j->Least κ (j+1) i ->
   CA (Az X.prog X.w) X.A (.builtin "min.loop" ⟨[.ref it,.none,.ref st],[]⟩) (MKR X pins σ Q) s:=by
 have nm:(toString "min" ++ toString ".loop" : String) = "min.loop":=by decide
 intro r
 induction r with
 |zero =>
  intro j i H s vb xb b hr0 hj hS M hxb rb kb' hij best;have hend:j+1=xs.length:=by lia
  obtain⟨its,rv,pl,hz⟩:=M.inv.list (hS.seq hl);have hlen:its.length=xs.length:=rv.length.symm;have W:=DJ (prog:=X.prog) (w:=X.w) (A:=X.A.in1) hh it l hli its.toArray;obtain⟨c,hc⟩:=M.hold;refine C9 BS ?_
  rw[Ca AX _];show As _ X.A.in1 (seqItems? (.ref st) >>= _) _ _ _;refine Ac (Dk hc rfl ?_);show As _ X.A.in1 (tryCatch (pyNext (.ref it)) _ >>= _) _ _ _;refine Ac (BU (W.done _ _ _ ⟨by rw[An,hlen,<- hend];exact M.iter,pl.isList⟩ λh1 tk1 hk1=>?_));have I1:=M.inv.moved (t':=tk1) M.fi hk1;have hc1:=hk1 st _ (by simpa using M.ne) hc;have sb:=BL h1 st (AT λ_=>(#[]:Array Ab));show As _ X.A.in1 (updateSeq st (λ_=>#[]) >>= _) _ _ _;refine Ac ?_
  refine Da hc1 rfl (Ac (CY (Am ?_)));have I2:Inv X pins σ H { s with heap:=h1.update st (AT λ_=>(#[]:Array Ab)),toks:=tk1 }:=I1.moved (s:={ s with heap:=h1,toks:=tk1 }) (t':=tk1) M.fs (λb o hb e=>(sb.2 b λz=>hb (by simp[z])).trans e);exact⟨xb,H,I2,rb,hQ i xb H hxb (by rw[<- hend];exact best) hS⟩
 |succ r ih =>
  intro j i H s vb xb b hr0 hj hS M hxb rb kb' hij best;have hlt:j+1<xs.length:=by lia
  obtain⟨its,rv,pl,hz⟩:=M.inv.list (hS.seq hl);have hlen:its.length=xs.length:=rv.length.symm;have W:=DJ (prog:=X.prog) (w:=X.w) (A:=X.A.in1) hh it l hli its.toArray;obtain⟨c,hc⟩:=M.hold;refine C9 BS ?_
  rw[Ca AX _];show As _ X.A.in1 (seqItems? (.ref st) >>= _) _ _ _;refine Ac (Dk hc rfl ?_);show As _ X.A.in1 (tryCatch (pyNext (.ref it)) _ >>= _) _ _ _;refine Ac (BU (W.item (j+1) _ _ _ (by rw[An,hlen];exact hlt) ⟨M.iter,pl.isList⟩ λv h1 tk1 hP hst1 hk1=>?_));have hv:its[j+1]?=some v:=by simpa using hP
  obtain⟨x,hx⟩:∃x,xs[j+1]?=some x:=⟨_,Aa hlt⟩;obtain⟨v',hv',rx⟩:=rv.get hx;rw[hv]at hv'
  cases hv'
  have M1:MK X pins σ H { s with heap:=h1,toks:=tk1 } it st l (j+1+1) vb (.ref b):=⟨M.inv.moved (t':=tk1) M.fi hk1,M.fi,M.fs,M.ne,hst1.1,c,hk1 st _ (by simpa using M.ne) hc⟩;obtain⟨a2,ex,ka2'⟩:=turn (j+1) x hx;subst ex
  cases (show v=Ay a2 from rx)
  have hS3:=hS;have M2:=M1;have ka2:SqT X.K H a2 ((κ (j+1)).map V.int):=hS.seqT ka2';have kb2:=kb';show As _ X.A.in1 (pure (Ay a2) >>= _) _ _ _;refine Ac (Am ?_);show As _ X.A.in1 (tryCatch (Dr [.ref a2,.ref a2] (richCompare .Lt (.ref a2) (.ref b) >>= _)) _ >>= _) _ _ _;refine Ac (BU (Be (Ac (zkF hu M2.inv ka2 kb2 ?_))));refine Ac (Be (BD ?_));refine Ac (CY (Am ?_));obtain⟨c2,hc2⟩:=M2.hold
  by_cases hbt:HT.lexLt (κ (j+1)) (κ i)=true
  .simp only[hbt,if_true];refine Ac ?_
   refine Da hc2 rfl (Ac (CY ?_));rw[nm];exact Am ⟨Co AX _,ih (j+1) (j+1) H _ (.ref a2) _ a2 (by lia) hlt hS3 M2.set hx rx ka2 (Ai _) (best.take hbt (by lia))⟩
  .have hbf:HT.lexLt (κ (j+1)) (κ i)=false:=by simpa using hbt
   simp only[hbf,Cv,if_false];refine Ac (CY ?_);rw[nm];exact Am ⟨Co AX _,ih (j+1) i H _ vb _ b (by lia) hlt hS3 M2 hxb rb kb2 (by lia) (best.next hbf (by lia))⟩
end
theorem zkC (a:Ab):argsOk "min" ⟨[a],[]⟩:=by unfold argsOk;kernel_rfl
section
variable {X:Cx}{k:Nat}{f:Addr}{fd:Br}{ps:List Str}{sp:Sp}{pins:List (Addr×Obj)}{σ:St}{H0:Hp}{Q:VK}{l it st:Addr}{xs:List V}{κ:Nat->List Int}
structure MK0 (X:Cx) (pins:List (Addr×Obj)) (σ:St) (H:Hp) (s:Ae) (it st l:Addr) (j:Nat):Prop where
 inv:Inv X pins σ H s
 fi:FpOk X pins H it
 fs:FpOk X pins H st
 ne:st≠it
 iter:s.heap.IsListIter it l j
 hold:∃c,s.heap.get? st=some (Bm "list" #[] c)
theorem zj9{H:Hp}{s:Ae}{Q1:VK}{u:Ab}{x:V}{E:Ab -> Ae -> Prop}{j:Nat}(F:FnOk X.prog X.w X.K X.mg X.base CX0 k f fd ps sp)(hr:Room (k + 1) X.A)(hb:Binds X.K fd ps [])
    (M:MK0 X pins σ H s it st l j) (r:RelV x u) (h:sp [x] H Q1 E0):As (Az X.prog X.w) X.A.in1 (call (.ref f) [u]) (λv s'=>∃y H',RelV y v/\Q1 y H'/\MK0 X pins σ H' s' it st l j) E s:=by
  obtain⟨c,hc⟩:=M.hold;obtain⟨oi,hoi,ci,di⟩:=id M.iter
  have I1:Inv X (pins ++ zdS [it, st] s.heap) σ H s := M.inv.pinned (λb hb => by
      rcases At.mp hb with rfl |hb
      . exact M.fi
      . rw[AA.mp hb];exact M.fs) (λb hb=>by
      rcases At.mp hb with rfl |hb
      . exact zeK M.iter
      . rw[AA.mp hb];exact⟨_,hc,zcV⟩)
  refine BJ (zj8 F hr hb I1 (.cons r .nil) h) (λv s' hv=>?_) λ_ _ e=>e
  obtain⟨y,H',I2,ry,q⟩:=hv;have p1:=I2.pin (it,oi) (Aw _ (Aw _ (zaZ (by simp) hoi)));have p2:=I2.pin (st,Bm "list" #[] c) (Aw _ (Aw _ (zaZ (by simp) hc)));exact⟨y,H',ry,q,I2.unpinned,M.fi.again p1.2.1,M.fs.again p2.2.1,M.ne,⟨oi,p1.1,ci,di⟩,c,p2.1⟩
theorem MK0.set{H:Hp}{s:Ae}{j:Nat}{v kv:Ab}(M:MK0 X pins σ H s it st l j):MK X pins σ H { s with heap:=s.heap.update st (AT λ_=>#[v,kv]) } it st l j v kv:=by obtain⟨c,hc⟩:=M.hold;have sb:=BL s.heap st (AT λ_=>#[v,kv]);obtain⟨oi,hoi,ci,di⟩:=id M.iter;exact⟨M.inv.moved (t':=s.toks) M.fs (λb o hb e=>(sb.2 b λz=>hb (by simp[z])).trans e),M.fi,M.fs,M.ne,⟨oi,(sb.2 it M.ne.symm).trans hoi,ci,di⟩,_,DD hc λ_=>#[v,kv]⟩
theorem zk8{s:Ae}(hh:X.A.handled=none)(F:FnOk X.prog X.w X.K X.mg X.base CX0 k f fd ps sp)(hr:Room (k + 1) X.A)(hb:Binds X.K fd ps [])
  (turn:∀i x H,xs[i]?=some x->Same H0 H->sp [x] H (λv H'=>Same H H'/\∃a,v=.ref a/\SqT X.K H' a ((κ i).map V.int)) E0)
  (hl:SqL X.K H0 l xs) (hne:0<xs.length) (hQ:∀i x H',xs[i]?=some x->Least κ xs.length i->Same H0 H'->Q x H') (I:Inv X pins σ H0 s) :
  As (Az X.prog X.w) X.A (call (.builtin "min") [.ref l] [(B7 "key",.ref f)]) (EP X pins σ Q) X.xe s:=by
 have nm:(toString "min" ++ toString ".loop" : String) = "min.loop":=by decide
 obtain⟨its,rv,pl,hz⟩:=I.list hl;have hlen:its.length=xs.length:=rv.length.symm;have hll:l<s.heap.objs.size:=by obtain⟨o,ho,_⟩:=pl.isList;exact Aq ho
 refine kmk_tree PySem.F.kind_min PySem.F.plain_min PySem.F.entry_min (kmk_min_key _ _) ?_
 show As _ X.A.in1 (BE "min" ["key","default"] 0 ⟨[],[(B7 "key",.ref f)]⟩ >>= _) _ _ s;refine Ac (wpAny_of_eq (show BE "min" ["key","default"] 0 ⟨[],[(B7 "key",.ref f)]⟩=pure [some (.ref f),none] from rfl) ?_);refine Ac (Am ?_);refine Ac (Dh pl.isList ?_);refine Ac (wpAny_newList ?_ (Bj _));rw[nm];refine Am ⟨Co AX _,?_⟩;have keep:∀b o,s.heap.get? b=some o->((s.heap.push { cls:=.type "list_iterator",data:=.fields #[.ref l,.int 0 0] }).push (Bm "list" #[] 0)).get? b=some o:=λb o e=>Ag _ (Ag _ e)
 have gi:((s.heap.push { cls:=.type "list_iterator",data:=.fields #[.ref l,.int 0 0] }).push (Bm "list" #[] 0)).get? s.heap.objs.size=some { cls:=.type "list_iterator",data:=.fields #[.ref l,.int 0 0] }:=Ag _ (AD _ rfl);have hsS:(s.heap.push { cls:=.type "list_iterator",data:=.fields #[.ref l,.int 0 0] }).objs.size=s.heap.objs.size+1:=size_push' ..;have gs:((s.heap.push { cls:=.type "list_iterator",data:=.fields #[.ref l,.int 0 0] }).push (Bm "list" #[] 0)).get? (s.heap.objs.size+1)=some (Bm "list" #[] 0):=by rw[<- hsS];exact AD _ rfl
 rw[hsS];have I1:Inv X pins σ H0 { s with heap:=(s.heap.push { cls:=.type "list_iterator",data:=.fields #[.ref l,.int 0 0] }).push (Bm "list" #[] 0) }:=I.kept (t':=s.toks) keep;have fi:FpOk X pins H0 s.heap.objs.size:=I.fpOk (Ai _) (I.hok.fresh (Ai _));have fs:FpOk X pins H0 (s.heap.objs.size+1):=I.fpOk (Cp _) (I.hok.fresh (Cp _));have M0:MK0 X pins σ H0 _ s.heap.objs.size (s.heap.objs.size+1) l 0:=⟨I1,fi,fs,Nat.ne_of_gt (Nat.lt_succ_self _),⟨_,gi,rfl,rfl⟩,⟨0,gs⟩⟩;have hli:l≠s.heap.objs.size:=AK hll;have W:=DJ (prog:=X.prog) (w:=X.w) (A:=X.A.in1) hh s.heap.objs.size l hli its.toArray;refine C9 BS ?_
 rw[Ca AX _];show As _ X.A.in1 (seqItems? (.ref _) >>= _) _ _ _;refine Ac (Dk gs rfl ?_);show As _ X.A.in1 (tryCatch (pyNext (.ref s.heap.objs.size)) _ >>= _) _ _ _;obtain⟨its2,rv2,pl2,_⟩:=I1.list hl;refine Ac (BU (W.item 0 _ _ _ (by rw[An,hlen];exact hne) ⟨M0.iter,pl.isList.at λo e=>keep _ _ e⟩ λv h1 tk1 hP hst1 hk1=>?_));have hv:its[0]?=some v:=by simpa using hP
 obtain⟨x,hx⟩:∃x,xs[0]?=some x:=⟨_,Aa hne⟩;obtain⟨v',hv',rx⟩:=rv.get hx;rw[hv]at hv'
 cases hv'
 have M1:MK0 X pins σ H0 { s with heap:=h1,toks:=tk1 } s.heap.objs.size (s.heap.objs.size+1) l 1:=⟨I1.moved (t':=tk1) fi hk1,fi,fs,M0.ne,hst1.1,0,hk1 _ _ (by simp) gs⟩;show As _ X.A.in1 (tryCatch (Dr [v] (call (.ref f) [v])) _ >>= _) _ _ _;refine Ac (BU (Be (BJ (zj9 F hr hb M1 rx (turn 0 x H0 hx (Same.refl _)) (E:=λ_ _=>False)) (λkv s2 he=>?_) λ_ _ hF=>hF.elim)));obtain⟨y,H2,ry,⟨hS2,a2,ey,ka2⟩,M2⟩:=he;subst ey
 cases (show kv=Ay a2 from ry)
 obtain⟨c2,hc2⟩:=M2.hold;show As _ X.A.in1 (updateSeq (s.heap.objs.size+1) (λ_=>#[v,.ref a2]) >>= _) _ _ _;refine Ac ?_
 refine Da hc2 rfl ?_
 rw[nm];refine Am ⟨Co AX _,?_⟩
 exact Ds (zkA hh F hr hb turn hl hli hQ _ 0 0 H2 _ v _ a2 rfl hne hS2 M2.set hx rx ka2 (Ai _) (λj hj=>by
  have e:j=0:=by lia
  subst e;exact⟨HT.lexLt_irrefl _,λz=>absurd z (BM _)⟩)) λr s' hr'=>hr'
theorem zk6{s:Ae}(hh:X.A.handled=none)(hu:X.A.units + 1 < cLine)
  (turn:∀i x,xs[i]?=some x->∃a,x=.ref a/\SqT X.K H0 a ((κ i).map V.int))
  (hl:SqL X.K H0 l xs) (hne:0<xs.length) (hQ:∀i x H',xs[i]?=some x->Least κ xs.length i->Same H0 H'->Q x H') (I:Inv X pins σ H0 s) :
  As (Az X.prog X.w) X.A (call (.builtin "min") [.ref l] []) (EP X pins σ Q) X.xe s:=by
 have nm:(toString "min" ++ toString ".loop" : String) = "min.loop":=by decide
 obtain⟨its,rv,pl,hz⟩:=I.list hl;have hlen:its.length=xs.length:=rv.length.symm;have hll:l<s.heap.objs.size:=by obtain⟨o,ho,_⟩:=pl.isList;exact Aq ho
 refine kmk_tree PySem.F.kind_min PySem.F.plain_min PySem.F.entry_min (zkC _) ?_
 show As _ X.A.in1 (BE "min" ["key","default"] 0 ⟨[],[]⟩ >>= _) _ _ s;refine Ac (wpAny_of_eq (show BE "min" ["key","default"] 0 ⟨[],[]⟩=pure [none,none] from rfl) ?_);refine Ac (Am ?_);refine Ac (Dh pl.isList ?_);refine Ac (wpAny_newList ?_ (Bj _));rw[nm];refine Am ⟨Co AX _,?_⟩;have keep:∀b o,s.heap.get? b=some o->((s.heap.push { cls:=.type "list_iterator",data:=.fields #[.ref l,.int 0 0] }).push (Bm "list" #[] 0)).get? b=some o:=λb o e=>Ag _ (Ag _ e)
 have gi:((s.heap.push { cls:=.type "list_iterator",data:=.fields #[.ref l,.int 0 0] }).push (Bm "list" #[] 0)).get? s.heap.objs.size=some { cls:=.type "list_iterator",data:=.fields #[.ref l,.int 0 0] }:=Ag _ (AD _ rfl);have hsS:(s.heap.push { cls:=.type "list_iterator",data:=.fields #[.ref l,.int 0 0] }).objs.size=s.heap.objs.size+1:=size_push' ..;have gs:((s.heap.push { cls:=.type "list_iterator",data:=.fields #[.ref l,.int 0 0] }).push (Bm "list" #[] 0)).get? (s.heap.objs.size+1)=some (Bm "list" #[] 0):=by rw[<- hsS];exact AD _ rfl
 rw[hsS];have I1:Inv X pins σ H0 { s with heap:=(s.heap.push { cls:=.type "list_iterator",data:=.fields #[.ref l,.int 0 0] }).push (Bm "list" #[] 0) }:=I.kept (t':=s.toks) keep;have fi:FpOk X pins H0 s.heap.objs.size:=I.fpOk (Ai _) (I.hok.fresh (Ai _));have fs:FpOk X pins H0 (s.heap.objs.size+1):=I.fpOk (Cp _) (I.hok.fresh (Cp _));have M0:MK0 X pins σ H0 _ s.heap.objs.size (s.heap.objs.size+1) l 0:=⟨I1,fi,fs,Nat.ne_of_gt (Nat.lt_succ_self _),⟨_,gi,rfl,rfl⟩,⟨0,gs⟩⟩;have hli:l≠s.heap.objs.size:=AK hll;have W:=DJ (prog:=X.prog) (w:=X.w) (A:=X.A.in1) hh s.heap.objs.size l hli its.toArray;refine C9 BS ?_
 rw[Ca AX _];show As _ X.A.in1 (seqItems? (.ref _) >>= _) _ _ _;refine Ac (Dk gs rfl ?_);show As _ X.A.in1 (tryCatch (pyNext (.ref s.heap.objs.size)) _ >>= _) _ _ _;obtain⟨its2,rv2,pl2,_⟩:=I1.list hl;refine Ac (BU (W.item 0 _ _ _ (by rw[An,hlen];exact hne) ⟨M0.iter,pl.isList.at λo e=>keep _ _ e⟩ λv h1 tk1 hP hst1 hk1=>?_));have hv:its[0]?=some v:=by simpa using hP
 obtain⟨x,hx⟩:∃x,xs[0]?=some x:=⟨_,Aa hne⟩;obtain⟨v',hv',rx⟩:=rv.get hx;rw[hv]at hv'
 cases hv'
 have M1:MK0 X pins σ H0 { s with heap:=h1,toks:=tk1 } s.heap.objs.size (s.heap.objs.size+1) l 1:=⟨I1.moved (t':=tk1) fi hk1,fi,fs,M0.ne,hst1.1,0,hk1 _ _ (by simp) gs⟩;obtain⟨a2,ex,ka2⟩:=turn 0 x hx;subst ex
 cases (show v=Ay a2 from rx)
 have M2:=M1;show As _ X.A.in1 (pure (Ay a2) >>= _) _ _ _;refine Ac (Am ?_);obtain⟨c2,hc2⟩:=M2.hold;show As _ X.A.in1 (updateSeq (s.heap.objs.size+1) (λ_=>#[(.ref a2),.ref a2]) >>= _) _ _ _;refine Ac ?_
 refine Da hc2 rfl ?_
 rw[nm];refine Am ⟨Co AX _,?_⟩
 exact Ds (zkz hh hu turn hl hli hQ _ 0 0 H0 _ (.ref a2) _ a2 rfl hne (Same.refl _) M2.set hx rx ka2 (Ai _) (λj hj=>by
  have e:j=0:=by lia
  subst e;exact⟨HT.lexLt_irrefl _,λz=>absurd z (BM _)⟩)) λr s' hr'=>hr'
end
end L2
namespace RK
open PySem PySem.W PyProof.Rows
variable {n:Nat}{ans:Nat->Nat->Bool}
noncomputable def Pm(n:Nat)(p:Array Nat):Prop:=p.Perm (List.toArray (AJ n))
inductive Col:Ab->Ab->Int->Int->Prop where
 |int (a:Int) (t:Tok) (b:Int) (u:Tok):Col (.int a t) (.int b u) a b
 |bl (p q:Bool):Col (.bool p) (.bool q) (b2i p) (b2i q)
inductive Cols:List Ab->List Ab->List Int->List Int->Prop where
 |nil:Cols [] [] [] []
 |cons {u v:Ab} {us vs:List Ab} {a b:Int} {as bs:List Int}:Col u v a b->Cols us vs as bs->Cols (u::us) (v::vs) (a::as) (b::bs)
section
variable {prog:AH}{w:A1}{A:AS}{s:Ae}{Q:Bool->Ae->Prop}
theorem zmr{u v:Ab}{a b:Int}(c:Col u v a b){E:Ab->Ae->Prop}(h:Q (decide (a=b)) s):As (Az prog w) A (eqBool u v) Q E s:=by
 cases c with
 |int _ t _ u =>
  refine wpAny_eqBool_int ?_
  rw[show (a == b)=decide (a=b) from by rw[Bool.beq_eq_decide_eq]];exact h
 |bl p q =>
  refine SeqAt.EqAt.bool_bool p q prog w E Q ?_
  have e:(p == q)=decide (b2i p=b2i q):=by cases p <;> cases q <;> decide
  rw[e];exact h
theorem zn1{u v:Ab}{a b:Int}(c:Col u v a b){E:Ab->Ae->Prop}(h:Q (decide (a<b)) s):As (Az prog w) A (oneLt' false u v) Q E s:=by
 cases c with
 |int _ t _ u=>exact kat_one _ _ (lt_int (show W.BoolBack Q (.bool (decide (a<b))) s from h))
 |bl p q=>exact kat_one _ _ (lt_bool (show W.BoolBack Q (.bool (decide (b2i p<b2i q))) s from h))
theorem ziS{bb:Bool}:∀{us vs:List Ab}{as bs:List Int}(i:Nat),Cols us vs as bs->Q (HT.lexLt as bs) s->KatLex prog w A bb false Q (us.zip vs) (i+1) s
 |_,_,_,_,_,.nil,h=>kat_nil h
 |_,_,_,_,i,.cons (a:=a) (b:=b) (as:=as) (bs:=bs) c r,h=>by
  rw[HT.lexLt_cons]at h;refine kat_cons (zmr c ?_)
  by_cases e:a=b
  .rw[decide_eq_true e];rw[if_pos e]at h;exact kat_yes (ziS (i+1) r h)
  .rw[decide_eq_false e];rw[if_neg e]at h;refine kat_no ?_
   rw[show (bb && (i+1 == 0))=false by simp];exact zn1 c h
theorem kat_cols0{us vs:List Ab}{as bs:List Int}{a b:Int}{t u:Tok}(r:Cols us vs as bs)(h:Q (HT.lexLt (a::as) (b::bs)) s):KatLex prog w A true false Q ((Value.int a t::us).zip (Value.int b u::vs)) 0 s:=by
 rw[HT.lexLt_cons]at h;refine kat_cons (zmr (.int a t b u) ?_)
 by_cases e:a=b
 .rw[decide_eq_true e];rw[if_pos e]at h;exact kat_yes (ziS 0 r h)
 .rw[decide_eq_false e];rw[if_neg e]at h;exact kat_no (oneLt_int h)
end
end RK
namespace L2
open PySem PySem.Spec PyProof.Rows
section
variable {X:Cx}{k:Nat}{f:Addr}{fd:Br}{ps:List Str}{sp:Sp}{pins:List (Addr×Obj)}{σ:St}{H0:Hp}{Q:VK}
theorem Inv.adopt{H:Hp}{s:Ae}{D:Addr}{o:HO}{h':Heap}{t':Nat}(I:Inv X pins σ H s)(fb:FpOk X pins H D)(hk:∀b u, b ≠ D -> s.heap.get? b=some u -> h'.get? b=some u)(heo:∃u, h'.get? D=some u)
  (new:ObjOk X.prog X.w (upd H D o) h' D o):Inv X pins σ (upd H D o) { s with heap:=h',toks:=t' }:=by
 have hn:=fb.1;have nit:∀b u,H b=some u->b≠D:=λb u e z=>by rw[z,hn]at e;cases e
 refine I.step (g':=s.gens) (d':=s.drawn) (ch:=[D]) (λb hb=>?_) (λb u _ _ hc e _=>hk b u (λz=>hc (by simp[z])) e) (λb u _ _ hc e _=>⟨u.slots,hk b u (λz=>hc (by simp[z])) e⟩)
  (λb u hc _ n=>by rw[zam (λz=>hc (by simp[z]))];exact n)
  (λb u hc e=>⟨u,hk b u (λz=>hc (by simp[z])) e⟩) (λb xs e=>by rw[zam (nit _ _ e)];exact e) (λb u xs e=>by rw[zam (nit _ _ e)];exact e) (λb ps e=>⟨#[],by rw[zam (nit _ _ e),e];simp⟩) (λm hm=>?_) (λb u e=>?_) I.bare
 .have e:b=D:=by simpa using hb
  subst e;exact⟨fb.2.2.2.1,fb.2.1,fb.2.2.2.2.1,fb.2.2.2.2.2⟩
 .obtain⟨u,es,ep,ho,r⟩:=hm;exact⟨u,es,ep,hk _ u (BP fb.2.1) ho,r⟩
 .by_cases hb:b=D
  .subst hb;rw[zaa]at e;cases e;exact new
  .rw[zam hb]at e;refine (I.hok b u e).stay (λc v hc q=>hk c v ?_ q) (λc q=>by rw[zam (nit _ _ q)];exact q) λc xs q=>by rw[zam (nit _ _ q)];exact q
   rcases hc with z |z
   .rw[z];exact nit b u e
   .exact nit c _ z
theorem zmH{H:Hp}{s:Ae}{Q:VK}{us:List Ab}{vs:List V}{E:Ab -> Ae -> Prop}(F:FnOk X.prog X.w X.K X.mg X.base CX0 k f fd ps sp)(hr:Room (k + 1 + 1) X.A)(hb:Binds X.K fd ps [])
  (I:Inv X pins σ H s) (r:Vals vs us) (h:sp vs H Q E0):As (Az X.prog X.w) X.A.in1.in1 (call (.ref f) us) (EP X pins σ Q) E s:=by
 have hl:(us++[]).length=ps.length:=by rw[A3,<- r.length];exact F.len _ _ _ _ h
 have hb':=hb s us I.kIn hl;rw[A3]at hb';refine wpAny_call (Ds (F.run X.A.in1.in1 X.stack s H ⟨us,[]⟩ us vs Q E0 hr.in1.in1 I.env0.in1.in1 hb' r h) λr s' hq=>?_)
 cases r with
 |error e=>exact BB hq
 |ok fl =>
  cases fl with
  |ret u=>exact I.after hq
  |next=>exact BB hq
  |brk=>exact BB hq
  |cont=>exact BB hq
noncomputable def zi9(X:Cx)(σ:St)(H0:Hp)(f:Addr)(xs:List V)(κV:Nat->List V):Prop:=∀(pins:List (Addr×Obj)) (i:Nat) (x:V) (u:Ab) (H:Hp) (s:Ae),xs[i]?=some x->Same H0 H->Inv X pins σ H s->RelV x u ->
 As (Az X.prog X.w) X.A.in1.in1 (call (.ref f) [u]) (EP X pins σ λv H'=>Same H H'/\∃a,v=.ref a/\SqT X.K H' a (κV i)) (λ_ _=>False) s
theorem znQ{xs:List V}{κV:Nat -> List V}(F:FnOk X.prog X.w X.K X.mg X.base CX0 k f fd ps sp)(hr:Room (k + 1 + 1) X.A)(hb:Binds X.K fd ps [])
  (turn:∀i x H,xs[i]?=some x->Same H0 H->sp [x] H (λv H'=>Same H H'/\∃a,v=.ref a/\SqT X.K H' a (κV i)) E0):zi9 X σ H0 f xs κV :=
 λ_ i x _ H _ hx hS I ru=>zmH F hr hb I (.cons ru .nil) (turn i x H hx hS)
inductive VCol:V->V->Int->Int->Prop where
 |int (a b:Int):VCol (.int a) (.int b) a b
 |bl (p q:Bool):VCol (.bl p) (.bl q) (b2i p) (b2i q)
inductive VCols:List V->List V->List Int->List Int->Prop where
 |nil:VCols [] [] [] []
 |cons {x y:V} {xs ys:List V} {a b:Int} {as bs:List Int}:VCol x y a b->VCols xs ys as bs->VCols (x::xs) (y::ys) (a::as) (b::bs)
theorem VCols.vals:∀{xs ys:List V}{as bs:List Int}{us vs:List Ab},VCols xs ys as bs->Vals xs us->Vals ys vs->RK.Cols us vs as bs
  |_,_,_,_,_,_,.nil,.nil,.nil=>.nil
  |_, _, _, _, _, _, .cons c r, .cons h t, .cons g q => .cons (by
      cases c with
      |int a b=>obtain⟨t,rfl⟩:=h;obtain⟨u,rfl⟩:=g;exact .int _ _ _ _
      |bl p q=>cases h;cases g;exact .bl _ _) (r.vals t q)
structure SK (X:Cx) (pins:List (Addr×Obj)) (σ:St) (H:Hp) (s:Ae) (D st:Addr) (e:Nat) (κV:Nat->List V) (ks:List Addr):Prop where
 inv:Inv X pins σ H s
 fd:FpOk X pins H D
 fs:FpOk X pins H st
 ne:st≠D
 hd:s.heap.get? D=some (Bm "list" #[] e)
 hs:∃c,s.heap.get? st=some (Bm "list" (ks.map Ay).toArray c)
 hk:∀i a,ks[i]?=some a->SqT X.K H a (κV i)
theorem ziU{M:Model}{A:AS}{E:Ab -> Ae -> Prop}{body:Ab -> PUnit -> Sem (ForInStep PUnit)}{vs:List Ab}(P:Nat -> Ae -> Prop)
  (hb:∀i x s,vs[i]?=some x->P i s->As M A (body x ⟨⟩) (λr s'=>r=.yield ⟨⟩/\P (i+1) s') E s):∀(r:List Ab) (i:Nat) (s:Ae),vs.drop i=r->i<=vs.length->P i s ->
   As M A (forIn r PUnit.unit body) (λ_ s'=>P vs.length s') E s
 |[],i,s,hr,hi,h=>by
  rw[List.forIn_nil];have:vs.length<=i:=DP.mp hr;exact Am (by rw[show vs.length=i by lia];exact h)
 |x::r,i,s,hr,hi,h=>by
  have hx:vs[i]?=some x:=by have:=congrArg (·[0]?) hr;simpa using this
  have hlt:i<vs.length:=(Ad.mp hx).1;have hr':vs.drop (i+1)=r:=by rw[<- List.tail_drop,hr];rfl
  rw[List.forIn_cons];refine Ac (BJ (hb i x s hx h) (λq s' hq=>?_) λ_ _ e=>e);obtain⟨rfl,h'⟩:=hq;exact ziU P hb r (i+1) s' hr' hlt h'
end
section
variable {X:Cx}{pins:List (Addr×Obj)}{σ:St}{H:Hp}{s:Ae}{D st:Addr}{e:Nat}{κV:Nat->List V}{ks:List Addr}{E:Ab->Ae->Prop}
noncomputable def zja(X:Cx)(G:Array Nat->Prop)(ks vs:List Ab)(E:Ab->Ae->Prop)(s:Ae):Prop :=
 As (Az X.prog X.w) X.A.in1.in1 (keyKind' ks.toArray) (λκ s0=>s0=s /\
  As (Az X.prog X.w) X.A.in1.in1 ((sortRuns').run (SortSt.mk' κ (ks.toArray.zip vs.toArray) #[] 7 none)) (λr s'=>s'=s/\Db r.2=none/\∃p:Array Nat,G p/\p.size=vs.length/\AN r.2=p.map (Dl (ks.toArray.zip vs.toArray))) E s) E s
theorem zkM{as:List Addr}(I:Inv X pins σ H s):∀{ks:List Addr}{vs:List (List V)}{ns:List Int}, (∀(i:Nat) (a:Addr), ks[i]? = some a -> ∃n r, ns[i]? = some n /\ SqT X.K H a (.int n :: r)) -> ns.length=ks.length ->
  ∃fs:List Ab,W.KatTups s.heap (ks.map Ay) fs/\fs.length=ks.length/\∀v∈fs,∃n t,v=Value.int n t
 |[],_,_,_,_=>⟨[],.nil,rfl,λ_ h=>nomatch h⟩
 |a::r,vs,[],_,h=>by cases h
 |a::r,vs,n::ns,hk,h=>by
  obtain⟨m,q,e1,hq⟩:=hk 0 a rfl;obtain⟨fs,t,hl,hi⟩:=zkM (as:=as) (vs:=vs) I (ks:=r) (ns:=ns) (λi b hb=>by simpa using hk (i+1) b (by simpa using hb)) (by simpa using h);obtain⟨its,rv,⟨o,ho,hc,c,hd⟩,_⟩:=I.tuple hq
  cases rv with
  |cons rx rr =>
   obtain⟨t1,rfl⟩:=rx;refine⟨Value.int m t1::fs,.cons ho hc hd (by simp) t,by simp[hl],λv hv=>?_⟩;rcases At.mp hv with rfl |hv
   .exact⟨_,_,rfl⟩
   .exact hi v hv
end
section
variable {X:Cx}{k:Nat}{f:Addr}{fd:Br}{ps:List Str}{sp:Sp}{pins:List (Addr×Obj)}{σ:St}{H0 H:Hp}{s:Ae}{D st l:Addr}{e:Nat}{κV:Nat->List V}{ks:List Addr}{E:Ab->Ae->Prop}{G:Array Nat->Prop}{xs:List V}{vs:List Ab}{Q:VK}
noncomputable def outV(xs:List V)(p:Array Nat):List V:=p.toList.map λi=>xs.getD i .non
theorem zjH{xs:List V}{vs:List Ab}(r:Vals xs vs)(i:Nat)(hi:i<xs.length):RelV (xs.getD i .non) (vs.getD i Value.none):=by
 have hx:xs[i]?=some xs[i]:=by simp[hi]
 obtain⟨u,hu,ru⟩:=r.get hx;rw[Ar,hx,Ar,hu];exact ru
theorem zig{xs:List V}{vs:List Ab}(r:Vals xs vs):∀(l:List Nat),(∀i∈l,i<xs.length)->Vals (l.map λi=>xs.getD i .non) (l.map λi=>vs.getD i Value.none)
 |[],_=>.nil
 |i::t,h=>.cons (zjH r i (h i AE)) (zig r t λj hj=>h j (Au _ hj))
theorem zhS{p:Array Nat}:(outV xs p).length=p.size:=by unfold outV;simp
theorem zmE{P:PySem.Fin -> Ae -> Prop}{so:BZ}{out:List Ab}{ys:List V}(K:SK X pins σ H s D st e κV ks)(hks:ks.length <= sizeLine)(ho:(AN so).map (·.2)=out.toArray)(ry:Vals ys out)(hz:ys.length <= sizeLine)(hf:Db so=none)
  (h:∀s',Inv X pins σ (upd H D (.lst ys)) s'->P (.done (.ret .none)) s'):As (Az X.prog X.w) X.A.in1.in1 (ksk_tail D false e (.ref st) so) P E s:=by
 obtain⟨c,hc⟩:=K.hs;have hzo:out.length<=sizeLine:=by rw[<- ry.length];exact hz
 have s1:=BL s.heap st (AT λ_=>(#[]:Array Ab));have hd1:(s.heap.update st (AT λ_=>(#[]:Array Ab))).get? D=some (Bm "list" #[] e):=(s1.2 D K.ne.symm).trans K.hd;have s2:=BL (s.heap.update st (AT λ_=>(#[]:Array Ab))) D (AT λ_=>out.toArray);obtain⟨c2,hc2⟩:∃c2,((s.heap.update st (AT λ_=>(#[]:Array Ab))).update D (AT λ_=>out.toArray)).get? D=some (Bm "list" out.toArray c2):=⟨_,DD hd1 λ_=>out.toArray⟩;unfold ksk_tail
 try dsimp only
 rw[ho];refine Ac (listUpdate_at hc rfl ?_ (by simpa using hks) (Bj _));refine Ac (CY ?_);refine Ac (seqEpoch_at hd1 rfl ?_);simp only[Cv,if_false];refine Ac (listUpdate_at hd1 rfl ?_ (Bj _) (by simp;lia));rw[hf];simp only[bne_self_eq_false,Cv,if_false];refine Am (h _ ?_);have I1:Inv X pins σ H { s with heap:=s.heap.update st (AT λ_=>(#[]:Array Ab)) }:=K.inv.moved (t':=s.toks) K.fs (λb o hb e=>(s1.2 b λz=>hb (by simp[z])).trans e);exact I1.adopt (t':=s.toks) K.fd (λb u hb q=>(s2.2 b hb).trans q) ⟨_,hc2⟩ ⟨hz,out,c2,ry,hc2⟩
theorem znq{P:PySem.Fin -> Ae -> Prop}(K:SK X pins σ H s D st e κV ks)(hl:ks.length=vs.length)(r:Vals xs vs)(hz:xs.length <= sizeLine)(hG:∀p, G p -> ∀i ∈ p.toList, i < xs.length)
  (h0:vs.length<2->G (List.toArray (AJ vs.length))) (core:2<=vs.length->zja X G (ks.map Ay) vs E s)
  (h:∀p s',G p->p.size=xs.length->Inv X pins σ (upd H D (.lst (outV xs p))) s'->P (.done (.ret .none)) s'):As (Az X.prog X.w) X.A.in1.in1 (ksk_end D false vs.toArray e (.ref st) (ks.map Ay).toArray) P E s:=by
 have hlx:xs.length=vs.length:=r.length;have hl':(ks.map Ay).length=vs.length:=by simp[hl]
 have fin:∀(p:Array Nat) (so:BZ),G p->p.size=vs.length->AN so=p.map (Dl ((ks.map Ay).toArray.zip vs.toArray))->Db so=none->As (Az X.prog X.w) X.A.in1.in1 (ksk_tail D false e (.ref st) so) P E s:=λp so g hp ha hf =>
  zmE K (by lia) (W.kat_snds hl' ha) (ys:=outV xs p) (zig r _ (hG p g)) (by rw[zhS];lia) hf λs' I'=>h p s' g (by lia) I'
 unfold ksk_end
 try dsimp only
 simp only[Cv,if_false]
 by_cases h2:vs.length<2
 .have h2':vs.toArray.size<2:=by simpa using h2
  rw[if_pos h2',if_pos h2'];refine Ac (Am ?_);show As (Az X.prog X.w) X.A.in1.in1 (pure ((),SortSt.mk' general' ((ks.map Ay).toArray.zip vs.toArray) #[] 7 none) >>= _) P E s;refine Ac (Am ?_)
  try dsimp only
  refine fin (List.toArray (AJ vs.length)) _ (h0 h2) (by simp) ?_ rfl;have:=W.kas_range ((ks.map Ay).toArray.zip vs.toArray);rw[show ((ks.map Ay).toArray.zip vs.toArray).size=vs.length by simp[hl]]at this;exact this.symm
 .have h2':¬ vs.toArray.size<2:=by simpa using h2
  rw[if_neg h2',if_neg h2'];refine Ac (BJ (core (by lia)) (λκ s0 hk=>?_) λ_ _ z=>z);obtain⟨rfl,hk⟩:=hk;refine Ac (BJ hk (λr' s' hr=>?_) λ_ _ z=>z);obtain⟨rfl,hf,p,g,hp,ha⟩:=hr;obtain⟨⟨⟩,so⟩:=r'
  try dsimp only
  exact fin p so g hp ha hf
theorem zmF{P:PySem.Fin -> Ae -> Prop}(F:zi9 X σ H0 f xs κV)
    (K:SK X pins σ H0 s D st e κV []) (r:Vals xs vs) (hz:xs.length<=sizeLine)
    (h:∀H' s' ks,ks.length=vs.length->Same H0 H'->SK X pins σ H' s' D st e κV ks->As (Az X.prog X.w) X.A.in1.in1 (ksk_end D false vs.toArray e (.ref st) (ks.map Ay).toArray) P E s') :
    As (Az X.prog X.w) X.A.in1.in1 (ksk_rest D (.ref f) false vs.toArray e (.ref st)) P E s:=by
  have hlx:xs.length=vs.length:=r.length;unfold ksk_rest;refine Ac (DG ?_);rw[List.forIn_toArray];refine Ac (BJ (ziU (vs:=vs) (λi s'=>∃H' ks,ks.length=i/\Same H0 H'/\SK X pins σ H' s' D st e κV ks) (λi x s1 hx hP=>?_) vs 0 s rfl (Bj _) ⟨H0,[],rfl,Same.refl _,K⟩) (λ_ s' hd=>?_) λ_ _ z=>z)
  . obtain⟨H1,ks,hkl,hS,K1⟩:=hP;have hi:i<xs.length:=by rw[hlx];exact (Ad.mp hx).1
    have hxx:xs[i]?=some xs[i]:=by simp[hi]
    obtain⟨u,hu,ru⟩:=r.get hxx;rw[hx]at hu
    cases hu
    obtain⟨c,hc⟩:=K1.hs
    have I1:Inv X (pins ++ zdS [D, st] s1.heap) σ H1 s1 := K1.inv.pinned (λb hb => by
        rcases At.mp hb with rfl |hb
        . exact K1.fd
        . rw[AA.mp hb];exact K1.fs) (λb hb=>by
        rcases At.mp hb with rfl |hb
        . exact⟨_,K1.hd,zcV⟩
        . rw[AA.mp hb];exact⟨_,hc,zcV⟩)
    refine Ac (wpAny_attempt (BJ (F _ i _ _ H1 _ hxx hS I1 ru) (λv s2 hv=>?_) λ_ _ hF=>hF.elim));obtain⟨y,H2,I2,ry,hS2,a,ey,ka⟩:=hv;subst ey
    cases (show v=Ay a from ry)
    have p1:=I2.pin (D,Bm "list" #[] e) (Aw _ (Aw _ (zaZ (by simp) K1.hd)));have p2:=I2.pin (st,Bm "list" (ks.map Ay).toArray c) (Aw _ (Aw _ (zaZ (by simp) hc)));have sb:=BL s2.heap st (AT (·.push (Ay a)));have ea:(ks.map Ay).toArray.push (Ay a)=((ks++[a]).map Ay).toArray:=by simp
    obtain⟨c2,hc2⟩:∃c2,(s2.heap.update st (AT (·.push (Ay a)))).get? st=some (Bm "list" ((ks++[a]).map Ay).toArray c2):=⟨_,by rw[<- ea];exact DD p2.1 (·.push (Ay a))⟩
    try dsimp only
    refine Ac (listUpdate_at p2.1 rfl ?_ (by simp;lia) (by simp;lia));refine Am ⟨rfl,H2,ks++[a],by simp[hkl],hS.trans hS2,I2.unpinned.moved (t':=s2.toks) (K1.fs.again p2.2.1) (λb o hb e=>(sb.2 b λz=>hb (by simp[z])).trans e),K1.fd.again p1.2.1,K1.fs.again p2.2.1,K1.ne,(sb.2 D K1.ne.symm).trans p1.1,⟨c2,hc2⟩,λj b hj=>?_⟩;rcases AC j ks.length with hjl |hjl
    . rw[Ao hjl]at hj;exact hS2.seqT (K1.hk j b hj)
    . rw[AB hjl]at hj
      have hj0:j-ks.length=0:=by have:=(Ad.mp hj).1;simp at this;lia
      rw[hj0]at hj
      cases AI hj
      rw[show j=i by lia];exact ka
  . obtain⟨H',ks,hkl,hS,K'⟩:=hd;obtain⟨c,hc⟩:=K'.hs
    try dsimp only
    refine Ac (listItems_at hc rfl ?_);exact h H' s' ks hkl hS K'
theorem zmD{P:PySem.Fin -> Ae -> Prop}{c0:Nat}(F:zi9 X σ H0 f xs κV)
  (I:Inv X pins σ H0 s) (fb:FpOk X pins H0 D) (hd:s.heap.get? D=some (Bm "list" vs.toArray c0)) (r:Vals xs vs) (hz:xs.length<=sizeLine)
  (h:∀e H' s' ks st,ks.length=vs.length->Same H0 H'->SK X pins σ H' s' D st e κV ks->As (Az X.prog X.w) X.A.in1.in1 (ksk_end D false vs.toArray e (.ref st) (ks.map Ay).toArray) P E s') :
  As (Az X.prog X.w) X.A.in1.in1 (ksk_tree D (.ref f) false) P E s:=by
 have hlx:xs.length=vs.length:=r.length;have s1:=BL s.heap D (AT λ_=>(#[]:Array Ab));obtain⟨e1,ho1⟩:∃e1,(s.heap.update D (AT λ_=>(#[]:Array Ab))).get? D=some (Bm "list" #[] e1):=⟨_,DD hd λ_=>#[]⟩;have hDl:D<s.heap.objs.size:=Aq hd;unfold ksk_tree;refine Ac (listItems_at hd rfl ?_);refine Ac (listUpdate_at hd rfl ?_ (by simp;lia) (Bj _));refine Ac (seqEpoch_at ho1 rfl ?_);refine Ac (wpAny_newTuple ?_ (by simp;lia));refine Ac (wpAny_newList ?_ (Bj _));refine Be ?_
 have I1:Inv X pins σ H0 { s with heap:=s.heap.update D (AT λ_=>(#[]:Array Ab)) }:=I.moved (t':=s.toks) fb (λb o hb e=>(s1.2 b λz=>hb (by simp[z])).trans e);have keep:∀b o,(s.heap.update D (AT λ_=>(#[]:Array Ab))).get? b=some o->(((s.heap.update D (AT λ_=>(#[]:Array Ab))).push (Bm "tuple" vs.toArray.toList.toArray 0)).push (Bm "list" #[] 0)).get? b=some o:=λb o q=>Ag _ (Ag _ q)
 have hsz:((s.heap.update D (AT λ_=>(#[]:Array Ab))).push (Bm "tuple" vs.toArray.toList.toArray 0)).objs.size=s.heap.objs.size+1:=by rw[size_push',Heap.size_update]
 have I2:Inv X pins σ H0 { s with heap:=((s.heap.update D (AT λ_=>(#[]:Array Ab))).push (Bm "tuple" vs.toArray.toList.toArray 0)).push (Bm "list" #[] 0) }:=I1.kept (t':=s.toks) keep;show As (Az X.prog X.w) X.A.in1.in1 (ksk_rest D (.ref f) false vs.toArray _ (.ref ((s.heap.update D (AT λ_=>(#[]:Array Ab))).push (Bm "tuple" vs.toArray.toList.toArray 0)).objs.size)) P E { s with heap:=((s.heap.update D (AT λ_=>(#[]:Array Ab))).push (Bm "tuple" vs.toArray.toList.toArray 0)).push (Bm "list" #[] 0) };rw[hsz];have hss:(((s.heap.update D (AT λ_=>(#[]:Array Ab))).push (Bm "tuple" vs.toArray.toList.toArray 0)).push (Bm "list" #[] 0)).get? (s.heap.objs.size+1)=some (Bm "list" #[] 0):=by rw[<- hsz];exact AD _ rfl
 exact zmF F ⟨I2,fb,I.fpOk (Cp _) (I.hok.fresh (Cp _)),Nat.ne_of_gt (Nat.lt_succ_of_lt hDl),keep _ _ ho1,⟨0,by simpa using hss⟩,λi a ha=>by simp at ha⟩ r hz λH' s' ks a b c=>h _ H' s' ks _ a b c
end
section
variable {X:Cx}{k:Nat}{f:Addr}{fd:Br}{ps:List Str}{sp:Sp}{pins:List (Addr×Obj)}{σ:St}{H0:Hp}{s:Ae}{l:Addr}{κV:Nat->List V}{G:Array Nat->Prop}{xs:List V}{Q:VK}
theorem zjA(F:zi9 X σ H0 f xs κV)
  (hl:SqL X.K H0 l xs) (hG:∀p,G p->∀i∈p.toList,i<xs.length) (h0:xs.length<2->G (List.toArray (AJ xs.length)))
  (core:∀{vs:List Ab} {ks:List Addr} {H':Hp} {s':Ae} {D st:Addr} {e:Nat},Vals xs vs->SK X pins σ H' s' D st e κV ks->ks.length=vs.length->2<=vs.length->zja X G (ks.map Ay) vs X.xe s')
  (hQ:∀p D H',G p->p.size=xs.length->H0 D=none->Same H0 H'->H' D=some (.lst (outV xs p))->Q (.ref D) H') (I:Inv X pins σ H0 s) :
  As (Az X.prog X.w) X.A (call (.builtin "sorted") [.ref l] [(B7 "key",.ref f)]) (EP X pins σ Q) X.xe s:=by
 obtain⟨vs,r,pl,hz⟩:=I.list hl;have hlx:xs.length=vs.length:=r.length;refine call_function_entry_kw kind_sorted plain_sorted entry_sorted (ksk_s1 _ _) ?_
 unfold Builtin.«sorted»;refine Ac (m:=checkCount "sorted" 1 1 _) (Am ?_);refine Ac (collect_list pl.isList ?_ (by first |lia | (rw[An];lia) | (simp;lia)));refine Ac (wpAny_newList ?_ (by first |lia | (rw[An];lia) | (simp;lia)));have hsz:((s.heap.push (Bm "list" #[] 0)).update s.heap.objs.size (AT (·++vs.toArray))).objs.size=s.heap.objs.size+1:=by rw[Heap.size_update,size_push']
 have hoL:(((s.heap.push (Bm "list" #[] 0)).update s.heap.objs.size (AT (·++vs.toArray))).push (Bm "list" vs.toArray 0)).get? (s.heap.objs.size+1)=some (Bm "list" vs.toArray 0):=by rw[<- hsz];exact AD _ rfl
 have keep:∀b o,s.heap.get? b=some o->(((s.heap.push (Bm "list" #[] 0)).update s.heap.objs.size (AT (·++vs.toArray))).push (Bm "list" vs.toArray 0)).get? b=some o:=λb o q=>by have hlt:b<s.heap.objs.size:=Aq q;rw[Heap.get?_push_ne _ _ _ (by rw[hsz];exact AK (Nat.lt_succ_of_lt hlt)),Heap.get?_update_ne _ _ _ _ (AK hlt),Heap.get?_push_ne _ _ _ (AK hlt)];exact q
 show As _ _ _ _ _ { s with heap:=((s.heap.push (Bm "list" #[] 0)).update s.heap.objs.size (AT (·++vs.toArray))).push (Bm "list" vs.toArray 0) };rw[hsz];refine Ac (Be (wpAny_call_entry_kw slot_list_sort ⟨_,hoL,rfl⟩ entry_list_sort ?body (ksk_l1 _ _)))
 case body =>
  show As (Az X.prog X.w) X.A.in1.in1 (Builtin.«list.sort» ⟨[.ref (s.heap.objs.size+1)],[(B7 "key",.ref f)]⟩) _ _ _;rw[ksk_t1];have I1:Inv X pins σ H0 { s with heap:=((s.heap.push (Bm "list" #[] 0)).update s.heap.objs.size (AT (·++vs.toArray))).push (Bm "list" vs.toArray 0) }:=I.kept (t':=s.toks) keep;have hDn:H0 (s.heap.objs.size+1)=none:=I.hok.fresh (Cp _);refine zmD F I1 (I.fpOk (Cp _) hDn) hoL r hz λe H' s' ks st hks hS K=>?_
  refine znq K hks r hz hG (λh2=>by rw[<- hlx];exact h0 (by lia)) (core r K hks) λp s2 g hp I2=>⟨_,rfl,?_⟩
  refine Am ⟨_,rfl,.ref (s.heap.objs.size+1),_,I2,rfl,hQ p _ _ g hp hDn (λb o q=>?_) zaa⟩;rw[zam (zaq q hDn)];exact hS b o q
end
section
variable {X:Cx}{x:Str}{p pos kp kpos:Pos}{e:Expr}{te:TE}{k:Nat}{f:Addr}{fd:Br}{ps:List Str}{sp:Sp}{fn:Str}
noncomputable def tMinK(K:W.Frag)(te:TE)(sp:Sp):TE:=λσ H Q=>te σ H λv H1=>∃l xs,∃ κ:Nat->List Int,[v]=[V.ref l]/\SqL K H1 l xs/\0<xs.length /\
 (∀i x H2,xs[i]?=some x->Same H1 H2->sp [x] H2 (λv H'=>Same H2 H'/\∃a,v=.ref a/\SqT K H' a ((κ i).map V.int)) E0)/\∀i x H',xs[i]?=some x->Least κ xs.length i->Same H1 H'->Q x H'
theorem zmP (F:FnOk X.prog X.w X.K X.mg X.base CX0 k f fd ps sp) (hr:Room (k + 1) X.A) (hb:Binds X.K fd ps []) (hg:Gl X "min") (hm:X.mg "min" = none) (hgf:Gl X fn) (hmf:X.mg fn=some (.ref f)) (he:PE X e te)
  (hdb:(fn == ("__debug__" : Str))=false:=by decide) (hse:A4 [e] X.env=[(false,eval e X.env)]:=by rfl) (hh:X.calm=true:=by rfl)
  (hall:(Dx pos (Cn [⟨some "key",.Name fn kp,kpos⟩] X.env)).all (·.1.isSome)=true:=by rfl) (hkw:(Dx pos (Cn [⟨some "key",.Name fn kp,kpos⟩] X.env)).any (·.1.isNone)=false:=by rfl)
  (hks:(Dx pos (Cn [⟨some "key",.Name fn kp,kpos⟩] X.env)).filterMap (·.1)=[B7 "key"]:=by rfl) :
  PE X (.Call (.Name "min" p) [e] [⟨some "key",.Name fn kp,kpos⟩] pos) (tMinK X.K te sp):=by
 intro pins s σ H Q I h;refine B4 (zdT I hg hm boot_min ?_ (by decide) (by decide))
 refine callWith_kw (thn (zah he zab (hs:=hse) pos pins s σ H (λvs H1=>∃l xs,∃ κ:Nat->List Int,vs=[V.ref l]/\SqL X.K H1 l xs/\0<xs.length /\
  (∀i x H2,xs[i]?=some x->Same H1 H2->sp [x] H2 (λv H'=>Same H2 H'/\∃a,v=.ref a/\SqT X.K H' a ((κ i).map V.int)) E0)/\∀i x H',xs[i]?=some x->Least κ xs.length i->Same H1 H'->Q x H') I ?_) λus s1 ⟨vs,H1,I1,r,q⟩=>?_) (by rw[hse];rfl) (by rw[hse];rfl) hall hkw
 .show te σ H _;exact h
 .obtain⟨l,xs,κ,rfl,hq,hne,turn,hQ⟩:=q;obtain⟨u,rfl,ru⟩:=Vals.one r
  cases (show u=Ay l from ru)
  refine thn (zki (nm:=some "key") (kpos:=kpos) (zdH (v:=.ref f) hgf hmf rfl hdb) zmi pos pins s1 σ H1 (λzs H2=>zs=[.ref f]/\H2=H1) I1 ⟨rfl,rfl⟩) λws s2 ⟨zs,H2,I2,rz,q2⟩=>?_
  obtain⟨rfl,rfl⟩:=q2;obtain⟨u2,rfl,ru2⟩:=Vals.one rz
  cases (show u2=Ay f from ru2)
  rw[hks];exact zk8 (I1.ok.hd hh) F hr hb turn hq hne hQ I2
theorem zk7 (hu:X.A.units + 1 < cLine) (hh:X.calm=true):CallR X (.builtin "min") (λvs H Q => ∃l xs, ∃ κ : Nat -> List Int, vs = [.ref l] /\ SqL X.K H l xs /\ 0 < xs.length /\
  (∀i x,xs[i]?=some x->∃a,x=.ref a/\SqT X.K H a ((κ i).map V.int))/\∀i x H',xs[i]?=some x->Least κ xs.length i->Same H H'->Q x H'):=by
 intro pins s σ H vs us Q I r h;obtain⟨l,xs,κ,rfl,hq,hne,turn,hQ⟩:=h;obtain⟨u,rfl,ru⟩:=Vals.one r
 cases (show u=Ay l from ru)
 exact zk6 (I.ok.hd hh) hu turn hq hne hQ I
end
end L2
namespace TS
open PySem PyProof.Rows
structure LtOk (M:Model) (A:AS) (E:Ab->Ae->Prop) (s:Ae) (kd:Ci) (S:Keyed->Prop) (L:Keyed->Keyed->Bool):Prop where
 lt:∀x y,S x->S y->∀(st:BZ) (Q:Option Bool->BZ->Prop),kindOf st=kd->Q (some (L x y)) st->wpS M A E s (lt' x y) Q st
 tr:∀x y z,S x->S y->S z->L y x=false->L z y=false->L z x=false
 as:∀x y,S x->S y->L x y=true->L y x=false
section
variable {M:Model}{A:AS}{E:Ab->Ae->Prop}{s:Ae}{kd:Ci}{S:Keyed->Prop}{L:Keyed->Keyed->Bool}
theorem zie{arr:Array Keyed}{i:Nat}{x:Keyed}{st:BZ}{Q:Keyed->BZ->Prop}(h:arr[i]?=some x)(q:Q x st):wpS M A E s (elem' arr i) Q st:=by rw[elem'_eq,h];exact BI q
end
end TS
namespace TS
section
variable {α:Type}{le:α->α->Prop}
structure MI (le:α->α->Prop) (a b out:List α) (ia ib:Nat):Prop where
 ha:ia<=a.length
 hb:ib<=b.length
 perm:(out++a.drop ia++b.drop ib).Perm (a++b)
 sorted:out.Pairwise le
 lea:∀x∈out,∀y∈a.drop ia,le x y
 leb:∀x∈out,∀y∈b.drop ib,le x y
end
end TS
namespace TS
open PySem PyProof.Rows
noncomputable abbrev leOf(L:Keyed->Keyed->Bool):Keyed->Keyed->Prop:=λx y=>L y x=false
section
variable {M:Model}{A:AS}{E:Ab->Ae->Prop}{s:Ae}{kd:Ci}{S:Keyed->Prop}{L:Keyed->Keyed->Bool}
theorem LtOk.rf(O:LtOk M A E s kd S L){x:Keyed}(h:S x):L x x=false:=by
 cases q:L x x with
 |false=>rfl
 |true=>rw[O.as x x h h q]at q;cases q
structure Two (S:Keyed->Prop) (L:Keyed->Keyed->Bool) (a b:Array Keyed):Prop where
 sa:a.toList.Pairwise (leOf L)
 sb:b.toList.Pairwise (leOf L)
 Sa:∀x∈a.toList,S x
 Sb:∀x∈b.toList,S x
variable {a b:Array Keyed}{out:Array Keyed}{ia ib:Nat}
end
end TS
set_option maxHeartbeats 8000000
namespace TS
open PySem PyProof.Rows
section
variable {M:Model}{A:AS}{E:Ab->Ae->Prop}{s:Ae}{kd:Ci}{S:Keyed->Prop}{L:Keyed->Keyed->Bool}{a b out:Array Keyed}{ia ib:Nat}
noncomputable abbrev LH:=Option (Array Keyed)×Array Keyed×Nat×Nat×Nat×Nat×Nat
variable {Q:ForInStep LH->BZ->Prop}{z:BZ}{N mg ac bc:Nat}{x y:Keyed}
end
section
variable {M:Model}{A:AS}{E:Ab->Ae->Prop}{s:Ae}{kd:Ci}{S:Keyed->Prop}{L:Keyed->Keyed->Bool}{a b:Array Keyed}
end
end TS
set_option maxHeartbeats 8000000
namespace TS
open PySem PyProof.Rows
section
variable {α:Type}{le:α->α->Prop}
structure MJ (le:α->α->Prop) (a b r:List α) (na nb:Nat):Prop where
 ha:na<=a.length
 hb:nb<=b.length
 perm:(a.take na++b.take nb++r).Perm (a++b)
 sorted:r.Pairwise le
 lea:∀x∈a.take na,∀y∈r,le x y
 leb:∀x∈b.take nb,∀y∈r,le x y
end
end TS
set_option maxHeartbeats 8000000
namespace TS
open PySem PyProof.Rows
section
variable {M:Model}{A:AS}{E:Ab->Ae->Prop}{s:Ae}{kd:Ci}{S:Keyed->Prop}{L:Keyed->Keyed->Bool}{a b out:Array Keyed}{na nb:Nat}
end
end TS
set_option maxHeartbeats 8000000
namespace TS
open PySem PyProof.Rows
section
variable {M:Model}{A:AS}{E:Ab->Ae->Prop}{s:Ae}{kd:Ci}{S:Keyed->Prop}{L:Keyed->Keyed->Bool}{a b out:Array Keyed}{na nb:Nat}
end
end TS
set_option maxHeartbeats 8000000
namespace TS
open PySem PyProof.Rows
section
variable {M:Model}{A:AS}{E:Ab->Ae->Prop}{s:Ae}{kd:Ci}{S:Keyed->Prop}{L:Keyed->Keyed->Bool}{a b out:Array Keyed}{na nb:Nat}
noncomputable abbrev RH:=Option (Array Keyed)×Nat×Nat×Array Keyed×Nat×Nat×Nat
variable {Q:ForInStep RH->BZ->Prop}{z:BZ}{N mg ac bc:Nat}{x y:Keyed}
end
section
variable {M:Model}{A:AS}{E:Ab->Ae->Prop}{s:Ae}{kd:Ci}{S:Keyed->Prop}{L:Keyed->Keyed->Bool}{a b:Array Keyed}
end
end TS
namespace TS
open PySem PyProof.Rows
section
variable {M:Model}{A:AS}{E:Ab->Ae->Prop}{s:Ae}{kd:Ci}{S:Keyed->Prop}{L:Keyed->Keyed->Bool}
noncomputable def Seg(L:Keyed->Keyed->Bool)(a:Array Keyed)(lo n:Nat):Prop:=∀(i j:Nat) x y,i<=j->j<n->a[lo+i]?=some x->a[lo+j]?=some y->L y x=false
noncomputable def Rev(L:Keyed->Keyed->Bool)(a:Array Keyed)(lo n:Nat):Prop:=∀(i j:Nat) x y,i<=j->j<n->a[lo+i]?=some x->a[lo+j]?=some y->L x y=false
structure SB (kd:Ci) (S:Keyed->Prop) (st0 st:BZ) (lo hi:Nat):Prop where
 kind:kindOf st=kd
 pend:De st=De st0
 fail:Db st=Db st0
 perm:(AN st).Perm (AN st0)
 out:∀k:Nat,k<lo∨hi<=k->(AN st)[k]?=(AN st0)[k]?
 all:∀(k:Nat) x,(AN st)[k]?=some x->S x
theorem SB.size{st0 st:BZ}{lo hi:Nat}(h:SB kd S st0 st lo hi):(AN st).size=(AN st0).size:=h.perm.size_eq
theorem zfm(O:LtOk M A E s kd S L){st:BZ}{i j:Nat}{x y:Keyed}{Q:Option Bool->BZ->Prop}(hk:kindOf st=kd)(hi:(AN st)[i]?=some x)(hj:(AN st)[j]?=some y)(sx:S x)(sy:S y)(q:Q (some (L x y)) st):wpS M A E s (ltAt' i j) Q st:=by rw[ltAt'_eq];refine Bb (wpS_get ?_);refine Bb (zie hi ?_);refine Bb (zie hj ?_);exact O.lt x y sx sy st Q hk q
theorem zcL{st:BZ}{i:Nat}(h:i<(AN st).size):∃x,(AN st)[i]?=some x:=⟨(AN st)[i],by simp[h]⟩
theorem Seg.more(O:LtOk M A E s kd S L){a:Array Keyed}{lo n:Nat}{x y:Keyed}(hS:∀(k:Nat) x,a[k]?=some x->S x)(h:Seg L a lo (n+1))(hx:a[lo+n]?=some x)(hy:a[lo+(n+1)]?=some y)(hl:L y x=false):Seg L a lo (n+2):=by
 intro i j u v hij hj hu hv;rcases AC j (n+1) with q |q
 .exact h i j u v hij q hu hv
 .have ej:j=n+1:=by lia
  subst ej;rw[hy]at hv
  cases hv
  rcases AC i (n+1) with q2 |q2
  .have h1:=h i n u x (by lia) (by lia) hu hx;exact O.tr u x y (hS _ _ hu) (hS _ _ hx) (hS _ _ hy) h1 hl
  .have ei:i=n+1:=by lia
   subst ei;rw[hy]at hu
   cases hu
   exact O.rf (hS _ _ hy)
noncomputable def Blk(L:Keyed->Keyed->Bool)(a:Array Keyed)(lo n q:Nat):Prop:=∀(i j:Nat) x y,n-(q+1)<=i->i<n->n-(q+1)<=j->j<n->a[lo+i]?=some x->a[lo+j]?=some y->L x y=false
theorem SB.refl{st:BZ}{lo hi:Nat}(hk:kindOf st=kd)(hS:∀(k:Nat) x,(AN st)[k]?=some x->S x):SB kd S st st lo hi:=⟨hk,rfl,rfl,Array.Perm.refl _,λ_ _=>rfl,hS⟩
theorem SB.mir{st0 st:BZ}{lo hi i j:Nat}(h:SB kd S st0 st lo hi)(h1:lo<=i)(h2:j<=hi)(hz:j<=(AN st).size):SB kd S st0 (setArr st (mirror (AN st) i j ((j-i) / 2))) lo hi:=by
 refine⟨h.kind,h.pend,h.fail,(mirror_perm _ _ _ _).trans h.perm,λk hk=>?_,λk x hx=>?_⟩
 .show (mirror (AN st) i j ((j-i) / 2))[k]?=_;rw[Bz hz,if_neg (by lia)];exact h.out k hk
 .have hx':(mirror (AN st) i j ((j-i) / 2))[k]?=some x:=hx;rw[Bz hz]at hx';split at hx'
  .exact h.all _ x hx'
  .exact h.all _ x hx'
theorem Rev.blk{a:Array Keyed}{lo n q:Nat}(h:Rev L a lo n)(hb:Blk L a lo n q)(hq:q<n)(hz:lo+n<=a.size):Rev L (mirror a (lo+n-(q+1)) (lo+n) ((lo+n-(lo+n-(q+1))) / 2)) lo n:=by
 intro i j x y hij hj hx hy;rw[Bz hz]at hx hy
 by_cases hi:lo+n-(q+1)<=lo+i/\lo+i<lo+n
 .rw[if_pos hi]at hx;rw[if_pos (by lia)]at hy;rw[show lo+n-(q+1)+(lo+n)-1-(lo+i)=lo+(n-(q+1)+n-1-i) by lia]at hx;rw[show lo+n-(q+1)+(lo+n)-1-(lo+j)=lo+(n-(q+1)+n-1-j) by lia]at hy;exact hb _ _ x y (by lia) (by lia) (by lia) (by lia) hx hy
 .rw[if_neg hi]at hx
  by_cases hj':lo+n-(q+1)<=lo+j/\lo+j<lo+n
  .rw[if_pos hj']at hy;rw[show lo+n-(q+1)+(lo+n)-1-(lo+j)=lo+(n-(q+1)+n-1-j) by lia]at hy;exact h i _ x y (by lia) (by lia) hx hy
  .rw[if_neg hj']at hy;exact h i j x y hij hj hx hy
theorem Rev.flip{a:Array Keyed}{lo n:Nat}(h:Rev L a lo n)(hz:lo+n<=a.size):Seg L (mirror a lo (lo+n) ((lo+n-lo) / 2)) lo n:=by intro i j x y hij hj hx hy;rw[Bz hz,if_pos (by lia)]at hx hy;rw[show lo+(lo+n)-1-(lo+i)=lo+(n-1-i) by lia]at hx;rw[show lo+(lo+n)-1-(lo+j)=lo+(n-1-j) by lia]at hy;exact h _ _ y x (by lia) (by lia) hy hx
theorem Rev.more(O:LtOk M A E s kd S L){a:Array Keyed}{lo n:Nat}{x y:Keyed}(hS:∀(k:Nat) x,a[k]?=some x->S x)(h:Rev L a lo (n+1))(hx:a[lo+n]?=some x)(hy:a[lo+(n+1)]?=some y)(hl:L x y=false):Rev L a lo (n+2):=by
 intro i j u v hij hj hu hv;rcases AC j (n+1) with q |q
 .exact h i j u v hij q hu hv
 .have ej:j=n+1:=by lia
  subst ej;rw[hy]at hv
  cases hv
  rcases AC i (n+1) with q2 |q2
  .have h1:=h i n u x (by lia) (by lia) hu hx;exact O.tr y x u (hS _ _ hy) (hS _ _ hx) (hS _ _ hu) hl h1
  .have ei:i=n+1:=by lia
   subst ei;rw[hy]at hu
   cases hu
   exact O.rf (hS _ _ hy)
theorem Blk.more(O:LtOk M A E s kd S L){a:Array Keyed}{lo n q:Nat}{x y:Keyed}(hS:∀(k:Nat) x,a[k]?=some x->S x)(h:Blk L a lo (n+1) q)(hq:q<n+1)(hx:a[lo+n]?=some x)(hy:a[lo+(n+1)]?=some y)(h1:L x y=false)(h2:L y x=false):Blk L a lo (n+2) (q+1):=by
 have old:∀(i:Nat) u,n+1-(q+1)<=i->i<n+1->a[lo+i]?=some u->L u y=false/\L y u=false:=λi u a1 a2 hu=>by have e1:=h i n u x a1 a2 (by lia) (by lia) hu hx;have e2:=h n i x u (by lia) (by lia) a1 a2 hx hu;exact⟨O.tr y x u (hS _ _ hy) (hS _ _ hx) (hS _ _ hu) h1 e1,O.tr u x y (hS _ _ hu) (hS _ _ hx) (hS _ _ hy) e2 h2⟩
 intro i j u v a1 a2 b1 b2 hu hv;rcases AC i (n+1) with ci |ci
 .rcases AC j (n+1) with cj |cj
  .exact h i j u v (by lia) ci (by lia) cj hu hv
  .have ej:j=n+1:=by lia
   subst ej;rw[hy]at hv;cases hv;exact (old i u (by lia) ci hu).1
 .have ei:i=n+1:=by lia
  subst ei;rw[hy]at hu;cases hu;rcases AC j (n+1) with cj |cj
  .exact (old j v (by lia) cj hv).2
  .have ej:j=n+1:=by lia
   subst ej;rw[hy]at hv;cases hv;exact O.rf (hS _ _ hy)
theorem Blk.one(O:LtOk M A E s kd S L){a:Array Keyed}{lo n:Nat}(hS:∀(k:Nat) x,a[k]?=some x->S x):Blk L a lo (n+1) 0:=λi j x y a1 a2 b1 b2 hx hy=>by
 have ei:i=n:=by lia
 have ej:j=n:=by lia
 subst ei;subst ej;rw[hx]at hy;cases hy;exact O.rf (hS _ _ hx)
theorem zgI{B:Prop}{D:BZ->Prop}(C:BZ->Prop)(g:(∀st,D st->C st)->B)(h:∀st,D st->C st):B:=g h
theorem zgu (O : LtOk M A E s kd S L){st : BZ}{lo nrem : Nat}{Q : Option Nat → BZ → Prop}(h1 : 1 ≤ nrem) (hz : lo + nrem ≤ (AN st).size) (hk : kindOf st = kd) (hS : ∀ (k : Nat) x, (AN st)[k]? = some x → S x)
    (hQ:∀ m st',SB kd S st st' lo (lo+nrem)→1≤m→m≤nrem→Seg L (AN st') lo m→Q (some m) st'):wpS M A E s (countRun' lo nrem) Q st:=by
  rw[countRun'_eq]
  refine Bb (wpS_mono (Dt (I:=λx c st'=>c=(none,x)∧st'=st∧x≤nrem∧Seg L (AN st) lo x)
    (Q:=λc st'=>∃ m,c=(none,m)∧st'=st∧1≤m∧m≤nrem∧Seg L (AN st) lo m∧(m<nrem→∃ x y,(AN st)[lo+m]?=some x∧(AN st)[lo+m - 1]?=some y∧L x y=true)) ?step ?fin ?init) ?post)
  case init =>
    refine⟨rfl,rfl,h1,λi j x y hij hj hx hy=>?_⟩
    have ei:i=0:=by lia
    have ej:j=0:=by lia
    subst ei;subst ej
    rw[hx] at hy
    cases hy
    exact O.rf (hS _ _ hx)
  case fin =>
    rintro c st' ⟨rfl,rfl,hle,hsg⟩
    exact⟨_,rfl,rfl,by lia,hle,hsg,λh=>absurd h (by lia)⟩
  case step =>
    rintro n c st' hn1 hn2 ⟨rfl,rfl,hle,hsg⟩
    obtain⟨x,hx⟩:=zcL (st:=st') (i:=lo+n) (by lia)
    obtain⟨y,hy⟩:=zcL (st:=st') (i:=lo+n - 1) (by lia)
    refine Bb (zfm O hk hx hy (hS _ _ hx) (hS _ _ hy) ?_)
    dsimp only
    by_cases hl:L x y=true
    . rw[if_pos hl]
      exact BI ⟨n,rfl,rfl,hn1,hle,hsg,λ_=>⟨x,y,hx,hy,hl⟩⟩
    . rw[if_neg hl]
      refine BI ⟨rfl,rfl,hn2,?_⟩
      obtain⟨p,rfl⟩:∃ p,n=p+1:=⟨n - 1,by lia⟩
      exact hsg.more O hS (by rw[show lo+(p+1) - 1=lo+p by lia] at hy;exact hy) hx (by simpa using hl)
  case post =>
    rintro c st' ⟨m,rfl,rfl,hm1,hm2,hsg,hnx⟩
    dsimp only
    by_cases hmn:(m == nrem)=true
    . rw[if_pos hmn]
      exact BI (hQ m st' (SB.refl hk hS) hm1 hm2 hsg)
    . rw[if_neg hmn]
      have hlt : m < nrem := by have : m ≠ nrem := by simpa using hmn
                                lia
      obtain⟨x0,y0,hx0,hy0,hl0⟩:=hnx hlt
      refine zgI (D:=λst1=>SB kd S st' st1 lo (lo+nrem)∧Rev L (AN st1) lo m∧(∃ x y,(AN st1)[lo+m]?=some x∧(AN st1)[lo+m - 1]?=some y∧L y x=false)) ?C (λshare=>?g) ?h
      case g =>
        by_cases hm:m > 1
        . rw[if_pos hm]
          obtain⟨a,ha⟩:=zcL (st:=st') (i:=lo) (by lia)
          obtain⟨b,hb⟩:=zcL (st:=st') (i:=lo+m - 1) (by lia)
          refine Bb (zfm O hk ha hb (hS _ _ ha) (hS _ _ hb) ?_)
          dsimp only
          by_cases hr:L a b=true
          . rw[if_pos hr]
            exact BI (hQ m st' (SB.refl hk hS) hm1 hm2 hsg)
          . rw[if_neg hr]
            have hr':L a b=false:=by simpa using hr
            rw[reverseSlice'_eq]
            refine Bb (wpS_modify ?_)
            have hz2:lo+m≤(AN st').size:=by lia
            have hb':(AN st')[lo+(m - 1)]?=some b:=by rw[show lo+(m - 1)=lo+m - 1 by lia];exact hb
            have eqv:Rev L (AN st') lo m:=λi j x y hij hj hx hy=>by
              have e1:=hsg 0 j a y (by lia) hj (by simpa using ha) hy
              have e2:=hsg i (m - 1) x b (by lia) (by lia) hx hb'
              have e3:=O.tr x b a (hS _ _ hx) (hS _ _ hb) (hS _ _ ha) e2 hr'
              have e4:=hsg j (m - 1) y b (by lia) (by lia) hy hb'
              have e5:=hsg 0 i a x (by lia) (by lia) (by simpa using ha) hx
              exact O.tr y b x (hS _ _ hy) (hS _ _ hb) (hS _ _ hx) e4 (O.tr b a x (hS _ _ hb) (hS _ _ ha) (hS _ _ hx) hr' e5)
            have rv2:Rev L (mirror (AN st') lo (lo+m) ((lo+m - lo) / 2)) lo m:=λi j x y hij hj hx hy=>by
              rw[Bz hz2,if_pos (by lia)] at hx hy
              rw[show lo+(lo+m) - 1 - (lo+i)=lo+(m - 1 - i) by lia] at hx
              rw[show lo+(lo+m) - 1 - (lo+j)=lo+(m - 1 - j) by lia] at hy
              exact hsg _ _ y x (by lia) (by lia) hy hx
            refine share _ ⟨(SB.refl hk hS).mir (Ai _) (by lia) hz2,rv2,x0,a,?_,?_,?_⟩
            . show (mirror (AN st') lo (lo+m) ((lo+m - lo) / 2))[lo+m]?=_
              rw[Bz hz2,if_neg (by lia)];exact hx0
            . show (mirror (AN st') lo (lo+m) ((lo+m - lo) / 2))[lo+m - 1]?=_
              rw[Bz hz2,if_pos (by lia),show lo+(lo+m) - 1 - (lo+m - 1)=lo by lia];exact ha
            . have eb:b=y0:=by rw[hb] at hy0;exact AI hy0
              subst eb
              exact O.tr x0 b a (hS _ _ hx0) (hS _ _ hb) (hS _ _ ha) (O.as x0 b (hS _ _ hx0) (hS _ _ hb) hl0) hr'
        . rw[if_neg hm]
          have em:m=1:=by lia
          subst em
          refine share _ ⟨SB.refl hk hS,λi j x y hij hj hx hy=>?_,x0,y0,hx0,hy0,O.as x0 y0 (hS _ _ hx0) (hS _ _ hy0) hl0⟩
          have ei:i=0:=by lia
          have ej:j=0:=by lia
          subst ei;subst ej
          rw[hx] at hy;cases hy
          exact O.rf (hS _ _ hx)
      case h =>
        rintro st1 ⟨sb1,rv1,x1,y1,hx1,hy1,hl1⟩
        have hz1:lo+nrem≤(AN st1).size:=by rw[sb1.size];exact hz
        refine Bb (wpS_lift (DG ⟨rfl,?_⟩))
        obtain⟨p,rfl⟩:∃ p,m=p+1:=⟨m - 1,by lia⟩
        rw[show lo+(p+1) - 1=lo+p by lia] at hy1
        have rv2:Rev L (AN st1) lo (p+1+1):=rv1.more O sb1.all hy1 hx1 hl1
        refine Bb (wpS_mono (Dt (I:=λx c st2=>∃ q,c=(none,x,q)∧SB kd S st' st2 lo (lo+nrem)∧1≤x∧x≤nrem∧q<x∧Rev L (AN st2) lo x∧Blk L (AN st2) lo x q)
          (Q:=λc st2=>∃ x q,c=(none,x,q)∧SB kd S st' st2 lo (lo+nrem)∧1≤x∧x≤nrem∧q<x∧Rev L (AN st2) lo x∧Blk L (AN st2) lo x q) ?step ?fin ⟨0,rfl,sb1,by lia,by lia,by lia,rv2,Blk.one O sb1.all⟩) ?post)
        case fin =>
          rintro c st2 ⟨q,rfl,hh⟩
          exact⟨_,q,rfl,hh⟩
        case step =>
          rintro x c st2 hx1' hx2 ⟨q,rfl,sb2,hn1,hn2,hq,rv,bk⟩
          have hz2:lo+nrem≤(AN st2).size:=by rw[sb2.size];exact hz
          obtain⟨u,hu⟩:=zcL (st:=st2) (i:=lo+x) (by lia)
          obtain⟨v,hv⟩:=zcL (st:=st2) (i:=lo+x - 1) (by lia)
          obtain⟨r,rfl⟩:∃ r,x=r+1:=⟨x - 1,by lia⟩
          rw[show lo+(r+1) - 1=lo+r by lia] at hv
          refine Bb (zfm O sb2.kind hu (by rw[show lo+(r+1) - 1=lo+r by lia];exact hv) (sb2.all _ _ hu) (sb2.all _ _ hv) ?_)
          dsimp only
          by_cases hl:L u v=true
          . rw[if_pos hl]
            have hvu:=O.as u v (sb2.all _ _ hu) (sb2.all _ _ hv) hl
            by_cases hq0:q > 0
            . rw[if_pos hq0,reverseSlice'_eq]
              refine Bb (wpS_modify ?_)
              have hzr:lo+(r+1)≤(AN st2).size:=by lia
              have sb3:=sb2.mir (i:=lo+(r+1) - (q+1)) (j:=lo+(r+1)) (by lia) (by lia) hzr
              have rv3:=rv.blk bk hq hzr
              refine BI ⟨0,rfl,sb3,by lia,by lia,by lia,?_,Blk.one O sb3.all⟩
              have hz3:r<r+1:=by lia
              obtain⟨v2,hv2⟩:=zcL (st:=setArr st2 (mirror (AN st2) (lo+(r+1) - (q+1)) (lo+(r+1)) ((lo+(r+1) - (lo+(r+1) - (q+1))) / 2))) (i:=lo+r) (by show lo+r<(mirror (AN st2) _ _ _).size;rw[mirror_size];lia)
              have hv2':(AN st2)[lo+(r+1 - (q+1)+r - r)]?=some v2:=by
                have h0:(mirror (AN st2) (lo+(r+1) - (q+1)) (lo+(r+1)) ((lo+(r+1) - (lo+(r+1) - (q+1))) / 2))[lo+r]?=some v2:=hv2
                rw[Bz hzr,if_pos (by lia),show lo+(r+1) - (q+1)+(lo+(r+1)) - 1 - (lo+r)=lo+(r+1 - (q+1)+r - r) by lia] at h0
                exact h0
              refine rv3.more O sb3.all hv2 (y:=u) ?_ ?_
              . show (mirror (AN st2) (lo+(r+1) - (q+1)) (lo+(r+1)) ((lo+(r+1) - (lo+(r+1) - (q+1))) / 2))[lo+(r+1)]?=some u
                rw[Bz hzr,if_neg (by lia)];exact hu
              . exact O.tr u v v2 (sb2.all _ _ hu) (sb2.all _ _ hv) (sb2.all _ _ hv2') hvu (rv _ r v2 v (by lia) (by lia) hv2' hv)
            . rw[if_neg hq0]
              exact BI ⟨0,rfl,sb2,by lia,by lia,by lia,rv.more O sb2.all hv hu hvu,Blk.one O sb2.all⟩
          . rw[if_neg hl]
            have hl':L u v=false:=by simpa using hl
            refine Bb (zfm O sb2.kind (by rw[show lo+(r+1) - 1=lo+r by lia];exact hv) hu (sb2.all _ _ hv) (sb2.all _ _ hu) ?_)
            dsimp only
            by_cases hg:L v u=true
            . rw[if_pos hg]
              exact BI ⟨r+1,q,rfl,sb2,hn1,hn2,hq,rv,bk⟩
            . rw[if_neg hg]
              have hg':L v u=false:=by simpa using hg
              exact BI ⟨q+1,rfl,sb2,by lia,by lia,by lia,rv.more O sb2.all hv hu hg',bk.more O sb2.all hq hv hu hg' hl'⟩
        case post =>
          rintro c st2 ⟨x,q,rfl,sb2,hx1',hx2,hq,rv,bk⟩
          dsimp only
          have hz2:lo+nrem≤(AN st2).size:=by rw[sb2.size];exact hz
          refine zgI (D:=λst3=>SB kd S st' st3 lo (lo+nrem)∧Rev L (AN st3) lo x) ?C2 (λshare=>?g2) ?h2
          case g2 =>
            by_cases hq0:q > 0
            . rw[if_pos hq0,reverseSlice'_eq]
              refine Bb (wpS_modify ?_)
              exact share _ ⟨sb2.mir (by lia) (by lia) (by lia),rv.blk bk hq (by lia)⟩
            . rw[if_neg hq0]
              exact share _ ⟨sb2,rv⟩
          case h2 =>
            rintro st3 ⟨sb3,rv3⟩
            have hz3:lo+nrem≤(AN st3).size:=by rw[sb3.size];exact hz
            rw[reverseSlice'_eq]
            refine Bb (wpS_modify ?_)
            have sb4:=sb3.mir (i:=lo) (j:=lo+x) (Ai _) (by lia) (by lia)
            have sg4:=rv3.flip (show lo+x≤(AN st3).size by lia)
            have sg5:Seg L (AN (setArr st3 (mirror (AN st3) lo (lo+x) ((lo+x - lo) / 2)))) lo x:=sg4
            generalize setArr st3 (mirror (AN st3) lo (lo+x) ((lo+x - lo) / 2))=st4 at sb4 sg5
            have hz4:lo+nrem≤(AN st4).size:=by rw[sb4.size];exact hz
            refine Bb (wpS_mono (Dt (I:=λn c st5=>c=(none,n)∧st5=st4∧n≤nrem∧Seg L (AN st4) lo n) (Q:=λc st5=>∃ m,c=(none,m)∧st5=st4∧1≤m∧m≤nrem∧Seg L (AN st4) lo m) ?step ?fin ⟨rfl,rfl,hx2,sg5⟩) ?post)
            case fin =>
              rintro c st5 ⟨rfl,rfl,hle,hsg⟩
              exact⟨_,rfl,rfl,by lia,hle,hsg⟩
            case step =>
              rintro n c st5 hn1 hn2 ⟨rfl,rfl,hle,hsg⟩
              obtain⟨u,hu⟩:=zcL (st:=st5) (i:=lo+n) (by lia)
              obtain⟨v,hv⟩:=zcL (st:=st5) (i:=lo+n - 1) (by lia)
              refine Bb (zfm O sb4.kind hu hv (sb4.all _ _ hu) (sb4.all _ _ hv) ?_)
              dsimp only
              by_cases hl:L u v=true
              . rw[if_pos hl]
                exact BI ⟨n,rfl,rfl,by lia,hle,hsg⟩
              . rw[if_neg hl]
                refine BI ⟨rfl,rfl,hn2,?_⟩
                obtain⟨p,rfl⟩:∃ p,n=p+1:=⟨n - 1,by lia⟩
                exact hsg.more O sb4.all (by rw[show lo+(p+1) - 1=lo+p by lia] at hv;exact hv) hu (by simpa using hl)
            case post =>
              rintro c st5 ⟨n,rfl,rfl,h1n,hn2,hsg⟩
              exact BI (hQ n st5 sb4 h1n hn2 hsg)
end
end TS
namespace TS
open PySem PyProof.Rows
section
variable {M:Model}{A:AS}{E:Ab->Ae->Prop}{s:Ae}{kd:Ci}{S:Keyed->Prop}{L:Keyed->Keyed->Bool}
theorem SB.bub{st0 st:BZ}{lo hi i d:Nat}(h:SB kd S st0 st lo hi)(h1:lo<=i-d)(hd:d<=i)(h2:i<hi)(hz:i<(AN st).size):SB kd S st0 (setArr st (bubble (AN st) i d)) lo hi:=by
 refine⟨h.kind,h.pend,h.fail,(bubble_perm _ _ _).trans h.perm,λk hk=>?_,λk x hx=>?_⟩
 .show (bubble (AN st) i d)[k]?=_;rw[getElem?_bubble hz _ hd,if_neg (by lia),if_neg (by lia)];exact h.out k hk
 .have hx':(bubble (AN st) i d)[k]?=some x:=hx;rw[getElem?_bubble hz _ hd]at hx';split at hx'
  .exact h.all _ x hx'
  .split at hx'
   .exact h.all _ x hx'
   .exact h.all _ x hx'
theorem Seg.ins(O:LtOk M A E s kd S L){a:Array Keyed}{lo k l:Nat}{p:Keyed}(hS:∀(k:Nat) x, a[k]? = some x -> S x)(h:Seg L a lo k)(hlk:l <= k)(hz:lo + k < a.size)(hp:a[lo + k]? = some p)
  (h1:∀(i:Nat) x,i<l->a[lo+i]?=some x->L p x=false) (h2:∀(i:Nat) x,l<=i->i<k->a[lo+i]?=some x->L p x=true):Seg L (bubble a (lo+k) (lo+k-(lo+l))) lo (k+1):=by
 have at':∀(i:Nat) x,i<k+1->(bubble a (lo+k) (lo+k-(lo+l)))[lo+i]?=some x->(i<l/\a[lo+i]?=some x)∨(i=l/\x=p)∨(l<i/\a[lo+(i-1)]?=some x):=λi x hi hx=>by
  rw[getElem?_bubble hz _ (by lia)]at hx
  by_cases e:lo+i=lo+k-(lo+k-(lo+l))
  .rw[if_pos e,hp]at hx;exact .inr (.inl ⟨by lia,(AI hx).symm⟩)
  .rw[if_neg e]at hx
   by_cases e2:lo+k-(lo+k-(lo+l))<lo+i/\lo+i<=lo+k
   .rw[if_pos e2,show lo+i-1=lo+(i-1) by lia]at hx;exact .inr (.inr ⟨by lia,hx⟩)
   .rw[if_neg e2]at hx;exact .inl ⟨by lia,hx⟩
 intro i j x y hij hj hx hy;have sp:=hS _ _ hp;rcases at' i x (by lia) hx with⟨a1,a2⟩ |⟨a1,a2⟩ |⟨a1,a2⟩
 .rcases at' j y hj hy with⟨b1,b2⟩ |⟨b1,b2⟩ |⟨b1,b2⟩
  .exact h i j x y hij (by lia) a2 b2
  .rw[b2];exact h1 i x a1 a2
  .exact h i (j-1) x y (by lia) (by lia) a2 b2
 .subst a2;rcases at' j y hj hy with⟨b1,b2⟩ |⟨b1,b2⟩ |⟨b1,b2⟩
  .lia
  .rw[b2];exact O.rf sp
  .exact O.as x y sp (hS _ _ b2) (h2 (j-1) y (by lia) (by lia) b2)
 .rcases at' j y hj hy with⟨b1,b2⟩ |⟨b1,b2⟩ |⟨b1,b2⟩
  .lia
  .lia
  .exact h (i-1) (j-1) x y (by lia) (by lia) a2 b2
theorem zeT(O:LtOk M A E s kd S L){st:BZ}{lo n ok:Nat}{Q:Bool -> BZ -> Prop}(hok : 1 <= ok)(hn:ok <= n)(hz:lo + n <= (AN st).size)(hk:kindOf st=kd)(hS:∀(k:Nat) x, (AN st)[k]? = some x -> S x)(hs:Seg L (AN st) lo ok)
  (hQ:∀st',SB kd S st st' lo (lo+n)->Seg L (AN st') lo n->Q true st'):wpS M A E s (binarySort' lo n ok) Q st:=by
 rw[binarySort'_eq];have em:max ok 1=ok:=by lia
 rw[em]
 refine Bb (wpS_mono (Dt (I:=λk c st'=>c=(none,())/\SB kd S st st' lo (lo+n)/\k<=n/\Seg L (AN st') lo k)
  (Q:=λc st'=>c=(none,())/\SB kd S st st' lo (lo+n)/\Seg L (AN st') lo n) ?step ?fin ⟨rfl,SB.refl hk hS,hn,hs⟩) ?post)
 case post =>
  rintro c st' ⟨rfl,sb,sg⟩;exact BI (hQ st' sb sg)
 case fin =>
  rintro c st' ⟨rfl,sb,hle,sg⟩;rw[show max ok n=n by lia]at sg;exact⟨rfl,sb,sg⟩
 case step =>
  rintro k c st' hk1 hk2 ⟨rfl,sb,hle,sg⟩;have hz':lo+n<=(AN st').size:=by rw[sb.size];exact hz
  obtain⟨p,hp⟩:=zcL (st:=st') (i:=lo+k) (by lia);dsimp only
  refine Bb (wpS_mono (Dt (I:=λx c st2=>∃l r,c=(none,l,r)/\st2=st'/\l<=r/\r<=k/\r-l<=k-x/\(∀(i:Nat) z,i<l->(AN st')[lo+i]?=some z->L p z=false)/\(∀(i:Nat) z,r<=i->i<k->(AN st')[lo+i]?=some z->L p z=true))
   (Q:=λc st2=>∃l,c=(none,l,l)/\st2=st'/\l<=k/\(∀(i:Nat) z,i<l->(AN st')[lo+i]?=some z->L p z=false)/\(∀(i:Nat) z,l<=i->i<k->(AN st')[lo+i]?=some z->L p z=true)) ?step2 ?fin2 ⟨0,k,rfl,rfl,Bj _,Ai _,Ai _,(λi z h=>absurd h (Nat.not_lt_zero _)),(λi z h1 h2=>absurd h2 (by lia))⟩) ?post2)
  case fin2 =>
   rintro c st2 ⟨l,r,rfl,rfl,h1,h2,h3,h4,h5⟩;have:l=r:=by lia
   subst this;exact⟨l,rfl,rfl,h2,h4,h5⟩
  case step2 =>
   rintro x c st2 _ hx ⟨l,r,rfl,rfl,h1,h2,h3,h4,h5⟩;dsimp only
   by_cases hlr:l ≥ r
   .rw[if_pos hlr];have:l=r:=by lia
    subst this;exact BI ⟨l,rfl,rfl,h2,h4,h5⟩
   .rw[if_neg hlr];obtain⟨u,hu⟩:=zcL (st:=st2) (i:=lo+(l+r) / 2) (by lia);refine Bb (zfm O sb.kind hp hu (sb.all _ _ hp) (sb.all _ _ hu) ?_);dsimp only
    by_cases hl:L p u=true
    .rw[if_pos hl];refine BI ⟨l,(l+r) / 2,rfl,rfl,by lia,by lia,by lia,h4,λi z a1 a2 hz2=>?_⟩
     cases q:L p z with
     |true=>rfl
     |false =>
      have e1:=sg ((l+r) / 2) i u z a1 a2 hu hz2;have e2:=O.tr u z p (sb.all _ _ hu) (sb.all _ _ hz2) (sb.all _ _ hp) e1 q;rw[hl]at e2;cases e2
    .rw[if_neg hl];have hl':L p u=false:=by simpa using hl
     refine BI ⟨(l+r) / 2+1,r,rfl,rfl,by lia,by lia,by lia,λi z a1 hz2=>?_,h5⟩;have e1:=sg i ((l+r) / 2) z u (by lia) (by lia) hz2 hu;exact O.tr z u p (sb.all _ _ hz2) (sb.all _ _ hu) (sb.all _ _ hp) e1 hl'
  case post2 =>
   rintro c st2 ⟨l,rfl,rfl,h2,h4,h5⟩;dsimp only;rw[moveDown'_eq];refine Bb (wpS_modify (BI ⟨rfl,sb.bub (by lia) (by lia) (by lia) (by lia),by lia,?_⟩));exact sg.ins O sb.all h2 (by lia) hp h4 h5
end
end TS
set_option maxHeartbeats 8000000
namespace TS
open PySem PyProof.Rows
noncomputable def wr(a:Array Keyed)(o:Nat)(l:List Keyed)(k:Nat):Array Keyed:=(l.zipIdx k).foldl (λa (p:Keyed×Nat)=>a.setIfInBounds (o+p.2) p.1) a
section
variable {M:Model}{A:AS}{E:Ab->Ae->Prop}{s:Ae}{kd:Ci}{S:Keyed->Prop}{L:Keyed->Keyed->Bool}
structure SM (kd:Ci) (S:Keyed->Prop) (L:Keyed->Keyed->Bool) (st0 st:BZ) (pd:Array (Nat×Nat×Nat)) (lo n:Nat):Prop where
 kind:kindOf st=kd
 pend:De st=pd
 fail:Db st=none
 perm:(AN st).Perm (AN st0)
 out:∀k:Nat,k<lo∨lo+n<=k->(AN st)[k]?=(AN st0)[k]?
 all:∀(k:Nat) x,(AN st)[k]?=some x->S x
 seg:Seg L (AN st) lo n
end
end TS
set_option maxHeartbeats 8000000
namespace TS
open PySem PyProof.Rows
noncomputable abbrev Run:=Nat×Nat×Nat
section
variable {M:Model}{A:AS}{E:Ab->Ae->Prop}{s:Ae}{kd:Ci}{S:Keyed->Prop}{L:Keyed->Keyed->Bool}
noncomputable def Runs(L:Keyed->Keyed->Bool)(a:Array Keyed):List Run->Nat->Nat->Prop
 |[],x,y=>x=y
 |r::l,x,y=>r.1=x/\1<=r.2.1/\Seg L a r.1 r.2.1/\Runs L a l (x+r.2.1) y
structure PD (kd:Ci) (S:Keyed->Prop) (L:Keyed->Keyed->Bool) (a0:Array Keyed) (st:BZ) (lo:Nat):Prop where
 kind:kindOf st=kd
 fail:Db st=none
 perm:(AN st).Perm a0
 all:∀(k:Nat) x,(AN st)[k]?=some x->S x
 runs:Runs L (AN st) (De st).toList 0 lo
end
end TS
namespace L2
open PySem PySem.Spec PyProof.Rows
section
variable {X:Cx}{pins:List (Addr×Obj)}{σ:St}{H:Hp}{s:Ae}{D st:Addr}{e:Nat}{κV:Nat->List V}{ks:List Addr}{E:Ab->Ae->Prop}
end
section
variable {X:Cx}{x:Str}{p pos kp kpos:Pos}{e:Expr}{te:TE}{k:Nat}{f:Addr}{fd:Br}{ps:List Str}{sp:Sp}{fn:Str}
end
section
variable {prog:AH}{w:A1}{A:AS}{R:Result->Ae->Prop}{s:Ae}
theorem zd1{elt:Expr}{c0:Comprehension}{target iter:Expr}{ifs:List Expr}{rest:List Comprehension}{scope:Scope}{pos:Pos}{it acc:Ab}{env:Env}
  (h0:CA (Az prog w) A (.compLoop (.ListComp elt (c0::⟨target,iter,ifs,0⟩::rest) scope pos) 1 it acc env) R s)
  (h:As (Az prog w) A (pyIter it) (λit' s'=>CA (Az prog w) A (.compLoop (.ListComp elt (c0::⟨target,iter,ifs,0⟩::rest) scope pos) 1 it' acc env) R s') (notedBy (Az prog w) A env λx s'=>R (.error x) s') s) :
  CA (Az prog w) A (.compStart (.ListComp elt (c0::⟨target,iter,ifs,0⟩::rest) scope pos) 1 it acc env) R s:=by
 refine codeAny_of_tree ?_
 show As _ _ ((compStart (.ListComp elt (c0::⟨target,iter,ifs,0⟩::rest) scope pos) 1 it acc env).onRaise (λx=>do noteFrame x env;standAt theWindowsPlace)) _ _ s;refine wpAny_notedAt ?_
 unfold compStart;show As _ _ (ask >>= _) _ _ s;refine Ac (wpAny_askSetting (wpAny_ite ?_));split
 .first
   |exact Am (And.intro rfl h0)
   |exact Ac (Am (Am (And.intro rfl h0)))
 .refine Ac (DG ?_);show As _ _ (standAt iter.pos >>= _) _ _ s;exact Ac (Cm (Ac (BJ h (λit' s' h'=>Am (And.intro rfl h')) λ_ _ z=>z)))
end
section
variable {X:Cx}{osc:Scope}{N:List Str}{sc:Scope}{N':List Str}{sel:List (Option Nat)}{pos:Pos}{elt kx vx tg iter tg2 iter2:Expr}{ifs ifs2:List Expr}{wi wi2:TI}{g g2:TG}{tt tt2:TT}{te tk tv:TE}
noncomputable def tNest(wi2:TI)(g2:TG)(tb:TS):TS:=λD σ H=>wi2 σ H λJ H1=>zcw J g2 tb { nx:=D.nx,rt:=λ_ _=>False } σ H1
theorem zmR{Y:Cx}{p:Addr}(hc:Y.calm=true)(hx:Y.xe=λ_ _ => False)(hi2:PI Y tg2 iter2 wi2)(hg2:PG Y tg2 g2)(ht2:PTs Y ifs2 tt2)(he:PE Y elt te)(hs2:∀x, Bi iter2 Y.env x=pure x) :
  PB Y (do
   let x <- eval iter2 Y.env
   standAt iter2.pos
   let x <- Bi iter2 Y.env x
   let _ <- runOwn (.compStart (.ListComp elt [⟨tg,iter,ifs,0⟩,⟨tg2,iter2,ifs2,0⟩] sc pos) 1 (<- Dr [x] (pyIter x)) (.ref p) Y.env) Y.env) (tNest wi2 g2 (tIfs tt2 (zcx p te))):=by
 intro pins s σ H D I h;refine Ac (thn (hi2 pins s σ H _ I h) λv s1 h1=>?_);refine Ac (Cm ?_);rw[hs2];refine Ac (Am ?_);refine Ac (Be (thn h1 λitv s2 h2=>?_));obtain⟨it,fp,tn,J,H2,e,I2,T,st2,f2,h2⟩:=h2;subst e
 have loop:CA (Az Y.prog Y.w) Y.A (.compLoop (.ListComp elt [⟨tg,iter,ifs,0⟩,⟨tg2,iter2,ifs2,0⟩] sc pos) 1 (.ref it) (.ref p) Y.env) (λr s'=>match r with |.ok f=>As (Az Y.prog Y.w) Y.A (pure ()) (λ_ s'=>∃ σ' H',Inv Y pins σ' H' s'/\D.nx σ' H') Y.xe s' |.error e=>cameBackBy (Az Y.prog Y.w) Y.A Y.env Y.xe e s') s2 :=
  zcN (X:=Y) (p:=iter2.pos) (inner:=do let _ <- call (.builtin "list.append") [.ref p,<- eval elt Y.env]) rfl rfl rfl (λB {α t Q E s} h w=>by subst h;exact w) hc hx hg2 ht2 (zhR he) I2 T st2 f2 h2 λfl s' ⟨σ',H',I',_,q⟩=>Am ⟨σ',H',I',q⟩
 refine Ac (wpAny_runOwn (zd1 loop (T.self _ 0 _ _ _ st2 loop)))
theorem zhg{env:Env}{it p:Addr} : compTurn (.ListComp elt [⟨tg, iter, ifs, 0⟩, ⟨tg2, iter2, ifs2, 0⟩] sc pos) 0 (.ref it) (.ref p) env=(do
   standAt iter.pos
   match <- pyNext (.ref it) with
   |none=>pure (.done .next)
   |some v =>
    DC tg (.ref it) v
    assign tg env v
    let mut ok:=true
    for c in ifs do
     if ok then ok <- isTrue c env (eval c env)
    if ok then
     (do
      let x <- eval iter2 env
      standAt iter2.pos
      let x <- Bi iter2 env x
      let _ <- runOwn (.compStart (.ListComp elt [⟨tg,iter,ifs,0⟩,⟨tg2,iter2,ifs2,0⟩] sc pos) 1 (<- Dr [x] (pyIter x)) (.ref p) env) env)
    again (.compLoop (.ListComp elt [⟨tg,iter,ifs,0⟩,⟨tg2,iter2,ifs2,0⟩] sc pos) 0 (.ref it) (.ref p) env)):=by
 unfold compTurn;simp only[bind_assoc,pure_bind];rfl
theorem zjy{it:Addr}{fp:List Addr}{tn:Nat -> Heap -> Prop}{J:It}(T:Turn X.prog X.w X.K tg J fp it tn)(hc:X.calm=true)(hg:InBlk X sc N' λY => PG Y tg g)(ht:InBlk X sc N' λY => PTs Y ifs tt)
  (hi2:InBlk X sc N' λY=>PI Y tg2 iter2 wi2) (hg2:InBlk X sc N' λY=>PG Y tg2 g2) (ht2:InBlk X sc N' λY=>PTs Y ifs2 tt2) (he:InBlk X sc N' λY=>PE Y elt te) (hs2:∀cl C x,Bi iter2 (Ch sc cl C X.env) x=pure x) :
  ∀cl C s0 H0 ex p pins s σ H Dn R,Inv (blk X sc cl C N' s0 H0 ex) pins σ H s->tn 0 s.heap->(∀b∈fp,FpOk (blk X sc cl C N' s0 H0 ex) pins H b)->zcw J g (tIfs tt (tNest wi2 g2 (tIfs tt2 (zcx p te)))) Dn σ H ->
   (∀fl s',(∃ σ' H',Inv (blk X sc cl C N' s0 H0 ex) pins σ' H' s'/\(∀b∈fp,H' b=none)/\Dn.nx σ' H')->R (.ok fl) s')->CA (Az X.prog X.w) X.A (.compLoop (.ListComp elt [⟨tg,iter,ifs,0⟩,⟨tg2,iter2,ifs2,0⟩] sc pos) 0 (.ref it) (.ref p) (Ch sc cl C X.env)) R s :=
 λcl C s0 H0 ex p pins s σ H Dn R I st f W hR =>
  zcN (X:=blk X sc cl C N' s0 H0 ex) (p:=iter.pos) (inner:=do
   let x <- eval iter2 (Ch sc cl C X.env)
   standAt iter2.pos
   let x <- Bi iter2 (Ch sc cl C X.env) x
   let _ <- runOwn (.compStart (.ListComp elt [⟨tg,iter,ifs,0⟩,⟨tg2,iter2,ifs2,0⟩] sc pos) 1 (<- Dr [x] (pyIter x)) (.ref p) (Ch sc cl C X.env)) (Ch sc cl C X.env))
   rfl rfl zhg (λB {α t Q E s} h w=>by subst h;exact w) hc rfl (hg _ _ _ _ _) (ht _ _ _ _ _) (zmR (Y:=blk X sc cl C N' s0 H0 ex) hc rfl (hi2 _ _ _ _ _) (hg2 _ _ _ _ _) (ht2 _ _ _ _ _) (he _ _ _ _ _) (hs2 cl C)) I T st f W hR
noncomputable def zmG(wi:TI)(sel:List (Option Nat))(g:TG)(tt:TT)(wi2:TI)(g2:TG)(tt2:TT)(te:TE)(i:Nat):TS:=λD σ H=>wi σ H λJ H1=>∀p,H1 p=none ->
 zcw J g (tIfs tt (tNest wi2 g2 (tIfs tt2 (zcx p te)))) { nx:=λ_ H'=>D.nx (σ.set i (some (.ref p))) H',rt:=λ_ _=>False } (selSt sel σ) (upd H1 p (.lst []))
theorem zkf{i:Nat}{x:Str}{px spos:Pos}(B:BlkOk osc N sc N' sel)(hnd:X.N.Nodup)(hi':X.N[i]? = some x)(hx:Loc X.env.scope x)(hi:PI X tg iter wi)(hg:InBlk X sc N' λY => PG Y tg g)(ht:InBlk X sc N' λY => PTs Y ifs tt)(hi2:InBlk X sc N' λY => PI Y tg2 iter2 wi2)(hg2:InBlk X sc N' λY => PG Y tg2 g2)(ht2:InBlk X sc N' λY => PTs Y ifs2 tt2)(he:InBlk X sc N' λY => PE Y elt te)(hs2:∀cl C x, Bi iter2 (Ch sc cl C X.env) x=pure x)
  (hsw:swapsWith (.ListComp elt [⟨tg,iter,ifs,0⟩,⟨tg2,iter2,ifs2,0⟩] sc pos) (some (.Name x px)) spos.line X.env=pure true:=by rfl)
  (ho:X.env.scope=osc:=by rfl) (hN:X.N=N:=by rfl) (hc:X.calm=true:=by rfl) (hs:∀x,Bi iter X.env x=pure x:=by intro _;rfl)
  (hf:X.fn x=true∨X.env.scope.names.lookup x=some .local:=by first |exact .inl rfl |exact .inr rfl |assumption) :
  PS X (.Assign [.Name x px] (.ListComp elt [⟨tg,iter,ifs,0⟩,⟨tg2,iter2,ifs2,0⟩] sc pos) spos) (zmG wi sel g tt wi2 g2 tt2 te i):=by
 intro pins s σ H D I h;obtain⟨cl,Cl⟩:=zi4 I.ok B ho;rw[exec_Assign_Name_used _ _ _ _ hsw];refine Ac (Cm (Ac ?_));show As _ X.A (do let _ <- comprehension (.ListComp elt [⟨tg,iter,ifs,0⟩,⟨tg2,iter2,ifs2,0⟩] sc pos) sc X.env _ (newList []) false (eval iter X.env) (some (assign (.Name x px) X.env))) _ _ s;refine Ac (thn (B8 (use:=some (assign (.Name x px) X.env)) (Q:=λ_ s'=>SP X pins D .next s') rfl hs Cl.run B.kind B.names (thn (hi pins s σ H _ I h) λv s1 h1=>thn h1 λitv s2 h2=>?_)) λ_ s' hq=>Am (Am hq));obtain⟨it,fp,tn,J,H2,e,I2,T,st2,f2,h2⟩:=h2;subst e
 refine Bh (zdy (e:=.ListComp elt [⟨tg,iter,ifs,0⟩,⟨tg2,iter2,ifs2,0⟩] sc pos) (inner:=λ_ _=>pure ()) (D:=λp=>{ nx:=λ_ H'=>D.nx (σ.set i (some (.ref p))) H',rt:=λ_ _=>False }) (tb:=λp=>tNest wi2 g2 (tIfs tt2 (zcx p te))) (use:=some (assign (.Name x px) X.env)) B ho hN hc (λacc env R s a b=>C4 a b)
  (zjy (iter:=iter) (pos:=pos) T hc hg ht hi2 hg2 ht2 he hs2) I2 T st2 f2 zgk rfl (h2 _ (I2.hok.fresh (Ai _))) (λC H' s' I3 fC hn hq=>?_) s2.toks cl Cl X.xe)
 obtain⟨m,hn⟩:=hn;obtain⟨_,hq⟩:=hq;show As _ X.A (assign (.Name x px) X.env (.ref s2.heap.objs.size)) _ _ _;refine wpAny_assign_Name (zeh I3 hnd hi' hx (v:=.ref s2.heap.objs.size) rfl (λs4 I4 hch=>?_) hf);obtain⟨a,sb,ha⟩:=hch
 have nC:C≠a:=by
  rcases ha with z |z
  .rw[z];exact fC.2.1
  .exact λq=>fC.2.2.2.2.1 x a z q.symm
 refine⟨m,hn.sameBut sb nC,λh' hs'=>⟨_,H',I4.let_go fC hs',hq⟩⟩
end
end L2
namespace RP
noncomputable def mv(i:Nat):Int×Int:=([(1,0),(1,1),(0,1),(-1,1),(-1,0),(-1,-1),(0,-1),(1,-1)]:List (Int×Int)).getD i (0,0)
noncomputable abbrev Cell:=Int×Int
noncomputable def go(c:Cell)(i:Nat):Cell:=(c.1+(mv i).1,c.2+(mv i).2)
structure Edge where
 c:Cell
 w:Nat
 deriving DecidableEq
noncomputable def gap(e:Edge):Cell:=go e.c ((2*e.w+6) % 8)
noncomputable def stepB(C:Cell->Bool)(e:Edge):Option Nat :=
 if C (go e.c ((2*e.w+7) % 8))=true then some ((2*e.w+7) % 8) else if C (go e.c (2*e.w))=true then some (2*e.w) else none
noncomputable def slant:Option Nat->Bool
 |none=>false
 |some s=>s % 2 == 1
noncomputable def edgeB(e:Edge):Option Nat->Edge
 |none=>⟨e.c,(e.w+1) % 4⟩
 |some s=>if s % 2=1 then ⟨go e.c s,(e.w+3) % 4⟩ else ⟨go e.c s,e.w⟩
noncomputable def nxt(C:Cell->Bool)(e:Edge):Edge:=edgeB e (stepB C e)
noncomputable def IsE(C:Cell->Bool)(e:Edge):Prop:=e.w<4/\C e.c=true/\C (gap e)=false
noncomputable def prv(C:Cell->Bool)(f:Edge):Edge :=
 if C (go f.c ((2*f.w+5) % 8))=true then ⟨go f.c ((2*f.w+5) % 8),(f.w+1) % 4⟩
 else if C (go f.c ((2*f.w+4) % 8))=true then ⟨go f.c ((2*f.w+4) % 8),f.w⟩ else ⟨f.c,(f.w+3) % 4⟩
theorem way4{w:Nat}(h:w<4):w=0∨w=1∨w=2∨w=3:=by lia
noncomputable def mvAdd(a b d:Nat):Bool:=(mv a).1+(mv b).1 == (mv d).1 && (mv a).2+(mv b).2 == (mv d).2
noncomputable def mvNil(a b:Nat):Bool:=(mv a).1+(mv b).1 == 0 && (mv a).2+(mv b).2 == 0
theorem go_go{c:Cell}{a b d:Nat}(h:mvAdd a b d=true):go (go c a) b=go c d:=by unfold mvAdd at h;simp only[BO,beq_iff_eq]at h;unfold go;exact Cu (by show c.1+(mv a).1+(mv b).1=c.1+(mv d).1;lia) (by show c.2+(mv a).2+(mv b).2=c.2+(mv d).2;lia)
theorem zbT{c:Cell}{a b:Nat}(h:mvNil a b=true):go (go c a) b=c:=by unfold mvNil at h;simp only[BO,beq_iff_eq]at h;unfold go;exact Cu (by show c.1+(mv a).1+(mv b).1=c.1;lia) (by show c.2+(mv a).2+(mv b).2=c.2;lia)
theorem f1:∀w<4,mvAdd ((2*w+7) % 8) ((2*((w+3) % 4)+6) % 8) ((2*w+6) % 8)=true:=by decide
theorem f2:∀w<4,mvAdd (2*w) ((2*w+6) % 8) ((2*w+7) % 8)=true:=by decide
theorem f3:∀w<4,(2*((w+1) % 4)+6) % 8=2*w:=by decide
theorem f4:∀w<4,mvNil ((2*w+7) % 8) ((2*((w+3) % 4)+5) % 8)=true:=by decide
theorem f5:∀w<4,mvAdd (2*w) ((2*w+5) % 8) ((2*w+6) % 8)=true:=by decide
theorem f6:∀w<4,mvNil (2*w) ((2*w+4) % 8)=true:=by decide
theorem f7:∀w<4,(2*((w+1) % 4)+5) % 8=(2*w+7) % 8:=by decide
theorem f8:∀w<4,(2*((w+1) % 4)+4) % 8=(2*w+6) % 8:=by decide
theorem odd7(w:Nat):(2*w+7) % 8 % 2=1:=by lia
theorem zaw{C:Cell -> Bool}{e:Edge}(h:IsE C e) :
  (C (go e.c ((2*e.w+7) % 8))=true/\stepB C e=some ((2*e.w+7) % 8)/\nxt C e=⟨go e.c ((2*e.w+7) % 8),(e.w+3) % 4⟩) ∨
  (C (go e.c ((2*e.w+7) % 8))=false/\C (go e.c (2*e.w))=true/\stepB C e=some (2*e.w)/\nxt C e=⟨go e.c (2*e.w),e.w⟩) ∨
  (C (go e.c ((2*e.w+7) % 8))=false/\C (go e.c (2*e.w))=false/\stepB C e=none/\nxt C e=⟨e.c,(e.w+1) % 4⟩):=by
 unfold nxt stepB
 by_cases h1:C (go e.c ((2*e.w+7) % 8))=true
 .left;rw[if_pos h1];exact⟨h1,rfl,by simp only[edgeB];rw[if_pos (odd7 _)]⟩
 .right;have h1':C (go e.c ((2*e.w+7) % 8))=false:=by simpa using h1
  rw[if_neg h1]
  by_cases h2:C (go e.c (2*e.w))=true
  .left;rw[if_pos h2];exact⟨h1',h2,rfl,by simp only[edgeB];rw[if_neg (by lia)]⟩
  .right;rw[if_neg h2];exact⟨h1',by simpa using h2,rfl,rfl⟩
theorem zcc{C:Cell->Bool}{e:Edge}(h:IsE C e):IsE C (nxt C e):=by
 obtain⟨hw,hc,hg⟩:=id h;rcases zaw h with⟨h1,_,q⟩ |⟨h1,h2,_,q⟩ |⟨h1,h2,_,q⟩ <;> rw[q]
 .refine⟨AU _ (by decide),h1,?_⟩;unfold gap;rw[go_go (f1 _ hw)];exact hg
 .refine⟨hw,h2,?_⟩;unfold gap;rw[go_go (f2 _ hw)];exact h1
 .refine⟨AU _ (by decide),hc,?_⟩;unfold gap;simp only;rw[f3 _ hw];exact h2
theorem zkg{C:Cell->Bool}{e:Edge}(h:IsE C e):prv C (nxt C e)=e:=by
 obtain⟨hw,hc,hg⟩:=id h;unfold gap at hg;rcases zaw h with⟨h1,_,q⟩ |⟨h1,h2,_,q⟩ |⟨h1,h2,_,q⟩ <;> rw[q] <;> unfold prv <;> simp only
 .rw[zbT (f4 _ hw),if_pos hc];rw[show ((e.w+3) % 4+1) % 4=e.w by lia]
 .rw[go_go (f5 _ hw),hg,if_neg (by decide),zbT (f6 _ hw),if_pos hc]
 .rw[f7 _ hw,h1,if_neg (by decide),f8 _ hw,hg,if_neg (by decide)];rw[show ((e.w+1) % 4+3) % 4=e.w by lia]
theorem zeJ{C:Cell->Bool}{e f:Edge}(he:IsE C e)(hf:IsE C f)(h:nxt C e=nxt C f):e=f:=by rw[<- zkg he,<- zkg hf,h]
noncomputable def Chain(C:Cell->Bool)(b:Edge)(es:List Edge):Prop:=es[0]?=some b/\(∀i e f,es[i]?=some e->es[i+1]?=some f->f=nxt C e)/\(∀e∈es,IsE C e)/\es.Nodup
theorem Chain.start{C:Cell->Bool}{b:Edge}(h:IsE C b):Chain C b [b] :=
 ⟨rfl,λi e f _ h2=>by simp at h2,λe he=>by rw[AA.mp he];exact h,by simp⟩
theorem Chain.more{C:Cell->Bool}{b l:Edge}{es:List Edge}(h:Chain C b (es++[l]))(hn:nxt C l≠b):Chain C b ((es++[l])++[nxt C l]):=by
 obtain⟨h0,hs,hE,hnd⟩:=h;have hl:(es++[l])[es.length]?=some l:=by simp
 have lE:=hE l (by simp);refine⟨?_,λi e f h1 h2=>?_,λe he=>?_,?_⟩
 .rw[Ao (by simp)];exact h0
 .rcases AC (i+1) (es++[l]).length with hi |hi
  .rw[Ao (by lia)]at h1;rw[Ao hi]at h2;exact hs i e f h1 h2
  .have hi2:=(Ad.mp h2).1;simp at hi2 hi;have hi3:i=es.length:=by lia
   subst hi3;rw[Ao (by simp)]at h1;rw[hl]at h1
   cases h1
   rw[AB (by simp)]at h2;simp at h2;exact h2.symm
 .rcases Bf.mp he with he |he
  .exact hE e he
  .rw[AA.mp he];exact zcc lE
 .rw[List.nodup_append];refine⟨hnd,by simp,λx hx y hy=>?_⟩;rw[AA.mp hy];intro e;subst e;obtain⟨i,hi,ei⟩:=AQ hx;rcases Bu i with rfl |hp
  .rw[Aa hi,ei]at h0;exact hn (AI h0)
  .have hi':i-1<(es++[l]).length:=by lia
   have e1:=hs (i-1) ((es++[l])[i-1]) (nxt C l) (Aa hi') (by rw[show i-1+1=i by lia,Aa hi,ei]);have e2:=zeJ lE (hE _ (AW hi')) e1;have e3:es.length=i-1:=(CM (by simp) hnd).mp (by rw[hl,Aa hi',<- e2]);simp at hi;lia
theorem za1{α:Type} [DecidableEq α]:∀{a b:List α},a.Nodup->(∀x∈a,x∈b)->a.length<=b.length
 |[],_,_,_=>Bj _
 |x::a,b,hn,hs=>by
  have hx:x∈b:=hs x AE
  have h1:=za1 (a:=a) (b:=b.erase x) (Cd.mp hn).2 (λy hy=>by refine (List.mem_erase_of_ne ?_).mpr (hs y (Au _ hy));intro e;subst e;exact (Cd.mp hn).1 hy)
  rw[List.length_erase_of_mem hx]at h1;have:0<b.length:=List.length_pos_of_mem hx;simp only[A5];lia
noncomputable def sides(cs:List Cell):List Edge:=cs.flatMap λc=>(AJ 4).map λw=>⟨c,w⟩
theorem zbA(cs:List Cell):(sides cs).length=4*cs.length:=by
 unfold sides
 induction cs with
 |nil=>rfl
 |cons c r ih=>rw[List.flatMap_cons,Ap,ih];simp;lia
theorem zdu{cs:List Cell}{e:Edge}:e∈sides cs ↔ e.c∈cs/\e.w<4:=by
 unfold sides;rw[List.mem_flatMap];constructor
 .rintro⟨c,hc,h⟩;obtain⟨w,hw,rfl⟩:=AF.mp h;exact⟨hc,Bq.mp hw⟩
 .rintro⟨hc,hw⟩;exact⟨e.c,hc,AF.mpr ⟨e.w,Bq.mpr hw,rfl⟩⟩
noncomputable def isIn(cs:List Cell)(c:Cell):Bool:=decide (c∈cs)
theorem Chain.short{cs:List Cell}{b:Edge}{es:List Edge}(h:Chain (isIn cs) b es):es.length<=4*cs.length:=by rw[<- zbA];exact za1 h.2.2.2 λe he=>zdu.mpr ⟨of_decide_eq_true (h.2.2.1 e he).2.1,(h.2.2.1 e he).1⟩
noncomputable def allE(cs:List Cell):List Edge:=(sides cs).filter λe=>!isIn cs (gap e)
theorem ziP{cs:List Cell}{e:Edge}:e∈allE cs ↔ IsE (isIn cs) e:=by
 unfold allE;rw[List.mem_filter,zdu];unfold IsE isIn;constructor
 .rintro⟨⟨h1,h2⟩,h3⟩;exact⟨h2,decide_eq_true h1,by simpa using h3⟩
 .rintro⟨h1,h2,h3⟩;exact⟨⟨of_decide_eq_true h2,h1⟩,by simpa using h3⟩
noncomputable def dx(w:Nat):Int:=if w=0 then 1 else if w=2 then -1 else 0
noncomputable def dy(w:Nat):Int:=if w=1 then 1 else if w=3 then -1 else 0
noncomputable def px(e:Edge):Int:=e.c.1+(if e.w=1∨e.w=2 then 1 else 0)
noncomputable def py(e:Edge):Int:=e.c.2+(if e.w=2∨e.w=3 then 1 else 0)
theorem ziG{C:Cell->Bool}{e:Edge}(h:IsE C e):px (nxt C e)=px e+dx e.w/\py (nxt C e)=py e+dy e.w:=by
 have hw:=h.1
 rcases zaw h with⟨_,_,q⟩ |⟨_,_,_,q⟩ |⟨_,_,_,q⟩ <;> rw[q] <;> obtain⟨c,w⟩:=e <;> simp only at hw <;>
  rcases way4 hw with rfl |rfl |rfl |rfl <;> simp[px,py,dx,dy,go,mv] <;> lia
theorem znh{C:Cell->Bool}{e:Edge}(h:IsE C e):(nxt C e).w=(e.w+3) % 4∨(nxt C e).w=e.w∨(nxt C e).w=(e.w+1) % 4:=by
 rcases zaw h with⟨_,_,q⟩ |⟨_,_,_,q⟩ |⟨_,_,_,q⟩ <;> rw[q]
 .exact .inl rfl
 .exact .inr (.inl rfl)
 .exact .inr (.inr rfl)
noncomputable def Closed(C:Cell->Bool)(b:Edge)(es:List Edge):Prop:=Chain C b es/\∃l,es[es.length-1]?=some l/\nxt C l=b
theorem psum{C:Cell->Bool}{b:Edge}{es:List Edge}(h:Chain C b es):∀i e,es[i]?=some e->px e=px b+((es.take i).map λe=>dx e.w).sum/\py e=py b+((es.take i).map λe=>dy e.w).sum
 | 0,e,he=>by
  have h0:=h.1;rw[he]at h0
  cases h0
  simp
 |i+1,e,he=>by
  have hi:i+1<es.length:=(Ad.mp he).1;have h1:es[i]?=some es[i]:=Aa (by lia)
  obtain⟨a,c⟩:=psum h i _ h1;have hn:=h.2.1 i _ e h1 he;obtain⟨p,q⟩:=ziG (h.2.2.1 _ (AW (show i<es.length by lia)));rw[<- hn]at p q;rw[Dm,h1];simp only[Option.toList_some,Ax,AL,List.map_nil,Dc,Bw,List.sum_nil];lia
theorem Closed.sums{C:Cell->Bool}{b:Edge}{es:List Edge}(h:Closed C b es):(es.map λe=>dx e.w).sum=0/\(es.map λe=>dy e.w).sum=0:=by
 obtain⟨hc,l,hl,hb⟩:=h;have hlt:=(Ad.mp hl).1;obtain⟨a,c⟩:=psum hc _ l hl;have hlm:=(Ad.mp hl).2;obtain⟨p,q⟩:=ziG (hc.2.2.1 l (by rw[<- hlm];exact AW _));rw[hb]at p q
 have e:es=es.take (es.length-1)++[l]:=by have:=Dm (l:=es) (i:=es.length-1);rw[hl,show es.length-1+1=es.length by lia,AO]at this;simpa using this
 have s1:(es.map λe=>dx e.w).sum=((es.take (es.length-1)).map λe=>dx e.w).sum+dx l.w:=by
  conv=>lhs;rw[e]
  simp
 have s2:(es.map λe=>dy e.w).sum=((es.take (es.length-1)).map λe=>dy e.w).sum+dy l.w:=by
  conv=>lhs;rw[e]
  simp
 lia
theorem zjf{l:List Int}(h:∀x∈l,0<=x):0<=l.sum:=by
 induction l with
 |nil=>simp
 |cons a r ih =>
  have:=h a AE;have:=ih λx hx=>h x (Au _ hx)
  simp only[Bw];lia
theorem zil{l:List Int}(h:∀x∈l,0<=x)(hs:l.sum=0):∀x∈l,x=0:=by
 induction l with
 |nil=>intro x hx;cases hx
 |cons a r ih =>
  have h1:=h a AE;have h2:=zjf λx hx=>h x (Au _ hx)
  simp only[Bw]at hs;intro x hx;rcases At.mp hx with rfl |hx
  .lia
  .exact ih (λx hx=>h x (Au _ hx)) (by lia) x hx
theorem zm0(l:List Int):(l.map λx=>-x).sum=-l.sum:=by
 induction l with
 |nil=>rfl
 |cons a r ih=>simp only[AL,Bw,ih];lia
theorem zk2(l:List Int)(d:Int)(h:∀x∈l,x=d):l.sum=d*l.length:=by
 induction l with
 |nil=>simp
 |cons a r ih =>
  have h1:=h a AE;have h2:=ih λx hx=>h x (Au _ hx)
  simp only[Bw,A5,h1,h2];rw[Int.natCast_add,Int.mul_add];lia
theorem Closed.has{C:Cell->Bool}{b:Edge}{es:List Edge}(h:Closed C b es){k:Nat}(hk:k=0∨k=2):∃e∈es,e.w=k:=by
 apply Classical.byContradiction
 intro hno;have hno':∀e∈es,e.w≠k:=λe he z=>hno ⟨e,he,z⟩
 obtain⟨s1,s2⟩:=h.sums;obtain⟨hc,_⟩:=h
 have hpos:0<es.length:=by have:=hc.1;exact (Ad.mp this).1
 have z:∀e∈es,dx e.w=0:=by
  rcases hk with rfl |rfl
  .have := zil (l := (es.map λe => dx e.w).map λx => -x) (λx hx => by obtain⟨y,hy,rfl⟩:=AF.mp hx;obtain⟨e,he,rfl⟩:=AF.mp hy;have:=hno' e he;unfold dx;rw[if_neg this];split <;> decide) (by rw[zm0,s1];rfl)
   intro e he;have:=this (-(dx e.w)) (AF.mpr ⟨_,AF.mpr ⟨e,he,rfl⟩,rfl⟩);lia
  .have := zil (l := es.map λe => dx e.w) (λx hx => by obtain⟨e,he,rfl⟩:=AF.mp hx;have:=hno' e he;unfold dx;rw[if_neg this];split <;> decide) s1
   intro e he;exact this _ (AF.mpr ⟨e,he,rfl⟩)
 have odd:∀e∈es,e.w=1∨e.w=3:=λe he=>by
  have h4:=(hc.2.2.1 e he).1;have hz:=z e he;rcases way4 h4 with q |q |q |q
  .rw[q]at hz;exact absurd hz (by decide)
  .exact .inl q
  .rw[q]at hz;exact absurd hz (by decide)
  .exact .inr q
 have same:∀(i:Nat) (e:Edge),es[i]?=some e->e.w=b.w:=by
  intro i
  induction i with
  |zero=>intro e he;have:=hc.1;rw[he]at this;cases this;rfl
  |succ i ih =>
   intro e he;have hi:i+1<es.length:=(Ad.mp he).1;have h1:es[i]?=some es[i]:=Aa (by lia)
   have hn:=hc.2.1 i _ e h1 he;have m1:es[i]∈es:=AW _;have m2:e∈es:=Ah he;have w1:=ih _ h1;have o1:=odd _ m1;have o2:=odd _ m2;have:=znh (hc.2.2.1 _ m1);rw[<- hn]at this;lia
 have all:∀x∈es.map (λe=>dy e.w),x=dy b.w:=λx hx=>by obtain⟨e,he,rfl⟩:=AF.mp hx;obtain⟨i,hi,ei⟩:=AQ he;rw[same i e (by rw[Aa hi,ei])]
 have t:=zk2 _ _ all;rw[s2,Af]at t
 have ob:b.w=1∨b.w=3:=by have:=hc.1;exact odd b (Ah this)
 have d1:dy b.w=1∨dy b.w=-1:=by rcases ob with q |q <;> rw[q] <;> decide
 rcases d1 with q |q <;> rw[q]at t <;> lia
end RP
namespace L2
open PySem PySem.Spec PyProof.Rows
structure Fn (P:AH) (w:A1) (K:W.Frag) (mg:Str->Option Ab) (base:Heap) (k:Nat) (x:Str) (ps:List Str) (sp:Sp) where
 f:Addr
 fd:Br
 ok:FnOk P w K mg base CX0 k f fd ps sp
 m:mg x=some (.ref f)
 kp:W.keepIn K (.ref f)=true
 b:Binds K fd ps []
structure Df (K:W.Frag) (mg:Str->Option Ab) (x:Str) (st:Stmt) (ps:List Str) where
 f:Addr
 fd:Br
 F:Fun K x x st f fd
 m:mg x=some (.ref f)
 b:Binds K fd ps []
noncomputable def Df.fn{P:AH}{w:A1}{K:W.Frag}{mg:Str->Option Ab}{base:Heap}{k:Nat}{x:Str}{st:Stmt}{ps:List Str}{sp:Sp}(d:Df K mg x st ps)(h:FnOk P w K mg base CX0 k d.f d.fd ps sp):Fn P w K mg base k x ps sp :=
 ⟨d.f,d.fd,h,d.m,d.F.kp,d.b⟩
structure Ways (P:AH) (w:A1) (K:W.Frag) (mg:Str->Option Ab):Prop where
 ex:∃(B:Addr) (t1 t2 t3 t4:Tok) (n:Nat),mg "BEGIN_WAYS" = some (.ref B)/\K.lookup B=some ⟨.type "dict",none,.dict #[⟨BG w.params "rim",.str "rim" t1,.int 0 t2⟩,⟨BG w.params "hole",.str "hole" t3,.int 2 t4⟩] n,#[]⟩
noncomputable def tWays (ti:TE):TE:=λσ H Q=>ti σ H λy H1=>(y=.str "rim" /\ Q (.int 0) H1)∨(y=.str "hole" /\ Q (.int 2) H1)
theorem zkj {X:Cx}{i:Expr}{ti:TE}{p pos:Pos}(hg:Gl X "BEGIN_WAYS") (hw:Ways X.prog X.w X.K X.mg) (hi:PE X i ti) (hs:NoSl i:=by exact λ_ _=>rfl):PE X (.Subscript (.Name "BEGIN_WAYS" p) i pos) (tWays ti):=by
 intro pins s σ H Q I h;obtain⟨B,t1,t2,t3,t4,n,hm,hl⟩:=hw.ex;refine zjN PySem.F.slot_dict_getitem.lookup hs (thn ((zdH (v:=.ref B) hg hm rfl:PE X (.Name "BEGIN_WAYS" p) _) pins s σ H (λv H1=>v=V.ref B/\H1=H) I ⟨rfl,rfl⟩) λu s1 ⟨x,H1,I1,rx,q1⟩=>?_);obtain⟨rfl,rfl⟩:=q1;obtain rfl:u=Ay B:=rx;refine thn (hi pins s1 σ H1 _ I1 h) λiv s2 ⟨y,H2,I2,ry,q2⟩=>?_
 have ho:s2.heap.get? B=some _:=I2.kIn B _ hl
 have mo:s2.heap.MapOf (zaR X.prog X.w) B (PySem.findBy (zaR X.prog X.w).is #[⟨BG X.w.params "rim",.str "rim" t1,.int 0 t2⟩,⟨BG X.w.params "hole",.str "hole" t3,.int 2 t4⟩]) :=
  ⟨_,_,_,ho,⟨rfl,rfl,rfl⟩,rfl,λe he=>by
   simp only[List.mem_toArray,At,B6,or_false]at he;rcases he with rfl |rfl
   .exact⟨.inr "rim",zbS _ _ _ _,rfl⟩
   .exact⟨.inr "hole",zbS _ _ _ _,rfl⟩,λ_=>rfl⟩
 refine⟨⟨_,ho,rfl⟩,?_⟩;rcases q2 with⟨rfl,q⟩ |⟨rfl,q⟩
 .exact wpAny_getItem_of (kV_is (k:=.inr "rim") ry) mo (v:=.int 0 t2) rfl ⟨.int 0,H2,I2.tok _,⟨_,rfl⟩,q⟩
 .exact wpAny_getItem_of (kV_is (k:=.inr "hole") ry) mo (v:=.int 2 t4) rfl ⟨.int 2,H2,I2.tok _,⟨_,rfl⟩,q⟩
section
variable {X:Cx}{K:W.Frag}
theorem zh5(hK:X.K=K:=by rfl):IxR X (rIxT K):=by subst hK;exact zaV
theorem ziw(hK:X.K=K:=by rfl):SlR X (rSlL K):=by subst hK;exact zcz
theorem ziI(hK:X.K=K:=by rfl):OpR X (Cs .Add) (rCatT K):=by subst hK;exact zkq
theorem zhT(hu:X.A.units+64<cLine)(hK:X.K=K:=by rfl):OpR X (Bs .Eq) (rEqD K):=by subst hK;exact zfy hu
theorem zfe (hK:X.K=K:=by rfl):CallR X (.type "tuple") (λxs H Q=>∃p ys,xs=[.ref p]/\((SqL K H p ys/\∀l,H l=none->Q (.ref l) (upd H l (.tup ys)))∨(SqT K H p ys/\Q (.ref p) H))):=by subst hK;exact zdz
theorem zb7{es:List Expr}{k:Nat}{t:TGs}{n:Nat}{pos:Pos}(hc:X.calm=true)(h:PGs X es t)
  (hn:(DF es X.env).length=n:=by rfl) (hst:(DF es X.env).findIdx? (·.1)=none:=by rfl) (hK:X.K=K:=by rfl):PG X (.Tuple es k pos) (gTup K n t):=by
 subst hK;exact zbe hc h hn hst
theorem zmM{tg l:Expr}{tl:TE}(hl:PE X l tl)(hK:X.K=K:=by rfl):PI X tg l (iTup K tl):=by subst hK;exact ziC hl
end
theorem zkB (a b c d:Ab):argsOk "min" ⟨[a,b,c,d],[]⟩:=by unfold argsOk;kernel_rfl
section
variable {X:Cx}
theorem zk9 (hc:X.calm=true):CallR X (.builtin "min") (λxs H Q=>∃i j k l,xs=[.int i,.int j,.int k,.int l]/\∀n,Q (.int n) H):=by
 intro pins s σ H xs us Q I r h;obtain⟨i,j,k,l,rfl,q⟩:=h
 cases r with
 |cons r1 r =>
 cases r with
 |cons r2 r =>
 cases r with
 |cons r3 r =>
 cases r with
 |cons r4 r =>
 cases r with
 |nil =>
 obtain⟨t1,rfl⟩:=r1;obtain⟨t2,rfl⟩:=r2;obtain⟨t3,rfl⟩:=r3;obtain⟨t4,rfl⟩:=r4;have hh:=I.ok.hd hc;have nm:(toString "min" ++ toString ".loop" : String) = "min.loop":=by decide
 refine call_function_tree F.kind_min F.plain_min F.entry_min (zkB _ _ _ _) ?_
 show As _ X.A.in1 (BE "min" ["key","default"] 0 ⟨[],[]⟩ >>= _) _ _ s;refine Ac (wpAny_of_eq (show BE "min" ["key","default"] 0 ⟨[],[]⟩=pure [none,none] from rfl) ?_);show As _ X.A.in1 (newTuple [.int i t1,.int j t2,.int k t3,.int l t4] >>= _) _ _ s;refine Ac (Bh ?_);have hT:(s.heap.push { cls:=.type "tuple",data:=.seq #[.int i t1,.int j t2,.int k t3,.int l t4] }).IsTuple s.heap.objs.size (intItems #[(i,t1),(j,t2),(k,t3),(l,t4)]):=⟨_,AD _ rfl,rfl,0,by simp[intItems]⟩;refine Ac (wpAny_pyIter_tuple hT ?_);refine Ac (Bh ?_);rw[nm];generalize e1:s.heap.push { cls:=.type "tuple",data:=.seq #[.int i t1,.int j t2,.int k t3,.int l t4] }=h1 at hT;have hs1:h1.objs.size=s.heap.objs.size+1:=by rw[<- e1];exact Heap.size_push ..
 have k1:∀b o,s.heap.get? b=some o->h1.get? b=some o:=λb o e=>by rw[<- e1];exact Ag _ e
 show As (Az X.prog X.w) X.A.in1 (again (.builtin "min.loop" ⟨[.ref h1.objs.size,.none,.ref (h1.push _).objs.size],[]⟩)) _ _ { s with heap:=(h1.push _).push _ };have hs2:∀o:Obj,(h1.push o).objs.size=s.heap.objs.size+2:=λo=>by rw[Heap.size_push,hs1]
 have W:=Walks.tuple (prog:=X.prog) (w:=X.w) (A:=X.A.in1) hh h1.objs.size s.heap.objs.size (by rw[hs1];exact AK (Nat.lt_succ_self _)) (intItems #[(i,t1),(j,t2),(k,t3),(l,t4)])
 refine Am ⟨Co F.plain_min_loop _,codeAny_min_loop_first W _ (CmpOf.ints_lt (numAt #[(i,t1),(j,t2),(k,t3),(l,t4)]) (λ_ _=>intItems_at)) _ (λhm=>?_) (by simp[intItems])
  (W.frame _ _ _ ⟨⟨_,AD _ rfl,rfl,rfl⟩,hT.push _⟩ λb _ o e=>Ag _ e) (AD _ rfl) λv h' tk hP hk=>?_⟩
 .rw[hs2]at hm;rcases At.mp hm with z |z
  .rw[hs1]at z;have z':(s.heap.objs.size+2:Nat)=s.heap.objs.size+1:=z;lia
  .have z':(s.heap.objs.size+2:Nat)=s.heap.objs.size:=AA.mp z;lia
 .obtain⟨t,ht⟩:=intItems_at hP;refine⟨.int _,H,I.kept λb o e=>hk b o (λhm=>?_) ?_ (Ag _ (Ag _ (k1 b o e))),⟨t,ht⟩,q _⟩
  .have h1':=Aq e;have z:=AA.mp hm;rw[hs1]at z;subst z;exact absurd h1' (Nat.not_lt_of_le (Cp _))
  .have h1':=Aq e;intro z;rw[hs2]at z;subst z;exact absurd h1' (Nat.not_lt_of_le (Cq _ 2))
noncomputable def rSlTW(K:W.Frag):V->Option Int->Option Int->Hp->VK->Prop:=λx lo hi H Q=>∃a xs,x=.ref a/\SqT K H a xs /\
 ((HT.sIx xs.length 0 lo=0/\HT.sIx xs.length xs.length hi=xs.length)->Q (.ref a) H) /\
 (¬ (HT.sIx xs.length 0 lo=0/\HT.sIx xs.length xs.length hi=xs.length)->∀p,H p=none->Q (.ref p) (upd H p (.tup (cutV xs lo hi))))
end
end L2
namespace HT
open PySem PyProof.Rows
variable {prog:AH}{w:A1}{A:AS}{E:Ab->Ae->Prop}{s:Ae}
theorem getItem_tuple_all{t sl:Addr}{items:Array Ab}{vl vu:Ab}{lo hi:Option Int}{Q:Ab -> Ae -> Prop}(ht:IsTup s.heap t items)(hs:s.heap.IsSliceOf sl vl vu .none)(pl:IsPart vl lo)(pu:IsPart vu hi)
  (hw:sIx items.size 0 lo=0/\sIx items.size items.size hi=items.size) (h:Q (.ref t) s):As (Az prog w) A (getItem (.ref t) (.ref sl)) Q E s:=by
 obtain⟨os,hos,hcs,hds⟩:=id hs;have hTs:s.TypeIs (.ref sl) "slice":=⟨os,hos,hcs⟩;unfold getItem
 try with_reducible refine Be ?_
 first |refine Ac (Am ?_) |skip
 refine Ac (wpAny_sequenceKey ht.typeIs (by decide) ?_)
 refine Ac (wpAny_callSpecial?_slot (name:=B7 "__getitem__") ht.typeIs Bo
  (wpAny_call_entry Bo ht.typeIs entry_tuple_getitem ?_ (args_tuple_getitem _ _)))
 show As _ _ (Builtin.Tuple.tupleItemsOf (.ref t) >>= _) _ _ s;refine Ac (tupleItemsOf_ ht ?_);refine Ac (wpAny_typeOf hTs ?_);rw[if_pos (by decide)];refine Ac (zct hs pl pu ?_)
 have hyes:(((sIx items.size 0 lo:Nat):Int) == 0 && (1:Int) == 1 && (sIx items.size items.size hi-sIx items.size 0 lo) == items.size)=true:=by rw[hw.1,hw.2];simp
 show As _ _ (if (((sIx items.size 0 lo:Nat):Int) == 0 && (1:Int) == 1 && (sIx items.size items.size hi-sIx items.size 0 lo) == items.size)=true then _ else _) _ _ s;rw[if_pos hyes];refine Ac ?_
 unfold Builtin.Tuple.tupleIsExact;refine Ac (wpAny_typeOf ht.typeIs (Am ?_));rw[if_pos (by decide)];exact Ac (DG (Am ⟨_,rfl,Am h⟩))
end HT
namespace L2
open PySem PySem.Spec PyProof.Rows
section
variable {X:Cx}{K:W.Frag}
theorem zel:SlR X (rSlTW X.K):=by
 intro pins s σ H x v vl vu lo hi sl Q I rx hs pl pu h;obtain⟨a,xs,rfl,hx,q1,q2⟩:=h
 by_cases hw:HT.sIx xs.length 0 lo=0/\HT.sIx xs.length xs.length hi=xs.length
 .cases rx
  obtain⟨its,r,ht,hz⟩:=I.tuple hx;have hlen:its.toArray.size=xs.length:=by rw[An];exact r.length.symm
  refine⟨"tuple",_,Bo.lookup,ht.typeIs,?_⟩;exact HT.getItem_tuple_all ht hs pl pu (by rw[hlen];exact hw) ⟨.ref a,H,I,rfl,q1 hw⟩
 .exact znp pins s σ H _ v vl vu lo hi sl Q I rx hs pl pu ⟨a,xs,rfl,hx,hw,q2 hw⟩
theorem zd6(hK:X.K=K:=by rfl):SlR X (rSlTW K):=by subst hK;exact zel
end
section
variable {prog:AH}{w:A1}{K:Type} [DecidableEq K] {knd:HeapKind prog w K}{A:AS}{E:Ab->Ae->Prop}{s:Ae}{d a:Addr}{xs:List (K×Addr×Ab)}{k:K}{dflt:Ab}
theorem zfE{p:Addr×Ab}(h:atKey xs k=some p):∃j:Nat,xs[j]?=some (k,p):=by
 unfold atKey at h;obtain⟨x,hx,e⟩:=AY.mp h;have hm:=List.mem_of_find?_eq_some hx;have hk:=List.find?_some hx;obtain⟨j,hj,ej⟩:=AQ hm;have:x.1=k:=by simpa using hk
 exact⟨j,by rw[Aa hj,ej,<- e,<- this]⟩
theorem zlY{p:Addr×Ab}{j:Nat}(hn:(xs.map λx=>x.1).Nodup)(h:xs[j]?=some (k,p)):atKey xs k=some p:=by
 cases e:atKey xs k with
 |none =>
  exfalso;unfold atKey at e;have:=List.find?_eq_none.mp (Option.map_eq_none_iff.mp e) _ (Ah h);simp at this
 |some q =>
  obtain⟨i,hi⟩:=zfE e;have hl:=(Ad.mp hi).1;have:=(CM (i:=i) (j:=j) (by rw[Af];exact hl) hn).mp (by rw[Ak,Ak,hi,h];rfl);subst this;rw[hi]at h
  cases h
  rfl
theorem zem{Q:Ab -> Ae -> Prop}(hr:knd.room A)(hk:knd.is s.heap k a)(hD:Heap.DictOfH knd s.heap d xs)(hsz:xs.length <= sizeLine)
  (h1:∀p,atKey xs k=some p->Q p.2 { s with toks:=s.toks+knd.draws k })
  (h2:atKey xs k=none->∀h',Heap.DictOfH knd h' d (storedH xs k a dflt)->C0 d s.heap h'->Q dflt { s with heap:=h',toks:=s.toks+knd.draws k }) :
  As (Az prog w) A (dictSetDefault d (.ref a) dflt) Q E s:=by
 obtain⟨o,es,ep,ho,hx,hd,he,hi,hn⟩:=id hD;unfold dictSetDefault;refine Be (Ac (knd.pyHash hr hk ?_));refine Ac (wpAny_dictFind_heap (s:={ s with toks:=s.toks+knd.draws k }) hr hk ho hd he hi hn (λhno=>?_) λj p hj=>?_)
 .have hnone:atKey xs k=none := by
   cases e:atKey xs k with
   |none=>rfl
   |some p=>obtain⟨j,hj⟩:=zfE e;exact absurd hj (hno j p)
  refine Ac (DG ?_);have hes:es.size=xs.length:=by rw[<- CT,he,Af]
  refine Ac (wpAny_updateDictKeys ho hd (Am (h2 hnone _ ?_ ⟨?_,λb hb=>C3 _ _ (BP hb)⟩)) (by lia) (by simp))
  .have hs:C0 d s.heap (s.heap.update d (Obj.mapDictKeys λx=>x.push ⟨knd.hash k,.ref a,dflt⟩)):=⟨?_,λb hb=>C3 _ _ (BP hb)⟩
   .obtain⟨c,dd,dt,sl⟩:=o;simp only at hd;subst hd;refine⟨_,es.push ⟨knd.hash k,.ref a,dflt⟩,ep+1,Heap.get?_update_self _ ho rfl,hx,rfl,?_,λx hx'=>?_,?_⟩
    .rw[storedH_new hnone,Ax,<- he];simp[entryOfKey]
    .rw[storedH_new hnone]at hx';rcases Bf.mp hx' with m |m
     .exact knd.keeps (hi x m) ho rfl hs
     .rw[AA.mp m];exact knd.keeps hk ho rfl hs
    .rw[storedH_new hnone,Ax,List.nodup_append];refine⟨hn,by simp,λx hx' y hy e=>?_⟩;simp at hy;subst hy e;obtain⟨⟨k',p⟩,hm,ek⟩:=AF.mp hx';obtain⟨j,hj,ej⟩:=AQ hm;simp only at ek;subst ek;exact hno j p (by rw[Aa hj,ej])
   .show (s.heap.update d _).objs.size=_;unfold Heap.update;simp
  .show (s.heap.update d _).objs.size=_;unfold Heap.update;simp
 .have hlt:=(Ad.mp hj).1;have hes:es.size=xs.length:=by rw[<- CT,he,Af]
  have ee:es[j]?=some ⟨knd.hash k,.ref p.1,p.2⟩:=by rw[<- Array.getElem?_toList,he,Ak,hj];rfl
  refine Ac (wpAny_dictEntries ho hd ?_);simp only[ee];refine Ac (DG (Am ?_));exact h1 p (zlY hn hj)
theorem zdL(knd:HeapKind prog w K)(d a:Addr)(hd:(d == Cr)=false)(dflt:Ab) :
  MeetsIn prog w (Builtin.«dict.setdefault» ⟨[.ref d,.ref a,dflt],[]⟩) λA R s=>knd.room A.in1/\∃k xs,knd.is s.heap k a/\Heap.DictOfH knd s.heap d xs/\xs.length<=sizeLine /\
   (∀p,atKey xs k=some p->R (.ok (.ret p.2)) { s with toks:=s.toks+knd.draws k }) /\
   (atKey xs k=none->∀h',Heap.DictOfH knd h' d (storedH xs k a dflt)->C0 d s.heap h'->R (.ok (.ret dflt)) { s with heap:=h',toks:=s.toks+knd.draws k }):=by
 intro A R s h;obtain⟨hr,k,xs,hk,hD,hsz,h1,h2⟩:=h;unfold Builtin.«dict.setdefault» Builtin.Dict.keyAndDefault;have ht:s.TypeIs (.ref d) "dict":=hD.typeIs;refine Ac (Ac (wpAny_notOrdered_dict ht ?_));refine Ac ?_
 show As (Az prog w) A.in1 (pure ()) _ _ s;refine Am ?_
 refine Ac ?_
 show As (Az prog w) A.in1 (pure (Ay d,[Ay a,dflt])) _ _ s;refine Am ?_
 show As (Az prog w) A.in1 (pure d >>= λx=>pure (x,Ay a,some dflt)) _ _ s;refine Ac (Am (Am ?_));simp only;rw[hd];show As (Az prog w) A.in1 (dictSetDefault d (.ref a) dflt >>= λx=>ret x) _ _ s;refine Ac (zem hr hk hD hsz (λp e=>Am (h1 p e)) λe h' hD' hs=>Am (h2 e h' hD' hs))
noncomputable def znm(td ty tx:TE):TE:=λσ H Q=>td σ H λx H1=>∃a,x=.ref a/\IsD H1 a/\ty σ H1 λy H2=>tx σ H2 λz H3=>∃kvs k b,H3 a=some (.dT kvs)/\y=.ref b/\H3 b=some (.tup (k.map kV))/\kvs.length<sizeLine /\
 (∀v,valV kvs k=some v->Q v H3)/\(valV kvs k=none->Q z (upd H3 a (.dT (putK kvs k z))))
end
section
variable {X:Cx}{o e f:Expr}{apos cpos:Pos}{td ty tx:TE}
theorem zlC (hu:X.A.units+1<cLine) (ho:PE X o td) (he:PE X e ty) (hf:PE X f tx) (m:M2 X o "setdefault" apos e f cpos):PE X (.Call (.Attribute o "setdefault" apos) [e,f] [] cpos) (znm td ty tx):=by
 intro pins s σ H Q I h;refine wpAny_Call_method m.base m.few m.line PySem.F.plainAttrs_dict PySem.F.slot_dict_setdefault PySem.F.type_dict_setdefault (thn (ho pins s σ H _ I h) λu s1 ⟨x,H1,I1,rx,a,ex,d,q1⟩=>?_);subst ex;obtain rfl:u=Ay a:=rx;obtain⟨t1,t2,_⟩:=znS I1 d;refine⟨t1,t2,?_⟩;rw[m.trees]
 refine Calls.callWith_builtin rfl (Calls.evalArgs_plain (Calls.spliced_cons (thn (he pins s1 σ H1 _ I1 q1) λiv s2 ⟨y,H2,I2,ry,q2⟩ =>
  Calls.spliced_cons (thn (hf pins s2 σ H2 _ I2 q2) λfv s3 ⟨z,H3,I3,rz,kvs,k,b,eD,ey,eb,hl,k1,k2⟩=>Calls.spliced_nil ?_))))
 subst ey
 cases (show iv=Ay b from ry)
 obtain⟨zz,hd,xs,rel,dd⟩:=dt_of I3.hok eD
 refine call_meetsIn PySem.F.slot_dict_setdefault dd.typeIs PySem.F.entry_dict_setdefault (PySem.F.args_dict_setdefault_3 _ _ _) (zdL (tupleKind (zaR X.prog X.w)) a b hd fv)
  ⟨DH hu,k,xs,zfA I3.hok eb,dd,by rw[<- Dw rel];exact zz,λp ep=>?_,λen h' dd' hs=>?_⟩
 .have rv:=rel.val k;rw[ep]at rv
  cases hv:valV kvs k with
  |none=>rw[hv]at rv;exact BB rv
  |some v=>rw[hv]at rv;exact⟨v,H3,I3.tok _,rv,k1 v hv⟩
 .have hn:valV kvs k=none := by
   have rv:=(rel.val k).isSome_eq;rw[en]at rv
   cases hv:valV kvs k with
   |none=>rfl
   |some v=>rw[hv]at rv;exact absurd rv (by simp)
  have hz:(putK kvs k z).length<=sizeLine:=by have:=za6 kvs k z;lia
  obtain⟨q,es,ep,hq,h2,h3,h4,_,h5⟩:=dd';refine⟨z,_,?_,rz,k2 hn⟩;refine zeR I3 (by rw[eD];exact True.intro) hs ⟨q,hq⟩ ⟨hz,hd,_,(rel.put k eb rz).keeps λc ys ec=>?_,q,es,ep,hq,h2,h3,h4,h5⟩;rw[zam (ne_of ec eD (λz=>nomatch z))];exact ec
end
structure Two (P:AH) (w:A1) (K:W.Frag) (mg:Str->Option Ab) (nm:Str) (a b:Int):Prop where
 ex:∃(B:Addr) (t1 t2 t3 t4:Tok) (n:Nat),mg nm=some (.ref B)/\K.lookup B=some ⟨.type "dict",none,.dict #[⟨BG w.params "rim",.str "rim" t1,.int a t2⟩,⟨BG w.params "hole",.str "hole" t3,.int b t4⟩] n,#[]⟩
noncomputable def tTwo (a b:Int) (ti:TE):TE:=λσ H Q=>ti σ H λy H1=>(y=.str "rim" /\ Q (.int a) H1)∨(y=.str "hole" /\ Q (.int b) H1)
theorem znE {X:Cx}{nm:Str}{a b:Int}{i:Expr}{ti:TE}{p pos:Pos}(hg:Gl X nm) (hw:Two X.prog X.w X.K X.mg nm a b) (hi:PE X i ti) (hs:NoSl i:=by exact λ_ _=>rfl) (hdb:(nm == ("__debug__" : Str))=false:=by rfl):PE X (.Subscript (.Name nm p) i pos) (tTwo a b ti):=by
 intro pins s σ H Q I h;obtain⟨B,t1,t2,t3,t4,n,hm,hl⟩:=hw.ex;refine zjN PySem.F.slot_dict_getitem.lookup hs (thn ((zdH (v:=.ref B) hg hm rfl (hd:=hdb):PE X (.Name nm p) _) pins s σ H (λv H1=>v=V.ref B/\H1=H) I ⟨rfl,rfl⟩) λu s1 ⟨x,H1,I1,rx,q1⟩=>?_);obtain⟨rfl,rfl⟩:=q1;obtain rfl:u=Ay B:=rx;refine thn (hi pins s1 σ H1 _ I1 h) λiv s2 ⟨y,H2,I2,ry,q2⟩=>?_
 have ho:s2.heap.get? B=some _:=I2.kIn B _ hl
 have mo:s2.heap.MapOf (zaR X.prog X.w) B (PySem.findBy (zaR X.prog X.w).is #[⟨BG X.w.params "rim",.str "rim" t1,.int a t2⟩,⟨BG X.w.params "hole",.str "hole" t3,.int b t4⟩]) :=
  ⟨_,_,_,ho,⟨rfl,rfl,rfl⟩,rfl,λe he=>by
   simp only[List.mem_toArray,At,B6,or_false]at he;rcases he with rfl |rfl
   .exact⟨.inr "rim",zbS _ _ _ _,rfl⟩
   .exact⟨.inr "hole",zbS _ _ _ _,rfl⟩,λ_=>rfl⟩
 refine⟨⟨_,ho,rfl⟩,?_⟩;rcases q2 with⟨rfl,q⟩ |⟨rfl,q⟩
 .exact wpAny_getItem_of (kV_is (k:=.inr "rim") ry) mo (v:=.int a t2) rfl ⟨.int a,H2,I2.tok _,⟨_,rfl⟩,q⟩
 .exact wpAny_getItem_of (kV_is (k:=.inr "hole") ry) mo (v:=.int b t4) rfl ⟨.int b,H2,I2.tok _,⟨_,rfl⟩,q⟩
section
variable {X:Cx}
theorem Inv.turned2{pins:List (Addr × Obj)}{σ : St}{H:Hp}{s:Ae}{h':Heap}{t':Nat}{e it:Addr}(I:Inv X pins σ H s)(k:∀b o, b ≠ e -> b ≠ it -> s.heap.get? b=some o -> h'.get? b=some o)(fe:FpOk X pins H e)(fi:FpOk X pins H it) :
  Inv X pins σ H { s with heap:=h',toks:=t' }:=by
 obtain⟨f0,f1,f2,f3,f4,f5⟩:=fe;obtain⟨g0,g1,g2,g3,g4,g5⟩:=fi;have nb:∀b u,H b=some u->b≠e/\b≠it:=λb u q=>⟨(λz=>by rw[z,f0]at q;cases q),(λz=>by rw[z,g0]at q;cases q)⟩
 have out:∀b,b ∉ [e,it]->b≠e/\b≠it:=λb hc=>⟨λz=>hc (by simp[z]),λz=>hc (by simp[z])⟩
 refine I.step (g':=s.gens) (d':=s.drawn) (ch:=[e,it]) (λb hb=>?_) (λb o _ _ hc q _=>k b o (out b hc).1 (out b hc).2 q) (λb o _ _ hc q _=>⟨o.slots,k b o (out b hc).1 (out b hc).2 q⟩) (λ_ _ _ _ n=>n)
  (λb o hc q=>⟨o,k b o (out b hc).1 (out b hc).2 q⟩) (λ_ _ q=>q) (λ_ _ _ q=>q) (λb ps q=>⟨#[],by rw[q];simp⟩) (λm hm=>?_) (λb u q=>?_) I.bare
 .rcases At.mp hb with z |z
  .subst z;exact⟨f3,f1,f4,f5⟩
  .have z':b=it:=by simpa using z
   subst z';exact⟨g3,g1,g4,g5⟩
 .obtain⟨o,es,ep,ho,r⟩:=hm;exact⟨o,es,ep,k _ o (BP f1) (BP g1) ho,r⟩
 .refine (I.hok b u q).stay (λc v hc q'=>?_) (λ_ q=>q) λ_ _ q=>q
  rcases hc with z |z
  .rw[z]at q' ⊢;exact k _ _ (nb b u q).1 (nb b u q).2 q'
  .exact k _ _ (nb c _ z).1 (nb c _ z).2 q'
noncomputable def Ite(K:W.Frag)(a:Addr):It :=
 ⟨λi H=>∃xs x,SqL K H a xs/\xs[i]?=some x,λi H y H'=>∃p x,y=.ref p/\H p=none/\H'=upd H p (.tup [.int i,x])/\∀xs,SqL K H a xs->xs[i]?=some x,λi H=>∃xs,SqL K H a xs/\xs.length<=i⟩
theorem zjK{P:AH}{w:A1}{K:W.Frag}{es:List Expr}{x1:Nat}{pos:Pos}(a e it:Addr)(hne:e≠it):Turn P w K (.Tuple es x1 pos) (Ite K a) [e,it] e (λi h=>∃old,IsEnum h e it ((i:Nat):Int) old/\h.IsListIter it a i) where
 mem:=by simp
 obj:=λi h st b hb=>by
  obtain⟨old,h1,o,h2,c,d⟩:=st;rcases At.mp hb with z |z
  .subst z;exact⟨_,h1,λv q=>nomatch q⟩
  .have z':b=it:=by simpa using z
   subst z';exact⟨o,h2,λv q=>by rw[d]at q;cases q⟩
 keep:=λi h h' ⟨old,h1,h2⟩ k=>⟨old,k e (by simp) _ h1,h2.at λo q=>k it (by simp) o q⟩
 item:=by
  intro X hP hw hK hc i pins s σ H E I hf st hg;subst hP hw hK;obtain⟨old,he,hit⟩:=st;obtain⟨xs,x,hq,hx⟩:=hg;obtain⟨its,rv,p,hz⟩:=I.list hq;obtain⟨u,hu,ru⟩:=rv.get hx;have fe:=hf e (by simp);have fi:=hf it (by simp);refine wpAny_pyNext_enum_item he hit p.isList (x:=u) (by simpa using hu) hne λh1 eo it1 tup sz kk=>⟨_,rfl,?_⟩
  refine wpAny_letOwnedTupleGo_enum (s:={ s with heap:=h1,toks:=s.toks+1 }) eo λh2 he2 sb=>?_
  have heS:e<s.heap.objs.size:=Aq he;have hiS:it<s.heap.objs.size:=by obtain⟨o,q,_⟩:=hit;exact Aq q
  have fr:H s.heap.objs.size=none:=I.hok.fresh (Ai _)
  have I1:Inv X pins σ (upd H s.heap.objs.size (.tup [.int i,x])) { s with heap:=s.heap.push { cls:=.type "tuple",data:=.seq #[.int i s.toks,u] },toks:=s.toks } :=
   I.laid (t':=s.toks) (o:=.tup [.int i,x]) (λb ob q=>Ag _ q) (Ai _) ⟨by show 2<=sizeLine;decide,_,.cons ⟨_,rfl⟩ (.cons ru .nil),IsTup.new _ _⟩
  have up:∀{b:Addr},b<s.heap.objs.size->∀o,upd H s.heap.objs.size o b=H b:=λhb o=>zam (AK hb)
  have fe1:FpOk X pins (upd H s.heap.objs.size (.tup [.int i,x])) e:=⟨by rw[up heS];exact fe.1,fe.2⟩;have fi1:FpOk X pins (upd H s.heap.objs.size (.tup [.int i,x])) it:=⟨by rw[up hiS];exact fi.1,fi.2⟩
  have I2:Inv X pins σ (upd H s.heap.objs.size (.tup [.int i,x])) { s with heap:=h2,toks:=s.toks+1 }:=I1.turned2 (λb o hbe hbi q=>by
   refine (sb.2 b hbe).trans ?_
   show h1.get? b=some o;rcases Heap.get?_push_cases q with⟨z,rfl⟩ |q
   .rw[z];exact tup
   .exact kk b o hbe hbi q) fe1 fi1
  refine⟨.ref s.heap.objs.size,_,I2,rfl,⟨_,x,rfl,fr,rfl,λys hy=>by rw[I.list_inj hy hq];exact hx⟩,⟨u,?_,?_⟩,λb hb=>?_⟩
  .exact he2
  .obtain⟨o,q,c,d⟩:=it1;exact⟨o,(sb.2 it (BP hne)).trans q,c,d⟩
  .rcases At.mp hb with z |z
   .subst z;exact fe1.1
   .have z':b=it:=by simpa using z
    subst z';exact fi1.1
 done:=by intro X hP hw hK hc i pins s σ H E I hf st hg;subst hP hw hK;obtain⟨old,he,hit⟩:=st;obtain⟨xs,hq,hx⟩:=hg;obtain⟨its,rv,p,hz⟩:=I.list hq;obtain⟨f0,f1,f2,f3,f4,f5⟩:=hf it (by simp);have hl:=rv.length;exact wpAny_pyNext_enum_end (I.ok.hd hc) he hit p.isList (by simp;lia) λh' eb=>⟨rfl,I.turned (t':=s.toks) (λb o hb e=>eb b o hb e) f0 f1 f3 f4 f5⟩
 self:=λ_ _ _ _ _ ⟨_,he,_⟩ h=>wpAny_pyIter_enum he h
noncomputable def iEnum(K:W.Frag)(t:TA):TI:=λσ H R=>t σ H λvs H1=>∃a,vs=[.ref a]/\(∃xs,SqL K H1 a xs)/\R (Ite K a) H1
theorem zmN {l:Expr}{t:TA}{es:List Expr}{x1:Nat}{pos pos' p:Pos}(hg:Gl X "enumerate") (hm:X.mg "enumerate" = none) (ha:PA X [l] t)
  (he:A4 [l] X.env=(false,eval l X.env)::A4 [] X.env:=by rfl) (hpl:(backTo pos' (A4 [] X.env)).any (·.1)=false:=by rfl) :
  PI X (.Tuple es x1 pos) (.Call (.Name "enumerate" p) [l] [] pos') (iEnum X.K t):=by
 intro pins s σ H R I h;refine B4 (zdT I hg hm (by rfl) ?_ (by decide) (by decide));refine BQ (thn (ha pos' pins s σ H _ I h) λus s1 ⟨vs,H1,I1,r1,q1⟩=>?_) he hpl;obtain⟨a,ex,⟨xs,hq⟩,q⟩:=q1;subst ex;obtain⟨u,rfl,rx⟩:=vals1 r1
 cases rx
 obtain⟨its,rv,pl,hz⟩:=I1.list hq;refine call_enumerate_list pl.isList λh' he hit hsz kp=>?_
 have I2:Inv X pins σ H1 { s1 with heap:=h' }:=I1.kept (t':=s1.toks) kp;refine wpAny_pyIter_enum he ?_
 refine⟨s1.heap.objs.size+1,[s1.heap.objs.size+1,s1.heap.objs.size],_,_,H1,rfl,I2,zjK a _ _ (Nat.succ_ne_self _),⟨_,he,hit⟩,λb hb=>?_,q⟩;rcases At.mp hb with z |z
 .subst z;exact I1.fpOk (Cp _) (I1.hok.fresh (Cp _))
 .have z':b=s1.heap.objs.size:=by simpa using z
  subst z';exact I1.fpOk (Ai _) (I1.hok.fresh (Ai _))
theorem zlQ{K:W.Frag}{a:Addr}{xs:List V}{g:TG}{tb:TS}{D:Ends}{σ : St}{H:Hp}(Pv:Nat -> St -> Hp -> Prop)(h0:Pv 0 σ H)(hl:∀i σ H, i <= xs.length -> Pv i σ H -> SqL K H a xs)
  (hs:∀i x σ H p,xs[i]?=some x->Pv i σ H->H p=none->g (.ref p) σ (upd H p (.tup [.int i,x])) λσ2 H2=>tb { D with nx:=Pv (i+1),ct:=Pv (i+1),bk:=D.nx } σ2 H2) (hd:∀ σ H,Pv xs.length σ H->D.nx σ H) :
  ∃W:Nat->Nat->St->Hp->Prop,(∃m,W 0 m σ H)/\∀i m σ H,W i m σ H ->
   ((Ite K a).stop i H/\D.nx σ H)∨((Ite K a).go i H/\∃N:St->Hp->Prop,(∀ σ' H',N σ' H'->∃m',m'<m/\W (i+1) m' σ' H')/\∀x H',(Ite K a).yld i H x H'->g x σ H' λσ2 H2=>tb { D with nx:=N,ct:=N,bk:=D.nx } σ2 H2):=by
 refine⟨λi m σ H=>m=xs.length-i/\i<=xs.length/\Pv i σ H,⟨xs.length,by simp,Bj _,h0⟩,?_⟩;rintro i m σ H ⟨rfl,hi,p⟩;have q:=hl i σ H hi p
 by_cases hlt:i<xs.length
 .refine .inr ⟨⟨xs,xs[i],q,by simp[hlt]⟩,Pv (i+1),λσ' H' p'=>⟨xs.length-(i+1),by lia,rfl,hlt,p'⟩,λx H' y=>?_⟩;obtain⟨b,z,rfl,hb,rfl,y⟩:=y;exact hs i z σ H b (y xs q) p hb
 .have e:i=xs.length:=by lia
  subst e;exact .inl ⟨⟨xs,q,Ai _⟩,hd σ H p⟩
end
end L2
namespace HT
open PySem PyProof.Rows PySem.Spec
variable {prog:AH}{w:A1}{A:AS}{E:Ab->Ae->Prop}{s:Ae}
theorem cat_tup0{t b:Addr}{ws:List Ab}{Q:Ab->Ae->Prop}(ht:IsTup s.heap t ([]:List Ab).toArray)(hb:IsTup s.heap b ws.toArray)(h1:Q (.ref b) s):As (Az prog w) A (Cs .Add (.ref t) (.ref b)) Q E s:=by
  obtain⟨⟨cls,dd,data,sl⟩,ho,hc,n,hd⟩:=id ht;obtain⟨⟨cls2,dd2,data2,sl2⟩,ho2,hc2,n2,hd2⟩:=id hb;simp only at hc hd hc2 hd2;subst hc hd hc2 hd2
  exact concat_meets ⟨_, ho, rfl⟩ ⟨_, ho2, rfl⟩ noFill_tuple_add seq_tuple_add PySem.F.slot_tuple_add DL (Dz _ _)
      (tuple_addW0 t b _ _ n n2 dd dd2 sl sl2 (by rfl)) ⟨ho,ho2,h1⟩
end HT
namespace L2
open PySem PySem.Spec PyProof.Rows
section
variable {X:Cx}{K:W.Frag}
noncomputable def rCatE(K:W.Frag):R2:=λx y H Q=>∃a b xs ys,x=.ref a/\y=.ref b/\SqT K H a xs/\SqT K H b ys/\xs.length+ys.length<=sizeLine /\
 (xs=[]->Q (.ref b) H)/\(xs≠[]->ys=[]->Q (.ref a) H)/\(xs≠[]->ys≠[]->∀p,H p=none->Q (.ref p) (upd H p (.tup (xs++ys))))
theorem zkr:OpR X (Cs .Add) (rCatE X.K):=by
 intro pins s σ H x y v u Q I rx ry h;obtain⟨a,b,xs,ys,rfl,rfl,ha,hb,hz,q0,q1,q2⟩:=h
 by_cases hx:xs=[]
 .subst hx
  cases rx
  cases ry
  obtain⟨its,r1,p1,_⟩:=I.tuple ha;obtain⟨its2,r2,p2,_⟩:=I.tuple hb
  cases r1
  exact HT.cat_tup0 p1 p2 ⟨.ref b,H,I,rfl,q0 rfl⟩
 .exact zkq pins s σ H _ _ v u Q I rx ry ⟨a,b,xs,ys,rfl,rfl,ha,hb,hx,hz,q1 hx,q2 hx⟩
theorem zhk (hh:X.calm=true):CallR X (.builtin "any") (λxs H Q=>∃(p:Addr) (bs:List Bool),xs=[.ref p]/\SqL X.K H p (bs.map V.bl)/\Q (.bl (bs.any id)) H):=by
 intro pins s σ H xs us Q I r h;obtain⟨p,bs,rfl,hq,q⟩:=h;obtain⟨u,rfl,ru⟩:=vals1 r
 cases (show u=Ay p from ru)
 obtain⟨its,rv,pl,hz⟩:=I.list hq;have hlp:p<s.heap.objs.size:=by obtain⟨o,ho,_⟩:=pl.isList;exact Aq ho
 have hlen:its.length=bs.length:=by have:=rv.length;simpa using this.symm
 refine call_any_walk (Dh pl.isList ?_);refine⟨_,_,_,_,_,_,λi=>bs.getD i false,rfl,DJ (A:=X.A.in1) (I.ok.hd hh) s.heap.objs.size p (AK hlp) its.toArray,⟨⟨_,AD _ rfl,rfl,rfl⟩,pl.isList.push _⟩,?_,λh' tk hk=>?_⟩
 .intro i v s1 Q1 E1 hv hQ;have hv':its[i]?=some v:=by simpa using hv
  have hi:i<its.length:=(Ad.mp hv').1;obtain⟨w',hw,rw'⟩:=rv.get (i:=i) (x:=V.bl (bs[i]'(by lia))) (by simp[Aa,show i<bs.length by lia]);rw[hv']at hw
  cases hw
  cases (show v=Value.bool _ from rw')
  refine BD ?_
  have e:bs.getD i false=bs[i]'(by lia):=by simp[Ar,show i<bs.length by lia]
  rw[<- e];exact hQ
 .have I1:Inv X pins σ H { s with heap:=h',toks:=tk }:=I.kept λb o e=>hk b o (by simp;exact AK (Aq e)) (Ag _ e)
  refine⟨.bl _,H,I1,rfl,?_⟩
  have e:(AJ its.toArray.size).any (λi=>bs.getD i false)=bs.any id:=by
   rw[show its.toArray.size=bs.length by simpa using hlen];rw[BN];simp only[List.any_eq_true,List.mem_range,id];constructor
   .rintro⟨i,hi,h⟩;exact⟨bs[i],AW hi,by simpa[Ar,hi]using h⟩
   .rintro⟨b,hb,h⟩;obtain⟨i,hi,e⟩:=AQ hb;exact⟨i,hi,by simpa[Ar,hi,e]using h⟩
  rw[e];exact q
end
end L2
namespace HT
open PySem PyProof.Rows PySem.Spec
end HT
namespace L2
open PySem PySem.Spec PyProof.Rows
section
variable {X:Cx}{K:W.Frag}
end
section
variable {X:Cx}
theorem Inv.turnedL{pins:List (Addr × Obj)}{σ : St}{H:Hp}{s:Ae}{h':Heap}{t':Nat}{fp:List Addr}(I:Inv X pins σ H s)(k:∀b o, b ∉ fp -> s.heap.get? b=some o -> h'.get? b=some o)(hf:∀b ∈ fp, FpOk X pins H b) :
  Inv X pins σ H { s with heap:=h',toks:=t' }:=by
 have nb:∀b u,H b=some u->b ∉ fp:=λb u q z=>by rw[(hf b z).1]at q;cases q
 refine I.step (g':=s.gens) (d':=s.drawn) (ch:=fp) (λb hb=>?_) (λb o _ _ hc q _=>k b o hc q) (λb o _ _ hc q _=>⟨o.slots,k b o hc q⟩) (λ_ _ _ _ n=>n)
  (λb o hc q=>⟨o,k b o hc q⟩) (λ_ _ q=>q) (λ_ _ _ q=>q) (λb ps q=>⟨#[],by rw[q];simp⟩) (λm hm=>?_) (λb u q=>?_) I.bare
 .obtain⟨_,f1,_,f3,f4,f5⟩:=hf b hb;exact⟨f3,f1,f4,f5⟩
 .obtain⟨o,es,ep,ho,r⟩:=hm;exact⟨o,es,ep,k _ o (λz=>(hf _ z).2.1 rfl) ho,r⟩
 .refine (I.hok b u q).stay (λc v hc q'=>?_) (λ_ q=>q) λ_ _ q=>q
  rcases hc with z |z
  .rw[z]at q' ⊢;exact k _ _ (nb b u q) q'
  .exact k _ _ (nb c _ z) q'
noncomputable def Itz(K:W.Frag)(a b:Addr):It :=
 ⟨λi H=>∃xs ys x y,SqL K H a xs/\SqL K H b ys/\xs[i]?=some x/\ys[i]?=some y,
  λi H v H'=>∃p x y,v=.ref p/\H p=none/\H'=upd H p (.tup [x,y])/\(∀xs,SqL K H a xs->xs[i]?=some x)/\∀ys,SqL K H b ys->ys[i]?=some y,
  λi H=>∃xs ys,SqL K H a xs/\SqL K H b ys/\(xs.length<=i∨ys.length<=i)⟩
theorem zlq{P:AH}{w:A1}{K:W.Frag}{es:List Expr}{x1:Nat}{pos:Pos}(a b z TI TO i1 i2:Addr)(D:ZipApart z TI TO i1 i2 a b) :
  Turn P w K (.Tuple es x1 pos) (Itz K a b) [z,TI,TO,i1,i2] z (λi h=>∃u v,IsZip h z TI TO .none/\IsPair h TI (.ref i1) (.ref i2)/\IsPair h TO u v/\h.IsListIter i1 a i/\h.IsListIter i2 b i) where
 mem:=by simp
 obj:=λi h st c hc=>by
  obtain⟨u,v,h1,h2,h3,⟨o4,e4,c4,d4⟩,⟨o5,e5,c5,d5⟩⟩:=st;simp only[At,B6,or_false]at hc;rcases hc with rfl |rfl |rfl |rfl |rfl
  .exact⟨_,h1,λv q=>nomatch q⟩
  .exact⟨_,h2,λv q=>nomatch q⟩
  .exact⟨_,h3,λv q=>nomatch q⟩
  .exact⟨o4,e4,λv q=>by rw[d4]at q;cases q⟩
  .exact⟨o5,e5,λv q=>by rw[d5]at q;cases q⟩
 keep:=λi h h' ⟨u,v,h1,h2,h3,h4,h5⟩ k=>⟨u,v,k z (by simp) _ h1,k TI (by simp) _ h2,k TO (by simp) _ h3,h4.at λo q=>k i1 (by simp) o q,h5.at λo q=>k i2 (by simp) o q⟩
 item:=by
  intro X hP hw hK hc i pins s σ H E I hf st hg;subst hP hw hK;obtain⟨u0,v0,hz,hTI,hTO,h1,h2⟩:=st;obtain⟨xs,ys,x,y,hq1,hq2,hx,hy⟩:=hg;obtain⟨its1,rv1,p1,hz1⟩:=I.list hq1;obtain⟨its2,rv2,p2,hz2⟩:=I.list hq2;obtain⟨u,hu,ru⟩:=rv1.get hx;obtain⟨v,hv,rv⟩:=rv2.get hy;refine wpAny_pyNext_zip_item D hz hTI hTO h1 h2 p1.isList p2.isList (x:=u) (y:=v) (by simpa using hu) (by simpa using hv) λh' z1 t1 l1 l2 pr sz kk=>⟨_,rfl,?_⟩
  refine wpAny_letOwnedTupleGo_zip (s:={ s with heap:=h' }) z1 λh2' z2 sb=>?_
  have lt:∀c o,s.heap.get? c=some o->c<s.heap.objs.size:=λc o q=>Aq q
  have fr:H s.heap.objs.size=none:=I.hok.fresh (Ai _);have szl:z<s.heap.objs.size:=lt _ _ hz
  have I1:Inv X pins σ (upd H s.heap.objs.size (.tup [x,y])) { s with heap:=s.heap.push { cls:=.type "tuple",data:=.seq #[u,v] },toks:=s.toks } :=
   I.laid (t':=s.toks) (o:=.tup [x,y]) (λb ob q=>Ag _ q) (Ai _) ⟨by show 2<=sizeLine;decide,_,.cons ru (.cons rv .nil),IsTup.new _ _⟩
  have fp1:∀c∈[z,TI,TO,i1,i2],FpOk X pins (upd H s.heap.objs.size (.tup [x,y])) c:=λc hc=>by
   have hlt:c<s.heap.objs.size:=by
    simp only[At,B6,or_false]at hc;rcases hc with rfl |rfl |rfl |rfl |rfl
    .exact szl
    .exact lt _ _ hTI
    .exact lt _ _ hTO
    .obtain⟨o,q,_⟩:=h1;exact lt _ _ q
    .obtain⟨o,q,_⟩:=h2;exact lt _ _ q
   have:=hf c hc;exact⟨by rw[zam (AK hlt)];exact this.1,this.2⟩
  have I2:=I1.turnedL (h':=h2') (t':=s.toks) (fp:=[z,TI,TO,i1,i2]) (λc o hc q=>by
   simp only[At,B6,or_false,not_or]at hc;refine (sb.2 c hc.1).trans ?_
   show h'.get? c=some o;rcases Heap.get?_push_cases q with⟨e,rfl⟩ |q
   .rw[e];exact pr
   .exact kk c o hc.1 hc.2.2.1 hc.2.2.2.1 hc.2.2.2.2 q) fp1
  have at2:∀{c:Addr},c≠z->h2'.get? c=h'.get? c:=λhc=>sb.2 _ hc
  refine⟨.ref s.heap.objs.size,_,I2,rfl,⟨_,x,y,rfl,fr,rfl,λzs hy'=>by rw[I.list_inj hy' hq1];exact hx,λzs hy'=>by rw[I.list_inj hy' hq2];exact hy⟩,⟨u,v,z2,?_,?_,?_,?_⟩,λc hc=>(fp1 c hc).1⟩
  .exact (at2 D.TIz).trans (kk TI _ D.TIz D.TITO D.TIi1 D.TIi2 hTI)
  .exact (at2 D.TOz).trans t1
  .exact l1.at λo q=>(at2 D.i1z).trans q
  .exact l2.at λo q=>(at2 D.i2z).trans q
 done:=by
  intro X hP hw hK hc i pins s σ H E I hf st hg;subst hP hw hK;obtain⟨u0,v0,hz,hTI,hTO,h1,h2⟩:=st;obtain⟨xs,ys,hq1,hq2,hend⟩:=hg;obtain⟨its1,rv1,p1,hz1⟩:=I.list hq1;obtain⟨its2,rv2,p2,hz2⟩:=I.list hq2;have e1:=rv1.length;have e2:=rv2.length;refine wpAny_pyNext_zip_end (I.ok.hd hc) D hz hTI hTO h1 h2 p1.isList p2.isList (hend.imp (λq=>by simp;lia) (λq=>by simp;lia)) λh' kk=>⟨rfl,?_⟩
  refine I.turnedL (t':=s.toks) (fp:=[z,TI,TO,i1,i2]) (λc o hc q=>?_) hf;simp only[At,B6,or_false,not_or]at hc;exact kk c o hc.1 hc.2.2.1 hc.2.2.2.1 hc.2.2.2.2 q
 self:=λ_ _ _ _ _ ⟨_,_,hz,_⟩ h=>wpAny_pyIter_zip hz h
noncomputable def iZip(K:W.Frag)(t:TA):TI:=λσ H R=>t σ H λvs H1=>∃a b,vs=[.ref a,.ref b]/\(∃xs,SqL K H1 a xs)/\(∃ys,SqL K H1 b ys)/\R (Itz K a b) H1
theorem znC {l m:Expr}{t:TA}{es:List Expr}{x1:Nat}{pos pos' p:Pos}(hg:Gl X "zip") (hm:X.mg "zip" = none) (ha:PA X [l, m] t)
  (he:A4 [l,m] X.env=(false,eval l X.env)::A4 [m] X.env:=by rfl) (hpl:(backTo pos' (A4 [m] X.env)).any (·.1)=false:=by rfl) :
  PI X (.Tuple es x1 pos) (.Call (.Name "zip" p) [l,m] [] pos') (iZip X.K t):=by
 intro pins s σ H R I h;refine B4 (zdT I hg hm (by rfl) ?_ (by decide) (by decide));refine BQ (thn (ha pos' pins s σ H _ I h) λus s1 ⟨vs,H1,I1,r1,q1⟩=>?_) he hpl;obtain⟨a,b,ex,⟨xs,hq1⟩,⟨ys,hq2⟩,q⟩:=q1;subst ex;obtain⟨u,v,rfl,ru,rv⟩:=vals2 r1
 cases ru
 cases rv
 obtain⟨its1,rv1,p1,hz1⟩:=I1.list hq1;obtain⟨its2,rv2,p2,hz2⟩:=I1.list hq2;have la:a<s1.heap.objs.size:=by obtain⟨o,ho,_⟩:=p1.isList;exact Aq ho
 have lb:b<s1.heap.objs.size:=by obtain⟨o,ho,_⟩:=p2.isList;exact Aq ho
 refine call_zip_2 p1.isList p2.isList λh' hz hTI hTO hi1 hi2 hsz kp=>?_
 have I2:Inv X pins σ H1 { s1 with heap:=h' }:=I1.kept (t':=s1.toks) kp;refine wpAny_pyIter_zip hz ?_
 have ne:∀i j:Nat,i≠j->(s1.heap.objs.size+i:Nat)≠s1.heap.objs.size+j:=λi j h=>by lia
 have na:∀i:Nat,a≠s1.heap.objs.size+i:=λi=>AK (AM la (Cq _ _))
 have nb:∀i:Nat,b≠s1.heap.objs.size+i:=λi=>AK (AM lb (Cq _ _))
 have D:ZipApart (s1.heap.objs.size+4) (s1.heap.objs.size+2) (s1.heap.objs.size+3) s1.heap.objs.size (s1.heap.objs.size+1) a b :=
  ⟨ne 2 4 (by decide),ne 3 4 (by decide),ne 0 4 (by decide),ne 1 4 (by decide),ne 2 3 (by decide),ne 2 0 (by decide),ne 2 1 (by decide),ne 3 0 (by decide),ne 3 1 (by decide),ne 0 1 (by decide),
   na 4,na 3,na 0,na 1,nb 4,nb 3,nb 0,nb 1⟩
 refine⟨s1.heap.objs.size+4,[s1.heap.objs.size+4,s1.heap.objs.size+2,s1.heap.objs.size+3,s1.heap.objs.size,s1.heap.objs.size+1],_,_,H1,rfl,I2,zlq a b _ _ _ _ _ D,⟨_,_,hz,hTI,hTO,hi1,hi2⟩,λc hc=>?_,q⟩
 have hge:s1.heap.objs.size<=c:=by
  simp only[At,B6,or_false]at hc;rcases hc with rfl |rfl |rfl |rfl |rfl
  .exact Cq _ _
  .exact Cq _ _
  .exact Cq _ _
  .exact Ai _
  .exact Cq _ _
 exact I1.fpOk hge (I1.hok.fresh hge)
theorem zm8{K:W.Frag}{a b:Addr}{xs ys:List V}{g:TG}{tb:TS}{D:Ends}{σ : St}{H:Hp}(Pv:Nat -> St -> Hp -> Prop)(h0:Pv 0 σ H)(hl:∀i σ H, i <= xs.length -> Pv i σ H -> SqL K H a xs /\ SqL K H b ys)(he:xs.length=ys.length)
  (hs:∀i x y σ H p,xs[i]?=some x->ys[i]?=some y->Pv i σ H->H p=none->g (.ref p) σ (upd H p (.tup [x,y])) λσ2 H2=>tb { D with nx:=Pv (i+1),ct:=Pv (i+1),bk:=D.nx } σ2 H2) (hd:∀ σ H,Pv xs.length σ H->D.nx σ H) :
  ∃W:Nat->Nat->St->Hp->Prop,(∃m,W 0 m σ H)/\∀i m σ H,W i m σ H ->
   ((Itz K a b).stop i H/\D.nx σ H)∨((Itz K a b).go i H/\∃N:St->Hp->Prop,(∀ σ' H',N σ' H'->∃m',m'<m/\W (i+1) m' σ' H')/\∀x H',(Itz K a b).yld i H x H'->g x σ H' λσ2 H2=>tb { D with nx:=N,ct:=N,bk:=D.nx } σ2 H2):=by
 refine⟨λi m σ H=>m=xs.length-i/\i<=xs.length/\Pv i σ H,⟨xs.length,by simp,Bj _,h0⟩,?_⟩;rintro i m σ H ⟨rfl,hi,p⟩;obtain⟨q1,q2⟩:=hl i σ H hi p
 by_cases hlt:i<xs.length
 .have hlt2:i<ys.length:=by lia
  refine .inr ⟨⟨xs,ys,xs[i],ys[i],q1,q2,by simp[hlt],by simp[hlt2]⟩,Pv (i+1),λσ' H' p'=>⟨xs.length-(i+1),by lia,rfl,hlt,p'⟩,λx H' y=>?_⟩;obtain⟨c,x',y',rfl,hc,rfl,e1,e2⟩:=y;exact hs i x' y' σ H c (e1 xs q1) (e2 ys q2) p hc
 .have e:i=xs.length:=by lia
  subst e;exact .inl ⟨⟨xs,ys,q1,q2,.inl (Ai _)⟩,hd σ H p⟩
end
section
variable {X:Cx}{e es:Expr}{te ts:TE}{pos p2:Pos}
noncomputable def tRevL(K:W.Frag)(te ts:TE):TE:=λσ H Q=>te σ H λx H1=>ts σ H1 λy H2=>y=.int (-1)/\∃a xs,x=.ref a/\SqL K H2 a xs/\∀p,H2 p=none->Q (.ref p) (upd H2 p (.lst xs.reverse))
theorem zmO(he:PE X e te)(hs:PE X es ts):PE X (.Subscript e (.Slice none none (some es) p2) pos) (tRevL X.K te ts):=by
 intro pins s σ H Q I h;refine Subscript_ (thn (he pins s σ H _ I h) λv s1 ⟨x,H1,I1,r1,q1⟩=>?_);refine wpAny_Slice ?_
 rw[evalPart_none,evalPart_some];refine Am (Am ?_);refine thn (hs pins s1 σ H1 _ I1 q1) λvs s3 ⟨y,H3,I3,r3,q3⟩=>?_
 obtain⟨rfl,a,xs,rfl,hx,q⟩:=q3;obtain⟨tk,rfl⟩:=r3
 cases r1
 have I4:Inv X pins σ H3 { s3 with heap:=s3.heap.push { cls:=.type "slice",data:=.fields #[.none,.none,.int (-1) tk] } }:=I3.kept (t':=s3.toks) λb ob q=>Ag _ q
 obtain⟨its,r,ht,hz⟩:=I4.list hx;have hlen:=r.length;show As (Az X.prog X.w) X.A (subscriptTail e (.Slice none none (some es) p2) (.ref a) (.ref s3.heap.objs.size)) (EP X pins σ Q) X.xe { s3 with heap:=s3.heap.push { cls:=.type "slice",data:=.fields #[.none,.none,.int (-1) tk] } };refine tail_any (ops:=[.ref a,.ref s3.heap.objs.size]) ht.isList.typeIs slot_list_getitem.lookup (wpAny_getItem_list_slice ht.isList (Heap.IsSliceOf.new ..) .none .none (.int (-1) tk) (by simp) ?_ (by rw[An] <;> lia)) (by with_unfolding_all rfl);rw[W.krv_pick];generalize s3.heap.push { cls:=.type "slice",data:=.fields #[.none,.none,.int (-1) tk] }=h4 at *;refine⟨.ref _,_,I4.laid (t':=s3.toks) (o:=.lst xs.reverse) (λb ob q=>Ag _ q) (Ai _) ?_,rfl,q _ (I4.hok.fresh (Ai _))⟩;exact⟨by rw[List.length_reverse];exact hz,its.reverse,0,r.reverse,AD _ rfl⟩
end
section
variable {X:Cx}
end
section
variable {prog:AH}{w:A1}{A:AS}{R:Result->Ae->Prop}{I:Addr}{fp wr:List Addr}{n:Nat}{P:Nat->Ab->Prop}{St:Nat->Heap->Prop}{dv:Ab}
end
section
variable {X:Cx}{pins:List (Addr×Obj)}{σ:St}{H0:Hp}{s:Ae}{l:Addr}{Q:VK}
end
section
variable {X:Cx}{p pos kpos kp:Pos}{e:Expr}{te:TE}{d:Int}{kj:Nat}
end
end L2
namespace HT
open PySem PyProof.Rows
variable {prog:AH}{w:A1}{A:AS}{E:Ab->Ae->Prop}{s:Ae}
end HT
namespace L2
open PySem PySem.Spec PyProof.Rows
section
variable {X:Cx}{e es:Expr}{te ts:TE}{pos p2:Pos}
end
end L2
namespace HT
open PySem PyProof.Rows
section
open PySem.SeqAt
open PySem.AutoSeq1 (wpAny_loadPart')
open PySem.MeetsSeq PySem.MeetsSeq2 PySem.MeetsSeq3
end
section
variable {prog:AH}{w:A1}{A:AS}{E:Ab->Ae->Prop}{s:Ae}
end
end HT
namespace L2
open PySem PySem.Spec PyProof.Rows
section
variable {X:Cx}{pos:Pos}
end
section
variable {prog:AH}{w:A1}{A:AS}{E:Ab->Ae->Prop}{s:Ae}{it d:Addr}{i ep:Nat}{es:Array DictEntry}{od:Obj}
end
section
variable {X:Cx}{tg:Expr}
end
section
variable {prog:AH}{w:A1}{K:Type} [DecidableEq K] {knd:HeapKind prog w K}{A:AS}{E:Ab->Ae->Prop}{s:Ae}{d a:Addr}{xs:List (K×Addr×Ab)}{k:K}
end
section
variable {X:Cx}{o e f:Expr}{apos cpos:Pos}{td ty tx:TE}
end
end L2
namespace RP
end RP
namespace L2
open PySem PySem.Spec PyProof.Rows
section
variable {X:Cx}
end
end L2
namespace HT
open PySem PyProof.Rows
variable {prog:AH}{w:A1}{A:AS}{E:Ab->Ae->Prop}{s:Ae}
end HT
namespace L2
open PySem PySem.Spec PyProof.Rows
section
variable {X:Cx}{e es:Expr}{te ts:TE}{pos p2:Pos}
end
section
variable {prog:AH}{w:A1}{A:AS}{E:Ab->Ae->Prop}{s:Ae}
end
section
variable {X:Cx}
end
section
variable {X:Cx}
end
section
variable {prog:AH}{w:A1}{A:AS}{E:Ab->Ae->Prop}{s:Ae}
end
section
variable {X:Cx}{pins:List (Addr×Obj)}{σ:St}
end
section
variable {X:Cx}{l m:Expr}{t:TA}{p p2 pos pos2:Pos}
end
section
variable {X:Cx}{a:Expr}{t:TA}{p p2 pos pos2:Pos}
end
section
variable {X:Cx}
end
section
variable {X:Cx}{tg:Expr}
end
section
variable {X:Cx}{pos:Pos}{kx vx:Expr}{tk tv:TE}
end
open AutoSeq1 (wpAny_loadPart')
section
variable {prog:AH}{w:A1}{A:AS}{E:Ab->Ae->Prop}{s:Ae}{d:Addr}{ep:Nat}{es:Array DictEntry}{od:Obj}
end
section
variable {X:Cx}
end
section
variable {X:Cx}{es:List Expr}{te:TE}{t:TA}{pos:Pos}
theorem pa_T{l:List Expr}{k:Nat}(ha:PE X (.Tuple l k pos) te)(hr:PA X es t):PA X (.Tuple l k pos::es) (tCons te t):=zah ha hr (by rfl)
theorem pa_C{c:Const}{k:Nat}(ha:PE X (.Constant c k pos) te)(hr:PA X es t):PA X (.Constant c k pos::es) (tCons te t):=zah ha hr (by rfl)
theorem pa_U{o:UnaryOp}{a:Expr}(ha:PE X (.UnaryOp o a pos) te)(hr:PA X es t):PA X (.UnaryOp o a pos::es) (tCons te t):=zah ha hr (by rfl)
theorem pa_B{a b:Expr}{o:Operator}(ha:PE X (.BinOp a o b pos) te)(hr:PA X es t):PA X (.BinOp a o b pos::es) (tCons te t):=zah ha hr (by rfl)
theorem pa_N{x:Str}(ha:PE X (.Name x pos) te)(hr:PA X es t):PA X (.Name x pos::es) (tCons te t):=zah ha hr (by rfl)
end
theorem zbi{i:Nat}{v:V}{σ:St}{H:Hp}{Q:St->Hp->Prop}:gName i v σ H Q=Q (σ.set i (some v)) H:=rfl
theorem zn6{i:Nat}{v:V}{u:TS}{D:Ends}{σ:St}{H:Hp}:tSeq (tAsg (tC v) (gName i)) u D σ H=u D (σ.set i (some v)) H:=rfl
section
variable {X:Cx}{tg:Expr}
end
section
variable {prog:AH}{w:A1}{A:AS}{R:Result->Ae->Prop}{I:Addr}{fp wr:List Addr}{n:Nat}{P:Nat->Ab->Prop}{St:Nat->Heap->Prop}{dv:Ab}
end
section
variable {X:Cx}{pins:List (Addr×Obj)}{σ:St}{H0:Hp}{s:Ae}{l:Addr}{Q:VK}
end
section
variable {X:Cx}{p pos kpos:Pos}{e ed:Expr}{te td:TE}
end
end L2
namespace RP
noncomputable def av(w:Nat):Int:=if w=0∨w=1 then 1 else 0
noncomputable def bv(w:Nat):Int:=if w=1∨w=2 then 1 else 0
noncomputable def eU(e:Edge):Int:=px e+py e+av e.w
noncomputable def eV(e:Edge):Int:=py e-px e+bv e.w
noncomputable def tt(C:Cell->Bool)(e:Edge):Int:=match stepB C e with
 |none=>1
 |some s=>if s % 2=1 then -1 else 0
noncomputable def eK(w:Nat):Int:=(if w=1∨w=2 then 1 else 0)+(if w=2∨w=3 then 1 else 0)+av w
noncomputable def eL(w:Nat):Int:=(if w=2∨w=3 then 1 else 0)-(if w=1∨w=2 then 1 else 0)+bv w
theorem e_tab:∀w<4,∀v<4,(eK w-eK v+(eL w-eL v)) % 2≠0∨w=v∨(eK w-eK v-(eL w-eL v)=2*(mv ((2*w+6) % 8)).1/\eK w-eK v+(eL w-eL v)=2*(mv ((2*w+6) % 8)).2):=by decide
theorem eU_of(e:Edge):eU e=e.c.1+e.c.2+eK e.w:=by unfold eU px py eK;lia
theorem eV_of(e:Edge):eV e=e.c.2-e.c.1+eL e.w:=by unfold eV px py eL;lia
theorem e_inj{C:Cell->Bool}{e f:Edge}(he:IsE C e)(hf:IsE C f)(h1:eU e=eU f)(h2:eV e=eV f):e=f:=by
 rw[eU_of,eU_of]at h1;rw[eV_of,eV_of]at h2;have t:=e_tab e.w he.1 f.w hf.1;obtain⟨⟨x,y⟩,w⟩:=e;obtain⟨⟨x',y'⟩,w'⟩:=f;simp only at h1 h2 t;rcases t with z |z |⟨z1,z2⟩
 .exfalso;lia
 .subst z;have a:x=x':=by lia
  have b:y=y':=by lia
  rw[a,b]
 .have g:=he.2.2;have a:x'=x+(mv ((2*w+6) % 8)).1:=by lia
  have b:y'=y+(mv ((2*w+6) % 8)).2:=by lia
  have c:=hf.2.1;rw[a,b]at c;exact absurd (c.symm.trans g) (by decide)
theorem zcM{C:Cell->Bool}{e:Edge}(h:IsE C e):eU (nxt C e)=eU e+(av e.w+av (nxt C e).w-1)/\eV (nxt C e)=eV e+(bv e.w+bv (nxt C e).w-1):=by obtain⟨p,q⟩:=ziG h;unfold eU eV;rw[p,q];have hw:=h.1;generalize (nxt C e).w=w';rcases way4 hw with r |r |r |r <;> rw[r] <;> simp[av,bv,dx,dy] <;> lia
theorem zfP{C:Cell -> Bool}{e:Edge}(h:IsE C e) :
  (tt C e=-1/\(nxt C e).w=(e.w+3) % 4)∨(tt C e=0/\(nxt C e).w=e.w)∨(tt C e=1/\(nxt C e).w=(e.w+1) % 4):=by
 unfold tt;rcases zaw h with⟨_,s,q⟩ |⟨_,_,s,q⟩ |⟨_,_,s,q⟩ <;> rw[q,s] <;> simp only
 .left;rw[if_pos (odd7 _)];exact⟨by decide,trivial⟩
 .right;left;rw[if_neg (by lia)];exact⟨by decide,trivial⟩
 .right;right;exact⟨by decide,trivial⟩
theorem c_at{C:Cell->Bool}{a b c d:Int}{v:Bool}(h:C (a,b)=v)(h1:c=a)(h2:d=b):C (c,d)=v:=by subst h1 h2;exact h
theorem zfp{C:Cell -> Bool}{e:Edge}(h:IsE C e)(ht:tt C e=0) :
  C (px e+dx e.w-1,py e+dy e.w-1)=decide (e.w=1∨e.w=2)/\C (px e+dx e.w,py e+dy e.w-1)=decide (e.w=2∨e.w=3):=by
 obtain⟨⟨x,y⟩,w⟩:=e;obtain⟨hw,hc,hg⟩:=id h;rcases zaw h with⟨_,s,q⟩ |⟨k1,k2,s,q⟩ |⟨_,_,s,q⟩
 .exfalso;unfold tt at ht;rw[s]at ht;simp only at ht;rw[if_pos (odd7 _)]at ht;exact absurd ht (by decide)
 .simp only at hw hc k1 k2
  rcases way4 hw with rfl |rfl |rfl |rfl <;> simp only[gap,go,mv,px,py,dx,dy]at hg k1 k2 ⊢ <;> simp at hg k1 k2 hc ⊢ <;>
   refine⟨?_,?_⟩ <;> first |exact c_at hg (by lia) (by lia) |exact c_at hc (by lia) (by lia) |exact c_at k1 (by lia) (by lia) |exact c_at k2 (by lia) (by lia)
 .exfalso;unfold tt at ht;rw[s]at ht;exact absurd ht (by decide)
theorem zec(w:Nat):av w=0∨av w=1:=by unfold av;split <;> simp
theorem zi7(w:Nat):bv w=0∨bv w=1:=by unfold bv;split <;> simp
theorem zgw:∀w<4,∀n,n=(w+3) % 4∨n=(w+1) % 4->(av w=av n/\bv w+bv n=1)∨(av w+av n=1/\bv w=bv n):=by intro w hw n hn;rcases hn with rfl |rfl <;> revert w <;> decide
theorem dx_av:∀w<4,dx w=av w-bv w/\dy w=av w+bv w-1:=by decide
theorem zm3{C:Cell->Bool}{e f:Edge}(he:IsE C e)(hf:IsE C f)(h1:eU e+eU (nxt C e)=eU f+eU (nxt C f))(h2:eV e+eV (nxt C e)=eV f+eV (nxt C f)):e=f:=by
 obtain⟨a1,a2⟩:=zcM he;obtain⟨b1,b2⟩:=zcM hf
 have key:e=f∨(tt C e=0/\tt C f=0/\px e+dx e.w=px f+dx f.w/\py e+dy e.w=py f+dy f.w)∨(eU e=eU (nxt C f)/\eV e=eV (nxt C f)/\e.w≠(nxt C f).w):=by
  rw[a1,b1]at h1;rw[a2,b2]at h2
  have ta:(tt C e=0/\(nxt C e).w=e.w)∨(av e.w=av (nxt C e).w/\bv e.w+bv (nxt C e).w=1)∨(av e.w+av (nxt C e).w=1/\bv e.w=bv (nxt C e).w):=by
   rcases zfP he with⟨_,n⟩ |q |⟨_,n⟩
   .exact .inr (zgw _ he.1 _ (.inl n))
   .exact .inl q
   .exact .inr (zgw _ he.1 _ (.inr n))
  have tb:(tt C f=0/\(nxt C f).w=f.w)∨(av f.w=av (nxt C f).w/\bv f.w+bv (nxt C f).w=1)∨(av f.w+av (nxt C f).w=1/\bv f.w=bv (nxt C f).w):=by
   rcases zfP hf with⟨_,n⟩ |q |⟨_,n⟩
   .exact .inr (zgw _ hf.1 _ (.inl n))
   .exact .inl q
   .exact .inr (zgw _ hf.1 _ (.inr n))
  have fin:eU e=eU f->eV e=eV f->e=f:=λq1 q2=>e_inj he hf q1 q2
  have dif:∀{g:Nat->Int},g e.w≠g (nxt C f).w->e.w≠(nxt C f).w:=λ{g} q z=>q (by rw[z])
  rw[b1,b2];rcases ta with⟨t1,n1⟩ |⟨p1,p2⟩ |⟨p1,p2⟩ <;> rcases tb with⟨t2,n2⟩ |⟨q1,q2⟩ |⟨q1,q2⟩
  .rw[n1,n2]at h1 h2;have u1:eU e=px e+py e+av e.w:=rfl;have u2:eV e=py e-px e+bv e.w:=rfl;have v1:eU f=px f+py f+av f.w:=rfl;have v2:eV f=py f-px f+bv f.w:=rfl;obtain⟨d1,d2⟩:=dx_av _ he.1;obtain⟨d3,d4⟩:=dx_av _ hf.1;exact .inr (.inl ⟨t1,t2,by lia,by lia⟩)
  .rw[n1]at h1 h2;exfalso;lia
  .rw[n1]at h1 h2;exfalso;lia
  .rw[n2]at h1 h2;exfalso;lia
  .rcases Classical.em (av e.w=av f.w) with z |z
   .exact .inl (fin (by lia) (by lia))
   .have c1:=zec e.w;have c2:=zec f.w;exact .inr (.inr ⟨by lia,by lia,dif (g:=av) (by lia)⟩)
  .exfalso;lia
  .rw[n2]at h1 h2;exfalso;lia
  .exfalso;lia
  .rcases Classical.em (bv e.w=bv f.w) with z |z
   .exact .inl (fin (by lia) (by lia))
   .have c1:=zi7 e.w;have c2:=zi7 f.w;exact .inr (.inr ⟨by lia,by lia,dif (g:=bv) (by lia)⟩)
 rcases key with h |⟨t1,t2,q1,q2⟩ |⟨q1,q2,q3⟩
 .exact h
 .obtain⟨c1,c2⟩:=zfp he t1;obtain⟨d1,d2⟩:=zfp hf t2;rw[q1,q2]at c1 c2;rw[c1]at d1;rw[c2]at d2;have d1':=decide_eq_decide.mp d1;have d2':=decide_eq_decide.mp d2;have hw:=he.1;have hw':=hf.1;have ww:e.w=f.w:=by lia
  rw[ww]at q1 q2;refine e_inj he hf ?_ ?_ <;> simp only[eU,eV] <;> rw[ww] <;> lia
 .exact absurd (congrArg Edge.w (e_inj he (zcc hf) q1 q2)) q3
noncomputable def cr(x1 y1 x2 y2:Int):Int:=if y1=-1/\y2=0/\0<x2 then 1 else if y1=0/\y2=-1/\0<x1 then -1 else 0
noncomputable def crT(t y1 y2:Int):Int:=if y1=-1/\y2=0 then t else if y1=0/\y2=-1 then -t else 0
theorem zeb(t y:Int):crT t y y=0:=by unfold crT;rw[if_neg (by lia),if_neg (by lia)]
theorem zi3(t y z:Int):crT t y z+crT t z y=0:=by
 unfold crT
 by_cases h:y=-1/\z=0
 .rw[if_pos h,if_neg (by lia),if_pos ⟨h.2,h.1⟩];lia
 .by_cases k:y=0/\z=-1
  .rw[if_neg h,if_pos k,if_pos ⟨k.2,k.1⟩];lia
  .rw[if_neg h,if_neg k,if_neg (by lia),if_neg (by lia)];rfl
theorem cr_T{t x1 y1 x2 y2:Int}(h1:y1=0->(0<x1/\t=1)∨(¬ 0<x1/\t=0))(h2:y2=0->(0<x2/\t=1)∨(¬ 0<x2/\t=0)):cr x1 y1 x2 y2=crT t y1 y2:=by
 unfold cr crT
 by_cases h:y1=-1/\y2=0
 .rcases h2 h.2 with⟨q,r⟩ |⟨q,r⟩
  .rw[if_pos ⟨h.1,h.2,q⟩,if_pos h,r]
  .rw[if_neg (by lia),if_neg (by lia),if_pos h,r]
 .rw[if_neg (λz=>h ⟨z.1,z.2.1⟩),if_neg h]
  by_cases k:y1=0/\y2=-1
  .rcases h1 k.1 with⟨q,r⟩ |⟨q,r⟩
   .rw[if_pos ⟨k.1,k.2,q⟩,if_pos k,r]
   .rw[if_neg (by lia),if_pos k,r];rfl
  .rw[if_neg (λz=>k ⟨z.1,z.2.1⟩),if_neg k]
theorem cr_sq(u v a1 a2 b1 b2:Int)(ha1 : -1 <= a1 /\ a1 <= 1)(ha2 : -1 <= a2 /\ a2 <= 1)(hb1 : -1 <= b1 /\ b1 <= 1)(hb2 : -1 <= b2 /\ b2 <= 1)
  (h00:¬(u=0/\v=0)) (h10:¬(u+a1=0/\v+a2=0)) (h01:¬(u+b1=0/\v+b2=0)) (h11:¬(u+a1+b1=0/\v+a2+b2=0))
  (hc:¬(2*u+a1+b1=0/\2*v+a2+b2=0)) :
  cr u v (u+a1) (v+a2)+cr (u+a1) (v+a2) (u+a1+b1) (v+a2+b2)=cr u v (u+b1) (v+b2)+cr (u+b1) (v+b2) (u+a1+b1) (v+a2+b2):=by
 obtain⟨t,k00,k10,k01,k11⟩:∃t:Int,(v=0->(0<u/\t=1)∨(¬ 0<u/\t=0))/\(v+a2=0->(0<u+a1/\t=1)∨(¬ 0<u+a1/\t=0))/\(v+b2=0->(0<u+b1/\t=1)∨(¬ 0<u+b1/\t=0))/\(v+a2+b2=0->(0<u+a1+b1/\t=1)∨(¬ 0<u+a1+b1/\t=0)):=by
  rcases Classical.em ((v=0/\0<u)∨(v+a2=0/\0<u+a1)∨(v+b2=0/\0<u+b1)∨(v+a2+b2=0/\0<u+a1+b1)) with z |z
  .exact⟨1,λh=>.inl ⟨by lia,rfl⟩,λh=>.inl ⟨by lia,rfl⟩,λh=>.inl ⟨by lia,rfl⟩,λh=>.inl ⟨by lia,rfl⟩⟩
  .exact⟨0,λh=>.inr ⟨by lia,rfl⟩,λh=>.inr ⟨by lia,rfl⟩,λh=>.inr ⟨by lia,rfl⟩,λh=>.inr ⟨by lia,rfl⟩⟩
 rw[cr_T k00 k10,cr_T k10 k11,cr_T k00 k01,cr_T k01 k11];have c:a2=b2∨a2=0∨b2=0∨a2=-b2:=by lia
 rcases c with rfl |rfl |rfl |rfl
 .rfl
 .rw[Int.add_zero,zeb,zeb];lia
 .rw[Int.add_zero,Int.add_zero,zeb,zeb];lia
 .rw[show v+-b2+b2=v by lia,zi3,zi3]
section
variable (U V:Nat->Int)
noncomputable def hH(i j:Nat):Int:=cr (U j-U i) (V j-V i) (U (j+1)-U i) (V (j+1)-V i)
noncomputable def gG(i j:Nat):Int:=cr (U j-U i) (V j-V i) (U j-U (i+1)) (V j-V (i+1))
noncomputable def sE:Nat->Int
 | 0=>0
 |i+1=>sE i+hH U V i (i+1)+gG U V i (i+2)
noncomputable def sF(i:Nat):Nat->Int
 | 0=>sE U V i
 |d+1=>sF i d+hH U V i (i+1+d)
variable {U V}
variable {n:Nat}
theorem zhM(su:∀k, -1 <= U (k + 1)-U k /\ U (k + 1)-U k <= 1)(sv:∀k, -1 <= V (k + 1)-V k /\ V (k + 1)-V k <= 1)
  (hd:∀i j,i<j->j<=n->¬(i=0/\j=n)->¬(U j-U i=0/\V j-V i=0))
  (hm:∀i j,i<j->j<n->¬(U i+U (i+1)=U j+U (j+1)/\V i+V (i+1)=V j+V (j+1))) :
  ∀d i,i+2+d<=n->¬(i=0/\i+2+d=n)->sF U V (i+1) d-sF U V i (d+1)=gG U V i (i+2+d)
 | 0,i,h,hx=>by
  show sE U V (i+1)-(sE U V i+hH U V i (i+1+0))=_;show sE U V i+hH U V i (i+1)+gG U V i (i+2)-(sE U V i+hH U V i (i+1))=gG U V i (i+2);lia
 |d+1,i,h,hx=>by
  have ih:=zhM su sv hd hm d i (by lia) (by lia);show sF U V (i+1) d+hH U V (i+1) (i+1+1+d)-(sF U V i (d+1)+hH U V i (i+1+(d+1)))=gG U V i (i+2+(d+1));have j1:i+1+1+d=i+2+d:=by lia
  have j2:i+1+(d+1)=i+2+d:=by lia
  have j3:i+2+(d+1)=(i+2+d)+1:=by lia
  rw[j1,j2,j3];generalize hj:i+2+d=j at *
  have q:=cr_sq (U j-U i) (V j-V i) (-(U (i+1)-U i)) (-(V (i+1)-V i)) (U (j+1)-U j) (V (j+1)-V j)
   (by have:=su i;lia) (by have:=sv i;lia) (su j) (sv j)
   (hd i j (by lia) (by lia) (by lia))
   (by have:=hd (i+1) j (by lia) (by lia) (by lia);lia)
   (by have:=hd i (j+1) (by lia) (by lia) (by lia);lia)
   (by have:=hd (i+1) (j+1) (by lia) (by lia) (by lia);lia)
   (by have:=hm i j (by lia) (by lia);lia)
  have e1:U j-U i+-(U (i+1)-U i)=U j-U (i+1):=by lia
  have e2:V j-V i+-(V (i+1)-V i)=V j-V (i+1):=by lia
  have e3:U j-U i+(U (j+1)-U j)=U (j+1)-U i:=by lia
  have e4:V j-V i+(V (j+1)-V j)=V (j+1)-V i:=by lia
  have e5:U j-U (i+1)+(U (j+1)-U j)=U (j+1)-U (i+1):=by lia
  have e6:V j-V (i+1)+(V (j+1)-V j)=V (j+1)-V (i+1):=by lia
  rw[e1,e2,e3,e4,e5,e6]at q;have q':gG U V i j+hH U V (i+1) j=hH U V i j+gG U V i (j+1):=q;lia
theorem cr_up{a b c d:Int}(h1:0<=b)(h2:0<=d):cr a b c d=0:=by unfold cr;rw[if_neg (by lia),if_neg (by lia)]
theorem cr_dn{a b c d:Int}(h1:b=0->a<=0)(h2:d=0->c<=0):cr a b c d=0:=by unfold cr;rw[if_neg (by lia),if_neg (by lia)]
theorem zns(hn : 3 <= n)(su:∀k, -1 <= U (k + 1)-U k /\ U (k + 1)-U k <= 1)(sv:∀k, -1 <= V (k + 1)-V k /\ V (k + 1)-V k <= 1)
  (hd:∀i j,i<j->j<=n->¬(i=0/\j=n)->¬(U j-U i=0/\V j-V i=0))
  (hm:∀i j,i<j->j<n->¬(U i+U (i+1)=U j+U (j+1)/\V i+V (i+1)=V j+V (j+1)))
  (hU:U n=U 0) (hV:V n=V 0) (mV:∀k,k<n->V 0<=V k) (mU:∀k,k<n->V k=V 0->U 0<=U k) :
  sE U V (n-1)=gG U V 0 (n-1)+hH U V 1 (n-1):=by
 have r0:∀d,d+2<=n->sF U V 0 d=0:=by
  intro d
  induction d with
  |zero=>intro _;rfl
  |succ d ih =>
   intro h;show sF U V 0 d+hH U V 0 (0+1+d)=0;rw[ih (by lia)];have:=mV (0+1+d) (by lia);have:=mV (0+1+d+1) (by lia);unfold hH;rw[cr_up (by lia) (by lia)];rfl
 have s1:=zhM su sv hd hm (n-3) 0 (by lia) (by lia);rw[show n-3+1=n-2 by lia,r0 (n-2) (by lia),show 0+2+(n-3)=n-1 by lia]at s1
 have s2:sF U V 1 (n-2)=sF U V 1 (n-3)+hH U V 1 (n-1):=by have:sF U V 1 (n-3+1)=sF U V 1 (n-3)+hH U V 1 (1+1+(n-3)):=rfl;rw[show n-3+1=n-2 by lia,show 1+1+(n-3)=n-1 by lia]at this;exact this
 have r1:∀k,1+k<=n-1->sF U V (1+k) (n-2-k)=sF U V 1 (n-2):=by
  intro k
  induction k with
  |zero=>intro _;rfl
  |succ k ih =>
   intro h;have s:=zhM su sv hd hm (n-3-k) (1+k) (by lia) (by lia);rw[show n-3-k+1=n-2-k by lia,show 1+k+2+(n-3-k)=n by lia,ih (by lia)]at s
   have z:gG U V (1+k) n=0:=by unfold gG;have a1:=mV (1+k) (by lia);have a2:=mU (1+k) (by lia);have b1:=mV (1+k+1) (by lia);have b2:=mU (1+k+1) (by lia);exact cr_dn (by lia) (by lia)
   rw[z]at s;rw[show 1+(k+1)=1+k+1 by lia,show n-2-(k+1)=n-3-k by lia];lia
 have e:=r1 (n-2) (by lia);rw[show 1+(n-2)=n-1 by lia,show n-2-(n-2)=0 by lia]at e;show sF U V (n-1) 0=_;rw[e];have:(0:Nat)+1=1:=rfl;rw[this]at s1;lia
end
noncomputable def crs(x1 y1 x2 y2:Int):Int:=cr x1 y1 (x1+x2) (y1+y2)+cr (x1+x2) (y1+y2) x2 y2
noncomputable def ok8(w i j:Nat):Bool :=
 let w1:=(w+i+3) % 4
 let w2:=(w1+j+3) % 4
 let t:Int:=(i:Int)-1
 let t':Int:=(j:Int)-1
 crs (av w+av w1-1) (bv w+bv w1-1) (av w1+av w2-1) (bv w1+bv w2-1) == (2*((w:Int)+t)-1+t') / 8-(2*(w:Int)-1+t) / 8 &&
 crs (-(av w+av w1-1)) (-(bv w+bv w1-1)) (-(av w1+av w2-1)) (-(bv w1+bv w2-1)) == (2*((w:Int)+t)-1+t'+4) / 8-(2*(w:Int)-1+t+4) / 8
theorem all8:∀w<4,∀i<3,∀j<3,ok8 w i j=true:=by decide
noncomputable def it(C:Cell->Bool)(b:Edge):Nat->Edge
 | 0=>b
 |k+1=>nxt C (it C b k)
theorem Chain.get{C:Cell->Bool}{b:Edge}{es:List Edge}(h:Chain C b es):∀i,i<es.length->es[i]?=some (it C b i)
 | 0,_=>h.1
 |i+1,hi=>by
  have h1:=Chain.get h i (by lia);have:=h.2.1 i _ _ h1 (Aa hi);rw[Aa hi,this];rfl
theorem Closed.pos{C:Cell->Bool}{b:Edge}{es:List Edge}(h:Closed C b es):0<es.length:=(Ad.mp h.1.1).1
theorem Closed.it_len{C:Cell->Bool}{b:Edge}{es:List Edge}(h:Closed C b es):it C b es.length=b:=by
 obtain⟨hc,l,hl,hb⟩:=id h;have hp:=h.pos;have:=hc.get (es.length-1) (by lia);rw[hl]at this
 cases this
 have e:it C b (es.length-1+1)=nxt C (it C b (es.length-1)):=rfl;rw[show es.length-1+1=es.length by lia]at e;rw[e,hb]
theorem it_ok{C:Cell->Bool}{b:Edge}(h:IsE C b):∀k,IsE C (it C b k)
 | 0=>h
 |k+1=>zcc (it_ok h k)
noncomputable def wW(C:Cell->Bool)(b:Edge):Nat->Int
 | 0=>b.w
 |k+1=>wW C b k+tt C (it C b k)
theorem tt_ix{C:Cell->Bool}{e:Edge}(h:IsE C e):∃i:Nat,i<3/\tt C e=(i:Int)-1/\(nxt C e).w=(e.w+i+3) % 4:=by
 have hw:=h.1;rcases zfP h with⟨a,b⟩ |⟨a,b⟩ |⟨a,b⟩
 .exact⟨0,by decide,by rw[a];rfl,by rw[b]⟩
 .exact⟨1,by decide,by rw[a];rfl,by rw[b];lia⟩
 .exact⟨2,by decide,by rw[a];rfl,by rw[b];lia⟩
theorem zgF{C:Cell->Bool}{b:Edge}(h:IsE C b):∀k,wW C b k % 4=((it C b k).w:Int)
 | 0=>by have:=h.1;show (b.w:Int) % 4=b.w;lia
 |k+1=>by
  have ih:=zgF h k;obtain⟨i,hi,e1,e2⟩:=tt_ix (it_ok h k);show (wW C b k+tt C (it C b k)) % 4=((nxt C (it C b k)).w:Int);rw[e1,e2];lia
noncomputable def th(C:Cell->Bool)(b:Edge)(k:Nat):Int:=2*wW C b k-1+tt C (it C b k)
noncomputable def up8(w i:Nat):Bool :=
 let w1:=(w+i+3) % 4
 decide (0<bv w+bv w1-1∨(bv w+bv w1-1=0/\0<=av w+av w1-1)) == decide ((2*(w:Int)-1+((i:Int)-1)) % 8<4) &&
 decide (bv w+bv w1-1<0∨(bv w+bv w1-1=0/\av w+av w1-1<=0)) == decide (4<=(2*(w:Int)-1+((i:Int)-1)) % 8) &&
 !(decide (av w+av w1-1=0/\bv w+bv w1-1=0))
theorem zn2:∀w<4,∀i<3,up8 w i=true:=by decide
theorem half{C:Cell -> Bool}{b:Edge}(h:IsE C b)(k:Nat) :
  ((0<eV (it C b (k+1))-eV (it C b k)∨(eV (it C b (k+1))-eV (it C b k)=0/\0<=eU (it C b (k+1))-eU (it C b k))) ↔ th C b k % 8<4) /\
  ((eV (it C b (k+1))-eV (it C b k)<0∨(eV (it C b (k+1))-eV (it C b k)=0/\eU (it C b (k+1))-eU (it C b k)<=0)) ↔ 4<=th C b k % 8) /\
  ¬ (eU (it C b (k+1))-eU (it C b k)=0/\eV (it C b (k+1))-eV (it C b k)=0):=by
 obtain⟨i,hi,e1,e2⟩:=tt_ix (it_ok h k);obtain⟨s1,s2⟩:=zcM (it_ok h k);have q:=zn2 _ (it_ok h k).1 i hi;have m:=zgF h k;simp only[up8,BO,beq_iff_eq,decide_eq_decide,Bool.not_eq_true',decide_eq_false_iff_not]at q;rw[<- e2]at q;obtain⟨⟨q1,q2⟩,q3⟩:=q;have t:th C b k % 8=(2*((it C b k).w:Int)-1+((i:Int)-1)) % 8:=by unfold th;rw[e1];lia
 rw[t];have d1:eU (it C b (k+1))-eU (it C b k)=av (it C b k).w+av (nxt C (it C b k)).w-1:=by show eU (nxt C (it C b k))-_=_;lia
 have d2:eV (it C b (k+1))-eV (it C b k)=bv (it C b k).w+bv (nxt C (it C b k)).w-1:=by show eV (nxt C (it C b k))-_=_;lia
 rw[d1,d2];exact⟨q1,q2,q3⟩
theorem sub0{a b:Int}(h:b-a=0):a=b:=by lia
theorem zim{a b c:Int}(h:a=b+c):a-b=c:=by lia
theorem turn8{C:Cell -> Bool}{b:Edge}(h:IsE C b)(k:Nat) :
  crs (eU (it C b (k+1))-eU (it C b k)) (eV (it C b (k+1))-eV (it C b k)) (eU (it C b (k+2))-eU (it C b (k+1))) (eV (it C b (k+2))-eV (it C b (k+1)))=th C b (k+1) / 8-th C b k / 8 /\
  crs (-(eU (it C b (k+1))-eU (it C b k))) (-(eV (it C b (k+1))-eV (it C b k))) (-(eU (it C b (k+2))-eU (it C b (k+1)))) (-(eV (it C b (k+2))-eV (it C b (k+1))))=(th C b (k+1)+4) / 8-(th C b k+4) / 8:=by
 obtain⟨i,hi,e1,e2⟩:=tt_ix (it_ok h k);obtain⟨j,hj,f1,f2⟩:=tt_ix (it_ok h (k+1));obtain⟨s1,s2⟩:=zcM (it_ok h k);obtain⟨s3,s4⟩:=zcM (it_ok h (k+1));have m:=zgF h k;have q:=all8 _ (it_ok h k).1 i hi j hj;simp only[ok8,BO,beq_iff_eq]at q;have w1:(it C b (k+1)).w=((it C b k).w+i+3) % 4:=e2;rw[<- w1,<- f2]at q;have wn:wW C b (k+1)=wW C b k+((i:Int)-1):=by show wW C b k+tt C (it C b k)=_;rw[e1]
 have t0:th C b k=2*wW C b k-1+((i:Int)-1):=by unfold th;rw[e1]
 have t1:th C b (k+1)=2*(wW C b k+((i:Int)-1))-1+((j:Int)-1):=by unfold th;rw[f1,wn]
 have d1:eU (it C b (k+1))-eU (it C b k)=av (it C b k).w+av (it C b (k+1)).w-1:=zim s1;have d2:eV (it C b (k+1))-eV (it C b k)=bv (it C b k).w+bv (it C b (k+1)).w-1:=zim s2;have d3:eU (it C b (k+2))-eU (it C b (k+1))=av (it C b (k+1)).w+av (nxt C (it C b (k+1))).w-1:=zim s3;have d4:eV (it C b (k+2))-eV (it C b (k+1))=bv (it C b (k+1)).w+bv (nxt C (it C b (k+1))).w-1:=zim s4;rw[d1,d2,d3,d4,t0,t1,q.1,q.2];clear q d1 d2 d3 d4 s1 s2 s3 s4 t0 t1 wn w1 f1 f2 e1 e2;generalize wW C b k=W at *;generalize (it C b k).w=w at *;constructor <;> lia
theorem znK:∀w<4,∀i<3,¬ (av w+av ((w+i+3) % 4)=1/\bv w+bv ((w+i+3) % 4)=1):=by decide
theorem zls{T0 Tm Tn D s:Int}(key:Tm / 8-T0 / 8=(Tn+4) / 8-(Tm+4) / 8)(u0:T0 % 8<4)(um:4<=Tm % 8)(hD:D % 4=0)(hn:Tn=T0+2*D)(hm:Tm=Tn-s)(s1:-2<=s)(s2:s<=2):(D=4/\0<s)∨(D=-4/\s<0):=by
 obtain⟨d,rfl⟩:∃d,D=4*d:=⟨D / 4,by lia⟩;have h1:(Tn+4) / 8=T0 / 8+d:=by lia
 have h2:(Tm+4) / 8=Tm / 8+1:=by lia
 rw[h1,h2]at key;have a1:T0=8*(T0 / 8)+T0 % 8:=by lia
 have a2:Tm=8*(Tm / 8)+Tm % 8:=by lia
 have a3:0<=T0 % 8:=by lia
 have a4:Tm % 8<8:=by lia
 generalize T0 / 8=a at *;generalize Tm / 8=c at *;generalize T0 % 8=r at *;generalize Tm % 8=p at *;clear h1 h2 hD;have:c-a-d=-1∨c-a-d=0:=by lia
 rcases this with z |z
 .exact .inl ⟨by lia,by lia⟩
 .exact .inr ⟨by lia,by lia⟩
theorem Closed.least_sign{C:Cell -> Bool}{b:Edge}{es:List Edge}(h:Closed C b es)
  (hmin:∀f∈es,eV b<=eV f/\(eV f=eV b->eU b<=eU f)):(wW C b es.length-wW C b 0=4/\0<tt C (it C b (es.length-1))+tt C b)∨(wW C b es.length-wW C b 0=-4/\tt C (it C b (es.length-1))+tt C b<0):=by
 have hp:=h.pos;have hE:IsE C b:=h.1.2.2.1 b (Ah h.1.1);have hl:=h.it_len;have get:=h.1.get;have nd:=h.1.2.2.2;generalize hn:es.length=n at *;have mem:∀k,k<n->it C b k∈es:=λk hk=>Ah (get k hk)
 have inj:∀i j,i<j->j<n->it C b i≠it C b j:=λi j hij hj e=>by have:=(CM (i:=i) (j:=j) (by lia) nd).mp (by rw[get i (by lia),get j hj,e]);lia
 have n3:3<=n:=by
  have h0:=half hE 0;have h1:=half hE 1;have l1:=zgF hE 1;rcases AC n 3 with hlt |hge
  .exfalso;have:n=1∨n=2:=by lia
   rcases this with e |e
   .rw[e]at hl;have z:=h0.2.2;rw[show 0+1=1 from rfl,hl]at z;exact z ⟨by show eU b-eU b=0;lia,by show eV b-eV b=0;lia⟩
   .rw[e]at hl;have a:=(tt_ix (it_ok hE 0));have c:=(tt_ix (it_ok hE 1));obtain⟨s1,s2⟩:=zcM (it_ok hE 0);obtain⟨s3,s4⟩:=zcM (it_ok hE 1);change it C b (1+1)=b at hl;have hl':nxt C (it C b 1)=b:=hl;rw[hl']at s3 s4;have i0:it C b 0=b:=rfl;have i1:nxt C (it C b 0)=it C b 1:=rfl;obtain⟨i,hi,_,e2⟩:=a;rw[i1,i0]at s1 s2 e2;have hw:=hE.1;have hw1:=(it_ok hE 1).1;have x1:av b.w+av (it C b 1).w=1:=by lia
    have x2:bv b.w+bv (it C b 1).w=1:=by lia
    rw[e2]at x1 x2;exact znK _ hw _ hi ⟨x1,x2⟩
  .exact hge
 have key:=zns (U:=λk=>eU (it C b k)) (V:=λk=>eV (it C b k)) n3
  (λk=>by obtain⟨s1,_⟩:=zcM (it_ok hE k);show -1<=eU (nxt C (it C b k))-eU (it C b k)/\eU (nxt C (it C b k))-eU (it C b k)<=1;have a:=zec (it C b k).w;have c:=zec (nxt C (it C b k)).w;lia)
  (λk=>by
   obtain⟨_,s1⟩:=zcM (it_ok hE k);show -1<=eV (nxt C (it C b k))-eV (it C b k)/\eV (nxt C (it C b k))-eV (it C b k)<=1;have a:bv (it C b k).w=0∨bv (it C b k).w=1:=by unfold bv;split <;> simp
   have c:bv (nxt C (it C b k)).w=0∨bv (nxt C (it C b k)).w=1:=by unfold bv;split <;> simp
   lia)
  (λi j hij hj hx z=>by
   have e:=e_inj (it_ok hE i) (it_ok hE j) (sub0 z.1) (sub0 z.2);rcases AC j n with hlt |hge
   .exact inj i j hij hlt e
   .have:j=n:=by lia
    rw[this,hl]at e;exact inj 0 i (by lia) (by lia) e.symm)
  (λi j hij hj z=>inj i j hij hj (zm3 (it_ok hE i) (it_ok hE j) z.1 z.2))
  (by show eU (it C b n)=eU b;rw[hl]) (by show eV (it C b n)=eV b;rw[hl])
  (λk hk=>(hmin _ (mem k hk)).1) (λk hk=>(hmin _ (mem k hk)).2)
 have sE_th:∀k,sE (λk=>eU (it C b k)) (λk=>eV (it C b k)) k=th C b k / 8-th C b 0 / 8:=by
  intro k
  induction k with
  |zero=>show (0:Int)=_;lia
  |succ k ih =>
   have q:=(turn8 hE k).1;unfold crs at q;have e1:eU (it C b (k+1))-eU (it C b k)+(eU (it C b (k+2))-eU (it C b (k+1)))=eU (it C b (k+2))-eU (it C b k):=by lia
   have e2:eV (it C b (k+1))-eV (it C b k)+(eV (it C b (k+2))-eV (it C b (k+1)))=eV (it C b (k+2))-eV (it C b k):=by lia
   rw[e1,e2]at q;show sE (λk=>eU (it C b k)) (λk=>eV (it C b k)) k+hH (λk=>eU (it C b k)) (λk=>eV (it C b k)) k (k+1)+gG (λk=>eU (it C b k)) (λk=>eV (it C b k)) k (k+2)=_;rw[ih];unfold hH gG;show th C b k / 8-th C b 0 / 8+cr (eU (it C b (k+1))-eU (it C b k)) (eV (it C b (k+1))-eV (it C b k)) (eU (it C b (k+2))-eU (it C b k)) (eV (it C b (k+2))-eV (it C b k))+cr (eU (it C b (k+2))-eU (it C b k)) (eV (it C b (k+2))-eV (it C b k)) (eU (it C b (k+2))-eU (it C b (k+1))) (eV (it C b (k+2))-eV (it C b (k+1)))=_;lia
 obtain⟨m,rfl⟩:∃m,n=m+1:=⟨n-1,by lia⟩;rw[show m+1-1=m by lia,sE_th]at key;have i2:it C b (m+2)=it C b 1:=by show nxt C (it C b (m+1))=nxt C b;rw[hl]
 have q:=(turn8 hE m).2;rw[i2,hl]at q;unfold crs at q;unfold gG hH at key;simp only at key;rw[hl]at key;have z0:it C b 0=b:=rfl;rw[show 0+1=1 from rfl,z0]at key;have e1:-(eU b-eU (it C b m))+-(eU (it C b 1)-eU b)=eU (it C b m)-eU (it C b 1):=by lia
 have e2:-(eV b-eV (it C b m))+-(eV (it C b 1)-eV b)=eV (it C b m)-eV (it C b 1):=by lia
 have e3:-(eU b-eU (it C b m))=eU (it C b m)-eU b:=by lia
 have e4:-(eV b-eV (it C b m))=eV (it C b m)-eV b:=by lia
 have e5:-(eU (it C b 1)-eU b)=eU b-eU (it C b 1):=by lia
 have e6:-(eV (it C b 1)-eV b)=eV b-eV (it C b 1):=by lia
 rw[e1,e2,e3,e4,e5,e6]at q;rw[q]at key
 have u0:th C b 0 % 8<4:=by
  refine (half hE 0).1.mp ?_
  obtain⟨a,c⟩:=hmin _ (mem 1 (by lia));rw[z0];show 0<eV (it C b 1)-eV b∨(eV (it C b 1)-eV b=0/\0<=eU (it C b 1)-eU b);lia
 have um:4<=th C b m % 8:=by
  refine (half hE m).2.1.mp ?_
  obtain⟨a,c⟩:=hmin _ (mem m (by lia));rw[hl];lia
 have md:=zgF hE (m+1);rw[hl]at md;have w0:wW C b 0=(b.w:Int):=rfl;have wn:wW C b (m+1)=wW C b m+tt C (it C b m):=rfl;have t0:th C b 0=2*wW C b 0-1+tt C b:=rfl;have tm:th C b m=2*wW C b m-1+tt C (it C b m):=rfl;have tn:th C b (m+1)=2*wW C b (m+1)-1+tt C b:=by unfold th;rw[hl]
 obtain⟨i,hi,r1,_⟩:=tt_ix hE;obtain⟨j,hj,r2,_⟩:=tt_ix (it_ok hE m);rw[show m+1-1=m from rfl];exact zls key u0 um (by lia) (by lia) (by lia) (by lia) (by lia)
theorem Closed.least_turn{C:Cell -> Bool}{b:Edge}{es:List Edge}(h:Closed C b es)
  (hmin:∀f∈es,eV b<=eV f/\(eV f=eV b->eU b<=eU f)):wW C b es.length-wW C b 0=4∨wW C b es.length-wW C b 0=-4 :=
 (h.least_sign hmin).imp And.left And.left
theorem Closed.head{C:Cell->Bool}{b a:Edge}{r:List Edge}(h:Closed C b (a::r)):a=b:=by have:=h.1.1;simpa using this
theorem Closed.rot1{C:Cell->Bool}{b c:Edge}{r:List Edge}(h:Closed C b (b::r))(hc:(r++[b])[0]?=some c):Closed C c (r++[b]):=by
 obtain⟨⟨h0,hs,hE,hn⟩,l,hl,hb⟩:=id h;refine⟨⟨hc,λi e f h1 h2=>?_,λe he=>hE e (by rcases Bf.mp he with m |m;exact Au _ m;rw[AA.mp m];exact AE),?_⟩,?_⟩
 .have hi:=(Ad.mp h2).1;simp only[Ap,A5,Ce]at hi;rw[Ao (by lia)]at h1;rcases AC (i+1) r.length with q |q
  .rw[Ao q]at h2;exact hs (i+1) e f (by simpa using h1) (by simpa using h2)
  .have e1:i+1=r.length:=by lia
   rw[AB (by lia),e1]at h2;simp at h2;have e2:(b::r).length-1=i+1:=by simp;lia
   rw[e2]at hl;simp only[List.getElem?_cons_succ]at hl;rw[hl]at h1
   cases h1
   rw[hb,h2]
 .rw[List.nodup_append];have:=Cd.mp hn;exact⟨this.2,by simp,λx hx y hy e=>by rw[AA.mp hy]at e;rw[e]at hx;exact this.1 hx⟩
 .refine⟨b,by simp,?_⟩
  cases r with
  |nil =>
   simp at hl hc;subst hc;subst hl;exact hb
  |cons a r =>
   simp at hc;have:=hs 0 b a rfl rfl;rw[<- this,hc]
theorem Closed.rot{C:Cell->Bool}:∀(j:Nat){b e:Edge}{es:List Edge},Closed C b es->es[j]?=some e->Closed C e (es.drop j++es.take j)
 | 0,b,e,es,h,he=>by
  have:=h.1.1;rw[he]at this
  cases this
  simpa using h
 |j+1,b,e,[],h,he=>by simp at he
 |j+1,b,e,a::r,h,he=>by
  have:=h.head;subst this;simp only[List.getElem?_cons_succ]at he;have hj:=(Ad.mp he).1;obtain⟨c,hc⟩:∃c,(r++[a])[0]?=some c:=⟨_,Aa (by simp)⟩;have h1:=h.rot1 hc;have h2:=Closed.rot j h1 (by rw[Ao hj];exact he);rw[List.drop_append_of_le_length (by lia),List.take_append_of_le_length (by lia)]at h2;simpa using h2
theorem zjL{C:Cell->Bool}{b:Edge}{es:List Edge}(h:Chain C b es):∀i,i<=es.length->((es.take i).map (tt C)).sum=wW C b i-wW C b 0
 | 0,_=>by simp
 |i+1,hi=>by
  have ih:=zjL h i (by lia);rw[Dm,h.get i (by lia)];simp only[Option.toList_some,Ax,AL,List.map_nil,Dc,Bw,List.sum_nil];rw[ih];show _=wW C b i+tt C (it C b i)-wW C b 0;lia
theorem zc9:∀(es:List Edge),es≠[]->∃b∈es,∀f∈es,eV b<=eV f/\(eV f=eV b->eU b<=eU f)
 |[],h=>absurd rfl h
 |[a],_=>⟨a,by simp,λf hf=>by rw[AA.mp hf];exact⟨Int.le_refl _,λ_=>Int.le_refl _⟩⟩
 |a::c::r,_=>by
  obtain⟨b,hb,q⟩:=zc9 (c::r) (by simp)
  by_cases hl:eV b<eV a∨(eV b=eV a/\eU b<=eU a)
  .refine⟨b,Au _ hb,λf hf=>?_⟩;rcases At.mp hf with rfl |hf
   .lia
   .exact q f hf
  .refine⟨a,AE,λf hf=>?_⟩;rcases At.mp hf with rfl |hf
   .lia
   .have:=q f hf;lia
theorem zhw(l:List Int)(j:Nat):(l.drop j++l.take j).sum=l.sum:=by
 have:=CC j l;rw[Dc]
 conv=>rhs;rw[<- this,Dc]
 lia
theorem Closed.turning{C:Cell->Bool}{b:Edge}{es:List Edge}(h:Closed C b es):(es.map (tt C)).sum=4∨(es.map (tt C)).sum=-4:=by
 have hp:=h.pos;obtain⟨e,he,q⟩:=zc9 es (by intro z;rw[z]at hp;simp at hp);obtain⟨j,hj,ej⟩:=AQ he;have h1:=h.rot j (by rw[Aa hj,ej])
 have h2:=h1.least_turn (λf hf=>q f (by
  rcases Bf.mp hf with m |m
  .exact List.mem_of_mem_drop m
  .exact Do m))
 rw[<- zjL h1.1 _ (Ai _),AO,Ax,CQ,B9,zhw]at h2;exact h2
theorem zfO(C:Cell->Bool):∀es:List Edge,(es.map (tt C)).sum=((es.filter λe=>(stepB C e).isNone).length:Int)-((es.filter λe=>slant (stepB C e)).length:Int)
 |[]=>rfl
 |e::r=>by
  have ih:=zfO C r
  have q:tt C e=(if (stepB C e).isNone=true then 1 else 0)-(if slant (stepB C e)=true then 1 else 0):=by
   unfold tt
   cases hs:stepB C e with
   |none=>rfl
   |some s =>
    by_cases h:s % 2=1
    .simp[slant,h]
    .have h0:s % 2=0:=by lia
     simp[slant,h0]
  simp only[AL,Bw,List.filter_cons];rw[q,ih];split <;> split <;> (try simp only[A5]) <;> lia
noncomputable def zbm(s:Nat):Nat:=(s+1) / 2 % 4
noncomputable def wayB(s:Nat):Nat:=(zbm s+4-s % 2) % 4
noncomputable def dgo:Nat->List Nat->List (Option Nat)×Nat
 |w,[]=>([],w)
 |w,s::r=>(Aj ((zbm s+4-w) % 4) none++some s::(dgo (wayB s) r).1,(dgo (wayB s) r).2)
noncomputable def zaJ(w:Nat)(row:List Nat):Nat:=if row.isEmpty then 4 else (w+4-(dgo w row).2) % 4
noncomputable def deeds(w:Nat)(row:List Nat):List (Option Nat):=(dgo w row).1++Aj (zaJ w row) none
theorem zd5{C:Cell->Bool}{e:Edge}(h:IsE C e){s:Nat}(hs:stepB C e=some s):zbm s=e.w/\wayB s=(nxt C e).w/\s<8:=by have hw:=h.1;rcases zaw h with⟨_,q,n⟩ |⟨_,_,q,n⟩ |⟨_,_,q,n⟩ <;> rw[n] <;> rw[q]at hs <;> cases hs <;> unfold wayB zbm <;> simp only <;> rcases way4 hw with r |r |r |r <;> rw[r] <;> decide
theorem zgj{C:Cell->Bool}{e:Edge}(h:IsE C e)(hs:stepB C e=none):nxt C e=⟨e.c,(e.w+1) % 4⟩:=by
 rcases zaw h with⟨_,q,n⟩ |⟨_,_,q,n⟩ |⟨_,_,q,n⟩
 .rw[q]at hs;cases hs
 .rw[q]at hs;cases hs
 .exact n
noncomputable def zms(C:Cell->Bool)(es:List Edge):Prop:=∀i,¬ ∀m,m<4->∃e,es[i+m]?=some e/\stepB C e=none
theorem zgs{C:Cell -> Bool}{b:Edge}{es:List Edge}(h:Chain C b es)(hE:IsE C b)(nf:zms C es):∀(n p j w:Nat), es.length-p=n -> p <= es.length -> j <= 3 -> j <= p -> w < 4 -> (∀m, m < j -> ∃e, es[p-1-m]? = some e /\ stepB C e=none) ->
    (it C b p).w=(w+j) % 4->∃t,t<=3/\Aj j none++(es.drop p).map (stepB C)=(dgo w (((es.drop p).map (stepB C)).filterMap id)).1++Aj t none /\
      ((dgo w (((es.drop p).map (stepB C)).filterMap id)).2+t) % 4=(it C b es.length).w/\(dgo w (((es.drop p).map (stepB C)).filterMap id)).2<4
  | 0,p,j,w,hn,hp,hj,hjp,hw,hl,hway=>by
    have e:es.drop p=[]:=List.drop_eq_nil_iff.mpr (by lia);have hpe:p=es.length:=by lia
    rw[e,<- hpe];exact⟨j,hj,by simp[dgo],hway.symm,hw⟩
  |n+1,p,j,w,hn,hp,hj,hjp,hw,hl,hway=>by
    have hlt:p<es.length:=by lia
    have hd:es.drop p=es[p]::es.drop (p+1):=List.drop_eq_getElem_cons hlt;have hg:=h.get p hlt;rw[Aa hlt]at hg;have hg':es[p]=it C b p:=AI hg;have hEp:IsE C (it C b p):=it_ok hE p;rw[hd,hg']
    cases hs:stepB C (it C b p) with
    |none =>
      have hj3:j+1<=3:=by
        rcases AC j 3 with q |q
        . lia
        . exfalso;have j3:j=3:=by lia
          subst j3;refine nf (p-3) λm hm=>?_
          rcases AC m 3 with a |a
          . obtain⟨e,h1,h2⟩:=hl (2-m) (by lia);exact⟨e,by rw[<- h1];congr 1;lia,h2⟩
          . have:m=3:=by lia
            subst this;exact⟨_,by rw[show p-3+3=p by lia,Aa hlt,hg'],hs⟩
      have hnx:=zgj hEp hs
      obtain⟨t, t3, q1, q2, q3⟩ := zgs h hE nf n (p + 1) (j + 1) w (by lia) (by lia) hj3 (by lia) hw (λm hm => by
          cases m with
          |zero=>exact⟨_,by rw[show p+1-1-0=p by lia,Aa hlt,hg'],hs⟩
          |succ m =>
            obtain⟨e,h1,h2⟩:=hl m (by lia);exact⟨e,by rw[<- h1];congr 1;lia,h2⟩) (by
          show (nxt C (it C b p)).w=_;rw[hnx];simp only;rw[hway];lia)
      refine⟨t,t3,?_,?_,?_⟩
      . simp only[AL,hs];rw[show (none::(es.drop (p+1)).map (stepB C)).filterMap id=((es.drop (p+1)).map (stepB C)).filterMap id from rfl,<- q1,List.replicate_succ'];simp
      . simp only[AL,hs];exact q2
      . simp only[AL,hs];exact q3
    |some s =>
      obtain⟨w1,w2,_⟩:=zd5 hEp hs;have hwB:wayB s<4:=AU _ (by decide)
      obtain⟨t, t3, q1, q2, q3⟩ := zgs h hE nf n (p + 1) 0 (wayB s) (by lia) (by lia) (by lia) (by lia) hwB (λm hm => by lia) (by
          show (nxt C (it C b p)).w=_;rw[w2,Nat.add_zero];have:=(zcc hEp).1;lia)
      refine⟨t,t3,?_,?_,?_⟩
      . simp only[AL,hs];rw[show (some s::(es.drop (p+1)).map (stepB C)).filterMap id=s::((es.drop (p+1)).map (stepB C)).filterMap id from rfl];show _=(Aj ((zbm s+4-w) % 4) none++some s::(dgo (wayB s) _).1)++Aj t none;have hk:(zbm s+4-w) % 4=j:=by rw[w1,hway];lia
        rw[hk];have q1':(es.drop (p+1)).map (stepB C)=(dgo (wayB s) (((es.drop (p+1)).map (stepB C)).filterMap id)).1++Aj t none:=by simpa using q1
        rw[CK,CV,<- q1']
      . simp only[AL,hs];exact q2
      . simp only[AL,hs];exact q3
theorem zgp{C:Cell->Bool}{b:Edge}(hE:IsE C b){i:Nat}:∀m,(∀q,q<m->stepB C (it C b (i+q))=none)->it C b (i+m)=⟨(it C b i).c,((it C b i).w+m) % 4⟩
 | 0,_=>by
  have:=(it_ok hE i).1;show it C b i=_;rw[Nat.add_zero,CW this]
 |m+1,h=>by
  have ih:=zgp hE m λq hq=>h q (by lia)
  show nxt C (it C b (i+m))=_;rw[zgj (it_ok hE (i+m)) (h m (by lia)),ih];simp only[Edge.mk.injEq,true_and];lia
theorem Closed.deeds{C:Cell->Bool}{b:Edge}{es:List Edge}(h:Closed C b es):es.map (stepB C)=RP.deeds b.w ((es.map (stepB C)).filterMap id):=by
 have hE:IsE C b:=h.1.2.2.1 b (Ah h.1.1);have hp:=h.pos;have hl:=h.it_len
 have four:∀i,(∀m,m<4->∃e,es[i+m]?=some e/\stepB C e=none)->i=0/\es.length=4:=λi hi=>by
  have hi3:i+3<es.length:=by obtain⟨e,h1,_⟩:=hi 3 (by decide);exact (Ad.mp h1).1
  have st:∀q,q<4->stepB C (it C b (i+q))=none:=λq hq=>by
   obtain⟨e,h1,h2⟩:=hi q hq;rw[h.1.get (i+q) (by lia)]at h1
   cases h1;exact h2
  have e4:=zgp hE 4 st
  have e4':it C b (i+4)=it C b i:=by rw[e4];have:=(it_ok hE i).1;rw[show ((it C b i).w+4) % 4=(it C b i).w by lia]
  rcases AC (i+4) es.length with q |q
  .exfalso;have:=(CM (i:=i) (j:=i+4) (by lia) h.1.2.2.2).mp (by rw[h.1.get i (by lia),h.1.get (i+4) q,e4']);lia
  .have hn:es.length=i+4:=by lia
   rw[<- hn,hl]at e4';have:=(CM (i:=0) (j:=i) (by lia) h.1.2.2.2).mp (by rw[h.1.get 0 hp,h.1.get i (by lia),<- e4'];rfl);lia
 by_cases hr:(es.map (stepB C)).filterMap id=[]
 .have all:∀i, i < es.length -> stepB C (it C b i)=none := λi hi => by
   have hg:=h.1.get i hi
   cases hs:stepB C (it C b i) with
   |none=>rfl
   |some s =>
    exfalso;have:s∈(es.map (stepB C)).filterMap id:=List.mem_filterMap.mpr ⟨some s,AF.mpr ⟨_,Ah hg,hs⟩,rfl⟩;rw[hr]at this;cases this
  have hn4:es.length=4:=by
   have el:=zgp hE (i:=0) es.length (λq hq=>by rw[Ck];exact all q hq);rw[Ck,hl]at el;have ew:=congrArg Edge.w el;have hw:=hE.1;change b.w=(b.w+es.length) % 4 at ew;have h4:4<=es.length:=by lia
   refine (four 0 λm hm=>⟨it C b m,?_,all m (by lia)⟩).2;rw[Ck];exact h.1.get m (by lia)
  rw[hr];show _=(dgo b.w []).1++Aj 4 none
  apply Cb
  intro i;rcases AC i 4 with q |q
  .rw[Ak,h.1.get i (by lia),C8,all i (by lia)];show _=(Aj 4 (none:Option Nat))[i]?;rw[List.getElem?_replicate,if_pos q]
  .rw[AZ (by rw[Af];lia),AZ (by simp[dgo];lia)]
 .have nf:zms C es := λi hi => by
   obtain⟨_,h4⟩:=four i hi;have hi0:=(four i hi).1;subst hi0
   apply hr
   apply List.filterMap_eq_nil_iff.mpr
   intro o ho;obtain⟨e,he,rfl⟩:=AF.mp ho;obtain⟨j,hj,ej⟩:=AQ he;obtain⟨f,h1,h2⟩:=hi j (by lia);rw[Ck,Aa hj,ej]at h1
   cases h1
   exact h2
  obtain⟨t,t3,q1,q2,q3⟩:=zgs h.1 hE nf es.length 0 0 b.w (by lia) (by lia) (by lia) (by lia) hE.1 (λm hm=>by lia) (by
   show b.w=_;have:=hE.1;lia)
  rw[List.drop_zero]at q1 q2 q3;rw[hl]at q2
  have ht:zaJ b.w ((es.map (stepB C)).filterMap id)=t:=by unfold zaJ;rw[if_neg (by simpa using hr)];have:=hE.1;lia
  unfold RP.deeds;rw[ht];simpa using q1
set_option synthInstance.maxSize 4000 in
set_option synthInstance.maxHeartbeats 400000 in
theorem zkI:∀y < 4, ∀i < 3, ∀j < 3, 0 <= bv ((y + j + 3) % 4) + bv (((y + j + 3) % 4 + i + 3) % 4)-1 -> (bv ((y + j + 3) % 4) + bv (((y + j + 3) % 4 + i + 3) % 4)-1=0 -> 0 <= av ((y + j + 3) % 4) + av (((y + j + 3) % 4 + i + 3) % 4)-1) ->
  bv y+bv ((y+j+3) % 4)-1<=0->(bv y+bv ((y+j+3) % 4)-1=0->av y+av ((y+j+3) % 4)-1<=0)->(2<i+j->(y+j+3) % 4=0)/\(i+j<2->(y+j+3) % 4=2):=by decide
theorem Closed.least_way{C:Cell -> Bool}{b:Edge}{es:List Edge}(h:Closed C b es)
  (hmin:∀f∈es,eV b<=eV f/\(eV f=eV b->eU b<=eU f)):(b.w=0/\(es.map (tt C)).sum=4)∨(b.w=2/\(es.map (tt C)).sum=-4):=by
 have hp:=h.pos;have hE:IsE C b:=h.1.2.2.1 b (Ah h.1.1);have hl:=h.it_len;have get:=h.1.get;have sg:=h.least_sign hmin;have ts:=zjL h.1 es.length (Ai _);rw[AO]at ts;rw[<- ts]at sg;obtain⟨m,hm⟩:∃m,es.length=m+1:=⟨es.length-1,by lia⟩;rw[hm,show m+1-1=m from rfl]at sg;rw[hm]at hl;have hE':IsE C (it C b m):=it_ok hE m;have mm:it C b m∈es:=Ah (get m (by lia));have nb:nxt C (it C b m)=b:=hl
 have hn:nxt C b∈es:=by
  rcases AC 1 es.length with z |z
  .exact Ah (get 1 z)
  .have:m=0:=by lia
   subst this;have:nxt C b=b:=nb;rw[this];exact Ah h.1.1
 obtain⟨s1,s2⟩:=zcM hE;obtain⟨s3,s4⟩:=zcM hE';rw[nb]at s3 s4;obtain⟨i,hi,r1,r1'⟩:=tt_ix hE;obtain⟨j,hj,r2,r2'⟩:=tt_ix hE';rw[nb]at r2';have m1:=hmin _ hn;have m2:=hmin _ mm;have w0:=hE.1;have w1:=hE'.1;have w2:=(zcc hE).1;generalize (nxt C b).w=x at *;generalize (it C b m).w=y at *;generalize tt C (it C b m)=ta at *;generalize tt C b=tb at *;generalize b.w=z at *;subst r1';subst r2';obtain⟨t1,t2⟩:=zkI y w1 i hi j hj (by lia) (λq=>by have:=m1.2 (by lia);lia) (by lia) (λq=>by have:=m2.2 (by lia);lia);rcases sg with⟨g1,g2⟩ |⟨g1,g2⟩
 .exact .inl ⟨t1 (by lia),g1⟩
 .exact .inr ⟨t2 (by lia),g1⟩
theorem Closed.tele{C:Cell->Bool}{b:Edge}{es:List Edge}(h:Closed C b es){G g:Edge->Int}(hg:∀f∈es,G (nxt C f)=G f+g f):(es.map g).sum=0:=by
 have k:∀i,i<=es.length->((es.take i).map g).sum=G (it C b i)-G b:=by
  intro i
  induction i with
  |zero=>intro _;simp[it]
  |succ i ih =>
   intro hi;have h1:=h.1.get i (by lia);rw[Dm,h1];simp only[Option.toList_some,Ax,AL,List.map_nil,Dc,Bw,List.sum_nil];rw[ih (by lia)];have:=hg _ (Ah h1);have e:it C b (i+1)=nxt C (it C b i):=rfl;rw[e,this];lia
 have:=k es.length (Ai _);rw[AO,h.it_len]at this;lia
theorem sums4{l:List Edge}{f g u v:Edge->Int}(h:∀e∈l,f e-g e=u e-v e):(l.map f).sum-(l.map g).sum=(l.map u).sum-(l.map v).sum:=by
 induction l with
 |nil=>simp
 |cons a r ih =>
  have h1:=h a AE;have h2:=ih λe he=>h e (Au _ he)
  simp only[AL,Bw];lia
noncomputable def ind(es:List Edge)(a:Edge):Int:=if a∈es then 1 else 0
noncomputable def at1(a e:Edge):Int:=if e=a then 1 else 0
theorem zeg(a:Edge):∀{es:List Edge},es.Nodup->(es.map (at1 a)).sum=ind es a
 |[],_=>by simp[ind]
 |e::r,h=>by
  obtain⟨h1,h2⟩:=Cd.mp h;have ih:=zeg a h2;simp only[AL,Bw,ih,ind,at1]
  by_cases z:e=a
  .subst z;rw[if_pos rfl,if_neg h1,if_pos AE];rfl
  .rw[if_neg z]
   by_cases y:a∈r
   .rw[if_pos y,if_pos (Au _ y)];rfl
   .rw[if_neg y,if_neg]
    .rfl
    .intro m;rcases At.mp m with q |q
     .exact z q.symm
     .exact y q
noncomputable def wc(c:Cell)(e:Edge):Int:=if e.c.2=c.2/\c.1<px e then dy e.w else 0
noncomputable def wd(es:List Edge)(c:Cell):Int:=(es.map (wc c)).sum
theorem zkX{e:Edge}{x y:Int}{w:Nat}:e=⟨(x,y),w⟩ ↔ e.c.1=x/\e.c.2=y/\e.w=w:=by
 obtain⟨⟨a,b⟩,v⟩:=e;constructor
 .intro h;cases h;exact⟨rfl,rfl,rfl⟩
 .rintro⟨h1,h2,h3⟩;simp only at h1 h2 h3;rw[h1,h2,h3]
theorem zfJ{es:List Edge}(h4:∀e∈es,e.w<4)(nd:es.Nodup)(x y:Int):wd es (x,y)-wd es (x+1,y)=ind es ⟨(x,y),1⟩ - ind es ⟨(x+1,y),3⟩:=by
 rw[<- zeg _ nd,<- zeg _ nd];refine sums4 λe he=>?_
 have hw:=h4 e he;unfold wc at1;simp only[zkX];obtain⟨⟨a,b⟩,v⟩:=e;simp only at hw;rcases way4 hw with rfl |rfl |rfl |rfl <;> simp[px,dy] <;> (repeat' split) <;> lia
theorem wd_up{C:Cell->Bool}{b:Edge}{es:List Edge}(h:Closed C b es)(x y:Int):wd es (x,y+1)-wd es (x,y)=ind es ⟨(x,y+1),0⟩ - ind es ⟨(x,y),2⟩:=by
 have hE:=h.1.2.2.1;have nd:=h.1.2.2.2
 have t:=h.tele (G:=λe=>if x<px e/\py e=y+1 then (1:Int) else 0)
  (g:=λe=>(wc (x,y) e-wc (x,y+1) e)+(at1 ⟨(x,y+1),0⟩ e-at1 ⟨(x,y),2⟩ e)) (λe he=>by obtain⟨p,q⟩:=ziG (hE e he);have hw:=(hE e he).1;rw[p,q];clear p q;unfold wc at1;simp only[zkX];obtain⟨⟨a,b⟩,v⟩:=e;simp only at hw;rcases way4 hw with rfl |rfl |rfl |rfl <;> simp[px,py,dx,dy] <;> (repeat' split) <;> lia)
 rw[<- zeg _ nd,<- zeg _ nd]
 have k:∀l:List Edge,(l.map λe=>(wc (x,y) e-wc (x,y+1) e)+(at1 ⟨(x,y+1),0⟩ e-at1 ⟨(x,y),2⟩ e)).sum=((l.map (wc (x,y))).sum-(l.map (wc (x,y+1))).sum)+((l.map (at1 ⟨(x,y+1),0⟩)).sum-(l.map (at1 ⟨(x,y),2⟩)).sum):=by
  intro l
  induction l with
  |nil=>simp
  |cons a r ih=>simp only[AL,Bw,ih];lia
 rw[k]at t;unfold wd;lia
noncomputable def fac(e:Edge):Edge:=⟨gap e,(e.w+2) % 4⟩
theorem zhv{C:Cell->Bool}{b:Edge}{es:List Edge}(h:Closed C b es)(e:Edge)(hw:e.w<4):wd es e.c-wd es (gap e)=ind es e-ind es (fac e):=by
 have hE:=h.1.2.2.1;have nd:=h.1.2.2.2;have r:=zfJ (λe he=>(hE e he).1) nd;have u:=wd_up h;obtain⟨⟨a,c⟩,v⟩:=e;simp only at hw;unfold fac;rcases way4 hw with rfl |rfl |rfl |rfl <;> simp only[gap,go,mv]
 .have:=u a (c-1);rw[show c-1+1=c by lia]at this;simp;rw[show c+-1=c-1 by lia];exact this
 .have:=r a c;simpa using this
 .have:=u a c;simp;lia
 .have:=r (a-1) c;rw[show a-1+1=a by lia]at this;simp;rw[show a+-1=a-1 by lia];lia
theorem zkR{C:Cell->Bool}{b:Edge}{es:List Edge}(h:Closed C b es){e:Edge}(hn:¬ IsE C e):ind es e=0:=by unfold ind;rw[if_neg λm=>hn (h.1.2.2.1 e m)]
theorem zkU{e:Edge}(hw:e.w<4):gap (fac e)=e.c:=by obtain⟨⟨a,c⟩,v⟩:=e;simp only at hw;unfold fac;rcases way4 hw with rfl |rfl |rfl |rfl <;> simp[gap,go,mv] <;> lia
theorem zed{C:Cell->Bool}{b:Edge}{es:List Edge}(h:Closed C b es)(e:Edge)(hw:e.w<4)(hC:C e.c=C (gap e)):wd es e.c=wd es (gap e):=by
 have k:=zhv h e hw
 rw[zkR h (e:=e) (λz=>by have:=z.2.1;have:=z.2.2;simp_all),zkR h (e:=fac e) (λz=>by
  have h1:=z.2.1;have h2:=z.2.2;rw[zkU hw]at h2;have h1':C (gap e)=true:=h1
  simp_all)]at k
 lia
theorem zd2{C:Cell->Bool}{b:Edge}{es:List Edge}(h:Closed C b es){e:Edge}(he:IsE C e):wd es e.c=wd es (gap e)+ind es e:=by have k:=zhv h e he.1;rw[zkR h (e:=fac e) (λz=>by have h1:C (gap e)=true:=z.2.1;rw[he.2.2]at h1;cases h1)]at k;lia
inductive Rch (D:Cell->Bool) (S:List Nat) (a:Cell):Cell->Prop where
 |refl:Rch D S a a
 |step {c:Cell} {s:Nat}:Rch D S a c->s∈S->D (go c s)=true->Rch D S a (go c s)
theorem Rch.trans{D:Cell->Bool}{S:List Nat}{a b c:Cell}(h:Rch D S a b)(k:Rch D S b c):Rch D S a c:=by
 induction k with
 |refl=>exact h
 |step _ hs hd ih=>exact .step ih hs hd
theorem Rch.dom{D:Cell->Bool}{S:List Nat}{a b:Cell}(h:Rch D S a b)(ha:D a=true):D b=true:=by
 cases h with
 |refl=>exact ha
 |step _ _ hd=>exact hd
noncomputable def S8:List Nat:=[0,1,2,3,4,5,6,7]
noncomputable def S4:List Nat:=[0,2,4,6]
theorem zkD{s:Nat}:s∈S8 ↔ s<8:=by unfold S8;simp;lia
theorem zkE{s:Nat}:s∈S4 ↔ ∃w,w<4/\s=(2*w+6) % 8:=by
 unfold S4;simp;constructor
 .rintro (rfl |rfl |rfl |rfl)
  .exact⟨1,by decide,by decide⟩
  .exact⟨2,by decide,by decide⟩
  .exact⟨3,by decide,by decide⟩
  .exact⟨0,by decide,by decide⟩
 .rintro⟨w,hw,rfl⟩;rcases way4 hw with rfl |rfl |rfl |rfl <;> decide
theorem Closed.mem_nxt{C:Cell->Bool}{b e:Edge}{es:List Edge}(h:Closed C b es)(he:e∈es):nxt C e∈es:=by
 obtain⟨⟨h0,hs,_,_⟩,l,hl,hb⟩:=h;obtain⟨i,hi,ei⟩:=AQ he;rcases AC (i+1) es.length with z |z
 .have:=hs i e es[i+1] (by rw[Aa hi,ei]) (Aa z);rw[<- this];exact AW _
 .have hi':i=es.length-1:=by lia
  have:some e=some l:=by rw[<- hl,<- hi',Aa hi,ei]
  cases this
  rw[hb];exact Ah h0
theorem Closed.nxt_mem{C:Cell->Bool}{b e:Edge}{es:List Edge}(h:Closed C b es)(hE:IsE C e)(he:nxt C e∈es):e∈es:=by
 obtain⟨⟨h0,hs,hE',_⟩,l,hl,hb⟩:=h;obtain⟨i,hi,ei⟩:=AQ he
 cases i with
 |zero =>
  have:some (nxt C e)=some b:=by rw[<- h0,Aa hi,ei]
  cases this
  have lm:=Ah hl;rw[zeJ hE (hE' l lm) hb.symm];exact lm
 |succ i =>
  have m:es[i]∈es:=AW (by lia);have:=hs i es[i] _ (Aa (by lia)) (by rw[Aa hi,ei]);rw[zeJ hE (hE' _ m) this];exact m
theorem Closed.ind_nxt{C:Cell->Bool}{b e:Edge}{es:List Edge}(h:Closed C b es)(hE:IsE C e):ind es (nxt C e)=ind es e:=by
 unfold ind
 by_cases z:e∈es
 .rw[if_pos z,if_pos (h.mem_nxt z)]
 .rw[if_neg z,if_neg λm=>z (h.nxt_mem hE m)]
theorem zln{C:Cell->Bool}{b:Edge}{es:List Edge}(h:Closed C b es){c:Cell}{w:Nat}(hw:w<4)(hc:C c=true)(hd:C (go c ((2*w+7) % 8))=true):wd es c=wd es (go c ((2*w+7) % 8)):=by
 have g1:gap ⟨go c ((2*w+7) % 8),(w+3) % 4⟩=gap ⟨c,w⟩:=by unfold gap;simp only;rw[go_go (f1 w hw)]
 have hw3:(w+3) % 4<4:=AU _ (by decide)
 by_cases hg:C (gap ⟨c,w⟩)=true
 .have a:=zed h ⟨c,w⟩ hw (by rw[hg];exact hc);have d:=zed h ⟨go c ((2*w+7) % 8),(w+3) % 4⟩ hw3 (by rw[g1,hg];exact hd);rw[g1]at d;exact a.trans d.symm
 .have hg':C (gap ⟨c,w⟩)=false:=by simpa using hg
  have hE:IsE C ⟨c,w⟩:=⟨hw,hc,hg'⟩;rcases zaw hE with⟨_,_,q⟩ |⟨z,_⟩ |⟨z,_⟩
  .have a:=zd2 h hE;have hn:=zcc hE;have i:=h.ind_nxt hE;have d:=zd2 h hn;rw[i]at d;rw[q]at d;simp only at a d;rw[g1]at d;exact a.trans d.symm
  .simp only at z;rw[hd]at z;cases z
  .simp only at z;rw[hd]at z;cases z
theorem zmY{s:Nat}(h:s<8)(ho:s % 2=1):∃w,w<4/\s=(2*w+7) % 8:=⟨(s+1) / 2 % 4,AU _ (by decide),by lia⟩
theorem zlR{s:Nat}(h:s<8)(ho:s % 2=0):∃w,w<4/\s=(2*w+6) % 8:=⟨(s / 2+1) % 4,AU _ (by decide),by lia⟩
theorem zlo{C:Cell->Bool}{b:Edge}{es:List Edge}(h:Closed C b es){a c:Cell}(hc:Rch C S8 a c)(ha:C a=true):wd es c=wd es a:=by
 induction hc with
 |refl=>rfl
 |@step c s k hs hd ih =>
  have hc:=k.dom ha;have h8:=zkD.mp hs;rw[<- ih];rcases Dp s with z |z
  .obtain⟨w,hw,rfl⟩:=zlR h8 z;exact (zed h ⟨c,w⟩ hw (hc.trans hd.symm)).symm
  .obtain⟨w,hw,rfl⟩:=zmY h8 z;exact (zln h hw hc hd).symm
noncomputable abbrev no(C:Cell->Bool):Cell->Bool:=λc=>!C c
theorem zmu{C:Cell->Bool}{b:Edge}{es:List Edge}(h:Closed C b es){a c:Cell}(hc:Rch (no C) S4 a c)(ha:C a=false):wd es c=wd es a:=by
 induction hc with
 |refl=>rfl
 |@step c s k hs hd ih =>
  have hc:=k.dom (by simp[no,ha]);simp only[no,Bool.not_eq_true']at hc hd;obtain⟨w,hw,rfl⟩:=zkE.mp hs;rw[<- ih];exact (zed h ⟨c,w⟩ hw (hc.trans hd.symm)).symm
theorem zlG{C:Cell->Bool}{e:Edge}(h:IsE C e):Rch C S8 e.c (nxt C e).c:=by
 have hw:=h.1;rcases zaw h with⟨h1,_,q⟩ |⟨h1,h2,_,q⟩ |⟨h1,h2,_,q⟩ <;> rw[q]
 .exact .step .refl (zkD.mpr (AU _ (by decide))) h1
 .exact .step .refl (zkD.mpr (by lia)) h2
 .exact .refl
theorem f9:∀w<4,mvAdd ((2*w+6) % 8) (2*w) ((2*w+7) % 8)=true:=by decide
theorem f10:∀w<4,mvAdd ((2*w+7) % 8) ((2*w+2) % 8) (2*w)=true:=by decide
theorem zmZ{C:Cell->Bool}{e:Edge}(h:IsE C e):Rch (no C) S4 (gap e) (gap (nxt C e)):=by
 have hw:=h.1;have s0:2*e.w∈S4:=zkE.mpr ⟨(e.w+1) % 4,AU _ (by decide),by lia⟩;have s2:(2*e.w+2) % 8∈S4:=zkE.mpr ⟨(e.w+2) % 4,AU _ (by decide),by lia⟩;rcases zaw h with⟨h1,_,q⟩ |⟨h1,h2,_,q⟩ |⟨h1,h2,_,q⟩ <;> rw[q]
 .have:gap ⟨go e.c ((2*e.w+7) % 8),(e.w+3) % 4⟩=gap e:=by unfold gap;simp only;rw[go_go (f1 _ hw)]
  rw[this];exact .refl
 .have e1:gap ⟨go e.c (2*e.w),e.w⟩=go (gap e) (2*e.w):=by unfold gap;simp only;rw[go_go (f2 _ hw),go_go (f9 _ hw)]
  rw[e1];refine .step .refl s0 ?_
  unfold gap;rw[go_go (f9 _ hw)];simp[no,h1]
 .have e1:gap ⟨e.c, (e.w + 1) % 4⟩ = go (go (gap e) (2 * e.w)) ((2 * e.w + 2) % 8) := by unfold gap;simp only;rw[f3 _ hw,go_go (f9 _ hw),go_go (f10 _ hw)]
  rw[e1];refine .step (.step .refl s0 ?_) s2 ?_
  .unfold gap;rw[go_go (f9 _ hw)];simp[no,h1]
  .unfold gap;rw[go_go (f9 _ hw),go_go (f10 _ hw)];simp[no,h2]
theorem Closed.reach{C:Cell->Bool}{b:Edge}{es:List Edge}(h:Closed C b es):∀e∈es,Rch C S8 b.c e.c/\Rch (no C) S4 (gap b) (gap e):=by
 have hE:IsE C b:=h.1.2.2.1 b (Ah h.1.1)
 have k:∀i,Rch C S8 b.c (it C b i).c/\Rch (no C) S4 (gap b) (gap (it C b i)):=by
  intro i
  induction i with
  |zero=>exact⟨.refl,.refl⟩
  |succ i ih=>exact⟨ih.1.trans (zlG (it_ok hE i)),ih.2.trans (zmZ (it_ok hE i))⟩
 intro e he;obtain⟨i,hi,ei⟩:=AQ he;have:=h.1.get i hi;rw[Aa hi,ei]at this
 cases this
 exact k i
theorem Closed.from{C:Cell->Bool}{b e:Edge}{es:List Edge}(h:Closed C b es)(he:e∈es):∃fs,Closed C e fs/\(∀f,f∈fs ↔ f∈es)/\(fs.map (tt C)).sum=(es.map (tt C)).sum/\∀c,wd fs c=wd es c:=by
 obtain⟨j,hj,ej⟩:=AQ he;have h1:=h.rot j (by rw[Aa hj,ej]);refine⟨_,h1,λf=>?_,?_,λc=>?_⟩
 .constructor
  .intro hf;rcases Bf.mp hf with m |m
   .exact List.mem_of_mem_drop m
   .exact Do m
  .intro hf;rw[<- CC j es]at hf;rcases Bf.mp hf with m |m
   .exact Aw _ m
   .exact List.mem_append_left _ m
 .rw[Ax,CQ,B9,zhw]
 .unfold wd;rw[Ax,CQ,B9,zhw]
theorem zfI{es:List Edge}{c:Cell}(h:∀e∈es,e.w=1∨e.w=3->¬ (e.c.2=c.2/\c.1<px e)):wd es c=0:=by
 unfold wd
 induction es with
 |nil=>rfl
 |cons a r ih =>
  have ih':=ih λe he=>h e (Au _ he)
  have h1:=h a AE;simp only[AL,Bw,ih'];unfold wc dy;split
  .rename_i q
   split
   .rename_i w1;exact absurd q (h1 (.inl w1))
   .split
    .rename_i w3;exact absurd q (h1 (.inr w3))
    .rfl
  .rfl
theorem Closed.inside{C:Cell -> Bool}{b:Edge}{es:List Edge}(h:Closed C b es) :
  ((es.map (tt C)).sum=4/\∀e∈es,wd es e.c=1/\wd es (gap e)=0)∨((es.map (tt C)).sum=-4/\∀e∈es,wd es e.c=0/\wd es (gap e)=-1):=by
 have hp:=h.pos;obtain⟨a,ha,q⟩:=zc9 es (by intro z;rw[z]at hp;simp at hp);obtain⟨fs,h1,hm,hs,hv⟩:=h.from ha;have lw:=h1.least_way λf hf=>q f ((hm f).mp hf)
 rw[hs]at lw;have hE:IsE C a:=h.1.2.2.1 a ha
 have all:∀{u v:Int},wd es a.c=u->wd es (gap a)=v->∀e∈es,wd es e.c=u/\wd es (gap e)=v:=λhu hv e he=>by obtain⟨r1,r2⟩:=h1.reach e ((hm e).mpr he);exact⟨(zlo h r1 hE.2.1).trans hu,(zmu h r2 hE.2.2).trans hv⟩
 have cr:=zd2 h hE;have i1:ind es a=1:=by unfold ind;rw[if_pos ha]
 rw[i1]at cr;rcases lw with⟨w,s⟩ |⟨w,s⟩
 .left
  have z:wd es (gap a)=0:=zfI λe he hw ⟨k1,k2⟩=>by have:=(q e he).1;obtain⟨⟨x,y⟩,v⟩:=a;simp only at w;subst w;obtain⟨⟨x',y'⟩,v'⟩:=e;simp only at hw;rcases hw with rfl |rfl <;> simp[gap,go,mv,px,py,eV,bv]at this k1 k2 <;> lia
  exact⟨s,all (by lia) z⟩
 .right
  have z:wd es a.c=0:=zfI λe he hw ⟨k1,k2⟩=>by have:=(q e he).1;obtain⟨⟨x,y⟩,v⟩:=a;simp only at w;subst w;obtain⟨⟨x',y'⟩,v'⟩:=e;simp only at hw;rcases hw with rfl |rfl <;> simp[px,py,eV,bv]at this k1 k2 <;> lia
  exact⟨s,all z (by lia)⟩
structure BoxOf (P:List Cell) (l lo r hi:Int):Prop where
 all:∀c∈P,l<c.1/\c.1<r/\lo<c.2/\c.2<hi
 bot:∃c∈P,c.2=lo+1
noncomputable def inBox(l lo r hi:Int)(c:Cell):Prop:=l<=c.1/\c.1<=r/\lo<=c.2/\c.2<=hi
structure FreeOf (D:Cell->Bool) (P:List Cell) (l lo r hi:Int):Prop where
 iff:∀c,D c=true ↔ (inBox l lo r hi c/\c ∉ P)
section
variable {C D:Cell->Bool}{b:Edge}{es:List Edge}{P:List Cell}{l lo r hi:Int}
theorem wd_01(h:Closed C b es)(hs:(es.map (tt C)).sum=4)(c:Cell):wd es c=0∨wd es c=1:=by
 have ins:∀e∈es,wd es e.c=1/\wd es (gap e)=0:=by
  rcases h.inside with⟨_,k⟩ |⟨s,_⟩
  .exact k
  .lia
 have r:=zfJ (λe he=>(h.1.2.2.1 e he).1) h.1.2.2.2
 have far:∃M:Int,∀e∈es,px e<=M:=by
  generalize es=l
  induction l with
  |nil=>exact⟨0,λe he=>by cases he⟩
  |cons a l ih =>
   obtain⟨M,hM⟩:=ih
   exact⟨max M (px a),λe he=>by
    rcases At.mp he with rfl |he
    .lia
    .have:=hM e he;lia⟩
 obtain⟨M,hM⟩:=far
 have k:∀(n:Nat) (x y:Int),M-x<=n->wd es (x,y)=0∨wd es (x,y)=1:=by
  intro n
  induction n with
  |zero =>
   intro x y hx;exact .inl (zfI λe he _ ⟨_,k2⟩=>by have:=hM e he;simp only at k2;lia)
  |succ n ih =>
   intro x y hx;have i:=ih (x+1) y (by lia);have rr:=r x y
   by_cases m1:⟨(x,y),1⟩∈es
   .exact .inr (ins _ m1).1
   by_cases m3:⟨(x+1,y),3⟩∈es
   .have:=(ins _ m3).2;rw[show gap ⟨(x+1,y),3⟩=(x,y) by simp[gap,go,mv];lia]at this;exact .inl this
   .unfold ind at rr;rw[if_neg m1,if_neg m3]at rr;rcases i with i |i
    .left;lia
    .right;lia
 exact k (M-c.1).toNat c.1 c.2 (by lia)
theorem wd_0m(h:Closed C b es)(hs:(es.map (tt C)).sum=-4)(c:Cell):wd es c=0∨wd es c=-1:=by
 have ins:∀e∈es,wd es e.c=0/\wd es (gap e)=-1:=by
  rcases h.inside with⟨s,_⟩ |⟨_,k⟩
  .lia
  .exact k
 have r:=zfJ (λe he=>(h.1.2.2.1 e he).1) h.1.2.2.2
 have far:∃M:Int,∀e∈es,px e<=M:=by
  generalize es=l
  induction l with
  |nil=>exact⟨0,λe he=>by cases he⟩
  |cons a l ih =>
   obtain⟨M,hM⟩:=ih
   exact⟨max M (px a),λe he=>by
    rcases At.mp he with rfl |he
    .lia
    .have:=hM e he;lia⟩
 obtain⟨M,hM⟩:=far
 have k:∀(n:Nat) (x y:Int),M-x<=n->wd es (x,y)=0∨wd es (x,y)=-1:=by
  intro n
  induction n with
  |zero =>
   intro x y hx;exact .inl (zfI λe he _ ⟨_,k2⟩=>by have:=hM e he;simp only at k2;lia)
  |succ n ih =>
   intro x y hx;have i:=ih (x+1) y (by lia);have rr:=r x y
   by_cases m1:⟨(x,y),1⟩∈es
   .exact .inl (ins _ m1).1
   by_cases m3:⟨(x+1,y),3⟩∈es
   .have:=(ins _ m3).2;rw[show gap ⟨(x+1,y),3⟩=(x,y) by simp[gap,go,mv];lia]at this;exact .inr this
   .unfold ind at rr;rw[if_neg m1,if_neg m3]at rr;rcases i with i |i
    .left;lia
    .right;lia
 exact k (M-c.1).toNat c.1 c.2 (by lia)
end
noncomputable def CD(es:List Edge)(m:Int)(c:Cell):Bool:=decide (wd es c=m)
section
variable {C:Cell->Bool}{b:Edge}{es:List Edge}{m:Int}
theorem CD.mem(h:Closed C b es)(hm:∀c,wd es c=m-1∨wd es c=m){e:Edge}(he:e∈es):wd es e.c=m/\wd es (gap e)=m-1:=by
 have k:=zd2 h (h.1.2.2.1 e he);have i:ind es e=1:=by unfold ind;rw[if_pos he]
 rw[i]at k;have h1:=hm e.c;have h2:=hm (gap e);lia
theorem CD.isE(h:Closed C b es)(hm:∀c,wd es c=m-1∨wd es c=m)(e:Edge):IsE (CD es m) e ↔ e∈es:=by
 constructor
 .rintro⟨hw,h1,h2⟩;have h1:wd es e.c=m:=of_decide_eq_true h1;have h2:¬ wd es (gap e)=m:=of_decide_eq_false h2;have k:=zhv h e hw;have h3:=hm (gap e);have i0:ind es (fac e)=0∨ind es (fac e)=1:=by unfold ind;split <;> simp
  rcases Classical.em (e∈es) with q |q
  .exact q
  .have:ind es e=0:=by unfold ind;rw[if_neg q]
   lia
 .intro he;have k:=CD.mem h hm he;refine⟨(h.1.2.2.1 e he).1,decide_eq_true k.1,decide_eq_false ?_⟩;rw[k.2];lia
theorem tabA:∀w<4,mvAdd (2*w) ((2*w+6) % 8) ((2*w+7) % 8)=true/\(2*((w+1) % 4)+6) % 8=2*w:=by decide
theorem CD.step(h:Closed C b es)(hm:∀c,wd es c=m-1∨wd es c=m){e:Edge}(he:e∈es):stepB (CD es m) e=stepB C e:=by
 have hn:=h.mem_nxt he;have hE:=h.1.2.2.1 e he;have hw:=hE.1;obtain⟨t1,t2⟩:=tabA e.w hw;have gA:gap ⟨go e.c (2*e.w),e.w⟩=go e.c ((2*e.w+7) % 8):=go_go t1;unfold nxt at hn
 by_cases c1:C (go e.c ((2*e.w+7) % 8))=true
 .have s1:stepB C e=some ((2*e.w+7) % 8):=by unfold stepB;rw[if_pos c1]
  rw[s1]at hn
  have hn:(⟨go e.c ((2*e.w+7) % 8),(e.w+3) % 4⟩:Edge)∈es:=by
   have z:edgeB e (some ((2*e.w+7) % 8))=⟨go e.c ((2*e.w+7) % 8),(e.w+3) % 4⟩:=by unfold edgeB;simp only;rw[if_pos (by lia)]
   rwa [z]at hn
  rw[s1];unfold stepB;have z:CD es m (go e.c ((2*e.w+7) % 8))=true:=decide_eq_true (CD.mem h hm hn).1;rw[if_pos z]
 .by_cases c2:C (go e.c (2*e.w))=true
  .have s1:stepB C e=some (2*e.w):=by unfold stepB;rw[if_neg c1,if_pos c2]
   rw[s1]at hn
   have hn:(⟨go e.c (2*e.w),e.w⟩:Edge)∈es:=by
    have z:edgeB e (some (2*e.w))=⟨go e.c (2*e.w),e.w⟩:=by unfold edgeB;simp only;rw[if_neg (by lia)]
    rwa [z]at hn
   have k:=CD.mem h hm hn;rw[gA]at k;rw[s1];unfold stepB;have z:CD es m (go e.c (2*e.w))=true:=decide_eq_true k.1;rw[if_neg,if_pos z];unfold CD;rw[decide_eq_true_iff,k.2];lia
  .have s1:stepB C e=none:=by unfold stepB;rw[if_neg c1,if_neg c2]
   rw[s1]at hn;have hn:(⟨e.c,(e.w+1) % 4⟩:Edge)∈es:=hn;have k:=CD.mem h hm hn;have g2:gap ⟨e.c,(e.w+1) % 4⟩=go e.c (2*e.w):=by unfold gap;simp only;rw[t2]
   rw[g2]at k
   have q:=zed h ⟨go e.c (2*e.w),e.w⟩ hw (by
    rw[gA];simp only;simp only[Bool.not_eq_true]at c1 c2;rw[c1,c2])
   rw[gA]at q;have q:wd es (go e.c (2*e.w))=wd es (go e.c ((2*e.w+7) % 8)):=q;rw[s1];unfold stepB;rw[if_neg,if_neg]
   .unfold CD;rw[decide_eq_true_iff,k.2];lia
   .unfold CD;rw[decide_eq_true_iff,<- q,k.2];lia
theorem CD.closed(h:Closed C b es)(hm:∀c,wd es c=m-1∨wd es c=m):Closed (CD es m) b es:=by
 have nx:∀e∈es,nxt (CD es m) e=nxt C e:=λe he=>by unfold nxt;rw[CD.step h hm he]
 refine⟨⟨h.1.1,λi e f h1 h2=>?_,λe he=>(CD.isE h hm e).mpr he,h.1.2.2.2⟩,?_⟩
 .rw[nx e (Ah h1)];exact h.1.2.1 i e f h1 h2
 .obtain⟨l,h1,h2⟩:=h.2;exact⟨l,h1,by rw[nx l (Ah h1)];exact h2⟩
theorem zgm{D:Cell->Bool}(hE:∀e,IsE C e ↔ IsE D e){c:Cell}{w:Nat}(hw:w<4)(hc:C c=D c):C (gap ⟨c,w⟩)=D (gap ⟨c,w⟩):=by
 have h1:=hE ⟨c,w⟩;have h2:=hE (fac ⟨c,w⟩);have g:=zkU (e:=⟨c,w⟩) hw;have f4:(fac ⟨c,w⟩).w<4:=AU _ (by decide);have fc:(fac ⟨c,w⟩).c=gap ⟨c,w⟩:=rfl;unfold IsE at h1 h2;rw[g,fc]at h2;simp only at h1 h2
 cases hC:C c <;> rw[hC]at hc h1 h2 <;> rw[<- hc]at h1 h2
 .cases a:C (gap ⟨c,w⟩) <;> cases b:D (gap ⟨c,w⟩) <;> simp_all
 .cases a:C (gap ⟨c,w⟩) <;> cases b:D (gap ⟨c,w⟩) <;> simp_all
theorem gap4(c:Cell):gap ⟨c,0⟩=(c.1,c.2-1)/\gap ⟨c,1⟩=(c.1+1,c.2)/\gap ⟨c,2⟩=(c.1,c.2+1)/\gap ⟨c,3⟩=(c.1-1,c.2):=by refine⟨?_,?_,?_,?_⟩ <;> unfold gap go <;> apply Cu <;> simp[mv] <;> lia
theorem zdp{D:Cell->Bool}(hE:∀e,IsE C e ↔ IsE D e){c:Cell}(hc:C c=D c):C=D:=by
 have rt:∀(n:Nat) (c:Cell),C c=D c->C (c.1+n,c.2)=D (c.1+n,c.2):=by
  intro n
  induction n with
  |zero=>intro c h;simpa using h
  |succ n ih =>
   intro c h;have:=zgm hE (w:=1) (by decide) (ih c h);rw[(gap4 _).2.1]at this;rw[show c.1+((n+1:Nat):Int)=c.1+(n:Int)+1 by lia];exact this
 have lf:∀(n:Nat) (c:Cell),C c=D c->C (c.1-n,c.2)=D (c.1-n,c.2):=by
  intro n
  induction n with
  |zero=>intro c h;simpa using h
  |succ n ih =>
   intro c h;have:=zgm hE (w:=3) (by decide) (ih c h);rw[(gap4 _).2.2.2]at this;rw[show c.1-((n+1:Nat):Int)=c.1-(n:Int)-1 by lia];exact this
 have up:∀(n:Nat) (c:Cell),C c=D c->C (c.1,c.2+n)=D (c.1,c.2+n):=by
  intro n
  induction n with
  |zero=>intro c h;simpa using h
  |succ n ih =>
   intro c h;have:=zgm hE (w:=2) (by decide) (ih c h);rw[(gap4 _).2.2.1]at this;rw[show c.2+((n+1:Nat):Int)=c.2+(n:Int)+1 by lia];exact this
 have dn:∀(n:Nat) (c:Cell),C c=D c->C (c.1,c.2-n)=D (c.1,c.2-n):=by
  intro n
  induction n with
  |zero=>intro c h;simpa using h
  |succ n ih =>
   intro c h;have:=zgm hE (w:=0) (by decide) (ih c h);rw[(gap4 _).1]at this;rw[show c.2-((n+1:Nat):Int)=c.2-(n:Int)-1 by lia];exact this
 funext d
 have h1:C (d.1,c.2)=D (d.1,c.2):=by
  rcases Int.le_total c.1 d.1 with z |z
  .have:=rt (d.1-c.1).toNat c hc
   rwa [show c.1+((d.1-c.1).toNat:Int)=d.1 by lia]at this
  .have:=lf (c.1-d.1).toNat c hc
   rwa [show c.1-((c.1-d.1).toNat:Int)=d.1 by lia]at this
 rcases Int.le_total c.2 d.2 with z |z
 .have:=up (d.2-c.2).toNat _ h1;simp only at this
  rwa [show c.2+((d.2-c.2).toNat:Int)=d.2 by lia]at this
 .have:=dn (c.2-d.2).toNat _ h1;simp only at this
  rwa [show c.2-((c.2-d.2).toNat:Int)=d.2 by lia]at this
end
end RP
set_option maxHeartbeats 8000000
namespace TS
open PySem PyProof.Rows
section
variable {M:Model}{A:AS}{E:Ab->Ae->Prop}{s:Ae}{kd:Ci}{S:Keyed->Prop}{L:Keyed->Keyed->Bool}
theorem zg7:∀n:Fin 64,minRun' n.1 n.1 0=n.1:=by decide
structure P1 (L:Keyed->Keyed->Bool) (a0:Array Keyed) (st:BZ):Prop where
 fail:Db st=none
 perm:(AN st).Perm a0
 seg:Seg L (AN st) 0 a0.size
 one:(De st).size=1
theorem sortRuns_small(O:LtOk M A E s kd S L){st:BZ}{Q:Unit -> BZ -> Prop}(h2 : 2 <= (AN st).size)(h64:(AN st).size < 64)(hk:kindOf st=kd)(hp:De st = #[])(hf:Db st=none)(hS:∀(k:Nat) x, (AN st)[k]? = some x -> S x)
  (hQ:∀st',(AN st').Perm (AN st)->Db st'=none->Seg L (AN st') 0 (AN st).size->Q () st'):wpS M A E s sortRuns' Q st:=by
 rw[sortRuns'_eq];refine Bb (wpS_get ?_);dsimp only;have hmr:minRun' (AN st).size (AN st).size 0=(AN st).size:=zg7 ⟨_,h64⟩;generalize ha0:AN st=a0 at h2 hmr hQ
 refine Bb (wpS_mono (Dt (I:=λx c st'=>∃lo,c=(none,lo)/\((x=0/\lo=0/\st'=st)∨(lo=a0.size/\P1 L a0 st')))
  (Q:=λc st'=>c=(none,a0.size)/\P1 L a0 st') ?step ?fin ⟨0,rfl,.inl ⟨rfl,rfl,rfl⟩⟩) ?post)
 case fin =>
  rintro c st' ⟨lo,rfl,h⟩;rcases h with⟨h,_⟩ |⟨rfl,h⟩
  .lia
  .exact⟨rfl,h⟩
 case step =>
  rintro x c st' _ hx ⟨lo,rfl,h⟩;dsimp only;rcases h with⟨rfl,rfl,rfl⟩ |⟨rfl,h⟩
  .rw[if_neg (by lia)];refine Bb (zgu O (by lia) (by rw[ha0];lia) hk hS λm st1 sb1 hm1 hm2 sg1=>?_);dsimp only;rw[hmr]
   by_cases hlt:m<a0.size
   .rw[if_pos hlt];refine Bb (wpS_lift (DG ⟨rfl,?_⟩));refine Bb (zeT O hm1 (by lia) (by rw[sb1.size,ha0];lia) sb1.kind sb1.all sg1 λst2 sb2 sg2=>?_)
    try dsimp only
    rw[if_neg (by decide)];refine Bb (wpS_get ?_);have hp2:De st2=#[]:=by rw[sb2.pend,sb1.pend,hp]
    rw[hp2]
    try dsimp only
    refine Bb (wpS_modify (BI ⟨_,rfl,.inr ⟨by lia,?_⟩⟩));refine⟨?_,?_,?_,by show ((De st2).push _).size=1;rw[hp2];rfl⟩
    .show Db st2=none;rw[sb2.fail,sb1.fail,hf]
    .show (AN st2).Perm a0;rw[<- ha0];exact sb2.perm.trans sb1.perm
    .show Seg L (AN st2) 0 a0.size;have:min (a0.size-0) a0.size=a0.size:=by lia
     rw[this]at sg2;exact sg2
   .rw[if_neg hlt];have em:m=a0.size:=by lia
    subst em;refine Bb (wpS_get ?_);have hp1:De st1=#[]:=by rw[sb1.pend,hp]
    rw[hp1]
    try dsimp only
    refine Bb (wpS_modify (BI ⟨_,rfl,.inr ⟨by lia,?_⟩⟩));refine⟨?_,?_,sg1,by show ((De st1).push _).size=1;rw[hp1];rfl⟩
    .show Db st1=none;rw[sb1.fail,hf]
    .show (AN st1).Perm a0;rw[<- ha0];exact sb1.perm
  .rw[if_pos (Ai _)];exact BI ⟨rfl,h⟩
 case post =>
  rintro c st1 ⟨rfl,p1⟩
  try dsimp only
  refine Bb (wpS_mono (Dt (I:=λx c st2=>c=(none,())/\P1 L a0 st2) (Q:=λc st2=>c=(none,())/\P1 L a0 st2) ?step ?fin ⟨rfl,p1⟩) ?post)
  case fin =>
   rintro c st2 h;exact h
  case step =>
   rintro x c st2 _ hx ⟨rfl,p2⟩;refine Bb (wpS_get ?_)
   try dsimp only
   rw[if_pos (show (De st2).size<=1 by rw[p2.one];exact Ai _)];exact BI ⟨rfl,p2⟩
  case post =>
   rintro c st2 ⟨rfl,p2⟩;exact BI (hQ st2 p2.perm p2.fail p2.seg)
end
end TS
namespace L2
open PySem PySem.Spec PyProof.Rows
theorem zf8{α β:Type}{f:α->β}{xs ys:List β}(p:ys.Perm xs):∀{l:List α},xs=l.map f->∃l':List α,l'.Perm l/\ys=l'.map f:=by
 induction p with
 |nil=>intro l h;exact⟨l,List.Perm.refl _,h⟩
 |cons v _ ih =>
  intro l h
  match l,h with
  |x::l,h =>
   injection h with h1 h2;obtain⟨l',p',e⟩:=ih h2;exact⟨x::l',p'.cons x,by rw[e,h1];rfl⟩
 |swap a b r =>
  intro l h
  match l,h with
  |x::y::l,h =>
   injection h with h1 h2;injection h2 with h2 h3;exact⟨y::x::l,List.Perm.swap _ _ _,by rw[h1,h2,h3];rfl⟩
 |trans _ _ ih1 ih2 =>
  intro l h;obtain⟨l1,p1,h1⟩:=ih2 h;obtain⟨l2,p2,h2⟩:=ih1 h1;exact⟨l2,p2.trans p1,h2⟩
section
variable {X:Cx}{pins:List (Addr×Obj)}{σ:St}{H:Hp}{s:Ae}{D st:Addr}{e:Nat}{κV:Nat->List V}{ks:List Addr}{E:Ab->Ae->Prop}
noncomputable def OrddS(κ:Nat->List Int)(n:Nat)(p:Array Nat):Prop:=RK.Pm n p/\p.toList.Pairwise λi j=>HT.lexLt (κ j) (κ i)=false
noncomputable def zeM(κ:Nat->List Int)(ks:List Addr):Ab->List Int
 |.ref a=>κ (ks.idxOf a)
 |_=>[]
theorem zn0{vs:List Ab}{κ : Nat -> List Int}(K:SK X pins σ H s D st e κV ks)(hl:ks.length=vs.length)(h2 : 2 <= vs.length)(h64:vs.length < 64)
  (hcol:∀i j,i<ks.length->j<ks.length->∃n m r q rn rm,κV i=.int n::r/\κV j=.int m::q/\VCols r q rn rm/\κ i=n::rn/\κ j=m::rm) :
  zja X (OrddS κ vs.length) (ks.map Ay) vs E s:=by
 unfold zja
 obtain⟨fs,kt,hfl,hfi⟩:=zkM (as:=[]) (vs:=[]) K.inv (ks:=ks) (ns:=(AJ ks.length).map λi=>((κ i).headD 0)) (λi a ha=>by
  have hi:i<ks.length:=(Ad.mp ha).1;obtain⟨n,m,r,q,rn,rm,e1,_,_,e2,_⟩:=hcol i i hi hi;refine⟨n,r,?_,?_⟩
  .rw[Ak,CU hi,C8,e2];rfl
  .rw[<- e1];exact K.hk i a ha) (by simp)
 refine W.kat_kind (T:=.type "int") kt (by lia) (λv hv=>?_) rfl ⟨rfl,?_⟩
 .obtain⟨n,t,rfl⟩:=hfi v hv;exact .now
 have hl':(ks.map Ay).length=vs.length:=by simp[hl]
 have hsz0:((ks.map Ay).toArray.zip vs.toArray).size=vs.length:=by simp[hl]
 generalize hZ:(ks.map Ay).toArray.zip vs.toArray=Z at hsz0;have hsz:Z.size=vs.length:=hsz0
 have kap:∀i (hi:i<ks.length),zeM κ ks (Ay ks[i])=κ i:=λi hi=>by
  have hj:ks.idxOf ks[i]<ks.length:=List.idxOf_lt_length_iff.mpr (AW hi);have ej:ks[ks.idxOf ks[i]]=ks[i]:=List.getElem_idxOf hj;obtain⟨n,m,r,q,rn,rm,e1,e2,vc,e3,e4⟩:=hcol (ks.idxOf ks[i]) i hj hi;have k1:=K.hk (ks.idxOf ks[i]) ks[i] (by rw[Aa hj,ej]);have k2:=K.hk i ks[i] (Aa hi);have eq:=K.inv.tuple_inj k1 k2;show κ (ks.idxOf ks[i])=κ i;rw[e1,e2]at eq;injection eq with q1 q2;injection q1 with q1;subst q1;subst q2;rw[e3,e4]
  congr 1
  have same:∀{xs:List V} {as bs:List Int},VCols xs xs as bs->as=bs:=λ{xs}=>by
   induction xs with
   |nil=>intro as bs h;cases h;rfl
   |cons x xs ih =>
    intro as bs h
    cases h with
    |cons c h=>cases c <;> rw[ih h]
  exact same vc
 have itm:∀i,i<vs.length->Dl Z i=(Ay (ks.getD i 0),vs.getD i Value.none):=λi hi=>by
  rw[<- hZ,W.kat_item hl'];have:(ks.map Ay).getD i Value.none=Ay (ks.getD i 0):=by simp[show i<ks.length by lia]
  rw[this]
 have O:TS.LtOk (Az X.prog X.w) X.A.in1.in1 E s (tuples' true) (λx=>∃i,i<ks.length/\x.1=Ay (ks.getD i 0)) (λx y=>HT.lexLt (zeM κ ks x.1) (zeM κ ks y.1)):=by
  refine⟨λx y hx hy st' Q hk q=>?_,λx y z _ _ _ h1 h2=>?_,λx y _ _ h=>HT.lexLt_asym h⟩
  .obtain⟨i,hi,ex⟩:=hx;obtain⟨j,hj,ey⟩:=hy;have gi:ks.getD i 0=ks[i]:=by simp[hi]
   have gj:ks.getD j 0=ks[j]:=by simp[hj]
   rw[gi]at ex;rw[gj]at ey;rw[ex,ey,kap i hi,kap j hj]at q;rw[lt'_eq];refine Bb (wpS_get ?_);rw[hk,ex,ey];obtain⟨n,m,r,q',rn,rm,e1,e2,vc,e3,e4⟩:=hcol i j hi hj;have k1:=K.hk i ks[i] (Aa hi);have k2:=K.hk j ks[j] (Aa hj);rw[e1]at k1;rw[e2]at k2;obtain⟨its,rv,⟨o,ho,hcl,c,hd⟩,_⟩:=K.inv.tuple k1;obtain⟨its2,rv2,⟨o2,ho2,hcl2,c2,hd2⟩,_⟩:=K.inv.tuple k2;refine Bb (wpS_lift (wpAny_attempt (W.kat_lt ho hd ho2 hd2 ?_)))
   cases rv with
   |cons rx rr =>
    cases rv2 with
    |cons rx2 rr2 =>
     obtain⟨t1,rfl⟩:=rx;obtain⟨t2,rfl⟩:=rx2;have cs:=vc.vals rr rr2
     have hlen:∀{us vs:List Ab} {as bs:List Int},RK.Cols us vs as bs->us.length=vs.length:=λc=>by induction c with
      |nil=>rfl
      |cons _ _ ih=>simp[ih]
     simp only[An,A5,hlen cs,BM,decide_false];refine RK.kat_cols0 cs ?_
     rw[e3,e4]at q;exact⟨rfl,BI q⟩
  .cases q:HT.lexLt (zeM κ ks z.1) (zeM κ ks x.1) with
   |false=>rfl
   |true =>
    have:=HT.lexLt_of_not_lt_lt h2 q;rw[h1]at this;cases this
 have run:=TS.sortRuns_small O (st:=SortSt.mk' (tuples' true) Z #[] 7 none) (Q:=λ_ st'=>Db st'=none/\∃p:Array Nat,OrddS κ vs.length p/\p.size=vs.length/\AN st'=p.map (Dl Z))
  (by show 2<=Z.size;lia) (by show Z.size<64;lia) rfl rfl rfl (λk x hx=>?_) (λst' hp hf hs=>?_)
 .exact BJ run (λr s' h=>⟨h.1,h.2⟩) λ_ _ z=>z
 .have hk':k<vs.length:=by rw[<- hsz];exact (Array.getElem?_eq_some_iff.mp hx).1
  have hx':Z[k]?=some x:=hx
  have e1:Dl Z k=x:=by unfold Dl;rw[Array.getD_eq_getD_getElem?,hx'];rfl
  rw[itm k hk']at e1;exact⟨k,by lia,by rw[<- e1]⟩
 .refine⟨hf,?_⟩;have hp':(AN st').Perm Z:=hp;have hrng:=W.kas_range Z;rw[hsz]at hrng;obtain⟨l,pl,el⟩:=zf8 (Array.perm_iff_toList_perm.mp hp') (l:=AJ vs.length) (f:=Dl Z) (by have:=congrArg Array.toList hrng;simpa using this.symm);have hll:l.length=vs.length:=by rw[pl.length_eq,CN]
  refine⟨l.toArray,⟨?_,?_⟩,by simpa using hll,?_⟩
  .exact Array.perm_iff_toList_perm.mpr (by simpa using pl)
  .rw[List.pairwise_iff_getElem];intro i j hi hj hij;have hi':i<l.length:=by simpa using hi
   have hj':j<l.length:=by simpa using hj
   have ai:(AN st')[i]?=some (Dl Z l[i]):=by rw[<- Array.getElem?_toList,el,Ak,Aa hi'];rfl
   have aj:(AN st')[j]?=some (Dl Z l[j]):=by rw[<- Array.getElem?_toList,el,Ak,Aa hj'];rfl
   have li:l[i]<vs.length:=Bq.mp (pl.mem_iff.mp (AW hi'));have lj:l[j]<vs.length:=Bq.mp (pl.mem_iff.mp (AW hj'));have:=hs i j _ _ (by lia) (by show j<Z.size;lia) (by rw[Ck];exact ai) (by rw[Ck];exact aj);rw[itm _ li,itm _ lj]at this;have g1:ks.getD l[i] 0=ks[l[i]]'(by lia):=by simp[show l[i]<ks.length by lia]
   have g2:ks.getD l[j] 0=ks[l[j]]'(by lia):=by simp[show l[j]<ks.length by lia]
   simp only[g1,g2]at this;rw[kap _ (by lia),kap _ (by lia)]at this;simpa using this
  .apply Array.toList_inj.mp
   rw[el];simp
end
section
variable {X:Cx}{x:Str}{p pos kp kpos:Pos}{e:Expr}{te:TE}{k:Nat}{f:Addr}{fd:Br}{ps:List Str}{sp:Sp}{fn:Str}
noncomputable def znk(K:W.Frag)(te:TE)(sp:Sp):TE:=λσ H Q=>te σ H λv H1=>∃l xs,∃ κV:Nat->List V,∃ κ:Nat->List Int,[v]=[V.ref l]/\SqL K H1 l xs/\xs.length<=63 /\
 (∀i x H2,xs[i]?=some x->Same H1 H2->sp [x] H2 (λv H'=>Same H2 H'/\∃a,v=.ref a/\SqT K H' a (κV i)) E0) /\
 (∀i j,i<xs.length->j<xs.length->∃n m r q rn rm,κV i=.int n::r/\κV j=.int m::q/\VCols r q rn rm/\κ i=n::rn/\κ j=m::rm)/\∀(p:List Nat) D H',p.Perm (AJ xs.length)->p.Pairwise (λi j=>HT.lexLt (κ j) (κ i)=false)->H1 D=none->Same H1 H'->H' D=some (.lst (p.map λi=>xs.getD i .non))->Q (.ref D) H'
theorem ziD (F:FnOk X.prog X.w X.K X.mg X.base CX0 k f fd ps sp) (hr:Room (k + 1 + 1) X.A) (hb:Binds X.K fd ps []) (hg:Gl X "sorted") (hm:X.mg "sorted" = none) (hgf:Gl X fn) (hmf:X.mg fn=some (.ref f)) (he:PE X e te)
  (hdb:(fn == ("__debug__" : Str))=false:=by decide) (hse:A4 [e] X.env=[(false,eval e X.env)]:=by rfl) (hh:X.calm=true:=by rfl)
  (hall:(Dx pos (Cn [⟨some "key",.Name fn kp,kpos⟩] X.env)).all (·.1.isSome)=true:=by rfl) (hkw:(Dx pos (Cn [⟨some "key",.Name fn kp,kpos⟩] X.env)).any (·.1.isNone)=false:=by rfl)
  (hks:(Dx pos (Cn [⟨some "key",.Name fn kp,kpos⟩] X.env)).filterMap (·.1)=[B7 "key"]:=by rfl) :
  PE X (.Call (.Name "sorted" p) [e] [⟨some "key",.Name fn kp,kpos⟩] pos) (znk X.K te sp):=by
 intro pins s σ H Q I h;refine B4 (zdT I hg hm boot_sorted ?_ (by decide) (by decide));refine callWith_kw (thn (zah he zab (hs:=hse) pos pins s σ H (λvs H1=>∃l xs,∃ κV:Nat->List V,∃ κ:Nat->List Int,vs=[V.ref l]/\SqL X.K H1 l xs/\xs.length<=63 /\
 (∀i x H2,xs[i]?=some x->Same H1 H2->sp [x] H2 (λv H'=>Same H2 H'/\∃a,v=.ref a/\SqT X.K H' a (κV i)) E0) /\
 (∀i j,i<xs.length->j<xs.length->∃n m r q rn rm,κV i=.int n::r/\κV j=.int m::q/\VCols r q rn rm/\κ i=n::rn/\κ j=m::rm)/\∀(p:List Nat) D H',p.Perm (AJ xs.length)->p.Pairwise (λi j=>HT.lexLt (κ j) (κ i)=false)->H1 D=none->Same H1 H'->H' D=some (.lst (p.map λi=>xs.getD i .non))->Q (.ref D) H') I ?_) λus s1 ⟨vs,H1,I1,r,q⟩=>?_) (by rw[hse];rfl) (by rw[hse];rfl) hall hkw
 .show te σ H _;exact h
 .obtain⟨l,xs,κV,κ,rfl,hq,h64,turn,hcol,hQ⟩:=q;obtain⟨u,rfl,ru⟩:=Vals.one r
  cases (show u=Ay l from ru)
  refine thn (zki (nm:=some "key") (kpos:=kpos) (zdH (v:=.ref f) hgf hmf rfl hdb) zmi pos pins s1 σ H1 (λzs H2=>zs=[.ref f]/\H2=H1) I1 ⟨rfl,rfl⟩) λws s2 ⟨zs,H2,I2,rz,q2⟩=>?_
  obtain⟨rfl,rfl⟩:=q2;obtain⟨u2,rfl,ru2⟩:=Vals.one rz
  cases (show u2=Ay f from ru2)
  rw[hks];refine zjA (G:=OrddS κ xs.length) (znQ F hr hb turn) hq (λp hp i hi=>?_) (λh2=>⟨Array.Perm.refl _,?_⟩) (λ{vs ks H' s' D st e} r' K' hks h2=>?_) (λp D H' g hp hD hS hH=>hQ p.toList D H' ?_ g.2 hD hS hH) I2
  .have:=hp.1.mem_iff.mp (show i∈p by simpa using hi);simpa using this
  .rw[List.pairwise_iff_getElem];intro i j hi hj hij;simp at hi hj;lia
  .have hlx:xs.length=vs.length:=r'.length;rw[hlx];exact zn0 K' hks h2 (by rw[<- hlx];lia) λi j hi hj=>hcol i j (by lia) (by lia)
  .have:=Array.perm_iff_toList_perm.mp g.1;simpa using this
end
open PySem PySem.Spec PyProof.Rows PySem.W
section
variable {X:Cx}{pins:List (Addr×Obj)}{σ:St}{H0:Hp}{s:Ae}{l:Addr}{G:Array Nat->Prop}{xs:List V}{Q:VK}
end
noncomputable def soI (s:Str):Int:=if s = "rim" then 1 else 0
noncomputable def SoTwo (s:Str):Prop:=s = "rim" ∨ s = "hole"
inductive Sc:V->V->Int->Int->Prop where
 |int (n m:Int):Sc (.int n) (.int m) n m
 |bl (p q:Bool):Sc (.bl p) (.bl q) (b2i p) (b2i q)
 |so {a b:Str} (ha:SoTwo a) (hb:SoTwo b):Sc (.str a) (.str b) (soI a) (soI b)
inductive VT (K:W.Frag) (H:Hp):List V->List V->List Int->List Int->Prop where
 |nil:VT K H [] [] [] []
 |cons {x y:V} {xs ys:List V} {a b:Int} {as bs:List Int}:Sc x y a b->VT K H xs ys as bs->VT K H (x::xs) (y::ys) (a::as) (b::bs)
 |tup {a b:Addr} {ns ms:List Int}:SqT K H a (ns.map V.int)->SqT K H b (ms.map V.int)->VT K H [.ref a] [.ref b] ns ms
section
variable {X:Cx}{pins:List (Addr×Obj)}{σ:St}{H:Hp}{s:Ae}
end
end L2
namespace HT
open PySem PyProof.Rows
section
open PySem.SeqAt
open PySem.AutoSeq1 (wpAny_loadPart')
open PySem.MeetsSeq PySem.MeetsSeq2 PySem.MeetsSeq3
noncomputable def LtAt(A:AS)(s:Ae)(u v:Ab)(b:Bool):Prop:=∀(prog:AH) (w:A1) (E:Ab->Ae->Prop) (Q:Ab->Ae->Prop),Q (.bool b) s->As (Az prog w) A (richCompare .Lt u v) Q E s
inductive CG (A:AS) (s:Ae):List Ab->List Ab->List Int->List Int->Prop where
 |nil:CG A s [] [] [] []
 |cons {u v:Ab} {us vs:List Ab} {a b:Int} {as bs:List Int}:EqAt A s u v (decide (a=b))->LtAt A s u v (decide (a<b))->CG A s us vs as bs->CG A s (u::us) (v::vs) (a::as) (b::bs)
 |last {u v:Ab} {ns ms:List Int}:EqAt A s u v (decide (ns=ms))->LtAt A s u v (lexLt ns ms)->CG A s [u] [v] ns ms
end
section
variable {prog:AH}{w:A1}{A:AS}{E:Ab->Ae->Prop}{s:Ae}
end
end HT
namespace L2
open PySem PySem.Spec PyProof.Rows PySem.W
section
variable {X:Cx}{pins:List (Addr×Obj)}{σ:St}{H:Hp}{s:Ae}
end
open PySem PySem.Spec PyProof.Rows
section
variable {X:Cx}{k:Nat}{f:Addr}{fd:Br}{ps:List Str}{sp:Sp}{pins:List (Addr×Obj)}{σ:St}{H0:Hp}{Q:VK}{l it st:Addr}{xs:List V}{κ:Nat->List Int}{κV:Nat->List V}
end
end L2
namespace HT
open PySem PyProof.Rows PySem.Spec
end HT
namespace L2
open PySem PySem.Spec PyProof.Rows
section
variable {X:Cx}{K:W.Frag}
theorem samU{H:Hp}{p:Addr}{o:HO}(h:H p=none):Same H (upd H p o):=λb u e=>by rw[zam (λz=>by rw[z,h]at e;cases e)];exact e
noncomputable def rCatS(K:W.Frag):R2:=λx y H Q=>∃a b xs ys,x=.ref a/\y=.ref b/\H a=some (.tup xs)/\H b=some (.tup ys)/\xs.length+ys.length<=sizeLine /\
 ∀p H',Same H H'->H' p=some (.tup (xs++ys))->Q (.ref p) H'
theorem zmU:OpR X (Cs .Add) (rCatS X.K):=by
 intro pins s σ H x y v u Q I rx ry h;obtain⟨a,b,xs,ys,rfl,rfl,ha,hb,hz,q⟩:=h;refine zkr pins s σ H _ _ v u Q I rx ry ⟨a,b,xs,ys,rfl,rfl,SqT.of ha,SqT.of hb,hz,λz=>?_,λ_ z=>?_,λ_ _ p hp=>q p _ (samU hp) zaa⟩
 .subst z;exact q b H (Same.refl _) hb
 .subst z;exact q a H (Same.refl _) (by rw[A3];exact ha)
noncomputable def rSlS(K:W.Frag):V->Option Int->Option Int->Hp->VK->Prop:=λx lo hi H Q=>∃a xs,x=.ref a/\H a=some (.tup xs)/\∀p H',Same H H'->H' p=some (.tup (cutV xs lo hi))->Q (.ref p) H'
theorem zlV{xs:List V}{lo hi:Option Int}(h:HT.sIx xs.length 0 lo=0/\HT.sIx xs.length xs.length hi=xs.length):cutV xs lo hi=xs:=by unfold cutV;rw[h.1,h.2,List.drop_zero,Nat.sub_zero,AO]
theorem zmC:SlR X (rSlS X.K):=by intro pins s σ H x v vl vu lo hi sl Q I rx hs pl pu h;obtain⟨a,xs,rfl,ha,q⟩:=h;exact zel pins s σ H _ v vl vu lo hi sl Q I rx hs pl pu ⟨a,xs,rfl,SqT.of ha,λz=>q a H (Same.refl _) (by rw[zlV z];exact ha),λ_ p hp=>q p _ (samU hp) zaa⟩
end
theorem zfD:∀(names:List (Str×Ct)) (n:Nat) (acc:List (Str×Addr)) (x:Str) (c:Addr),(Bv n names acc).lookup x=some c->acc.lookup x=some c∨((x,Bn)∈names/\n<=c)
 |[],_,_,_,_,h=>.inl h
 | (m,k)::r,n,acc,x,c,h=>by
  unfold Bv at h
  by_cases hk:(k == Bn)=true
  .rw[if_pos hk]at h;rcases zfD r (n+1) _ x c h with q |⟨q,l⟩
   .by_cases hx:x=m
    .subst hx;rw[AV,beq_self_eq_true]at q
     cases q
     have:k=.cell:=by simpa using hk
     subst this;exact .inr ⟨AE,Ai _⟩
    .have hb:(x == m)=false:=by simpa using hx
     rw[AV,hb]at q;exact .inl q
   .exact .inr ⟨Au _ q,Nat.le_of_succ_le l⟩
  .rw[if_neg hk]at h;rcases zfD r n acc x c h with q |⟨q,l⟩
   .exact .inl q
   .exact .inr ⟨Au _ q,l⟩
theorem zgv:∀(names:List (Str×Ct)) (n:Nat) (acc:List (Str×Addr)) (x:Str),(∃c,acc.lookup x=some c)∨(x,Bn)∈names->∃c,(Bv n names acc).lookup x=some c
 |[],_,_,_,h=>h.elim id (λz=>nomatch z)
 | (m,k)::r,n,acc,x,h=>by
  unfold Bv
  by_cases hk:(k == Bn)=true
  .rw[if_pos hk];refine zgv r (n+1) _ x ?_
   by_cases hx:x=m
   .subst hx;exact .inl ⟨n,by rw[AV,beq_self_eq_true]⟩
   .have hb:(x == m)=false:=by simpa using hx
    rcases h with⟨c,h⟩ |h
    .exact .inl ⟨c,by rw[AV,hb];exact h⟩
    .rcases At.mp h with z |z
     .cases z;exact absurd rfl hx
     .exact .inr z
  .rw[if_neg hk];refine zgv r n acc x ?_
   rcases h with h |h
   .exact .inl h
   .rcases At.mp h with z |z
    .cases z;exact absurd rfl hk
    .exact .inr z
theorem znb{names:List (Str×Ct)}{n:Nat}{acc:List (Str×Addr)}{x:Str}{c:Addr}(h:acc.lookup x=some c)(hx:(x,Bn) ∉ names):(Bv n names acc).lookup x=some c:=by
 obtain⟨c',e⟩:=zgv names n acc x (.inl ⟨c,h⟩);rcases zfD names n acc x c' e with q |⟨q,_⟩
 .rw[h]at q;cases q;exact e
 .exact absurd q hx
theorem zk4:∀(names:List (Str × Ct)) (n:Nat) (acc:List (Str × Addr)), (∀x c, acc.lookup x=some c -> c < n) -> (∀x y c, acc.lookup x=some c -> acc.lookup y=some c -> x=y) ->
  ∀x y c,(Bv n names acc).lookup x=some c->(Bv n names acc).lookup y=some c->x=y
 |[],_,_,_,h=>h
 | (m,k)::r,n,acc,hl,hi=>by
  unfold Bv
  by_cases hk:(k == Bn)=true
  .rw[if_pos hk];refine zk4 r (n+1) _ (λx c e=>?_) (λx y c e1 e2=>?_)
   .rw[AV]at e
    cases hb:x == m with
    |true=>rw[hb]at e;cases e;exact Nat.lt_succ_self _
    |false=>rw[hb]at e;exact Nat.lt_succ_of_lt (hl x c e)
   .rw[AV]at e1 e2
    cases hb:x == m with
    |true =>
     rw[hb]at e1
     cases e1
     cases hb2:y == m with
     |true=>rw[beq_iff_eq.mp hb,beq_iff_eq.mp hb2]
     |false=>rw[hb2]at e2;exact absurd (hl y _ e2) (BM _)
    |false =>
     rw[hb]at e1
     cases hb2:y == m with
     |true=>rw[hb2]at e2;cases e2;exact absurd (hl x _ e1) (BM _)
     |false=>rw[hb2]at e2;exact hi x y c e1 e2
  .rw[if_neg hk];exact zk4 r n acc hl hi
theorem zh9:∀(names:List (Str×Ct)) (h:Heap) (acc:List (Str×Addr)),(∀x c,acc.lookup x=some c->∃v,h.IsCell c v)->∀x c,(Bv h.objs.size names acc).lookup x=some c->∃v,(pushCells h names).IsCell c v
 |[],_,_,ha=>ha
 | (m,k)::r,h,acc,ha=>by
  unfold Bv pushCells
  by_cases hk:(k == Bn)=true
  .rw[if_pos hk,if_pos hk]
   have:=zh9 r (h.push { cls:=.type "cell",data:=.cell none }) ((m,h.objs.size)::acc) (λx c e=>by
    rw[AV]at e
    cases hb:x == m with
    |true=>rw[hb]at e;cases e;exact⟨none,_,AD _ rfl,rfl⟩
    |false =>
     rw[hb]at e;obtain⟨v,q⟩:=ha x c e;exact⟨v,q.keeps λb o e=>Ag _ e⟩)
   rwa [Heap.size_push]at this
  .rw[if_neg hk,if_neg hk];exact zh9 r h acc ha
theorem zlH{M:Model}{A:AS}{E:Ab -> Ae -> Prop}{s:Ae}{sc:Scope}{g:Addr}{cl:List (Str × Addr)}{qual:Str}{env:Env}{Q:Env -> Ae -> Prop}
  (h:Q (newEnv sc s.heap.objs.size g (Bv (s.heap.objs.size+1) sc.names cl) qual none .none (some env) builtinsNs) { s with heap:=pushCells (s.heap.push { cls:=.type "dict",data:=.dict #[] }) sc.names }) :
  As M A (newFunctionEnv sc g cl [] qual none .none (some env)) Q E s:=by
 simp only[newFunctionEnv,Option.isSome_some,if_true];refine Ac (wpAny_alloc ?_);refine Ac (wpAny_layCells _ (λname kind cells=>by cases hkc:kind == Bn <;> simp[hkc]) _ _ _ _ ?_);rw[show ({ s with heap:=s.heap.push { cls:=.type "dict",data:=.dict #[] } }:Ae).heap.objs.size=s.heap.objs.size+1 from Heap.size_push ..];rw[List.forIn_nil];exact Ac (Am (Am h))
noncomputable abbrev blkC(X:Cx)(sc:Scope)(cl:List (Str×Addr))(C:Addr)(N':List Str)(s0:Ae)(H0:Hp)(ex:List Addr):Cx :=
 { blk X sc cl C N' s0 H0 ex with fn:=λx=>decide (sc.names.lookup x=some .cell) }
structure BlkC (osc:Scope) (N:List Str) (sc:Scope) (N':List Str) (sel:List (Option Nat)):Prop where
 kind:sc.kind=.function
 nd:(sc.names.map (·.1)).Nodup
 names:∀y∈sc.names,y.2=.local->sc.names.lookup y.1=some .local
 free:∀y∈sc.names,y.2=.free->osc.names.lookup y.1=some .cell∨osc.names.lookup y.1=some .free
 len:sel.length=N'.length
 sel:∀p∈sel.zip N',∀i∈p.1,N[i]?=some p.2/\sc.names.lookup p.2=some .free
theorem zkw{l:List (Str×Ct)}(nd:(l.map (·.1)).Nodup){x:Str}{k k':Ct}(h:(x,k)∈l)(h':(x,k')∈l):k=k':=by
 induction l with
 |nil=>cases h
 |cons y r ih =>
  rw[AL,List.nodup_cons]at nd;rcases At.mp h with e |h <;> rcases At.mp h' with e' |h'
  .rw[<- e']at e;exact (Prod.mk.inj e).2
  .exact absurd (AF.mpr ⟨_,h',by rw[<- e]⟩) nd.1
  .exact absurd (AF.mpr ⟨_,h,by rw[<- e']⟩) nd.1
  .exact ih nd.2 h h'
theorem zna{X:Cx}{osc:Scope}{N:List Str}{sc:Scope}{N':List Str}{sel:List (Option Nat)}(ok:X.Ok)(B:BlkC osc N sc N' sel)(ho:X.env.scope=osc):∃cl,Clo X.env sc cl:=by
 have hc:∀y∈sc.names,y.2=.free->∃c,X.env.cells.lookup y.1=some c:=λy hy hf=>ok.has y.1 (by
  show X.env.scope.names.lookup y.1=_∨X.env.scope.names.lookup y.1=_;rw[ho];exact B.free y hy hf)
 obtain⟨cl,e,h1,h2,_⟩:=zcr (env:=X.env) sc.names [] hc;refine⟨cl,?_,λx c h=>?_,h2⟩
 .unfold closureFor;have e':=e;show (do let r <- forIn sc.names [] _;pure r)=_;simp only[bind_pure];exact e'
 .rcases h1 x c h with q |q
  .cases q
  .exact q
section
variable {X:Cx}{osc:Scope}{N:List Str}{sc:Scope}{N':List Str}{sel:List (Option Nat)}{cl:List (Str×Addr)}{pins:List (Addr×Obj)}{σ:St}{H:Hp}{s:Ae}{fp:List Addr}
theorem zlL{tk:Nat}(B:BlkC osc N sc N' sel)(ho:X.env.scope=osc)(hN:X.N=N)(Cl:Clo X.env sc cl)(I:Inv X pins σ H s)
    (f:∀b∈fp,FpOk X pins H b) (fo:∀b∈fp,∃o,s.heap.get? b=some o) :
    Inv (blkC X sc (Bv (s.heap.objs.size+1) sc.names cl) s.heap.objs.size N' s H fp) [] (selSt sel σ) H { s with heap:=pushCells (s.heap.push { cls:=.type "dict",data:=.dict #[] }) sc.names,toks:=tk }:=by
  have old:∀b o,s.heap.get? b=some o->(pushCells (s.heap.push { cls:=.type "dict",data:=.dict #[] }) sc.names).get? b=some o:=λb o e=>pushCells_keeps _ _ b o (Ag _ e)
  have bel:∀b∈fp,b<s.heap.objs.size:=λb hb=>by obtain⟨o,e⟩:=fo b hb;exact Aq e
  have kk:∀x,(Ch sc (Bv (s.heap.objs.size+1) sc.names cl) s.heap.objs.size X.env).kindOf x=some .cell∨(Ch sc (Bv (s.heap.objs.size+1) sc.names cl) s.heap.objs.size X.env).kindOf x=some .free->(x,A7)∈sc.names∨(x,Bn)∈sc.names:=λx hx=>by
    rcases hx with hx |hx
    . obtain⟨k',m,e⟩:=zbg hx;rcases e with e |⟨_,e⟩
      . subst e;exact .inr m
      . subst e;exact .inl m
    . obtain⟨k',m,e⟩:=zbg hx;rcases e with e |⟨e,_⟩
      . subst e;exact .inl m
      . cases e
  have clt:∀x c,cl.lookup x=some c->c<s.heap.objs.size:=λx c e=>by obtain⟨v,q⟩:=I.cell x c (Cl.old x c e).1;exact q.lt
  have cne:∀b,b<s.heap.objs.size->(∀x c,X.env.cells.lookup x=some c->c≠b)->∀x c,(Bv (s.heap.objs.size+1) sc.names cl).lookup x=some c->c≠b:=λb hb hq x c e=>by
    rcases zfD _ _ _ _ _ e with q |⟨_,q⟩
    . exact hq x c (Cl.old x c q).1
    . intro z;subst z;lia
  refine⟨⟨I.mod, B.kind, I.ok.glob, I.ok.blt, Ai _, λx y c e1 e2 => zk4 sc.names _ cl (λx c e => Nat.lt_succ_of_lt (clt x c e)) (λx y c e1 e2 => I.ok.inj x y c (Cl.old x c e1).1 (Cl.old y c e2).1) x y c e1 e2,
      λx hx=>zgv _ _ _ _ (by
        rcases kk x hx with z |z
        . exact .inl (Cl.has _ z rfl)
        . exact .inr z),λx c z e=>?_,I.ok.hd,I.ok.frames,.inl rfl,
      λb hb=>⟨AK (bel b hb),cne b (bel b hb) (f b hb).2.2.2.2.1⟩,I.bs,Ba I.ok.bsz I.sz,λb o e hb=>?_,λb hb hs=>?_,I.stack,I.stkFree⟩,
    rfl,I.bare,Un.kept old,⟨_,(Heap.Ns.new s.heap (.type "dict")).keeps (pushCells_keeps _ _),λj x v e1 e2 e3=>?_⟩,λx c e=>?_,I.hok.fresh (Ai _),λx c e=>?_,λp hp=>absurd (show p∈([]:List (Addr×Obj)) from hp) (by simp),I.hok.kept old,?_⟩
  . have z':sc.names.lookup x=some .cell:=by simpa using z
    rcases zfD _ _ _ _ _ e with q |⟨_,q⟩
    . exact absurd (zkw B.nd (BK z') (Cl.old x c q).2) (by decide)
    . exact Nat.le_of_succ_le q
  . rcases (f b hb).2.2.2.1 with z |z
    . exact I.ok.noex b o e z
    . exact absurd (AM (Aq e) (Ba I.ok.bsz z)) (BM _)
  . obtain⟨_,f1,f2,_⟩:=f b hb;rcases At.mp (I.stkSub b hs) with z |z
    . exact f1 z
    . exact f2 z
  . have e2':((sel[j]?).map λo => o.bind λi => (σ[i]?).join)=some (some v) := by have:=e2;unfold selSt at this;rw[Ak]at this;exact this
    cases hj:sel[j]? with
    |none=>rw[hj]at e2';cases e2'
    |some o =>
      rw[hj]at e2'
      cases o with
      |none=>cases e2'
      |some i =>
        have e4:(σ[i]?).join=some v:=AI e2'
        have e5:σ[i]?=some (some v):=by
          cases q:σ[i]? with
          |none=>rw[q]at e4;cases e4
          |some z=>rw[q]at e4;exact congrArg some e4
        have hz:(some i,x)∈sel.zip N':=by
          refine Ah (i:=j) ?_
          rw[CH];exact⟨hj,e1⟩
        obtain⟨g1,g2⟩:=B.sel _ hz i rfl;obtain⟨m,hn,hl⟩:=I.loc;have m2:(x,A7)∈sc.names:=BK g2
        have k2:X.env.kindOf x=some .cell∨X.env.kindOf x=some .free:=by show X.env.scope.names.lookup x=_∨X.env.scope.names.lookup x=_;rw[ho];exact B.free _ m2 rfl
        have v2:Vis X.env.scope x:=by
          rcases k2 with z |z
          . exact .inr (.inl z)
          . exact .inr (.inr z)
        obtain⟨u,r,l⟩:=hl i x v (by rw[hN];exact g1) e5 v2;refine⟨u,r,?_⟩;rcases l with⟨l,_⟩ |⟨_,c,e6,hc⟩
        . rcases k2 with z |z <;> (rw[l]at z;cases z)
        . obtain⟨c',hc'⟩:=Cl.has _ m2 rfl;have e7:=(Cl.old x c' hc').1;rw[e6]at e7
          cases e7
          exact .inr ⟨zbl g2,c,znb hc' (λz=>absurd (zkw B.nd z m2) (by decide)),hc.keeps old⟩
  . have e':(Bv (s.heap.push { cls:=.type "dict",data:=.dict #[] }).objs.size sc.names cl).lookup x=some c:=by rw[Heap.size_push];exact e
    exact zh9 sc.names (s.heap.push { cls:=.type "dict",data:=.dict #[] }) cl (λx c e=>by obtain⟨v,q⟩:=I.cell x c (Cl.old x c e).1;exact⟨v,q.keeps λb o e=>Ag _ e⟩) x c e'
  . rcases zfD _ _ _ _ _ e with q |⟨_,q⟩
    . exact I.freeC x c (Cl.old x c q).1
    . exact I.hok.fresh (Nat.le_of_succ_le q)
  . show (selSt sel σ).length=N'.length;unfold selSt;rw[Af,B.len]
theorem zlW{C:Addr}{H':Hp}{σ':St}{s':Ae}(I:Inv X pins σ H s)(f:∀b∈fp,FpOk X pins H b)(I':Inv (blkC X sc cl C N' s H fp) [] σ' H' s'):Inv X pins σ H' s' :=
 I.call' (ch:=fp) I'.os I'.base I'.hok I'.bare λb hb=>by obtain⟨_,f1,_,f3,f4,f5⟩:=f b hb;exact⟨f3,f1,f4,f5⟩
end
section
variable {X:Cx}{osc:Scope}{N:List Str}{sc:Scope}{N':List Str}{sel:List (Option Nat)}{pos:Pos}{elt tg iter:Expr}{ifs:List Expr}{wi:TI}{g:TG}{tt:TT}{te:TE}
noncomputable def zlk(X:Cx)(sc:Scope)(N':List Str)(P:Cx->Prop):Prop:=∀cl C s0 H0 ex,P (blkC X sc cl C N' s0 H0 ex)
theorem zkl(B:BlkC osc N sc N' sel)(hi:PI X tg iter wi)(hg:zlk X sc N' λY => PG Y tg g)(ht:zlk X sc N' λY => PTs Y ifs tt)(he:zlk X sc N' λY => PE Y elt te)
  (ho:X.env.scope=osc:=by rfl) (hN:X.N=N:=by rfl) (hc:X.calm=true:=by rfl) (hs:∀x,Bi iter X.env x=pure x:=by intro _;rfl) :
  PE X (.ListComp elt [⟨tg,iter,ifs,0⟩] sc pos) (zgJ wi sel g tt te):=by
 intro pins s' σ H' Q I' h;obtain⟨cl,Cl⟩:=zna I'.ok B ho;rw[eval_ListComp];refine B8 (use:=none) rfl hs Cl.run B.kind B.names (thn (hi pins s' σ H' _ I' h) λv s1 h1=>thn h1 λitv s h2=>?_);obtain⟨it,fp,tn,J,H,e,I,T,st,f,h2⟩:=h2;subst e;refine Bh ?_
 have h:=h2 _ (I.hok.fresh (Ai _));have grow:∀b o,s.heap.get? b=some o->(s.heap.push { cls:=.type "list",dict:=none,data:=.seq ([]:List Ab).toArray }).get? b=some o:=λ_ _ q=>Ag _ q
 have I1:Inv X pins σ (upd H s.heap.objs.size (.lst [])) { s with heap:=s.heap.push { cls:=.type "list",dict:=none,data:=.seq ([]:List Ab).toArray },toks:=s.toks }:=I.laid grow (Ai _) zgk;have bel:∀b∈fp,∃o,s.heap.get? b=some o:=λb hb=>let ⟨o,e,_⟩:=T.obj _ _ st b hb;⟨o,e⟩
 have f1:∀b∈fp,FpOk X pins (upd H s.heap.objs.size (.lst [])) b:=λb hb=>by obtain⟨o,e⟩:=bel b hb;refine⟨?_,(f b hb).2⟩;rw[zam (AK (Aq e))];exact (f b hb).1
 refine zlH (s:={ s with heap:=s.heap.push { cls:=.type "list",dict:=none,data:=.seq ([]:List Ab).toArray },toks:=s.toks }) ?_
 have I2:=zlL (tk:=s.toks) B ho hN Cl I1 f1 (λb hb=>let ⟨o,e⟩:=bel b hb;⟨o,grow b o e⟩);have st1:tn 0 (pushCells ((s.heap.push { cls:=.type "list",dict:=none,data:=.seq ([]:List Ab).toArray }).push { cls:=.type "dict",data:=.dict #[] }) sc.names):=T.keep _ _ _ st λb _ o e=>pushCells_keeps _ _ b o (Ag _ (grow b o e))
 have f2:∀b∈fp,FpOk (blkC X sc (Bv ((s.heap.push { cls:=.type "list",dict:=none,data:=.seq ([]:List Ab).toArray }).objs.size+1) sc.names cl) (s.heap.push { cls:=.type "list",dict:=none,data:=.seq ([]:List Ab).toArray }).objs.size N' { s with heap:=s.heap.push { cls:=.type "list",dict:=none,data:=.seq ([]:List Ab).toArray },toks:=s.toks } (upd H s.heap.objs.size (.lst [])) fp) [] (upd H s.heap.objs.size (.lst [])) b:=λb hb=>by
  obtain⟨g0,g1,g2,g3,g4,g5⟩:=f1 b hb;obtain⟨o,e⟩:=bel b hb;refine⟨g0,AK (Aq (grow b o e)),λz=>?_,.inl hb,(I2.ok.exf b hb).2,λp hp=>absurd (show p∈([]:List (Addr×Obj)) from hp) (by simp)⟩;rcases At.mp (I1.stkSub b z) with q |q
  .exact g1 q
  .exact g2 q
 have loop:=zcN (e:=.ListComp elt [⟨tg,iter,ifs,0⟩] sc pos) (d:=0) (acc:=.ref s.heap.objs.size) (X:=blkC X sc (Bv ((s.heap.push { cls:=.type "list",dict:=none,data:=.seq ([]:List Ab).toArray }).objs.size+1) sc.names cl) (s.heap.push { cls:=.type "list",dict:=none,data:=.seq ([]:List Ab).toArray }).objs.size N' { s with heap:=s.heap.push { cls:=.type "list",dict:=none,data:=.seq ([]:List Ab).toArray },toks:=s.toks } (upd H s.heap.objs.size (.lst [])) fp) (p:=iter.pos)
  (inner:=do let _ <- call (.builtin "list.append") [.ref s.heap.objs.size,<- eval elt (Ch sc (Bv ((s.heap.push { cls:=.type "list",dict:=none,data:=.seq ([]:List Ab).toArray }).objs.size+1) sc.names cl) (s.heap.push { cls:=.type "list",dict:=none,data:=.seq ([]:List Ab).toArray }).objs.size X.env)]) rfl rfl rfl (λB {α t Q E s} h w=>by subst h;exact w) hc rfl (hg _ _ _ _ _) (ht _ _ _ _ _) (zhR (he _ _ _ _ _)) I2 T st1 f2 h
  (R:=compPost (Az X.prog X.w) X.A X.xe none (λv s'=>∃x H',Inv X pins σ H' s'/\RelV x v/\Q x H') (.ref s.heap.objs.size) (s.heap.push { cls:=.type "list",dict:=none,data:=.seq ([]:List Ab).toArray }).objs.size) (λfl s' ⟨σ',H',I',fr',q'⟩=>by have I3:=zlW I1 f1 I';have hC:FpOk X pins H' (s.heap.push { cls:=.type "list",dict:=none,data:=.seq ([]:List Ab).toArray }).objs.size:=I1.fpOk (Ai _) I'.free;obtain⟨m,hn,_⟩:=I'.loc;exact⟨m,hn,λh' hs'=>⟨.ref s.heap.objs.size,H',I3.let_go hC hs',rfl,q'⟩⟩)
 exact C4 loop (T.self _ 0 _ _ _ st1 loop)
end
theorem bOC{osc:Scope}{N:List Str}{sc:Scope}{N':List Str}{sel:List (Option Nat)}(a:sc.kind = .function := by rfl)(b:(sc.names.map (·.1)).Nodup := by decide +kernel)(c:∀y ∈ sc.names, y.2 = .local -> sc.names.lookup y.1=some .local := by decide +kernel)
  (d:∀y∈sc.names,y.2=.free->osc.names.lookup y.1=some .cell∨osc.names.lookup y.1=some .free:=by decide +kernel) (e:sel.length=N'.length:=by rfl) (f:∀p∈sel.zip N',∀i∈p.1,N[i]?=some p.2/\sc.names.lookup p.2=some .free:=by decide +kernel):BlkC osc N sc N' sel:=⟨a,b,c,d,e,f⟩
noncomputable def zlw(s:Stmt):Scope:=match za0 s with
 |[.Return (some (.ListComp _ _ sc _)) _]=>sc
 |_=>zad s
noncomputable def relS(sc osc:Scope):Scope:={ sc with names:=sc.names.map λ(n,k)=>if (k == .free && osc.kind == .function && osc.names.lookup n == some .cell) then (n,.cell) else (n,k) }
end L2
namespace RP
noncomputable def tnz(a b:Int):Int:=(b-a+3) % 8-3
noncomputable def slI(s:Nat):Int:=((s % 2:Nat):Int)
noncomputable def stps(C:Cell->Bool)(l:List Edge):List Nat:=(l.map (stepB C)).filterMap id
noncomputable def trs:Nat->List Nat->Int
 |_,[]=>0
 |s,t::l=>tnz s t+trs t l
noncomputable def endL(C:Cell->Bool):Nat->List Edge->Nat
 |n,[]=>n
 |n,e::l=>match stepB C e with
  |none=>endL C (n+1) l
  |some _=>endL C 0 l
noncomputable def endS(C:Cell->Bool):Nat->List Edge->Nat
 |s,[]=>s
 |s,e::l=>match stepB C e with
  |none=>endS C s l
  |some t=>endS C t l
noncomputable def Lk(C:Cell->Bool):Edge->List Edge->Prop
 |_,[]=>True
 |e,f::l=>f=e/\Lk C (nxt C e) l
theorem lk_of{C:Cell->Bool}:∀{l:List Edge}{b:Edge},(∀e,l[0]?=some e->e=b)->(∀i e f,l[i]?=some e->l[i+1]?=some f->f=nxt C e)->Lk C b l
 |[],_,_,_=>trivial
 |e::l,b,h0,h=>by
  have e0:=h0 e rfl;refine⟨e0,lk_of (λf hf=>?_) λi x y hx hy=>h (i+1) x y hx hy⟩;have:=h 0 e f rfl (by simpa using hf);rw[this,e0]
structure Sn (C:Cell->Bool) (s n:Nat) (e:Edge):Prop where
 s8:s<8
 n3:n<=3
 ev:s % 2=0->n<=2
 w:e.w=(wayB s+n) % 4
 bk:C (go e.c ((s+4) % 8))=true
 ie:IsE C e
theorem tab_a:∀s<8,s % 2=0->2*((wayB s+2) % 4)=(s+4) % 8:=by decide
theorem tab_b:∀s<8,s % 2=1->(2*((wayB s+3) % 4)+7) % 8=(s+4) % 8:=by decide
theorem tab_c:∀s:Nat,s<8->∀n:Nat,n<4->(s % 2=0->n<=2)->tnz (s:Int) (((2*((wayB s+n) % 4)+7) % 8:Nat):Int)=2*n-1-slI s:=by decide
theorem tab_d:∀s:Nat,s<8->∀n:Nat,n<3->tnz (s:Int) ((2*((wayB s+n) % 4):Nat):Int)=2*n-slI s:=by decide
theorem tab_e:∀w<4,wayB ((2*w+7) % 8)=(w+3) % 4/\wayB (2*w)=w:=by decide
theorem tab_f:∀w<4,mvNil ((2*w+7) % 8) (((2*w+7) % 8+4) % 8)=true/\mvNil (2*w) ((2*w+4) % 8)=true:=by decide
theorem Sn.left{C:Cell->Bool}{s n:Nat}{e:Edge}(h:Sn C s n e)(hs:stepB C e=none):Sn C s (n+1) (nxt C e):=by
 have hn:=zgj h.ie hs;rcases zaw h.ie with⟨_,q,_⟩ |⟨_,_,q,_⟩ |⟨q1,q2,_,_⟩
 .rw[hs]at q;cases q
 .rw[hs]at q;cases q
 have hev:s % 2=0->n+1<=2:=λz=>by
  have:=h.ev z;rcases AC n 2 with y |y
  .lia
  .have:n=2:=by lia
   subst this;rw[h.w,tab_a s h.s8 z,h.bk]at q2
   cases q2
 have h3:n+1<=3:=by
  rcases AC n 3 with y |y
  .lia
  .have hn3:n=3:=by have:=h.n3;lia
   subst hn3
   have hodd:s % 2=1:=by
    rcases Dp s with z |z
    .have:=h.ev z;lia
    .exact z
   rw[h.w,tab_b s h.s8 hodd,h.bk]at q1
   cases q1
 refine⟨h.s8,h3,hev,?_,?_,zcc h.ie⟩
 .rw[hn];have:=h.w;show (e.w+1) % 4=_;lia
 .rw[hn];exact h.bk
theorem Sn.step{C:Cell->Bool}{s n t:Nat}{e:Edge}(h:Sn C s n e)(hs:stepB C e=some t):tnz s t=2*n-slI t-slI s/\Sn C t 0 (nxt C e)/\t<8:=by
 have hw:e.w<4:=h.ie.1;have h8:=(zd5 h.ie hs).2.2;rcases zaw h.ie with⟨q1,q,q2⟩ |⟨q0,q1,q,q2⟩ |⟨_,_,q,_⟩
 .rw[hs]at q
  cases q
  have e1:slI ((2*e.w+7) % 8)=1:=by unfold slI;lia
  refine⟨?_,⟨h8,by decide,λz=>by lia,?_,?_,zcc h.ie⟩,h8⟩
  .rw[e1,h.w];have:=tab_c s h.s8 n (by have:=h.n3;lia) h.ev;lia
  .rw[q2,(tab_e _ hw).1];show (e.w+3) % 4=_;lia
  .rw[q2,zbT (tab_f _ hw).1];exact h.ie.2.1
 .rw[hs]at q
  cases q
  have e1:slI (2*e.w)=0:=by unfold slI;lia
  have hn2:n<3:=by
   rcases AC n 3 with y |y
   .exact y
   .have hn3:n=3:=by have:=h.n3;lia
    subst hn3
    have hodd:s % 2=1:=by
     rcases Dp s with z |z
     .have:=h.ev z;lia
     .exact z
    rw[h.w,tab_b s h.s8 hodd,h.bk]at q0
    cases q0
  refine⟨?_,⟨h8,by decide,λz=>by lia,?_,?_,zcc h.ie⟩,h8⟩
  .rw[e1,h.w];have:=tab_d s h.s8 n hn2;lia
  .rw[q2,(tab_e _ hw).2];show e.w=_;lia
  .rw[q2,show (2*e.w+4) % 8=(2*e.w+4) % 8 from rfl,zbT (tab_f _ hw).2];exact h.ie.2.1
 .rw[hs]at q;cases q
theorem zfL{C:Cell->Bool}:∀{l:List Edge}{e:Edge}{s n:Nat},Lk C e l->Sn C s n e->trs s (stps C l)+2*(endL C n l:Int)-slI (endS C s l)=2*(n:Int)-slI s+2*(l.map (tt C)).sum
 |[],e,s,n,_,_=>by simp[stps,trs,endL,endS]
 |f::l,e,s,n,⟨hf,hl⟩,h=>by
  subst hf
  cases hs:stepB C f with
  |none =>
   have ih:=zfL hl (h.left hs);have e1:stps C (f::l)=stps C l:=by unfold stps;rw[AL,hs];rfl
   have e2:tt C f=1:=by unfold tt;rw[hs]
   rw[e1,AL,Bw,e2];simp only[endL,endS,hs];lia
  |some t =>
   obtain⟨h1,h2,h8⟩:=h.step hs;have ih:=zfL hl h2;have e1:stps C (f::l)=t::stps C l:=by unfold stps;rw[AL,hs];rfl
   have e2:tt C f=- slI t:=by unfold tt slI;rw[hs];show (if t % 2=1 then (-1:Int) else 0)=_;split <;> lia
   rw[e1,AL,Bw,e2];simp only[endL,endS,hs,trs];lia
theorem zgr{C:Cell->Bool}{f:Edge}{t:Nat}(hf:stepB C f=some t):∀(l:List Edge) (s n:Nat),endL C n (l++[f])=0/\endS C s (l++[f])=t
 |[],s,n=>by simp[endL,endS,hf]
 |e::l,s,n=>by
  simp only[CV,endL,endS]
  cases stepB C e with
  |none=>exact zgr hf l s (n+1)
  |some u=>exact zgr hf l u 0
theorem Closed.turn8{C:Cell->Bool}{b f:Edge}{l:List Edge}{t:Nat}(h:Closed C b (l++[f]))(hf:stepB C f=some t):trs t (stps C (l++[f]))=8∨trs t (stps C (l++[f]))=-8:=by
 obtain⟨hc,x,hx,hb⟩:=h
 have hxf:x=f:=by
  have:(l++[f])[(l++[f]).length-1]?=some f:=by simp
  rw[this]at hx;exact (AI hx).symm
 subst hxf;have hfE:=hc.2.2.1 x (Aw _ (List.mem_singleton.mpr rfl));have lk:Lk C b (l++[x]):=lk_of (λe he=>by have:=hc.1;rw[he]at this;exact AI this) hc.2.1
 have sn:Sn C t 0 b:=by
  rw[<- hb];have hw:x.w<4:=hfE.1;have h8:=(zd5 hfE hf).2.2;rcases zaw hfE with⟨q1,q,q2⟩ |⟨q0,q1,q,q2⟩ |⟨_,_,q,_⟩
  .rw[hf]at q
   cases q
   refine⟨h8,by decide,λz=>by lia,?_,?_,zcc hfE⟩
   .rw[q2,(tab_e _ hw).1];show (x.w+3) % 4=_;lia
   .rw[q2,zbT (tab_f _ hw).1];exact hfE.2.1
  .rw[hf]at q
   cases q
   refine⟨h8,by decide,λz=>by lia,?_,?_,zcc hfE⟩
   .rw[q2,(tab_e _ hw).2];show x.w=_;lia
   .rw[q2,zbT (tab_f _ hw).2];exact hfE.2.1
  .rw[hf]at q;cases q
 have acc:=zfL lk sn;obtain⟨e1,e2⟩:=zgr hf l t 0;rw[e1,e2]at acc;have h4:=Closed.turning (C:=C) (b:=b) (es:=l++[x]) ⟨hc,x,hx,hb⟩;rcases h4 with z |z <;> rw[z]at acc <;> lia
noncomputable def tabl(n:Nat)(g:Nat->Int):List Int:=(AJ n).map g
noncomputable def cyc(ns:List Int)(i:Nat):Int:=ns.getD (i % ns.length) 0
theorem zaG(n:Nat)(g:Nat->Int):(tabl n g).length=n:=by unfold tabl;simp
theorem zbF{n:Nat}{g:Nat->Int}{i:Nat}(h:i<n):(tabl n g)[i]?=some (g i):=by unfold tabl;simp[h]
theorem zfR{n:Nat}{g g':Nat->Int}:tabl n g=tabl n g' ↔ ∀i,i<n->g i=g' i:=by
 constructor
 .intro h i hi;have h1:=zbF (g:=g) hi;rw[h,zbF hi]at h1;exact (AI h1).symm
 .intro h;unfold tabl;exact BA λi hi=>h i (Bq.mp hi)
theorem zd4(ns:List Int):tabl ns.length (cyc ns)=ns:=by
 refine Cb λi=>?_
 rcases AC i ns.length with h |h
 .rw[zbF h];unfold cyc;rw[CW h,Ar,Aa h];rfl
 .rw[AZ (by rw[zaG];exact h),AZ h]
theorem zdM(ns:List Int)(i:Nat):cyc ns (i+ns.length)=cyc ns i:=by unfold cyc;rw[Nat.add_mod_right]
theorem zij{n m:Nat}{g:Nat->Int}(hg:∀i,g (i+n)=g i)(hm:m<=n):(tabl n g).drop m++(tabl n g).take m=tabl n λi=>g (i+m):=by
 refine Cb λi=>?_
 rcases AC i n with h |h
 .rw[zbF h];rcases AC i (n-m) with q |q
  .rw[Ao (by rw[A0,zaG];exact q),Cy,zbF (by lia),Nat.add_comm]
  .rw[AB (by rw[A0,zaG];exact q),A0,zaG,Cz,if_pos (by lia),zbF (by lia)];rw[show i+m=(i-(n-m))+n by lia,hg]
 .rw[AZ (by rw[Ap,A0,Av,zaG];lia),AZ (by rw[zaG];exact h)]
noncomputable def SameL(a b:List Int):Prop:=a.length=b.length/\(a=b∨∃m,m<a.length/\a.drop m++a.take m=b)
theorem zeu{n:Nat}{g g':Nat->Int}(hn:0<n)(hg:∀i,g (i+n)=g i):SameL (tabl n g) (tabl n g') ↔ ∃m,m<n/\∀i,i<n->g (i+m)=g' i:=by
 unfold SameL;rw[zaG,zaG];constructor
 .rintro⟨_,h |⟨m,hm,h⟩⟩
  .exact⟨0,hn,zfR.mp h⟩
  .rw[zij hg (by lia)]at h;exact⟨m,hm,zfR.mp h⟩
 .rintro⟨m,hm,h⟩;exact⟨rfl,.inr ⟨m,hm,by rw[zij hg (by lia)];exact zfR.mpr h⟩⟩
noncomputable def fur(b:Int)(ns:List Int):List Int:=ns.map λx=>(x+b) % 8
theorem ziT(b:Int)(n:Nat)(g:Nat->Int):fur b (tabl n g)=tabl n λi=>(g i+b) % 8:=by unfold fur tabl;rw[Bp];rfl
noncomputable def fT(ns:List Int)(i:Nat):Int:=tnz (cyc ns i) (cyc ns (i+1))
noncomputable def cyT(ns:List Int):List Int:=tabl ns.length (fT ns)
theorem zeP(ns:List Int)(i:Nat):fT ns (i+ns.length)=fT ns i:=by unfold fT;rw[zdM,show i+ns.length+1=(i+1)+ns.length by lia,zdM]
noncomputable def Stp(ns:List Int):Prop:=∀x∈ns,0<=x/\x<8
theorem Stp.cyc{ns:List Int}(h:Stp ns)(hn:0<ns.length)(i:Nat):0<=RP.cyc ns i/\RP.cyc ns i<8:=by unfold RP.cyc;have:=AU i hn;rw[Ar,Aa this];exact h _ (AW this)
theorem zhJ{ns ms:List Int}(h1:Stp ns)(h2:Stp ms):SameL (cyT ns) (cyT ms) ↔ ∃b:Nat,b<8/\SameL (fur b ns) ms:=by
 have flen:∀b:Nat,(fur b ns).length=ns.length:=λb=>by unfold fur;rw[Af]
 by_cases hl:ns.length=ms.length
 .rcases Bu ns.length with h0 |h0
  .have e1:ns=[]:=CZ h0;have e2:ms=[]:=CZ (by lia);subst e1 e2;exact⟨λ_=>⟨0,by decide,rfl,.inl rfl⟩,λ_=>⟨rfl,.inl rfl⟩⟩
  .have e1:cyT ms=tabl ns.length (fT ms):=by unfold cyT;rw[hl]
   have e2:ms=tabl ns.length (cyc ms):=by rw[hl,zd4]
   have e3:∀b:Nat,fur b ns=tabl ns.length λi=>(cyc ns i+b) % 8:=λb=>by rw[<- ziT,zd4]
   rw[e1,show cyT ns=tabl ns.length (fT ns) from rfl,zeu h0 (zeP ns)];have h3:=h1.cyc h0;have h4:=h2.cyc (show 0<ms.length by lia)
   have key:∀b:Nat,SameL (fur b ns) ms ↔ ∃m,m<ns.length/\∀i,i<ns.length->(cyc ns (i+m)+b) % 8=cyc ms i:=λb=>by rw[e3 b];have:=zeu (g:=λi=>(cyc ns i+b) % 8) (g':=cyc ms) h0 (λi=>by show (cyc ns (i+ns.length)+b) % 8=_;rw[zdM]);rw[<- e2]at this;exact this
   constructor
   .rintro⟨m,hm,h⟩;refine⟨((cyc ms 0-cyc ns (0+m)) % 8).toNat,by lia,(key _).mpr ⟨m,hm,λi hi=>?_⟩⟩;rw[show ((((cyc ms 0-cyc ns (0+m)) % 8).toNat:Nat):Int)=(cyc ms 0-cyc ns (0+m)) % 8 by lia]
    induction i with
    |zero=>have:=h4 0;have:=h3 (0+m);lia
    |succ i ih =>
     have ih:=ih (by lia);have hi':=h i (by lia);unfold fT tnz at hi';have a1:=h4 i;have a2:=h4 (i+1);have a3:=h3 (i+m);have a4:=h3 (i+1+m);rw[show i+m+1=i+1+m by lia]at hi';lia
   .rintro⟨b,_,hb⟩;obtain⟨m,hm,h⟩:=(key b).mp hb;refine⟨m,hm,λi hi=>?_⟩
    have hall:∀i,(cyc ns (i+m)+b) % 8=cyc ms i:=λi=>by
     have hp:∀q,cyc ns (i % ns.length+m+ns.length*q)=cyc ns (i % ns.length+m):=λq=>by
      induction q with
      |zero=>rfl
      |succ q ih=>rw[Nat.mul_succ,<- Nat.add_assoc,zdM,ih]
     have e5:i+m=i % ns.length+m+ns.length*(i / ns.length):=by have:=Nat.mod_add_div i ns.length;lia
     rw[e5,hp,h _ (AU _ h0)];unfold cyc;rw[hl,Nat.mod_mod]
    unfold fT;rw[<- hall i,<- hall (i+1),show i+m+1=i+1+m by lia];unfold tnz;lia
 .constructor
  .rintro⟨h,_⟩;exact absurd (by unfold cyT at h;rw[zaG,zaG]at h;exact h) hl
  .rintro⟨b,_,h,_⟩;rw[flen b]at h;exact absurd h hl
noncomputable def Per(f:Nat->Int)(m:Nat):Prop:=∀i,f (i+m)=f i
noncomputable def sm(f:Nat->Int):Nat->Int
 | 0=>0
 |n+1=>sm f n+f n
theorem zj2(f:Nat->Int):∀n,(tabl n f).sum=sm f n
 | 0=>rfl
 |n+1=>by
  unfold tabl;rw[Dd,Ax,Dc];have:=zj2 f n;unfold tabl at this;rw[this];simp[sm]
theorem Per.sm{f:Nat->Int}{m:Nat}(h:Per f m):∀i,RP.sm f (i+m)=RP.sm f i+RP.sm f m
 | 0=>by simp[RP.sm]
 |i+1=>by
  have:=h.sm i;rw[show i+1+m=(i+m)+1 by lia];show RP.sm f (i+m)+f (i+m)=RP.sm f i+f i+RP.sm f m;rw[this,h i];lia
theorem Per.mul{f:Nat->Int}{m:Nat}(h:Per f m):∀j,Per f (j*m)/\RP.sm f (j*m)=j*RP.sm f m
 | 0=>by
  refine⟨λi=>?_,?_⟩
  .rw[Nat.zero_mul,Nat.add_zero]
  .rw[Nat.zero_mul];simp[RP.sm]
 |j+1=>by
  obtain⟨h1,h2⟩:=h.mul j;refine⟨λi=>?_,?_⟩
  .rw[Nat.succ_mul,<- Nat.add_assoc,h,h1]
  .rw[Nat.succ_mul,h.sm,h2];have:((j+1:Nat):Int)=(j:Int)+1:=by lia
   rw[this,Int.add_mul,Int.one_mul]
theorem Per.sub{f:Nat->Int}{a b:Nat}(ha:Per f a)(hb:Per f b)(h:b<=a):Per f (a-b):=λi=>by have h1:=ha i;rw[show i+a=(i+(a-b))+b by lia,hb]at h1;exact h1
theorem zg9{f:Nat->Int}:∀N,(∃m,0<m/\m<=N/\Per f m)->∃p,0<p/\Per f p/\∀m,0<m->m<p->¬ Per f m
 | 0,⟨m,h1,h2,_⟩=>by lia
 |N+1,⟨m,h1,h2,h3⟩=>by
  by_cases h:∃m,0<m/\m<=N/\Per f m
  .exact zg9 N h
  .have hm:m=N + 1 := by
    rcases AC m (N+1) with q |q
    .exact absurd ⟨m,h1,by lia,h3⟩ h
    .lia
   subst hm;exact⟨N+1,h1,h3,λq q1 q2 q3=>h ⟨q,q1,by lia,q3⟩⟩
theorem zhQ{f:Nat->Int}{p:Nat}(hp:0<p)(h:Per f p)(hl:∀m,0<m->m<p->¬ Per f m):∀m,Per f m->m % p=0:=by
 intro m
 induction m using Nat.strongRecOn with
 |_ m ih =>
  intro hm;rcases AC m p with q |q
  .rcases Bu m with z |z
   .rw[z,Nat.zero_mod]
   .exact absurd hm (hl m z q)
  .have:=ih (m-p) (by lia) (hm.sub h q);rw[Nat.mod_eq_sub_mod q];exact this
noncomputable def RepL(T:List Int)(p:Nat):Prop:=(Aj (T.length / p) (T.take p)).flatten=T
theorem zkb{l:List Int}:∀{k i:Nat},i<k*l.length->(Aj k l).flatten[i]?=l[i % l.length]?
 | 0,i,h=>by rw[Nat.zero_mul]at h;cases h
 |k+1,i,h=>by
  rw[BW,Bk];rcases AC i l.length with q |q
  .rw[Ao q,CW q]
  .rw[AB q,zkb (by rw[Nat.succ_mul]at h;lia),<- Nat.mod_eq_sub_mod q]
theorem zhO{n p:Nat}{f:Nat->Int}(hn:∀i,f (i+n)=f i)(h0:0<n)(hp:0<p)(hd:n % p=0):RepL (tabl n f) p ↔ Per f p:=by
 have hpn:p<=n:=Nat.le_of_dvd h0 (BV hd);have hk:n / p*p=n:=Nat.div_mul_cancel (BV hd);have tl:((tabl n f).take p).length=p:=by rw[Av,zaG];lia
 have modn:∀i,f i=f (i % n):=λi=>by
  have hp:∀q,f (i % n+n*q)=f (i % n):=λq=>by
   induction q with
   |zero=>rfl
   |succ q ih=>rw[Nat.mul_succ,<- Nat.add_assoc,hn,ih]
  have:=hp (i / n);rw[Nat.mod_add_div]at this;exact this
 unfold RepL;rw[zaG]
 have get:∀i,i<n->(Aj (n / p) ((tabl n f).take p)).flatten[i]?=some (f (i % p)):=λi hi=>by rw[zkb (by rw[tl,hk];exact hi),tl,Cz,if_pos (AU _ hp),zbF (AM (AU _ hp) hpn)]
 constructor
 .intro h
  have base:∀i,i<n->f i=f (i % p):=λi hi=>by have h1:=get i hi;rw[h,zbF hi]at h1;exact AI h1
  intro i;have hdv:p ∣ n:=BV hd;rw[modn (i+p),modn i,base _ (AU _ h0),base (i % n) (AU _ h0),Nat.mod_mod_of_dvd _ hdv,Nat.mod_mod_of_dvd _ hdv,Nat.add_mod_right]
 .intro h
  have base:∀i,f i=f (i % p):=λi=>by
   have hp:∀q,f (i % p+p*q)=f (i % p):=λq=>by
    induction q with
    |zero=>rfl
    |succ q ih=>rw[Nat.mul_succ,<- Nat.add_assoc,h,ih]
   have:=hp (i / p);rw[Nat.mod_add_div]at this;exact this
  refine Cb λi=>?_
  rcases AC i n with q |q
  .rw[get i q,zbF q,base i]
  .have e1:(Aj (n / p) ((tabl n f).take p)).flatten.length <= i := by rw[List.length_flatten,List.map_replicate,List.sum_replicate_nat,tl,hk];exact q
   rw[AZ e1,AZ (by rw[zaG];exact q)]
noncomputable def Tms(T:List Int)(k:Nat):Prop:=∃p,0<p/\T.length=k*p/\RepL T p/\∀q,0<q->q<p->T.length % q=0->¬ RepL T q
theorem zjc{ns:List Int}{k:Nat}(h:Stp ns)(h0 : 0 < ns.length)(hs:(cyT ns).sum=8 ∨ (cyT ns).sum = -8)(hk:Tms (cyT ns) k)(q:Nat) :
  SameL (fur ((2*q:Nat):Int) ns) ns ↔ ∃j,j<k/\((j:Int)*(sm (fT ns) (ns.length / k))+2*q) % 8=0:=by
 obtain⟨p,hp,hlen,hrep,hleast⟩:=hk;have hcl:(cyT ns).length=ns.length:=zaG _ _;rw[hcl]at hlen hleast
 have hk0:0<k:=by
  rcases Bu k with z |z
  .rw[z,Nat.zero_mul]at hlen;lia
  .exact z
 have hdp:ns.length % p=0:=by rw[hlen];exact Nat.mul_mod_left _ _
 have hnk:ns.length / k=p:=by rw[hlen,Nat.mul_div_cancel_left _ hk0]
 have hperp:Per (fT ns) p:=(zhO (zeP ns) h0 hp hdp).mp hrep;obtain⟨p0,hp0,hper0,hl0⟩:=zg9 ns.length ⟨ns.length,h0,Ai _,zeP ns⟩
 have hpp:p=p0:=by
  have d1:=zhQ hp0 hper0 hl0 p hperp;have d2:=zhQ hp0 hper0 hl0 ns.length (zeP ns);rcases AC p0 p with z |z
  .exact absurd ((zhO (zeP ns) h0 hp0 d2).mpr hper0) (hleast p0 hp0 z d2)
  .have:p0<=p:=Nat.le_of_dvd hp (BV d1);lia
 subst hpp;have hc:=h.cyc h0
 have step:∀i m,(cyc ns (i+m)-cyc ns i-(sm (fT ns) (i+m)-sm (fT ns) i)) % 8=0:=λi m=>by
  induction m with
  |zero=>simp
  |succ m ih =>
   have a1:=hc (i+m);have a2:=hc (i+(m+1));have e1:sm (fT ns) (i+(m+1))=sm (fT ns) (i+m)+fT ns (i+m):=rfl;have e2:fT ns (i+m)=(cyc ns (i+(m+1))-cyc ns (i+m)+3) % 8-3:=rfl;rw[e1,e2];lia
 have e3:fur ((2*q:Nat):Int) ns=tabl ns.length λi=>(cyc ns i+((2*q:Nat):Int)) % 8:=by rw[<- ziT,zd4]
 have e4:SameL (fur ((2*q:Nat):Int) ns) ns ↔ ∃m,m<ns.length/\∀i,i<ns.length->(cyc ns (i+m)+((2*q:Nat):Int)) % 8=cyc ns i:=by have:=zeu (g:=λi=>(cyc ns i+((2*q:Nat):Int)) % 8) (g':=cyc ns) h0 (λi=>by show (cyc ns (i+ns.length)+_) % 8=_;rw[zdM]);rw[zd4,<- e3]at this;exact this
 rw[e4,hnk];have modn:∀i,cyc ns i=cyc ns (i % ns.length):=λi=>by unfold cyc;rw[Nat.mod_mod]
 constructor
 .rintro⟨m,hm,hh⟩
  have hall:∀i,(cyc ns (i+m)+((2*q:Nat):Int)) % 8=cyc ns i:=λi=>by have:=hh (i % ns.length) (AU _ h0);rw[modn (i+m),modn i];rw[modn (i % ns.length+m),Nat.mod_add_mod]at this;exact this
  have hper:Per (fT ns) m:=λi=>by unfold fT tnz;have b1:=hall i;have b2:=hall (i+1);rw[show i+1+m=i+m+1 by lia]at b2;lia
  have hmp:=zhQ hp hperp hl0 m hper;refine⟨m / p,?_,?_⟩
  .rw[Nat.div_lt_iff_lt_mul hp,<- hlen];exact hm
  .have e5:=(hperp.mul (m / p)).2;rw[Nat.div_mul_cancel (BV hmp)]at e5;rw[<- e5];have b1:=hall 0;have b2:=step 0 m;have b3:=hc 0;have b4:sm (fT ns) 0=0:=rfl;rw[Ck,b4]at b2;rw[Ck]at b1;lia
 .rintro⟨j,hj,hjq⟩;obtain⟨hper,hsm⟩:=hperp.mul j;refine⟨j*p,?_,λi hi=>?_⟩
  .rw[hlen];exact Nat.mul_lt_mul_of_pos_right hj hp
  .have b1:=step i (j*p);rw[hper.sm,hsm]at b1;have b2:=hc i;have b3:=hc (i+j*p);lia
theorem zmT:∀k:Fin 9,∀S:Fin 17,((k:Int)*((S:Int)-8)=8∨(k:Int)*((S:Int)-8)=-8)->((AJ 4).filter λq:Nat=>(AJ k).any λj=>decide (((j:Int)*((S:Int)-8)+2*q) % 8=0)).length=min 4 (k:Nat):=by decide
theorem zkn{ns:List Int}{k:Nat}(h:Stp ns)(h0 : 0 < ns.length)(hs:(cyT ns).sum=8 ∨ (cyT ns).sum = -8)(hk:Tms (cyT ns) k)(P:Nat -> Bool)(hP:∀q, q < 4 -> (P q=true ↔ SameL (fur ((2 * q:Nat):Int) ns) ns)) :
  ((AJ 4).filter P).length=min 4 k:=by
 have hk':=hk;obtain⟨p,hp,hlen,hrep,_⟩:=hk';have hcl:(cyT ns).length=ns.length:=zaG _ _;rw[hcl]at hlen
 have hk0:0<k:=by
  rcases Bu k with z |z
  .rw[z,Nat.zero_mul]at hlen;lia
  .exact z
 have hdp:ns.length % p=0:=by rw[hlen];exact Nat.mul_mod_left _ _
 have hnk:ns.length / k=p:=by rw[hlen,Nat.mul_div_cancel_left _ hk0]
 have hperp:Per (fT ns) p:=(zhO (zeP ns) h0 hp hdp).mp hrep
 have hsum:(k:Int)*sm (fT ns) p=8∨(k:Int)*sm (fT ns) p=-8:=by have e1:=(hperp.mul k).2;rw[<- hlen]at e1;rw[<- e1,<- zj2];exact hs
 have hS:sm (fT ns) p≠0:=λz=>by rw[z,Int.mul_zero]at hsum;lia
 have hk8:k ∣ 8/\(sm (fT ns) p).natAbs ∣ 8:=by
  have e1:k*(sm (fT ns) p).natAbs=8:=by
   have:((k:Int)*sm (fT ns) p).natAbs=8:=by rcases hsum with z |z <;> rw[z] <;> rfl
   rw[Int.natAbs_mul]at this;exact this
  exact⟨⟨_,e1.symm⟩,⟨k,by rw[Nat.mul_comm];exact e1.symm⟩⟩
 have l1:=Nat.le_of_dvd (by decide) hk8.1;have l2:=Nat.le_of_dvd (by decide) hk8.2;have key:=zmT ⟨k,by lia⟩ ⟨(sm (fT ns) p+8).toNat,by lia⟩;have eS:(((sm (fT ns) p+8).toNat:Nat):Int)-8=sm (fT ns) p:=by lia
 simp only[eS]at key;rw[<- key hsum]
 congr 1
 refine List.filter_congr λq hq=>?_
 have hq4:=Bq.mp hq;rw[BN,hP q hq4,zjc h h0 hs hk q,hnk,List.any_eq_true];exact⟨λ⟨j,hj,e⟩=>⟨j,Bq.mpr hj,decide_eq_true e⟩,λ⟨j,hj,e⟩=>⟨j,Bq.mp hj,of_decide_eq_true e⟩⟩
theorem zfV(f:Nat->Int)(a:Nat):∀m,sm (λi=>f (i+a)) m=sm f (m+a)-sm f a
 | 0=>by rw[Ck];simp[sm]
 |m+1=>by
  show sm (λi=>f (i+a)) m+f (m+a)=_;rw[zfV f a m,show m+1+a=(m+a)+1 by lia];show _=sm f (m+a)+f (m+a)-sm f a;lia
theorem zmB(f:Nat->Int)(m:Nat):sm f (m+1)=f 0+sm (λi=>f (i+1)) m:=by rw[zfV f 1 m];show _=f 0+(sm f (m+1)-(0+f 0));lia
theorem ziv{f g:Nat->Int}:∀m,(∀i,i<m->f i=g i)->sm f m=sm g m
 | 0,_=>rfl
 |m+1,h=>by
  show sm f m+f m=sm g m+g m;rw[ziv m λi hi=>h i (by lia),h m (by lia)]
theorem zl4:∀(l:List Nat) (t:Nat),trs t l=sm (λi=>tnz (((t::l).getD i 0:Nat):Int) (((t::l).getD (i+1) 0:Nat):Int)) l.length
 |[],t=>rfl
 |x::l,t=>by
  rw[A5,zmB];show tnz t x+trs x l=_;rw[zl4 l x];rfl
theorem zmw{row:List Nat}{s:Nat}(h:row.getLast?=some s):trs s row=(cyT (row.map λk:Nat=>(k:Int))).sum:=by
 have hl:(row.map λk:Nat=>(k:Int)).length=row.length:=Af _
 have h0:0<row.length:=by
  cases row with
  |nil=>cases h
  |cons _ _=>simp
 have get:∀j,j<row.length->cyc (row.map λk:Nat=>(k:Int)) j=((row.getD j 0:Nat):Int):=λj hj=>by unfold cyc;rw[hl,CW hj,Ar,Ak,Ar,Aa hj];rfl
 have hs:row.getD (row.length-1) 0=s:=by rw[List.getLast?_eq_getElem?]at h;rw[Ar,h];rfl
 have per:=zeP (row.map λk:Nat=>(k:Int));have cper:=zdM (row.map λk:Nat=>(k:Int));rw[hl]at per cper
 have e1:(cyT (row.map λk:Nat=>(k:Int))).sum=sm (fT (row.map λk:Nat=>(k:Int))) row.length:=by unfold cyT;rw[hl,zj2]
 have e2:sm (λi=>fT (row.map λk:Nat=>(k:Int)) (i+(row.length-1))) row.length=sm (fT (row.map λk:Nat=>(k:Int))) row.length:=by rw[zfV,Nat.add_comm row.length,Per.sm per];lia
 rw[e1,<- e2,zl4];refine ziv _ λi hi=>?_
 unfold fT
 have a2:cyc (row.map λk:Nat=>(k:Int)) (i+(row.length-1)+1)=((row.getD i 0:Nat):Int):=by rw[show i+(row.length-1)+1=i+row.length by lia,cper,get i hi]
 have a1:cyc (row.map λk:Nat=>(k:Int)) (i+(row.length-1))=(((s::row).getD i 0:Nat):Int):=by
  cases i with
  |zero=>rw[Ck,get _ (by lia),hs];rfl
  |succ j=>rw[show j+1+(row.length-1)=j+row.length by lia,cper,get j (by lia)];rfl
 rw[a1,a2];rfl
end RP
namespace L2
open PySem
theorem sC{N P:List Str}{sc:Scope}(a:sc.kind = .function := by rfl)(b:sc.isCoroutine=false := by rfl)(c:sc.isGenerator=false := by rfl)(d:N.Nodup := by decide +kernel)(e:N.take P.length=P := by rfl)
  (f:∀x∈P,sc.names.lookup x=some .local∨sc.names.lookup x=some .cell:=by decide +kernel) (g:∀y∈sc.names,y.2≠.free:=by decide +kernel):FnScope N P sc:=⟨a,b,c,d,e,f,g⟩
section
variable {X:Cx}{k j:Nat}{x:Str}{ps:List Str}{sp:Sp}{e:Expr}{es:List Expr}{t:TA}{te:TE}{p pos pos':Pos}
theorem pC (g:Fn X.prog X.w X.K X.mg X.base k x ps sp) (hr:Room j X.A) (ha:PA X (e :: es) t) (hj:k <= j := by decide) (hg:Gl X x := by rfl) (hdb:(x == ("__debug__" : Str))=false := by decide)
  (he:A4 (e::es) X.env=(false,eval e X.env)::A4 es X.env:=by rfl) (hpl:(backTo pos (A4 es X.env)).any (·.1)=false:=by rfl):PE X (.Call (.Name x p) (e::es) [] pos) (tCall sp [] E0 t) :=
 zmQ g.ok (hr.mono hj) hg g.m g.kp g.b .nil pass0 ha hdb he hpl
theorem nG(i:Nat)(hN:X.N.Nodup)(hi:X.N[i]?=some x:=by rfl)(hx:Loc X.env.scope x:=by exact Or.inl rfl)(hf:X.fn x=true∨X.env.scope.names.lookup x=some .local:=by first |exact .inl rfl |exact .inr rfl |assumption):PG X (.Name x pos) (gName i) :=
 zhP hN hi hx hf
theorem sE(i:Nat)(hN:X.N.Nodup)(he:PE X e te)(hi:X.N[i]? = some x := by rfl)(hx:Loc X.env.scope x := by exact Or.inl rfl)(hs:swapsWith e (some (.Name x pos')) pos.line X.env=pure false := by rfl)
  (hf:X.fn x=true∨X.env.scope.names.lookup x=some .local:=by first |exact .inl rfl |exact .inr rfl |assumption):PS X (.Assign [.Name x pos'] e pos) (tAsg te (gName i)) :=
 zmh hN hi hx he hs hf
end
theorem bO{osc:Scope}{N:List Str}{sc:Scope}{N':List Str}{sel:List (Option Nat)}(a:sc.kind = .function := by rfl)(b:∀y ∈ sc.names, y.2 ≠ .cell := by decide +kernel)(c:∀y ∈ sc.names, y.2 = .local -> sc.names.lookup y.1=some .local := by decide +kernel)
  (d:∀y∈sc.names,y.2=.free->osc.names.lookup y.1=some .cell∨osc.names.lookup y.1=some .free:=by decide +kernel) (e:sel.length=N'.length:=by rfl) (f:∀p∈sel.zip N',∀i∈p.1,N[i]?=some p.2/\sc.names.lookup p.2=some .free:=by decide +kernel):BlkOk osc N sc N' sel:=⟨a,b,c,d,e,f⟩
section
variable {K:W.Frag}{x qual:Str}{st:Stmt}{f:Addr}{fd:Br}
theorem Fun.b1{p0:Str}(F:Fun K x qual st f fd)(h:∀(kV doc pm:Ab) (an:Option Addr) (cdv ct a0:Ab),bindArgs (Dj x qual (za9 st) (za0 st) (zad st) .none kV doc pm an cdv ct) ⟨[a0],[]⟩=pure [(p0,a0)]:=by intros;rfl):Binds K fd [p0] [] :=
 F.binds λkV doc pm an cdv ct us hl=>match us,hl with |[a0],_=>h kV doc pm an cdv ct a0
theorem Fun.b2{p0 p1:Str}(F:Fun K x qual st f fd)(h:∀(kV doc pm:Ab) (an:Option Addr) (cdv ct a0 a1:Ab),bindArgs (Dj x qual (za9 st) (za0 st) (zad st) .none kV doc pm an cdv ct) ⟨[a0,a1],[]⟩=pure [(p0,a0),(p1,a1)]:=by intros;rfl):Binds K fd [p0,p1] [] :=
 F.binds λkV doc pm an cdv ct us hl=>match us,hl with |[a0,a1],_=>h kV doc pm an cdv ct a0 a1
theorem Fun.b3{p0 p1 p2:Str}(F:Fun K x qual st f fd)(h:∀(kV doc pm:Ab) (an:Option Addr) (cdv ct a0 a1 a2:Ab),bindArgs (Dj x qual (za9 st) (za0 st) (zad st) .none kV doc pm an cdv ct) ⟨[a0,a1,a2],[]⟩=pure [(p0,a0),(p1,a1),(p2,a2)]:=by intros;rfl):Binds K fd [p0,p1,p2] [] :=
 F.binds λkV doc pm an cdv ct us hl=>match us,hl with |[a0,a1,a2],_=>h kV doc pm an cdv ct a0 a1 a2
theorem Fun.b6{p0 p1 p2 p3 p4 p5:Str}(F:Fun K x qual st f fd)(h:∀(kV doc pm:Ab) (an:Option Addr) (cdv ct a0 a1 a2 a3 a4 a5:Ab),bindArgs (Dj x qual (za9 st) (za0 st) (zad st) .none kV doc pm an cdv ct) ⟨[a0,a1,a2,a3,a4,a5],[]⟩=pure [(p0,a0),(p1,a1),(p2,a2),(p3,a3),(p4,a4),(p5,a5)]:=by intros;rfl):Binds K fd [p0,p1,p2,p3,p4,p5] [] :=
 F.binds λkV doc pm an cdv ct us hl=>match us,hl with |[a0,a1,a2,a3,a4,a5],_=>h kV doc pm an cdv ct a0 a1 a2 a3 a4 a5
end
noncomputable def DA(K:W.Frag)(x:Str)(st:Stmt):Prop:=∃(f:Addr) (od an:Option Addr) (sl:Array (Option Ab)) (oc kV dc pm cd ct:Ab),CS K AG x=some (some (.ref f)) /\
 K.lookup f=some ⟨oc,od,.func (Dj x x (za9 st) (za0 st) (zad st) .none kV dc pm an cd ct),sl⟩/\W.codeIn K cd x=true/\W.keepIn K (.ref f)=true
section
variable {K:W.Frag}{mg:Str->Option Ab}{h:Heap}{x:Str}{st:Stmt}
theorem DA.mk{f:Addr}{od an:Option Addr}{sl:Array (Option Ab)}{oc kV dc pm cd ct:Ab}(a:CS K AG x=some (some (.ref f)))
  (l:K.lookup f=some ⟨oc,od,.func (Dj x x (za9 st) (za0 st) (zad st) .none kV dc pm an cd ct),sl⟩) (c:W.codeIn K cd x=true) (k:W.keepIn K (.ref f)=true):DA K x st :=
 ⟨f,od,an,sl,oc,kV,dc,pm,cd,ct,a,l,c,k⟩
theorem DA.d1{p0:Str}(D:DA K x st)(X:K.In h)(G:h.Ns AG mg)(hb:∀(kV doc pm:Ab) (an:Option Addr) (cdv ct a0:Ab),bindArgs (Dj x x (za9 st) (za0 st) (zad st) .none kV doc pm an cdv ct) ⟨[a0],[]⟩=pure [(p0,a0)]:=by intros;rfl):Nonempty (Df K mg x st [p0]):=by obtain⟨f,od,an,sl,oc,kV,dc,pm,cd,ct,a,l,c,k⟩:=D;exact⟨⟨f,_,zdv l c k,W.mg_of X G a,(zdv l c k).b1 hb⟩⟩
theorem DA.d2{p0 p1:Str}(D:DA K x st)(X:K.In h)(G:h.Ns AG mg)(hb:∀(kV doc pm:Ab) (an:Option Addr) (cdv ct a0 a1:Ab),bindArgs (Dj x x (za9 st) (za0 st) (zad st) .none kV doc pm an cdv ct) ⟨[a0,a1],[]⟩=pure [(p0,a0),(p1,a1)]:=by intros;rfl):Nonempty (Df K mg x st [p0,p1]):=by obtain⟨f,od,an,sl,oc,kV,dc,pm,cd,ct,a,l,c,k⟩:=D;exact⟨⟨f,_,zdv l c k,W.mg_of X G a,(zdv l c k).b2 hb⟩⟩
theorem DA.d3{p0 p1 p2:Str}(D:DA K x st)(X:K.In h)(G:h.Ns AG mg)(hb:∀(kV doc pm:Ab) (an:Option Addr) (cdv ct a0 a1 a2:Ab),bindArgs (Dj x x (za9 st) (za0 st) (zad st) .none kV doc pm an cdv ct) ⟨[a0,a1,a2],[]⟩=pure [(p0,a0),(p1,a1),(p2,a2)]:=by intros;rfl):Nonempty (Df K mg x st [p0,p1,p2]):=by obtain⟨f,od,an,sl,oc,kV,dc,pm,cd,ct,a,l,c,k⟩:=D;exact⟨⟨f,_,zdv l c k,W.mg_of X G a,(zdv l c k).b3 hb⟩⟩
theorem DA.d6{p0 p1 p2 p3 p4 p5:Str}(D:DA K x st)(X:K.In h)(G:h.Ns AG mg)(hb:∀(kV doc pm:Ab) (an:Option Addr) (cdv ct a0 a1 a2 a3 a4 a5:Ab),bindArgs (Dj x x (za9 st) (za0 st) (zad st) .none kV doc pm an cdv ct) ⟨[a0,a1,a2,a3,a4,a5],[]⟩=pure [(p0,a0),(p1,a1),(p2,a2),(p3,a3),(p4,a4),(p5,a5)]:=by intros;rfl):Nonempty (Df K mg x st [p0,p1,p2,p3,p4,p5]):=by obtain⟨f,od,an,sl,oc,kV,dc,pm,cd,ct,a,l,c,k⟩:=D;exact⟨⟨f,_,zdv l c k,W.mg_of X G a,(zdv l c k).b6 hb⟩⟩
end
open PySem PyProof.Rows
section
variable {X:Cx}{pos:Pos}
end
section
variable {X:Cx}
theorem znI:OpR X (Bs .Is) (λx y H Q=>∃a b,x=.bl a/\y=.bl b/\Q (.bl (a == b)) H):=by
 intro pins s σ H x y v u Q I rx ry h;obtain⟨a,b,rfl,rfl,q⟩:=h
 cases rx
 cases ry
 have e:Bs .Is (.bool a) (.bool b)=pure (.bool (a == b)):=by cases a <;> cases b <;> rfl
 rw[e];exact Am ⟨.bl _,H,I,rfl,q⟩
end
end L2
namespace RR
open PySem L2
noncomputable def top(i:Nat):Stmt:=PySem.Challenge.pw_rimsteps_k73_whole_turns_tell_turnings.main.body.getD i (.Pass ⟨0,0,0,0⟩)
noncomputable abbrev zb0:Stmt:=top 1
noncomputable abbrev zff:List Str:=["step","other"]
theorem zen:FnScope zff ["step","other"] (zad zb0):=sC
noncomputable abbrev zcS:Stmt:=top 2
noncomputable abbrev zfF:List Str:=["row"]
theorem zhD:FnScope zfF ["row"] (zad zcS):=sC
noncomputable abbrev zcG:Stmt:=top 9
noncomputable abbrev zht:List Str:=["cell"]
theorem zf1:FnScope zht ["cell"] (zad zcG):=sC
noncomputable abbrev zco:Stmt:=top 10
noncomputable abbrev zgE:List Str:=["picture","at"]
theorem zcY:FnScope zgE ["picture"] (zad zco):=sC
noncomputable abbrev zj7:Stmt:=top 11
noncomputable abbrev zn4:List Str:=["x","y","step","right","up"]
theorem zhG:FnScope zn4 ["x","y","step"] (zad zj7):=sC
noncomputable abbrev zbY:Stmt:=top 12
noncomputable abbrev zdW:List Str:=["picture"]
theorem zf0:FnScope zdW ["picture"] (zad zbY):=sC
noncomputable abbrev zcE:Stmt:=top 14
noncomputable abbrev zhr:List Str:=["edge","x","y","way"]
theorem zbG:FnScope zhr ["edge"] (zad zcE):=sC
noncomputable abbrev zbO:Stmt:=top 15
noncomputable abbrev zdd:List Str:=["picture","table","edges"]
theorem zcA:FnScope zdd ["picture"] (zad zbO):=sC
noncomputable abbrev zbM:Stmt:=top 16
noncomputable abbrev zeU:List Str:=["way"]
theorem zdY:FnScope zeU ["way"] (zad zbM):=sC
noncomputable abbrev zcD:Stmt:=top 17
noncomputable abbrev zhq:List Str:=["way"]
theorem zfZ:FnScope zhq ["way"] (zad zcD):=sC
noncomputable abbrev zcg:Stmt:=top 18
noncomputable abbrev zgx:List Str:=["table","edge","x","y","way","step"]
theorem zbb:FnScope zgx ["table","edge"] (zad zcg):=sC
noncomputable abbrev zdE:Stmt:=top 19
noncomputable abbrev zjC:List Str:=["step"]
theorem zhE:FnScope zjC ["step"] (zad zdE):=sC
noncomputable abbrev zcm:Stmt:=top 20
noncomputable abbrev zgC:List Str:=["edge","step","x","y","way","new_x","new_y"]
theorem zaW:FnScope zgC ["edge","step"] (zad zcm):=sC
noncomputable abbrev zc3:Stmt:=top 23
noncomputable abbrev zia:List Str:=["table","begin","step","walk","edge"]
theorem zbp:FnScope zia ["table","begin"] (zad zc3):=sC
noncomputable abbrev zaH:Stmt:=top 24
noncomputable abbrev zbw:List Str:=["walk","lefts","slants"]
theorem zbj:FnScope zbw ["walk"] (zad zaH):=sC
noncomputable abbrev zbk:Stmt:=top 25
noncomputable abbrev zdc:List Str:=["walk","lefts","slants"]
theorem za7:FnScope zdc ["walk"] (zad zbk):=sC
noncomputable abbrev zey:Stmt:=top 26
noncomputable abbrev zlj:List Str:=["walk"]
theorem zjm:FnScope zlj ["walk"] (zad zey):=sC
noncomputable abbrev zcT:Stmt:=top 27
noncomputable abbrev zfG:List Str:=["walk","sort"]
theorem zhH:FnScope zfG ["walk","sort"] (zad zcT):=sC
noncomputable abbrev zbI:Stmt:=top 28
noncomputable abbrev zdN:List Str:=["walk","sort","begin","at","row"]
theorem zbK:FnScope zdN ["walk"] (zad zbI):=sC
noncomputable abbrev zch:Stmt:=top 29
noncomputable abbrev zgy:List Str:=["one","sort","x","y","row"]
theorem zbc:FnScope zgy ["one"] (zad zch):=sC
noncomputable abbrev zb2:Stmt:=top 30
noncomputable abbrev zfh:List Str:=["table","edges","walked","told","begin","walk","edge","step"]
theorem zaC:FnScope zfh ["table","edges"] (zad zb2):=sC
noncomputable abbrev zf2:Stmt:=top 31
noncomputable abbrev zl0:List Str:=["picture"]
theorem zj4:FnScope zl0 ["picture"] (zad zf2):=sC
noncomputable abbrev zcH:Stmt:=top 34
noncomputable abbrev zhu:List Str:=["one","sort","x","y","row"]
theorem zbt:FnScope zhu ["one"] (zad zcH):=sC
noncomputable abbrev zev:Stmt:=top 35
noncomputable abbrev zlg:List Str:=["step"]
theorem zjl:FnScope zlg ["step"] (zad zev):=sC
noncomputable abbrev zcn:Stmt:=top 36
noncomputable abbrev zgD:List Str:=["begin_way","row","way","deeds","step","lefts"]
theorem zaX:FnScope zgD ["begin_way","row"] (zad zcn):=sC
noncomputable abbrev zex:Stmt:=top 37
noncomputable abbrev zli:List Str:=["begin","deeds","walk","edge","deed"]
theorem zca:FnScope zli ["begin","deeds"] (zad zex):=sC
noncomputable abbrev zcC:Stmt:=top 38
noncomputable abbrev zhp:List Str:=["begin","row"]
theorem zfX:FnScope zhp ["begin","row"] (zad zcC):=sC
noncomputable abbrev zb1:Stmt:=top 39
noncomputable abbrev zfg:List Str:=["edge","step","x","y","way","behind","seen"]
theorem zaN:FnScope zfg ["edge","step"] (zad zb1):=sC
noncomputable abbrev zcl:Stmt:=top 40
noncomputable abbrev zgB:List Str:=["walk","known","steps_gone","edge","step","cell","inside"]
theorem zaz:FnScope zgB ["walk"] (zad zcl):=sC
noncomputable abbrev zcF:Stmt:=top 41
noncomputable abbrev zhs:List Str:=["walk","edge","step"]
theorem zcf:FnScope zhs ["walk"] (zad zcF):=sC
noncomputable abbrev zc4:Stmt:=top 42
noncomputable abbrev zib:List Str:=["walk","sort"]
theorem zgS:FnScope zib ["walk","sort"] (zad zc4):=sC
noncomputable abbrev zew:Stmt:=top 43
noncomputable abbrev zlh:List Str:=["one","sort","x","y","row","begin","walk","at"]
theorem zbo:FnScope zlh ["one"] (zad zew):=sC
noncomputable abbrev zdF:Stmt:=top 45
noncomputable abbrev zjD:List Str:=["some"]
theorem zhF:FnScope zjD ["some"] (zad zdF):=sC
noncomputable abbrev zhK:Stmt:=top 46
noncomputable abbrev znf:List Str:=["one","dx","dy","sort","x","y","row"]
theorem zdm:FnScope znf ["one","dx","dy"] (zad zhK):=sC
noncomputable abbrev zci:Stmt:=top 47
noncomputable abbrev zeW:List Str:=["some","dx","dy"]
theorem zgR:FnScope zeW ["some","dx","dy"] (zad zci):=sC
noncomputable abbrev zb4:Stmt:=top 48
noncomputable abbrev zfj:List Str:=["edge","x","y","way"]
theorem zbs:FnScope zfj ["edge"] (zad zb4):=sC
noncomputable abbrev zb3:Stmt:=top 49
noncomputable abbrev zfi:List Str:=["step"]
theorem zeo:FnScope zfi ["step"] (zad zb3):=sC
noncomputable abbrev zd7:Stmt:=top 50
noncomputable abbrev zi8:List Str:=["one","quarters","walk","quarter"]
theorem zdl:FnScope zi8 ["one","quarters"] (zad zd7):=sC
noncomputable abbrev zbX:Stmt:=top 51
noncomputable abbrev zdV:List Str:=["some","quarters"]
theorem zfY:FnScope zdV ["some","quarters"] (zad zbX):=sC
noncomputable abbrev zck:Stmt:=top 52
noncomputable abbrev zgA:List Str:=["edge","x","y","way"]
theorem zby:FnScope zgA ["edge"] (zad zck):=sC
noncomputable abbrev zcj:Stmt:=top 53
noncomputable abbrev zgz:List Str:=["step"]
theorem zeY:FnScope zgz ["step"] (zad zcj):=sC
noncomputable abbrev zcb:Stmt:=top 54
noncomputable abbrev zdO:List Str:=["one","walk","edges","behind","mirror"]
theorem zbL:FnScope zdO ["one"] (zad zcb):=sC
noncomputable abbrev zbz:Stmt:=top 55
noncomputable abbrev zc0:List Str:=["some"]
theorem zep:FnScope zc0 ["some"] (zad zbz):=sC
noncomputable abbrev zf3:Stmt:=top 58
noncomputable abbrev zl1:List Str:=["some","mirror","quarters"]
theorem zj5:FnScope zl1 ["some","mirror","quarters"] (zad zf3):=sC
noncomputable abbrev zbN:Stmt:=top 59
noncomputable abbrev zeV:List Str:=["some","others","dx","dy"]
theorem zcu:FnScope zeV ["some","others"] (zad zbN):=sC
noncomputable abbrev zhL:Stmt:=top 60
noncomputable abbrev zng:List Str:=["one","other"]
theorem zlt:FnScope zng ["one","other"] (zad zhL):=sC
noncomputable abbrev zc5:Stmt:=top 61
noncomputable abbrev zic:List Str:=["some","others","mirror","quarters","shift"]
theorem zbW:FnScope zic ["some","others"] (zad zc5):=sC
noncomputable abbrev zaO:Stmt:=top 63
noncomputable abbrev zce:List Str:=["row","gone_round"]
theorem zbV:FnScope zce ["row"] (zad zaO):=sC
noncomputable abbrev zj6:Stmt:=top 64
noncomputable abbrev zn3:List Str:=["one","sort","x","y","row","at"]
theorem zdD:FnScope zn3 ["one"] (zad zj6):=sC
noncomputable abbrev zb6:Stmt:=top 66
noncomputable abbrev zfl:List Str:=["_law_script","_law_k"]
theorem zet:FnScope zfl ["_law_script","_law_k"] (zad zb6):=sC
noncomputable abbrev zc6:Stmt:=top 67
noncomputable abbrev zid:List Str:=["_law_pen","_law_base","_law_rest","_law_number"]
theorem zbB:FnScope zid ["_law_pen","_law_base"] (zad zc6):=sC
noncomputable abbrev zdG:Stmt:=top 68
noncomputable abbrev zjE:List Str:=["_law_pen","_law_way"]
theorem zes:FnScope zjE ["_law_pen"] (zad zdG):=sC
noncomputable abbrev zbQ:Stmt:=top 69
noncomputable abbrev zeX:List Str:=["_law_pen","_law_way","_law_x","_law_y","_law_wide","_law_high"]
theorem zdZ:FnScope zeX ["_law_pen","_law_way","_law_x","_law_y","_law_wide","_law_high"] (zad zbQ):=sC
noncomputable abbrev zb5:Stmt:=top 70
noncomputable abbrev zfk:List Str:=["_law_pen","_law_most","_law_wide","_law_high","_law_way","_law_dx","_law_dy","_law_found","_law_y","_law_x"]
theorem zat:FnScope zfk ["_law_pen","_law_most"] (zad zb5):=sC
noncomputable abbrev zbx:Stmt:=top 71
noncomputable abbrev zdP:List Str:=["_law_row"]
theorem zdo:FnScope zdP ["_law_row"] (zad zbx):=sC
noncomputable abbrev zcI:Stmt:=top 72
noncomputable abbrev zdX:List Str:=["_law_some","_law_size"]
theorem zdn:FnScope zdX ["_law_some"] (zad zcI):=sC
noncomputable abbrev zbP:Stmt:=top 73
noncomputable abbrev zde:List Str:=["_law_one","_law_other"]
theorem zgT:FnScope zde ["_law_one","_law_other"] (zad zbP):=sC
noncomputable abbrev zaY:Stmt:=top 74
noncomputable abbrev zc1:List Str:=["_law_one","_law_other"]
theorem zer:FnScope zc1 ["_law_one","_law_other"] (zad zaY):=sC
noncomputable abbrev zcU:Stmt:=top 75
noncomputable abbrev zfH:List Str:=["_law_one"]
theorem zhI:FnScope zfH ["_law_one"] (zad zcU):=sC
noncomputable abbrev zbZ:Stmt:=top 76
noncomputable abbrev zcO:List Str:=["_law_one","_law_other","_law_by","_law_how","_law_due"]
theorem zbH:FnScope zcO ["_law_one","_law_other"] (zad zbZ):=sC
noncomputable abbrev s_law:Stmt:=top 77
noncomputable abbrev N_law:List Str:=["_law_script","_law_k","_law_some","_law_at","_law_one","_law_due"]
theorem zeq:FnScope N_law ["_law_script"] (zad s_law):=sC
open PySem L2 RP
noncomputable def cellT(c:Cell):List V:=[.int c.1,.int c.2]
noncomputable def edgeT(e:Edge):List V:=[.int e.c.1,.int e.c.2,.int e.w]
noncomputable def sv:Option Nat->V
 |none=>.non
 |some s=>.int s
noncomputable def Tab(H:Hp)(t:Addr)(C:Cell->Bool):Prop:=∃kvs:List (List Key×V),H t=some (.dT kvs)/\∀c:Cell,(valV kvs [Dq c.1,Dq c.2]).isSome=C c
theorem Tab.same{H H':Hp}{t:Addr}{C:Cell->Bool}(h:Tab H t C)(s:Same H H'):Tab H' t C:=let ⟨kvs,e,q⟩:=h;⟨kvs,s _ _ e,q⟩
theorem Same.up{H:Hp}{p:Addr}{o:HO}(h:H p=none):Same H (upd H p o):=λb u e=>by rw[zam (zaq e h)];exact e
structure Txt (P:AH) (w:A1) (K:W.Frag) (mg:Str->Option Ab):Prop where
 moves:∃M,mg "MOVES" = some (.ref M)/\∀H,∃ms:List Addr,SqT K H M (ms.map V.ref)/\ms.length=8/\∀(i:Nat) a,ms[i]?=some a->SqT K H a [.int (mv i).1,.int (mv i).2]
 ways:Ways P w K mg
 more:Two P w K mg "MORE_LEFTS" 4 (-4)
 tTURNS:∃M,mg "TURNS" = some (.ref M)/\∀H,∃ms:List Addr,SqT K H M (ms.map V.ref)/\ms.length=8/\∀(i:Nat) a,ms[i]?=some a->∃q,([(false,0),(false,1),(false,2),(false,3),(true,0),(true,1),(true,2),(true,3)]:List (Bool×Int))[i]?=some q/\SqT K H a [.bl q.1,.int q.2]
 nrange:mg "range" = none
 nlen:mg "len" = none
 nmin:mg "min" = none
 nmax:mg "max" = none
 nsorted:mg "sorted" = none
 ntuple:mg "tuple" = none
 nint:mg "int" = none
 nbool:mg "bool" = none
 nabs:mg "abs" = none
 nall:mg "all" = none
 nisinstance:mg "isinstance" = none
 nlist:mg "list" = none
 nzip:mg "zip" = none
 nenumerate:mg "enumerate" = none
 nany:mg "any" = none
theorem two:2<=sizeLine:=by decide
theorem three:3<=sizeLine:=by decide
section
variable {P:AH}{w:A1}{K:W.Frag}{mg:Str->Option Ab}{base:Heap}
noncomputable def zhA(K:W.Frag):Sp:=λvs H Q _=>∃(a:Addr) (x y:Int) (r:List V),vs=[.ref a]/\SqT K H a (.int x::.int y::r)/\∀(p:Addr) (H':Hp),H p=none->Same H H'->H' p=some (.tup [.int y,.int x])->Q (.ref p) H'
theorem zgg (d:Df K mg "cell_order" zcG ["cell"]):FnOk P w K mg base CX0 1 d.f d.fd ["cell"] (zhA K):=by
 refine d.F.ok zf1 (λvs H Q E h=>?_) (λcdv A outer s H vs Q E hr h=>?_)
 .obtain⟨a,x,y,r,rfl,_⟩:=h;rfl
 .obtain⟨a,x,y,r,rfl,hq,k⟩:=h;refine⟨_,(zaf (zai (zax (zah (pe_ix zaV (pv 0) zae (λ_ _=>rfl)) (zah (pe_ix zaV (pv 0) zae (λ_ _=>rfl)) zab))))),?_⟩;refine⟨_,rfl,a,_,_,_,rfl,rfl,hq,zal (j:=1) rfl,_,rfl,a,_,_,_,rfl,rfl,hq,zal (j:=0) rfl,two,λp hp=>?_⟩;exact k p _ hp (Same.up hp) zaa
noncomputable def zgL:Sp:=λvs H Q _=>∃(c:Cell) (i:Nat),vs=[.int c.1,.int c.2,.int i]/\i<8/\∀(p:Addr) (H':Hp),H p=none->Same H H'->H' p=some (.tup (cellT (go c i)))->Q (.ref p) H'
theorem zmW (T:Txt P w K mg) (d:Df K mg "gone" zj7 ["x","y","step"]):FnOk P w K mg base CX0 1 d.f d.fd ["x","y","step"] zgL:=by
 refine d.F.ok zhG (λvs H Q E h=>?_) (λcdv A outer s H vs Q E hr h=>?_)
 .obtain⟨c,i,rfl,_⟩:=h;rfl
 .obtain⟨c,i,rfl,hi,k⟩:=h;obtain⟨M,hM,hms⟩:=T.moves;obtain⟨ms,hq,hl,hm⟩:=hms H
  refine⟨_,(zac (zbC (pe_ix zaV (zdH (v:=.ref M) rfl hM rfl) (pv 2) (λ_ _=>rfl)) (zbe (by rfl) (zag (nG 3 zhG.nd) (zag (nG 4 zhG.nd) zas))))
   (zaf (zai (zax (pa_B (pe_op zaQ (pv 0) (pv 3)) (pa_B (pe_op zaQ (pv 1) (pv 4)) zab)))))),?_⟩
  have hi':i<ms.length:=by lia
  have e1:ms[i]?=some ms[i]:=by simp[hi']
  refine⟨_,rfl,M,_,(i:Int),.ref ms[i],rfl,rfl,hq,zal (by simp[hi']),ms[i],_,rfl,hm i _ e1,rfl,_,_,rfl,_,_,rfl,rfl,?_⟩;refine⟨_,rfl,_,rfl,_,_,rfl,rfl,_,rfl,_,rfl,_,_,rfl,rfl,two,λp hp=>?_⟩;exact k p _ hp (Same.up hp) zaa
noncomputable def zdC:Sp:=λvs H Q _=>∃w:Nat,vs=[.int w]/\w<4/\Q (.int (2*w:Nat)) H
theorem zd0 (d:Df K mg "straight_step" zbM ["way"]):FnOk P w K mg base CX0 1 d.f d.fd ["way"] zdC:=by
 refine d.F.ok zdY (λvs H Q E h=>?_) (λcdv A outer s H vs Q E hr h=>?_)
 .obtain⟨w,rfl,_⟩:=h;rfl
 .obtain⟨w,rfl,hw,k⟩:=h;refine⟨_,(zaf (zai (pe_op zcZ zae (pv 0)))),?_⟩;refine⟨_,rfl,_,_,rfl,rfl,.inl ⟨by decide,by decide⟩,?_⟩;have e:(2*(w:Int))=((2*w:Nat):Int):=by lia
  show Q (.int (2*(w:Int))) H;rw[e];exact k
noncomputable def zhz:Sp:=λvs H Q _=>∃w:Nat,vs=[.int w]/\w<4/\Q (.int ((2*w+7) % 8:Nat)) H
theorem zgc (d:Df K mg "slant_step" zcD ["way"]):FnOk P w K mg base CX0 1 d.f d.fd ["way"] zhz:=by
 refine d.F.ok zfZ (λvs H Q E h=>?_) (λcdv A outer s H vs Q E hr h=>?_)
 .obtain⟨w,rfl,_⟩:=h;rfl
 .obtain⟨w,rfl,hw,k⟩:=h;refine⟨_,(zaf (zai (pe_op zaT (pe_op zaQ (pe_op zcZ zae (pv 0)) zae) zae))),?_⟩;refine⟨_,rfl,_,_,rfl,rfl,.inl ⟨by decide,by decide⟩,_,_,rfl,rfl,_,_,rfl,rfl,(by show (0:Int)<8;decide),?_⟩;have e:(2*(w:Int)+7) % 8=(((2*w+7) % 8:Nat):Int):=by lia
  show Q (.int ((2*(w:Int)+7) % 8)) H;rw[e];exact k
noncomputable def zdj:Sp:=λvs H Q _=>∃o:Option Nat,vs=[sv o]/\Q (.bl (slant o)) H
theorem zhZ (d:Df K mg "is_slant" zdE ["step"]):FnOk P w K mg base CX0 1 d.f d.fd ["step"] zdj:=by
 refine d.F.ok zhE (λvs H Q E h=>?_) (λcdv A outer s H vs Q E hr h=>?_)
 .obtain⟨o,rfl,_⟩:=h;rfl
 .obtain⟨o,rfl,k⟩:=h;refine⟨_,(zaf (zai (ziF (zaK zdI (pv 0) zbf (zan _)) (zeB (zaK op_eq (pe_op zaT (pv 0) zae) zae (zan _)))))),?_⟩
  cases o with
  |none=>exact⟨_,rfl,rfl,false,rfl,iteF k⟩
  |some n =>
   refine⟨_,rfl,rfl,true,rfl,iteT ⟨_,rfl,_,_,rfl,rfl,(by show (0:Int)<2;decide),rfl,?_⟩⟩
   have e:decide (V.int ((n:Int) % 2)=V.int 1)=slant (some n):=by
    show _=(n % 2 == 1)
    by_cases q:n % 2=1
    .rw[decide_eq_true (by rw[show (n:Int) % 2=1 by lia]),q];rfl
    .rw[decide_eq_false (λz=>by injection z with z;lia)];simp[q]
   rw[<- e]at k;exact k
noncomputable def spGap(K:W.Frag):Sp:=λvs H Q _=>∃(a:Addr) (e:Edge),vs=[.ref a]/\SqT K H a (edgeT e)/\e.w<4/\∀(p:Addr) (H':Hp),H p=none->Same H H'->H' p=some (.tup (cellT (gap e)))->Q (.ref p) H'
theorem zgd (g_gone:Fn P w K mg base 1 "gone" ["x","y","step"] zgL) (d:Df K mg "gap_beside" zcE ["edge"]):FnOk P w K mg base CX0 2 d.f d.fd ["edge"] (spGap K):=by
 refine d.F.ok zbG (λvs H Q E h=>?_) (λcdv A outer s H vs Q E hr h=>?_)
 .obtain⟨a,e,rfl,_⟩:=h;rfl
 .obtain⟨a,e,rfl,hq,hw,k⟩:=h
  refine⟨_,(zac (zbC (pv 0) (zbe (by rfl) (zag (nG 1 zbG.nd) (zag (nG 2 zbG.nd) (zag (nG 3 zbG.nd) zas)))))
   (zaf (zai (pC g_gone hr (pa_N (pv 1) (pa_N (pv 2) (pa_B (pe_op zaT (pe_op zaQ (pe_op zcZ zae (pv 3)) zae) zae) zab))))))),?_⟩
  refine⟨_,rfl,a,_,rfl,hq,rfl,_,_,rfl,_,_,rfl,_,_,rfl,rfl,?_⟩;have e6:(2*(e.w:Int)+6) % 8=(((2*e.w+6) % 8:Nat):Int):=by lia
  refine⟨_,rfl,_,rfl,_,rfl,_,_,rfl,rfl,.inl ⟨by decide,by decide⟩,_,_,rfl,rfl,_,_,rfl,rfl,(by show (0:Int)<8;decide),e.c,(2*e.w+6) % 8,(by rw[<- e6];rfl),by lia,λp H' hp hS hH=>k p H' hp hS hH⟩
theorem iteN{b:Bool}{A B:Prop}(h:b=false)(q:B):if b=true then A else B:=by subst h;exact iteF q
theorem iteY{b:Bool}{A B:Prop}(h:b=true)(q:A):if b=true then A else B:=by subst h;exact iteT q
theorem zcQ{tb:TS}{D:Ends}{σ:St}{H:Hp}(h:tb D σ H):tIfs (λ_ H Q=>Q true H) tb D σ H:=by
 show if true=true then tb D σ H else D.nx σ H
 exact iteT h
theorem gN{j:Nat}{v:V}{σ:St}{H:Hp}{tb:TS}{D:Ends}(h:tb D (σ.set j (some v)) H):gName j v σ H λσ2 H2=>tIfs (λ_ H Q=>Q true H) tb D σ2 H2:=zcQ h
noncomputable def LR{α:Type}(K:W.Frag)(H:Hp)(a:Addr)(l:List α)(R:α->V->Hp->Prop):Prop:=∃vs:List V,SqL K H a vs/\vs.length=l.length/\∀(i:Nat) x v,l[i]?=some x->vs[i]?=some v->R x v H
noncomputable def cR(c:Cell)(v:V)(H:Hp):Prop:=∃b,v=.ref b/\H b=some (.tup (cellT c))
noncomputable def eR(e:Edge)(v:V)(H:Hp):Prop:=∃b,v=.ref b/\H b=some (.tup (edgeT e))
noncomputable def wR(q:Edge×Option Nat)(v:V)(H:Hp):Prop:=∃A b,v=.ref A/\H A=some (.tup [.ref b,sv q.2])/\H b=some (.tup (edgeT q.1))
theorem cR.same{c:Cell}{v:V}{H H':Hp}(h:cR c v H)(s:Same H H'):cR c v H':=let ⟨b,e,q⟩:=h;⟨b,e,s _ _ q⟩
theorem eR.same{c:Edge}{v:V}{H H':Hp}(h:eR c v H)(s:Same H H'):eR c v H':=let ⟨b,e,q⟩:=h;⟨b,e,s _ _ q⟩
theorem wR.same{c:Edge×Option Nat}{v:V}{H H':Hp}(h:wR c v H)(s:Same H H'):wR c v H':=let ⟨A,b,e,q,r⟩:=h;⟨A,b,e,s _ _ q,s _ _ r⟩
theorem LR.same{α:Type}{K:W.Frag}{H H':Hp}{a:Addr}{l:List α}{R:α->V->Hp->Prop}(h:LR K H a l R)(s:Same H H')(m:∀x v,R x v H->R x v H'):LR K H' a l R :=
 let ⟨vs,q,n,r⟩:=h;⟨vs,s.seq q,n,λi x v h1 h2=>m x v (r i x v h1 h2)⟩
theorem zbE{α:Type}{l:List α}{i:Nat}{x c:α}(h:l[i]?=some x):c∈l.take (i+1) ↔ c∈l.take i∨c=x:=by rw[Dm,h,List.mem_append];exact⟨λz=>z.elim .inl λz=>.inr (AA.mp z),λz=>z.elim .inl λz=>.inr (List.mem_singleton.mpr z)⟩
noncomputable def InOrd(cs:List Cell):Prop:=∀(i:Nat) c d,cs[i]?=some c->cs[i+1]?=some d->HT.lexLt [c.2,c.1] [d.2,d.1]=true
noncomputable def spAsk(K:W.Frag):Sp:=λvs H Q _=>∃(a:Addr) (cs:List Cell),vs=[.ref a]/\LR K H a cs cR/\InOrd cs/\cs.length<=1000/\∀H',Same H H'->Q (.bl true) H'
theorem ze9 (T:Txt P w K mg) (g_cell_order:Fn P w K mg base 1 "cell_order" ["cell"] (zhA K)) (d:Df K mg "ask_picture" zco ["picture"]):FnOk P w K mg base CX0 2 d.f d.fd ["picture"] (spAsk K):=by
 refine d.F.ok zcY (λvs H Q E h=>?_) (λcdv A outer s H vs Q E hr h=>?_)
 .obtain⟨a,cs,rfl,_⟩:=h;rfl
 .obtain⟨a,cs,rfl,⟨ws,hq,hn,hc⟩,ho,hlen,k⟩:=h;have hu0:=hr.units0
  refine⟨_,(zac (zbR A8 rfl (zeA (by rfl) T.nrange (pa_C zae (zah (zap zak (by rfl) T.nlen (by rfl) (pa_N (pv 0) zab)) zab))) (nG 1 zcY.nd)
   (zaf (ps_if (zar (znH hu0) (pC g_cell_order hr (zah (pe_ix zaD (pv 0) (pv 1) (λ_ _=>rfl)) zab)) (pC g_cell_order hr (zah (pe_ix zaD (pv 0) (pe_op za5 (pv 1) zae) (λ_ _=>rfl)) zab)) (zan _))
   (zaf zf7)
   zau)))
   (zaf (zai pe_bl))),?_⟩
  refine⟨_,rfl,a,_,rfl,.inl hq,_,_,rfl,⟨by decide,by decide,by lia,by lia⟩,?_⟩;refine zaS (lo:=1) (n:=((ws.length:Int)-1).toNat) (λi σ H2=>∃o,σ=[some (.ref a),o]/\Same H H2) ⟨_,rfl,Same.refl _⟩ ?_ ?_
  .rintro i σ H2 hi ⟨o,rfl,s2⟩;have h1:i+1<ws.length:=by lia
   have v1:ws[i+1]?=some ws[i+1]:=Aa h1;have v0:ws[i]?=some ws[i]:=Aa (by lia)
   have c1:cs[i+1]?=some cs[i+1]:=Aa (by lia)
   have c0:cs[i]?=some cs[i]:=Aa (by lia)
   obtain⟨b1,e1,q1⟩:=hc (i+1) _ _ c1 v1;obtain⟨b0,e0,q0⟩:=hc i _ _ c0 v0;refine⟨_,rfl,_,rfl,a,_,_,_,rfl,rfl,s2.seq hq,(by rw[show (1:Int)+(i:Int)=((i+1:Nat):Int) by lia];exact zal v1),b1,_,_,[],(by rw[e1];rfl),SqT.of (s2 _ _ q1),λp1 H3 hp1 s3 f1=>?_⟩;refine⟨_,rfl,_,rfl,_,_,rfl,rfl,a,_,_,_,rfl,rfl,(s2.trans s3).seq hq,(by rw[show (1:Int)+(i:Int)-1=(i:Int) by lia];exact zal v0),b0,_,_,[],(by rw[e0];rfl),SqT.of ((s2.trans s3) _ _ q0),λp0 H4 hp0 s4 f0=>?_⟩;refine⟨p1,p0,[cs[i+1].2,cs[i+1].1],[cs[i].2,cs[i].1],rfl,rfl,SqT.of (s4 _ _ f1),SqT.of f0,_,rfl,iteN ?_ ?_⟩
   .rw[HT.lexLe_eq,ho i _ _ c0 c1];rfl
   .exact⟨_,rfl,(s2.trans s3).trans s4⟩
  .rintro σ H2 ⟨o,rfl,s2⟩;exact k H2 s2
noncomputable def kC(c:Cell):List Key:=[Dq c.1,Dq c.2]
theorem zkN{c d:Cell}:kC c=kC d ↔ c=d:=by
 constructor
 .intro h;unfold kC at h;injection h with h1 h2;injection h2 with h2 _;exact Cu (Sum.inl.inj h1) (Sum.inl.inj h2)
 .rintro rfl;rfl
noncomputable def zhy(K:W.Frag):Sp:=λvs H Q _=>∃(a:Addr) (cs:List Cell),vs=[.ref a]/\LR K H a cs cR/\cs.length<=1000/\∀t H',H t=none->Same H H'->Tab H' t (isIn cs)->Q (.ref t) H'
theorem zgf (d:Df K mg "cell_table" zbY ["picture"]):FnOk P w K mg base CX0 1 d.f d.fd ["picture"] (zhy K):=by
 refine d.F.ok zf0 (λvs H Q E h=>?_) (λcdv A outer s H vs Q E hr h=>?_)
 .obtain⟨a,cs,rfl,_⟩:=h;rfl
 .obtain⟨a,cs,rfl,⟨ws,hq,hn,hc⟩,hlen,k⟩:=h;have hu1:=hu_of hr;have nb0:(["cell"]:List Str).Nodup:=by decide +kernel
  refine⟨_,(zaf (zai (zlD hu1 (osc:=zad zbY) (N:=zdW) (N':=["cell"]) (sel:=[none]) bO (zaP (pv 0)) (λ_ _ _ _ _=>(nG 0 nb0)) (λ_ _ _ _ _=>za8) (λ_ _ _ _ _=>(pv 0)) (λ_ _ _ _ _=>pe_bl)))),?_⟩;refine⟨_,rfl,a,rfl,⟨_,hq⟩,λp hp=>?_⟩
  refine zay (K:=K) (a:=a) (xs:=ws) (λi σ H2=>∃o,σ=[o]/\Same H H2/\∃kvs,H2 p=some (.dT kvs)/\kvs.length<=i/\∀c:Cell,(valV kvs (kC c)).isSome=decide (c∈cs.take i))
   ⟨_,rfl,Same.up hp,[],zaa,Ai _,λc=>by simp[valV]⟩ (λi σ H2 _ ⟨_,_,s2,_⟩=>s2.seq hq) ?_ ?_
  .rintro i v σ H2 hi ⟨o,rfl,s2,kvs,e2,hl,hv⟩;have hil:i<ws.length:=(Ad.mp hi).1;have ci:cs[i]?=some cs[i]:=Aa (by lia)
   obtain⟨b,rfl,q⟩:=hc i _ _ ci hi;refine gN ?_
   refine⟨_,rfl,_,.inr ⟨kvs,kC cs[i],b,e2,rfl,s2 _ _ q,zaj (by lia),rfl⟩,_,rfl,λz o e=>?_,_,zaa,?_,λc=>?_⟩
   .rw[zam (zaq e hp)];exact s2 z o e
   .exact Ba (za6 _ _ _) (by lia)
   .rw[zfK]
    by_cases e:c=cs[i]
    .rw[if_pos (zkN.mpr e),decide_eq_true ((zbE ci).mpr (.inr e))];rfl
    .rw[if_neg (λz=>e (zkN.mp z)),hv];exact decide_eq_decide.mpr ⟨λz=>(zbE ci).mpr (.inl z),λz=>((zbE ci).mp z).resolve_right e⟩
  .rintro σ H2 ⟨o,rfl,s2,kvs,e2,hl,hv⟩;refine k p H2 hp s2 ⟨kvs,e2,λc=>?_⟩;show (valV kvs (kC c)).isSome=isIn cs c;rw[hv,hn,AO];rfl
noncomputable def zjR(K:W.Frag):Sp:=λvs H Q _=>∃(t a:Addr) (C:Cell->Bool) (e:Edge),vs=[.ref t,.ref a]/\Tab H t C/\SqT K H a (edgeT e)/\e.w<4/\∀H',Same H H'->Q (sv (stepB C e)) H'
theorem zeZ (g_gone:Fn P w K mg base 1 "gone" ["x", "y", "step"] zgL) (g_slant_step:Fn P w K mg base 1 "slant_step" ["way"] zhz) (g_straight_step:Fn P w K mg base 1 "straight_step" ["way"] zdC)
  (d:Df K mg "step_behind" zcg ["table","edge"]):FnOk P w K mg base CX0 2 d.f d.fd ["table","edge"] (zjR K):=by
 refine d.F.ok zbb (λvs H Q E h=>?_) (λcdv A outer s H vs Q E hr h=>?_)
 .obtain⟨t,a,C,e,rfl,_⟩:=h;rfl
 .obtain⟨t,a,C,e,rfl,⟨kvs,ht,hC⟩,hq,hw,k⟩:=h;have hu1:=hu_of hr
  refine⟨_,(zac (zbC (pv 1) (zbe (by rfl) (zag (nG 2 zbb.nd) (zag (nG 3 zbb.nd) (zag (nG 4 zbb.nd) zas)))))
   (zac (zbR A8 rfl (ziC (zax (zah (pC g_slant_step hr (pa_N (pv 4) zab)) (zah (pC g_straight_step hr (pa_N (pv 4) zab)) zab)))) (nG 5 zbb.nd)
   (zaf (ps_if (zke (znF hu1 (pC g_gone hr (pa_N (pv 2) (pa_N (pv 3) (pa_N (pv 5) zab)))) (pv 0)))
   (zaf (zai (pv 5)))
   zau)))
   (zaf (zai zbf)))),?_⟩
  refine⟨_,rfl,a,_,rfl,hq,rfl,_,_,rfl,_,_,rfl,_,_,rfl,rfl,?_⟩;refine⟨_,rfl,e.w,rfl,hw,_,rfl,e.w,rfl,hw,two,λp hp=>⟨p,rfl,⟨_,SqT.of zaa⟩,?_⟩⟩
  refine zgq (K:=K) (a:=p) (xs:=[.int ((2*e.w+7) % 8:Nat),.int (2*e.w:Nat)]) (λi σ H2=>∃o,σ=[some (.ref t),some (.ref a),some (.int e.c.1),some (.int e.c.2),some (.int e.w),o]/\Same (upd H p (.tup [.int ((2*e.w+7) % 8:Nat),.int (2*e.w:Nat)])) H2/\(1<=i->C (go e.c ((2*e.w+7) % 8))=false)/\(2<=i->C (go e.c (2*e.w))=false))
   ⟨_,rfl,Same.refl _,λh=>absurd h (by decide),λh=>absurd h (by decide)⟩ (λi σ H2 _ ⟨_,_,s2,_⟩=>s2.seqT (SqT.of zaa)) ?_ ?_
  .rintro i v σ H2 hi ⟨o,rfl,s2,n1,n2⟩;have sH:Same H H2:=(Same.up hp).trans s2
   match i,hi with
   | 0,hi =>
    cases hi
    refine⟨_,rfl,_,rfl,_,rfl,e.c,(2*e.w+7) % 8,rfl,by lia,λp1 H3 hp1 s3 f1=>?_⟩;refine⟨_,rfl,t,_,rfl,.inr ⟨kvs,kC (go e.c ((2*e.w+7) % 8)),p1,Rd.of ((sH.trans s3) _ _ ht),rfl,f1,rfl⟩,_,rfl,?_⟩;have hv:=hC (go e.c ((2*e.w+7) % 8));change (valV kvs (kC (go e.c ((2*e.w+7) % 8)))).isSome=_ at hv;rw[hv];refine ite2 (λhy=>?_) (λhn=>?_)
    .refine⟨_,rfl,?_⟩;have:=k H3 (sH.trans s3);unfold stepB at this;rw[if_pos hy]at this;exact this
    .exact⟨_,rfl,s2.trans s3,λ_=>by simpa using hn,λh=>absurd h (by decide)⟩
   | 1,hi =>
    cases hi
    refine⟨_,rfl,_,rfl,_,rfl,e.c,2*e.w,rfl,by lia,λp1 H3 hp1 s3 f1=>?_⟩;refine⟨_,rfl,t,_,rfl,.inr ⟨kvs,kC (go e.c (2*e.w)),p1,Rd.of ((sH.trans s3) _ _ ht),rfl,f1,rfl⟩,_,rfl,?_⟩;have hv:=hC (go e.c (2*e.w));change (valV kvs (kC (go e.c (2*e.w)))).isSome=_ at hv;rw[hv];have h1:=n1 (by decide);refine ite2 (λhy=>?_) (λhn=>?_)
    .refine⟨_,rfl,?_⟩;have:=k H3 (sH.trans s3);unfold stepB at this;rw[h1,if_neg (by decide),if_pos hy]at this;exact this
    .exact⟨_,rfl,s2.trans s3,λ_=>h1,λ_=>by simpa using hn⟩
   |i+2,hi=>simp at hi
  .rintro σ H2 ⟨o,rfl,s2,n1,n2⟩;have:=k H2 ((Same.up hp).trans s2);unfold stepB at this;rw[n1 (by simp),n2 (by simp),if_neg (by decide),if_neg (by decide)]at this;exact this
noncomputable def zek(K:W.Frag):Sp:=λvs H Q _=>∃(a:Addr) (e:Edge) (o:Option Nat),vs=[.ref a,sv o]/\SqT K H a (edgeT e)/\e.w<4/\(∀s,o=some s->s<8)/\∀(p:Addr) (H':Hp),H p=none->Same H H'->H' p=some (.tup (edgeT (edgeB e o)))->Q (.ref p) H'
theorem ze7 (g_gone:Fn P w K mg base 1 "gone" ["x", "y", "step"] zgL) (g_is_slant:Fn P w K mg base 1 "is_slant" ["step"] zdj)
  (d:Df K mg "edge_behind" zcm ["edge","step"]):FnOk P w K mg base CX0 2 d.f d.fd ["edge","step"] (zek K):=by
 refine d.F.ok zaW (λvs H Q E h=>?_) (λcdv A outer s H vs Q E hr h=>?_)
 .obtain⟨a,e,o,rfl,_⟩:=h;rfl
 .obtain⟨a,e,o,rfl,hq,hw,ho,k⟩:=h
  refine⟨_,(zac (zbC (pv 0) (zbe (by rfl) (zag (nG 2 zaW.nd) (zag (nG 3 zaW.nd) (zag (nG 4 zaW.nd) zas)))))
   (zac (ps_if (zar zgZ (pv 1) zbf (zan _))
   (zaf (zai (zax (pa_N (pv 2) (pa_N (pv 3) (pa_B (pe_op zaT (pe_op zaQ (pv 4) zae) zae) zab))))))
   zau)
   (zac (zbC (pC g_gone hr (pa_N (pv 2) (pa_N (pv 3) (pa_N (pv 1) zab)))) (zbe (by rfl) (zag (nG 5 zaW.nd) (zag (nG 6 zaW.nd) zas))))
   (zac (ps_if (zdR (pC g_is_slant hr (pa_N (pv 1) zab)))
   (zaf (zai (zax (pa_N (pv 5) (pa_N (pv 6) (pa_B (pe_op zaT (pe_op zaQ (pv 4) zae) zae) zab))))))
   zau)
   (zaf (zai (zax (pa_N (pv 5) (pa_N (pv 6) (pa_N (pv 4) zab)))))))))),?_⟩
  refine⟨_,rfl,a,_,rfl,hq,rfl,_,_,rfl,_,_,rfl,_,_,rfl,rfl,?_⟩
  cases o with
  |none =>
   refine⟨_,rfl,rfl,true,rfl,iteT ?_⟩;refine⟨_,rfl,_,rfl,_,rfl,_,_,rfl,rfl,_,_,rfl,rfl,(by show (0:Int)<4;decide),three,λp hp=>k p _ hp (Same.up hp) ?_⟩;rw[zaa];have e1:((e.w:Int)+1) % 4=(((e.w+1) % 4:Nat):Int):=by lia
   show some (HO.tup [.int e.c.1,.int e.c.2,.int (((e.w:Int)+1) % 4)])=_;rw[e1];rfl
  |some n =>
   refine⟨_,rfl,rfl,false,rfl,iteF ?_⟩;refine⟨_,rfl,_,rfl,_,rfl,e.c,n,rfl,ho n rfl,λp1 H1 hp1 s1 f1=>?_⟩;refine⟨p1,_,rfl,SqT.of f1,rfl,_,_,rfl,_,_,rfl,rfl,?_⟩;refine⟨_,rfl,some n,rfl,_,rfl,?_⟩;refine ite2 (λhs=>?_) (λhs=>?_)
   .refine⟨_,rfl,_,rfl,_,rfl,_,_,rfl,rfl,_,_,rfl,rfl,(by show (0:Int)<4;decide),three,λp hp=>k p _ (s1.free hp) (s1.trans (Same.up hp)) ?_⟩;rw[zaa];have e1:((e.w:Int)+3) % 4=(((e.w+3) % 4:Nat):Int):=by lia
    have hn:n % 2=1:=by simpa[slant]using hs
    show some (HO.tup [.int (go e.c n).1,.int (go e.c n).2,.int (((e.w:Int)+3) % 4)])=_;rw[e1];unfold edgeB;simp only[if_pos hn];rfl
   .refine⟨_,rfl,_,rfl,_,rfl,three,λp hp=>k p _ (s1.free hp) (s1.trans (Same.up hp)) ?_⟩;rw[zaa];have hn:¬ n % 2=1:=by simpa[slant]using hs
    unfold edgeB;simp only[if_neg hn];rfl
noncomputable def KT(H H':Hp):Prop:=∀b xs,H b=some (.tup xs)->H' b=some (.tup xs)
theorem KT.refl(H:Hp):KT H H:=λ_ _ h=>h
theorem KT.trans{H H1 H2:Hp}(a:KT H H1)(b:KT H1 H2):KT H H2:=λc o h=>b c o (a c o h)
theorem KT.of{H H':Hp}(s:Same H H'):KT H H':=λb xs e=>s b _ e
theorem KT.up{H:Hp}{p:Addr}{o:HO}(h:H p=none):KT H (upd H p o):=KT.of (Same.up h)
theorem KT.lst{H:Hp}{p:Addr}{xs:List V}{o:HO}(h:H p=some (.lst xs)):KT H (upd H p o):=λb ys e=>by rw[zam (ne_of e h (λz=>nomatch z))];exact e
theorem cR.kt{c:Cell}{v:V}{H H':Hp}(h:cR c v H)(s:KT H H'):cR c v H':=let ⟨b,e,q⟩:=h;⟨b,e,s _ _ q⟩
theorem eR.kt{c:Edge}{v:V}{H H':Hp}(h:eR c v H)(s:KT H H'):eR c v H':=let ⟨b,e,q⟩:=h;⟨b,e,s _ _ q⟩
theorem wR.kt{c:Edge×Option Nat}{v:V}{H H':Hp}(h:wR c v H)(s:KT H H'):wR c v H':=let ⟨A,b,e,q,r⟩:=h;⟨A,b,e,s _ _ q,s _ _ r⟩
noncomputable def VR{α:Type}(vs:List V)(l:List α)(R:α->V->Hp->Prop)(H:Hp):Prop:=vs.length=l.length/\∀(i:Nat) x v,l[i]?=some x->vs[i]?=some v->R x v H
theorem VR.nil{α:Type}{R:α->V->Hp->Prop}{H:Hp}:VR [] ([]:List α) R H:=⟨rfl,λi x v h=>by simp at h⟩
theorem VR.snoc{α:Type}{vs:List V}{l:List α}{R:α->V->Hp->Prop}{H H':Hp}{x:α}{v:V}(h:VR vs l R H)(m:∀x v,R x v H->R x v H')(hx:R x v H'):VR (vs++[v]) (l++[x]) R H':=by
 refine⟨by simp[h.1],λi y u h1 h2=>?_⟩;rcases AC i l.length with hi |hi
 .rw[Ao hi]at h1;rw[Ao (by rw[h.1];exact hi)]at h2;exact m _ _ (h.2 i y u h1 h2)
 .rw[AB hi]at h1;rw[AB (by rw[h.1];exact hi)]at h2
  have hz:i-l.length=0:=by have:=(Ad.mp h1).1;simp at this;lia
  rw[hz]at h1;rw[h.1,hz]at h2
  cases h1;cases h2
  exact hx
theorem VR.mono{α:Type}{vs:List V}{l:List α}{R:α->V->Hp->Prop}{H H':Hp}(h:VR vs l R H)(m:∀x v,R x v H->R x v H'):VR vs l R H':=⟨h.1,λi x v h1 h2=>m _ _ (h.2 i x v h1 h2)⟩
theorem VR.at{α:Type}{vs:List V}{l:List α}{R:α->V->Hp->Prop}{H:Hp}(h:VR vs l R H){i:Nat}{v:V}(hv:vs[i]?=some v):∃x,l[i]?=some x/\R x v H:=by
 have hi:i<l.length:=by rw[<- h.1];exact (Ad.mp hv).1
 exact⟨l[i],Aa hi,h.2 i _ v (Aa hi) hv⟩
theorem zao{H H2:Hp}{p:Addr}{o:HO}(hp:H p=none)(s:Same H H2):Same H (upd H2 p o):=λz u e=>by rw[zam (zaq e hp)];exact s z u e
theorem zjj(cs:List Cell)(c:Cell):sides (cs++[c])=sides cs++(AJ 4).map λw=>⟨c,w⟩:=by unfold sides;simp[List.flatMap_append]
theorem zaB{α:Type}{l:List α}{i:Nat}{x:α}(h:l[i]?=some x):l.take (i+1)=l.take i++[x]:=by rw[Dm,h];rfl
theorem zeO{α:Type}(p:α->Bool)(l:List α)(x:α):(l++[x]).filter p=l.filter p++(if p x=true then [x] else []):=by rw[DK];congr 1;simp[List.filter_cons]
noncomputable def zme(K:W.Frag):Sp:=λvs H Q _=>∃(a:Addr) (cs:List Cell),vs=[.ref a]/\LR K H a cs cR/\cs.length<=60/\∀p H' es,H p=none->Same H H'->H' p=some (.lst es)->VR es (allE cs) eR H'->Q (.ref p) H'
theorem zg5 (T:Txt P w K mg) (g_cell_table:Fn P w K mg base 1 "cell_table" ["picture"] (zhy K)) (g_gap_beside:Fn P w K mg base 2 "gap_beside" ["edge"] (spGap K))
  (d:Df K mg "all_edges" zbO ["picture"]):FnOk P w K mg base CX0 3 d.f d.fd ["picture"] (zme K):=by
 refine d.F.ok zcA (λvs H Q E h=>?_) (λcdv A outer s H vs Q E hr h=>?_)
 .obtain⟨a,cs,rfl,_⟩:=h;rfl
 .obtain⟨a,cs,rfl,hLR,hlen,k⟩:=h;obtain⟨ws,hq,hn,hc⟩:=id hLR;have hu1:=hu_of hr;have nb0:(["x","y","way"]:List Str).Nodup:=by decide +kernel
  have nb1:(["edge","table"]:List Str).Nodup:=by decide +kernel
  refine⟨_,(zac (zmh (i:=1) zcA.nd (by rfl) (Or.inr rfl) (pC g_cell_table hr (pa_N (pv 0) zab)))
   (zac (zkf (i:=2) (osc:=zad zbO) (N:=zdd) (N':=["x","y","way"]) (sel:=[none,none,none]) bO zcA.nd (by rfl) (Or.inl rfl) (zaP (pv 0)) (λ_ _ _ _ _=>(zb7 (K:=K) (n:=2) (by rfl) (zag (nG 0 nb0) (zag (nG 1 nb0) zas)))) (λ_ _ _ _ _=>za8) (λ_ _ _ _ _=>(zbd (by rfl) T.nrange (pa_C zae zab))) (λ_ _ _ _ _=>(nG 2 nb0)) (λ_ _ _ _ _=>za8) (λ_ _ _ _ _=>(zax (pa_N (pv 0) (pa_N (pv 1) (pa_N (pv 2) zab))))) (λ_ _ _=>rfl))
   (zaf (zai (zaM (osc:=zad zbO) (N:=zdd) (N':=["edge","table"]) (sel:=[none,some 1]) bO (zaP (pv 2)) (λ_ _ _ _ _=>(nG 0 nb1)) (λ_ _ _ _ _=>zcK (zke (zgW hu1 (pC g_gap_beside hr (pa_N (pv 0) zab)) (pv 1)))) (λ_ _ _ _ _=>(pv 0))))))),?_⟩
  refine⟨_,rfl,a,cs,rfl,hLR,by lia,λt H1 ht s1 tab=>?_⟩;obtain⟨kvs,et,hC⟩:=tab;refine⟨_,rfl,a,rfl,⟨_,s1.seq hq⟩,λp hp=>?_⟩
  refine zay (K:=K) (a:=a) (xs:=ws) (λi σ H2=>∃o1 o2 o3,σ=[o1,o2,o3]/\Same H1 H2/\∃es,H2 p=some (.lst es)/\VR es (sides (cs.take i)) eR H2)
   ⟨_,_,_,rfl,Same.up hp,[],zaa,VR.nil⟩ (λi σ H2 _ ⟨_,_,_,_,s2,_⟩=>(s1.trans s2).seq hq) ?_ ?_
  .rintro i v σ H2 hi ⟨o1,o2,o3,rfl,s2,es,e2,hv⟩;have hil:i<ws.length:=(Ad.mp hi).1;have ci:cs[i]?=some cs[i]:=Aa (by lia)
   obtain⟨b,rfl,qb⟩:=hc i _ _ ci hi;refine⟨b,_,rfl,SqT.of ((s1.trans s2) _ _ qb),rfl,_,_,rfl,_,_,rfl,rfl,?_⟩;refine zcQ ?_
   refine⟨4,rfl,by decide,by decide,?_⟩
   refine zaS (lo:=0) (n:=4) (λj σ H3=>∃o,σ=[some (.int cs[i].1),some (.int cs[i].2),o]/\Same H1 H3/\∃es,H3 p=some (.lst es)/\VR es (sides (cs.take i)++(AJ j).map λw=>⟨cs[i],w⟩) eR H3)
    ⟨_,rfl,s2,es,e2,by simpa using hv⟩ ?_ ?_
   .rintro j σ H3 hj ⟨o,rfl,s3,es3,e3,hv3⟩
    have hl3:es3.length<=1000:=by rw[hv3.1,Ap,zbA,Av,Af,CN];lia
    refine gN ?_
    refine⟨_,rfl,_,rfl,_,rfl,three,λq hq'=>⟨es3,?_,zaj hl3,_,rfl,zao hp (s3.trans (Same.up hq')),_,zaa,?_⟩⟩
    .rw[zam (zaq e3 hq')];exact e3
    .rw[Dd,Ax,<- CK];have hpq:p≠q:=zaq e3 hq';have k2:KT (upd H3 q (.tup [.int cs[i].1,.int cs[i].2,.int (0+(j:Int))])) (upd (upd H3 q (.tup [.int cs[i].1,.int cs[i].2,.int (0+(j:Int))])) p (.lst (es3++[.ref q]))):=KT.lst (xs:=es3) (by rw[zam hpq];exact e3);refine hv3.snoc (λx v hx=>hx.kt ((KT.up hq').trans k2)) ⟨q,rfl,k2 _ _ ?_⟩;rw[zaa];show some (HO.tup [.int cs[i].1,.int cs[i].2,.int (0+(j:Int))])=some (HO.tup [.int cs[i].1,.int cs[i].2,.int (j:Int)]);rw[C6]
   .rintro σ H3 ⟨o,rfl,s3,es3,e3,hv3⟩;exact⟨_,_,_,rfl,s3,es3,e3,by rw[zaB ci,zjj];exact hv3⟩
  .rintro σ H2 ⟨o1,o2,o3,rfl,s2,es,e2,hv⟩;rw[hn,AO]at hv;have hles:es.length<=1000:=by rw[hv.1,zbA];lia
   refine⟨_,rfl,p,rfl,⟨_,SqL.of e2⟩,λp2 hp2=>?_⟩
   refine zay (K:=K) (a:=p) (xs:=es) (λi σ H3=>∃o,σ=[o,some (.ref t)]/\Same H2 H3/\∃es3,H3 p2=some (.lst es3)/\VR es3 (((sides cs).take i).filter λe=>!isIn cs (gap e)) eR H3)
    ⟨_,rfl,Same.up hp2,[],zaa,VR.nil⟩ (λi σ H3 _ ⟨_,_,s3,_⟩=>s3.seq (SqL.of e2)) ?_ ?_
   .rintro i v σ H3 hi ⟨o,rfl,s3,es3,e3,hv3⟩;obtain⟨e,he,b,rfl,qb⟩:=hv.at hi;have hw4:e.w<4:=(zdu.mp (Ah he)).2
    have hl3:es3.length<=1000:=by have h1:=BC (λe=>!isIn cs (gap e)) ((sides cs).take i);rw[hv3.1];rw[Av,zbA]at h1;lia
    refine⟨_,rfl,b,e,rfl,SqT.of (s3 _ _ qb),hw4,λp3 H4 hp3 s4 f4=>?_⟩;refine⟨_,rfl,t,_,rfl,.inr ⟨kvs,kC (gap e),p3,Rd.of ((s2.trans (s3.trans s4)) _ _ et),rfl,f4,rfl⟩,_,rfl,?_⟩;have hcv:=hC (gap e);change (valV kvs (kC (gap e))).isSome=_ at hcv;rw[hcv,zaB he,zeO];refine ite2 (λhy=>?_) (λhn'=>?_)
    .refine⟨_,rfl,es3,s4 _ _ e3,zaj hl3,_,rfl,zao hp2 (s3.trans s4),_,zaa,?_⟩;rw[if_pos hy];have k2:KT H4 (upd H4 p2 (.lst (es3++[.ref b]))):=KT.lst (s4 _ _ e3);exact hv3.snoc (λx v hx=>hx.kt ((KT.of s4).trans k2)) ⟨b,rfl,k2 _ _ ((s3.trans s4) _ _ qb)⟩
    .refine⟨_,rfl,s3.trans s4,es3,s4 _ _ e3,?_⟩;rw[if_neg hn',A3];exact hv3.mono λx v hx=>hx.kt (KT.of s4)
   .rintro σ H3 ⟨o,rfl,s3,es3,e3,hv3⟩;rw[hv.1,AO]at hv3;exact k p2 H3 es3 (s1.free (s2.free hp2)) (s1.trans (s2.trans s3)) e3 hv3
noncomputable def eI(e:Edge):List Int:=[e.c.1,e.c.2,(e.w:Int)]
theorem ziZ{e f:Edge}:eI e=eI f ↔ e=f:=by
 constructor
 .intro h;obtain⟨⟨x,y⟩,w⟩:=e;obtain⟨⟨x',y'⟩,w'⟩:=f;unfold eI at h;injection h with h1 h2;injection h2 with h2 h3;injection h3 with h3 _;simp only at h1 h2 h3;have:w=w':=by lia
  subst h1 h2 this;rfl
 .rintro rfl;rfl
theorem zcJ{K:W.Frag}{H:Hp}{b:Addr}{e:Edge}(h:H b=some (.tup (edgeT e))):RD K H (.ref b) (tI (eI e)):=.tup (SqT.of h) (RDs.ints (eI e))
theorem zbU{C:Cell->Bool}{e:Edge}(hw:e.w<4):∀s,stepB C e=some s->s<8:=by
 intro s h;unfold stepB at h;split at h
 .cases h;lia
 .split at h
  .cases h;lia
  .cases h
noncomputable def wk(C:Cell->Bool)(es:List Edge):List (Edge×Option Nat):=es.map λe=>(e,stepB C e)
theorem zmt(C:Cell->Bool)(es:List Edge)(e:Edge):wk C (es++[e])=wk C es++[(e,stepB C e)]:=by unfold wk;simp
theorem zaF(C:Cell->Bool)(es:List Edge):(wk C es).length=es.length:=by unfold wk;simp
noncomputable def zkG:Option HO->Nat
 |some (.lst ws)=>ws.length
 |_=>0
noncomputable def zl7(K:W.Frag):Sp:=λvs H Q _=>∃(t a:Addr) (cs:List Cell) (b:Edge),vs=[.ref t,.ref a]/\Tab H t (isIn cs)/\H a=some (.tup (edgeT b))/\IsE (isIn cs) b/\cs.length<=60 /\
 ∀p H' ws es,H p=none->Same H H'->H' p=some (.lst ws)->VR ws (wk (isIn cs) es) wR H'->Closed (isIn cs) b es->Q (.ref p) H'
theorem zg0 (g_step_behind:Fn P w K mg base 2 "step_behind" ["table", "edge"] (zjR K)) (g_edge_behind:Fn P w K mg base 2 "edge_behind" ["edge", "step"] (zek K))
  (d:Df K mg "walk_from" zc3 ["table","begin"]):FnOk P w K mg base CX0 3 d.f d.fd ["table","begin"] (zl7 K):=by
 refine d.F.ok zbp (λvs H Q E h=>?_) (λcdv A outer s H vs Q E hr h=>?_)
 .obtain⟨t,a,cs,b,rfl,_⟩:=h;rfl
 .obtain⟨t,a,cs,b,rfl,tab,ha,hb,hlen,k⟩:=h;have hu64:=hr.units
  refine⟨_,(zac (sE 2 zbp.nd (pC g_step_behind hr (pa_N (pv 0) (pa_N (pv 1) zab))))
   (zac (sE 3 zbp.nd (zbu (pa_T (zax (pa_N (pv 1) (pa_N (pv 2) zab))) zab)))
   (zac (sE 4 zbp.nd (pC g_edge_behind hr (pa_N (pv 1) (pa_N (pv 2) zab))))
   (zac (zlA A8 (zar (zgY hu64) (pv 4) (pv 1) (zan _))
   (zac (sE 2 zbp.nd (pC g_step_behind hr (pa_N (pv 0) (pa_N (pv 4) zab))))
   (zac (zcp (pe_bm A6 Bx By zbD (pv 3) (pa_T (zax (pa_N (pv 4) (pa_N (pv 2) zab))) zab)))
   (zaf (sE 4 zbp.nd (pC g_edge_behind hr (pa_N (pv 4) (pa_N (pv 2) zab))))))))
   (zaf (zai (pv 3))))))),?_⟩
  refine⟨_,rfl,_,rfl,t,a,isIn cs,b,rfl,tab,SqT.of ha,hb.1,λH1 s1=>?_⟩;refine⟨_,rfl,_,rfl,two,λq hq=>⟨(by show 1<=sizeLine;decide),λp hp=>?_⟩⟩;have hpq:p≠q:=λz=>by subst z;rw[zaa]at hp;cases hp
  have hp1:H1 p=none:=by rw[zam hpq]at hp;exact hp
  have s2:Same H1 (upd (upd H1 q (.tup [.ref a,sv (stepB (isIn cs) b)])) p (.lst [.ref q])):=zao hp1 (Same.up hq);refine⟨_,rfl,_,rfl,a,b,stepB (isIn cs) b,rfl,SqT.of (s2 _ _ (s1 _ _ ha)),hb.1,zbU hb.1,λr H3 hr3 s3 f3=>?_⟩;have s03:Same H H3:=s1.trans (s2.trans s3);have hp0:H p=none:=s1.free hp1
  refine zlm (λσ H4=>∃ws es l o re,σ=[some (.ref t),some (.ref a),some o,some (.ref p),some (.ref re)]/\Same H H4/\H4 p=some (.lst ws)/\VR ws (wk (isIn cs) (es++[l])) wR H4/\Chain (isIn cs) b (es++[l])/\H4 re=some (.tup (edgeT (nxt (isIn cs) l))))
   (λ_ H4=>4*cs.length+1-zkG (H4 p)) ?_ ?_ ?_
  .refine⟨[.ref q],[],b,_,r,rfl,s03,s3 _ _ zaa,⟨rfl,λi x v h1 h2=>?_⟩,Chain.start hb,f3⟩
   match i,h1,h2 with
   | 0,h1,h2 =>
    cases h1;cases h2
    refine⟨q,a,rfl,s3 _ _ ?_,s03 _ _ ha⟩;rw[zam (BP hpq),zaa]
   |i+1,h1,h2=>simp at h2
  .rintro σ H4 ⟨ws,es,l,o,re,rfl,s4,e4,hv,hch,er⟩;have hw4:(nxt (isIn cs) l).w<4:=(zcc (hch.2.2.1 l (by simp))).1;refine⟨_,rfl,_,rfl,_,_,zcJ er,zcJ (s4 _ _ ha),zav _,zav _,_,rfl,?_⟩;rw[zcv]
   by_cases hne:nxt (isIn cs) l=b
   .rw[decide_eq_true (ziZ.mpr hne)];refine iteF ?_
    refine⟨_,rfl,k p H4 ws (es++[l]) hp0 s4 e4 hv ⟨hch,l,?_,hne⟩⟩;simp
   .rw[decide_eq_false (λz=>hne (ziZ.mp z))];refine iteT ?_
    have hch2:=hch.more hne;have hsh:=hch2.short;have hl4:ws.length=(es++[l]).length:=by rw[hv.1,zaF]
    have hl5:ws.length+1<=4*cs.length:=by rw[hl4];rw[Ap,CB]at hsh;exact hsh
    refine⟨_,rfl,_,rfl,t,re,isIn cs,nxt (isIn cs) l,rfl,tab.same s4,SqT.of er,hw4,λH5 s5=>?_⟩;refine⟨_,rfl,.inl ⟨rfl,_,SqL.of (s5 _ _ e4)⟩,_,rfl,_,rfl,two,λq5 hq5=>?_⟩;have e5:=s5 _ _ e4;have hp5:p≠q5:=zaq e5 hq5;refine⟨p,ws,_,rfl,rfl,(by rw[zam hp5];exact e5),zaj (by lia),?_⟩;have k5:KT H5 (upd (upd H5 q5 (.tup [.ref re,sv (stepB (isIn cs) (nxt (isIn cs) l))])) p (.lst (ws++[.ref q5]))):=(KT.up hq5).trans (KT.lst (xs:=ws) (by rw[zam hp5];exact e5));have e6:upd (upd H5 q5 (.tup [.ref re,sv (stepB (isIn cs) (nxt (isIn cs) l))])) p (.lst (ws++[.ref q5])) re=some (.tup (edgeT (nxt (isIn cs) l))):=k5 _ _ (s5 _ _ er);have s6:Same H (upd (upd H5 q5 (.tup [.ref re,sv (stepB (isIn cs) (nxt (isIn cs) l))])) p (.lst (ws++[.ref q5]))):=zao hp0 ((s4.trans s5).trans (Same.up hq5));refine⟨_,rfl,_,rfl,re,nxt (isIn cs) l,_,rfl,SqT.of e6,hw4,zbU hw4,λr7 H7 hr7 s7 f7=>?_⟩;have e7:=s7 _ _ zaa;refine⟨⟨ws++[.ref q5],es++[l],nxt (isIn cs) l,_,r7,rfl,s6.trans s7,e7,?_,hch2,f7⟩,?_⟩
    .rw[zmt];refine hv.snoc (λx v hx=>hx.kt ((KT.of s5).trans (k5.trans (KT.of s7)))) ⟨q5,re,rfl,s7 _ _ ?_,s7 _ _ e6⟩;rw[zam (BP hp5),zaa]
    .show 4*cs.length+1-zkG (H7 p)<4*cs.length+1-zkG (H4 p);rw[e7,e4];show 4*cs.length+1-(ws++[V.ref q5]).length<4*cs.length+1-ws.length;rw[Ap,CB];lia
  .rintro σ H4 Q1 Q2 hQ ⟨v,h1,v2,h2,dd,ee,r1,r2,x1,x2,kk,h3,q⟩;exact⟨v,h1,v2,h2,dd,ee,r1,r2,x1,x2,kk,h3,hQ _ _ q⟩
noncomputable abbrev Wk:=List (Edge×Option Nat)
noncomputable def nL(W:Wk):Nat:=(W.filter λq=>q.2.isNone).length
noncomputable def nS(W:Wk):Nat:=(W.filter λq=>slant q.2).length
theorem zl6(o:Option Nat):decide (sv o=V.non)=o.isNone:=by cases o <;> simp[sv]
theorem zda{α:Type}{p:α->Bool}{l:List α}{i:Nat}{x:α}(h:l[i]?=some x):((l.take (i+1)).filter p)=(l.take i).filter p++(if p x=true then [x] else []):=by rw[zaB h,zeO]
theorem LR.vr{α:Type}{K:W.Frag}{H:Hp}{a:Addr}{l:List α}{R:α->V->Hp->Prop}(h:LR K H a l R):∃vs,SqL K H a vs/\VR vs l R H:=let ⟨vs,q,n,r⟩:=h;⟨vs,q,n,r⟩
theorem LR.of{α:Type}{K:W.Frag}{H:Hp}{a:Addr}{vs:List V}{l:List α}{R:α->V->Hp->Prop}(e:H a=some (.lst vs))(h:VR vs l R H):LR K H a l R:=⟨vs,SqL.of e,h.1,h.2⟩
noncomputable def zjZ(K:W.Frag):Sp:=λvs H Q _=>∃(a:Addr) (W:Wk),vs=[.ref a]/\LR K H a W wR/\W.length<=500/\∀p H',H p=none->Same H H'->H' p=some (.tup [.int (nL W),.int (nS W)])->Q (.ref p) H'
theorem zc8 (T:Txt P w K mg) (g_is_slant:Fn P w K mg base 1 "is_slant" ["step"] zdj) (d:Df K mg "lefts_and_slants" zaH ["walk"]):FnOk P w K mg base CX0 2 d.f d.fd ["walk"] (zjZ K):=by
 refine d.F.ok zbj (λvs H Q E h=>?_) (λcdv A outer s H vs Q E hr h=>?_)
 .obtain⟨a,W,rfl,_⟩:=h;rfl
 .obtain⟨a,W,rfl,hLR,hlen,k⟩:=h;obtain⟨ws,hq,hv⟩:=hLR.vr;have nb0:(["edge","step"]:List Str).Nodup:=by decide +kernel
  have nb1:(["edge","step"]:List Str).Nodup:=by decide +kernel
  refine⟨_,(zac (sE 1 zbj.nd (zap zak (by rfl) T.nlen (by rfl) (zah (zaM (osc:=zad zaH) (N:=zbw) (N':=["edge","step"]) (sel:=[none,none]) bO (zaP (pv 0)) (λ_ _ _ _ _=>(zb7 (K:=K) (n:=2) (by rfl) (zag (nG 0 nb0) (zag (nG 1 nb0) zas)))) (λ_ _ _ _ _=>zcK (zar zgZ (pv 1) zbf (zan _))) (λ_ _ _ _ _=>(pv 1))) zab)))
   (zac (sE 2 zbj.nd (zap zak (by rfl) T.nlen (by rfl) (zah (zaM (osc:=zad zaH) (N:=zbw) (N':=["edge","step"]) (sel:=[none,none]) bO (zaP (pv 0)) (λ_ _ _ _ _=>(zb7 (K:=K) (n:=2) (by rfl) (zag (nG 0 nb1) (zag (nG 1 nb1) zas)))) (λ_ _ _ _ _=>zcK (zdR (pC g_is_slant hr (pa_N (pv 1) zab)))) (λ_ _ _ _ _=>(pv 1))) zab)))
   (zaf (zai (zax (pa_N (pv 1) (pa_N (pv 2) zab))))))),?_⟩
  refine⟨_,rfl,a,rfl,⟨_,hq⟩,λp hp=>?_⟩
  refine zay (K:=K) (a:=a) (xs:=ws) (λi σ H2=>∃o1 o2,σ=[o1,o2]/\Same H H2/\∃ss:List V,H2 p=some (.lst ss)/\ss.length=((W.take i).filter λq=>q.2.isNone).length)
   ⟨_,_,rfl,Same.up hp,[],zaa,rfl⟩ (λi σ H2 _ ⟨_,_,_,s2,_⟩=>s2.seq hq) ?_ ?_
  .rintro i v σ H2 hi ⟨o1,o2,rfl,s2,ss,e2,hl⟩;obtain⟨⟨e,st⟩,he,B,b,rfl,q1,q2⟩:=hv.at hi
   have hl2:ss.length<=1000:=by have:=BC (λq:Edge×Option Nat=>q.2.isNone) (W.take i);rw[Av]at this;lia
   refine⟨B,_,rfl,SqT.of (s2 _ _ q1),rfl,_,_,rfl,_,_,rfl,rfl,?_⟩;refine⟨_,rfl,rfl,_,rfl,?_⟩;rw[zl6];rw[zda he]at *;refine ite2 (λhy=>?_) (λhn=>?_)
   .refine⟨_,rfl,ss,e2,zaj hl2,_,_,rfl,zao hp s2,_,zaa,?_⟩;rw[if_pos hy,Ap,Ap,hl];rfl
   .exact⟨_,_,rfl,s2,ss,e2,by rw[if_neg hn,A3];exact hl⟩
  .rintro σ H2 ⟨o1,o2,rfl,s2,ss,e2,hl⟩;refine⟨p,_,rfl,.inl (SqL.of e2),?_⟩;refine⟨_,rfl,a,rfl,⟨_,s2.seq hq⟩,λp2 hp2=>?_⟩
   refine zay (K:=K) (a:=a) (xs:=ws) (λi σ H3=>∃o1 o2,σ=[o1,o2]/\Same H2 H3/\∃s3:List V,H3 p2=some (.lst s3)/\s3.length=((W.take i).filter λq=>slant q.2).length)
    ⟨_,_,rfl,Same.up hp2,[],zaa,rfl⟩ (λi σ H3 _ ⟨_,_,_,s3,_⟩=>(s2.trans s3).seq hq) ?_ ?_
   .rintro i v σ H3 hi ⟨o1,o2,rfl,s3,ss3,e3,hl3⟩;obtain⟨⟨e,st⟩,he,B,b,rfl,q1,q2⟩:=hv.at hi
    have hl2:ss3.length<=1000:=by have:=BC (λq:Edge×Option Nat=>slant q.2) (W.take i);rw[Av]at this;lia
    refine⟨B,_,rfl,SqT.of ((s2.trans s3) _ _ q1),rfl,_,_,rfl,_,_,rfl,rfl,?_⟩;refine⟨_,rfl,st,rfl,_,rfl,?_⟩;rw[zda he]at *;refine ite2 (λhy=>?_) (λhn=>?_)
    .refine⟨_,rfl,ss3,e3,zaj hl2,_,_,rfl,zao hp2 s3,_,zaa,?_⟩;rw[if_pos hy,Ap,Ap,hl3];rfl
    .exact⟨_,_,rfl,s3,ss3,e3,by rw[if_neg hn,A3];exact hl3⟩
   .rintro σ H3 ⟨o1,o2,rfl,s3,ss3,e3,hl3⟩;refine⟨p2,_,rfl,.inl (SqL.of e3),?_⟩;refine⟨_,rfl,_,rfl,two,λp4 hp4=>k p4 _ (s2.free (s3.free hp4)) ((s2.trans s3).trans (Same.up hp4)) ?_⟩;rw[hv.1,AO]at hl hl3;rw[zaa,hl,hl3];rfl
noncomputable def zjY(K:W.Frag):Sp:=λvs H Q _=>∃(a:Addr) (W:Wk),vs=[.ref a]/\LR K H a W wR/\W.length<=500/\∀H',Same H H'->Q (.int ((nL W:Int)-nS W)) H'
theorem zcX (g_lefts_and_slants:Fn P w K mg base 2 "lefts_and_slants" ["walk"] (zjZ K)) (d:Df K mg "lefts_less_slants" zbk ["walk"]):FnOk P w K mg base CX0 3 d.f d.fd ["walk"] (zjY K):=by
 refine d.F.ok za7 (λvs H Q E h=>?_) (λcdv A outer s H vs Q E hr h=>?_)
 .obtain⟨a,W,rfl,_⟩:=h;rfl
 .obtain⟨a,W,rfl,hLR,hlen,k⟩:=h
  refine⟨_,(zac (zbC (pC g_lefts_and_slants hr (pa_N (pv 0) zab)) (zbe (by rfl) (zag (nG 1 za7.nd) (zag (nG 2 za7.nd) zas))))
   (zaf (zai (pe_op za5 (pv 1) (pv 2))))),?_⟩
  refine⟨_,rfl,a,W,rfl,hLR,hlen,λp H1 hp s1 f1=>?_⟩;refine⟨p,_,rfl,SqT.of f1,rfl,_,_,rfl,_,_,rfl,rfl,?_⟩;exact⟨_,rfl,_,rfl,_,_,rfl,rfl,k H1 s1⟩
noncomputable def sortS (W:Wk):Str:=if nS W<nL W then "rim" else "hole"
noncomputable def zl9(K:W.Frag):Sp:=λvs H Q _=>∃(a:Addr) (W:Wk),vs=[.ref a]/\LR K H a W wR/\W.length<=500/\∀H',Same H H'->Q (.str (sortS W)) H'
theorem zjr (g_lefts_less_slants:Fn P w K mg base 3 "lefts_less_slants" ["walk"] (zjY K)) (d:Df K mg "sort_of" zey ["walk"]):FnOk P w K mg base CX0 4 d.f d.fd ["walk"] (zl9 K):=by
 refine d.F.ok zjm (λvs H Q E h=>?_) (λcdv A outer s H vs Q E hr h=>?_)
 .obtain⟨a,W,rfl,_⟩:=h;rfl
 .obtain⟨a,W,rfl,hLR,hlen,k⟩:=h;refine⟨_,(zaf (zai (zcq (zar op_gt (pC g_lefts_less_slants hr (pa_N (pv 0) zab)) zae (zan _)) zkk zkk))),?_⟩;refine⟨_,rfl,a,W,rfl,hLR,hlen,λH1 s1=>?_⟩;refine⟨_,_,rfl,rfl,_,rfl,?_⟩;have h1:=k H1 s1;unfold sortS at h1
  by_cases hlt:nS W<nL W
  .rw[if_pos hlt]at h1;exact iteY (decide_eq_true (by lia)) h1
  .rw[if_neg hlt]at h1;exact iteN (decide_eq_false (by lia)) h1
noncomputable def kOf (s:Str):Nat:=if s = "rim" then 0 else 2
noncomputable def zb9(W:Wk)(s:Str)(e:Edge):Prop:=e∈W.map (·.1)/\e.w=kOf s/\∀f∈W.map (·.1),f.w=kOf s->HT.lexLt [f.c.2,f.c.1] [e.c.2,e.c.1]=false
noncomputable def zhC (K:W.Frag):Sp:=λvs H Q _=>∃(a:Addr) (W:Wk) (s:Str),vs=[.ref a,.str s]/\(s = "rim" ∨ s = "hole")/\LR K H a W wR/\W.length<=500/\(∃e∈W.map (·.1),e.w=kOf s) /\
 ∀b e H',Same H H'->H' b=some (.tup (edgeT e))->zb9 W s e->Q (.ref b) H'
theorem zh1 (T:Txt P w K mg) (g_cell_order:Fn P w K mg base 1 "cell_order" ["cell"] (zhA K)) (d:Df K mg "begin_of" zcT ["walk","sort"]):FnOk P w K mg base CX0 3 d.f d.fd ["walk","sort"] (zhC K):=by
  refine d.F.ok zhH (λvs H Q E h=>?_) (λcdv A outer s H vs Q E hr h=>?_)
  . obtain⟨a,W,s,rfl,_⟩:=h;rfl
  . obtain⟨a,W,so,rfl,hso,hLR,hlen,hex,k⟩:=h;obtain⟨ws,hq,hv⟩:=hLR.vr;have nb0:(["edge","step","sort"]:List Str).Nodup:=by decide +kernel
    refine⟨_,(zaf (zai (zmP g_cell_order.ok (hr.mono (by decide)) g_cell_order.b (by rfl) T.nmin (by rfl) g_cell_order.m (zaM (osc:=zad zcT) (N:=zfG) (N':=["edge","step","sort"]) (sel:=[none,none,some 1]) bO (zaP (pv 0)) (λ_ _ _ _ _=>(zb7 (K:=K) (n:=2) (by rfl) (zag (nG 0 nb0) (zag (nG 1 nb0) zas)))) (λ_ _ _ _ _=>zcK (zar op_eq (pe_ix (zh5 (K:=K)) (pv 0) zae (λ_ _=>rfl)) (zkj (by rfl) T.ways (pv 2)) (zan _))) (λ_ _ _ _ _=>(pv 0)))))),?_⟩;refine⟨_,rfl,a,rfl,⟨_,hq⟩,λp hp=>?_⟩
    refine zay (K:=K) (a:=a) (xs:=ws) (λi σ H2=>∃o1 o2,σ=[o1,o2,some (.str so)]/\Same H H2/\∃es:List V,H2 p=some (.lst es)/\VR es (((W.take i).filter λq=>q.1.w == kOf so).map (·.1)) eR H2)
      ⟨_,_,rfl,Same.up hp,[],zaa,VR.nil⟩ (λi σ H2 _ ⟨_,_,_,s2,_⟩=>s2.seq hq) ?_ ?_
    . rintro i v σ H2 hi ⟨o1,o2,rfl,s2,es,e2,hl⟩;obtain⟨⟨e,st⟩,he,B,b,rfl,q1,q2⟩:=hv.at hi
      have hl2:es.length<=1000:=by have:=BC (λq:Edge×Option Nat=>q.1.w == kOf so) (W.take i);rw[hl.1,Af];rw[Av]at this;lia
      have fin:∀kk:Int, kk=(kOf so:Int) -> (if decide (V.int (e.w:Int)=V.int kk)=true then zcx p (tVar 0) { nx := λσ H2 => ∃o1 o2, σ = [o1, o2, some (V.str so)] /\ Same H H2 /\ ∃es, H2 p=some (.lst es) /\ VR es (List.map (λx => x.fst) (List.filter (λq => q.1.w == kOf so) (List.take (i + 1) W))) eR H2, rt := λ_ _ => False } [some (.ref b), some (sv st), some (.str so)] H2
          else (∃o1 o2,[some (.ref b),some (sv st),some (V.str so)]=[o1,o2,some (V.str so)]/\Same H H2/\∃es,H2 p=some (.lst es)/\VR es (List.map (λx=>x.fst) (List.filter (λq=>q.1.w == kOf so) (List.take (i+1) W))) eR H2)):=λkk hk=>by
        have hd:decide (V.int (e.w:Int)=V.int kk)=(e.w == kOf so):=by
          subst hk
          by_cases q:e.w=kOf so
          . rw[q];simp
          . rw[decide_eq_false (λz=>q (by injection z with z;lia))];simp[q]
        rw[hd,zda he];refine ite2 (λhy=>?_) (λhn=>?_)
        . refine⟨_,rfl,es,e2,zaj hl2,_,_,rfl,zao hp s2,_,zaa,?_⟩;rw[if_pos hy,Ax];have k2:KT H2 (upd H2 p (.lst (es++[.ref b]))):=KT.lst e2;exact hl.snoc (λx v hx=>hx.kt k2) ⟨b,rfl,k2 _ _ (s2 _ _ q2)⟩
        . exact⟨_,_,rfl,s2,es,e2,by rw[if_neg hn,A3];exact hl⟩
      refine⟨B,_,rfl,SqT.of (s2 _ _ q1),rfl,_,_,rfl,_,_,rfl,rfl,?_⟩;rcases hso with z |z
      . have f0:=fin 0 (by rw[z];rfl);exact⟨_,rfl,b,_,_,_,rfl,rfl,SqT.of (s2 _ _ q2),zal (j:=2) rfl,_,rfl,.inl ⟨by rw[z],rfl,_,rfl,f0⟩⟩
      . have f2:=fin 2 (by rw[z];rfl);exact⟨_,rfl,b,_,_,_,rfl,rfl,SqT.of (s2 _ _ q2),zal (j:=2) rfl,_,rfl,.inr ⟨by rw[z],rfl,_,rfl,f2⟩⟩
    . rintro σ H2 ⟨o1,o2,rfl,s2,es,e2,hl⟩;rw[hv.1,AO]at hl;obtain⟨L,hL⟩:∃L,L=((W.filter λq=>q.1.w == kOf so).map (·.1)):=⟨_,rfl⟩;rw[<- hL]at hl
      have memL:∀f,f∈L ↔ f∈W.map (·.1)/\f.w=kOf so:=λf=>by
        rw[hL];constructor
        . intro h;obtain⟨q,hq1,rfl⟩:=AF.mp h;obtain⟨h1,h2⟩:=Cc.mp hq1;exact⟨AF.mpr ⟨q,h1,rfl⟩,by simpa using h2⟩
        . rintro⟨h1,h2⟩;obtain⟨q,hq1,rfl⟩:=AF.mp h1;exact AF.mpr ⟨q,Cc.mpr ⟨hq1,by simpa using h2⟩,rfl⟩
      have hpos:0<es.length:=by obtain⟨f,h1,h2⟩:=hex;rw[hl.1];exact List.length_pos_of_mem ((memL f).mpr ⟨h1,h2⟩)
      have kap:∀(i:Nat) e,L[i]?=some e->(λi=>(L[i]?.map λe:Edge=>[e.c.2,e.c.1]).getD []) i=[e.c.2,e.c.1]:=λi e h=>by simp only[h];rfl
      refine⟨p,es,λi=>(L[i]?.map λe:Edge=>[e.c.2,e.c.1]).getD [],rfl,SqL.of e2,hpos,λi x H3 hx s3=>?_,λi x H3 hx hle s3=>?_⟩
      . obtain⟨e,he,b,rfl,q⟩:=hl.at hx;refine⟨b,e.c.1,e.c.2,_,rfl,SqT.of (s3 _ _ q),λp4 H4 hp4 s4 f4=>⟨s4,p4,rfl,SqT.of ?_⟩⟩;rw[kap i e he];exact f4
      . obtain⟨e,he,b,rfl,q⟩:=hl.at hx;have hm:=(memL e).mp (Ah he);refine k b e H3 (s2.trans s3) (s3 _ _ q) ⟨hm.1,hm.2,λf h1 h2=>?_⟩;obtain⟨j,hj,ej⟩:=AQ ((memL f).mpr ⟨h1,h2⟩);have hj':L[j]?=some f:=by rw[Aa hj,ej]
        have:=(hle j (by rw[hl.1];exact hj)).1;rw[kap j f hj',kap i e he]at this;exact this
theorem sIx_nat(n d j:Nat):HT.sIx n d (some (j:Int))=min j n:=by show (if (j:Int)<0 then ((j:Int)+(n:Int)).toNat else min (j:Int).toNat n)=min j n;rw[if_neg (by lia),CJ]
theorem zdx(xs:List V){j:Nat}(h:j<=xs.length):cutV xs (some (j:Int)) none=xs.drop j:=by unfold cutV;rw[sIx_nat,DE h];exact BH (by rw[A0];exact Ai _)
theorem zdw(xs:List V){j:Nat}(h:j<=xs.length):cutV xs none (some (j:Int))=xs.take j:=by unfold cutV;rw[sIx_nat,DE h];rfl
theorem VR.rot{α:Type}{vs:List V}{l:List α}{R:α->V->Hp->Prop}{H:Hp}(h:VR vs l R H)(j:Nat):VR (vs.drop j++vs.take j) (l.drop j++l.take j) R H:=by
 refine⟨by simp[h.1],λi x v h1 h2=>?_⟩;have hd:(vs.drop j).length=(l.drop j).length:=by simp[h.1]
 rcases AC i (l.drop j).length with hi |hi
 .rw[Ao hi,Cy]at h1;rw[Ao (by lia),Cy]at h2;exact h.2 _ x v h1 h2
 .rw[AB hi]at h1;rw[AB (by lia),hd]at h2;rw[Cz]at h1 h2;split at h1
  .rw[if_pos (by assumption)]at h2;exact h.2 _ x v h1 h2
  .cases h1
theorem ziW{α:Type} [DecidableEq α]{x:α}:∀{l:List α},x∈l->∃j:Nat,l[j]?=some x/\∀(m:Nat) y,m<j->l[m]?=some y->y≠x
 |[],h=>by cases h
 |a::l,h=>by
  by_cases e:a=x
  .exact⟨0,by rw[e];rfl,λm y hm=>absurd hm (Nat.not_lt_zero _)⟩
  .obtain⟨j,h1,h2⟩:=ziW ((At.mp h).resolve_left (BP e));refine⟨j+1,by simpa using h1,λm y hm hy=>?_⟩
   match m,hm,hy with
   | 0,_,hy=>cases hy;exact e
   |m+1,hm,hy=>exact h2 m y (by lia) (by simpa using hy)
theorem zgU{K:W.Frag}{H:Hp}:∀{vs:List V}{l:List Edge},VR vs l eR H->RDs K H vs (l.map λe=>tI (eI e))
 |[],[],_=>.nil
 |[],_::_,h=>by have:=h.1;cases this
 |_::_,[],h=>by have:=h.1;cases this
 |v::vs,e::l,h=>by
  obtain⟨b,rfl,q⟩:=h.2 0 e v rfl rfl;exact .cons (zcJ q) (zgU ⟨by simpa using h.1,λi x u h1 h2=>h.2 (i+1) x u (by simpa using h1) (by simpa using h2)⟩)
structure Rnd where
 so:Str
 x:Int
 y:Int
 row:List Nat
 deriving DecidableEq
noncomputable def rowV(row:List Nat):List V:=row.map λn:Nat=>V.int (n:Int)
noncomputable def rR(r:Rnd)(v:V)(H:Hp):Prop:=∃a b,v=.ref a/\H a=some (.tup [.str r.so,.int r.x,.int r.y,.ref b])/\H b=some (.tup (rowV r.row))
theorem rR.kt{r:Rnd}{v:V}{H H':Hp}(h:rR r v H)(s:KT H H'):rR r v H':=let ⟨a,b,e,q1,q2⟩:=h;⟨a,b,e,s _ _ q1,s _ _ q2⟩
noncomputable def IsRnd(W:Wk)(r:Rnd):Prop:=r.so=sortS W/\∃(j:Nat) (e:Edge),(W.map (·.1))[j]?=some e/\zb9 W (sortS W) e/\r.x=e.c.1/\r.y=e.c.2/\r.row=(W.drop j++W.take j).filterMap (·.2)
theorem zcR (W:Wk):sortS W = "rim" ∨ sortS W = "hole":=by unfold sortS;split <;> simp
noncomputable def zdh(K:W.Frag):Sp:=λvs H Q _=>∃(a:Addr) (W:Wk),vs=[.ref a]/\LR K H a W wR/\W.length<=500/\(∃e∈W.map (·.1),e.w=0)/\(∃e∈W.map (·.1),e.w=2) /\
 ∀v H' r,Same H H'->rR r v H'->IsRnd W r->Q v H'
theorem zhV (T:Txt P w K mg) (g_sort_of:Fn P w K mg base 4 "sort_of" ["walk"] (zl9 K)) (g_begin_of:Fn P w K mg base 3 "begin_of" ["walk", "sort"] (zhC K))
  (d:Df K mg "round_of" zbI ["walk"]):FnOk P w K mg base CX0 5 d.f d.fd ["walk"] (zdh K):=by
 refine d.F.ok zbK (λvs H Q E h=>?_) (λcdv A outer s H vs Q E hr h=>?_)
 .obtain⟨a,W,rfl,_⟩:=h;rfl
 .obtain⟨a,W,rfl,hLR,hlen,h0,h2,k⟩:=h;obtain⟨ws,hq,hv⟩:=hLR.vr;have hun:=hr.un;have hu65:(A.deeper (PyProof.Rows.envOfC (B7 "round_of") (zad zbI) s.heap.objs.size d.f cdv)).units+65<cLine:=by lia
  have nb0:(["edge","step"]:List Str).Nodup:=by decide +kernel
  have nb1:(["edge","step"]:List Str).Nodup:=by decide +kernel
  refine⟨_,(zac (sE 1 zbK.nd (pC g_sort_of hr (pa_N (pv 0) zab)))
   (zac (sE 2 zbK.nd (pC g_begin_of hr (pa_N (pv 0) (pa_N (pv 1) zab))))
   (zac (sE 3 zbK.nd (pe_bm A6 DN PySem.F.type_list_index (zg6 hu65) (zaM (osc:=zad zbI) (N:=zdN) (N':=["edge","step"]) (sel:=[none,none]) bO (zaP (pv 0)) (λ_ _ _ _ _=>(zb7 (K:=K) (n:=2) (by rfl) (zag (nG 0 nb0) (zag (nG 1 nb0) zas)))) (λ_ _ _ _ _=>za8) (λ_ _ _ _ _=>(pv 0))) (pa_N (pv 2) zab)))
   (zac (sE 4 zbK.nd (zds zdz (by rfl) T.ntuple (by rfl) (zah (zaM (osc:=zad zbI) (N:=zdN) (N':=["edge","step"]) (sel:=[none,none]) bO (zaP (pe_op ziJ (zaI zcz (pv 0) (za3 (pv 3)) za4) (zaI zcz (pv 0) za4 (za3 (pv 3))))) (λ_ _ _ _ _=>(zb7 (K:=K) (n:=2) (by rfl) (zag (nG 0 nb1) (zag (nG 1 nb1) zas)))) (λ_ _ _ _ _=>zcK (zar zdI (pv 1) zbf (zan _))) (λ_ _ _ _ _=>(pv 1))) zab)))
   (zaf (zai (zax (pa_N (pv 1) (zah (pe_ix zaV (pv 2) zae (λ_ _=>rfl)) (zah (pe_ix zaV (pv 2) zae (λ_ _=>rfl)) (pa_N (pv 4) zab))))))))))),?_⟩
  refine⟨_,rfl,a,W,rfl,hLR,hlen,λH1 s1=>?_⟩
  have hex:∃e∈W.map (·.1),e.w=kOf (sortS W):=by
   rcases zcR W with z |z <;> rw[z]
   .exact h0
   .exact h2
  refine⟨_,rfl,_,rfl,a,W,sortS W,rfl,zcR W,hLR.same s1 (λx v hx=>hx.same s1),hlen,hex,λb e H2 s2 hb hbg=>?_⟩;have s12:=s1.trans s2;refine⟨_,rfl,a,rfl,⟨_,s12.seq hq⟩,λp hp=>?_⟩
  refine zay (K:=K) (a:=a) (xs:=ws) (λi σ H3=>∃o1 o2,σ=[o1,o2]/\Same H2 H3/\∃es:List V,H3 p=some (.lst es)/\VR es ((W.take i).map (·.1)) eR H3)
   ⟨_,_,rfl,Same.up hp,[],zaa,VR.nil⟩ (λi σ H3 _ ⟨_,_,_,s3,_⟩=>(s12.trans s3).seq hq) ?_ ?_
  .rintro i v σ H3 hi ⟨o1,o2,rfl,s3,es,e3,hl⟩;obtain⟨⟨f,st⟩,he,B,bb,rfl,q1,q2⟩:=hv.at hi;have hl2:es.length<=1000:=by rw[hl.1,Af,Av];lia
   refine⟨B,_,rfl,SqT.of ((s12.trans s3) _ _ q1),rfl,_,_,rfl,_,_,rfl,rfl,?_⟩;refine zcQ ?_
   refine⟨_,rfl,es,e3,zaj hl2,_,_,rfl,zao hp s3,_,zaa,?_⟩;rw[zaB he,Ax];have k2:KT H3 (upd H3 p (.lst (es++[.ref bb]))):=KT.lst e3;exact hl.snoc (λx v hx=>hx.kt k2) ⟨bb,rfl,k2 _ _ ((s12.trans s3) _ _ q2)⟩
  .rintro σ H3 ⟨o1,o2,rfl,s3,es,e3,hl⟩;rw[hv.1,AO]at hl;obtain⟨j,hj,hjm⟩:=ziW hbg.1;have hjl:j<W.length:=by have:=(Ad.mp hj).1;simpa using this
   have s13:=s12.trans s3;refine⟨.inl ⟨rfl,_,SqL.of e3⟩,_,rfl,p,es,_,_,_,j,_,rfl,rfl,SqL.of e3,zcJ (s3 _ _ hb),zgU hl,zav _,(λz hz=>by obtain⟨f,_,rfl⟩:=AF.mp hz;exact zav _),(by rw[Ak,hj];rfl),(by rw[zcv];exact decide_eq_true rfl),(λm z hm hz=>?_),?_⟩
   .rw[Ak]at hz;obtain⟨f,hf,rfl⟩:=AY.mp hz;rw[zcv];exact decide_eq_false (λq=>hjm m f hm hf (ziZ.mp q))
   have hwl:j<=ws.length:=by rw[hv.1];lia
   refine⟨_,rfl,_,rfl,_,rfl,a,ws,rfl,s13.seq hq,λp4 hp4=>?_⟩;rw[zdx ws hwl];have s4:=Same.up (o:=.lst (ws.drop j)) hp4;refine⟨_,rfl,_,rfl,_,rfl,a,ws,rfl,(s13.trans s4).seq hq,λp5 hp5=>?_⟩;rw[zdw ws hwl];have s5:=Same.up (o:=.lst (ws.take j)) hp5;refine⟨p4,p5,_,_,rfl,rfl,s5 _ _ zaa,zaa,Bg (zaj (by simp[hv.1];lia)),λp6 hp6=>?_⟩;have s6:=Same.up (o:=.lst (ws.drop j++ws.take j)) hp6;have s16:=s13.trans (s4.trans (s5.trans s6));have e6:upd (upd (upd H3 p4 (.lst (ws.drop j))) p5 (.lst (ws.take j))) p6 (.lst (ws.drop j++ws.take j)) p6=some (.lst (ws.drop j++ws.take j)):=zaa;have b6:=(s4.trans (s5.trans s6)) _ _ (s3 _ _ hb);generalize upd (upd (upd H3 p4 (.lst (ws.drop j))) p5 (.lst (ws.take j))) p6 (.lst (ws.drop j++ws.take j))=H6 at s16 e6 b6 ⊢;have hv6:=hv.rot j;have hWl:(W.drop j++W.take j).length<=500:=by simp;lia
   generalize hW6:W.drop j++W.take j=W6 at hv6 hWl;generalize ws.drop j++ws.take j=ws6 at hv6 e6;refine⟨p6,rfl,⟨_,SqL.of e6⟩,λp7 hp7=>?_⟩
   refine zay (K:=K) (a:=p6) (xs:=ws6) (λi σ H7=>∃o1 o2,σ=[o1,o2]/\Same H6 H7/\H7 p7=some (.lst (rowV ((W6.take i).filterMap (·.2)))))
    ⟨_,_,rfl,Same.up hp7,zaa⟩ (λi σ H7 _ ⟨_,_,_,s7,_⟩=>s7.seq (SqL.of e6)) ?_ ?_
   .rintro i v σ H7 hi ⟨o1,o2,rfl,s7,e7⟩;obtain⟨⟨f,st⟩,he,B,bb,rfl,q1,q2⟩:=hv6.at hi
    have hl2:(rowV ((W6.take i).filterMap (·.2))).length<=1000:=by unfold rowV;rw[Af];have:=DB (λq:Edge×Option Nat=>q.2) (W6.take i);rw[Av]at this;lia
    refine⟨B,_,rfl,SqT.of ((s16.trans s7) _ _ q1),rfl,_,_,rfl,_,_,rfl,rfl,?_⟩;refine⟨_,rfl,rfl,_,rfl,?_⟩;rw[zl6,zaB he,Dg]
    cases st with
    |none=>exact iteF ⟨_,_,rfl,s7,by simpa using e7⟩
    |some n =>
     refine iteT ⟨_,rfl,_,e7,zaj hl2,_,_,rfl,zao hp7 s7,?_⟩;rw[zaa];simp[rowV,sv]
   .rintro σ H7 ⟨o1,o2,rfl,s7,e7⟩;rw[hv6.1,AO]at e7;refine⟨p7,_,rfl,.inl ⟨SqL.of e7,λp8 hp8=>?_⟩⟩;have s8:=Same.up (o:=.tup (rowV (W6.filterMap (·.2)))) hp8;have b8:=s8 _ _ (s7 _ _ b6);refine⟨_,rfl,_,rfl,b,_,_,_,rfl,rfl,SqT.of b8,zal (j:=0) rfl,_,rfl,b,_,_,_,rfl,rfl,SqT.of b8,zal (j:=1) rfl,_,rfl,(by show 4<=sizeLine;decide),λp9 hp9=>?_⟩;refine k _ _ ⟨sortS W,e.c.1,e.c.2,W6.filterMap (·.2)⟩ ((s16.trans (s7.trans s8)).trans (Same.up hp9)) ⟨p9,p8,rfl,zaa,Same.up hp9 _ _ zaa⟩ ⟨rfl,j,e,hj,hbg,rfl,rfl,?_⟩;rw[<- hW6]
noncomputable def keyV (r:Rnd):List V:=[.int r.y,.int r.x,.bl (decide (V.str r.so=V.str "hole"))]
noncomputable def zcy(K:W.Frag):Sp:=λvs H Q _=>∃(v:V) (r:Rnd),vs=[v]/\rR r v H/\∀p H',H p=none->Same H H'->H' p=some (.tup (keyV r))->Q (.ref p) H'
theorem ze0 (d:Df K mg "round_order" zch ["one"]):FnOk P w K mg base CX0 1 d.f d.fd ["one"] (zcy K):=by
 refine d.F.ok zbc (λvs H Q E h=>?_) (λcdv A outer s H vs Q E hr h=>?_)
 .obtain⟨v,r,rfl,_⟩:=h;rfl
 .obtain⟨v,r,rfl,⟨a,b,rfl,q1,q2⟩,k⟩:=h
  refine⟨_,(zac (zbC (pv 0) (zbe (by rfl) (zag (nG 1 zbc.nd) (zag (nG 2 zbc.nd) (zag (nG 3 zbc.nd) (zag (nG 4 zbc.nd) zas))))))
   (zaf (zai (zax (pa_N (pv 3) (pa_N (pv 2) (zah (zaK op_eq (pv 1) zkk (zan _)) zab))))))),?_⟩
  refine⟨_,rfl,a,_,rfl,SqT.of q1,rfl,_,_,rfl,_,_,rfl,_,_,rfl,_,_,rfl,rfl,?_⟩;refine⟨_,rfl,_,rfl,_,rfl,rfl,three,λp hp=>k p _ hp (Same.up hp) zaa⟩
theorem VR.cons{α:Type}{v:V}{vs:List V}{x:α}{l:List α}{R:α->V->Hp->Prop}{H:Hp}:VR (v::vs) (x::l) R H ↔ R x v H/\VR vs l R H:=by
 constructor
 .intro h;exact⟨h.2 0 x v rfl rfl,by simpa using h.1,λi y u h1 h2=>h.2 (i+1) y u (by simpa using h1) (by simpa using h2)⟩
 .rintro⟨h1,h2⟩;refine⟨by simp[h2.1],λi y u e1 e2=>?_⟩
  match i,e1,e2 with
  | 0,e1,e2=>cases e1;cases e2;exact h1
  |i+1,e1,e2=>exact h2.2 i y u (by simpa using e1) (by simpa using e2)
noncomputable def kE(e:Edge):List Key:=[Dq e.c.1,Dq e.c.2,Dq (e.w:Int)]
theorem zmn{e f:Edge}:kE e=kE f ↔ e=f:=by
 constructor
 .intro h;refine ziZ.mp ?_
  unfold kE at h;injection h with h1 h2;injection h2 with h2 h3;injection h3 with h3 _;unfold eI;rw[Sum.inl.inj h1,Sum.inl.inj h2,Sum.inl.inj h3]
 .rintro rfl;rfl
theorem _root_.RP.Closed.back{C:Cell->Bool}{b x:Edge}{es:List Edge}(h:Closed C b es)(hx:IsE C x)(hm:nxt C x∈es):x∈es:=by
 obtain⟨⟨h0,hs,hE,hnd⟩,l,hl,hb⟩:=h;obtain⟨i,hi,ei⟩:=AQ hm;have hlm:l∈es:=Ah hl;rcases Bu i with rfl |hp
 .rw[Aa hi,ei]at h0;have e:=AI h0;rw[<- hb]at e;rw[zeJ hx (hE l hlm) e];exact hlm
 .have hi':i-1<es.length:=by lia
  have e1:=hs (i-1) es[i-1] (nxt C x) (Aa hi') (by rw[show i-1+1=i by lia,Aa hi,ei]);rw[zeJ hx (hE _ (AW hi')) e1];exact AW hi'
theorem _root_.RP.Closed.apart{C:Cell->Bool}{b:Edge}{es done:List Edge}(h:Closed C b es)(hd:∀x,IsE C x->nxt C x∈done->x∈done)(hb:b ∉ done):∀e∈es,e ∉ done:=by
 obtain⟨⟨h0,hs,hE,hnd⟩,_⟩:=h
 have key:∀(i:Nat) e,es[i]?=some e->e ∉ done:=by
  intro i
  induction i with
  |zero=>intro e he;rw[he]at h0;cases h0;exact hb
  |succ i ih =>
   intro e he hm;have hi:i+1<es.length:=(Ad.mp he).1;have h1:es[i]?=some es[i]:=Aa (by lia)
   have hn:=hs i _ e h1 he;rw[hn]at hm;exact ih _ h1 (hd _ (hE _ (AW _)) hm)
 intro e he;obtain⟨i,hi,ei⟩:=AQ he;exact key i e (by rw[Aa hi,ei])
structure Part (C:Cell->Bool) (ESS:List (List Edge)) (R:List Rnd):Prop where
 len:R.length=ESS.length
 each:∀(i:Nat) es r,ESS[i]?=some es->R[i]?=some r->(∃b,Closed C b es)/\IsRnd (wk C es) r
 nd:ESS.flatten.Nodup
theorem Part.closed{C:Cell->Bool}{ESS:List (List Edge)}{R:List Rnd}(h:Part C ESS R):∀es∈ESS,∃b,Closed C b es:=λes he=>by
 obtain⟨i,hi,ei⟩:=AQ he;have hr:i<R.length:=by rw[h.len];exact hi
 exact (h.each i es R[i] (by rw[Aa hi,ei]) (Aa hr)).1
theorem Part.isE{C:Cell->Bool}{ESS:List (List Edge)}{R:List Rnd}(h:Part C ESS R):∀e∈ESS.flatten,IsE C e:=λe he=>by obtain⟨es,h1,h2⟩:=List.mem_flatten.mp he;obtain⟨b,hc⟩:=h.closed es h1;exact hc.1.2.2.1 e h2
theorem Part.back{C:Cell->Bool}{ESS:List (List Edge)}{R:List Rnd}(h:Part C ESS R):∀x,IsE C x->nxt C x∈ESS.flatten->x∈ESS.flatten:=λx hx hm=>by obtain⟨es,h1,h2⟩:=List.mem_flatten.mp hm;obtain⟨b,hc⟩:=h.closed es h1;exact List.mem_flatten.mpr ⟨es,h1,hc.back hx h2⟩
theorem Part.nil{C:Cell->Bool}:Part C [] []:=⟨rfl,λi es r h=>by simp at h,by simp⟩
theorem Part.snoc{C:Cell->Bool}{ESS:List (List Edge)}{R:List Rnd}{b:Edge}{es:List Edge}{r:Rnd}(h:Part C ESS R)(hc:Closed C b es)(hr:IsRnd (wk C es) r)(hb:b ∉ ESS.flatten):Part C (ESS++[es]) (R++[r]):=by
 refine⟨by simp[h.len],λi fs q h1 h2=>?_,?_⟩
 .rcases AC i ESS.length with hi |hi
  .rw[Ao hi]at h1;rw[Ao (by rw[h.len];exact hi)]at h2;exact h.each i fs q h1 h2
  .rw[AB hi]at h1;rw[AB (by rw[h.len];exact hi)]at h2
   have hz:i-ESS.length=0:=by have:=(Ad.mp h1).1;simp at this;lia
   rw[hz]at h1;rw[h.len,hz]at h2
   cases h1;cases h2
   exact⟨⟨b,hc⟩,hr⟩
 .have ap:=hc.apart h.back hb;rw[Dv,List.nodup_append];refine⟨h.nd,by simpa using hc.1.2.2.2,λx hx y hy e=>?_⟩;subst e;exact ap x (by simpa using hy) hx
theorem ziR{p:Edge->Bool}:∀(ESS:List (List Edge)),(∀es∈ESS,∃e∈es,p e=true)->ESS.length<=(ESS.flatten.filter p).length
 |[],_=>Bj _
 |es::r,h=>by
  have ih:=ziR r λes he=>h es (Au _ he)
  obtain⟨e,he,hp⟩:=h es AE;rw[Bk,DK,Ap,A5];have:0<(es.filter p).length:=List.length_pos_of_mem (Cc.mpr ⟨he,hp⟩);lia
theorem Part.few{cs:List Cell}{ESS:List (List Edge)}{R:List Rnd}(h:Part (isIn cs) ESS R):R.length<=cs.length:=by
 rw[h.len];refine Ba (ziR (p:=λe=>e.w == 0) ESS λes he=>?_) ?_
 .obtain⟨b,hc⟩:=h.closed es he;obtain⟨e,h1,h2⟩:=hc.has (k:=0) (.inl rfl);exact⟨e,h1,by simpa using h2⟩
 .rw[<- Af (f:=λc:Cell=>(⟨c,0⟩:Edge)) (as:=cs)];refine za1 (List.Pairwise.filter _ h.nd) λe he=>?_
  obtain⟨h1,h2⟩:=Cc.mp he;have hE:=h.isE e h1;refine AF.mpr ⟨e.c,of_decide_eq_true hE.2.1,?_⟩;obtain⟨c,w⟩:=e;simp only at h2 ⊢;have:w=0:=by simpa using h2
  rw[this]
theorem Part.small{cs:List Cell}{ESS:List (List Edge)}{R:List Rnd}(h:Part (isIn cs) ESS R):ESS.flatten.length<=4*cs.length:=by rw[<- zbA];exact za1 h.nd λe he=>zdu.mpr ⟨of_decide_eq_true (h.isE e he).2.1,(h.isE e he).1⟩
noncomputable def keyI (r:Rnd):List Int:=[r.y,r.x,PyProof.Rows.b2i (decide (V.str r.so=V.str "hole"))]
noncomputable def Whole(cs:List Cell)(R:List Rnd):Prop:=∃ESS,Part (isIn cs) ESS R/\∀e,e∈ESS.flatten ↔ IsE (isIn cs) e
noncomputable def zis(K:W.Frag):Sp:=λvs H Q _=>∃(a:Addr) (cs:List Cell),vs=[.ref a]/\LR K H a cs cR/\InOrd cs/\cs.length<=60 /\
 ∀p H' rs R R0,H p=none->Same H H'->H' p=some (.lst rs)->VR rs R rR H'->R.Perm R0->R.Pairwise (λr q=>HT.lexLt (keyI q) (keyI r)=false)->Whole cs R0->Q (.ref p) H'
noncomputable def zdg(K:W.Frag):Sp:=λvs H Q _=>∃(t pe:Addr) (cs:List Cell) (es:List V),vs=[.ref t,.ref pe]/\Tab H t (isIn cs)/\H pe=some (.lst es)/\VR es (allE cs) eR H/\cs.length<=60 /\
 ∀p H' rs R R0,H p=none->Same H H'->H' p=some (.lst rs)->VR rs R rR H'->R.Perm R0->R.Pairwise (λr q=>HT.lexLt (keyI q) (keyI r)=false)->Whole cs R0->Q (.ref p) H'
theorem zeE(T:Txt P w K mg)
    (g_walk_from:Fn P w K mg base 3 "walk_from" ["table","begin"] (zl7 K)) (g_round_of:Fn P w K mg base 5 "round_of" ["walk"] (zdh K)) (g_round_order:Fn P w K mg base 1 "round_order" ["one"] (zcy K))
    (d:Df K mg "rounds_along" zb2 ["table","edges"]):FnOk P w K mg base CX0 6 d.f d.fd ["table","edges"] (zdg K):=by
  refine d.F.ok zaC (λvs H Q E h=>?_) (λcdv A outer s H2 vs Q E hr h=>?_)
  . obtain⟨t,pe,cs,es,rfl,_⟩:=h;rfl
  . obtain⟨t,pe,cs,es,rfl,tab,epe,hvpe,hlen,k⟩:=h;have hu1:=hu_of hr
    refine⟨_,(zac (sE 2 zaC.nd ziE)
      (zac (sE 3 zaC.nd (zbu zab))
      (zac (zbR A8 rfl (zaP (pv 1)) (nG 4 zaC.nd)
      (zaf (ps_if (zke (zgW hu1 (pv 4) (pv 2)))
      (zac (sE 5 zaC.nd (pC g_walk_from hr (pa_N (pv 0) (pa_N (pv 4) zab))))
      (zac (zbR A8 rfl (zaP (pv 5)) (zbe (by rfl) (zag (nG 6 zaC.nd) (zag (nG 7 zaC.nd) zas)))
      (zaf (zmL hu1 (pv 2) (pv 6) pe_bl rfl)))
      (zaf (zcp (pe_bm A6 Bx By zbD (pv 3) (zah (pC g_round_of hr (pa_N (pv 5) zab)) zab))))))
      zau)))
      (zaf (zai (ziD g_round_order.ok (hr.mono (by decide)) g_round_order.b (by rfl) T.nsorted (by rfl) g_round_order.m (pv 3))))))),?_⟩
    refine λdd hdd=>⟨(by show 0<=sizeLine;decide),λp hp=>?_⟩
    have hpd:p≠dd:=λz=>by subst z;rw[zaa]at hp;cases hp
    have s4:Same H2 (upd (upd H2 dd (.dT [])) p (.lst [])):=(Same.up hdd).trans (Same.up hp);have d4:upd (upd H2 dd (.dT [])) p (.lst []) dd=some (.dT []):=by rw[zam (BP hpd),zaa]
    have p4:upd (upd H2 dd (.dT [])) p (.lst []) p=some (.lst []):=zaa;have n2:H2 dd=none:=hdd;have n2p:H2 p=none:=by rw[zam hpd]at hp;exact hp
    generalize upd (upd H2 dd (.dT [])) p (.lst [])=H5 at s4 d4 p4;have s15:Same H2 H5:=s4;have e5:=s4 _ _ epe;have hv5:=hvpe.mono λx v hx=>hx.same s4
    refine⟨_,rfl,pe,rfl,⟨_,SqL.of e5⟩,?_⟩;have hped:pe≠dd:=zaq epe n2;have hpep:pe≠p:=zaq epe n2p
    refine zay (K := K) (a := pe) (xs := es) (λi σ H6 => ∃o4 o5 o6 o7, σ = [some (.ref t), some (.ref pe), some (.ref dd), some (.ref p), o4, o5, o6, o7] /\ Same H2 H6 /\ H6 pe=some (.lst es) /\ KT H5 H6 /\
        ∃kvs rs ESS R,H6 dd=some (.dT kvs)/\H6 p=some (.lst rs)/\VR rs R rR H6/\Part (isIn cs) ESS R/\(∀e,(valV kvs (kE e)).isSome=decide (e∈ESS.flatten))/\kvs.length<=ESS.flatten.length/\∀e∈(allE cs).take i,e∈ESS.flatten)
      ⟨_,_,_,_,rfl,s15,e5,KT.refl _,[],[],[],[],d4,p4,VR.nil,Part.nil,(λe=>by simp[valV]),Ai _,(λe he=>by simp at he)⟩ (λi σ H6 _ ⟨_,_,_,_,_,_,e6,_⟩=>SqL.of e6) ?_ ?_
    . rintro i v σ H6 hi ⟨o4,o5,o6,o7,rfl,s6,e6,kt6,kvs,rs,ESS,R,d6,p6,hR,hP,hkv,hkl,hall⟩;obtain⟨e,he,b,rfl,qb⟩:=hv5.at hi;have hE:IsE (isIn cs) e:=ziP.mp (Ah he);have qb6:=kt6 _ _ qb;refine⟨_,rfl,_,rfl,dd,_,rfl,.inr ⟨kvs,kE e,b,Rd.of d6,rfl,qb6,rfl⟩,_,rfl,?_⟩;rw[hkv]
      by_cases hin:e∈ESS.flatten
      . rw[decide_eq_true hin];refine iteF ⟨_,_,_,_,rfl,s6,e6,kt6,kvs,rs,ESS,R,d6,p6,hR,hP,hkv,hkl,λf hf=>?_⟩;rcases (zbE he).mp hf with z |z
        . exact hall f z
        . rw[z];exact hin
      . rw[decide_eq_false hin];refine iteT ?_
        have tab6:=tab.same s6;refine⟨_,rfl,_,rfl,t,b,cs,e,rfl,tab6,qb6,hE,by lia,λpw H7 ws fs hpw s7 e7 hv7 hcl=>?_⟩;have hfs:fs.length<=4*cs.length:=hcl.1.short;have hap:=hcl.apart hP.back hin;have d7:=s7 _ _ d6;have hdw:dd≠pw:=λz=>by subst z;rw[d6]at hpw;cases hpw
        have hws:ws.length=fs.length:=by rw[hv7.1,zaF]
        refine⟨_,rfl,pw,rfl,⟨_,SqL.of e7⟩,?_⟩
        refine zay (K := K) (a := pw) (xs := ws) (λj σ H8 => ∃o6 o7, σ = [some (.ref t), some (.ref pe), some (.ref dd), some (.ref p), some (.ref b), some (.ref pw), o6, o7] /\ (∀z o, z ≠ dd -> H7 z=some o -> H8 z=some o) /\
            ∃kv8,H8 dd=some (.dT kv8)/\(∀f,(valV kv8 (kE f)).isSome=decide (f∈ESS.flatten∨f∈fs.take j))/\kv8.length<=ESS.flatten.length+j)
          ⟨_,_,rfl,(λz o _ h=>h),kvs,d7,(λf=>by rw[hkv];simp),by lia⟩ (λj σ H8 _ ⟨_,_,_,k8,_⟩=>SqL.of (k8 _ _ (BP hdw) e7)) ?_ ?_
        . rintro j u σ H8 hj ⟨o6,o7,rfl,k8,kv8,d8,hk8,hl8⟩;obtain⟨⟨f,st⟩,hf,B,bb,rfl,q1,q2⟩:=hv7.at hj
          have hf':fs[j]?=some f:=by
            unfold wk at hf;rw[Ak]at hf;obtain⟨g,hg,eg⟩:=AY.mp hf
            cases eg
            exact hg
          have nB:B≠dd:=ne_of q1 d7 (λz=>nomatch z);have nb:bb≠dd:=ne_of q2 d7 (λz=>nomatch z);refine⟨B,_,rfl,SqT.of (k8 _ _ nB q1),rfl,_,_,rfl,_,_,rfl,rfl,?_⟩;have hjl:j<fs.length:=by rw[<- hws];exact (Ad.mp hj).1
          have hsm:=hP.small;refine⟨_,rfl,_,rfl,dd,_,rfl,.inr ⟨kv8,kE f,bb,d8,rfl,k8 _ _ nb q2,zaj (by lia),rfl⟩,?_⟩;refine⟨_,_,rfl,(λz o hz h=>by rw[zam hz];exact k8 z o hz h),_,zaa,(λg=>?_),Ba (za6 _ _ _) (by lia)⟩;rw[zfK]
          by_cases eg:g=f
          . rw[if_pos (zmn.mpr eg),decide_eq_true (.inr ((zbE hf').mpr (.inr eg)))];rfl
          . rw[if_neg (λz=>eg (zmn.mp z)),hk8];refine decide_eq_decide.mpr ⟨λz=>z.imp id λq=>(zbE hf').mpr (.inl q),λz=>z.imp id λq=>((zbE hf').mp q).resolve_right eg⟩
        . rintro σ H8 ⟨o6,o7,rfl,k8,kv8,d8,hk8,hl8⟩;rw[hws,AO]at hk8;have hdp:p≠dd:=hpd;have p8:=k8 _ _ hdp (s7 _ _ p6);have kt8:KT H7 H8:=λz xs h=>k8 z _ (ne_of h d7 (λq=>nomatch q)) h
          have w8:H8 pw=some (.lst ws):=k8 _ _ (BP hdw) e7;have hrl:rs.length<=60:=by rw[hR.1];exact Ba hP.few hlen
          have hh:∀kk,kk=0∨kk=2->∃x∈(wk (isIn cs) fs).map (·.1),x.w=kk:=λkk hkk=>by obtain⟨x,h1,h2⟩:=hcl.has hkk;exact⟨x,by unfold wk;rw[Bp];simpa using h1,h2⟩
          refine⟨_,rfl,.inl ⟨rfl,_,SqL.of p8⟩,_,rfl,pw,wk (isIn cs) fs,rfl,LR.of w8 (hv7.mono λx v hx=>hx.kt kt8),(by rw[zaF];lia),hh 0 (.inl rfl),hh 2 (.inr rfl),λvr H9 r s9 hr9 hrn=>?_⟩;have p9:=s9 _ _ p8;refine⟨p,rs,_,rfl,rfl,p9,zaj (by lia),?_⟩;have kt9:KT H9 (upd H9 p (.lst (rs++[vr]))):=KT.lst p9;have ktA:KT H6 (upd H9 p (.lst (rs++[vr]))):=(KT.of s7).trans (kt8.trans ((KT.of s9).trans kt9));refine⟨_,_,_,_,rfl,(λz o h=>?_),?_,kt6.trans ktA,kv8,rs++[vr],ESS++[fs],R++[r],?_,zaa,hR.snoc (λx v hx=>hx.kt ktA) (hr9.kt kt9),hP.snoc hcl hrn hin,(λf=>?_),?_,(λf hf=>?_)⟩
          . rw[zam (zaq h n2p)];exact s9 _ _ (k8 _ _ (zaq h n2) (s7 _ _ (s6 _ _ h)))
          . rw[zam hpep];exact s9 _ _ (k8 _ _ hped (s7 _ _ e6))
          . rw[zam (BP hpd)];exact s9 _ _ d8
          . rw[hk8];refine decide_eq_decide.mpr ?_
            rw[Dv,List.mem_append];simp
          . rw[Dv,Ap,show [fs].flatten=fs by simp];lia
          . rw[Dv,List.mem_append];rcases (zbE he).mp hf with z |z
            . exact .inl (hall f z)
            . rw[z];refine .inr ?_
              have:=hcl.1.1;simpa using Ah this
    . rintro σ H6 ⟨o4,o5,o6,o7,rfl,s6,e6,kt6,kvs,rs,ESS,R,d6,p6,hR,hP,hkv,hkl,hall⟩;rw[hv5.1,AO]at hall;have hrl:rs.length<=60:=by rw[hR.1];exact Ba hP.few hlen
      have ge:∀(i:Nat) r,R[i]?=some r->R.getD i ⟨"",0,0,[]⟩=r:=λi r h=>by simp only[Ar,h,Option.getD_some]
      refine⟨_,rfl,p,rs,λi=>keyV (R.getD i ⟨"",0,0,[]⟩),λi=>keyI (R.getD i ⟨"",0,0,[]⟩),rfl,SqL.of p6,by lia,λi x H7 hx s7=>?_,
        λi j hi hj=>⟨_,_,_,_,_,_,rfl,rfl,.cons (.int _ _) (.cons (.bl _ _) .nil),rfl,rfl⟩,λpp D H7 hpm hpo hD s7 f7=>?_⟩
      . obtain⟨r,hr',hx'⟩:=hR.at hx;refine⟨x,r,rfl,hx'.kt (KT.of s7),λq H8 hq s8 f8=>⟨s8,q,rfl,SqT.of ?_⟩⟩;show H8 q=some (HO.tup (keyV (R.getD i ⟨"",0,0,[]⟩)));rw[ge i r hr'];exact f8
      . have hpl:pp.length=R.length:=by rw[hpm.length_eq,CN,hR.1]
        have hlt:∀i∈pp,i<R.length:=λi hi=>by have:=Bq.mp (hpm.mem_iff.mp hi);rw[hR.1]at this;exact this
        have hRR:(pp.map λi=>R.getD i ⟨"",0,0,[]⟩).Perm R:=by
          have h1:=hpm.map λi=>R.getD i (⟨"",0,0,[]⟩:Rnd)
          rw[hR.1]at h1
          have h2:((AJ R.length).map λi=>R.getD i (⟨"",0,0,[]⟩:Rnd))=R:=by
            apply List.ext_getElem
            . simp
            . intro i a b;simp[show i<R.length by simpa using a]
          rw[h2]at h1;exact h1
        have vR:VR (pp.map λi=>rs.getD i V.non) (pp.map λi=>R.getD i ⟨"",0,0,[]⟩) rR H7:=by
          refine⟨by simp,λi r v h1 h2=>?_⟩;rw[Ak]at h1 h2;obtain⟨a,ha,rfl⟩:=AY.mp h1;rw[ha]at h2
          cases h2
          have hal:=hlt a (Ah ha);have hal2:a<rs.length:=by rw[hR.1];exact hal
          have e1:R.getD a ⟨"",0,0,[]⟩=R[a]:=by simp[hal]
          have e2:rs.getD a V.non=rs[a]:=by simp[hal2]
          rw[e1];show rR R[a] (rs.getD a V.non) H7;rw[e2];exact (hR.2 a _ _ (Aa hal) (Aa hal2)).kt (KT.of s7)
        refine k D H7 _ _ R (s6.free hD) (s6.trans s7) f7 vR hRR ?_ ⟨ESS,hP,λe=>⟨hP.isE e,λh=>hall e (ziP.mpr h)⟩⟩
        rw[Di];exact hpo
theorem zkt (T:Txt P w K mg) (g_ask_picture:Fn P w K mg base 2 "ask_picture" ["picture"] (spAsk K)) (g_cell_table:Fn P w K mg base 1 "cell_table" ["picture"] (zhy K)) (g_all_edges:Fn P w K mg base 3 "all_edges" ["picture"] (zme K))
  (g_rounds_along:Fn P w K mg base 6 "rounds_along" ["table","edges"] (zdg K))
  (d:Df K mg "rounds" zf2 ["picture"]):FnOk P w K mg base CX0 7 d.f d.fd ["picture"] (zis K):=by
 refine d.F.ok zj4 (λvs H Q E h=>?_) (λcdv A outer s H vs Q E hr h=>?_)
 .obtain⟨a,cs,rfl,_⟩:=h;rfl
 .obtain⟨a,cs,rfl,hLR,hord,hlen,k⟩:=h;have hu1:=hu_of hr
  refine⟨_,(zac (zcp (pC g_ask_picture hr (pa_N (pv 0) zab)))
   (zaf (zai (pC g_rounds_along hr (zah (pC g_cell_table hr (pa_N (pv 0) zab)) (zah (pC g_all_edges hr (pa_N (pv 0) zab)) zab)))))),?_⟩
  refine⟨_,rfl,a,cs,rfl,hLR,hord,by lia,λH1 s1=>?_⟩;have hLR1:=hLR.same s1 λx v hx=>hx.same s1
  refine⟨_,rfl,a,cs,rfl,hLR1,by lia,λt H2 ht s2 tab=>?_⟩;refine⟨_,rfl,a,cs,rfl,hLR1.same s2 (λx v hx=>hx.same s2),by lia,λpe H5 es hpe s5 e5 hv5=>?_⟩;refine⟨t,pe,cs,es,rfl,tab.same s5,e5,hv5,hlen,λp H' rs R R0 hp sp f1 f2 f3 f4 f5=>?_⟩;exact k p H' rs R R0 (s1.free (s2.free (s5.free hp))) (s1.trans (s2.trans (s5.trans sp))) f1 f2 f3 f4 f5
theorem _root_.RP.Closed.uniq{C:Cell->Bool}{b:Edge}{es fs:List Edge}(h:Closed C b es)(k:Closed C b fs):es=fs:=by
 have lt:∀{es fs:List Edge},Closed C b es->Closed C b fs->¬ es.length<fs.length:=λ{es fs} h k hl=>by have e:=h.it_len;have hp:=h.pos;have g1:=k.1.get es.length hl;have g2:=k.1.get 0 (by lia);rw[e]at g1;have:=(CM (i:=es.length) (j:=0) hl k.1.2.2.2).mp (by rw[g1,g2];rfl);lia
 have hl:es.length=fs.length:=by have:=lt h k;have:=lt k h;lia
 apply Cb
 intro i;rcases AC i es.length with hi |hi
 .rw[h.1.get i hi,k.1.get i (by lia)]
 .rw[AZ hi,AZ (by lia)]
theorem ziz{α:Type}(l:List α)(j:Nat):(l.drop j++l.take j).Perm l:=by have:=List.perm_append_comm (l₁:=l.drop j) (l₂:=l.take j);rw[CC]at this;exact this
theorem zbJ{C:Cell->Bool}(es:List Edge):(wk C es).map (·.1)=es:=by unfold wk;rw[Bp];exact List.map_id' _
theorem zjh{C:Cell->Bool}{es fs:List Edge}(p:es.Perm fs):sortS (wk C es)=sortS (wk C fs):=by have q:(wk C es).Perm (wk C fs):=p.map _;unfold sortS nL nS;have a:=(q.filter λq=>q.2.isNone).length_eq;have b:=(q.filter λq=>slant q.2).length_eq;rw[a,b]
theorem lex2{a b c d:Int}(h1:HT.lexLt [a,b] [c,d]=false)(h2:HT.lexLt [c,d] [a,b]=false):a=c/\b=d:=by have:=HT.lexLt_total h1 h2;simpa using this
theorem zb9.one{W W':Wk}{s:Str}{e f:Edge}(p:(W.map (·.1)).Perm (W'.map (·.1)))(h:zb9 W s e)(k:zb9 W' s f):e=f:=by obtain⟨h1,h2,h3⟩:=h;obtain⟨k1,k2,k3⟩:=k;have a:=h3 f (p.mem_iff.mpr k1) k2;have b:=k3 e (p.mem_iff.mp h1) h2;obtain⟨q1,q2⟩:=lex2 a b;obtain⟨⟨x,y⟩,w⟩:=e;obtain⟨⟨x',y'⟩,w'⟩:=f;simp only at q1 q2 h2 k2;rw[h2,k2,q1,q2]
noncomputable def begE(r:Rnd):Edge:=⟨(r.x,r.y),kOf r.so⟩
noncomputable abbrev InKey(R:List Rnd):Prop:=R.Pairwise (λr q=>HT.lexLt (keyI q) (keyI r)=false)
theorem zi2(s:Nat):∀(l:List Nat) (w:Nat),dgo w (l++[s])=((dgo w l).1++(Aj ((zbm s+4-(dgo w l).2) % 4) none++[some s]),wayB s)
 |[],w=>by simp[dgo]
 |a::l,w=>by
  have ih:=zi2 s l (wayB a);show (Aj ((zbm a+4-w) % 4) none++some a::(dgo (wayB a) (l++[s])).1,(dgo (wayB a) (l++[s])).2)=_;rw[ih];show _=((Aj ((zbm a+4-w) % 4) none++some a::(dgo (wayB a) l).1)++_,_);simp;rfl
theorem zgt:∀(l:List Nat) (w:Nat),(dgo w l).1.length<=4*l.length
 |[],w=>by simp[dgo]
 |a::l,w=>by
  have ih:=zgt l (wayB a);show (Aj ((zbm a+4-w) % 4) none++some a::(dgo (wayB a) l).1).length<=_;have:(zbm a+4-w) % 4<4:=AU _ (by decide);simp only[Ap,B3,A5];lia
theorem zh8:∀(l:List Nat) (w:Nat),w<4->(dgo w l).2<4
 |[],w,h=>h
 |a::l,w,h=>zh8 l (wayB a) (AU _ (by decide))
theorem zjG(s:Nat):zbm s<4:=AU _ (by decide)
theorem ziV(n:Nat):(Aj n [V.non]).flatten=(Aj n (none:Option Nat)).map sv:=by
 induction n with
 |zero=>rfl
 |succ n ih=>rw[BW,Bk,ih];rfl
theorem zbn{n:Nat}(h:n<=5000):n<sizeLine:=Nat.lt_of_le_of_lt h (by decide)
theorem ziK:1<=sizeLine:=by decide
noncomputable def zgM:Sp:=λvs H Q _=>∃(v:V) (r:Rnd),vs=[v]/\rR r v H/\(r.so = "rim" ∨ r.so = "hole")/\∀p H',H p=none->Same H H'->H' p=some (.tup (edgeT (begE r)))->Q (.ref p) H'
theorem zgh (T:Txt P w K mg) (d:Df K mg "begin_edge" zcH ["one"]):FnOk P w K mg base CX0 1 d.f d.fd ["one"] zgM:=by
 refine d.F.ok zbt (λvs H Q E h=>?_) (λcdv A outer s H vs Q E hr h=>?_)
 .obtain⟨v,r,rfl,_⟩:=h;rfl
 .obtain⟨v,r,rfl,⟨a,b,rfl,q1,q2⟩,hso,k⟩:=h
  refine⟨_,(zac (zbC (pv 0) (zbe (by rfl) (zag (nG 1 zbt.nd) (zag (nG 2 zbt.nd) (zag (nG 3 zbt.nd) (zag (nG 4 zbt.nd) zas))))))
   (zaf (zai (zax (pa_N (pv 2) (pa_N (pv 3) (zah (zkj (by rfl) T.ways (pv 1)) zab))))))),?_⟩
  refine⟨_,rfl,a,_,rfl,SqT.of q1,rfl,_,_,rfl,_,_,rfl,_,_,rfl,_,_,rfl,rfl,?_⟩;refine⟨_,rfl,_,rfl,_,rfl,?_⟩;rcases hso with e |e
  .refine .inl ⟨by rw[e],three,λp hp=>k p _ hp (Same.up hp) ?_⟩;rw[zaa];unfold begE edgeT kOf;simp only[e];rfl
  .refine .inr ⟨by rw[e],three,λp hp=>k p _ hp (Same.up hp) ?_⟩;rw[zaa];unfold begE edgeT kOf;simp only[e];rfl
noncomputable def zio:Sp:=λvs H Q _=>∃s:Nat,vs=[.int s]/\Q (.int (zbm s:Nat)) H
theorem zjo (d:Df K mg "way_for" zev ["step"]):FnOk P w K mg base CX0 1 d.f d.fd ["step"] zio:=by
 refine d.F.ok zjl (λvs H Q E h=>?_) (λcdv A outer s H vs Q E hr h=>?_)
 .obtain⟨s,rfl,_⟩:=h;rfl
 .obtain⟨t,rfl,k⟩:=h;refine⟨_,(zaf (zai (pe_op zaT (pe_op zkp (pe_op zaQ (pv 0) zae) zae) zae))),?_⟩;refine⟨_,rfl,_,_,rfl,rfl,_,_,rfl,rfl,⟨by decide,by decide⟩,_,_,rfl,rfl,(by show (0:Int)<4;decide),?_⟩;have e:((t:Int)+1) / 2 % 4=(zbm t:Nat):=by unfold zbm;lia
  show Q (V.int (((t:Int)+1) / 2 % 4)) H;rw[e];exact k
noncomputable def zj0(K:W.Frag):Sp:=λvs H Q _=>∃(wn:Nat) (b:Addr) (row:List Nat),vs=[.int (wn:Int),.ref b]/\wn<4/\SqT K H b (rowV row)/\row.length<=500 /\
 ∀p H',H p=none->Same H H'->H' p=some (.lst ((deeds wn row).map sv))->Q (.ref p) H'
theorem ze8 (g_way_for:Fn P w K mg base 1 "way_for" ["step"] zio) (d:Df K mg "deeds_along" zcn ["begin_way","row"]):FnOk P w K mg base CX0 2 d.f d.fd ["begin_way","row"] (zj0 K):=by
 refine d.F.ok zaX (λvs H Q E h=>?_) (λcdv A outer s H vs Q E hr h=>?_)
 .obtain⟨wn,b,row,rfl,_⟩:=h;rfl
 .obtain⟨wn,b,row,rfl,hw,hq,hlen,k⟩:=h
  refine⟨_,(zac (sE 2 zaX.nd (pv 0))
   (zac (sE 3 zaX.nd (zbu zab))
   (zac (zbR A8 rfl (ziC (pv 1)) (nG 4 zaX.nd)
   (zac (zcp (pe_bm A6 PySem.F.slot_list_extend PySem.F.type_list_extend zky (pv 3) (pa_B (pe_op zko (zbu (pa_C zbf zab)) (pe_op zaT (pe_op za5 (pC g_way_for hr (pa_N (pv 4) zab)) (pv 2)) zae)) zab)))
   (zac (zcp (pe_bm A6 Bx By zbD (pv 3) (pa_N (pv 4) zab)))
   (zaf (sE 2 zaX.nd (pe_op zaT (pe_op za5 (pC g_way_for hr (pa_N (pv 4) zab)) (pe_op zaT (pv 4) zae)) zae))))))
   (zac (sE 5 zaX.nd (zcq (zdr (pv 1) (λ_=>rfl)) (pe_op zaT (pe_op za5 (pv 0) (pv 2)) zae) zae))
   (zaf (zai (pe_op ziJ (pv 3) (pe_op zko (zbu (pa_C zbf zab)) (pv 5))))))))),?_⟩
  refine⟨_,rfl,(by show 0<=sizeLine;decide),λp hp=>?_⟩;have s0:Same H (upd H p (.lst [])):=Same.up hp;have e0:upd H p (.lst []) p=some (.lst []):=zaa;generalize upd H p (.lst [])=H0 at s0 e0;refine⟨_,rfl,b,rfl,⟨_,s0.seqT hq⟩,?_⟩;have hrl:(rowV row).length=row.length:=by unfold rowV;exact Af _
  refine zgq (K:=K) (a:=b) (xs:=rowV row) (λi σ H1=>∃o4 o5,σ=[some (.int (wn:Int)),some (.ref b),some (.int ((dgo wn (row.take i)).2:Nat)),some (.ref p),o4,o5]/\Same H H1/\H1 p=some (.lst ((dgo wn (row.take i)).1.map sv)))
   ⟨_,_,rfl,s0,e0⟩ (λi σ H1 _ ⟨_,_,_,s1,_⟩=>s1.seqT hq) ?_ ?_
  .rintro i v σ H1 hi ⟨o4,o5,rfl,s1,e1⟩;have hi':i<row.length:=by rw[<- hrl];exact (Ad.mp hi).1
   unfold rowV at hi;rw[Ak,Aa hi']at hi
   cases hi
   have hdl:=zgt (row.take i) wn;rw[Av]at hdl;have hdw:=zh8 (row.take i) wn hw;have hwf:=zjG row[i];have hn:=zi2 row[i] (row.take i) wn;rw[<- zaB (Aa hi')]at hn;refine⟨_,rfl,.inl ⟨rfl,_,SqL.of e1⟩,ziK,λl hl=>?_⟩;have s2:Same H1 (upd H1 l (.lst [.non])):=Same.up hl;have e2:upd H1 l (.lst [.non]) l=some (.lst [.non]):=zaa;generalize upd H1 l (.lst [.non])=H2 at s2 e2;refine⟨_,rfl,row[i],rfl,?_⟩;refine⟨_,rfl,_,_,rfl,rfl,_,_,rfl,rfl,(by show (0:Int)<4;decide),?_⟩;have ek:(((zbm row[i]:Nat):Int)-((dgo wn (row.take i)).2:Nat)) % 4=(((zbm row[i]+4-(dgo wn (row.take i)).2) % 4:Nat):Int):=by lia
   have k4:(zbm row[i]+4-(dgo wn (row.take i)).2) % 4<4:=AU _ (by decide);generalize hk:(zbm row[i]+4-(dgo wn (row.take i)).2) % 4=kk at *;refine⟨l,(kk:Int),_,rfl,congrArg V.int ek,e2,by lia,by lia,(Bg (zaj (by simp;lia))),λq hq'=>?_⟩;rw[CJ,ziV];have s3:Same H2 (upd H2 q (.lst ((Aj kk (none:Option Nat)).map sv))):=Same.up hq';have e3:upd H2 q (.lst ((Aj kk (none:Option Nat)).map sv)) q=some (.lst ((Aj kk (none:Option Nat)).map sv)):=zaa;have hpq:p≠q:=λz=>by subst z;rw[s2 _ _ e1]at hq';cases hq'
   generalize upd H2 q (.lst ((Aj kk (none:Option Nat)).map sv))=H3 at s3 e3;have e13:=s3 _ _ (s2 _ _ e1);refine⟨p,q,_,_,rfl,rfl,e13,e3,?_,?_⟩
   .simp only[Af,B3];exact Bg (zbn (by lia))
   have hp2:H p=none:=hp;have s4:Same H (upd H3 p (.lst ((dgo wn (row.take i)).1.map sv++(Aj kk (none:Option Nat)).map sv))):=zao hp2 (s1.trans (s2.trans s3));have e4:upd H3 p (.lst ((dgo wn (row.take i)).1.map sv++(Aj kk (none:Option Nat)).map sv)) p=some (.lst ((dgo wn (row.take i)).1.map sv++(Aj kk (none:Option Nat)).map sv)):=zaa;generalize upd H3 p (.lst ((dgo wn (row.take i)).1.map sv++(Aj kk (none:Option Nat)).map sv))=H4 at s4 e4;refine⟨_,rfl,.inl ⟨rfl,_,SqL.of e4⟩,_,rfl,p,_,_,rfl,rfl,e4,?_,?_⟩
   .simp only[Ap,Af,B3];exact zbn (by lia)
   have s5:Same H (upd H4 p (.lst (((dgo wn (row.take i)).1.map sv++(Aj kk (none:Option Nat)).map sv)++[V.int (row[i]:Nat)]))):=zao hp2 s4
   have e5:upd H4 p (.lst (((dgo wn (row.take i)).1.map sv++(Aj kk (none:Option Nat)).map sv)++[V.int (row[i]:Nat)])) p=some (.lst ((dgo wn (row.take (i+1))).1.map sv)):=by rw[zaa,hn];simp[sv]
   generalize upd H4 p (.lst (((dgo wn (row.take i)).1.map sv++(Aj kk (none:Option Nat)).map sv)++[V.int (row[i]:Nat)]))=H5 at s5 e5;refine⟨_,rfl,row[i],rfl,?_⟩;refine⟨_,rfl,_,_,rfl,rfl,(by show (0:Int)<2;decide),_,_,rfl,rfl,_,_,rfl,rfl,(by show (0:Int)<4;decide),?_⟩
   have ew:(((zbm row[i]:Nat):Int)-(row[i]:Int) % 2) % 4=((dgo wn (row.take (i+1))).2:Nat):=by rw[hn];show _=((wayB row[i]:Nat):Int);unfold wayB;lia
   refine⟨some (V.int (row[i]:Nat)),o5,?_,s5,e5⟩;exact congrArg (λz:Int=>[some (V.int (wn:Int)),some (V.ref b),some (V.int z),some (V.ref p),some (V.int (row[i]:Nat)),o5]) ew
  .rintro σ H1 ⟨o4,o5,rfl,s1,e1⟩;rw[hrl,AO]at e1;rw[hrl,AO];have hdl:=zgt row wn;have hdw:=zh8 row wn hw
   have fin:∀z:Int,z=(zaJ wn row:Nat)->tRet (tOp rCat (tVar 3) (tOp rRep (tLst (tCons (tC .non) tNil)) (tVar 5))) { nx:=λ_ H'=>Q .non H',rt:=Q } [some (.int (wn:Int)),some (.ref b),some (.int ((dgo wn row).2:Nat)),some (.ref p),o4,some (.int z)] H1:=λz hz=>by
    have hll:zaJ wn row<=4:=by
     unfold zaJ;split
     .decide
     .exact Bg (AU _ (by decide))
    refine⟨_,rfl,ziK,λl hl=>?_⟩;have s2:Same H1 (upd H1 l (.lst [.non])):=Same.up hl;have e2:upd H1 l (.lst [.non]) l=some (.lst [.non]):=zaa;generalize upd H1 l (.lst [.non])=H2 at s2 e2;subst hz;refine⟨_,rfl,l,_,_,rfl,rfl,e2,by lia,by lia,(Bg (zaj (by simp;lia))),λq hq'=>?_⟩;rw[CJ,ziV];have s3:Same H2 (upd H2 q (.lst ((Aj (zaJ wn row) (none:Option Nat)).map sv))):=Same.up hq';have e3:upd H2 q (.lst ((Aj (zaJ wn row) (none:Option Nat)).map sv)) q=some (.lst ((Aj (zaJ wn row) (none:Option Nat)).map sv)):=zaa;generalize upd H2 q (.lst ((Aj (zaJ wn row) (none:Option Nat)).map sv))=H3 at s3 e3;refine⟨p,q,_,_,rfl,rfl,s3 _ _ (s2 _ _ e1),e3,?_,λx hx=>?_⟩
    .simp only[Af,B3];exact Bg (zbn (by lia))
    .have s13:=s1.trans (s2.trans s3);refine k x _ (s13.free hx) (s13.trans (Same.up hx)) ?_
     rw[zaa];unfold deeds;rw[Ax]
   refine⟨_,rfl,_,.inr (.inl ⟨_,s1.seqT hq,rfl⟩),?_⟩
   by_cases he:row=[]
   .exact iteN (by rw[he];rfl) (fin 4 (by rw[he];rfl))
   .refine iteY (by cases row with |nil=>exact absurd rfl he |cons x r=>rfl) ⟨_,rfl,_,rfl,_,_,rfl,rfl,_,_,rfl,rfl,(by show (0:Int)<4;decide),fin _ ?_⟩
    have hl:zaJ wn row=(wn+4-(dgo wn row).2) % 4:=by unfold zaJ;rw[if_neg (by simpa using he)]
    rw[hl];lia
noncomputable def wby:Edge->List (Option Nat)->List (Edge×Option Nat)
 |_,[]=>[]
 |e,d::r=>(e,d)::wby (edgeB e d) r
noncomputable def eAt:Edge->List (Option Nat)->Edge
 |e,[]=>e
 |e,d::r=>eAt (edgeB e d) r
theorem zi0(d:Option Nat):∀(l:List (Option Nat)) (e:Edge),eAt e (l++[d])=edgeB (eAt e l) d
 |[],_=>rfl
 |_::l,e=>zi0 d l _
theorem zif(d:Option Nat):∀(l:List (Option Nat)) (e:Edge),wby e (l++[d])=wby e l++[(eAt e l,d)]
 |[],_=>rfl
 |a::l,e=>by
  show (e,a)::wby (edgeB e a) (l++[d])=_;rw[zif d l];rfl
theorem zfn:∀(l:List (Option Nat)) (e:Edge),(wby e l).length=l.length
 |[],_=>rfl
 |a::l,e=>by show (wby (edgeB e a) l).length+1=_;rw[zfn l];rfl
theorem zlS{e:Edge}{o:Option Nat}(h:e.w<4):(edgeB e o).w<4:=by
 unfold edgeB
 cases o with
 |none=>exact AU _ (by decide)
 |some s=>simp only;split <;> simp only <;> lia
theorem zmo:∀(l:List (Option Nat)){e:Edge},e.w<4->(eAt e l).w<4
 |[],_,h=>h
 |_::l,_,h=>zmo l (zlS h)
theorem zee{C:Cell->Bool}:∀(es:List Edge){b:Edge},es[0]?=some b∨es=[]->(∀i e f,es[i]?=some e->es[i+1]?=some f->f=nxt C e)->wby b (es.map (stepB C))=wk C es
 |[],_,_,_=>rfl
 |e::r,b,h0,hs=>by
  have hb:e=b:=by rcases h0 with h |h;simpa using h;cases h
  subst hb;show (e,stepB C e)::wby (nxt C e) (r.map (stepB C))=(e,stepB C e)::wk C r;rw[zee r (b:=nxt C e) ?_ λi x y h1 h2=>hs (i+1) x y (by simpa using h1) (by simpa using h2)]
  cases r with
  |nil=>exact .inr rfl
  |cons f r=>exact .inl (by have:=hs 0 e f rfl rfl;rw[<- this];rfl)
noncomputable def ziq(K:W.Frag):Sp:=λvs H Q _=>∃(a l:Addr) (b:Edge) (ds:List (Option Nat)),vs=[.ref a,.ref l]/\H a=some (.tup (edgeT b))/\b.w<4/\H l=some (.lst (ds.map sv))/\(∀s,some s∈ds->s<8)/\ds.length<=3000 /\
 ∀p H' ws,H p=none->Same H H'->H' p=some (.lst ws)->VR ws (wby b ds) wR H'->Q (.ref p) H'
theorem zjq (g_edge_behind:Fn P w K mg base 2 "edge_behind" ["edge","step"] (zek K)) (d:Df K mg "walk_by" zex ["begin","deeds"]):FnOk P w K mg base CX0 3 d.f d.fd ["begin","deeds"] (ziq K):=by
 refine d.F.ok zca (λvs H Q E h=>?_) (λcdv A outer s H vs Q E hr h=>?_)
 .obtain⟨a,l,b,ds,rfl,_⟩:=h;rfl
 .obtain⟨a,l,b,ds,rfl,ha,hb,hl,h8,hlen,k⟩:=h
  refine⟨_,(zac (sE 2 zca.nd (zbu zab))
   (zac (sE 3 zca.nd (pv 0))
   (zac (zbR A8 rfl (zaP (pv 1)) (nG 4 zca.nd)
   (zac (zcp (pe_bm A6 Bx By zbD (pv 2) (pa_T (zax (pa_N (pv 3) (pa_N (pv 4) zab))) zab)))
   (zaf (sE 3 zca.nd (pC g_edge_behind hr (pa_N (pv 3) (pa_N (pv 4) zab)))))))
   (zaf (zai (pv 2)))))),?_⟩
  refine⟨(by show 0<=sizeLine;decide),λp hp=>?_⟩;have s0:Same H (upd H p (.lst [])):=Same.up hp;have e0:upd H p (.lst []) p=some (.lst []):=zaa;generalize upd H p (.lst [])=H0 at s0 e0;refine⟨_,rfl,_,rfl,l,rfl,⟨_,SqL.of (s0 _ _ hl)⟩,?_⟩
  refine zay (K:=K) (a:=l) (xs:=ds.map sv) (λi σ H1=>∃(c:Addr) (o4:Option V) (ws:List V),σ=[some (.ref a),some (.ref l),some (.ref p),some (.ref c),o4]/\Same H H1/\H1 c=some (.tup (edgeT (eAt b (ds.take i))))/\H1 p=some (.lst ws)/\VR ws (wby b (ds.take i)) wR H1)
   ⟨a,_,[],rfl,s0,s0 _ _ ha,e0,VR.nil⟩ (λi σ H1 _ ⟨_,_,_,_,s1,_⟩=>SqL.of (s1 _ _ hl)) ?_ ?_
  .rintro i v σ H1 hi ⟨c,o4,ws,rfl,s1,hc,e1,hv⟩;have hi':i<ds.length:=by have:=(Ad.mp hi).1;rwa [Af]at this
   rw[Ak,Aa hi']at hi
   cases hi
   have tk:=zaB (Aa hi');have wl:ws.length<=3000:=by rw[hv.1,zfn,Av];lia
   refine⟨_,rfl,.inl ⟨rfl,_,SqL.of e1⟩,_,rfl,_,rfl,two,λt ht=>?_⟩;have s2:Same H1 (upd H1 t (.tup [.ref c,sv ds[i]])):=Same.up ht;have e2:upd H1 t (.tup [.ref c,sv ds[i]]) t=some (.tup [.ref c,sv ds[i]]):=zaa;generalize upd H1 t (.tup [.ref c,sv ds[i]])=H2 at s2 e2;have e12:=s2 _ _ e1;refine⟨p,ws,_,rfl,rfl,e12,zbn (by lia),?_⟩;have kt3:KT H2 (upd H2 p (.lst (ws++[.ref t]))):=KT.lst e12;have s3:Same H (upd H2 p (.lst (ws++[.ref t]))):=zao hp (s1.trans s2);have e3:upd H2 p (.lst (ws++[.ref t])) p=some (.lst (ws++[.ref t])):=zaa;generalize upd H2 p (.lst (ws++[.ref t]))=H3 at kt3 s3 e3;have hc3:=kt3 _ _ (s2 _ _ hc);refine⟨_,rfl,_,rfl,c,eAt b (ds.take i),ds[i],rfl,SqT.of hc3,zmo _ hb,λz hz=>h8 z (hz ▸ AW _),λq H4 hq s4 e4=>?_⟩;refine⟨q,_,ws++[.ref t],rfl,s3.trans s4,?_,s4 _ _ e3,?_⟩
   .rw[tk,zi0];exact e4
   .rw[tk,zif];exact hv.snoc (λx v h=>((h.kt (KT.of s2)).kt kt3).kt (KT.of s4)) ⟨t,c,rfl,s4 _ _ (kt3 _ _ e2),s4 _ _ hc3⟩
  .rintro σ H1 ⟨c,o4,ws,rfl,s1,hc,e1,hv⟩;rw[Af,AO]at hv;exact⟨_,rfl,k p H1 ws hp s1 e1 hv⟩
noncomputable def zej(K:W.Frag):Sp:=λvs H Q _=>∃(a b:Addr) (e:Edge) (row:List Nat),vs=[.ref a,.ref b]/\H a=some (.tup (edgeT e))/\e.w<4/\SqT K H b (rowV row)/\row.length<=500/\(∀s,some s∈deeds e.w row->s<8) /\
 ∀p H' ws,H p=none->Same H H'->H' p=some (.lst ws)->VR ws (wby e (deeds e.w row)) wR H'->Q (.ref p) H'
theorem zga (g_walk_by:Fn P w K mg base 3 "walk_by" ["begin","deeds"] (ziq K)) (g_deeds_along:Fn P w K mg base 2 "deeds_along" ["begin_way","row"] (zj0 K)) (d:Df K mg "walk_along" zcC ["begin","row"]):FnOk P w K mg base CX0 4 d.f d.fd ["begin","row"] (zej K):=by
 refine d.F.ok zfX (λvs H Q E h=>?_) (λcdv A outer s H vs Q E hr h=>?_)
 .obtain⟨a,b,e,row,rfl,_⟩:=h;rfl
 .obtain⟨a,b,e,row,rfl,ha,hw,hq,hlen,h8,k⟩:=h;refine⟨_,(zaf (zai (pC g_walk_by hr (pa_N (pv 0) (zah (pC g_deeds_along hr (zah (pe_ix zaV (pv 0) zae (λ_ _=>rfl)) (pa_N (pv 1) zab))) zab))))),?_⟩;refine⟨_,rfl,_,rfl,a,_,_,_,rfl,rfl,SqT.of ha,zal (j:=2) rfl,_,rfl,e.w,b,row,rfl,hw,hq,hlen,λp H1 hp s1 e1=>?_⟩
  have hd:(deeds e.w row).length<=3000:=by
   unfold deeds;have:=zgt row e.w
   have:zaJ e.w row<=4:=by
    unfold zaJ;split
    .decide
    .exact Bg (AU _ (by decide))
   simp only[Ap,B3];lia
  exact⟨a,p,e,_,rfl,s1 _ _ ha,hw,e1,h8,hd,λq H2 ws hq2 s2 e2 hv=>k q H2 ws (s1.free hq2) (s1.trans s2) e2 hv⟩
noncomputable def sR(q:Cell×Bool)(v:V)(H:Hp):Prop:=∃A b,v=.ref A/\H A=some (.tup [.ref b,.bl q.2])/\H b=some (.tup (cellT q.1))
theorem sR.kt{q:Cell×Bool}{v:V}{H H':Hp}(h:sR q v H)(s:KT H H'):sR q v H':=let ⟨A,b,e,q1,q2⟩:=h;⟨A,b,e,s _ _ q1,s _ _ q2⟩
noncomputable def zma(K:W.Frag):Sp:=λvs H Q _=>∃(a:Addr) (C:Cell->Bool) (e:Edge),vs=[.ref a,sv (stepB C e)]/\H a=some (.tup (edgeT e))/\IsE C e /\
 ∀p H' ss L,H p=none->Same H H'->H' p=some (.lst ss)->VR ss L sR H'->(∀q∈L,C q.1=q.2)->L.length<=6->Q (.ref p) H'
theorem zeD (g_edge_behind:Fn P w K mg base 2 "edge_behind" ["edge", "step"] (zek K)) (g_gap_beside:Fn P w K mg base 2 "gap_beside" ["edge"] (spGap K)) (g_is_slant:Fn P w K mg base 1 "is_slant" ["step"] zdj)
  (g_gone:Fn P w K mg base 1 "gone" ["x","y","step"] zgL) (g_slant_step:Fn P w K mg base 1 "slant_step" ["way"] zhz) (g_straight_step:Fn P w K mg base 1 "straight_step" ["way"] zdC)
  (d:Df K mg "seen_between" zb1 ["edge","step"]):FnOk P w K mg base CX0 3 d.f d.fd ["edge","step"] (zma K):=by
 refine d.F.ok zaN (λvs H Q E h=>?_) (λcdv A outer s H vs Q E hr h=>?_)
 .obtain⟨a,C,e,rfl,_⟩:=h;rfl
 .obtain⟨a,C,e,rfl,ha,hE,k⟩:=h
  refine⟨_,(zac (zbC (pv 0) (zbe (by rfl) (zag (nG 2 zaN.nd) (zag (nG 3 zaN.nd) (zag (nG 4 zaN.nd) zas)))))
   (zac (sE 5 zaN.nd (pC g_edge_behind hr (pa_N (pv 0) (pa_N (pv 1) zab))))
   (zac (sE 6 zaN.nd (zbu (pa_T (zax (pa_T (zax (pa_N (pv 2) (pa_N (pv 3) zab))) (pa_C pe_bl zab))) (pa_T (zax (zah (pC g_gap_beside hr (pa_N (pv 0) zab)) (pa_C pe_bl zab))) (pa_T (zax (zah (zaI zel (pv 5) za4 (za3 zae)) (pa_C pe_bl zab))) (pa_T (zax (zah (pC g_gap_beside hr (pa_N (pv 5) zab)) (pa_C pe_bl zab))) zab))))))
   (zac (ps_if (zez (zdR (pC g_is_slant hr (pa_N (pv 1) zab))))
   (zaf (zcp (pe_bm A6 Bx By zbD (pv 6) (pa_T (zax (zah (pC g_gone hr (pa_N (pv 2) (pa_N (pv 3) (zah (pC g_slant_step hr (pa_N (pv 4) zab)) zab)))) (pa_C pe_bl zab))) zab))))
   zau)
   (zac (ps_if (zar zgZ (pv 1) zbf (zan _))
   (zaf (zcp (pe_bm A6 Bx By zbD (pv 6) (pa_T (zax (zah (pC g_gone hr (pa_N (pv 2) (pa_N (pv 3) (zah (pC g_straight_step hr (pa_N (pv 4) zab)) zab)))) (pa_C pe_bl zab))) zab))))
   zau)
   (zaf (zai (pv 6)))))))),?_⟩
  have hw:=hE.1;have hN:=zcc hE;refine⟨_,rfl,a,_,rfl,SqT.of ha,rfl,_,_,rfl,_,_,rfl,_,_,rfl,rfl,?_⟩;refine⟨_,rfl,_,rfl,a,e,stepB C e,rfl,SqT.of ha,hw,zbU hw,λp1 H1 hp1 s1 e1=>?_⟩;change H1 p1=some (.tup (edgeT (nxt C e))) at e1;refine⟨_,rfl,_,rfl,two,λt1 ht1=>⟨two,λt2 ht2=>?_⟩⟩;have s2:Same H1 (upd (upd H1 t1 (.tup [.int e.c.1,.int e.c.2])) t2 (.tup [.ref t1,.bl true])):=(Same.up ht1).trans (Same.up ht2);have r1:sR (e.c,true) (.ref t2) (upd (upd H1 t1 (.tup [.int e.c.1,.int e.c.2])) t2 (.tup [.ref t1,.bl true])):=⟨t2,t1,rfl,zaa,by rw[zam (λz=>by subst z;rw[zaa]at ht2;cases ht2),zaa];rfl⟩;generalize upd (upd H1 t1 (.tup [.int e.c.1,.int e.c.2])) t2 (.tup [.ref t1,.bl true])=H2 at s2 r1;refine⟨_,rfl,a,e,rfl,SqT.of ((s1.trans s2) _ _ ha),hw,λp3 H3 hp3 s3 e3=>⟨two,λt3 ht3=>?_⟩⟩;have s4:Same H3 (upd H3 t3 (.tup [.ref p3,.bl false])):=Same.up ht3;have r2:sR (gap e,false) (.ref t3) (upd H3 t3 (.tup [.ref p3,.bl false])):=⟨t3,p3,rfl,zaa,s4 _ _ e3⟩;generalize upd H3 t3 (.tup [.ref p3,.bl false])=H4 at s4 r2;have s14:=s2.trans (s3.trans s4);have e14:=s14 _ _ e1;have hs1:HT.sIx 3 3 (some 2)=2:=by decide
  refine⟨_,rfl,_,rfl,p1,_,rfl,SqT.of e14,λhx=>absurd (show (3:Nat)=2 from hx.2.symm.trans hs1) (by decide),λ_ t5 ht5=>⟨two,λt6 ht6=>?_⟩⟩;have ec:cutV (edgeT (nxt C e)) none (some 2)=cellT (nxt C e).c:=rfl;have s6:Same H4 (upd (upd H4 t5 (.tup (cutV (edgeT (nxt C e)) none (some 2)))) t6 (.tup [.ref t5,.bl true])):=(Same.up ht5).trans (Same.up ht6);have r3:sR ((nxt C e).c,true) (.ref t6) (upd (upd H4 t5 (.tup (cutV (edgeT (nxt C e)) none (some 2)))) t6 (.tup [.ref t5,.bl true])):=⟨t6,t5,rfl,zaa,by rw[zam (λz=>by subst z;rw[zaa]at ht6;cases ht6),zaa,ec]⟩;generalize upd (upd H4 t5 (.tup (cutV (edgeT (nxt C e)) none (some 2)))) t6 (.tup [.ref t5,.bl true])=H6 at s6 r3;refine⟨_,rfl,p1,nxt C e,rfl,SqT.of (s6 _ _ e14),hN.1,λp7 H7 hp7 s7 e7=>⟨two,λt7 ht7=>?_⟩⟩;have s8:Same H7 (upd H7 t7 (.tup [.ref p7,.bl false])):=Same.up ht7;have r4:sR (gap (nxt C e),false) (.ref t7) (upd H7 t7 (.tup [.ref p7,.bl false])):=⟨t7,p7,rfl,zaa,s8 _ _ e7⟩;generalize upd H7 t7 (.tup [.ref p7,.bl false])=H8 at s8 r4;refine⟨(by show 4<=sizeLine;decide),λl hl=>?_⟩;have s48:=s6.trans (s7.trans s8);have s28:=s3.trans (s4.trans s48);have s08:=s1.trans (s2.trans s28);have kl:KT H8 (upd H8 l (.lst [.ref t2,.ref t3,.ref t6,.ref t7])):=KT.up hl;have sl:Same H (upd H8 l (.lst [.ref t2,.ref t3,.ref t6,.ref t7])):=s08.trans (Same.up hl);have el:upd H8 l (.lst [.ref t2,.ref t3,.ref t6,.ref t7]) l=some (.lst [.ref t2,.ref t3,.ref t6,.ref t7]):=zaa;have hl0:H l=none:=s08.free hl
  have hv:VR [.ref t2,.ref t3,.ref t6,.ref t7] [(e.c,true),(gap e,false),((nxt C e).c,true),(gap (nxt C e),false)] sR (upd H8 l (.lst [.ref t2,.ref t3,.ref t6,.ref t7])) :=
   VR.cons.mpr ⟨(r1.kt (KT.of s28)).kt kl,VR.cons.mpr ⟨(r2.kt (KT.of s48)).kt kl,VR.cons.mpr ⟨(r3.kt (KT.of (s7.trans s8))).kt kl,VR.cons.mpr ⟨r4.kt kl,VR.nil⟩⟩⟩⟩
  generalize upd H8 l (.lst [.ref t2,.ref t3,.ref t6,.ref t7])=H9 at kl sl el hv
  have hL:∀q∈[(e.c,true),(gap e,false),((nxt C e).c,true),(gap (nxt C e),false)],C q.1=q.2:=by
   intro q hq;simp only[At,B6,or_false]at hq;rcases hq with rfl |rfl |rfl |rfl
   .exact hE.2.1
   .exact hE.2.2
   .exact hN.2.1
   .exact hN.2.2
  rcases zaw hE with⟨c1,hs,_⟩ |⟨c1,c2,hs,_⟩ |⟨c1,c2,hs,_⟩ <;> rw[hs]
  .refine⟨_,rfl,some ((2*e.w+7) % 8),rfl,_,rfl,?_⟩;have:slant (some ((2*e.w+7) % 8))=true:=by show ((2*e.w+7) % 8 % 2 == 1)=true;rw[odd7];rfl
   rw[this];refine iteF ?_
   refine⟨_,rfl,rfl,_,rfl,iteF ?_⟩;exact⟨_,rfl,k l H9 _ _ hl0 sl el hv hL (by show 4<=6;decide)⟩
  .refine⟨_,rfl,some (2*e.w),rfl,_,rfl,?_⟩;have:slant (some (2*e.w))=false:=by show ((2*e.w) % 2 == 1)=false;rw[show 2*e.w % 2=0 by lia];rfl
   rw[this];refine iteT ?_
   refine⟨_,rfl,.inl ⟨rfl,_,SqL.of el⟩,_,rfl,_,rfl,_,rfl,e.w,rfl,hw,e.c,(2*e.w+7) % 8,rfl,AU _ (by decide),λp10 H10 hp10 s10 e10=>⟨two,λt11 ht11=>?_⟩⟩;have s11:Same H10 (upd H10 t11 (.tup [.ref p10,.bl false])):=Same.up ht11;have r5:sR (go e.c ((2*e.w+7) % 8),false) (.ref t11) (upd H10 t11 (.tup [.ref p10,.bl false])):=⟨t11,p10,rfl,zaa,s11 _ _ e10⟩;generalize upd H10 t11 (.tup [.ref p10,.bl false])=H11 at s11 r5;have el11:=(s10.trans s11) _ _ el;refine⟨l,_,_,rfl,rfl,el11,zbn (by show 4<=5000;decide),?_⟩;have kt12:KT H11 (upd H11 l (.lst ([.ref t2,.ref t3,.ref t6,.ref t7]++[.ref t11]))):=KT.lst el11;have s12:Same H (upd H11 l (.lst ([.ref t2,.ref t3,.ref t6,.ref t7]++[.ref t11]))):=zao hl0 (sl.trans (s10.trans s11));have e12:upd H11 l (.lst ([.ref t2,.ref t3,.ref t6,.ref t7]++[.ref t11])) l=some (.lst ([.ref t2,.ref t3,.ref t6,.ref t7]++[.ref t11])):=zaa;have hv12:=hv.snoc (λx v h=>(h.kt (KT.of (s10.trans s11))).kt kt12) (r5.kt kt12);generalize upd H11 l (.lst ([.ref t2,.ref t3,.ref t6,.ref t7]++[.ref t11]))=H12 at kt12 s12 e12 hv12;refine⟨_,rfl,rfl,_,rfl,iteF ?_⟩;refine⟨_,rfl,k l H12 _ _ hl0 s12 e12 hv12 (λq hq=>?_) (by show 5<=6;decide)⟩;rcases Bf.mp hq with m |m
   .exact hL q m
   .rw[AA.mp m];exact c1
  .refine⟨_,rfl,none,rfl,_,rfl,iteT ?_⟩;refine⟨_,rfl,.inl ⟨rfl,_,SqL.of el⟩,_,rfl,_,rfl,_,rfl,e.w,rfl,hw,e.c,(2*e.w+7) % 8,rfl,AU _ (by decide),λp10 H10 hp10 s10 e10=>⟨two,λt11 ht11=>?_⟩⟩;have s11:Same H10 (upd H10 t11 (.tup [.ref p10,.bl false])):=Same.up ht11;have r5:sR (go e.c ((2*e.w+7) % 8),false) (.ref t11) (upd H10 t11 (.tup [.ref p10,.bl false])):=⟨t11,p10,rfl,zaa,s11 _ _ e10⟩;generalize upd H10 t11 (.tup [.ref p10,.bl false])=H11 at s11 r5;have el11:=(s10.trans s11) _ _ el;refine⟨l,_,_,rfl,rfl,el11,zbn (by show 4<=5000;decide),?_⟩;have kt12:KT H11 (upd H11 l (.lst ([.ref t2,.ref t3,.ref t6,.ref t7]++[.ref t11]))):=KT.lst el11;have s12:Same H (upd H11 l (.lst ([.ref t2,.ref t3,.ref t6,.ref t7]++[.ref t11]))):=zao hl0 (sl.trans (s10.trans s11));have e12:upd H11 l (.lst ([.ref t2,.ref t3,.ref t6,.ref t7]++[.ref t11])) l=some (.lst ([.ref t2,.ref t3,.ref t6,.ref t7]++[.ref t11])):=zaa;have hv12:=hv.snoc (λx v h=>(h.kt (KT.of (s10.trans s11))).kt kt12) (r5.kt kt12);generalize upd H11 l (.lst ([.ref t2,.ref t3,.ref t6,.ref t7]++[.ref t11]))=H12 at kt12 s12 e12 hv12;refine⟨_,rfl,rfl,_,rfl,iteT ?_⟩;refine⟨_,rfl,.inl ⟨rfl,_,SqL.of e12⟩,_,rfl,_,rfl,_,rfl,e.w,rfl,hw,e.c,2*e.w,rfl,by lia,λp13 H13 hp13 s13 e13=>⟨two,λt14 ht14=>?_⟩⟩;have s14':Same H13 (upd H13 t14 (.tup [.ref p13,.bl false])):=Same.up ht14;have r6:sR (go e.c (2*e.w),false) (.ref t14) (upd H13 t14 (.tup [.ref p13,.bl false])):=⟨t14,p13,rfl,zaa,s14' _ _ e13⟩;generalize upd H13 t14 (.tup [.ref p13,.bl false])=H14 at s14' r6;have e14':=(s13.trans s14') _ _ e12;refine⟨l,_,_,rfl,rfl,e14',zbn (by show 5<=5000;decide),?_⟩;have kt15:KT H14 (upd H14 l (.lst (([.ref t2,.ref t3,.ref t6,.ref t7]++[.ref t11])++[.ref t14]))):=KT.lst e14';have s15:Same H (upd H14 l (.lst (([.ref t2,.ref t3,.ref t6,.ref t7]++[.ref t11])++[.ref t14]))):=zao hl0 (s12.trans (s13.trans s14'));have e15:upd H14 l (.lst (([.ref t2,.ref t3,.ref t6,.ref t7]++[.ref t11])++[.ref t14])) l=some (.lst (([.ref t2,.ref t3,.ref t6,.ref t7]++[.ref t11])++[.ref t14])):=zaa;have hv15:=hv12.snoc (λx v h=>(h.kt (KT.of (s13.trans s14'))).kt kt15) (r6.kt kt15);refine⟨_,rfl,k l _ _ _ hl0 s15 e15 hv15 (λq hq=>?_) (by show 6<=6;decide)⟩;rcases Bf.mp hq with m |m
   .rcases Bf.mp m with m |m
    .exact hL q m
    .rw[AA.mp m];exact c1
   .rw[AA.mp m];exact c2
noncomputable def Known(C:Cell->Bool)(kvs:List (List Key×V)):Prop:=∀c v,valV kvs (kC c)=some v->v=.bl (C c)
noncomputable def zft(K:W.Frag):Sp:=λvs H Q _=>∃(a:Addr) (C:Cell->Bool) (es:List Edge),vs=[.ref a]/\LR K H a (wk C es) wR/\(∀e∈es,IsE C e)/\es.length<=500/\∀H',Same H H'->Q .non H'
theorem ze6 (g_seen_between:Fn P w K mg base 3 "seen_between" ["edge","step"] (zma K)) (d:Df K mg "gainsaid_at" zcl ["walk"]):FnOk P w K mg base CX0 4 d.f d.fd ["walk"] (zft K):=by
 refine d.F.ok zaz (λvs H Q E h=>?_) (λcdv A outer s H vs Q E hr h=>?_)
 .obtain⟨a,C,es,rfl,_⟩:=h;rfl
 .obtain⟨a,C,es,rfl,hLR,hE,hlen,k⟩:=h;have hu1:=hu_of hr
  refine⟨_,(zac (sE 1 zaz.nd ziE)
   (zac (sE 2 zaz.nd zae)
   (zac (zbR A8 rfl (zaP (pv 0)) (zbe (by rfl) (zag (nG 3 zaz.nd) (zag (nG 4 zaz.nd) zas)))
   (zac (zbR A8 rfl (zaP (pC g_seen_between hr (pa_N (pv 3) (pa_N (pv 4) zab)))) (zbe (by rfl) (zag (nG 5 zaz.nd) (zag (nG 6 zaz.nd) zas)))
   (zaf (ps_if (zar op_ne (zlC hu1 (pv 1) (pv 5) (pv 6) ⟨rfl,rfl,rfl,rfl⟩) (pv 6) (zan _))
   (zaf (zai (pv 2)))
   zau)))
   (zaf (ps_if (zar zdI (pv 4) zbf (zan _))
   (zaf (znB (i:=2) zaz.nd (by rfl) (Or.inl rfl) zae znT))
   zau))))
   (zaf (zai zbf))))),?_⟩
  obtain⟨ws,hq,hv⟩:=hLR.vr;have hwl:ws.length=es.length:=by rw[hv.1,zaF]
  refine λdd hdd=>?_
  have s0:Same H (upd H dd (.dT [])):=Same.up hdd;have d0:upd H dd (.dT []) dd=some (.dT []):=zaa;generalize upd H dd (.dT [])=H0 at s0 d0;refine⟨_,rfl,a,rfl,⟨_,s0.seq hq⟩,?_⟩
  refine zay (K:=K) (a:=a) (xs:=ws) (λi σ H1=>∃(n:Int) (o3 o4 o5 o6:Option V) (kvs:List (List Key×V)),σ=[some (.ref a),some (.ref dd),some (.int n),o3,o4,o5,o6]/\Same H H1/\H1 dd=some (.dT kvs)/\Known C kvs/\kvs.length<=6*i)
   ⟨_,_,_,_,_,[],rfl,s0,d0,(λc v h=>by cases h),Bj _⟩ (λi σ H1 _ ⟨_,_,_,_,_,_,_,s1,_⟩=>s1.seq hq) ?_ ?_
  .rintro i v σ H1 hi ⟨n,o3,o4,o5,o6,kvs,rfl,s1,d1,hk,hkl⟩;obtain⟨⟨e,st⟩,he,B,b,rfl,q1,q2⟩:=hv.at hi;have hi':i<es.length:=by rw[<- hwl];exact (Ad.mp hi).1
   have he':es[i]?=some e/\st=stepB C e:=by
    unfold wk at he;rw[Ak]at he;obtain⟨g,hg,eg⟩:=AY.mp he
    cases eg
    exact⟨hg,rfl⟩
   obtain⟨he1,rfl⟩:=he';have hEe:=hE e (Ah he1);refine⟨B,_,rfl,SqT.of (s1 _ _ q1),rfl,_,_,rfl,_,_,rfl,rfl,?_⟩;refine⟨_,rfl,_,rfl,b,C,e,rfl,s1 _ _ q2,hEe,λp H2 ss L hp s2 e2 hs2 hL hLl=>?_⟩;have hpd:p≠dd:=λz=>by subst z;rw[d1]at hp;cases hp
   have d2:=s2 _ _ d1;refine⟨p,rfl,⟨_,SqL.of e2⟩,?_⟩
   refine zay (K:=K) (a:=p) (xs:=ss) (λj σ H3=>∃(o5 o6:Option V) (kv3:List (List Key×V)),σ=[some (.ref a),some (.ref dd),some (.int n),some (.ref b),some (sv (stepB C e)),o5,o6]/\(∀z o,z≠dd->H2 z=some o->H3 z=some o)/\H3 dd=some (.dT kv3)/\Known C kv3/\kv3.length<=6*i+j)
    ⟨_,_,kvs,rfl,(λz o _ h=>h),d2,hk,by lia⟩ (λj σ H3 _ ⟨_,_,_,_,k3,_⟩=>SqL.of (k3 _ _ hpd e2)) ?_ ?_
   .rintro j u σ H3 hj ⟨o5,o6,kv3,rfl,k3,d3,hk3,hl3⟩;obtain⟨⟨c,t⟩,hq',A2,b2,rfl,r1,r2⟩:=hs2.at hj;have hjl:j<L.length:=by rw[<- hs2.1];exact (Ad.mp hj).1
    have hct:C c=t:=hL _ (Ah hq');have nA:A2≠dd:=ne_of r1 d2 (λz=>nomatch z);have nb:b2≠dd:=ne_of r2 d2 (λz=>nomatch z);refine⟨A2,_,rfl,SqT.of (k3 _ _ nA r1),rfl,_,_,rfl,_,_,rfl,rfl,?_⟩;refine⟨_,rfl,dd,rfl,.inr ⟨_,Rd.of d3⟩,_,rfl,_,rfl,kv3,kC c,b2,d3,rfl,k3 _ _ nb r2,zbn (by lia),λv hv'=>?_,λhn=>?_⟩
    .have hv2:v=.bl t:=by rw[hk3 c v hv',hct]
     subst hv2;refine⟨_,rfl,rfl,_,rfl,iteN (by simp) ?_⟩;exact⟨_,_,kv3,rfl,k3,d3,hk3,by lia⟩
    .refine⟨_,rfl,rfl,_,rfl,iteN (by simp) ?_⟩;refine⟨_,_,putK kv3 (kC c) (.bl t),rfl,(λz o hz h=>by rw[zam hz];exact k3 z o hz h),zaa,(λc' v' hv'=>?_),Ba (za6 _ _ _) (by lia)⟩;rw[zfK]at hv'
     by_cases ec:c'=c
     .subst ec;rw[if_pos rfl]at hv'
      cases hv'
      rw[hct]
     .rw[if_neg (λz=>ec (zkN.mp z))]at hv';exact hk3 c' v' hv'
   .rintro σ H3 ⟨o5,o6,kv3,rfl,k3,d3,hk3,hl3⟩;have s3:Same H H3:=λz o h=>k3 z o (zaq h hdd) (s2 _ _ (s1 _ _ h))
    have hl4:kv3.length<=6*(i+1):=by have:=hs2.1;lia
    cases hst:stepB C e with
    |none =>
     refine⟨_,rfl,rfl,_,rfl,iteF ?_⟩;exact⟨_,_,_,_,_,kv3,rfl,s3,d3,hk3,hl4⟩
    |some z =>
     refine⟨_,rfl,rfl,_,rfl,iteT ?_⟩;refine⟨_,rfl,_,_,rfl,rfl,?_⟩;exact⟨_,_,_,_,_,kv3,rfl,s3,d3,hk3,hl4⟩
  .rintro σ H1 ⟨n,o3,o4,o5,o6,kvs,rfl,s1,d1,hk,hkl⟩;exact k H1 s1
theorem zlZ{α:Type}{xs:List α}(h:0<xs.length):atI xs (-1)=xs[xs.length-1]?:=by unfold atI ixN;rw[if_neg (by decide),if_pos (by lia)];show xs[((-1:Int)+xs.length).toNat]?=_;rw[show ((-1:Int)+xs.length).toNat=xs.length-1 by lia]
noncomputable def zj1(K:W.Frag):Sp:=λvs H Q _=>∃(a:Addr) (C:Cell->Bool) (b:Edge) (es:List Edge),vs=[.ref a]/\LR K H a (wk C es) wR/\Closed C b es/\es.length<=500/\∀H',Same H H'->Q (.bl true) H'
theorem zge (g_edge_behind:Fn P w K mg base 2 "edge_behind" ["edge","step"] (zek K)) (d:Df K mg "comes_back" zcF ["walk"]):FnOk P w K mg base CX0 3 d.f d.fd ["walk"] (zj1 K):=by
 refine d.F.ok zcf (λvs H Q E h=>?_) (λcdv A outer s H vs Q E hr h=>?_)
 .obtain⟨a,C,b,es,rfl,_⟩:=h;rfl
 .obtain⟨a,C,b,es,rfl,hLR,hcl,hlen,k⟩:=h;have hu64:=hr.units
  refine⟨_,(zac (zbC (pe_ix zaD (pv 0) (pe_un zii zae) (λ_ _=>rfl)) (zbe (by rfl) (zag (nG 1 zcf.nd) (zag (nG 2 zcf.nd) zas))))
   (zaf (zai (zaK (zfy hu64) (pC g_edge_behind hr (pa_N (pv 1) (pa_N (pv 2) zab))) (pe_ix zaV (pe_ix zaD (pv 0) zae (λ_ _=>rfl)) zae (λ_ _=>rfl)) (zan _))))),?_⟩
  obtain⟨ws,hq,hv⟩:=hLR.vr;have hwl:ws.length=es.length:=by rw[hv.1,zaF]
  have hp:=hcl.pos;obtain⟨hch,l,hl,hb⟩:=id hcl;obtain⟨v1,hv1⟩:∃v,ws[ws.length-1]?=some v:=⟨_,Aa (by lia)⟩;obtain⟨⟨e1,st1⟩,he1,B1,b1,rfl,q1,q2⟩:=hv.at hv1;obtain⟨v0,hv0⟩:∃v,ws[0]?=some v:=⟨_,Aa (by lia)⟩;obtain⟨⟨e0,st0⟩,he0,B0,b0,rfl,r1,r2⟩:=hv.at hv0
  have h1:e1=l/\st1=stepB C l:=by
   unfold wk at he1;rw[hwl,Ak,hl]at he1
   cases he1;exact⟨rfl,rfl⟩
  obtain⟨rfl,rfl⟩:=h1
  have h0:e0=b:=by
   unfold wk at he0;rw[Ak,hch.1]at he0
   cases he0;rfl
  subst h0;have hEl:IsE C e1:=hch.2.2.1 e1 (Ah hl);refine⟨_,rfl,_,rfl,a,ws,_,_,rfl,rfl,hq,(zlZ (by lia)).trans hv1,?_⟩;refine⟨B1,_,rfl,SqT.of q1,rfl,_,_,rfl,_,_,rfl,rfl,?_⟩;refine⟨_,rfl,_,rfl,b1,e1,stepB C e1,rfl,SqT.of q2,hEl.1,zbU hEl.1,λp H1 hp1 s1 f1=>?_⟩;refine⟨_,rfl,a,ws,_,_,rfl,rfl,s1.seq hq,(zal (j:=0) hv0),B0,_,_,_,rfl,rfl,SqT.of (s1 _ _ r1),zal (j:=0) rfl,?_⟩;refine⟨_,_,zcJ f1,zcJ (s1 _ _ r2),zav _,zav _,?_⟩;rw[zcv,decide_eq_true (by show eI (nxt C e1)=eI e0;rw[hb])];exact k H1 s1
theorem nL_wk(C:Cell->Bool)(es:List Edge):nL (wk C es)=(es.filter λe=>(stepB C e).isNone).length:=by unfold nL wk;rw[Cg,Af];rfl
theorem nS_wk(C:Cell->Bool)(es:List Edge):nS (wk C es)=(es.filter λe=>slant (stepB C e)).length:=by unfold nS wk;rw[Cg,Af];rfl
theorem zjI{C:Cell->Bool}{b:Edge}{es:List Edge}(h:Closed C b es):(nL (wk C es):Int)-nS (wk C es)=4∨(nL (wk C es):Int)-nS (wk C es)=-4:=by rw[nL_wk,nS_wk,<- zfO];exact h.turning
noncomputable def zfs(K:W.Frag):Sp:=λvs H Q _=>∃(a:Addr) (C:Cell->Bool) (b:Edge) (es:List Edge),vs=[.ref a,.str (sortS (wk C es))]/\LR K H a (wk C es) wR/\Closed C b es/\es.length<=500/\∀H',Same H H'->Q (.bl true) H'
theorem zg4 (T:Txt P w K mg) (g_comes_back:Fn P w K mg base 3 "comes_back" ["walk"] (zj1 K)) (g_lefts_less_slants:Fn P w K mg base 3 "lefts_less_slants" ["walk"] (zjY K)) (d:Df K mg "is_closed" zc4 ["walk","sort"]):FnOk P w K mg base CX0 4 d.f d.fd ["walk","sort"] (zfs K):=by
 refine d.F.ok zgS (λvs H Q E h=>?_) (λcdv A outer s H vs Q E hr h=>?_)
 .obtain⟨a,C,b,es,rfl,_⟩:=h;rfl
 .obtain⟨a,C,b,es,rfl,hLR,hcl,hlen,k⟩:=h;refine⟨_,(zaf (zai (ziF (pC g_comes_back hr (pa_N (pv 0) zab)) (zeB (zaK op_eq (pC g_lefts_less_slants hr (pa_N (pv 0) zab)) (znE (by rfl) T.more (pv 1)) (zan _)))))),?_⟩;refine⟨_,rfl,a,C,b,es,rfl,hLR,hcl,hlen,λH1 s1=>⟨_,rfl,iteT ?_⟩⟩;refine⟨_,rfl,a,wk C es,rfl,hLR.same s1 (λx v h=>h.same s1),by rw[zaF];lia,λH2 s2=>⟨_,rfl,?_⟩⟩;rcases zjI hcl with t |t
  .refine .inl ⟨?_,rfl,?_⟩
   .unfold sortS;rw[if_pos (by lia)]
   .rw[t,decide_eq_true rfl];exact k H2 (s1.trans s2)
  .refine .inr ⟨?_,rfl,?_⟩
   .unfold sortS;rw[if_neg (by lia)]
   .rw[t,decide_eq_true rfl];exact k H2 (s1.trans s2)
theorem IsRnd.walk{C:Cell -> Bool}{b:Edge}{es:List Edge}{r:Rnd}(h:Closed C b es)(k:IsRnd (wk C es) r) :
  ∃es',Closed C (begE r) es'/\es'.Perm es/\r.row=(es'.map (stepB C)).filterMap id/\zb9 (wk C es') r.so (begE r)/\r.so=sortS (wk C es')/\IsRnd (wk C es') r:=by
 obtain⟨r0,j,f,rf,⟨rb,rw',rl⟩,rx,ry,rr⟩:=id k;rw[zbJ]at rf rb rl
 have ef:begE r=f:=by obtain⟨⟨x,y⟩,w⟩:=f;unfold begE;rw[rx,ry,r0];simp only at rw' ⊢;rw[rw']
 have h1:=h.rot j rf;have pm:=ziz es j;have ss:=zjh (C:=C) pm
 have hrow:r.row=((es.drop j++es.take j).map (stepB C)).filterMap id:=by rw[rr];unfold wk;rw[<- CQ,<- B9,<- Ax,B5,B5];rfl
 have hb:zb9 (wk C (es.drop j++es.take j)) r.so f:=⟨by rw[zbJ];exact pm.mem_iff.mpr rb,by rw[rw',r0],λg hg hw=>by rw[zbJ]at hg;exact rl g (pm.mem_iff.mp hg) (by rw[hw,r0])⟩
 rw[ef];refine⟨_,h1,pm,hrow,hb,by rw[r0,ss],by rw[r0,ss],0,f,by rw[zbJ];exact h1.1.1,by rw[ss,<- r0];exact hb,rx,ry,?_⟩;rw[hrow,List.drop_zero,List.take_zero,A3];unfold wk;rw[B5,B5];rfl
noncomputable def zfS(K:W.Frag):Sp:=λvs H Q _=>∃(v:V) (r:Rnd) (C:Cell->Bool) (es:List Edge),vs=[v]/\rR r v H/\Closed C (begE r) es/\r.row=(es.map (stepB C)).filterMap id/\zb9 (wk C es) r.so (begE r)/\r.so=sortS (wk C es)/\es.length<=500 /\
 ∀p H' ws,H p=none->Same H H'->H' p=some (.lst ws)->VR ws (wk C es) wR H'->Q (.ref p) H'
theorem zjp (g_begin_edge:Fn P w K mg base 1 "begin_edge" ["one"] zgM) (g_walk_along:Fn P w K mg base 4 "walk_along" ["begin", "row"] (zej K)) (g_gainsaid_at:Fn P w K mg base 4 "gainsaid_at" ["walk"] (zft K))
  (g_is_closed:Fn P w K mg base 4 "is_closed" ["walk","sort"] (zfs K)) (g_begin_of:Fn P w K mg base 3 "begin_of" ["walk","sort"] (zhC K)) (d:Df K mg "walk_of" zew ["one"]):FnOk P w K mg base CX0 5 d.f d.fd ["one"] (zfS K):=by
 refine d.F.ok zbo (λvs H Q E h=>?_) (λcdv A outer s H vs Q E hr h=>?_)
 .obtain⟨v,r,C,es,rfl,_⟩:=h;rfl
 .obtain⟨v,r,C,es,rfl,hv,hcl,hrow,hbg,hso,hlen,k⟩:=h;have hu64:=hr.units
  refine⟨_,(zac (zbC (pv 0) (zbe (by rfl) (zag (nG 1 zbo.nd) (zag (nG 2 zbo.nd) (zag (nG 3 zbo.nd) (zag (nG 4 zbo.nd) zas))))))
   (zac (sE 5 zbo.nd (pC g_begin_edge hr (pa_N (pv 0) zab)))
   (zac (sE 6 zbo.nd (pC g_walk_along hr (pa_N (pv 5) (pa_N (pv 4) zab))))
   (zac (sE 7 zbo.nd (pC g_gainsaid_at hr (pa_N (pv 6) zab)))
   (zac (ps_if (zar zdI (pv 7) zbf (zan _))
   (zaf zf7)
   zau)
   (zac (ps_if (pw_or (zez (zdR (pC g_is_closed hr (pa_N (pv 6) (pa_N (pv 1) zab))))) (zmf (zar (zgY hu64) (pC g_begin_of hr (pa_N (pv 6) (pa_N (pv 1) zab))) (pv 5) (zan _)))).pt
   (zaf zf7)
   zau)
   (zaf (zai (pv 6))))))))),?_⟩
  obtain⟨a,b,rfl,q1,q2⟩:=id hv;have hE:IsE C (begE r):=hcl.1.2.2.1 _ (Ah hcl.1.1);have so2:r.so = "rim" ∨ r.so = "hole":=by rw[hso];exact zcR _
  have hrl:r.row.length<=500:=by rw[hrow];exact Ba (DB _ _) (by rw[Af];exact hlen)
  have hdd:deeds (begE r).w r.row=es.map (stepB C):=by rw[hrow];exact hcl.deeds.symm
  refine⟨_,rfl,a,_,rfl,SqT.of q1,rfl,_,_,rfl,_,_,rfl,_,_,rfl,_,_,rfl,rfl,?_⟩;refine⟨_,rfl,.ref a,r,rfl,hv,so2,λp1 H1 hp1 s1 e1=>?_⟩;refine⟨_,rfl,_,rfl,p1,b,begE r,r.row,rfl,e1,hE.1,SqT.of (s1 _ _ q2),hrl,(λz hz=>?_),λp H2 ws hp s2 e2 hw=>?_⟩
  .rw[hdd]at hz;obtain⟨e,he,ez⟩:=AF.mp hz;exact zbU (hcl.1.2.2.1 e he).1 z ez
  rw[hdd,zee es (.inl hcl.1.1) hcl.1.2.1]at hw;have lr:LR K H2 p (wk C es) wR:=LR.of e2 hw;refine⟨_,rfl,p,C,es,rfl,lr,hcl.1.2.2.1,hlen,λH3 s3=>?_⟩;refine⟨_,rfl,rfl,_,rfl,iteF ?_⟩;have lr3:=lr.same s3 (λx v h=>h.same s3);refine⟨_,rfl,_,rfl,p,C,begE r,es,(by rw[<- hso];rfl),lr3,hcl,hlen,λH4 s4=>⟨_,rfl,iteF ?_⟩⟩;have lr4:=lr3.same s4 (λx v h=>h.same s4);refine⟨_,rfl,_,rfl,p,wk C es,r.so,rfl,so2,lr4,by rw[zaF];lia,⟨begE r,hbg.1,hbg.2.1⟩,λb5 e5 H5 s5 f5 ib=>?_⟩;have ee:e5=begE r:=ib.one (List.Perm.refl _) hbg;subst ee;have s25:=s3.trans (s4.trans s5);refine⟨_,rfl,_,_,zcJ f5,zcJ ((s2.trans s25) _ _ e1),zav _,zav _,_,rfl,iteN (by rw[zcv,decide_eq_true rfl];rfl) ?_⟩;refine⟨_,rfl,k p H5 ws (s1.free hp) (s1.trans (s2.trans s25)) (s25 _ _ e2) (hw.mono λx v h=>h.same s25)⟩
noncomputable def qC(c:Cell):Cell:=(-c.2,c.1)
noncomputable def qE(e:Edge):Edge:=⟨qC e.c,(e.w+1) % 4⟩
noncomputable def qS(o:Option Nat):Option Nat:=o.map λs=>(s+2) % 8
noncomputable def rC(C:Cell->Bool)(c:Cell):Bool:=C (c.2,-c.1)
theorem rC_qC(C:Cell->Bool)(c:Cell):rC C (qC c)=C c:=by unfold rC qC;simp
theorem znz{a b:Cell}(h:qC a=qC b):a=b:=by obtain⟨a1,a2⟩:=a;obtain⟨b1,b2⟩:=b;simp only[qC,Prod.mk.injEq]at h;exact Cu (by show a1=b1;lia) (by show a2=b2;lia)
theorem mv_q:∀i<8,mv ((i+2) % 8)=(-(mv i).2,(mv i).1):=by decide
theorem go_q(c:Cell){i:Nat}(h:i<8):go (qC c) ((i+2) % 8)=qC (go c i):=by unfold go;rw[mv_q i h];exact Cu (by show -c.2+-(mv i).2=-(c.2+(mv i).2);lia) rfl
theorem gap_q{e:Edge}(hw:e.w<4):gap (qE e)=qC (gap e):=by unfold gap;rw[<- go_q e.c (i:=(2*e.w+6) % 8) (AU _ (by decide))];show go (qC e.c) ((2*((e.w+1) % 4)+6) % 8)=_;rw[show (2*((e.w+1) % 4)+6) % 8=((2*e.w+6) % 8+2) % 8 by lia]
theorem zhx(C:Cell->Bool){e:Edge}(hw:e.w<4):stepB (rC C) (qE e)=qS (stepB C e):=by
 unfold stepB;have a1:(2*(qE e).w+7) % 8=((2*e.w+7) % 8+2) % 8:=by show (2*((e.w+1) % 4)+7) % 8=_;lia
 have a2:2*(qE e).w=(2*e.w+2) % 8:=by show 2*((e.w+1) % 4)=_;lia
 have c0:(qE e).c=qC e.c:=rfl;rw[a1,a2,c0,go_q e.c (i:=(2*e.w+7) % 8) (AU _ (by decide)),go_q e.c (i:=2*e.w) (by lia),rC_qC,rC_qC];split
 .rfl
 .split <;> rfl
theorem nxt_q(C:Cell->Bool){e:Edge}(h:IsE C e):nxt (rC C) (qE e)=qE (nxt C e):=by
 have hw:=h.1;unfold nxt;rw[zhx C hw];rcases zaw h with⟨_,s,_⟩ |⟨_,_,s,_⟩ |⟨_,_,s,_⟩ <;> rw[s] <;> simp only[qS,Option.map,edgeB]
 .rw[if_pos (by lia),if_pos (odd7 _)];simp only[qE,Edge.mk.injEq];exact⟨go_q e.c (AU _ (by decide)),by lia⟩
 .rw[if_neg (by lia),if_neg (by lia)];simp only[qE,Edge.mk.injEq,and_true];exact go_q e.c (by lia)
 .simp only[qE,Edge.mk.injEq,true_and]
theorem isE_q(C:Cell->Bool){e:Edge}(hw:e.w<4):IsE (rC C) (qE e) ↔ IsE C e:=by
 unfold IsE;rw[gap_q hw,rC_qC];show (e.w+1) % 4<4/\rC C (qC e.c)=true/\_ ↔ _;rw[rC_qC];constructor
 .rintro⟨_,h⟩;exact⟨hw,h⟩
 .rintro⟨_,h⟩;exact⟨AU _ (by decide),h⟩
theorem zny{C:Cell->Bool}{e f:Edge}(he:e.w<4)(hf:f.w<4)(h:qE e=qE f):e=f:=by obtain⟨a,w⟩:=e;obtain⟨b,v⟩:=f;simp only[qE,Edge.mk.injEq]at h;simp only at he hf;rw[znz h.1,show w=v by lia]
theorem zl2{C:Cell->Bool}{b:Edge}{es:List Edge}(h:Closed C b es):Closed (rC C) (qE b) (es.map qE):=by
 obtain⟨⟨h0,hs,hE,hn⟩,l,hl,hb⟩:=h;refine⟨⟨by rw[Ak,h0];rfl,λi e f h1 h2=>?_,λe he=>?_,?_⟩,qE l,by rw[Af,Ak,hl];rfl,by rw[nxt_q C (hE l (Ah hl)),hb]⟩
 .rw[Ak]at h1 h2;obtain⟨a,ha,rfl⟩:=AY.mp h1;obtain⟨c,hc,rfl⟩:=AY.mp h2;rw[nxt_q C (hE a (Ah ha)),hs i a c ha hc]
 .obtain⟨a,ha,rfl⟩:=AF.mp he;exact (isE_q C (hE a ha).1).mpr (hE a ha)
 .unfold List.Nodup;rw[Di];refine List.Pairwise.imp_of_mem ?_ hn;intro a b ha hb hab e;exact hab (zny (C:=C) (hE a ha).1 (hE b hb).1 e)
theorem wk_q{C:Cell->Bool}{es:List Edge}(hE:∀e∈es,IsE C e):wk (rC C) (es.map qE)=(wk C es).map λq=>(qE q.1,qS q.2):=by
 unfold wk;rw[Bp,Bp]
 apply BA
 intro e he;show (qE e,stepB _ (qE e))=(qE e,qS (stepB _ e));rw[zhx C (hE e he).1]
noncomputable def qEn:Nat->Edge->Edge
 | 0,e=>e
 |k+1,e=>qE (qEn k e)
noncomputable def rCn:Nat->(Cell->Bool)->Cell->Bool
 | 0,C=>C
 |k+1,C=>rC (rCn k C)
theorem zcP{C:Cell->Bool}{b:Edge}{es:List Edge}(h:Closed C b es):∀k,Closed (rCn k C) (qEn k b) (es.map (qEn k))
 | 0=>by
  have:es.map (qEn 0)=es:=List.map_id' _;rw[this];exact h
 |k+1=>by
  have:=zl2 (zcP h k);rw[Bp]at this;exact this
noncomputable def zjU(K:W.Frag):Sp:=λvs H Q _=>∃(a:Addr) (e:Edge),vs=[.ref a]/\SqT K H a (edgeT e)/\∀p H',H p=none->Same H H'->H' p=some (.tup (edgeT (qE e)))->Q (.ref p) H'
theorem zeG (d:Df K mg "quarter_edge" zb4 ["edge"]):FnOk P w K mg base CX0 1 d.f d.fd ["edge"] (zjU K):=by
 refine d.F.ok zbs (λvs H Q E h=>?_) (λcdv A outer s H vs Q E hr h=>?_)
 .obtain⟨a,e,rfl,_⟩:=h;rfl
 .obtain⟨a,e,rfl,hq,k⟩:=h
  refine⟨_,(zac (zbC (pv 0) (zbe (by rfl) (zag (nG 1 zbs.nd) (zag (nG 2 zbs.nd) (zag (nG 3 zbs.nd) zas)))))
   (zaf (zai (zax (pa_U (pe_un zii (pv 2)) (pa_N (pv 1) (pa_B (pe_op zaT (pe_op zaQ (pv 3) zae) zae) zab))))))),?_⟩
  refine⟨_,rfl,a,_,rfl,hq,rfl,_,_,rfl,_,_,rfl,_,_,rfl,rfl,?_⟩;refine⟨_,rfl,_,rfl,_,rfl,_,rfl,_,_,rfl,rfl,_,_,rfl,rfl,(by show (0:Int)<4;decide),three,λp hp=>k p _ hp (Same.up hp) ?_⟩;rw[zaa];show some (HO.tup [V.int (-e.c.2),V.int e.c.1,V.int (((e.w:Int)+1) % 4)])=some (HO.tup [V.int (-e.c.2),V.int e.c.1,V.int (((e.w+1) % 4:Nat):Int)]);rw[show ((e.w:Int)+1) % 4=(((e.w+1) % 4:Nat):Int) by lia]
noncomputable def zjT:Sp:=λvs H Q _=>∃o:Option Nat,vs=[sv o]/\Q (sv (qS o)) H
theorem zeF (d:Df K mg "quarter_step" zb3 ["step"]):FnOk P w K mg base CX0 1 d.f d.fd ["step"] zjT:=by
 refine d.F.ok zeo (λvs H Q E h=>?_) (λcdv A outer s H vs Q E hr h=>?_)
 .obtain⟨o,rfl,_⟩:=h;rfl
 .obtain⟨o,rfl,k⟩:=h;refine⟨_,(zaf (zai (zcq (zar zgZ (pv 0) zbf (zan _)) zbf (pe_op zaT (pe_op zaQ (pv 0) zae) zae)))),?_⟩
  cases o with
  |none=>exact⟨_,rfl,rfl,_,rfl,iteT k⟩
  |some n =>
   refine⟨_,rfl,rfl,_,rfl,iteF ⟨_,rfl,_,_,rfl,rfl,_,_,rfl,rfl,(by show (0:Int)<8;decide),?_⟩⟩;show Q (V.int (((n:Int)+2) % 8)) H;rw[show ((n:Int)+2) % 8=(((n+2) % 8:Nat):Int) by lia];exact k
structure Can (C:Cell->Bool) (es:List Edge) (r:Rnd):Prop where
 cl:Closed C (begE r) es
 row:r.row=(es.map (stepB C)).filterMap id
 bg:zb9 (wk C es) r.so (begE r)
 so:r.so=sortS (wk C es)
noncomputable def zfT(K:W.Frag):Sp:=λvs H Q _=>∃(v:V) (q:Int) (r:Rnd) (C:Cell->Bool) (es:List Edge),vs=[v,.int q]/\rR r v H/\Can C es r/\es.length<=500 /\
 ∀v' H' r',Same H H'->rR r' v' H'->IsRnd (wk (rCn (q % 4).toNat C) (es.map (qEn (q % 4).toNat))) r'->Q v' H'
theorem zks (T:Txt P w K mg) (g_walk_of:Fn P w K mg base 5 "walk_of" ["one"] (zfS K)) (g_quarter_edge:Fn P w K mg base 1 "quarter_edge" ["edge"] (zjU K)) (g_quarter_step:Fn P w K mg base 1 "quarter_step" ["step"] zjT)
  (g_round_of:Fn P w K mg base 5 "round_of" ["walk"] (zdh K)) (d:Df K mg "turned" zd7 ["one","quarters"]):FnOk P w K mg base CX0 6 d.f d.fd ["one","quarters"] (zfT K):=by
 refine d.F.ok zdl (λvs H Q E h=>?_) (λcdv A outer s H vs Q E hr h=>?_)
 .obtain⟨v,q,r,C,es,rfl,_⟩:=h;rfl
 .obtain⟨v,q,r,C,es,rfl,hv,hc,hlen,k⟩:=h;have nb0:(["edge","step"]:List Str).Nodup:=by decide +kernel
  refine⟨_,(zac (sE 2 zdl.nd (pC g_walk_of hr (pa_N (pv 0) zab)))
   (zac (zbR A8 rfl (zbd (by rfl) T.nrange (pa_B (pe_op zaT (pv 1) zae) zab)) (nG 3 zdl.nd)
   (zaf (zd8 (i:=2) (osc:=zad zd7) (N:=zi8) (N':=["edge","step"]) (sel:=[none,none]) bO zdl.nd (by rfl) (Or.inl rfl) (zaP (pv 2)) (λ_ _ _ _ _=>(zb7 (K:=K) (n:=2) (by rfl) (zag (nG 0 nb0) (zag (nG 1 nb0) zas)))) (λ_ _ _ _ _=>za8) (λ_ _ _ _ _=>(zax (zah (pC g_quarter_edge hr (pa_N (pv 0) zab)) (zah (pC g_quarter_step hr (pa_N (pv 1) zab)) zab)))))))
   (zaf (zai (pC g_round_of hr (pa_N (pv 2) zab)))))),?_⟩
  refine⟨_,rfl,v,r,C,es,rfl,hv,hc.cl,hc.row,hc.bg,hc.so,hlen,λp H1 ws hp s1 e1 hw=>?_⟩;have hq0:0<=q % 4:=Int.emod_nonneg _ (by decide);have hq4:q % 4<4:=Int.emod_lt_of_pos _ (by decide);refine⟨_,rfl,_,_,rfl,rfl,(by show (0:Int)<4;decide),_,rfl,(by show -(2 ^ 62)<=q % 4;lia),(by show q % 4<2 ^ 62;lia),?_⟩
  refine zaS (lo:=0) (n:=(q % 4).toNat) (λi σ H2=>∃(a:Addr) (o3:Option V) (ws:List V),σ=[some v,some (.int q),some (.ref a),o3]/\Same H H2/\H2 a=some (.lst ws)/\VR ws (wk (rCn i C) (es.map (qEn i))) wR H2)
   ⟨p,_,ws,rfl,s1,e1,?_⟩ ?_ ?_
  .have:es.map (qEn 0)=es:=List.map_id' _;rw[this];exact hw
  .rintro i σ H2 hi ⟨a,o3,ws,rfl,s2,e2,hw2⟩;have hcn:=zcP hc.cl i;refine⟨_,rfl,a,rfl,⟨_,SqL.of e2⟩,λp3 hp3=>?_⟩;have wl:ws.length=es.length:=by rw[hw2.1,zaF,Af]
   refine zay (K:=K) (a:=a) (xs:=ws) (λj σ H3=>∃o0 o1,σ=[o0,o1]/\Same H2 H3/\∃ws':List V,H3 p3=some (.lst ws')/\VR ws' (((wk (rCn i C) (es.map (qEn i))).take j).map λq=>(qE q.1,qS q.2)) wR H3)
    ⟨_,_,rfl,Same.up hp3,[],zaa,VR.nil⟩ (λj σ H3 _ ⟨_,_,_,s3,_⟩=>SqL.of (s3 _ _ e2)) ?_ ?_
   .rintro j u σ H3 hj ⟨o0,o1,rfl,s3,ws',e3,hv3⟩;have hjl:j<ws.length:=(Ad.mp hj).1;obtain⟨⟨f,st⟩,he,B,bb,rfl,q1,q2⟩:=hw2.at hj;have hl3:ws'.length<=500:=by rw[hv3.1,Af,Av,zaF,Af];lia
    refine⟨B,_,rfl,SqT.of (s3 _ _ q1),rfl,_,_,rfl,_,_,rfl,rfl,?_⟩;refine zcQ ?_
    refine⟨_,rfl,bb,f,rfl,SqT.of (s3 _ _ q2),λp4 H4 hp4 s4 e4=>⟨_,rfl,st,rfl,two,λt ht=>?_⟩⟩;have s5:Same H4 (upd H4 t (.tup [.ref p4,sv (qS st)])):=Same.up ht;have r5:wR (qE f,qS st) (.ref t) (upd H4 t (.tup [.ref p4,sv (qS st)])):=⟨t,p4,rfl,zaa,s5 _ _ e4⟩;generalize upd H4 t (.tup [.ref p4,sv (qS st)])=H5 at s5 r5;have e5:=(s4.trans s5) _ _ e3;refine⟨ws',e5,zaj (by lia),_,_,rfl,zao hp3 (s3.trans (s4.trans s5)),_,zaa,?_⟩;rw[zaB he,Ax];exact hv3.snoc (λx v h=>(h.kt (KT.of (s4.trans s5))).kt (KT.lst e5)) (r5.kt (KT.lst e5))
   .rintro σ H3 ⟨o0,o1,rfl,s3,ws',e3,hv3⟩;rw[hw2.1,AO]at hv3;refine⟨p3,_,ws',rfl,s2.trans s3,e3,?_⟩;have:=wk_q hcn.1.2.2.1;rw[Bp]at this;rw[<- this]at hv3;exact hv3
  .rintro σ H2 ⟨a,o3,ws,rfl,s2,e2,hw2⟩;have hcn:=zcP hc.cl (q % 4).toNat
   have hh:∀kk,kk=0∨kk=2->∃x∈(wk (rCn (q % 4).toNat C) (es.map (qEn (q % 4).toNat))).map (·.1),x.w=kk:=λkk hkk=>by obtain⟨x,h1,h2⟩:=hcn.has hkk;exact⟨x,by rw[zbJ];exact h1,h2⟩
   refine⟨_,rfl,a,_,rfl,LR.of e2 hw2,by rw[zaF,Af];exact hlen,hh 0 (.inl rfl),hh 2 (.inr rfl),λv' H3 r' s3 hr3 hrn3=>?_⟩;exact k v' H3 r' (s2.trans s3) hr3 hrn3
noncomputable def mC(c:Cell):Cell:=(-c.1,c.2)
noncomputable def mE(e:Edge):Edge:=⟨mC e.c,(4-e.w) % 4⟩
noncomputable def mS(o:Option Nat):Option Nat:=o.map λs=>(8-s) % 8
noncomputable def mCC(C:Cell->Bool)(c:Cell):Bool:=C (mC c)
theorem mC_mC(c:Cell):mC (mC c)=c:=Cu (by show - -c.1=c.1;lia) rfl
theorem zeL(C:Cell->Bool)(c:Cell):mCC C (mC c)=C c:=by unfold mCC;rw[mC_mC]
theorem mE_mE{e:Edge}(h:e.w<4):mE (mE e)=e:=by obtain⟨c,w⟩:=e;simp only at h;show (⟨mC (mC c),(4-(4-w) % 4) % 4⟩:Edge)=⟨c,w⟩;rw[mC_mC,show (4-(4-w) % 4) % 4=w by lia]
theorem mE_lt(e:Edge):(mE e).w<4:=AU _ (by decide)
theorem znL{e f:Edge}(he:e.w<4)(hf:f.w<4)(h:mE e=mE f):e=f:=by rw[<- mE_mE he,h,mE_mE hf]
theorem gmL{c:Cell}{j k:Nat}(h:(mv j).1=-(mv k).1/\(mv j).2=(mv k).2):go (mC c) j=mC (go c k) :=
 Cu (by show -c.1+(mv j).1=-(c.1+(mv k).1);lia) (by show c.2+(mv j).2=c.2+(mv k).2;lia)
theorem gmT:∀w < 4, ((mv ((2 * ((4-w) % 4) + 6) % 8)).1 = -(mv ((2 * w + 6) % 8)).1 /\ (mv ((2 * ((4-w) % 4) + 6) % 8)).2=(mv ((2 * w + 6) % 8)).2) /\
  ((mv ((2*((4-(w+1) % 4) % 4)+7) % 8)).1=-(mv ((2*w+7) % 8)).1/\(mv ((2*((4-(w+1) % 4) % 4)+7) % 8)).2=(mv ((2*w+7) % 8)).2) /\
  ((mv (2*((4-(w+1) % 4) % 4))).1=-(mv ((2*w+6) % 8)).1/\(mv (2*((4-(w+1) % 4) % 4))).2=(mv ((2*w+6) % 8)).2) /\
  (-(mv (2*w)).1+(mv ((2*((4-w) % 4)+7) % 8)).1=-(mv ((2*w+6) % 8)).1/\(mv (2*w)).2+(mv ((2*((4-w) % 4)+7) % 8)).2=(mv ((2*w+6) % 8)).2):=by decide
theorem gmB:∀i<8,-(mv i).1+(mv ((8-i) % 8)).1=0/\(mv i).2+(mv ((8-i) % 8)).2=0:=by decide
theorem gap_m{e:Edge}(h:e.w<4):gap (mE e)=mC (gap e):=gmL (gmT e.w h).1
theorem isE_m(C:Cell->Bool){e:Edge}(hw:e.w<4):IsE (mCC C) (mE e) ↔ IsE C e:=by unfold IsE;rw[gap_m hw,zeL];show (4-e.w) % 4<4/\mCC C (mC e.c)=true/\_ ↔ _;rw[zeL];exact⟨λh=>⟨hw,h.2⟩,λh=>⟨AU _ (by decide),h.2⟩⟩
theorem zbT{c:Cell}{i:Nat}(h:i<8):go (mC (go c i)) ((8-i) % 8)=mC c:=by obtain⟨h1,h2⟩:=gmB i h;exact Cu (by show -(c.1+(mv i).1)+(mv ((8-i) % 8)).1=-c.1;lia) (by show c.2+(mv i).2+(mv ((8-i) % 8)).2=c.2;lia)
theorem zlN{c:Cell}{w:Nat}(h:w<4):go (mC (go c (2*w))) ((2*((4-w) % 4)+7) % 8)=mC (go c ((2*w+6) % 8)):=by obtain⟨h1,h2⟩:=(gmT w h).2.2.2;exact Cu (by show -(c.1+(mv (2*w)).1)+(mv ((2*((4-w) % 4)+7) % 8)).1=-(c.1+(mv ((2*w+6) % 8)).1);lia) (by show c.2+(mv (2*w)).2+(mv ((2*((4-w) % 4)+7) % 8)).2=c.2+(mv ((2*w+6) % 8)).2;lia)
theorem zlP{c:Cell}{w:Nat}(h:w<4):go (mC c) ((2*((4-(w+1) % 4) % 4)+7) % 8)=mC (go c ((2*w+7) % 8)):=gmL (gmT w h).2.1
theorem zlO{c:Cell}{w:Nat}(h:w<4):go (mC c) (2*((4-(w+1) % 4) % 4))=mC (go c ((2*w+6) % 8)):=gmL (gmT w h).2.2.1
theorem zjO(C:Cell->Bool){e:Edge}(h:IsE C e):stepB (mCC C) (mE (nxt C e))=mS (stepB C e)/\nxt (mCC C) (mE (nxt C e))=mE e:=by
 have hw:=h.1;have hg:C (go e.c ((2*e.w+6) % 8))=false:=h.2.2;rcases zaw h with⟨hc,s,n⟩ |⟨hc1,hc2,s,n⟩ |⟨hc1,hc2,s,n⟩
 .have e1:stepB (mCC C) (mE (nxt C e))=some ((8-(2 * e.w + 7) % 8) % 8) := by
   rw[n];unfold stepB;have a1:(2*(mE ⟨go e.c ((2*e.w+7) % 8),(e.w+3) % 4⟩).w+7) % 8=(8-(2*e.w+7) % 8) % 8:=by show (2*((4-(e.w+3) % 4) % 4)+7) % 8=_;lia
   rw[a1];have a2:go (mE ⟨go e.c ((2*e.w+7) % 8),(e.w+3) % 4⟩).c ((8-(2*e.w+7) % 8) % 8)=mC e.c:=zbT (AU _ (by decide));rw[a2,zeL,if_pos h.2.1]
  refine⟨by rw[e1,s];rfl,?_⟩;show edgeB (mE (nxt C e)) (stepB (mCC C) (mE (nxt C e)))=mE e;rw[e1,n];simp only[edgeB];rw[if_pos (by lia)];have a2:go (mE ⟨go e.c ((2*e.w+7) % 8),(e.w+3) % 4⟩).c ((8-(2*e.w+7) % 8) % 8)=mC e.c:=zbT (AU _ (by decide));rw[a2];show (⟨mC e.c,((4-(e.w+3) % 4) % 4+3) % 4⟩:Edge)=⟨mC e.c,(4-e.w) % 4⟩;rw[show ((4-(e.w+3) % 4) % 4+3) % 4=(4-e.w) % 4 by lia]
 .have e1:stepB (mCC C) (mE (nxt C e))=some ((8-2 * e.w) % 8) := by
   rw[n];unfold stepB;have a0:go (mE ⟨go e.c (2*e.w),e.w⟩).c ((2*(mE ⟨go e.c (2*e.w),e.w⟩).w+7) % 8)=mC (go e.c ((2*e.w+6) % 8)):=zlN hw;have a1:2*(mE ⟨go e.c (2*e.w),e.w⟩).w=(8-2*e.w) % 8:=by show 2*((4-e.w) % 4)=_;lia
   rw[a0,zeL,hg,if_neg (by simp),a1];have a2:go (mE ⟨go e.c (2*e.w),e.w⟩).c ((8-2*e.w) % 8)=mC e.c:=zbT (by lia);rw[a2,zeL,if_pos h.2.1]
  refine⟨by rw[e1,s];rfl,?_⟩;show edgeB (mE (nxt C e)) (stepB (mCC C) (mE (nxt C e)))=mE e;rw[e1,n];simp only[edgeB];rw[if_neg (by lia)];have a2:go (mE ⟨go e.c (2*e.w),e.w⟩).c ((8-2*e.w) % 8)=mC e.c:=zbT (by lia);rw[a2];rfl
 .have e1:stepB (mCC C) (mE (nxt C e))=none := by rw[n];unfold stepB;have a0:go (mE ⟨e.c,(e.w+1) % 4⟩).c ((2*(mE ⟨e.c,(e.w+1) % 4⟩).w+7) % 8)=mC (go e.c ((2*e.w+7) % 8)):=zlP hw;have a1:go (mE ⟨e.c,(e.w+1) % 4⟩).c (2*(mE ⟨e.c,(e.w+1) % 4⟩).w)=mC (go e.c ((2*e.w+6) % 8)):=zlO hw;rw[a0,zeL,hc1,if_neg (by simp),a1,zeL,hg,if_neg (by simp)]
  refine⟨by rw[e1,s];rfl,?_⟩;show edgeB (mE (nxt C e)) (stepB (mCC C) (mE (nxt C e)))=mE e;rw[e1,n];show (⟨mC e.c,((4-(e.w+1) % 4) % 4+1) % 4⟩:Edge)=⟨mC e.c,(4-e.w) % 4⟩;rw[show ((4-(e.w+1) % 4) % 4+1) % 4=(4-e.w) % 4 by lia]
noncomputable def mW(es:List Edge):List Edge:=((es.drop 1++es.take 1).map mE).reverse
theorem zcd(es:List Edge):(mW es).length=es.length:=by unfold mW;rw[List.length_reverse,Af,Ap,A0,Av];lia
theorem zm4{es:List Edge}{e:Edge}(h:es[0]?=some e):(mW es)[0]?=some (mE e):=by
 cases es with
 |nil=>cases h
 |cons a r =>
  have:a=e:=by simpa using h
  subst this;unfold mW;simp
theorem zh3{es:List Edge}{i:Nat}(h:i+1<es.length):(mW es)[i+1]?=(es[es.length-(i+1)]?).map mE:=by
 unfold mW;have hl:((es.drop 1++es.take 1).map mE).length=es.length:=by rw[Af,Ap,A0,Av];lia
 rw[List.getElem?_reverse (by rw[hl];exact h),hl,Ak,Ao (by rw[A0];lia),Cy];rw[show 1+(es.length-1-(i+1))=es.length-(i+1) by lia]
theorem zh4(es:List Edge):(mW es).Perm (es.map mE):=by
 unfold mW;refine (List.reverse_perm _).trans ?_
 exact (ziz es 1).map mE
theorem zjb{C:Cell->Bool}{b:Edge}{es:List Edge}(h:Closed C b es):Closed (mCC C) (mE b) (mW es):=by
 obtain⟨⟨h0,hs,hE,hn⟩,l,hl,hb⟩:=h;have hpos:0<es.length:=(Ad.mp h0).1;have hlE:=hE l (Ah hl);have z0:(mW es)[0]?=some (mE b):=zm4 h0
 have go1:∀(i:Nat) (f:Edge),(mW es)[i]?=some f->nxt (mCC C) f=if i+1<es.length then ((mW es)[i+1]?).getD f else mE b:=by
  intro i f hf;have hi:i<es.length:=by rw[<- zcd];exact (Ad.mp hf).1
  cases i with
  |zero =>
   rw[z0]at hf
   cases hf
   have s:=(zjO C hlE).2;rw[hb]at s;rw[s]
   by_cases h1:0+1<es.length
   .rw[if_pos h1,zh3 h1,show es.length-(0+1)=es.length-1 by lia,hl];rfl
   .rw[if_neg h1];have e1:es.length-1=0:=by lia
    rw[e1,h0]at hl
    cases hl;rfl
  |succ i =>
   rw[zh3 hi]at hf;obtain⟨g,hg,rfl⟩:=AY.mp hf;have hj:es.length-(i+1)-1<es.length:=by lia
   have hp:=Aa hj;have hgn:=hs (es.length-(i+1)-1) _ g hp (by rw[show es.length-(i+1)-1+1=es.length-(i+1) by lia];exact hg);have s:=(zjO C (hE _ (AW hj))).2;rw[<- hgn]at s;rw[s]
   by_cases h1:i+1+1<es.length
   .rw[if_pos h1,zh3 h1,show es.length-(i+1+1)=es.length-(i+1)-1 by lia,hp];rfl
   .rw[if_neg h1];have e1:es.length-(i+1)-1=0:=by lia
    have e2:es[es.length-(i+1)-1]=b:=by
     rw[Aa hpos]at h0;have:=AI h0;rw[<- this]
     congr 1
    rw[e2]
 refine⟨⟨z0,λi f g h1 h2=>?_,λf hf=>?_,?_⟩,?_⟩
 .have hi:i+1<es.length:=by rw[<- zcd];exact (Ad.mp h2).1
  rw[go1 i f h1,if_pos hi,h2];rfl
 .obtain⟨a,ha,rfl⟩:=AF.mp ((zh4 es).mem_iff.mp hf);exact (isE_m C (hE a ha).1).mpr (hE a ha)
 .refine (zh4 es).nodup_iff.mpr ?_
  unfold List.Nodup;rw[Di];exact List.Pairwise.imp_of_mem (λ{a b} ha hb hab e=>hab (znL (hE a ha).1 (hE b hb).1 e)) hn
 .have hlast:(mW es).length-1<(mW es).length:=by rw[zcd];lia
  refine⟨_,Aa hlast,?_⟩;rw[go1 _ _ (Aa hlast),if_neg (by rw[zcd];lia)]
theorem wk_m{C:Cell->Bool}{b:Edge}{es:List Edge}(h:Closed C b es):wk (mCC C) (mW es)=(((es.drop 1++es.take 1).zip (wk C es)).map λq=>(mE q.1,mS q.2.2)).reverse:=by
 unfold mW;unfold wk;rw[List.map_reverse,Bp]
 congr 1
 apply Cb
 intro i;have hl:(es.drop 1++es.take 1).length=es.length:=by rw[Ap,A0,Av];lia
 rw[Ak,Ak]
 by_cases hi:i<es.length
 .have hE:=h.1.2.2.1
  have hb:(es.drop 1++es.take 1)[i]?=some (nxt C es[i]):=by
   by_cases h1:i+1<es.length
   .rw[Ao (by rw[A0];lia),Cy,show 1+i=i+1 by lia,Aa h1];rw[h.1.2.1 i es[i] es[i+1] (Aa hi) (Aa h1)]
   .obtain⟨_,l,hl',hn⟩:=id h;have e1:i=es.length-1:=by lia
    rw[AB (by rw[A0];lia),A0,show i-(es.length-1)=0 by lia,Dy (by lia)];have h0:=h.1.1;rw[h0];subst e1;rw[Aa hi]at hl'
    cases hl'
    rw[hn]
  have hz:((es.drop 1++es.take 1).zip (es.map λe=>(e,stepB C e)))[i]?=some (nxt C es[i],(es[i],stepB C es[i])):=by rw[CH];exact⟨hb,by rw[Ak,Aa hi];rfl⟩
  rw[hb,hz];show some (mE (nxt C es[i]),stepB (mCC C) (mE (nxt C es[i])))=some (mE (nxt C es[i]),mS (stepB C es[i]));rw[(zjO C (hE _ (AW hi))).1]
 .rw[AZ (by rw[hl];lia),AZ (by rw[List.length_zip,hl,Af];lia)];rfl
noncomputable def zjX(K:W.Frag):Sp:=λvs H Q _=>∃(a:Addr) (e:Edge),vs=[.ref a]/\SqT K H a (edgeT e)/\e.w<4/\∀p H',H p=none->Same H H'->H' p=some (.tup (edgeT (mE e)))->Q (.ref p) H'
theorem ze2 (d:Df K mg "mirror_edge" zck ["edge"]):FnOk P w K mg base CX0 1 d.f d.fd ["edge"] (zjX K):=by
 refine d.F.ok zby (λvs H Q E h=>?_) (λcdv A outer s H vs Q E hr h=>?_)
 .obtain⟨a,e,rfl,_⟩:=h;rfl
 .obtain⟨a,e,rfl,hq,hw,k⟩:=h
  refine⟨_,(zac (zbC (pv 0) (zbe (by rfl) (zag (nG 1 zby.nd) (zag (nG 2 zby.nd) (zag (nG 3 zby.nd) zas)))))
   (zaf (zai (zax (pa_U (pe_un zii (pv 1)) (pa_N (pv 2) (pa_B (pe_op zaT (pe_op za5 zae (pv 3)) zae) zab))))))),?_⟩
  refine⟨_,rfl,a,_,rfl,hq,rfl,_,_,rfl,_,_,rfl,_,_,rfl,rfl,?_⟩;refine⟨_,rfl,_,rfl,_,rfl,_,rfl,_,_,rfl,rfl,_,_,rfl,rfl,(by show (0:Int)<4;decide),three,λp hp=>k p _ hp (Same.up hp) ?_⟩;rw[zaa];show some (HO.tup [V.int (-e.c.1),V.int e.c.2,V.int ((4-(e.w:Int)) % 4)])=some (HO.tup [V.int (-e.c.1),V.int e.c.2,V.int (((4-e.w) % 4:Nat):Int)]);rw[show (4-(e.w:Int)) % 4=(((4-e.w) % 4:Nat):Int) by lia]
noncomputable def zjW:Sp:=λvs H Q _=>∃o:Option Nat,vs=[sv o]/\(∀n,o=some n->n<8)/\Q (sv (mS o)) H
theorem ze1 (d:Df K mg "mirror_step" zcj ["step"]):FnOk P w K mg base CX0 1 d.f d.fd ["step"] zjW:=by
 refine d.F.ok zeY (λvs H Q E h=>?_) (λcdv A outer s H vs Q E hr h=>?_)
 .obtain⟨o,rfl,_⟩:=h;rfl
 .obtain⟨o,rfl,h8,k⟩:=h;refine⟨_,(zaf (zai (zcq (zar zgZ (pv 0) zbf (zan _)) zbf (pe_op zaT (pe_op za5 zae (pv 0)) zae)))),?_⟩
  cases o with
  |none=>exact⟨_,rfl,rfl,_,rfl,iteT k⟩
  |some n =>
   have:=h8 n rfl;refine⟨_,rfl,rfl,_,rfl,iteF ⟨_,rfl,_,_,rfl,rfl,_,_,rfl,rfl,(by show (0:Int)<8;decide),?_⟩⟩;show Q (V.int ((8-(n:Int)) % 8)) H;rw[show (8-(n:Int)) % 8=(((8-n) % 8:Nat):Int) by lia];exact k
theorem VR.rev{α:Type}{vs:List V}{l:List α}{R:α->V->Hp->Prop}{H:Hp}(h:VR vs l R H):VR vs.reverse l.reverse R H:=by
 refine⟨by simp[h.1],λi x v h1 h2=>?_⟩;have hi:i<l.length:=by have:=(Ad.mp h1).1;simpa using this
 rw[List.getElem?_reverse hi]at h1;rw[List.getElem?_reverse (by rw[h.1];exact hi),h.1]at h2;exact h.2 _ x v h1 h2
noncomputable def zfr(K:W.Frag):Sp:=λvs H Q _=>∃(v:V) (r:Rnd) (C:Cell->Bool) (es:List Edge),vs=[v]/\rR r v H/\Can C es r/\es.length<=500 /\
 ∀v' H' r',Same H H'->rR r' v' H'->IsRnd (wk (mCC C) (mW es)) r'->Q v' H'
theorem zhW (T:Txt P w K mg) (g_walk_of:Fn P w K mg base 5 "walk_of" ["one"] (zfS K)) (g_mirror_edge:Fn P w K mg base 1 "mirror_edge" ["edge"] (zjX K)) (g_mirror_step:Fn P w K mg base 1 "mirror_step" ["step"] zjW)
  (g_round_of:Fn P w K mg base 5 "round_of" ["walk"] (zdh K)) (d:Df K mg "mirrored" zcb ["one"]):FnOk P w K mg base CX0 6 d.f d.fd ["one"] (zfr K):=by
 refine d.F.ok zbL (λvs H Q E h=>?_) (λcdv A outer s H vs Q E hr h=>?_)
 .obtain⟨v,r,C,es,rfl,_⟩:=h;rfl
 .obtain⟨v,r,C,es,rfl,hv,hc,hlen,k⟩:=h;have nb0:(["edge","step"]:List Str).Nodup:=by decide +kernel
  have nb1:(["other","edge","step"]:List Str).Nodup:=by decide +kernel
  refine⟨_,(zac (sE 1 zbL.nd (pC g_walk_of hr (pa_N (pv 0) zab)))
   (zac (zd8 (i:=2) (osc:=zad zcb) (N:=zdO) (N':=["edge","step"]) (sel:=[none,none]) bO zbL.nd (by rfl) (Or.inl rfl) (zaP (pv 1)) (λ_ _ _ _ _=>(zb7 (K:=K) (n:=2) (by rfl) (zag (nG 0 nb0) (zag (nG 1 nb0) zas)))) (λ_ _ _ _ _=>za8) (λ_ _ _ _ _=>(pv 0)))
   (zac (sE 3 zbL.nd (pe_op ziJ (zaI zcz (pv 2) (za3 zae) za4) (zaI zcz (pv 2) za4 (za3 zae))))
   (zac (zd8 (i:=4) (osc:=zad zcb) (N:=zdO) (N':=["other","edge","step"]) (sel:=[none,none,none]) bO zbL.nd (by rfl) (Or.inl rfl) (znC (by rfl) T.nzip (pa_N (pv 3) (pa_N (pv 1) zab))) (λ_ _ _ _ _=>(zb7 (K:=K) (n:=2) (by rfl) (zag (nG 0 nb1) (zag (zb7 (K:=K) (n:=2) (by rfl) (zag (nG 1 nb1) (zag (nG 2 nb1) zas))) zas)))) (λ_ _ _ _ _=>za8) (λ_ _ _ _ _=>(zax (zah (pC g_mirror_edge hr (pa_N (pv 0) zab)) (zah (pC g_mirror_step hr (pa_N (pv 2) zab)) zab)))))
   (zaf (zai (pC g_round_of hr (zah (zmO (pv 4) (pe_un zii zae)) zab)))))))),?_⟩
  refine⟨_,rfl,v,r,C,es,rfl,hv,hc.cl,hc.row,hc.bg,hc.so,hlen,λp H1 ws hp s1 e1 hw=>?_⟩;have hpos:0<es.length:=(Ad.mp hc.cl.1.1).1;have wl:ws.length=es.length:=by rw[hw.1,zaF]
  refine⟨_,rfl,p,rfl,⟨_,SqL.of e1⟩,λp2 hp2=>?_⟩
  refine zay (K:=K) (a:=p) (xs:=ws) (λj σ H3=>∃o0 o1,σ=[o0,o1]/\Same H1 H3/\∃us:List V,H3 p2=some (.lst us)/\VR us (es.take j) eR H3)
   ⟨_,_,rfl,Same.up hp2,[],zaa,VR.nil⟩ (λj σ H3 _ ⟨_,_,_,s3,_⟩=>SqL.of (s3 _ _ e1)) ?_ ?_
  .rintro j u σ H3 hj ⟨o0,o1,rfl,s3,us,e3,hv3⟩;obtain⟨⟨f,st⟩,he,B,bb,rfl,q1,q2⟩:=hw.at hj
   have hf:es[j]?=some f:=by
    unfold wk at he;rw[Ak]at he;obtain⟨g,hg,eg⟩:=AY.mp he
    cases eg;exact hg
   have hl3:us.length<=500:=by rw[hv3.1,Av];lia
   refine⟨B,_,rfl,SqT.of (s3 _ _ q1),rfl,_,_,rfl,_,_,rfl,rfl,?_⟩;refine zcQ ?_
   refine⟨_,rfl,us,e3,zaj (by lia),_,_,rfl,zao hp2 s3,_,zaa,?_⟩;rw[zaB hf];exact hv3.snoc (λx v h=>h.kt (KT.lst e3)) ⟨bb,rfl,KT.lst e3 _ _ (s3 _ _ q2)⟩
  .rintro σ H2 ⟨o0,o1,rfl,s2,us,e2,hv2⟩;rw[wl,AO]at hv2;have hul:us.length=es.length:=hv2.1;have c1:cutV us (some 1) none=us.drop 1:=zdx us (j:=1) (by lia);have c2:cutV us none (some 1)=us.take 1:=zdw us (j:=1) (by lia);refine⟨_,rfl,_,rfl,p2,us,rfl,SqL.of e2,λa1 ha1=>?_⟩;rw[c1];have s3:=Same.up (o:=.lst (us.drop 1)) ha1;have q3:upd H2 a1 (.lst (us.drop 1)) a1=some (.lst (us.drop 1)):=zaa;generalize upd H2 a1 (.lst (us.drop 1))=H3 at s3 q3;refine⟨_,rfl,_,rfl,p2,us,rfl,SqL.of (s3 _ _ e2),λa2 ha2=>?_⟩;rw[c2];have s4:=Same.up (o:=.lst (us.take 1)) ha2;have q4:upd H3 a2 (.lst (us.take 1)) a2=some (.lst (us.take 1)):=zaa;generalize upd H3 a2 (.lst (us.take 1))=H4 at s4 q4;refine⟨a1,a2,_,_,rfl,rfl,s4 _ _ q3,q4,Bg (zaj (by simp;lia)),λa3 ha3=>?_⟩;have s5:=Same.up (o:=.lst (us.drop 1++us.take 1)) ha3;have q5:upd H4 a3 (.lst (us.drop 1++us.take 1)) a3=some (.lst (us.drop 1++us.take 1)):=zaa;generalize upd H4 a3 (.lst (us.drop 1++us.take 1))=H5 at s5 q5;have s15:=s2.trans (s3.trans (s4.trans s5));have hb5:VR (us.drop 1++us.take 1) (es.drop 1++es.take 1) eR H5:=(VR.rot hv2 1).mono λx v h=>h.kt (KT.of (s3.trans (s4.trans s5)))
   have hw5:=hw.mono λx v h=>h.kt (KT.of s15)
   have lb:(us.drop 1++us.take 1).length=ws.length:=by rw[hb5.1,wl];simp;lia
   refine⟨_,rfl,_,rfl,a3,p,rfl,⟨_,SqL.of q5⟩,⟨_,SqL.of (s15 _ _ e1)⟩,λp6 hp6=>?_⟩
   refine zm8 (K:=K) (a:=a3) (b:=p) (xs:=us.drop 1++us.take 1) (ys:=ws) (λj σ H6=>∃o0 o1 o2,σ=[o0,o1,o2]/\Same H5 H6/\∃ms:List V,H6 p6=some (.lst ms)/\VR ms ((((es.drop 1++es.take 1).zip (wk C es)).take j).map λq=>(mE q.1,mS q.2.2)) wR H6)
    ⟨_,_,_,rfl,Same.up hp6,[],zaa,VR.nil⟩ (λj σ H6 _ ⟨_,_,_,_,s6,_⟩=>⟨SqL.of (s6 _ _ q5),SqL.of (s6 _ _ (s15 _ _ e1))⟩) lb ?_ ?_
   .rintro j x y σ H6 t hx hy ⟨o0,o1,o2,rfl,s6,ms,e6,hm6⟩ ht;obtain⟨f,hf,b1,rfl,f1⟩:=hb5.at hx;obtain⟨⟨g,st⟩,hg,B,bb,rfl,g1,g2⟩:=hw5.at hy
    have hgE:g∈es/\st=stepB C g:=by
     unfold wk at hg;rw[Ak]at hg;obtain⟨g',hg',eg⟩:=AY.mp hg
     cases eg;exact⟨Ah hg',rfl⟩
    have hfE:f∈es:=by
     rcases Bf.mp (Ah hf) with z |z
     .exact List.mem_of_mem_drop z
     .exact Do z
    have hzz:((es.drop 1++es.take 1).zip (wk C es))[j]?=some (f,(g,st)):=by rw[CH];exact⟨hf,hg⟩
    have hml:ms.length<=500:=by rw[hm6.1,Af,Av,List.length_zip,zaF];lia
    have s7:=Same.up (o:=.tup [.ref b1,.ref B]) ht;have q7:upd H6 t (.tup [.ref b1,.ref B]) t=some (.tup [.ref b1,.ref B]):=zaa;generalize upd H6 t (.tup [.ref b1,.ref B])=H7 at s7 q7;have s57:=s6.trans s7;refine⟨t,_,rfl,SqT.of q7,rfl,_,_,rfl,⟨_,_,rfl,⟨B,_,rfl,SqT.of (s57 _ _ g1),rfl,_,_,rfl,_,_,rfl,rfl,rfl,?_⟩⟩⟩;refine zcQ ?_
    refine⟨_,rfl,b1,f,rfl,SqT.of (s57 _ _ f1),(hc.cl.1.2.2.1 f hfE).1,λp8 H8 hp8 s8 e8=>⟨_,rfl,st,rfl,(λn hn=>zbU (hc.cl.1.2.2.1 g hgE.1).1 n (hgE.2.symm.trans hn)),two,λt9 ht9=>?_⟩⟩;have s9:Same H8 (upd H8 t9 (.tup [.ref p8,sv (mS st)])):=Same.up ht9;have r9:wR (mE f,mS st) (.ref t9) (upd H8 t9 (.tup [.ref p8,sv (mS st)])):=⟨t9,p8,rfl,zaa,s9 _ _ e8⟩;generalize upd H8 t9 (.tup [.ref p8,sv (mS st)])=H9 at s9 r9;have s69:=s7.trans (s8.trans s9);have e9:=s69 _ _ e6;refine⟨ms,e9,zaj (by lia),_,_,_,rfl,zao hp6 (s6.trans s69),_,zaa,?_⟩;rw[zaB hzz,Ax];exact hm6.snoc (λx v h=>(h.kt (KT.of s69)).kt (KT.lst e9)) (r9.kt (KT.lst e9))
   .rintro σ H6 ⟨o0,o1,o2,rfl,s6,ms,e6,hm6⟩;have tz:((es.drop 1++es.take 1).zip (wk C es)).take (us.drop 1++us.take 1).length=(es.drop 1++es.take 1).zip (wk C es):=BH (by rw[List.length_zip,zaF,lb,wl];lia);rw[tz]at hm6;have hcm:=zjb hc.cl
    have hh:∀kk,kk=0∨kk=2->∃x∈(wk (mCC C) (mW es)).map (·.1),x.w=kk:=λkk hkk=>by obtain⟨x,h1,h2⟩:=hcm.has hkk;exact⟨x,by rw[zbJ];exact h1,h2⟩
    refine⟨_,rfl,_,rfl,rfl,p6,ms,rfl,SqL.of e6,λp7 hp7=>?_⟩;have hmr:=hm6.rev;rw[<- wk_m hc.cl]at hmr;have s7:=Same.up (o:=.lst ms.reverse) hp7;refine⟨p7,_,rfl,LR.of zaa (hmr.mono λx v h=>h.kt (KT.of s7)),by rw[zaF,zcd];exact hlen,hh 0 (.inl rfl),hh 2 (.inr rfl),λv' H8 r' s8 hr8 hrn8=>?_⟩;exact k v' H8 r' (s1.trans (s15.trans (s6.trans (s7.trans s8)))) hr8 hrn8
noncomputable def rowI(row:List Nat):List Int:=row.map λn:Nat=>(n:Int)
noncomputable def dR(r:Rnd):PyData:=.tuple [.str r.so,.int r.x,.int r.y,tI (rowI r.row)]
theorem zfv(row:List Nat):rowV row=(rowI row).map V.int:=by unfold rowV rowI;rw[Bp];rfl
theorem zf4{a b:List Nat}(h:rowI a=rowI b):a=b:=by unfold rowI at h;exact List.map_inj_right (f:=λn:Nat=>(n:Int)) (λx y e=>by lia) |>.mp h
theorem zlx{K:W.Frag}{H:Hp}{r:Rnd}{v:V}(h:rR r v H):RD K H v (dR r):=by obtain⟨a,b,rfl,q1,q2⟩:=h;refine .tup (SqT.of q1) (.cons (.str _) (.cons (.int _) (.cons (.int _) (.cons (.tup (SqT.of q2) ?_) .nil))));rw[zfv];exact RDs.ints _
theorem znX(r q:Rnd):Cf (dR r) (dR q)=decide (r=q):=by
 show ((r.so == q.so) && ((r.x == q.x) && ((r.y == q.y) && (Cf (tI (rowI r.row)) (tI (rowI q.row)) && true))))=_;rw[zcv,Bool.and_true];obtain⟨a,b,c,d⟩:=r;obtain⟨a',b',c',d'⟩:=q;simp only
 by_cases h1:a=a'
 .by_cases h2:b=b'
  .by_cases h3:c=c'
   .by_cases h4:d=d'
    .subst h1 h2 h3 h4;simp
    .have:¬ rowI d=rowI d':=λz=>h4 (zf4 z)
     simp[h4,this]
   .simp[h3]
  .simp[h2]
 .have:(a == a')=false:=by rw[beq_eq_false_iff_ne];exact h1
  rw[this];simp[h1]
noncomputable abbrev SoOk (r:Rnd):Prop:=r.so = "rim" ∨ r.so = "hole"
theorem zk5{r:Rnd}(h:SoOk r):Cw (dR r)=true:=by have:=zav (rowI r.row);unfold Bl at this;rw[BO]at this;show (PyData.strOk r.so && (true && (true && (Cw (tI (rowI r.row)) && true))))=true;rw[this.1];rcases h with h |h <;> rw[h] <;> decide +kernel
theorem zlT(ns:List Int):Bt (tI ns)=1:=by unfold tI;rw[Bt,zbv]
theorem zlU(r:Rnd):Bt (dR r)=2:=by show Bt (.tuple [.str r.so,.int r.x,.int r.y,tI (rowI r.row)])=2;rw[Bt];show max 0 (max 0 (max 0 (max (Bt (tI (rowI r.row))) 0)))+1=2;rw[zlT];rfl
noncomputable def lR(R:List Rnd):PyData:=.list (R.map dR)
theorem zhf:∀R S:List Rnd,PyData.eqvAll (R.map dR) (S.map dR)=decide (R=S)
 |[],[]=>rfl
 |[],_::_=>rfl
 |_::_,[]=>rfl
 |r::R,q::S=>by
  show (Cf (dR r) (dR q) && PyData.eqvAll (R.map dR) (S.map dR))=_;rw[zhf R S,znX]
  by_cases e:r=q
  .subst e;by_cases e2:R=S <;> simp[e2]
  .simp[e]
theorem znW(R S:List Rnd):Cf (lR R) (lR S)=decide (R=S):=zhf R S
theorem zdU:∀R:List Rnd,(∀r∈R,SoOk r)->CL (R.map dR)=true
 |[],_=>rfl
 |r::R,h=>by show (Cw (dR r) && CL (R.map dR))=true;rw[zk5 (h r AE),zdU R λq hq=>h q (Au _ hq)];rfl
theorem zeQ:∀R:List Rnd,PyData.depthAll (R.map dR)<=2
 |[]=>Bj _
 |r::R=>by show max (Bt (dR r)) (PyData.depthAll (R.map dR))<=2;rw[zlU];have:=zeQ R;lia
theorem zgP{R:List Rnd}(h:∀r∈R,SoOk r):Bl (lR R)=true:=by unfold Bl lR;rw[Cw,zdU R h,Bt];have:=zeQ R;simp only[Bool.true_and,decide_eq_true_eq];lia
theorem zfx{K:W.Frag}{H:Hp}:∀{vs:List V}{R:List Rnd},VR vs R rR H->RDs K H vs (R.map dR)
 |[],[],_=>.nil
 |[],_::_,h=>by have:=h.1;cases this
 |_::_,[],h=>by have:=h.1;cases this
 |v::vs,r::R,h=>by
  obtain⟨h1,h2⟩:=VR.cons.mp h;exact .cons (zlx h1) (zfx h2)
theorem zgV{K:W.Frag}{H:Hp}{a:Addr}{vs:List V}{R:List Rnd}(e:SqL K H a vs)(h:VR vs R rR H):RD K H (.ref a) (lR R):=.lst e (zfx h)
theorem four:4<=sizeLine:=by decide
noncomputable def zdk(K:W.Frag):Sp:=λvs H Q _=>∃(a:Addr) (rs:List V) (R:List Rnd),vs=[.ref a]/\SqL K H a rs/\VR rs R rR H/\R.length<=60 /\
 ∀p H' rs' S,H p=none->Same H H'->H' p=some (.lst rs')->VR rs' S rR H'->S.Perm R->InKey S->Q (.ref p) H'
theorem zh0 (T:Txt P w K mg) (g_round_order:Fn P w K mg base 1 "round_order" ["one"] (zcy K)) (d:Df K mg "in_order" zdF ["some"]):FnOk P w K mg base CX0 4 d.f d.fd ["some"] (zdk K):=by
 refine d.F.ok zhF (λvs H Q E h=>?_) (λcdv A outer s H vs Q E hr h=>?_)
 .obtain⟨a,rs,R,rfl,_⟩:=h;rfl
 .obtain⟨a,rs,R,rfl,hL,hR,hlen,k⟩:=h;have hu1:=hu_of hr;refine⟨_,(zaf (zai (ziD g_round_order.ok (hr.mono (by decide)) g_round_order.b (by rfl) T.nsorted (by rfl) g_round_order.m (pv 0)))),?_⟩;have ge:∀(i:Nat) r,R[i]?=some r->R.getD i ⟨"",0,0,[]⟩=r:=λi r h=>by simp only[Ar,h,Option.getD_some]
  have hrl:rs.length<=60:=by rw[hR.1];exact hlen
  refine⟨_,rfl,a,rs,λi=>keyV (R.getD i ⟨"",0,0,[]⟩),λi=>keyI (R.getD i ⟨"",0,0,[]⟩),rfl,hL,by lia,λi x H7 hx s7=>?_,
   λi j hi hj=>⟨_,_,_,_,_,_,rfl,rfl,.cons (.int _ _) (.cons (.bl _ _) .nil),rfl,rfl⟩,λpp D H7 hpm hpo hD s7 f7=>?_⟩
  .obtain⟨r,hr',hx'⟩:=hR.at hx;refine⟨x,r,rfl,hx'.kt (KT.of s7),λq H8 hq s8 f8=>⟨s8,q,rfl,SqT.of ?_⟩⟩;show H8 q=some (HO.tup (keyV (R.getD i ⟨"",0,0,[]⟩)));rw[ge i r hr'];exact f8
  .have hlt:∀i ∈ pp, i < R.length := λi hi => by have:=Bq.mp (hpm.mem_iff.mp hi);rw[hR.1]at this;exact this
   have hRR:(pp.map λi=>R.getD i ⟨"",0,0,[]⟩).Perm R:=by
    have h1:=hpm.map λi=>R.getD i (⟨"",0,0,[]⟩:Rnd)
    rw[hR.1]at h1
    have h2:((AJ R.length).map λi=>R.getD i (⟨"",0,0,[]⟩:Rnd))=R:=by
     apply List.ext_getElem
     .simp
     .intro i a b;simp[show i<R.length by simpa using a]
    rw[h2]at h1;exact h1
   have vR:VR (pp.map λi=>rs.getD i V.non) (pp.map λi=>R.getD i ⟨"",0,0,[]⟩) rR H7:=by
    refine⟨by simp,λi r v h1 h2=>?_⟩;rw[Ak]at h1 h2;obtain⟨a,ha,rfl⟩:=AY.mp h1;rw[ha]at h2
    cases h2
    have hal:=hlt a (Ah ha);have hal2:a<rs.length:=by rw[hR.1];exact hal
    have e1:R.getD a ⟨"",0,0,[]⟩=R[a]:=by simp[hal]
    have e2:rs.getD a V.non=rs[a]:=by simp[hal2]
    rw[e1];show rR R[a] (rs.getD a V.non) H7;rw[e2];exact (hR.2 a _ _ (Aa hal) (Aa hal2)).kt (KT.of s7)
   refine k D H7 _ _ hD s7 f7 vR hRR ?_
   unfold InKey;rw[Di];exact hpo
inductive Al {α β:Type} (P:α->β->Prop):List α->List β->Prop where
 |nil:Al P [] []
 |cons {a:α} {b:β} {l:List α} {m:List β}:P a b->Al P l m->Al P (a::l) (b::m)
theorem Al.of{α β:Type}{P:α->β->Prop}:∀{l:List α}{m:List β},l.length=m.length->(∀(i:Nat) a b,m[i]?=some b->l[i]?=some a->P a b)->Al P l m
 |[],[],_,_=>.nil
 |[],_::_,h,_=>by cases h
 |_::_,[],h,_=>by cases h
 |a::l,b::m,h,q=>.cons (q 0 a b rfl rfl) (Al.of (by simpa using h) λi x y h1 h2=>q (i+1) x y (by simpa using h1) (by simpa using h2))
theorem Al.length{α β:Type}{P:α->β->Prop}{l:List α}{m:List β}(h:Al P l m):l.length=m.length:=by
 induction h with
 |nil=>rfl
 |cons _ _ ih=>simp[ih]
theorem Al.at{α β:Type}{P:α->β->Prop}{l:List α}{m:List β}(h:Al P l m):∀{i:Nat}{a:α}{b:β},m[i]?=some b->l[i]?=some a->P a b:=by
 induction h with
 |nil=>intro i a b h1;simp at h1
 |cons p _ ih =>
  intro i a b h1 h2
  cases i with
  |zero=>simp at h1 h2;subst h1 h2;exact p
  |succ i=>exact ih (by simpa using h1) (by simpa using h2)
theorem Al.perm{α β:Type}{P:α->β->Prop}{l' l:List α}(p:l'.Perm l):∀{m:List β},Al P l m->∃m',m'.Perm m/\Al P l' m':=by
 induction p with
 |nil=>intro m h;exact⟨m,.refl _,h⟩
 |cons a _ ih =>
  intro m h
  cases h with
  |cons p t =>
   obtain⟨m',q,r⟩:=ih t;exact⟨_::m',q.cons _,.cons p r⟩
 |swap a b l =>
  intro m h
  cases h with
  |cons p t =>
   cases t with
   |cons p2 t2=>exact⟨_::_::_,.swap _ _ _,.cons p2 (.cons p t2)⟩
 |trans _ _ ih1 ih2 =>
  intro m h;obtain⟨m1,q1,r1⟩:=ih2 h;obtain⟨m2,q2,r2⟩:=ih1 r1;exact⟨m2,q2.trans q1,r2⟩
theorem Al.bind{α γ:Type}{P Q:α->List γ->Prop}(f:∀a b,P a b->∃c,Q a c/\c.Perm b){l:List α}{m:List (List γ)}(h:Al P l m):∃m',Al Q l m'/\m'.flatten.Perm m.flatten:=by
 induction h with
 |nil=>exact⟨[],.nil,.refl _⟩
 |cons p _ ih =>
  obtain⟨c,q1,q2⟩:=f _ _ p;obtain⟨m',r1,r2⟩:=ih;exact⟨c::m',.cons q1 r1,by rw[Bk,Bk];exact q2.append r2⟩
theorem zhc{γ:Type}{a b:List (List γ)}(p:a.Perm b):a.flatten.Perm b.flatten:=by
 induction p with
 |nil=>exact .refl _
 |cons x _ ih=>rw[Bk,Bk];exact ih.append_left _
 |swap x y l =>
  simp only[Bk];rw[<- CK,<- CK];exact List.perm_append_comm.append_right _
 |trans _ _ i1 i2=>exact i1.trans i2
structure Cans (C:Cell->Bool) (ESS:List (List Edge)) (R:List Rnd):Prop where
 al:Al (λr es=>Can C es r) R ESS
 nd:ESS.flatten.Nodup
 all:∀e,e∈ESS.flatten ↔ IsE C e
theorem Whole.cans{cs:List Cell}{R R0:List Rnd}(p:R.Perm R0)(h:Whole cs R0):∃ESS,Cans (isIn cs) ESS R:=by
 obtain⟨E,h1,h2⟩:=h;have a1:Al (λr es=>(∃b,Closed (isIn cs) b es)/\IsRnd (wk (isIn cs) es) r) R0 E:=Al.of h1.len λi r es e1 e2=>h1.each i es r e1 e2
 obtain⟨F,q1,a2⟩:=a1.perm p
 obtain⟨G,a3,q2⟩:=Al.bind (Q:=λr es=>Can (isIn cs) es r) (λr es ⟨⟨b,hb⟩,hr⟩=>by obtain⟨es',k1,k2,k3,k4,k5,_⟩:=IsRnd.walk hb hr;exact⟨es',⟨k1,k3,k4,k5⟩,k2⟩) a2
 have pm:=q2.trans (zhc q1);exact⟨G,a3,pm.nodup_iff.mpr h1.nd,λe=>by rw[pm.mem_iff];exact h2 e⟩
theorem Cans.so{C:Cell->Bool}{ESS:List (List Edge)}{R:List Rnd}(h:Cans C ESS R){i:Nat}{r:Rnd}(hr:R[i]?=some r):∃es,ESS[i]?=some es/\Can C es r:=by have hi:=(Ad.mp hr).1;rw[h.al.length]at hi;exact⟨_,Aa hi,h.al.at (Aa hi) hr⟩
theorem zkP{C:Cell->Bool}{e:Edge}(hw:e.w<4):∀k,IsE (rCn k C) (qEn k e) ↔ IsE C e
 | 0=>Iff.rfl
 |k+1=>by
  have:∀k,(qEn k e).w<4:=λk=>by
   cases k with
   |zero=>exact hw
   |succ k=>exact AU _ (by decide)
  exact (isE_q (rCn k C) (this k)).trans (zkP hw k)
theorem znw{e:Edge}(hw:e.w<4)(k:Nat):(qEn k e).w<4:=by
 cases k with
 |zero=>exact hw
 |succ k=>exact AU _ (by decide)
theorem znx{e:Edge}(hw:e.w<4):∃f,f.w<4/\qE f=e:=by refine⟨⟨(e.c.2,-e.c.1),(e.w+3) % 4⟩,AU _ (by decide),?_⟩;obtain⟨⟨x,y⟩,w⟩:=e;simp only at hw;show (⟨(-(-x),y),((w+3) % 4+1) % 4⟩:Edge)=⟨(x,y),w⟩;rw[Int.neg_neg,show ((w+3) % 4+1) % 4=w by lia]
theorem zkc{e:Edge}(hw:e.w<4):∀k,∃f,f.w<4/\qEn k f=e
 | 0=>⟨e,hw,rfl⟩
 |k+1=>by
  obtain⟨f,h1,h2⟩:=znx hw;obtain⟨g,h3,h4⟩:=zkc h1 k;exact⟨g,h3,by show qE (qEn k g)=e;rw[h4,h2]⟩
theorem Al.snoc{α β:Type}{P:α->β->Prop}{l:List α}{m:List β}{a:α}{b:β}(h:Al P l m)(p:P a b):Al P (l++[a]) (m++[b]):=by
 induction h with
 |nil=>exact .cons p .nil
 |cons q _ ih=>exact .cons q ih
noncomputable def qCn:Nat->Cell->Cell
 | 0,c=>c
 |k+1,c=>qC (qCn k c)
noncomputable def zc2(K:W.Frag):Sp:=λvs H Q _=>∃(a:Addr) (rs:List V) (R:List Rnd) (q:Int) (C:Cell->Bool) (ESS:List (List Edge)),vs=[.ref a,.int q]/\SqL K H a rs/\VR rs R rR H/\R.length<=60/\Al (λr es=>Can C es r) R ESS/\(∀es∈ESS,es.length<=500) /\
 ∀p H' rs' S S0,H p=none->Same H H'->H' p=some (.lst rs')->VR rs' S rR H'->S.Perm S0->InKey S->Al (λr es=>IsRnd (wk (rCn (q % 4).toNat C) (es.map (qEn (q % 4).toNat))) r) S0 ESS->Q (.ref p) H'
theorem zgb (T:Txt P w K mg) (g_turned:Fn P w K mg base 6 "turned" ["one","quarters"] (zfT K)) (g_in_order:Fn P w K mg base 4 "in_order" ["some"] (zdk K)) (d:Df K mg "turned_all" zbX ["some","quarters"]):FnOk P w K mg base CX0 7 d.f d.fd ["some","quarters"] (zc2 K):=by
 refine d.F.ok zfY (λvs H Q E h=>?_) (λcdv A outer s H vs Q E hr h=>?_)
 .obtain⟨a,rs,R,q,C,ESS,rfl,_⟩:=h;rfl
 .obtain⟨a,rs,R,q,C,ESS,rfl,hL,hR,hlen,al,hes,k⟩:=h;have hu1:=hu_of hr;have nb0:(["one","quarters"]:List Str).Nodup:=by decide +kernel
  refine⟨_,(zaf (zai (pC g_in_order hr (zah (zaM (osc:=zad zbX) (N:=zdV) (N':=["one","quarters"]) (sel:=[none,some 1]) bO (zaP (pv 0)) (λ_ _ _ _ _=>(nG 0 nb0)) (λ_ _ _ _ _=>za8) (λ_ _ _ _ _=>(pC g_turned hr (pa_N (pv 0) (pa_N (pv 1) zab))))) zab)))),?_⟩;have hrl:rs.length<=60:=by rw[hR.1];exact hlen
  refine⟨_,rfl,a,rfl,⟨_,hL⟩,λp0 hp0=>?_⟩
  refine zay (K:=K) (a:=a) (xs:=rs) (λj σ H9=>∃o,σ=[o,some (.int q)]/\Same H H9/\∃vs' S0,H9 p0=some (.lst vs')/\VR vs' S0 rR H9/\Al (λr es=>IsRnd (wk (rCn (q % 4).toNat C) (es.map (qEn (q % 4).toNat))) r) S0 (ESS.take j))
   ⟨_,rfl,Same.up hp0,[],[],zaa,VR.nil,.nil⟩ (λj σ H9 _ ⟨_,_,s9,_⟩=>s9.seq hL) ?_ ?_
  .rintro j v σ H9 hj ⟨o,rfl,s9,vs',S0,e9,hv,ha⟩;obtain⟨r,hr',hx⟩:=hR.at hj;have hjR:j<R.length:=(Ad.mp hr').1;have hjE:j<ESS.length:=by rw[<- al.length];exact hjR
   have hE:=Aa hjE;have hcan:=al.at hE hr'
   have hel:vs'.length<=500:=by have:=ha.length;rw[hv.1,this,Av];have:=al.length;lia
   refine gN ?_
   refine⟨_,rfl,_,rfl,v,q,r,C,ESS[j],rfl,hx.kt (KT.of s9),hcan,hes _ (AW _),λv' H10 r' s10 hr10 hrn=>?_⟩;have e10:=s10 _ _ e9;refine⟨vs',e10,zaj (by lia),_,rfl,zao hp0 (s9.trans s10),_,S0++[r'],zaa,?_,?_⟩
   .exact hv.snoc (λx v h=>(h.kt (KT.of s10)).kt (KT.lst e10)) (hr10.kt (KT.lst e10))
   .rw[zaB hE];exact ha.snoc hrn
  .rintro σ H9 ⟨o,rfl,s9,vs',S0,e9,hv,ha⟩;have ht:ESS.take rs.length=ESS:=BH (by rw[hR.1,al.length];exact Ai _);rw[ht]at ha;exact⟨p0,vs',S0,rfl,SqL.of e9,hv,(by rw[ha.length,<- al.length];exact hlen),λp H' rs' S hp s' e' hv' hpm hin=>k p H' rs' S S0 (s9.free hp) (s9.trans s') e' hv' hpm hin ha⟩
noncomputable def zdi(K:W.Frag):Sp:=λvs H Q _=>∃(a:Addr) (rs:List V) (R:List Rnd) (C:Cell->Bool) (ESS:List (List Edge)),vs=[.ref a]/\SqL K H a rs/\VR rs R rR H/\R.length<=60/\Al (λr es=>Can C es r) R ESS/\(∀es∈ESS,es.length<=500) /\
 ∀p H' rs' S S0,H p=none->Same H H'->H' p=some (.lst rs')->VR rs' S rR H'->S.Perm S0->InKey S->Al (λr es=>IsRnd (wk (mCC C) (mW es)) r) S0 ESS->Q (.ref p) H'
theorem zeH (T:Txt P w K mg) (g_mirrored:Fn P w K mg base 6 "mirrored" ["one"] (zfr K)) (g_in_order:Fn P w K mg base 4 "in_order" ["some"] (zdk K)) (d:Df K mg "mirrored_all" zbz ["some"]):FnOk P w K mg base CX0 7 d.f d.fd ["some"] (zdi K):=by
 refine d.F.ok zep (λvs H Q E h=>?_) (λcdv A outer s H vs Q E hr h=>?_)
 .obtain⟨a,rs,R,C,ESS,rfl,_⟩:=h;rfl
 .obtain⟨a,rs,R,C,ESS,rfl,hL,hR,hlen,al,hes,k⟩:=h;have hu1:=hu_of hr;have nb0:(["one"]:List Str).Nodup:=by decide +kernel
  refine⟨_,(zaf (zai (pC g_in_order hr (zah (zaM (osc:=zad zbz) (N:=zc0) (N':=["one"]) (sel:=[none]) bO (zaP (pv 0)) (λ_ _ _ _ _=>(nG 0 nb0)) (λ_ _ _ _ _=>za8) (λ_ _ _ _ _=>(pC g_mirrored hr (pa_N (pv 0) zab)))) zab)))),?_⟩;have hrl:rs.length<=60:=by rw[hR.1];exact hlen
  refine⟨_,rfl,a,rfl,⟨_,hL⟩,λp0 hp0=>?_⟩
  refine zay (K:=K) (a:=a) (xs:=rs) (λj σ H9=>∃o,σ=[o]/\Same H H9/\∃vs' S0,H9 p0=some (.lst vs')/\VR vs' S0 rR H9/\Al (λr es=>IsRnd (wk (mCC C) (mW es)) r) S0 (ESS.take j))
   ⟨_,rfl,Same.up hp0,[],[],zaa,VR.nil,.nil⟩ (λj σ H9 _ ⟨_,_,s9,_⟩=>s9.seq hL) ?_ ?_
  .rintro j v σ H9 hj ⟨o,rfl,s9,vs',S0,e9,hv,ha⟩;obtain⟨r,hr',hx⟩:=hR.at hj;have hjR:j<R.length:=(Ad.mp hr').1;have hjE:j<ESS.length:=by rw[<- al.length];exact hjR
   have hE:=Aa hjE;have hcan:=al.at hE hr'
   have hel:vs'.length<=500:=by have:=ha.length;rw[hv.1,this,Av];have:=al.length;lia
   refine gN ?_
   refine⟨_,rfl,v,r,C,ESS[j],rfl,hx.kt (KT.of s9),hcan,hes _ (AW _),λv' H10 r' s10 hr10 hrn=>?_⟩;have e10:=s10 _ _ e9;refine⟨vs',e10,zaj (by lia),_,rfl,zao hp0 (s9.trans s10),_,S0++[r'],zaa,?_,?_⟩
   .exact hv.snoc (λx v h=>(h.kt (KT.of s10)).kt (KT.lst e10)) (hr10.kt (KT.lst e10))
   .rw[zaB hE];exact ha.snoc hrn
  .rintro σ H9 ⟨o,rfl,s9,vs',S0,e9,hv,ha⟩;have ht:ESS.take rs.length=ESS:=BH (by rw[hR.1,al.length];exact Ai _);rw[ht]at ha;exact⟨p0,vs',S0,rfl,SqL.of e9,hv,(by rw[ha.length,<- al.length];exact hlen),λp H' rs' S hp s' e' hv' hpm hin=>k p H' rs' S S0 (s9.free hp) (s9.trans s') e' hv' hpm hin ha⟩
noncomputable def mvC(d:Cell)(c:Cell):Cell:=(c.1+d.1,c.2+d.2)
noncomputable def mvE(d:Cell)(e:Edge):Edge:=⟨mvC d e.c,e.w⟩
noncomputable def mvR(d:Cell)(r:Rnd):Rnd:=⟨r.so,r.x+d.1,r.y+d.2,r.row⟩
theorem zm2{d a b:Cell}(h:mvC d a=mvC d b):a=b:=by obtain⟨a1,a2⟩:=a;obtain⟨b1,b2⟩:=b;simp only[mvC,Prod.mk.injEq]at h;exact Cu (by show a1=b1;lia) (by show a2=b2;lia)
theorem zlI(d c:Cell):mvC d (mvC (-d.1,-d.2) c)=c:=Cu (by show c.1+-d.1+d.1=c.1;lia) (by show c.2+-d.2+d.2=c.2;lia)
theorem zkx(d c:Cell):mvC (-d.1,-d.2) (mvC d c)=c:=Cu (by show c.1+d.1+-d.1=c.1;lia) (by show c.2+d.2+-d.2=c.2;lia)
theorem zm1{d:Cell}{e f:Edge}(h:mvE d e=mvE d f):e=f:=by obtain⟨a,w⟩:=e;obtain⟨b,v⟩:=f;simp only[mvE,Edge.mk.injEq]at h;rw[zm2 h.1,h.2]
theorem ziO(d:Cell)(e:Edge):mvE d (mvE (-d.1,-d.2) e)=e:=by unfold mvE;rw[zlI]
theorem go_mv(d c:Cell)(i:Nat):go (mvC d c) i=mvC d (go c i):=Cu (by show c.1+d.1+(mv i).1=c.1+(mv i).1+d.1;lia) (by show c.2+d.2+(mv i).2=c.2+(mv i).2+d.2;lia)
theorem znU(d:Cell)(e:Edge):gap (mvE d e)=mvC d (gap e):=go_mv d e.c _
theorem zm5(a b c d x y:Int):HT.lexLt [a+x,b+y] [c+x,d+y]=HT.lexLt [a,b] [c,d]:=by
 rw[HT.lexLt_cons,HT.lexLt_cons,HT.lexLt_cons,HT.lexLt_cons]
 by_cases h1:a=c
 .subst h1;rw[if_pos rfl,if_pos rfl]
  by_cases h2:b=d
  .subst h2;rw[if_pos rfl,if_pos rfl]
  .rw[if_neg (by lia),if_neg h2];exact decide_eq_decide.mpr (by lia)
 .rw[if_neg (by lia),if_neg h1];exact decide_eq_decide.mpr (by lia)
noncomputable def zjV(K:W.Frag):Sp:=λvs H Q _=>∃(v:V) (r:Rnd) (dx dy:Int),vs=[v,.int dx,.int dy]/\rR r v H/\∀p H',H p=none->Same H H'->rR (mvR (dx,dy) r) (.ref p) H'->Q (.ref p) H'
theorem zlE (d:Df K mg "moved" zhK ["one","dx","dy"]):FnOk P w K mg base CX0 1 d.f d.fd ["one","dx","dy"] (zjV K):=by
 refine d.F.ok zdm (λvs H Q E h=>?_) (λcdv A outer s H vs Q E hr h=>?_)
 .obtain⟨v,r,dx,dy,rfl,_⟩:=h;rfl
 .obtain⟨v,r,dx,dy,rfl,⟨a,b,rfl,q1,q2⟩,k⟩:=h
  refine⟨_,(zac (zbC (pv 0) (zbe (by rfl) (zag (nG 3 zdm.nd) (zag (nG 4 zdm.nd) (zag (nG 5 zdm.nd) (zag (nG 6 zdm.nd) zas))))))
   (zaf (zai (zax (pa_N (pv 3) (pa_B (pe_op zaQ (pv 4) (pv 1)) (pa_B (pe_op zaQ (pv 5) (pv 2)) (pa_N (pv 6) zab)))))))),?_⟩
  refine⟨_,rfl,a,_,rfl,SqT.of q1,rfl,_,_,rfl,_,_,rfl,_,_,rfl,_,_,rfl,rfl,?_⟩;refine⟨_,rfl,_,rfl,_,rfl,_,_,rfl,rfl,_,rfl,_,rfl,_,_,rfl,rfl,_,rfl,(by show 4<=sizeLine;decide),λp hp=>k p _ hp (Same.up hp) ⟨p,b,rfl,zaa,?_⟩⟩;exact Same.up hp _ _ q2
noncomputable def zfq(K:W.Frag):Sp:=λvs H Q _=>∃(a:Addr) (rs:List V) (R:List Rnd) (dx dy:Int),vs=[.ref a,.int dx,.int dy]/\SqL K H a rs/\VR rs R rR H/\R.length<=60 /\
 ∀p H' rs' S,H p=none->Same H H'->H' p=some (.lst rs')->VR rs' S rR H'->S.Perm (R.map (mvR (dx,dy)))->InKey S->Q (.ref p) H'
theorem zg1 (T:Txt P w K mg) (g_moved:Fn P w K mg base 1 "moved" ["one","dx","dy"] (zjV K)) (g_in_order:Fn P w K mg base 4 "in_order" ["some"] (zdk K)) (d:Df K mg "moved_all" zci ["some","dx","dy"]):FnOk P w K mg base CX0 5 d.f d.fd ["some","dx","dy"] (zfq K):=by
 refine d.F.ok zgR (λvs H Q E h=>?_) (λcdv A outer s H vs Q E hr h=>?_)
 .obtain⟨a,rs,R,dx,dy,rfl,_⟩:=h;rfl
 .obtain⟨a,rs,R,dx,dy,rfl,hL,hR,hlen,k⟩:=h;have hu1:=hu_of hr;have nb0:(["one","dx","dy"]:List Str).Nodup:=by decide +kernel
  refine⟨_,(zaf (zai (pC g_in_order hr (zah (zaM (osc:=zad zci) (N:=zeW) (N':=["one","dx","dy"]) (sel:=[none,some 1,some 2]) bO (zaP (pv 0)) (λ_ _ _ _ _=>(nG 0 nb0)) (λ_ _ _ _ _=>za8) (λ_ _ _ _ _=>(pC g_moved hr (pa_N (pv 0) (pa_N (pv 1) (pa_N (pv 2) zab)))))) zab)))),?_⟩;have hrl:rs.length<=60:=by rw[hR.1];exact hlen
  refine⟨_,rfl,a,rfl,⟨_,hL⟩,λq hq=>?_⟩
  refine zay (K:=K) (a:=a) (xs:=rs) (λj σ H9=>∃o,σ=[o,some (.int dx),some (.int dy)]/\Same H H9/\∃es,H9 q=some (.lst es)/\VR es ((R.take j).map (mvR (dx,dy))) rR H9)
   ⟨_,rfl,Same.up hq,[],zaa,VR.nil⟩ (λj σ H9 _ ⟨_,_,s9,_⟩=>s9.seq hL) ?_ ?_
  .rintro j v σ H9 hj ⟨o,rfl,s9,es,e9,hv⟩;obtain⟨r,hr',hx⟩:=hR.at hj;have hjl:j<rs.length:=(Ad.mp hj).1;have hel:es.length<=500:=by rw[hv.1,Af,Av];lia
   refine gN ?_
   refine⟨_,rfl,_,rfl,_,rfl,v,r,dx,dy,rfl,hx.kt (KT.of s9),λp H10 hp s10 hm=>?_⟩;have e10:=s10 _ _ e9;refine⟨es,e10,zaj (by lia),_,rfl,zao hq (s9.trans s10),_,zaa,?_⟩;rw[zaB hr',Ax];exact hv.snoc (λx v h=>(h.kt (KT.of s10)).kt (KT.lst e10)) (hm.kt (KT.lst e10))
  .rintro σ H9 ⟨o,rfl,s9,es,e9,hv⟩;have ht:R.take rs.length=R:=BH (by rw[hR.1];exact Ai _);rw[ht]at hv;exact⟨q,es,_,rfl,SqL.of e9,hv,(by rw[Af];exact hlen),λp H' rs' S hp s' e' hv' hpm hin=>k p H' rs' S (s9.free hp) (s9.trans s') e' hv' hpm hin⟩
theorem Can.wby{C:Cell->Bool}{es:List Edge}{r:Rnd}(h:Can C es r):wk C es=wby (begE r) (RP.deeds (begE r).w r.row):=by have h1:=h.cl.deeds;rw[<- h.row]at h1;obtain⟨⟨h0,hs,_,_⟩,_⟩:=h.cl;rw[<- zee es (.inl h0) hs,h1]
theorem Can.uniq{C D:Cell->Bool}{es fs:List Edge}{r:Rnd}(h:Can C es r)(k:Can D fs r):es=fs:=by
 have e:wk C es=wk D fs:=by rw[h.wby,k.wby]
 have:=congrArg (List.map Prod.fst) e
 rwa [zbJ,zbJ]at this
noncomputable def Shift(ds es:List Cell)(d:Cell):Prop:=(ds=[]/\es=[]/\d=(0,0))∨(es≠[]/\∀c,isIn es c=isIn (ds.map (mvC d)) c)
noncomputable def brt(q:Bool×Int)(cs:List Cell):List Cell:=(if q.1 then cs.map mC else cs).map (qCn (q.2 % 4).toNat)
noncomputable def trns:List (Bool×Int):=[(false,0),(false,1),(false,2),(false,3),(true,0),(true,1),(true,2),(true,3)]
structure Rds (K:W.Frag) (H:Hp) (a:Addr) (cs:List Cell) (rs:List V) (R:List Rnd):Prop where
 li:SqL K H a rs
 vr:VR rs R rR H
 key:InKey R
 wh:∃R0,R.Perm R0/\Whole cs R0
 le:cs.length<=60
noncomputable def First(cs ds:List Cell)(i:Nat)(q:Bool×Int)(d:Cell):Prop:=trns[i]?=some q/\Shift (brt q cs) ds d/\∀(j:Nat) q',j<i->trns[j]?=some q'->∀d,¬ Shift (brt q' cs) ds d
noncomputable def howV(q:Bool×Int)(d:Cell):List V:=[.bl q.1,.int q.2,.int d.1,.int d.2]
theorem Can.sum {C:Cell->Bool}{es:List Edge}{r:Rnd}(h:Can C es r):(r.so = "rim" /\ (es.map (tt C)).sum=4)∨(r.so = "hole" /\ (es.map (tt C)).sum=-4):=by
 have e:(es.map (tt C)).sum=(nL (wk C es):Int)-nS (wk C es):=by rw[nL_wk,nS_wk,<- zfO]
 rw[h.so,e];unfold sortS;rcases zjI h.cl with z |z
 .left;rw[if_pos (by lia)];exact⟨rfl,z⟩
 .right;rw[if_neg (by lia)];exact⟨rfl,z⟩
structure One (C:Cell->Bool) (es:List Edge) (r:Rnd):Prop where
 can:Can C es r
 all:∀e,e∈es ↔ IsE C e
theorem Can.alone{C:Cell->Bool}{es:List Edge}{r:Rnd}{m:Int}(h:Can C es r)(hm:∀c,wd es c=m-1∨wd es c=m):One (CD es m) es r:=by
 have st:∀e∈es,stepB (CD es m) e=stepB C e:=λe he=>CD.step h.cl hm he
 have wke:wk (CD es m) es=wk C es:=by unfold wk;exact BA λe he=>by rw[st e he]
 refine⟨⟨CD.closed h.cl hm,?_,by rw[wke];exact h.bg,by rw[wke];exact h.so⟩,λe=>(CD.isE h.cl hm e).symm⟩;rw[h.row,BA st]
noncomputable def mOf (s:Str):Int:=if s = "rim" then 1 else 0
theorem Can.alone'{C:Cell->Bool}{es:List Edge}{r:Rnd}(h:Can C es r):One (CD es (mOf r.so)) es r:=by
 refine h.alone λc=>?_
 rcases h.sum with⟨z,s⟩ |⟨z,s⟩
 .have:=wd_01 h.cl s c;rw[z];show _=(1:Int)-1∨_=(1:Int);lia
 .have:=wd_0m h.cl s c;rw[z];show _=(0:Int)-1∨_=(0:Int);lia
theorem One.at{C:Cell->Bool}{es:List Edge}{r:Rnd}(h:One C es r):C (begE r).c=true:=(h.can.cl.1.2.2.1 _ (Ah h.can.cl.1.1)).2.1
theorem One.inj{C D:Cell->Bool}{es fs:List Edge}{r:Rnd}(h:One C es r)(k:One D fs r):C=D:=by have e:=h.can.uniq k.can;subst e;exact zdp (λe=>(h.all e).symm.trans (k.all e)) (h.at.trans k.at.symm)
theorem One.det{C:Cell->Bool}{es fs:List Edge}{r q:Rnd}(h:One C es r)(k:One C fs q):r=q:=by
 have p:es.Perm fs:=(List.perm_ext_iff_of_nodup h.can.cl.1.2.2.2 k.can.cl.1.2.2.2).mpr λe=>(h.all e).trans (k.all e).symm
 have so:r.so=q.so:=by have pw:(wk C es).Perm (wk C fs):=p.map _;rw[h.can.so,k.can.so];unfold sortS nL nS;rw[(pw.filter _).length_eq,(pw.filter _).length_eq]
 have be:begE r=begE q:=by have b1:=h.can.bg;have b2:=k.can.bg;rw[<- so]at b2;exact b1.one (by rw[zbJ,zbJ];exact p) b2
 have c1:=h.can.cl;rw[be]at c1;have ee:=c1.uniq k.can.cl;have rr:r.row=q.row:=by rw[h.can.row,k.can.row,ee]
 obtain⟨s1,x1,y1,w1⟩:=r;obtain⟨s2,x2,y2,w2⟩:=q;simp only at so rr;subst so rr;have bc:(begE ⟨s1,x1,y1,w1⟩).c=(begE ⟨s1,x2,y2,w1⟩).c:=by rw[be]
 have bc:((x1,y1):Cell)=(x2,y2):=bc
 cases bc
 rfl
noncomputable def mvP(d:Cell)(C:Cell->Bool)(c:Cell):Bool:=C (mvC (-d.1,-d.2) c)
theorem ziN(d:Cell)(C:Cell->Bool)(c:Cell):mvP d C (mvC d c)=C c:=by unfold mvP;rw[zkx]
theorem zei(d:Cell)(C:Cell->Bool)(e:Edge):stepB (mvP d C) (mvE d e)=stepB C e:=by unfold stepB;show (if mvP d C (go (mvC d e.c) ((2*e.w+7) % 8))=true then _ else if mvP d C (go (mvC d e.c) (2*e.w))=true then _ else _)=_;rw[go_mv,go_mv,ziN,ziN];rfl
theorem ziY(d:Cell)(e:Edge)(o:Option Nat):edgeB (mvE d e) o=mvE d (edgeB e o):=by
 cases o with
 |none=>rfl
 |some s =>
  unfold edgeB;simp only;split
  .show (⟨go (mvC d e.c) s,_⟩:Edge)=mvE d ⟨go e.c s,_⟩;rw[go_mv];rfl
  .show (⟨go (mvC d e.c) s,_⟩:Edge)=mvE d ⟨go e.c s,_⟩;rw[go_mv];rfl
theorem zkv(d:Cell)(C:Cell->Bool)(e:Edge):nxt (mvP d C) (mvE d e)=mvE d (nxt C e):=by unfold nxt;rw[zei,ziY]
theorem zh6(d:Cell)(C:Cell->Bool)(e:Edge):IsE (mvP d C) (mvE d e) ↔ IsE C e:=by unfold IsE;rw[znU,ziN];show e.w<4/\mvP d C (mvC d e.c)=true/\_ ↔ _;rw[ziN]
theorem One.mv(d:Cell){C:Cell->Bool}{es:List Edge}{r:Rnd}(h:One C es r):One (mvP d C) (es.map (mvE d)) (mvR d r):=by
 have be:begE (mvR d r)=mvE d (begE r):=rfl
 have wkm:wk (mvP d C) (es.map (mvE d))=(wk C es).map λq=>(mvE d q.1,q.2):=by unfold wk;rw[Bp,Bp];exact BA λe _=>by show (mvE d e,stepB (mvP d C) (mvE d e))=(mvE d e,stepB C e);rw[zei]
 obtain⟨⟨⟨c1,c2,c3,c4⟩,l,l1,l2⟩,row,⟨b1,b2,b3⟩,so⟩:=h.can;refine⟨⟨⟨⟨?_,?_,?_,?_⟩,mvE d l,?_,?_⟩,?_,⟨?_,?_,?_⟩,?_⟩,λe=>?_⟩
 .rw[be,Ak,c1];rfl
 .intro i e f h1 h2;rw[Ak]at h1 h2;obtain⟨e',e1,rfl⟩:=AY.mp h1;obtain⟨f',f1,rfl⟩:=AY.mp h2;rw[zkv,c2 i e' f' e1 f1]
 .intro e he;obtain⟨e',h1,rfl⟩:=AF.mp he;exact (zh6 d C e').mpr (c3 e' h1)
 .unfold List.Nodup;rw[Di];exact List.Pairwise.imp (λhab e=>hab (zm1 e)) c4
 .rw[Af,Ak,l1];rfl
 .rw[zkv,l2,be]
 .show r.row=_;rw[row,Bp]
  congr 1
  exact BA λe _=>(zei d C e).symm
 .rw[be,zbJ];rw[zbJ]at b1;exact AF.mpr ⟨_,b1,rfl⟩
 .exact b2
 .intro f hf hw;rw[zbJ]at hf;obtain⟨a,ha,rfl⟩:=AF.mp hf;show HT.lexLt [a.c.2+d.2,a.c.1+d.1] [(begE r).c.2+d.2,(begE r).c.1+d.1]=false;rw[zm5];exact b3 a (by rw[zbJ];exact ha) hw
 .show r.so=_;rw[so,wkm];unfold sortS nL nS;rw[Cg,Af,Cg,Af];rfl
 .constructor
  .intro he;obtain⟨e',h1,rfl⟩:=AF.mp he;exact (zh6 d C e').mpr ((h.all e').mp h1)
  .intro he;refine AF.mpr ⟨mvE (-d.1,-d.2) e,(h.all _).mpr ?_,ziO d e⟩;rw[<- ziO d e]at he;exact (zh6 d C _).mp he
theorem One.turned{C:Cell->Bool}{es:List Edge}{r q:Rnd}(h:One C es r)(k:Nat)(hq:IsRnd (wk (rCn k C) (es.map (qEn k))) q):∃fs,One (rCn k C) fs q/\fs.length=es.length:=by
 obtain⟨fs,f1,f2,f3,f4,f5,_⟩:=IsRnd.walk (zcP h.can.cl k) hq;refine⟨fs,⟨⟨f1,f3,f4,f5⟩,λe=>?_⟩,by rw[f2.length_eq,Af]⟩;rw[f2.mem_iff];constructor
 .intro m;obtain⟨a,ha,rfl⟩:=AF.mp m;exact (zkP ((h.all a).mp ha).1 k).mpr ((h.all a).mp ha)
 .intro m;obtain⟨f,h1,h2⟩:=zkc m.1 k;refine AF.mpr ⟨f,(h.all f).mpr ?_,h2⟩;rw[<- h2]at m;exact (zkP h1 k).mp m
theorem One.mirrored{C:Cell->Bool}{es:List Edge}{r q:Rnd}(h:One C es r)(hq:IsRnd (wk (mCC C) (mW es)) q):∃fs,One (mCC C) fs q/\fs.length=es.length:=by
 obtain⟨fs,f1,f2,f3,f4,f5,_⟩:=IsRnd.walk (zjb h.can.cl) hq;refine⟨fs,⟨⟨f1,f3,f4,f5⟩,λe=>?_⟩,by rw[f2.length_eq,zcd]⟩;rw[f2.mem_iff,(zh4 es).mem_iff];constructor
 .intro m;obtain⟨a,ha,rfl⟩:=AF.mp m;exact (isE_m _ ((h.all a).mp ha).1).mpr ((h.all a).mp ha)
 .intro m;have e2:=mE_mE m.1;refine AF.mpr ⟨mE e,(h.all _).mpr ?_,e2⟩;rw[<- e2]at m;exact (isE_m _ (mE_lt e)).mp m
noncomputable def pb(q:Bool×Int)(C:Cell->Bool):Cell->Bool:=rCn (q.2 % 4).toNat (if q.1=true then mCC C else C)
theorem One.so {C:Cell->Bool}{es:List Edge}{r:Rnd}(h:One C es r):SoOk r:=by show r.so = "rim" ∨ r.so = "hole";rw[h.can.so];exact zcR _
structure Rd1 (K:W.Frag) (H:Hp) (a:Addr) (C:Cell->Bool) (v:V) (es:List Edge) (r:Rnd):Prop where
 li:SqL K H a [v]
 rd:rR r v H
 on:One C es r
 le:es.length<=480
theorem Rd1.same{H H':Hp}{a:Addr}{C:Cell->Bool}{v:V}{es:List Edge}{r:Rnd}(h:Rd1 K H a C v es r)(s:Same H H'):Rd1 K H' a C v es r:=⟨s.seq h.li,rR.kt h.rd (KT.of s),h.on,h.le⟩
theorem VR.one1{α:Type}{R:α->V->Hp->Prop}{v:V}{x:α}{H:Hp}(h:R x v H):VR [v] [x] R H:=VR.cons.mpr ⟨h,VR.nil⟩
theorem Rd1.vr{H:Hp}{a:Addr}{C:Cell->Bool}{v:V}{es:List Edge}{r:Rnd}(h:Rd1 K H a C v es r):VR [v] [r] rR H:=VR.one1 h.rd
theorem Al.one1{α β:Type}{P:α->β->Prop}{x:α}{y:β}(h:P x y):Al P [x] [y]:=.cons h .nil
theorem Al.to1{α β:Type}{P:α->β->Prop}{l:List α}{y:β}(h:Al P l [y]):∃x,l=[x]/\P x y:=by
 cases h with
 |cons p t=>cases t;exact⟨_,rfl,p⟩
theorem VR.to1{α:Type}{R:α->V->Hp->Prop}{vs:List V}{x:α}{H:Hp}(h:VR vs [x] R H):∃v,vs=[v]/\R x v H:=by
 match vs,h with
 |[v],h=>exact⟨v,rfl,(VR.cons.mp h).1⟩
noncomputable def zgN(K:W.Frag):Sp:=λvs H Q _=>∃(a:Addr) (q:Bool×Int) (C:Cell->Bool) (v:V) (es:List Edge) (r:Rnd),vs=[.ref a,.bl q.1,.int q.2]/\Rd1 K H a C v es r /\
 ∀p H' v' es' r',Same H H'->Rd1 K H' p (pb q C) v' es' r'->Q (.ref p) H'
theorem zju (g_turned_all:Fn P w K mg base 7 "turned_all" ["some","quarters"] (zc2 K)) (g_mirrored_all:Fn P w K mg base 7 "mirrored_all" ["some"] (zdi K)) (d:Df K mg "become" zf3 ["some","mirror","quarters"]):FnOk P w K mg base CX0 8 d.f d.fd ["some","mirror","quarters"] (zgN K):=by
 refine d.F.ok zj5 (λvs H Q E h=>?_) (λcdv A outer s H vs Q E hr h=>?_)
 .obtain⟨a,q,C,v,es,r,rfl,_⟩:=h;rfl
 .obtain⟨a,⟨m,q⟩,C,v,es,r,rfl,hR,k⟩:=h;refine⟨_,(zaf (zai (pC g_turned_all hr (zah (zcq (zdR (pv 1)) (pC g_mirrored_all hr (pa_N (pv 0) zab)) (pv 0)) (pa_N (pv 2) zab))))),?_⟩
  have turn:∀(a1:Addr) (H1:Hp) (C1:Cell->Bool) (v1:V) (es1:List Edge) (r1:Rnd),Same H H1->Rd1 K H1 a1 C1 v1 es1 r1->(∀p H' v' es' r',Same H H'->Rd1 K H' p (rCn (q % 4).toNat C1) v' es' r'->Q (.ref p) H')->zc2 K [.ref a1,.int q] H1 Q E0:=λa1 H1 C1 v1 es1 r1 s1 hR1 k1=>by refine⟨a1,[v1],[r1],q,C1,[es1],rfl,hR1.li,hR1.vr,(by simp),Al.one1 hR1.on.can,(λe he=>by rw[AA.mp he];have:=hR1.le;lia),λp2 H2 rs2 S2 S20 hp2 s2 e2 hS2 pm2 in2 al2=>?_⟩;obtain⟨r2,rfl,hr2⟩:=al2.to1;obtain rfl:=List.perm_singleton.mp pm2;obtain⟨v2,rfl,hv2⟩:=hS2.to1;obtain⟨fs,hf,hfl⟩:=hR1.on.turned _ hr2;exact k1 p2 H2 v2 fs r2 (s1.trans s2) ⟨SqL.of e2,hv2,hf,by have:=hR1.le;lia⟩
  cases m with
  |true =>
   refine⟨_,rfl,_,rfl,iteT ?_⟩;refine⟨_,rfl,a,[v],[r],C,[es],rfl,hR.li,hR.vr,(by simp),Al.one1 hR.on.can,(λe he=>by rw[AA.mp he];have:=hR.le;lia),λp1 H1 rs1 S1 S10 hp1 s1 e1 hS1 pm1 in1 al1=>?_⟩;obtain⟨r1,rfl,hr1⟩:=al1.to1;obtain rfl:=List.perm_singleton.mp pm1;obtain⟨v1,rfl,hv1⟩:=hS1.to1;obtain⟨fs,hf,hfl⟩:=hR.on.mirrored hr1;exact⟨_,rfl,turn p1 H1 (mCC C) v1 fs r1 s1 ⟨SqL.of e1,hv1,hf,by have:=hR.le;lia⟩ k⟩
  |false =>
   refine⟨_,rfl,_,rfl,iteF ?_⟩;exact⟨_,rfl,_,rfl,turn a H C v es r (Same.refl _) hR k⟩
noncomputable def zir(K:W.Frag):Sp:=λvs H Q _=>∃(a b:Addr) (C D:Cell->Bool) (v u:V) (es fs:List Edge) (r t:Rnd),vs=[.ref a,.ref b]/\Rd1 K H a C v es r/\Rd1 K H b D u fs t /\
 (∀p H' d,Same H H'->H' p=some (.tup [.int d.1,.int d.2])->D=mvP d C->Q (.ref p) H')/\(∀H',Same H H'->(∀d,D≠mvP d C)->Q .non H')
theorem zdJ (T:Txt P w K mg) (g_moved_all:Fn P w K mg base 5 "moved_all" ["some","dx","dy"] (zfq K)) (d:Df K mg "shift_between" zbN ["some","others"]):FnOk P w K mg base CX0 6 d.f d.fd ["some","others"] (zir K):=by
 refine d.F.ok zcu (λvs H Q E h=>?_) (λcdv A outer s H vs Q E hr h=>?_)
 .obtain⟨a,b,C,D,v,u,es,fs,r,t,rfl,_⟩:=h;rfl
 .obtain⟨a,b,C,D,v,u,es,fs,r,t,rfl,hS,hT,k1,k2⟩:=h;have hu64:=hr.units
  refine⟨_,(zac (ps_if (zmg (zez (zdr (pv 0) (λ_=>rfl))) (zkd (zez (zdr (pv 1) (λ_=>rfl))))).pt
   (zaf (zai (zax (pa_C zae (pa_C zae zab)))))
   zau)
   (zac (ps_if (zar op_ne (zap zak (by rfl) T.nlen (by rfl) (pa_N (pv 0) zab)) (zap zak (by rfl) T.nlen (by rfl) (pa_N (pv 1) zab)) (zan _))
   (zaf (zai zbf))
   zau)
   (zac (znA (i:=2) (j:=3) rfl zcu.nd (by rfl) (by rfl) (by decide) (by rfl) (by rfl) (pa_B (pe_op za5 (pe_ix zaV (pe_ix zaD (pv 1) zae (λ_ _=>rfl)) zae (λ_ _=>rfl)) (pe_ix zaV (pe_ix zaD (pv 0) zae (λ_ _=>rfl)) zae (λ_ _=>rfl))) (pa_B (pe_op za5 (pe_ix zaV (pe_ix zaD (pv 1) zae (λ_ _=>rfl)) zae (λ_ _=>rfl)) (pe_ix zaV (pe_ix zaD (pv 0) zae (λ_ _=>rfl)) zae (λ_ _=>rfl))) zab)) (by rfl))
   (zaf (zai (zcq (zar (zfy hu64) (pC g_moved_all hr (pa_N (pv 0) (pa_N (pv 2) (pa_N (pv 3) zab)))) (pv 1) (zan _)) (zax (pa_N (pv 2) (pa_N (pv 3) zab))) zbf)))))),?_⟩
  obtain⟨x1,y1,rfl,f1,_⟩:=id hT.rd;obtain⟨x0,y0,rfl,f0,_⟩:=id hS.rd;refine⟨_,rfl,_,.inl ⟨_,hS.li,rfl⟩,iteN rfl ?_⟩;refine⟨_,rfl,a,_,rfl,.inl hS.li,_,rfl,b,_,rfl,.inl hT.li,rfl,_,rfl,iteN (by simp) ?_⟩;refine⟨_,rfl,b,_,_,_,rfl,rfl,hT.li,zal (j:=0) rfl,x1,_,_,_,rfl,rfl,SqT.of f1,zal (j:=1) rfl,_,rfl,a,_,_,_,rfl,rfl,hS.li,zal (j:=0) rfl,x0,_,_,_,rfl,rfl,SqT.of f0,zal (j:=1) rfl,_,_,rfl,rfl,?_⟩;refine⟨_,rfl,b,_,_,_,rfl,rfl,hT.li,zal (j:=0) rfl,x1,_,_,_,rfl,rfl,SqT.of f1,zal (j:=2) rfl,_,rfl,a,_,_,_,rfl,rfl,hS.li,zal (j:=0) rfl,x0,_,_,_,rfl,rfl,SqT.of f0,zal (j:=2) rfl,_,_,rfl,rfl,?_⟩;refine⟨_,_,rfl,?_⟩;refine⟨_,rfl,_,rfl,_,rfl,a,_,[r],t.x-r.x,t.y-r.y,rfl,hS.li,hS.vr,(by simp),λp H1 rs' S' hp s1 e1 hS' pm' in'=>?_⟩;obtain rfl:S'=[mvR (t.x-r.x,t.y-r.y) r]:=List.perm_singleton.mp pm';have om:=hS.on.mv (t.x-r.x,t.y-r.y);refine⟨_,rfl,_,_,zgV (SqL.of e1) hS',zgV (s1.seq hT.li) (hT.same s1).vr,zgP (λq h=>by rw[AA.mp h];exact om.so),zgP (λq h=>by rw[AA.mp h];exact hT.on.so),_,rfl,?_⟩;rw[znW]
  by_cases hST:[mvR (t.x-r.x,t.y-r.y) r]=[t]
  .rw[decide_eq_true hST];refine iteT ⟨_,rfl,_,rfl,two,λp2 hp2=>k1 p2 _ (t.x-r.x,t.y-r.y) (s1.trans (Same.up hp2)) zaa ?_⟩;have e:mvR (t.x-r.x,t.y-r.y) r=t:=by injection hST
   rw[e]at om;exact hT.on.inj om
  .rw[decide_eq_false hST];refine iteF (k2 H1 s1 λdd h=>hST ?_);have o2:=hS.on.mv dd;rw[<- h]at o2;have e:=hT.on.det o2
   have ed:(t.x-r.x,t.y-r.y)=dd:=by rw[e];exact Cu (by show r.x+dd.1-r.x=dd.1;lia) (by show r.y+dd.2-r.y=dd.2;lia)
   rw[ed,<- e]
noncomputable def zll(C D:Cell->Bool)(i:Nat)(q:Bool×Int)(d:Cell):Prop:=trns[i]?=some q/\D=mvP d (pb q C)/\∀(j:Nat) q',j<i->trns[j]?=some q'->∀d,D≠mvP d (pb q' C)
noncomputable def zlf(C D:Cell->Bool):Prop:=∀(j:Nat) q',trns[j]?=some q'->∀d,D≠mvP d (pb q' C)
noncomputable def ziu(K:W.Frag):Sp:=λvs H Q _=>∃(a b:Addr) (C D:Cell->Bool) (v u:V) (es fs:List Edge) (r t:Rnd),vs=[.ref a,.ref b]/\Rd1 K H a C v es r/\Rd1 K H b D u fs t /\
 (∀p H' i q d,Same H H'->H' p=some (.tup (howV q d))->zll C D i q d->Q (.ref p) H')/\(∀H',Same H H'->zlf C D->Q .non H')
theorem zgi (T:Txt P w K mg) (g_become:Fn P w K mg base 8 "become" ["some","mirror","quarters"] (zgN K)) (g_shift_between:Fn P w K mg base 6 "shift_between" ["some","others"] (zir K)) (d:Df K mg "alike_all" zc5 ["some","others"]):FnOk P w K mg base CX0 9 d.f d.fd ["some","others"] (ziu K):=by
 refine d.F.ok zbW (λvs H Q E h=>?_) (λcdv A outer s H vs Q E hr h=>?_)
 .obtain⟨a,b,C,D,v,u,es,fs,r,t,rfl,_⟩:=h;rfl
 .obtain⟨a,b,C,D,v,u,es,fs,r,t,rfl,hS,hT,k1,k2⟩:=h;obtain⟨MTU,hTU,hms⟩:=T.tTURNS
  refine⟨_,(zac (zbR A8 rfl (ziC (zdH (v:=.ref MTU) rfl hTU rfl)) (zbe (by rfl) (zag (nG 2 zbW.nd) (zag (nG 3 zbW.nd) zas)))
   (zac (sE 4 zbW.nd (pC g_shift_between hr (zah (pC g_become hr (pa_N (pv 0) (pa_N (pv 2) (pa_N (pv 3) zab)))) (pa_N (pv 1) zab))))
   (zaf (ps_if (zar zdI (pv 4) zbf (zan _))
   (zaf (zai (zax (pa_N (pv 2) (pa_N (pv 3) (zah (pe_ix zaV (pv 4) zae (λ_ _=>rfl)) (zah (pe_ix zaV (pv 4) zae (λ_ _=>rfl)) zab)))))))
   zau))))
   (zaf (zai zbf))),?_⟩
  obtain⟨ms,hM,hml,hmq⟩:=hms H;refine⟨MTU,rfl,⟨_,hM⟩,?_⟩
  refine zgq (K:=K) (a:=MTU) (xs:=ms.map V.ref) (λi σ H2=>∃o2 o3 o4,σ=[some (.ref a),some (.ref b),o2,o3,o4]/\Same H H2/\∀(j:Nat) q',j<i->trns[j]?=some q'->∀d,D≠mvP d (pb q' C))
   ⟨_,_,_,rfl,Same.refl _,λj q' hj=>absurd hj (Nat.not_lt_zero _)⟩ (λi σ H2 _ ⟨_,_,_,_,s2,_⟩=>s2.seqT hM) ?_ ?_
  .rintro i x σ H2 hi ⟨o2,o3,o4,rfl,s2,hno⟩;rw[Ak]at hi;obtain⟨m,hm,rfl⟩:=AY.mp hi;obtain⟨q,hq,hmt⟩:=hmq i m hm;have hq':trns[i]?=some q:=hq;refine⟨m,_,rfl,s2.seqT hmt,rfl,_,_,rfl,_,_,rfl,rfl,?_⟩;refine⟨_,rfl,_,rfl,_,rfl,a,q,C,v,es,r,rfl,hS.same s2,λp1 H3 v1 es1 r1 s3 hR1=>?_⟩;refine⟨_,rfl,p1,b,pb q C,D,v1,u,es1,fs,r1,t,rfl,hR1,hT.same (s2.trans s3),λp2 H4 dd s4 e4 hsh=>?_,λH4 s4 hnone=>?_⟩
   .refine⟨_,rfl,rfl,_,rfl,iteY rfl ?_⟩;refine⟨_,rfl,_,rfl,_,rfl,p2,_,_,_,rfl,rfl,SqT.of e4,zal (j:=0) rfl,_,rfl,p2,_,_,_,rfl,rfl,SqT.of e4,zal (j:=1) rfl,four,λp hp=>?_⟩;exact k1 p _ i q dd ((s2.trans (s3.trans s4)).trans (Same.up hp)) zaa ⟨hq',hsh,hno⟩
   .refine⟨_,rfl,rfl,_,rfl,iteN rfl ?_⟩;refine⟨_,_,_,rfl,s2.trans (s3.trans s4),λj q' hj hj'=>?_⟩;rcases AC j i with z |z
    .exact hno j q' z hj'
    .have:j=i:=by lia
     subst this;rw[hq']at hj'
     cases hj'
     exact hnone
  .rintro σ H2 ⟨o2,o3,o4,rfl,s2,hno⟩;refine k2 H2 s2 λj q' hj=>hno j q' ?_ hj
   rw[Af,hml];exact (Ad.mp hj).1
noncomputable def zmc(K:W.Frag):Sp:=λvs H Q _=>∃(C D:Cell->Bool) (v u:V) (es fs:List Edge) (r t:Rnd),vs=[v,u]/\rR r v H/\rR t u H/\One C es r/\One D fs t/\es.length<=480/\fs.length<=480 /\
 (∀p H' i q d,Same H H'->H' p=some (.tup (howV q d))->zll C D i q d->Q (.ref p) H')/\(∀H',Same H H'->zlf C D->Q .non H')
theorem zlF (g_alike_all:Fn P w K mg base 9 "alike_all" ["some","others"] (ziu K)) (d:Df K mg "alike" zhL ["one","other"]):FnOk P w K mg base CX0 10 d.f d.fd ["one","other"] (zmc K):=by
 refine d.F.ok zlt (λvs H Q E h=>?_) (λcdv A outer s H vs Q E hr h=>?_)
 .obtain⟨C,D,v,u,es,fs,r,t,rfl,_⟩:=h;rfl
 .obtain⟨C,D,v,u,es,fs,r,t,rfl,hv,hu,o1,o2,l1,l2,k1,k2⟩:=h;refine⟨_,(zaf (zai (pC g_alike_all hr (zah (zbu (pa_N (pv 0) zab)) (zah (zbu (pa_N (pv 1) zab)) zab))))),?_⟩;refine⟨_,rfl,ziK,λp1 hp1=>?_⟩;have s1:=Same.up (o:=.lst [v]) hp1;have e1:upd H p1 (.lst [v]) p1=some (.lst [v]):=zaa;generalize upd H p1 (.lst [v])=H1 at s1 e1;refine⟨_,rfl,ziK,λp2 hp2=>?_⟩;have s2:=Same.up (o:=.lst [u]) hp2;have e2:upd H1 p2 (.lst [u]) p2=some (.lst [u]):=zaa;generalize upd H1 p2 (.lst [u])=H2 at s2 e2;have s12:=s1.trans s2;refine⟨p1,p2,C,D,v,u,es,fs,r,t,rfl,⟨SqL.of (s2 _ _ e1),rR.kt hv (KT.of s12),o1,l1⟩,⟨SqL.of e2,rR.kt hu (KT.of s12),o2,l2⟩,λp H' i q d s=>k1 p H' i q d (s12.trans s),λH' s=>k2 H' (s12.trans s)⟩
noncomputable def rot(ns:List Int)(i:Nat):List Int:=ns.drop i++ns.take i
theorem ziy{K:W.Frag}{σ : St}{H:Hp}{Q:VK}{m j i:Nat}{a:Addr}{ns:List Int}(hm : σ[m]? = some (some (.ref a)))(hj : σ[j]? = some (some (.int (i:Int))))(hq:SqT K H a (ns.map V.int))(hi:i < ns.length)(hlen:ns.length <= 500)
  (h:∀b H',Same H H'->SqT K H' b ((rot ns i).map V.int)->Q (.ref b) H') :
  tOp (rCatT K) (tSl (rSlTW K) (tVar m) (tPart (tVar j)) zdA) (tSl (rSlTW K) (tVar m) zdA (tPart (tVar j))) σ H Q:=by
 have hl:(ns.map V.int).length=ns.length:=Af _;have i1:HT.sIx (ns.map V.int).length 0 (some (i:Int))=i:=by rw[sIx_nat,hl,DE (by lia)]
 have i2:HT.sIx (ns.map V.int).length (ns.map V.int).length (some (i:Int))=i:=by rw[sIx_nat,hl,DE (by lia)]
 have c1:cutV (ns.map V.int) (some (i:Int)) none=(ns.drop i).map V.int:=by rw[zdx _ (by rw[hl];lia),CQ]
 have c2:cutV (ns.map V.int) none (some (i:Int))=(ns.take i).map V.int:=by rw[zdw _ (by rw[hl];lia),B9]
 rcases Bu i with rfl |hp
 .refine⟨_,hm,_,hj,_,rfl,a,_,rfl,hq,λ_=>?_,λhn=>absurd ⟨i1,rfl⟩ hn⟩;refine⟨_,hm,_,hj,_,rfl,a,_,rfl,hq,λhw=>?_,λ_ p hp'=>?_⟩
  .rw[i2]at hw;have:=hw.2;rw[hl]at this;lia
  .rw[c2];refine⟨a,p,_,_,rfl,rfl,(Same.up hp').seqT hq,SqT.of zaa,?_,?_,λ_=>h a _ (Same.up hp') ?_,λhne=>absurd rfl hne⟩
   .intro z;have:ns=[]:=BX.mp z;rw[this]at hi;exact absurd hi (by simp)
   .exact Bg (zaj (by simp;lia))
   .have e:rot ns 0=ns:=by unfold rot;simp
    rw[e];exact (Same.up hp').seqT hq
 .refine⟨_,hm,_,hj,_,rfl,a,_,rfl,hq,λhw=>?_,λ_ p1 hp1=>?_⟩
  .rw[i1]at hw;have:=hw.1;lia
  .rw[c1];have s1:=Same.up (o:=.tup ((ns.drop i).map V.int)) hp1;refine⟨_,hm,_,hj,_,rfl,a,_,rfl,s1.seqT hq,λhw=>?_,λ_ p2 hp2=>?_⟩
   .rw[i2]at hw;have:=hw.2;rw[hl]at this;lia
   .rw[c2];have s2:=Same.up (o:=.tup ((ns.take i).map V.int)) hp2;refine⟨p1,p2,_,_,rfl,rfl,s2.seqT (SqT.of zaa),SqT.of zaa,?_,Bg (zaj (by simp;lia)),λz=>?_,λ_ p3 hp3=>h p3 _ (s1.trans (s2.trans (Same.up hp3))) (SqT.of ?_)⟩
    .intro z;have:=BX.mp z;have:=DP.mp this;lia
    .have:=BX.mp z;have h3:(ns.take i).length=0:=by rw[this];rfl
     rw[Av]at h3;lia
    .rw[zaa];unfold rot;rw[Ax]
theorem Least.uniq{κ:Nat->List Int}{n i j:Nat}(hi:Least κ n i)(hj:Least κ n j)(h1:i<n)(h2:j<n):i=j:=by
 rcases Nat.lt_trichotomy i j with h |h |h
 .have a:=(hj i h1).2 h;have b:=(hi j h2).1;rw[a]at b;cases b
 .exact h
 .have a:=(hi j h2).2 h;have b:=(hj i h1).1;rw[a]at b;cases b
theorem zjk{l:List (List Int)}:∀e∈l.map tI,Bl e=true:=λz hz=>by obtain⟨f,_,rfl⟩:=AF.mp hz;exact zav _
theorem zka{K:W.Frag}{σ : St}{H:Hp}{Q:VK}{te:TE}{j i:Nat}{a:Addr}{ns:List Int}(hm:∀(H':Hp) (Q':VK), Same H H' -> Q' (.ref a) H' -> te σ H' Q')(hj : σ[j]? = some (some (.int (i:Int))))(hq0:H a=some (.tup (ns.map V.int)))
  (hi:i<ns.length∨(ns=[]/\i=0)) (hlen:ns.length<=500) (h:∀b H',Same H H'->H' b=some (.tup ((rot ns i).map V.int))->Q (.ref b) H') :
  tOp (rCatE K) (tSl (rSlTW K) te (tPart (tVar j)) zdA) (tSl (rSlTW K) te zdA (tPart (tVar j))) σ H Q:=by
 have hq:SqT K H a (ns.map V.int):=SqT.of hq0;have hl:(ns.map V.int).length=ns.length:=Af _;have i1:HT.sIx (ns.map V.int).length 0 (some (i:Int))=min i ns.length:=by rw[sIx_nat,hl]
 have i2:HT.sIx (ns.map V.int).length (ns.map V.int).length (some (i:Int))=min i ns.length:=by rw[sIx_nat,hl]
 have c1:cutV (ns.map V.int) (some (i:Int)) none=(ns.drop i).map V.int:=by rw[zdx _ (by rw[hl];lia),CQ]
 have c2:cutV (ns.map V.int) none (some (i:Int))=(ns.take i).map V.int:=by rw[zdw _ (by rw[hl];lia),B9]
 rcases Bu i with rfl |hp
 .refine hm H _ (Same.refl _) ⟨_,hj,_,rfl,a,_,rfl,hq,λ_=>?_,λhn=>absurd ⟨by rw[i1];lia,rfl⟩ hn⟩;rcases hi with hi |⟨hz,_⟩
  .refine hm H _ (Same.refl _) ⟨_,hj,_,rfl,a,_,rfl,hq,λhw=>?_,λ_ p hp'=>?_⟩
   .rw[i2]at hw;have:=hw.2;rw[hl]at this;lia
   .rw[c2];have hne:ns≠[]:=λz=>by rw[z]at hi;exact absurd hi (by simp)
    refine⟨a,p,_,_,rfl,rfl,(Same.up hp').seqT hq,SqT.of zaa,Bg (zaj (by simp;lia)),λz=>absurd (BX.mp z) hne,λ_ _=>h a _ (Same.up hp') ?_,λ_ hne=>absurd rfl hne⟩;have e:rot ns 0=ns:=by unfold rot;simp
    rw[e];exact Same.up hp' _ _ hq0
  .subst hz;refine hm H _ (Same.refl _) ⟨_,hj,_,rfl,a,_,rfl,hq,λ_=>?_,λhn=>absurd ⟨rfl,by rw[i2];rfl⟩ hn⟩;exact⟨a,a,_,_,rfl,rfl,hq,hq,by show 0+0<=sizeLine;decide,λ_=>h a H (Same.refl _) hq0,λz=>absurd rfl z,λz=>absurd rfl z⟩
 .have hi':i<ns.length:=by lia
  refine hm H _ (Same.refl _) ⟨_,hj,_,rfl,a,_,rfl,hq,λhw=>?_,λ_ p1 hp1=>?_⟩
  .rw[i1]at hw;have:=hw.1;lia
  .rw[c1];have s1:=Same.up (o:=.tup ((ns.drop i).map V.int)) hp1;refine hm _ _ s1 ⟨_,hj,_,rfl,a,_,rfl,s1.seqT hq,λhw=>?_,λ_ p2 hp2=>?_⟩
   .rw[i2]at hw;have:=hw.2;rw[hl]at this;lia
   .rw[c2];have s2:=Same.up (o:=.tup ((ns.take i).map V.int)) hp2;refine⟨p1,p2,_,_,rfl,rfl,s2.seqT (SqT.of zaa),SqT.of zaa,Bg (zaj (by simp;lia)),λz=>?_,λ_ z=>?_,λ_ _ p3 hp3=>h p3 _ (s1.trans (s2.trans (Same.up hp3))) ?_⟩
    .have:=DP.mp (BX.mp z);lia
    .have h3:(ns.take i).length=0:=by rw[BX.mp z];rfl
     rw[Av]at h3;lia
    .rw[zaa];unfold rot;rw[Ax]
noncomputable def zcs(ns l:List Int):Prop:=(ns=[]/\l=[])∨∃i,i<ns.length/\Least (rot ns) ns.length i/\l=rot ns i
theorem zaE(ns:List Int)(i:Nat):(rot ns i).length=ns.length:=by unfold rot;rw[Ap,A0,Av];lia
theorem zhN{ns:List Int}{i m:Nat}(hi:i<=ns.length)(hm:m<ns.length):(rot ns i)[m]?=ns[if m+i<ns.length then m+i else m+i-ns.length]?:=by
 unfold rot
 by_cases h:m+i<ns.length
 .rw[if_pos h,Ao (by rw[A0];lia),Cy,Nat.add_comm]
 .rw[if_neg h,AB (by rw[A0];lia),A0,Dy (by lia)]
  congr 1;lia
theorem zf6{ns:List Int}{k j:Nat}(hk:k<=ns.length)(hj:j<=ns.length):rot (rot ns k) j=rot ns (if k+j<ns.length then k+j else k+j-ns.length):=by
 apply Cb
 intro m
 by_cases hm:m<ns.length
 .rw[zhN (by rw[zaE];exact hj) (by rw[zaE];exact hm),zaE,zhN (by split <;> lia) hm];rw[zhN hk (by split <;> lia)]
  congr 1
  split <;> split <;> split <;> (try split) <;> lia
 .rw[AZ (by rw[zaE,zaE];lia),AZ (by rw[zaE];lia)]
theorem zcs.uniq{ns l l':List Int}(h:zcs ns l)(h':zcs ns l'):l=l':=by
 rcases h with⟨h1,h2⟩ |⟨i,hi,h1,h2⟩
 .rcases h' with⟨_,h4⟩ |⟨j,hj,_,_⟩
  .rw[h2,h4]
  .rw[h1]at hj;exact absurd hj (by simp)
 .rcases h' with⟨h3,_⟩ |⟨j,hj,h3,h4⟩
  .rw[h3]at hi;exact absurd hi (by simp)
  .rw[h2,h4,Least.uniq h1 h3 hi hj]
theorem zcs.same{ns ms l l':List Int}(h:zcs ns l)(h':zcs ms l'):l=l' ↔ ns.length=ms.length/\(ns=ms∨∃i,i<ns.length/\rot ns i=ms):=by
 constructor
 .intro e;rcases h with⟨h1,h2⟩ |⟨i,hi,h1,h2⟩
  .rcases h' with⟨h3,h4⟩ |⟨j,hj,h3,h4⟩
   .rw[h1,h3];exact⟨rfl,.inl rfl⟩
   .have:=congrArg List.length e;rw[h2,h4,zaE]at this;simp at this;lia
  .rcases h' with⟨h3,h4⟩ |⟨j,hj,h3,h4⟩
   .have h0:ns.length=([]:List Int).length:=by rw[<- zaE ns i,<- h2,e,h4]
    rw[h0]at hi;exact absurd hi (by simp)
   .have hl:ns.length=ms.length := by have:=congrArg List.length e;rw[h2,h4,zaE,zaE]at this;exact this
    refine⟨hl,.inr ⟨if i+(ns.length-j)<ns.length then i+(ns.length-j) else i+(ns.length-j)-ns.length,by split <;> lia,?_⟩⟩;rw[<- zf6 (ns:=ns) (k:=i) (j:=ns.length-j) (by lia) (by lia),<- h2,e,h4,hl,zf6 (ns:=ms) (k:=j) (j:=ms.length-j) (by lia) (by lia)];rw[show (if j+(ms.length-j)<ms.length then j+(ms.length-j) else j+(ms.length-j)-ms.length)=0 by split <;> lia];unfold rot;simp
 .rintro⟨hl,hor⟩;rcases hor with rfl |⟨k,hk,rfl⟩
  .exact h.uniq h'
  .rcases h with⟨h1,h2⟩ |⟨i,hi,h1,h2⟩
   .rw[h1]at hk;exact absurd hk (by simp)
   .rcases h' with⟨h3,h4⟩ |⟨j,hj,h3,h4⟩
    .have h0:ns.length=([]:List Int).length:=by rw[<- zaE ns k,h3]
     rw[h0]at hk;exact absurd hk (by simp)
    .rw[zaE]at hj h3;refine HT.lexLt_total ?_ ?_
     .-- l is a rotation of ms
      have e:rot ns i=rot (rot ns k) (if i+(ns.length-k)<ns.length then i+(ns.length-k) else i+(ns.length-k)-ns.length):=by
       rw[zf6 (ns:=ns) (k:=k) (by lia) (by split <;> lia)]
       congr 1
       split <;> split <;> lia
      rw[h2,h4,e];exact (h3 _ (by split <;> lia)).1
     .have e:rot (rot ns k) j=rot ns (if k+j<ns.length then k+j else k+j-ns.length):=zf6 (ns:=ns) (by lia) (by lia);rw[h2,h4,e];exact (h1 _ (by split <;> lia)).1
noncomputable def dN(so:Str)(l:List Int):PyData:=.tuple [.str so,tI l]
theorem zgQ {so:Str}(h:so = "rim" ∨ so = "hole") (l:List Int):Bl (dN so l)=true:=by
 have:=zav l;unfold Bl at this;rw[BO]at this;have dp:Bt (tI l)=1:=by unfold tI;rw[Bt,zbv]
 have dd:Bt (dN so l)=2:=by show Bt (.tuple [.str so,tI l])=2;rw[Bt];show max 0 (max (Bt (tI l)) 0)+1=2;rw[dp];rfl
 have cl:Cw (dN so l)=true:=by show (PyData.strOk so && (Cw (tI l) && true))=true;rw[this.1];rcases h with h |h <;> rw[h] <;> decide +kernel
 unfold Bl;rw[cl,dd];rfl
theorem znY(a b:Str)(l m:List Int):Cf (dN a l) (dN b m)=decide (a=b/\l=m):=by
 show ((a == b) && (Cf (tI l) (tI m) && true))=_;rw[zcv,Bool.and_true]
 by_cases h1:a=b
 .subst h1;simp
 .have:(a == b)=false:=by rw[beq_eq_false_iff_ne];exact h1
  rw[this];simp[h1]
noncomputable def zmb(K:W.Frag):Sp:=λvs H Q _=>∃(v:V) (r:Rnd),vs=[v]/\rR r v H/\r.row.length<=500 /\
 ∀(b c:Addr) (l:List Int) (H':Hp),Same H H'->zcs (rowI r.row) l->H' b=some (.tup [.str r.so,.ref c])->H' c=some (.tup (l.map V.int))->Q (.ref b) H'
theorem ziA{H:Hp}:∀{vs:List V}{l:List (List Int)},VR vs l (λns v H=>∃b,v=.ref b/\SqT K H b (ns.map V.int)) H->RDs K H vs (l.map tI)
 |[],[],_=>.nil
 |[],_::_,h=>by have:=h.1;cases this
 |_::_,[],h=>by have:=h.1;cases this
 |v::vs,e::l,h=>by
  obtain⟨b,rfl,q⟩:=h.2 0 e v rfl rfl;exact .cons (.tup q (RDs.ints e)) (ziA ⟨by simpa using h.1,λi x u h1 h2=>h.2 (i+1) x u (by simpa using h1) (by simpa using h2)⟩)
noncomputable def zhB(K:W.Frag):Sp:=λvs H Q _=>∃(a:Addr) (ns:List Int),vs=[.ref a]/\SqT K H a (ns.map V.int)/\ns.length<=500/\(ns=[]->∀H',Same H H'->Q (.int 0) H') /\
 ∀i H',Same H H'->Least (rot ns) ns.length i->i<ns.length->Q (.int (i:Nat)) H'
theorem zdt (T:Txt P w K mg) (d:Df K mg "least_beginning" zaO ["row"]):FnOk P w K mg base CX0 2 d.f d.fd ["row"] (zhB K):=by
 refine d.F.ok zbV (λvs H Q E h=>?_) (λcdv A outer s H vs Q E hr h=>?_)
 .obtain⟨a,ns,rfl,_⟩:=h;rfl
 .obtain⟨a,ns,rfl,hq,hlen,k0,k⟩:=h;have hu1:=hu_of hr;have hun:=hr.un;have hu65:(A.deeper (PyProof.Rows.envOfC (B7 "least_beginning") (zad zaO) s.heap.objs.size d.f cdv)).units+65<cLine:=by lia
  have nb0:(["at","row"]:List Str).Nodup:=by decide +kernel
  refine⟨_,(zac (ps_if (zez (zdr (pv 0) (λ_=>rfl)))
   (zaf (zai zae))
   zau)
   (zac (zd8 (i:=1) (osc:=zad zaO) (N:=zce) (N':=["at","row"]) (sel:=[none,some 0]) bO zbV.nd (by rfl) (Or.inl rfl) (zbd (by rfl) T.nrange (zah (zap zak (by rfl) T.nlen (by rfl) (pa_N (pv 0) zab)) zab)) (λ_ _ _ _ _=>(nG 0 nb0)) (λ_ _ _ _ _=>za8) (λ_ _ _ _ _=>(pe_op (ziI (K:=K)) (zaI (zd6 (K:=K)) (pv 1) (za3 (pv 0)) za4) (zaI (zd6 (K:=K)) (pv 1) za4 (za3 (pv 0))))))
   (zaf (zai (pe_bm A6 DN PySem.F.type_list_index (zg6 hu65) (pv 1) (zah (zap (zk7 hu1 rfl) (by rfl) T.nmin (by rfl) (pa_N (pv 1) zab)) zab)))))),?_⟩
  refine⟨_,rfl,_,.inr (.inl ⟨_,hq,rfl⟩),?_⟩
  cases hns:ns with
  |nil =>
   subst hns;exact iteT (k0 rfl H (Same.refl _))
  |cons n0 rest =>
   have hpos:0<ns.length:=by rw[hns];simp
   rw[<- hns];have he:(!(!(List.map V.int ns).isEmpty))=false:=by rw[hns];rfl
   refine iteN he ?_
   refine⟨_,rfl,a,_,rfl,.inr hq,_,rfl,by lia,by rw[Af];lia,λp hp=>?_⟩;rw[Af]
   refine zaS (lo:=0) (n:=(ns.length:Int).toNat) (λi σ H2=>∃o,σ=[o,some (.ref a)]/\Same H H2/\∃es,H2 p=some (.lst es)/\VR es ((AJ i).map (rot ns)) (λns v H=>∃b,v=.ref b/\SqT K H b (ns.map V.int)) H2)
    ⟨_,rfl,Same.up hp,[],zaa,VR.nil⟩ ?_ ?_
   .rintro i σ H2 hi ⟨o,rfl,s2,es,e2,hv⟩;have hi':i<ns.length:=by lia
    have hl2:es.length<=1000:=by rw[hv.1];simp;lia
    refine gN ?_
    refine ziy (m:=1) (j:=0) (i:=i) rfl (by show some (some (V.int (0+(i:Int))))=_;rw[C6]) (s2.seqT hq) hi' hlen λb H3 s3 hb=>?_
    have e3:=s3 _ _ e2;refine⟨es,e3,zaj hl2,_,rfl,zao hp (s2.trans s3),_,zaa,?_⟩;rw[Dd,Ax]
    have keep:∀c xs,SqT K H3 c xs->SqT K (upd H3 p (.lst (es++[.ref b]))) c xs:=λc xs h=>by
     rcases h with (h |⟨o,h⟩) |h
     .exact .inl (.inl (by rw[zam (ne_of h e3 (λz=>nomatch z))];exact h))
     .exact .inl (.inr ⟨o,by rw[zam (ne_of h e3 (λz=>nomatch z))];exact h⟩)
     .exact .inr h
    exact hv.snoc (λx v ⟨c,ec,hc⟩=>⟨c,ec,keep _ _ (s3.seqT hc)⟩) ⟨b,rfl,keep _ _ hb⟩
   .rintro σ H2 ⟨o,rfl,s2,es,e2,hv⟩;have hn':(ns.length:Int).toNat=ns.length:=by lia
    rw[hn']at hv;have hel:es.length=ns.length:=by rw[hv.1];simp
    have at':∀(i:Nat) v,es[i]?=some v->i<ns.length/\∃b,v=.ref b/\SqT K H2 b ((rot ns i).map V.int):=λi v hx=>by
     have hi:i<ns.length:=by rw[<- hel];exact (Ad.mp hx).1
     refine⟨hi,hv.2 i _ v ?_ hx⟩;rw[Ak,CU hi];rfl
    refine⟨_,rfl,.inl ⟨rfl,_,SqL.of e2⟩,_,rfl,p,es,rot ns,rfl,SqL.of e2,by lia,λi x hx=>(at' i x hx).2,λi x H3 hx hle s3=>?_⟩;obtain⟨hi,b,rfl,hb⟩:=at' i x hx;rw[hel]at hle;refine⟨p,es,.ref b,tI (rot ns i),((AJ ns.length).map (rot ns)).map tI,i,tI (rot ns i),rfl,rfl,SqL.of (s3 _ _ e2),.tup (s3.seqT hb) (RDs.ints _),ziA (hv.mono λns v ⟨c,ec,hc⟩=>⟨c,ec,s3.seqT hc⟩),zav _,zjk,?_,?_,(λm z hm hz=>?_),?_⟩
    .rw[Ak,Ak,CU hi];rfl
    .rw[zcv];exact decide_eq_true rfl
    .rw[Ak,Ak,CU (by lia)]at hz
     cases hz
     rw[zcv];refine decide_eq_false (λq=>?_);have:=(hle m (by lia)).2 hm;rw[q,HT.lexLt_irrefl]at this
     cases this
    .exact k i H3 (s2.trans s3) hle hi
theorem zjg{vs:List V}{H:Hp}{Q:VK}{E:XK}{a:Addr}{ns:List Int}(e:vs=[.ref a])(hq:SqT K H a (ns.map V.int))(hl:ns.length<=500)(h:∀(i:Nat) H',Same H H'->(i<ns.length∨(ns=[]/\i=0))->zcs ns (rot ns i)->Q (.int (i:Nat)) H'):zhB K vs H Q E:=by refine⟨a,ns,e,hq,hl,λhz H' s=>?_,λi H' s hle hi=>h i H' s (.inl hi) (.inr ⟨i,hi,hle,rfl⟩)⟩;have:=h 0 H' s (.inr ⟨hz,rfl⟩) (.inl ⟨hz,by rw[hz];rfl⟩);exact this
theorem zmV (g_least_beginning:Fn P w K mg base 2 "least_beginning" ["row"] (zhB K)) (d:Df K mg "name" zj6 ["one"]):FnOk P w K mg base CX0 3 d.f d.fd ["one"] (zmb K):=by
 refine d.F.ok zdD (λvs H Q E h=>?_) (λcdv A outer s H vs Q E hr h=>?_)
 .obtain⟨v,r,rfl,_⟩:=h;rfl
 .obtain⟨v,r,rfl,⟨a,b,rfl,q1,q2⟩,hlen,k⟩:=h;have hrl:(rowI r.row).length<=500:=by unfold rowI;simpa using hlen
  have q2':H b=some (.tup ((rowI r.row).map V.int)):=by rw[<- zfv];exact q2
  refine⟨_,(zac (zbC (pv 0) (zbe (by rfl) (zag (nG 1 zdD.nd) (zag (nG 2 zdD.nd) (zag (nG 3 zdD.nd) (zag (nG 4 zdD.nd) zas))))))
   (zac (sE 5 zdD.nd (pC g_least_beginning hr (pa_N (pv 4) zab)))
   (zaf (zai (zax (pa_N (pv 1) (pa_B (pe_op zkr (zaI zel (pv 4) (za3 (pv 5)) za4) (zaI zel (pv 4) za4 (za3 (pv 5)))) zab))))))),?_⟩
  refine⟨_,rfl,a,_,rfl,SqT.of q1,rfl,_,_,rfl,_,_,rfl,_,_,rfl,_,_,rfl,rfl,?_⟩;refine⟨_,rfl,?_⟩;dsimp only[tNil];refine zjg (a:=b) (ns:=rowI r.row) rfl (SqT.of q2') hrl λi H1 s1 hi hle=>?_
  refine⟨_,rfl,?_⟩;refine zka (j:=5) (i:=i) (a:=b) (ns:=rowI r.row) (λH' Q' _ h=>⟨_,rfl,h⟩) rfl (s1 _ _ q2') hi hrl λc H2 s2 hc=>?_
  refine⟨two,λp hp=>?_⟩;exact k p c _ _ (s1.trans (s2.trans (Same.up hp))) hle zaa (Same.up hp _ _ hc)
theorem zmm(W:Wk):nL W=((W.map (·.2)).filter (·.isNone)).length:=by rw[Cg,Af];rfl
theorem zml(W:Wk):nS W=((W.map (·.2)).filter slant).length:=by rw[Cg,Af];rfl
theorem zji{W V:Wk}{f:Option Nat->Option Nat}(p:(V.map (·.2)).Perm ((W.map (·.2)).map f))(hf:∀o∈W.map (·.2),(f o).isNone=o.isNone/\slant (f o)=slant o):sortS V=sortS W:=by
 have e1:nL V=nL W:=by
  rw[zmm,zmm,(p.filter _).length_eq,Cg,Af]
  congr 1
  exact List.filter_congr λo ho=>(hf o ho).1
 have e2:nS V=nS W:=by
  rw[zml,zml,(p.filter _).length_eq,Cg,Af]
  congr 1
  exact List.filter_congr λo ho=>(hf o ho).2
 unfold sortS;rw[e1,e2]
theorem IsRnd.gone{W:Wk}{r:Rnd}(h:IsRnd W r):∃X Y,r.row=X++Y/\(W.map (·.2)).filterMap id=Y++X:=by obtain⟨_,j,e,_,_,_,_,hrow⟩:=h;refine⟨(W.drop j).filterMap (·.2),(W.take j).filterMap (·.2),by rw[hrow,Dg],?_⟩;rw[<- Dg,CC,B5];rfl
theorem znV(g:Nat->Nat)(L:List (Option Nat)):(L.map (Option.map g)).filterMap id=(L.filterMap id).map g:=by rw[B5,List.map_filterMap];rfl
noncomputable def sh(k s:Nat):Nat:=(s+2*k) % 8
theorem zin(C:Cell->Bool){e:Edge}(hw:e.w<4):∀k,stepB (rCn k C) (qEn k e)=(stepB C e).map (sh k)
 | 0=>by
  show stepB C e=_
  cases h:stepB C e with
  |none=>rfl
  |some s =>
   have:=zbU hw s h;show some s=some ((s+2*0) % 8);rw[show (s+2*0) % 8=s by lia]
 |k+1=>by
  show stepB (rC (rCn k C)) (qE (qEn k e))=_;rw[zhx _ (znw hw k),zin C hw k]
  cases stepB C e with
  |none=>rfl
  |some s =>
   show some (((s+2*k) % 8+2) % 8)=some ((s+2*(k+1)) % 8);rw[show ((s+2*k) % 8+2) % 8=(s+2*(k+1)) % 8 by lia]
theorem zl3(C:Cell->Bool)(es:List Edge):(wk C es).map (·.2)=es.map (stepB C):=by unfold wk;rw[Bp];rfl
theorem zdQ{C:Cell->Bool}{es:List Edge}(hE:∀e∈es,e.w<4)(k:Nat):(wk (rCn k C) (es.map (qEn k))).map (·.2)=(es.map (stepB C)).map (Option.map (sh k)):=by
 rw[zl3,Bp,Bp]
 apply BA
 intro e he;exact zin C (hE e he) k
theorem zmA{C:Cell->Bool}{es:List Edge}(hE:∀e∈es,e.w<4){s:Nat}(h:some s∈es.map (stepB C)):s<8:=by obtain⟨e,he,ee⟩:=AF.mp h;exact zbU (hE e he) s ee
theorem Can.turned{C:Cell->Bool}{es:List Edge}{r q:Rnd}{k:Nat}(h:Can C es r)(hq:IsRnd (wk (rCn k C) (es.map (qEn k))) q):q.so=r.so/\∃X Y,q.row=X++Y/\r.row.map (sh k)=Y++X:=by
 have hE:∀e∈es,e.w<4:=λe he=>(h.cl.1.2.2.1 e he).1
 refine⟨?_,?_⟩
 .rw[hq.1,h.so];refine zji (f:=Option.map (sh k)) (by rw[zdQ hE,zl3]) λo ho=>?_
  cases o with
  |none=>exact⟨rfl,rfl⟩
  |some s =>
   refine⟨rfl,?_⟩;show ((s+2*k) % 8 % 2 == 1)=(s % 2 == 1);rw[show (s+2*k) % 8 % 2=s % 2 by lia]
 .obtain⟨X,Y,h1,h2⟩:=hq.gone;refine⟨X,Y,h1,?_⟩;rw[zdQ hE,znV,<- h.row]at h2;exact h2
theorem zc7(X Y:List Nat):rowI (X++Y)=rowI X++rowI Y:=Ax
noncomputable def tnb(a b:Int):Int:=(b-a+3) % 8-3
noncomputable def trn(ns:List Int):List Int:=(AJ (ns.length-1)).map λi=>tnb (ns.getD i 0) (ns.getD (i+1) 0)
theorem zfo(ns:List Int):(trn ns).length=ns.length-1:=by unfold trn;simp
theorem zmx{ns:List Int}{i:Nat}(h:i+1<ns.length):(trn ns)[i]?=some (tnb (ns.getD i 0) (ns.getD (i+1) 0)):=by unfold trn;rw[Ak,CU (by lia)];rfl
theorem zkT{ns:List Int}{i:Nat}(h:i<ns.length):ns.getD i 0=ns[i]:=by simp[h]
noncomputable def hd1:List Int->V
 |[]=>.non
 |n::_=>.int n
theorem zba(ns:List Int):Bl (.list (ns.map .int))=true:=by unfold Bl;rw[Cw,zb8,Bt,zbv];rfl
theorem zhe(ns ms:List Int):Cf (.list (ns.map .int)) (.list (ms.map .int))=decide (ns=ms):=zdb ns ms
noncomputable def spTB:Sp:=λvs H Q _=>∃x y:Int,vs=[.int x,.int y]/\Q (.int (tnb x y)) H
theorem zeC (d:Df K mg "turn_between" zb0 ["step","other"]):FnOk P w K mg base CX0 1 d.f d.fd ["step","other"] spTB:=by
 refine d.F.ok zen (λvs H Q E h=>?_) (λcdv A outer s H vs Q E hr h=>?_)
 .obtain⟨x,y,rfl,_⟩:=h;rfl
 .obtain⟨x,y,rfl,k⟩:=h;refine⟨_,(zaf (zai (pe_op za5 (pe_op zaT (pe_op zaQ (pe_op za5 (pv 1) (pv 0)) zae) zae) zae))),?_⟩;exact⟨_,rfl,_,rfl,_,_,rfl,rfl,_,_,rfl,rfl,_,_,rfl,rfl,(by show (0:Int)<8;decide),_,_,rfl,rfl,k⟩
noncomputable def zjP(K:W.Frag):Sp:=λvs H Q _=>∃(a:Addr) (ns:List Int),vs=[.ref a]/\SqT K H a (ns.map V.int)/\ns.length<=500 /\
 ∀(p L:Addr) (H':Hp),Same H H'->H' p=some (.tup [hd1 ns,.ref L])->H' L=some (.lst ((trn ns).map V.int))->Q (.ref p) H'
theorem zhU (T:Txt P w K mg) (g_turn_between:Fn P w K mg base 1 "turn_between" ["step","other"] spTB) (d:Df K mg "turns_of" zcS ["row"]):FnOk P w K mg base CX0 2 d.f d.fd ["row"] (zjP K):=by
 refine d.F.ok zhD (λvs H Q E h=>?_) (λcdv A outer s H vs Q E hr h=>?_)
 .obtain⟨a,ns,rfl,_⟩:=h;rfl
 .obtain⟨a,ns,rfl,hq,hlen,k⟩:=h;have nb0:(["at","row"]:List Str).Nodup:=by decide +kernel
  refine⟨_,(zac (ps_if (zez (zdr (pv 0) (λ_=>rfl)))
   (zaf (zai (zax (pa_C zbf (zah (zbu zab) zab)))))
   zau)
   (zaf (zai (zax (zah (pe_ix zaV (pv 0) zae (λ_ _=>rfl)) (zah (zaM (osc:=zad zcS) (N:=zfF) (N':=["at","row"]) (sel:=[none,some 0]) bO (zeA (by rfl) T.nrange (pa_C zae (zah (zap zak (by rfl) T.nlen (by rfl) (pa_N (pv 0) zab)) zab))) (λ_ _ _ _ _=>(nG 0 nb0)) (λ_ _ _ _ _=>za8) (λ_ _ _ _ _=>(pC g_turn_between hr (zah (pe_ix (zh5 (K:=K)) (pv 1) (pe_op za5 (pv 0) zae) (λ_ _=>rfl)) (zah (pe_ix (zh5 (K:=K)) (pv 1) (pv 0) (λ_ _=>rfl)) zab))))) zab)))))),?_⟩
  refine⟨_,rfl,_,.inr (.inl ⟨_,hq,rfl⟩),?_⟩
  cases hns:ns with
  |nil =>
   subst hns;refine iteT ⟨(by show 0<=sizeLine;decide),λL hL=>⟨two,λp hp=>?_⟩⟩;exact k p L _ ((Same.up hL).trans (Same.up hp)) zaa (Same.up hp _ _ zaa)
  |cons n0 rest =>
   have hpos:0<ns.length:=by rw[hns];simp
   rw[<- hns];have he:(!(!(List.map V.int ns).isEmpty))=false:=by rw[hns];rfl
   have hh:hd1 ns=.int n0:=by rw[hns];rfl
   refine iteN he ?_
   refine⟨_,rfl,a,_,_,.int n0,rfl,rfl,hq,zal (j:=0) (by rw[hns];rfl),?_⟩;refine⟨_,rfl,a,_,rfl,.inr hq,_,_,rfl,⟨by decide,by decide,by lia,by rw[Af];lia⟩,λL hL=>?_⟩;rw[Af]
   refine zaS (lo:=1) (n:=((ns.length:Int)-1).toNat) (λi σ H2=>∃o,σ=[o,some (.ref a)]/\Same H H2/\H2 L=some (.lst (((trn ns).take i).map V.int)))
    ⟨_,rfl,Same.up hL,zaa⟩ ?_ ?_
   .rintro i σ H2 hi ⟨o,rfl,s2,e2⟩;have hi':i+1<ns.length:=by lia
    have hl2:(((trn ns).take i).map V.int).length<=1000:=by simp[zfo];lia
    have hq2:=s2.seqT hq
    have i1:atI (ns.map V.int) (1+(i:Int)-1)=some (.int (ns.getD i 0)):=by rw[show (1:Int)+(i:Int)-1=(i:Int) by lia];exact zal (by rw[Ak,Aa (by lia),zkT (by lia)];rfl)
    have i2:atI (ns.map V.int) (1+(i:Int))=some (.int (ns.getD (i+1) 0)):=by rw[show (1:Int)+(i:Int)=((i+1:Nat):Int) by lia];exact zal (by rw[Ak,Aa hi',zkT hi'];rfl)
    refine gN ?_
    refine⟨_,rfl,_,rfl,_,_,rfl,rfl,a,_,_,_,rfl,rfl,hq2,i1,_,rfl,_,rfl,a,_,_,_,rfl,rfl,hq2,i2,_,_,rfl,?_⟩;refine⟨_,e2,zaj hl2,_,rfl,zao hL s2,?_⟩;rw[zaa,List.take_add_one,zmx hi',Ax];rfl
   .rintro σ H2 ⟨o,rfl,s2,e2⟩;rw[BH (by rw[zfo];lia)]at e2;refine⟨two,λp hp=>?_⟩;exact k p L _ (s2.trans (Same.up hp)) (by rw[zaa,hh]) (Same.up hp _ _ e2)
noncomputable def Boxed(m:Nat)(cs:List Cell):Prop:=∃(x y:Int) (w h:Nat),w*h<=m/\∀c∈cs,x<=c.1/\c.1<x+w/\y<=c.2/\c.2<y+h
noncomputable def apart(o:Cell)(k:Int)(c:Cell):Cell:=(o.1+(c.1-o.1)*k,o.2+(c.2-o.2)*k)
noncomputable def zn5(H:Hp)(p:Addr)(t:Int):Prop:=∃c:Int,H p=some (.lst [.int c,.int t])/\0<=t/\t<2 ^ 40
theorem cpow{i j:Int}(h:0<=j/\j<=1000000/\i.natAbs<2 ^ 64):CPow i j:=h
noncomputable def zit(K:W.Frag):Sp:=λvs H Q _=>∃(a:Addr) (ns:List Int) (k:Nat),vs=[.ref a,.int k]/\SqL K H a (ns.map V.int)/\∀n,Q (.int n) H
theorem ze5 (T:Txt P w K mg) (d:Df K mg "_law_cell_at" zb6 ["_law_script","_law_k"]):FnOk P w K mg base CX0 1 d.f d.fd ["_law_script","_law_k"] (zit K):=by
 refine d.F.ok zet (λvs H Q E h=>?_) (λcdv A outer s H vs Q E hr h=>?_)
 .obtain⟨a,ns,k,rfl,_⟩:=h;rfl
 .obtain⟨a,ns,i,rfl,hq,k⟩:=h
  refine⟨_,(zac (ps_if (zar op_lt (pv 1) (zap zak (by rfl) T.nlen (by rfl) (pa_N (pv 0) zab)) (zan _))
   (zaf (zai (pe_ix zaD (pv 0) (pv 1) (λ_ _=>rfl))))
   zau)
   (zaf (zai zae))),?_⟩
  refine⟨_,rfl,_,rfl,a,_,rfl,.inl hq,_,_,rfl,rfl,_,rfl,?_⟩;refine ite2 (λhy=>?_) (λhn=>k 0)
  have hlt:i<ns.length:=by have:=of_decide_eq_true hy;rw[Af]at this;lia
  exact⟨_,rfl,_,rfl,a,_,_,_,rfl,rfl,hq,zal (v:=.int ns[i]) (by simp[hlt]),k _⟩
noncomputable def zl8:Sp:=λvs H Q _=>∃(p:Addr) (t b:Int),vs=[.ref p,.int b]/\zn5 H p t/\0<b/\b.natAbs.log2<9000/\∀(n c:Int),0<=n->n<b->Q (.int n) (upd H p (.lst [.int c,.int (t+1)]))
theorem zhX (T:Txt P w K mg) (d:Df K mg "_law_take" zc6 ["_law_pen","_law_base"]):FnOk P w K mg base CX0 1 d.f d.fd ["_law_pen","_law_base"] zl8:=by
 refine d.F.ok zbB (λvs H Q E h=>?_) (λcdv A outer s H vs Q E hr h=>?_)
 .obtain⟨p,t,b,rfl,_⟩:=h;rfl
 .obtain⟨p,t,b,rfl,⟨c,hp,ht0,ht1⟩,hb,hlog,k⟩:=h
  refine⟨_,(zac (zbC (pe_op zaQ (pe_ix zaD (pv 0) zae (λ_ _=>rfl)) zae) (zmj (pv 0) zae zix))
   (zac (ps_if (zar op_ge (zap zi6 (by rfl) T.nabs (by rfl) (zah (pe_ix zaD (pv 0) zae (λ_ _=>rfl)) zab)) (pe_op zgX zae zae) (zan _))
   (zac (sE 2 zbB.nd (pe_op za5 (zap zi6 (by rfl) T.nabs (by rfl) (zah (pe_ix zaD (pv 0) zae (λ_ _=>rfl)) zab)) (pe_op zgX zae zae)))
   (zac (zbC (pe_op zaQ (pe_op zgX zae zae) (pe_op zd9 (pv 2) (pv 1))) (zmj (pv 0) zae zix))
   (zaf (zai (pe_op zaT (pv 2) (pv 1))))))
   zau)
   (zac (sE 3 zbB.nd (pe_op zaQ (pe_op zcZ (pe_op zaT (pe_ix zaD (pv 0) zae (λ_ _=>rfl)) zae) zae) (pe_op zcZ (pe_op zcZ zae (pe_ix zaD (pv 0) zae (λ_ _=>rfl))) (pe_ix zaD (pv 0) zae (λ_ _=>rfl)))))
   (zac (sE 3 zbB.nd (pe_op zaT (pe_op zaQ (pe_op zaQ (pv 3) (pe_op zcZ zae (pe_ix zaD (pv 0) zae (λ_ _=>rfl)))) zae) zae))
   (zac (sE 3 zbB.nd (pe_op zaT (pe_op zaQ (pe_op zaQ (pe_op zcZ (pv 3) (pv 3)) (pe_op zcZ zae (pv 3))) (pe_ix zaD (pv 0) zae (λ_ _=>rfl))) zae))
   (zaf (zai (pe_op zaT (pe_op zkp (pv 3) zae) (pv 1))))))))),?_⟩
  refine⟨_,rfl,p,_,_,_,rfl,rfl,SqL.of hp,zal (j:=1) rfl,_,_,rfl,rfl,_,rfl,p,_,_,1,rfl,rfl,hp,rfl,?_⟩;have h1:upd H p (.lst [.int c,.int (t+1)]) p=some (.lst [.int c,.int (t+1)]):=zaa;have hmod:∀z:Int,0<=z % b/\z % b<b:=λz=>⟨Int.emod_nonneg _ (by lia),Int.emod_lt_of_pos _ hb⟩
  refine⟨_,rfl,p,_,_,_,rfl,rfl,SqL.of h1,zal (j:=0) rfl,c,rfl,_,_,rfl,rfl,(by refine cpow ?_;decide),_,_,rfl,rfl,_,rfl,?_⟩;refine ite2 (λ_=>?_) (λ_=>?_)
  .refine⟨_,rfl,p,_,_,_,rfl,rfl,SqL.of h1,zal (j:=0) rfl,c,rfl,_,_,rfl,rfl,(by refine cpow ?_;decide),_,_,rfl,rfl,?_⟩;refine⟨_,_,rfl,rfl,(by refine cpow ?_;decide),_,rfl,_,rfl,_,_,rfl,rfl,⟨hb,hlog⟩,_,_,rfl,rfl,_,rfl,p,_,_,0,rfl,rfl,h1,rfl,?_⟩;refine⟨_,rfl,_,rfl,_,_,rfl,rfl,hb,?_⟩;rw[zmv];exact k _ _ (hmod _).1 (hmod _).2
  .refine⟨_, rfl, p, _, _, _, rfl, rfl, SqL.of h1, zal (j := 0) rfl, _, _, rfl, rfl, (by show (0:Int) < 2147483647; decide), _, _, rfl, rfl, .inr ⟨by decide, by decide⟩,
    _,rfl,p,_,_,_,rfl,rfl,SqL.of h1,zal (j:=1) rfl,_,_,rfl,rfl,.inl ⟨by decide,by decide⟩,_,rfl,p,_,_,_,rfl,rfl,SqL.of h1,zal (j:=1) rfl,_,_,rfl,rfl,.inr ⟨by lia,by lia⟩,_,_,rfl,rfl,?_⟩
   refine⟨_,rfl,_,rfl,p,_,_,_,rfl,rfl,SqL.of h1,zal (j:=1) rfl,_,_,rfl,rfl,.inl ⟨by decide,by decide⟩,_,_,rfl,rfl,_,_,rfl,rfl,_,_,rfl,rfl,(by show (0:Int)<2147483629;decide),?_⟩
   refine⟨_,rfl,_,rfl,_,_,rfl,rfl,.inl ⟨Int.lt_of_lt_of_le (show (-(2 ^ 64):Int)<0 by decide) (Int.emod_nonneg _ (by decide)),Int.lt_trans (Int.emod_lt_of_pos _ (by decide)) (by decide)⟩,_,rfl,_,_,rfl,rfl,.inl ⟨by decide,by decide⟩,_,_,rfl,rfl,
    _,rfl,p,_,_,_,rfl,rfl,SqL.of h1,zal (j:=1) rfl,_,_,rfl,rfl,_,_,rfl,rfl,(by show (0:Int)<2147483587;decide),?_⟩
   refine⟨_,rfl,_,_,rfl,rfl,⟨by decide,by decide⟩,_,rfl,_,_,rfl,rfl,hb,?_⟩;exact k _ _ (hmod _).1 (hmod _).2
noncomputable def HasB(H:Hp)(p:Addr)(n:Nat):Prop:=∃c t:Int,H p=some (.lst [.int c,.int t])/\0<=t/\t+n<2 ^ 40
theorem HasB.le{H:Hp}{p:Addr}{n m:Nat}(h:HasB H p n)(hm:m<=n):HasB H p m:=let ⟨c,t,e,a,b⟩:=h;⟨c,t,e,a,by lia⟩
theorem HasB.same{H H':Hp}{p:Addr}{n:Nat}(h:HasB H p n)(s:Same H H'):HasB H' p n:=let ⟨c,t,e,a,b⟩:=h;⟨c,t,s _ _ e,a,b⟩
noncomputable def But(H H':Hp)(p:Addr):Prop:=∀z o,z≠p->H z=some o->H' z=some o
theorem But.refl(H:Hp)(p:Addr):But H H p:=λ_ _ _ h=>h
theorem But.trans{H H1 H2:Hp}{p:Addr}(a:But H H1 p)(b:But H1 H2 p):But H H2 p:=λz o hz h=>b z o hz (a z o hz h)
theorem But.of{H H1:Hp}{p:Addr}(a:Same H H1):But H H1 p:=λz o _ h=>a z o h
theorem But.free{H H1:Hp}{p q:Addr}{n:Nat}(a:But H H1 p)(h:HasB H p n)(hq:H1 q=none)(hp:HasB H1 p 0):H q=none:=by
 obtain⟨c,t,e,_⟩:=hp;have hne:q≠p:=λz=>by subst z;rw[e]at hq;cases hq
 cases x:H q with
 |none=>rfl
 |some o=>rw[a q o hne x]at hq;cases hq
theorem But.kt{H H1:Hp}{p:Addr}{n:Nat}(a:But H H1 p)(h:HasB H p n):KT H H1:=λb xs e=>by obtain⟨c,t,ep,_⟩:=h;exact a b _ (ne_of e ep (λz=>nomatch z)) e
theorem zlp{A:Prop}{D:Int->Hp->Prop}(C:Int->Hp->Prop)(g:(∀n H1,D n H1->C n H1)->A)(h:∀n H1,D n H1->C n H1):A:=g h
theorem za2{b:Int}(h0:0<b)(h:b<=1000):b.natAbs.log2<9000:=by refine (Nat.log2_lt (by lia)).mpr (AM (show b.natAbs<2 ^ 10 by lia) (Nat.pow_le_pow_right (by decide) (by decide)))
noncomputable def spTk:Sp:=λvs H Q _=>∃(p:Addr) (n:Nat) (b:Int),vs=[.ref p,.int b]/\HasB H p (n+1)/\0<b/\b.natAbs.log2<9000/\∀(r:Int) (H':Hp),0<=r->r<b->But H H' p->HasB H' p n->Q (.int r) H'
theorem tk_of {f:Addr}{fd:Br}(h:FnOk P w K mg base CX0 1 f fd ["_law_pen","_law_base"] zl8):FnOk P w K mg base CX0 1 f fd ["_law_pen","_law_base"] spTk:=by
 refine h.imp λvs H Q E h=>?_
 obtain⟨p,n,b,rfl,⟨c,t,e,h0,h1⟩,hb,hl,k⟩:=h;refine⟨p,t,b,rfl,⟨c,e,h0,by lia⟩,hb,hl,λr c' h2 h3=>k r _ h2 h3 (λz o hz h=>by rw[zam hz];exact h) ⟨c',t+1,zaa,by lia,by lia⟩⟩
noncomputable abbrev Tk (P:AH) (w:A1) (K:W.Frag) (mg:Str->Option Ab) (base:Heap):=Fn P w K mg base 1 "_law_take" ["_law_pen","_law_base"] spTk
noncomputable def spFar:Sp:=λvs H Q _=>∃(p:Addr) (n:Nat),vs=[.ref p]/\HasB H p (n+3)/\∀(r:Int) (H':Hp),-(2 ^ 104)<r/\r<2 ^ 104->But H H' p->HasB H' p n->Q (.int r) H'
theorem atI3{a b c:V}{n:Int}(h0:0<=n)(h3:n<3):∃v,atI [a,b,c] n=some v/\(v=a∨v=b∨v=c):=by
 have:n=0∨n=1∨n=2:=by lia
 rcases this with rfl |rfl |rfl
 .exact⟨a,rfl,.inl rfl⟩
 .exact⟨b,rfl,.inr (.inl rfl)⟩
 .exact⟨c,rfl,.inr (.inr rfl)⟩
theorem zjt (g__law_take:Tk P w K mg base) (d:Df K mg "_law_far" zdG ["_law_pen"]):FnOk P w K mg base CX0 2 d.f d.fd ["_law_pen"] spFar:=by
 refine d.F.ok zes (λvs H Q E h=>?_) (λcdv A outer s H vs Q E hr h=>?_)
 .obtain⟨p,n,rfl,_⟩:=h;rfl
 .obtain⟨p,n,rfl,hp,k⟩:=h
  refine⟨_,(zac (sE 1 zes.nd (pC g__law_take hr (pa_N (pv 0) (pa_C zae zab))))
   (zac (ps_if (zar op_lt (pv 1) zae (zan _))
   (zaf (zai (pe_ix zaD (zbu (pa_C zae (pa_B (pe_op za5 (pC g__law_take hr (pa_N (pv 0) (pa_C zae zab))) zae) (pa_B (pe_op za5 (pC g__law_take hr (pa_N (pv 0) (pa_C zae zab))) zae) zab)))) (pv 1) (λ_ _=>rfl))))
   zau)
   (zaf (zai (pe_op zaQ (pe_op za5 (pC g__law_take hr (pa_N (pv 0) (pa_B (pe_op za5 (pe_op zcZ zae (pe_op zgX zae zae)) zae) zab))) (pe_op zgX zae zae)) zae))))),?_⟩
  refine⟨_,rfl,p,n+2,4,rfl,hp,by decide,za2 (by decide) (by decide),λr H1 h0 h4 b1 p1=>?_⟩;refine⟨_,rfl,_,_,rfl,rfl,_,rfl,?_⟩;refine ite2 (λhy=>?_) (λhn=>?_)
  .have h3:r<3:=of_decide_eq_true hy;refine⟨_,rfl,p,n+1,41,rfl,p1,by decide,za2 (by decide) (by decide),λr2 H2 x1 x2 b2 p2=>⟨_,_,rfl,rfl,?_⟩⟩;refine⟨_,rfl,p,n,2000001,rfl,p2,by decide,by decide +kernel,λr3 H3 y1 y2 b3 p3=>⟨_,_,rfl,rfl,three,λl hl=>?_⟩⟩;obtain⟨v,hv,hor⟩:=atI3 (a:=.int 0) (b:=.int (r2-20)) (c:=.int (r3-1000000)) h0 h3;refine⟨_,rfl,l,_,_,v,rfl,rfl,SqL.of zaa,hv,?_⟩;have fin:∀z:Int,-(2 ^ 104)<z/\z<2 ^ 104->Q (.int z) (upd H3 l (.lst [.int 0,.int (r2-20),.int (r3-1000000)])):=λz hz=>k z _ hz ((b1.trans (b2.trans b3)).trans (But.of (Same.up hl))) (p3.same (Same.up hl))
   rcases hor with z |z |z <;> rw[z] <;> exact fin _ (by lia)
  .refine⟨_,rfl,_,_,rfl,rfl,(by refine cpow ?_;decide),_,_,rfl,rfl,.inl ⟨by decide,by decide⟩,_,_,rfl,rfl,p,n+1,_,rfl,p1,(by decide),(by decide +kernel),λr2 H2 x1 x2 b2 p2=>?_⟩;refine⟨_,_,rfl,rfl,(by refine cpow ?_;decide),_,_,rfl,rfl,_,_,rfl,rfl,?_⟩;refine k _ _ ?_ (b1.trans b2) (p2.le (by lia))
   have x2':r2<2*10 ^ 30-799:=x2;show -(2 ^ 104)<r2-10 ^ 30+400/\r2-10 ^ 30+400<2 ^ 104;lia
noncomputable def zjQ:Sp:=λvs H Q _=>∃(p:Addr) (n:Nat) (way x y wd hg:Int),vs=[.ref p,.int way,.int x,.int y,.int wd,.int hg]/\0<=way/\HasB H p (n+1)/\∀(b:Bool) (H':Hp),But H H' p->HasB H' p n->Q (.bl b) H'
theorem zeI (T:Txt P w K mg) (g__law_take:Tk P w K mg base) (d:Df K mg "_law_is_there" zbQ ["_law_pen", "_law_way", "_law_x", "_law_y", "_law_wide", "_law_high"]) :
  FnOk P w K mg base CX0 2 d.f d.fd ["_law_pen","_law_way","_law_x","_law_y","_law_wide","_law_high"] zjQ:=by
 refine d.F.ok zdZ (λvs H Q E h=>?_) (λcdv A outer s H vs Q E hr h=>?_)
 .obtain⟨p,n,way,x,y,wd,hg,rfl,_⟩:=h;rfl
 .obtain⟨p,n,way,x,y,wd,hg,rfl,hw,hp,k⟩:=h
  refine⟨_,(zac (ps_if (zar op_eq (pv 1) zae (zan _))
   (zaf (zai pe_bl))
   zau)
   (zac (ps_if (zar op_lt (pv 1) zae (zan _))
   (zaf (zai (zaK op_lt (pC g__law_take hr (pa_N (pv 0) (zah (pe_ix zaD (zbu (pa_C zae (pa_C zae (pa_C zae zab)))) (pe_op za5 (pv 1) zae) (λ_ _=>rfl)) zab))) (pe_ix zaD (zbu (pa_C zae (pa_C zae (pa_C zae zab)))) (pe_op za5 (pv 1) zae) (λ_ _=>rfl)) (zan _))))
   zau)
   (zac (ps_if (zar op_eq (pv 1) zae (zan _))
   (zaf (zai (zaK op_eq (pe_op zaT (zap (zk9 rfl) (by rfl) T.nmin (by rfl) (pa_N (pv 2) (pa_N (pv 3) (pa_B (pe_op za5 (pe_op za5 (pv 4) zae) (pv 2)) (pa_B (pe_op za5 (pe_op za5 (pv 5) zae) (pv 3)) zab))))) zae) zae (zan _))))
   zau)
   (zaf (zai (pe_or (zaK op_eq (pe_op zaT (pe_op zaQ (pv 2) (pv 3)) zae) zae (zan _)) (zeB (zaK op_eq (pC g__law_take hr (pa_N (pv 0) (pa_C zae zab))) zae (zan _))))))))),?_⟩
  have fin:∀b,Q (.bl b) H:=λb=>k b H (But.refl _ _) (hp.le (by lia))
  refine⟨_,rfl,rfl,_,rfl,?_⟩;refine ite2 (λ_=>fin _) (λhn0=>?_);refine⟨_,rfl,_,_,rfl,rfl,_,rfl,?_⟩;refine ite2 (λhy=>?_) (λ_=>?_)
  .have h4:way<4:=of_decide_eq_true hy;have hne:way≠0:=λz=>hn0 (by rw[z];rfl)
   refine⟨_,rfl,three,λl hl=>?_⟩;obtain⟨v,hv,hor⟩:=atI3 (a:=V.int 2) (b:=V.int 5) (c:=V.int 4) (n:=way-1) (by lia) (by lia)
   obtain⟨bb,rfl,hb0,hb1⟩:∃bb:Int,v=.int bb/\0<bb/\bb<=1000:=by
    rcases hor with z |z |z
    .exact⟨2,z,by decide,by decide⟩
    .exact⟨5,z,by decide,by decide⟩
    .exact⟨4,z,by decide,by decide⟩
   refine⟨_,rfl,_,_,rfl,rfl,l,_,_,_,rfl,rfl,SqL.of zaa,hv,p,n,bb,rfl,hp.same (Same.up hl),hb0,za2 hb0 hb1,λr H1 _ _ b1 p1=>?_⟩;refine⟨three,λl2 hl2=>?_⟩;obtain⟨v2,hv2,hor2⟩:=atI3 (a:=V.int 1) (b:=V.int 4) (c:=V.int 1) (n:=way-1) (by lia) (by lia)
   obtain⟨b2,rfl⟩:∃bb:Int,v2=.int bb:=by
    rcases hor2 with z |z |z
    .exact⟨1,z⟩
    .exact⟨4,z⟩
    .exact⟨1,z⟩
   refine⟨_,rfl,_,_,rfl,rfl,l2,_,_,_,rfl,rfl,SqL.of zaa,hv2,_,_,rfl,rfl,?_⟩;exact k _ _ (((But.of (Same.up hl)).trans b1).trans (But.of (Same.up hl2))) (p1.same (Same.up hl2))
  .refine⟨_,rfl,rfl,_,rfl,?_⟩;refine ite2 (λ_=>?_) (λ_=>?_)
   .refine⟨_,rfl,_,rfl,_,rfl,_,_,rfl,rfl,_,rfl,_,_,rfl,rfl,_,rfl,_,_,rfl,rfl,_,rfl,_,_,rfl,rfl,_,_,_,_,rfl,λz=>⟨_,_,rfl,rfl,(by show (0:Int)<2;decide),rfl,fin _⟩⟩
   .refine⟨_,rfl,_,rfl,_,_,rfl,rfl,_,_,rfl,rfl,(by show (0:Int)<2;decide),rfl,_,rfl,?_⟩;refine ite2 (λ_=>fin _) (λ_=>?_);refine⟨_,rfl,p,n,6,rfl,hp,by decide,za2 (by decide) (by decide),λr H1 _ _ b1 p1=>⟨rfl,k _ _ b1 p1⟩⟩
noncomputable def Bef(cs:List Cell)(x y:Int):Prop:=∀c∈cs,c.2<y∨(c.2=y/\c.1<x)
theorem InOrd.snoc{cs:List Cell}{x y:Int}(h:InOrd cs)(b:Bef cs x y):InOrd (cs++[(x,y)]):=λi c e h1 h2=>by
 have hi:i+1<(cs++[(x,y)]).length:=(Ad.mp h2).1;rw[Ap,CB]at hi;rw[Ao (by lia)]at h1;rcases AC (i+1) cs.length with hl |hl
 .rw[Ao hl]at h2;exact h i c e h1 h2
 .rw[AB hl,show i+1-cs.length=0 by lia]at h2
  cases h2
  have hb:=b c (Ah h1);rw[HT.lexLt_cons];rcases hb with z |⟨z1,z2⟩
  .rw[if_neg (by lia)];exact decide_eq_true z
  .rw[if_pos z1,HT.lexLt_cons,if_neg (by lia)];exact decide_eq_true z2
noncomputable def CellB(c:Cell):Prop:=(-(2 ^ 105)<c.1/\c.1<2 ^ 105)/\-(2 ^ 105)<c.2/\c.2<2 ^ 105
noncomputable def zgK(K:W.Frag):Sp:=λvs H Q _=>∃(p:Addr) (n m:Nat),vs=[.ref p,.int m]/\HasB H p (n+(20+m))/\1<=m/\m<=200 /\
 ∀(a:Addr) (cs:List Cell) (H':Hp),H a=none->But H H' p->HasB H' p n->(∃vs,H' a=some (.lst vs)/\VR vs cs cR H')->InOrd cs->Boxed m cs->cs.length<=m->(∀c∈cs,CellB c)->Q (.ref a) H'
theorem ze3 (T:Txt P w K mg) (g__law_take:Tk P w K mg base) (g__law_far:Fn P w K mg base 2 "_law_far" ["_law_pen"] spFar)
    (g__law_is_there:Fn P w K mg base 2 "_law_is_there" ["_law_pen","_law_way","_law_x","_law_y","_law_wide","_law_high"] zjQ) (d:Df K mg "_law_picture" zb5 ["_law_pen","_law_most"]) :
    FnOk P w K mg base CX0 3 d.f d.fd ["_law_pen","_law_most"] (zgK K):=by
  refine d.F.ok zat (λvs H Q E h=>?_) (λcdv A outer s H vs Q E hr h=>?_)
  . obtain⟨p,n,m,rfl,_⟩:=h;rfl
  . obtain⟨p,n,m,rfl,hp,hm1,hm,k⟩:=h
    refine⟨_,(zac (sE 2 zat.nd (pe_op zaQ zae (pC g__law_take hr (pa_N (pv 0) (zah (zcq (zar op_gt (pv 1) zae (zan _)) (pe_ix zaD (zbu (pa_C zae (pa_N (pv 1) zab))) (zds zhj (by rfl) T.nint (by rfl) (zah (zaK op_eq (pC g__law_take hr (pa_N (pv 0) (pa_C zae zab))) zae (zan _)) zab)) (λ_ _=>rfl)) (pv 1)) zab)))))
      (zac (sE 3 zat.nd (pe_op zaQ zae (pC g__law_take hr (pa_N (pv 0) (pa_B (pe_op zd9 (pv 1) (pv 2)) zab)))))
      (zac (sE 4 zat.nd (pC g__law_take hr (pa_N (pv 0) (pa_C zae zab))))
      (zac (sE 5 zat.nd (pC g__law_far hr (pa_N (pv 0) zab)))
      (zac (sE 6 zat.nd (pC g__law_far hr (pa_N (pv 0) zab)))
      (zac (sE 7 zat.nd (zbu zab))
      (zac (zbR A8 rfl (zbd (by rfl) T.nrange (pa_N (pv 3) zab)) (nG 8 zat.nd)
      (zaf (zbR A8 rfl (zbd (by rfl) T.nrange (pa_N (pv 2) zab)) (nG 9 zat.nd)
      (zaf (ps_if (zdR (pC g__law_is_there hr (pa_N (pv 0) (pa_N (pv 4) (pa_N (pv 9) (pa_N (pv 8) (pa_N (pv 2) (pa_N (pv 3) zab))))))))
      (zaf (zcp (pe_bm A6 Bx By zbD (pv 7) (pa_T (zax (pa_B (pe_op zaQ (pv 9) (pv 5)) (pa_B (pe_op zaQ (pv 8) (pv 6)) zab))) zab))))
      zau)))))
      (zaf (zai (pv 7)))))))))),?_⟩
    refine zlp (D:=λr H1=>0<=r/\r<m/\But H H1 p/\HasB H1 p (n+(18+m))) ?C (λshare=>?g) ?h
    case g =>
      refine⟨_,rfl,_,rfl,_,_,rfl,rfl,_,rfl,?_⟩;refine ite2 (λhy=>?_) (λhn=>?_)
      . have h12:(12:Int)<m:=of_decide_eq_true hy;refine⟨_,rfl,two,λl hl=>?_⟩;refine⟨_,rfl,p,n+(19+m),4,rfl,(hp.same (Same.up hl)).le (by lia),by decide,za2 (by decide) (by decide),λr H1 _ _ b1 p1=>?_⟩;refine⟨rfl,.inr ⟨_,rfl,?_⟩⟩;obtain⟨c0,t0,e0,_⟩:=hp;have hlp:l≠p:=λz=>by subst z;rw[e0]at hl;cases hl
        have l1:H1 l=some (.lst [.int 12,.int m]):=b1 _ _ hlp zaa
        obtain⟨v,hv,bb,rfl,hb0,hb1⟩:∃v,atI [V.int 12,V.int (m:Int)] (if decide (V.int r=V.int 0)=true then 1 else 0)=some v/\∃bb:Int,v=.int bb/\0<bb/\bb<=m:=by
          by_cases hz:decide (V.int r=V.int 0)=true
          . rw[if_pos hz];exact⟨_,rfl,m,rfl,by lia,by lia⟩
          . rw[if_neg hz];exact⟨_,rfl,12,rfl,by decide,by lia⟩
        refine⟨l,_,_,_,rfl,rfl,SqL.of l1,hv,p,n+(18+m),bb,rfl,p1.le (by lia),hb0,za2 hb0 (by lia),λr2 H2 h0 h2 b2 p2=>?_⟩;exact share r2 H2 ⟨h0,by lia,((But.of (Same.up hl)).trans b1).trans b2,p2⟩
      . refine⟨_,rfl,p,n+(18+m),m,rfl,hp.le (by lia),by lia,za2 (by lia) (by lia),λr2 H2 h0 h2 b2 p2=>?_⟩;exact share r2 H2 ⟨h0,h2,b2,p2⟩
    case h =>
      rintro r H1 ⟨h0,hrm,b1,p1⟩;refine⟨_,_,rfl,rfl,?_⟩;have hwd:0<1+r:=by lia
      obtain⟨W,hW⟩:∃W:Nat,(1+r:Int)=W:=⟨(1+r).toNat,by lia⟩;have hq1:1<=(m:Int) / (1+r):=Int.le_ediv_of_mul_le hwd (by lia);have hq2:(m:Int) / (1+r)<=m:=Int.ediv_le_self _ (by lia);have hq3:(1+r)*((m:Int) / (1+r))<=m:=Int.mul_ediv_self_le (by lia);refine⟨_,rfl,_,rfl,_,rfl,_,_,rfl,rfl,⟨hwd,za2 hwd (by lia)⟩,p,n+(17+m),_,rfl,p1.le (by lia),by lia,za2 (by lia) (by lia),λr2 H2 h20 h2 b2 p2=>⟨_,_,rfl,rfl,?_⟩⟩;obtain⟨G,hG⟩:∃G:Nat,(1+r2:Int)=G:=⟨(1+r2).toNat,by lia⟩
      have hWG:W*G<=m:=by
        have h1:(1+r)*(1+r2)<=(1+r)*((m:Int) / (1+r)):=Int.mul_le_mul_of_nonneg_left (by lia) (by lia);rw[hW,hG]at h1;rw[hW]at hq3
        have h2:((W*G:Nat):Int)<=m:=by rw[Int.natCast_mul];lia
        lia
      refine⟨_,rfl,p,n+(16+m),6,rfl,p2.le (by lia),by decide,za2 (by decide) (by decide),λr3 H3 h30 _ b3 p3=>?_⟩;refine⟨_,rfl,p,n+(13+m),rfl,p3.le (by lia),λdx H4 fx b4 p4=>?_⟩;refine⟨_,rfl,p,n+(10+m),rfl,p4.le (by lia),λdy H5 fy b5 p5=>?_⟩;refine⟨(by show 0<=sizeLine;decide),λq hq=>?_⟩;have b05:But H H5 p:=b1.trans (b2.trans (b3.trans (b4.trans b5)));have hq0:H q=none:=b05.free hp hq (p5.le (by lia))
      have hqp:q≠p:=λz=>by obtain⟨c0,t0,e0,_⟩:=hp;subst z;rw[e0]at hq0;cases hq0
      refine⟨_,rfl,1+r2,rfl,by lia,by lia,?_⟩;have hGn:(1+r2:Int).toNat=G:=by lia
      have hWn:(1+r:Int).toNat=W:=by lia
      rw[hGn]
      refine zaS (lo := 0) (n := G) (λi σ H6 => ∃o8 o9 cs vs, σ = [some (.ref p), some (.int m), some (.int (1 + r)), some (.int (1 + r2)), some (.int r3), some (.int dx), some (.int dy), some (.ref q), o8, o9] /\ But H H6 p /\ HasB H6 p (n + (m-W * i)) /\
          H6 q=some (.lst vs)/\VR vs cs cR H6/\InOrd cs/\(cs.length<=W*i/\(∀c∈cs,dx<=c.1/\c.1<dx+W/\dy<=c.2))/\Bef cs dx (dy+i))
        ⟨_,_,[],[],rfl,b05.trans (But.of (Same.up hq)),(p5.same (Same.up hq)).le (by lia),zaa,VR.nil,(λi c e h=>by simp at h),⟨Bj _,λc hc=>by cases hc⟩,(λc hc=>by cases hc)⟩ ?_ ?_
      . rintro i σ H6 hi ⟨o8,o9,cs,vs,rfl,b6,p6,q6,hv,ho,hl,hbf⟩;have hWi:W*i+W<=W*G:=by rw[<- Nat.mul_succ];exact Nat.mul_le_mul_left _ hi
        refine⟨_,rfl,1+r,rfl,by lia,by lia,?_⟩;rw[hWn]
        refine zaS (lo := 0) (n := W) (λj σ H7 => ∃o9 cs vs, σ = [some (.ref p), some (.int m), some (.int (1 + r)), some (.int (1 + r2)), some (.int r3), some (.int dx), some (.int dy), some (.ref q), some (.int (0 + (i:Int))), o9] /\ But H H7 p /\ HasB H7 p (n + (m-(W * i + j))) /\
            H7 q=some (.lst vs)/\VR vs cs cR H7/\InOrd cs/\(cs.length<=W*i+j/\(∀c∈cs,dx<=c.1/\c.1<dx+W/\dy<=c.2))/\Bef cs (dx+j) (dy+i))
          ⟨_,cs,vs,rfl,b6,p6,q6,hv,ho,hl,by simpa using hbf⟩ ?_ ?_
        . rintro j σ H7 hj ⟨o9,cs,vs,rfl,b7,p7,q7,hv,ho,⟨hl,hbox⟩,hbf⟩;refine⟨_,rfl,_,rfl,_,rfl,_,rfl,_,rfl,_,rfl,p,n+(m-(W*i+j+1)),_,_,_,_,_,rfl,h30,p7.le (by lia),λb H8 b8 p8=>⟨_,rfl,?_⟩⟩;have q8:=b8 _ _ hqp q7;have kt8:=b8.kt p7;refine ite2 (λ_=>?_) (λ_=>?_)
          . have hvl:vs.length<=1000:=by rw[hv.1];lia
            refine⟨_,rfl,.inl ⟨rfl,_,SqL.of q8⟩,_,rfl,_,rfl,_,_,rfl,rfl,_,rfl,_,rfl,_,_,rfl,rfl,two,λa ha=>?_⟩;have haq:q≠a:=zaq q8 ha;refine⟨q,vs,_,rfl,rfl,(by rw[zam haq];exact q8),zaj hvl,?_⟩
            have hap:a≠p:=λz=>by obtain⟨c0,t0,e0,_⟩:=p8;subst z;rw[e0]at ha;cases ha
            obtain⟨nc,hnc⟩:∃nc:Cell,nc=(dx+(j:Int),dy+(i:Int)):=⟨_,rfl⟩
            have hcell:[V.int (0+(j:Int)+dx),V.int (0+(i:Int)+dy)]=cellT nc:=by rw[hnc];unfold cellT;rw[show 0+(j:Int)+dx=dx+j by lia,show 0+(i:Int)+dy=dy+i by lia]
            rw[hcell];have k2:KT (upd H8 a (.tup (cellT nc))) (upd (upd H8 a (.tup (cellT nc))) q (.lst (vs++[.ref a]))):=KT.lst (xs:=vs) (by rw[zam haq];exact q8);refine⟨_,cs++[nc],vs++[.ref a],rfl,(λz o hz h=>?_),?_,zaa,?_,?_,?_,?_⟩
            . rw[zam (zaq h hq0)];exact Same.up ha _ _ (b8 _ _ hz (b7 _ _ hz h))
            . obtain⟨c0,t0,e0,h1,h2⟩:=p8;refine⟨c0,t0,?_,h1,by lia⟩;rw[zam (BP hqp),zam (BP hap)];exact e0
            . exact hv.snoc (λx v hx=>hx.kt (kt8.trans ((KT.up ha).trans k2))) ⟨a,rfl,k2 _ _ zaa⟩
            . rw[hnc];exact ho.snoc hbf
            . refine⟨by rw[Ap,CB];lia,λc hc=>?_⟩;rcases Bf.mp hc with z |z
              . exact hbox c z
              . rw[AA.mp z,hnc];exact⟨by show dx<=dx+(j:Int);lia,by show dx+(j:Int)<dx+(W:Int);lia,by show dy<=dy+(i:Int);lia⟩
            . intro c hc;rcases Bf.mp hc with z |z
              . rcases hbf c z with y |⟨y1,y2⟩
                . exact .inl y
                . exact .inr ⟨y1,by lia⟩
              . rw[AA.mp z,hnc];exact .inr ⟨rfl,by show dx+(j:Int)<dx+((j+1:Nat):Int);lia⟩
          . refine⟨_,cs,vs,rfl,b7.trans b8,p8.le (by lia),q8,hv.mono λx v hx=>hx.kt kt8,ho,⟨by lia,hbox⟩,λc hc=>?_⟩;rcases hbf c hc with y |⟨y1,y2⟩
            . exact .inl y
            . exact .inr ⟨y1,by lia⟩
        . rintro σ H7 ⟨o9,cs,vs,rfl,b7,p7,q7,hv,ho,⟨hl,hbox⟩,hbf⟩;refine⟨_,_,cs,vs,rfl,b7,?_,q7,hv,ho,⟨by rw[Nat.mul_succ];exact hl,hbox⟩,λc hc=>?_⟩
          . rw[Nat.mul_succ];exact p7
          . rcases hbf c hc with y |⟨y1,y2⟩
            . exact .inl (by lia)
            . exact .inl (by lia)
      . rintro σ H6 ⟨o8,o9,cs,vs,rfl,b6,p6,q6,hv,ho,⟨hl,hbox⟩,hbf⟩
        have hcell:∀c∈cs,dx<=c.1/\c.1<dx+W/\dy<=c.2/\c.2<dy+G:=λc hc=>by
          obtain⟨x1,x2,x3⟩:=hbox c hc;refine⟨x1,x2,x3,?_⟩;rcases hbf c hc with y |⟨y1,y2⟩
          . exact y
          . lia
        refine⟨_,rfl,k q cs H6 hq0 b6 (p6.le (by lia)) ⟨_,q6,hv⟩ ho ⟨dx,dy,W,G,hWG,hcell⟩ (by lia) λc hc=>?_⟩;obtain⟨x1,x2,x3,x4⟩:=hcell c hc;have hW2:W<=200:=by lia
        have hG2:G<=200:=by lia
        unfold CellB;lia
theorem zlX{W:Wk}{s:Str}(h:∃e∈W.map (·.1),e.w=kOf s):∃e,zb9 W s e:=by
 have aux:∀l:List Edge,(∃e∈l,e.w=kOf s)->∃e∈l,e.w=kOf s/\∀f∈l,f.w=kOf s->HT.lexLt [f.c.2,f.c.1] [e.c.2,e.c.1]=false:=by
  intro l
  induction l with
  |nil=>rintro⟨e,he,_⟩;cases he
  |cons a l ih =>
   intro hx
   by_cases hl:∃e∈l,e.w=kOf s
   .obtain⟨e,he,hw,hm⟩:=ih hl
    by_cases ha:a.w=kOf s/\HT.lexLt [a.c.2,a.c.1] [e.c.2,e.c.1]=true
    .refine⟨a,AE,ha.1,λf hf hfw=>?_⟩;rcases At.mp hf with rfl |hf
     .exact HT.lexLt_irrefl _
     .cases z:HT.lexLt [f.c.2,f.c.1] [a.c.2,a.c.1] with
      |false=>rfl
      |true=>have:=HT.lexLt_trans z ha.2;rw[hm f hf hfw]at this;cases this
    .refine⟨e,Au _ he,hw,λf hf hfw=>?_⟩;rcases At.mp hf with rfl |hf
     .cases z:HT.lexLt [f.c.2,f.c.1] [e.c.2,e.c.1] with
      |false=>rfl
      |true=>exact absurd ⟨hfw,z⟩ ha
     .exact hm f hf hfw
   .obtain⟨e,he,hw⟩:=hx;rcases At.mp he with rfl |he
    .refine⟨e,AE,hw,λf hf hfw=>?_⟩;rcases At.mp hf with rfl |hf
     .exact HT.lexLt_irrefl _
     .exact absurd ⟨f,hf,hfw⟩ hl
    .exact absurd ⟨e,he,hw⟩ hl
 obtain⟨e,h1,h2,h3⟩:=aux _ h;exact⟨e,h1,h2,h3⟩
theorem znR(s:Str):kOf s=0∨kOf s=2:=by unfold kOf;split <;> simp
theorem znv{C:Cell->Bool}{b:Edge}{es:List Edge}(h:Closed C b es):∃r,IsRnd (wk C es) r:=by obtain⟨x,h1,h2⟩:=h.has (znR (sortS (wk C es)));obtain⟨e,he⟩:=zlX (W:=wk C es) (s:=sortS (wk C es)) ⟨x,by rw[zbJ];exact h1,h2⟩;obtain⟨j,hj,ej⟩:=AQ he.1;exact⟨⟨_,_,_,_⟩,rfl,j,e,by rw[Aa hj,ej],he,rfl,rfl,rfl⟩
theorem zgl{C:Cell->Bool}:∀{l:List Edge}{b:Edge},Lk C b l->l=(wby b (l.map (stepB C))).map (·.1)
 |[],_,_=>rfl
 |f::l,b,⟨e,h⟩=>by
  subst e;have ih:=zgl h;show f::l=f::(wby (edgeB f (stepB C f)) (l.map (stepB C))).map (·.1);exact congrArg (f::·) ih
theorem zjF(d:Cell):∀(l:List (Option Nat)) (e:Edge),(wby (mvE d e) l).map (·.1)=((wby e l).map (·.1)).map (mvE d)
 |[],_=>rfl
 |o::l,e=>by
  show mvE d e::(wby (edgeB (mvE d e) o) l).map (·.1)=mvE d e::_;rw[ziY,zjF d l]
theorem Closed.lk{C:Cell->Bool}{b:Edge}{es:List Edge}(h:Closed C b es):Lk C b es:=lk_of (λe he=>by have:=h.1.1;rw[he]at this;exact AI this) h.1.2.1
theorem zef{C D:Cell->Bool}{b f:Edge}{es fs:List Edge}(h:Closed C b es)(k:Closed D f fs)(hw:b.w=f.w)(hr:stps C es=stps D fs):∃d,fs=es.map (mvE d):=by
 refine⟨(f.c.1-b.c.1,f.c.2-b.c.2),?_⟩
 have e1:f=mvE (f.c.1-b.c.1,f.c.2-b.c.2) b:=by obtain⟨⟨x,y⟩,w⟩:=f;obtain⟨⟨x',y'⟩,w'⟩:=b;simp only at hw;subst hw;unfold mvE mvC;simp only[Edge.mk.injEq,Prod.mk.injEq,and_true];lia
 have d1:=h.deeds;have d2:=k.deeds;unfold stps at hr;rw[<- hr,<- hw,<- d1]at d2;have w1:=zgl (Closed.lk h);have w2:=zgl (Closed.lk k);rw[d2]at w2;rw[w2];generalize (f.c.1-b.c.1,f.c.2-b.c.2)=d at e1;rw[e1,zjF,<- w1]
theorem zdB{C:Cell->Bool}:∀{l:List Edge}{X Y:List Nat},X≠[]->stps C l=X++Y->∃l1 e l2 s,l=(l1++[e])++l2/\stps C (l1++[e])=X/\stps C l2=Y/\stepB C e=some s/\X.getLast?=some s
 |[],X,Y,hX,h=>by
  have:X++Y=[]:=h.symm;exact absurd (DO.mp this).1 hX
 |f::l,X,Y,hX,h=>by
  cases hs:stepB C f with
  |none =>
   have e1:∀m,stps C (f::m)=stps C m:=λm=>by unfold stps;rw[AL,hs];rfl
   rw[e1]at h;obtain⟨l1,e,l2,s,q1,q2,q3,q4,q5⟩:=zdB hX h;exact⟨f::l1,e,l2,s,by rw[q1];rfl,by rw[CV,e1];exact q2,q3,q4,q5⟩
  |some t =>
   have e1:∀m,stps C (f::m)=t::stps C m:=λm=>by unfold stps;rw[AL,hs];rfl
   rw[e1]at h
   cases X with
   |nil=>exact absurd rfl hX
   |cons x X =>
    rw[CV]at h;injection h with h1 h2;subst h1
    by_cases hX2:X=[]
    .subst hX2;exact⟨[],f,l,t,rfl,by rw[List.nil_append,e1];rfl,h2,hs,rfl⟩
    .obtain⟨l1,e,l2,s,q1,q2,q3,q4,q5⟩:=zdB hX2 h2;refine⟨f::l1,e,l2,s,by rw[q1];rfl,by rw[CV,e1,q2],q3,q4,?_⟩;rw[List.getLast?_cons,q5];rfl
theorem zlr(C:Cell->Bool)(a b:List Edge):stps C (a++b)=stps C a++stps C b:=by unfold stps;rw[Ax,Dg]
theorem zf5{C:Cell->Bool}{b:Edge}{es:List Edge}(h:Closed C b es){X Y:List Nat}(hX:X≠[])(hs:stps C es=X++Y):∃e0 es' s,Closed C e0 es'/\stps C es'=Y++X/\es'.Perm es/\X.getLast?=some s/\e0.w=wayB s/\∃l e,es'=l++[e]/\stepB C e=some s:=by
 obtain⟨l1,e,l2,s,rfl,q2,q3,q4,q5⟩:=zdB hX hs
 have fin:∀{e0:Edge},Closed C e0 (l2++(l1++[e]))->e0.w=wayB s:=λ{e0} hc=>by
  obtain⟨x,hx,hb⟩:=hc.2;have e2:(l2++(l1++[e]))[(l2++(l1++[e])).length-1]?=some e:=by rw[<- CK];simp
  rw[e2]at hx
  cases hx
  have:=zd5 (hc.1.2.2.1 e (by simp)) q4;rw[<- hb];exact this.2.1.symm
 have hp:(l2++(l1++[e])).Perm ((l1++[e])++l2):=List.perm_append_comm;have hst:stps C (l2++(l1++[e]))=Y++X:=by rw[zlr,q2,q3]
 cases l2 with
 |nil =>
  rw[A3]at h;exact⟨b,[]++(l1++[e]),s,h,hst,hp,q5,fin h,l1,e,rfl,q4⟩
 |cons f l2 =>
  have h1:=h.rot (l1++[e]).length (e:=f) (by rw[AB (Ai _),Nat.sub_self];rfl);rw[List.drop_left,List.take_left]at h1;exact⟨f,_,s,h1,hst,hp,q5,fin h1,(f::l2)++l1,e,by simp,q4⟩
noncomputable def RotN(a b:List Nat):Prop:=∃X Y,a=X++Y/\b=Y++X
theorem RotN.symm{a b:List Nat}(h:RotN a b):RotN b a:=let ⟨X,Y,h1,h2⟩:=h;⟨Y,X,h2,h1⟩
theorem RotN.trans{a b c:List Nat}(h:RotN a b)(k:RotN b c):RotN a c:=by
 obtain⟨X,Y,rfl,rfl⟩:=h;obtain⟨X2,Y2,e,rfl⟩:=k;rcases List.append_eq_append_iff.mp e with⟨Z,rfl,rfl⟩ |⟨Z,rfl,rfl⟩
 .exact⟨Z,Y2++Y,by simp,by simp⟩
 .exact⟨X++X2,Z,by simp,by simp⟩
theorem ziQ{C D:Cell->Bool}{es fs:List Edge}{r t:Rnd}{d:Cell}(h:One C es r)(k:One D fs t)(p:∀e,e∈fs ↔ e∈es.map (mvE d)):D=mvP d C:=by
 have hm:=h.mv d;refine zdp (λe=>(k.all e).symm.trans ((p e).trans (hm.all e))) (c:=(begE t).c) ?_
 have h1:=(hm.all (begE t)).mp ((p _).mp (Ah k.can.cl.1.1));rw[k.at,h1.2.1]
theorem zkH{C D:Cell->Bool}{es fs:List Edge}{r t:Rnd}(h:One C es r)(k:One D fs t)(hso:r.so=t.so)(hr:RotN r.row t.row):∃d,D=mvP d C:=by
 have r1:stps C es=r.row:=h.can.row.symm;have r2:stps D fs=t.row:=k.can.row.symm
 by_cases hn:r.row=[]
 .have hn2:t.row = [] := by obtain⟨X,Y,e1,e2⟩:=hr;rw[hn]at e1;have:=DO.mp e1.symm;rw[e2,this.1,this.2];rfl
  obtain⟨d,hd⟩:=zef h.can.cl k.can.cl (by show kOf r.so=kOf t.so;rw[hso]) (by rw[r1,r2,hn,hn2]);exact⟨d,ziQ h k λe=>by rw[hd]⟩
 .obtain⟨X, Y, hX, e1, e2⟩ : ∃X Y, X ≠ [] /\ r.row=X ++ Y /\ t.row=Y ++ X := by
   obtain⟨X,Y,e1,e2⟩:=hr
   by_cases hX:X=[]
   .subst hX;refine⟨Y,[],λz=>hn (by rw[e1,z];rfl),by rw[e1];simp,by rw[e2];simp⟩
   .exact⟨X,Y,hX,e1,e2⟩
  obtain⟨a,as,s,c1,s1,p1,g1,w1,_⟩:=zf5 h.can.cl hX (r1.trans e1);have hYX:Y++X≠[]:=λz=>hX (DO.mp z).2
  obtain⟨f,gs,s',c2,s2,p2,g2,w2,_⟩:=zf5 k.can.cl hYX (Y:=[]) (by rw[r2,e2,A3])
  have hss:s=s':=by rw[List.getLast?_append,g1]at g2;exact AI g2
  obtain⟨d,hd⟩:=zef c1 c2 (by rw[w1,w2,hss]) (by rw[s1,s2,List.nil_append]);refine⟨d,ziQ h k λe=>?_⟩;rw[<- p2.mem_iff,hd,List.mem_map,List.mem_map];exact⟨λ⟨x,hx,e⟩=>⟨x,p1.mem_iff.mp hx,e⟩,λ⟨x,hx,e⟩=>⟨x,p1.mem_iff.mpr hx,e⟩⟩
theorem zlJ{C D:Cell -> Bool}{es fs:List Edge}{r t:Rnd}(h:One C es r)(k:One D fs t) :
  (∃q,q<4/\∃d,D=mvP d (rCn q C)) ↔ r.so=t.so/\∃q,q<4/\RotN (r.row.map (sh q)) t.row:=by
 have trn:∀q,∃u gs,One (rCn q C) gs u/\u.so=r.so/\RotN (r.row.map (sh q)) u.row:=λq=>by obtain⟨u,hu⟩:=znv (zcP h.can.cl q);obtain⟨gs,hg,_⟩:=h.turned q hu;obtain⟨h1,X,Y,h2,h3⟩:=h.can.turned hu;exact⟨u,gs,hg,h1,Y,X,h3,h2⟩
 constructor
 .rintro⟨q,hq,d,rfl⟩;obtain⟨u,gs,hg,h1,h2⟩:=trn q;have e:=k.det (hg.mv d);subst e;exact⟨h1.symm,q,hq,h2⟩
 .rintro⟨hso,q,hq,hr⟩;obtain⟨u,gs,hg,h1,h2⟩:=trn q;exact⟨q,hq,zkH hg k (h1.trans hso) (h2.symm.trans hr)⟩
theorem Can.turn8{C:Cell->Bool}{es:List Edge}{r:Rnd}(h:Can C es r)(hn:r.row≠[]):(cyT (rowI r.row)).sum=8∨(cyT (rowI r.row)).sum=-8:=by obtain⟨a,as,s,c1,s1,p1,g1,w1,l,e,rfl,he⟩:=zf5 h.cl hn (Y:=[]) (by rw[A3];exact h.row.symm);have h8:=c1.turn8 he;rw[s1,List.nil_append]at h8;have key:trs s r.row=(cyT (rowI r.row)).sum:=zmw g1;rw[<- key];exact h8
theorem zaL{K:W.Frag}{H:Hp}:∀ns:List Int,RDs K H (ns.map V.int) (ns.map C5)
 |[]=>.nil
 |n::ns=>.cons (.int n) (zaL ns)
noncomputable def zjS(K:W.Frag):Sp:=λvs H Q _=>∃(a b:Addr) (ns ms:List Int),vs=[.ref a,.ref b]/\((H a=some (.tup (ns.map V.int))/\H b=some (.tup (ms.map V.int)))∨(H a=some (.lst (ns.map V.int))/\H b=some (.lst (ms.map V.int))))/\ns.length<=500/\ms.length<=500 /\
 ∀bb H',Same H H'->(bb=true ↔ SameL ns ms)->Q (.bl bb) H'
theorem zld{ns ms:List Int}(h:ns.length=ms.length)(hne:ns≠ms):((AJ ns.length).map λi=>decide (rot ns i=ms)).any id=true ↔ SameL ns ms:=by
 rw[List.any_map,List.any_eq_true];constructor
 .rintro⟨i,hi,e⟩;exact⟨h,.inr ⟨i,Bq.mp hi,of_decide_eq_true e⟩⟩
 .rintro⟨_,e |⟨i,hi,e⟩⟩
  .exact absurd e hne
  .exact⟨i,Bq.mpr hi,decide_eq_true e⟩
theorem zhY (T:Txt P w K mg) (d:Df K mg "_law_same" zbP ["_law_one","_law_other"]):FnOk P w K mg base CX0 1 d.f d.fd ["_law_one","_law_other"] (zjS K):=by
 refine d.F.ok zgT (λvs H Q E h=>?_) (λcdv A outer s H vs Q E hr h=>?_)
 .obtain⟨a,b,ns,ms,rfl,_⟩:=h;rfl
 .obtain⟨a,b,ns,ms,rfl,hh,hn,hm,k⟩:=h;have hu1:=hu_of hr;have hu64:=hr.units;have nb0:(["_law_at","_law_other","_law_one"]:List Str).Nodup:=by decide +kernel
  have e1:(ns.map V.int).length=ns.length:=Af _;have e2:(ms.map V.int).length=ms.length:=Af _;rcases hh with⟨ha,hb⟩ |⟨ha,hb⟩
  .refine⟨_,(zac (ps_if (zar op_ne (zap zak (by rfl) T.nlen (by rfl) (pa_N (pv 0) zab)) (zap zak (by rfl) T.nlen (by rfl) (pa_N (pv 1) zab)) (zan _))
   (zaf (zai pe_bl))
   zau)
   (zaf (zai (pe_or (zaK (zfy hu64) (pv 0) (pv 1) (zan _)) (zeB (zap (zhk rfl) (by rfl) T.nany (by rfl) (zah (zaM (osc:=zad zbP) (N:=zde) (N':=["_law_at","_law_other","_law_one"]) (sel:=[none,some 1,some 0]) bO (zbd (by rfl) T.nrange (zah (zap zak (by rfl) T.nlen (by rfl) (pa_N (pv 0) zab)) zab)) (λ_ _ _ _ _=>(nG 0 nb0)) (λ_ _ _ _ _=>za8) (λ_ _ _ _ _=>(zaK (zhT (K:=K) hu64) (pe_op (ziI (K:=K)) (zaI (zd6 (K:=K)) (pv 2) (za3 (pv 0)) za4) (zaI (zd6 (K:=K)) (pv 2) za4 (za3 (pv 0)))) (pv 1) (zan _)))) zab))))))),?_⟩
   refine⟨_,rfl,a,_,rfl,.inr (SqT.of ha),_,rfl,b,_,rfl,.inr (SqT.of hb),rfl,_,rfl,?_⟩;rw[e1,e2]
   by_cases hl:ns.length=ms.length
   rotate_left
   .refine iteY (by simp;exact λz=>hl (by lia)) ?_
    exact k false H (Same.refl _) ⟨λz=>(nomatch z),λz=>absurd z.1 hl⟩
   refine iteN (by simp[hl]) ?_
   refine⟨_,rfl,_,rfl,tI ns,tI ms,.tup (SqT.of ha) (zaL ns),.tup (SqT.of hb) (zaL ms),zav _,zav _,_,rfl,?_⟩;rw[zcv]
   by_cases hne:ns=ms
   .refine iteY (decide_eq_true hne) ?_
    exact k true H (Same.refl _) ⟨λ_=>⟨hl,.inl hne⟩,λ_=>rfl⟩
   refine iteN (decide_eq_false hne) ?_
   refine⟨_,rfl,a,_,rfl,.inr (SqT.of ha),_,rfl,by lia,by rw[e1];lia,λq hq=>?_⟩;rw[e1];refine zaS (lo:=0) (n:=(ns.length:Int).toNat) (λi σ H2=>∃o,σ=[o,some (.ref b),some (.ref a)]/\Same H H2/\H2 q=some (.lst (((AJ i).map λi=>decide (rot ns i=ms)).map V.bl))) ⟨_,rfl,Same.up hq,zaa⟩ ?_ ?_
   .rintro i σ H2 hi ⟨o,rfl,s2,f2⟩;have hi':i<ns.length:=by lia
    refine gN ?_
    refine ziy (m:=2) (j:=0) (i:=i) rfl (by rw[C6];rfl) (SqT.of (s2 _ _ ha)) hi' hn λc H3 s3 hc=>?_
    refine⟨_,rfl,tI (rot ns i),tI ms,.tup hc (zaL _),.tup (SqT.of ((s2.trans s3) _ _ hb)) (zaL ms),zav _,zav _,?_⟩;rw[zcv];refine⟨_,s3 _ _ f2,zaj (by simp;lia),_,rfl,zao hq (s2.trans s3),?_⟩;rw[zaa,Dd,Ax,Ax];rfl
   .rintro σ H2 ⟨o,rfl,s2,f2⟩;rw[show (ns.length:Int).toNat=ns.length by lia]at f2;exact⟨q,_,rfl,SqL.of f2,k _ H2 s2 (zld hl hne)⟩
  .refine⟨_,(zac (ps_if (zar op_ne (zap zak (by rfl) T.nlen (by rfl) (pa_N (pv 0) zab)) (zap zak (by rfl) T.nlen (by rfl) (pa_N (pv 1) zab)) (zan _))
   (zaf (zai pe_bl))
   zau)
   (zaf (zai (pe_or (zaK (zfy hu64) (pv 0) (pv 1) (zan _)) (zeB (zap (zhk rfl) (by rfl) T.nany (by rfl) (zah (zaM (osc:=zad zbP) (N:=zde) (N':=["_law_at","_law_other","_law_one"]) (sel:=[none,some 1,some 0]) bO (zbd (by rfl) T.nrange (zah (zap zak (by rfl) T.nlen (by rfl) (pa_N (pv 0) zab)) zab)) (λ_ _ _ _ _=>(nG 0 nb0)) (λ_ _ _ _ _=>za8) (λ_ _ _ _ _=>(zaK (zhT (K:=K) hu64) (pe_op ziJ (zaI (ziw (K:=K)) (pv 2) (za3 (pv 0)) za4) (zaI (ziw (K:=K)) (pv 2) za4 (za3 (pv 0)))) (pv 1) (zan _)))) zab))))))),?_⟩
   refine⟨_,rfl,a,_,rfl,.inl (SqL.of ha),_,rfl,b,_,rfl,.inl (SqL.of hb),rfl,_,rfl,?_⟩;rw[e1,e2]
   by_cases hl:ns.length=ms.length
   rotate_left
   .refine iteY (by simp;exact λz=>hl (by lia)) ?_
    exact k false H (Same.refl _) ⟨λz=>(nomatch z),λz=>absurd z.1 hl⟩
   refine iteN (by simp[hl]) ?_
   refine⟨_,rfl,_,rfl,.list (ns.map .int),.list (ms.map .int),.lst (SqL.of ha) (zaL ns),.lst (SqL.of hb) (zaL ms),zba _,zba _,_,rfl,?_⟩;rw[zhe]
   by_cases hne:ns=ms
   .refine iteY (decide_eq_true hne) ?_
    exact k true H (Same.refl _) ⟨λ_=>⟨hl,.inl hne⟩,λ_=>rfl⟩
   refine iteN (decide_eq_false hne) ?_
   refine⟨_,rfl,a,_,rfl,.inl (SqL.of ha),_,rfl,by lia,by rw[e1];lia,λq hq=>?_⟩;rw[e1];refine zaS (lo:=0) (n:=(ns.length:Int).toNat) (λi σ H2=>∃o,σ=[o,some (.ref b),some (.ref a)]/\Same H H2/\H2 q=some (.lst (((AJ i).map λi=>decide (rot ns i=ms)).map V.bl))) ⟨_,rfl,Same.up hq,zaa⟩ ?_ ?_
   .rintro i σ H2 hi ⟨o,rfl,s2,f2⟩;have hi':i<ns.length:=by lia
    refine gN ?_
    refine⟨_,rfl,_,rfl,_,rfl,a,_,rfl,SqL.of (s2 _ _ ha),λp1 hp1=>?_⟩;have c1:cutV (ns.map V.int) (some (0+(i:Int))) none=(ns.drop i).map V.int:=by rw[C6,zdx _ (by rw[e1];lia),CQ]
    have c2:cutV (ns.map V.int) none (some (0+(i:Int)))=(ns.take i).map V.int:=by rw[C6,zdw _ (by rw[e1];lia),B9]
    rw[c1];have s3:=Same.up (o:=.lst ((ns.drop i).map V.int)) hp1;have f3:upd H2 p1 (.lst ((ns.drop i).map V.int)) p1=some (.lst ((ns.drop i).map V.int)):=zaa;generalize upd H2 p1 (.lst ((ns.drop i).map V.int))=H3 at s3 f3 ⊢;refine⟨_,rfl,_,rfl,_,rfl,a,_,rfl,SqL.of ((s2.trans s3) _ _ ha),λp2 hp2=>?_⟩;rw[c2];have s4:=Same.up (o:=.lst ((ns.take i).map V.int)) hp2;have f4:upd H3 p2 (.lst ((ns.take i).map V.int)) p2=some (.lst ((ns.take i).map V.int)):=zaa;generalize upd H3 p2 (.lst ((ns.take i).map V.int))=H4 at s4 f4 ⊢;refine⟨p1,p2,_,_,rfl,rfl,s4 _ _ f3,f4,Bg (zaj (by simp;lia)),λp3 hp3=>?_⟩;have s5:=Same.up (o:=.lst ((ns.drop i).map V.int++(ns.take i).map V.int)) hp3;have f5:upd H4 p3 (.lst ((ns.drop i).map V.int++(ns.take i).map V.int)) p3=some (.lst ((rot ns i).map V.int)):=by rw[zaa];unfold rot;rw[Ax]
    generalize upd H4 p3 (.lst ((ns.drop i).map V.int++(ns.take i).map V.int))=H5 at s5 f5 ⊢;have s25:=s3.trans (s4.trans s5);refine⟨_,rfl,.list ((rot ns i).map .int),.list (ms.map .int),.lst (SqL.of f5) (zaL _),.lst (SqL.of ((s2.trans s25) _ _ hb)) (zaL ms),zba _,zba _,?_⟩;rw[zhe];refine⟨_,s25 _ _ f2,zaj (by simp;lia),_,rfl,zao hq (s2.trans s25),?_⟩;rw[zaa,Dd,Ax,Ax];rfl
   .rintro σ H2 ⟨o,rfl,s2,f2⟩;rw[show (ns.length:Int).toNat=ns.length by lia]at f2;exact⟨q,_,rfl,SqL.of f2,k _ H2 s2 (zld hl hne)⟩
noncomputable def spGr(K:W.Frag):Sp:=λvs H Q _=>∃(a:Addr) (ns:List Int),vs=[.ref a]/\H a=some (.tup (ns.map V.int))/\ns.length<=490/\∀(p:Addr) (H':Hp),Same H H'->H' p=some (.lst ((cyT ns).map V.int))->Q (.ref p) H'
theorem zmy(ns:List Int):trn (ns++ns.take 1)=cyT ns:=by
 unfold trn cyT tabl
 have hl:(ns++ns.take 1).length-1=ns.length:=by rw[Ap,Av];rcases Bu ns.length with z |z <;> lia
 rw[hl];refine BA λi hi=>?_
 have hi':=Bq.mp hi;unfold fT tnb tnz cyc;rw[CW hi']
 have e1:(ns++ns.take 1).getD i 0=ns.getD i 0:=by rw[Ar,Ao hi',<- Ar]
 have e2:(ns++ns.take 1).getD (i+1) 0=ns.getD ((i+1) % ns.length) 0:=by
  rcases AC (i+1) ns.length with q |q
  .rw[CW q,Ar,Ao q,<- Ar]
  .have:i+1=ns.length:=by lia
   rw[this,Nat.mod_self,Ar,AB (Ai _),Nat.sub_self,Cz,if_pos (by decide),<- Ar]
 rw[e1,e2]
theorem zdK (T:Txt P w K mg) (g_turns_of:Fn P w K mg base 2 "turns_of" ["row"] (zjP K)) (d:Df K mg "_law_gone_round" zbx ["_law_row"]):FnOk P w K mg base CX0 3 d.f d.fd ["_law_row"] (spGr K):=by
 refine d.F.ok zdo (λvs H Q E h=>?_) (λcdv A outer s H vs Q E hr h=>?_)
 .obtain⟨a,ns,rfl,_⟩:=h;rfl
 .obtain⟨a,ns,rfl,ha,hn,k⟩:=h;refine⟨_,(zaf (zai (pe_ix zaV (pC g_turns_of hr (pa_B (pe_op zmU (pv 0) (zaI zmC (pv 0) za4 (za3 zae))) zab)) zae (λ_ _=>rfl)))),?_⟩;have e1:(ns.map V.int).length=ns.length:=Af _;refine⟨_,rfl,_,rfl,_,rfl,a,_,rfl,ha,λp1 H1 s1 f1=>?_⟩
  have f1':H1 p1=some (.tup ((ns.take 1).map V.int)):=by
   rw[f1]
   congr 2
   rcases Bu ns.length with z |z
   .have:ns=[]:=CZ z;subst this;rfl
   .rw[show (1:Int)=((1:Nat):Int) from rfl,zdw _ (by rw[e1];lia),B9]
  refine⟨a,p1,_,_,rfl,rfl,s1 _ _ ha,f1',Bg (zaj (by simp;lia)),λp2 H2 s2 f2=>?_⟩;rw[<- Ax]at f2;refine⟨p2,ns++ns.take 1,rfl,SqT.of f2,by rw[Ap,Av];lia,λp3 L H3 s3 f3 f4=>?_⟩;rw[zmy]at f4;exact⟨p3,_,_,_,rfl,rfl,SqT.of f3,zal (j:=1) rfl,k L H3 (s1.trans (s2.trans s3)) f4⟩
noncomputable def spTms(K:W.Frag):Sp:=λvs H Q _=>∃(a:Addr) (ns:List Int),vs=[.ref a]/\H a=some (.lst (ns.map V.int))/\0<ns.length/\ns.length<=490/\∀(k:Nat) (H':Hp),Same H H'->Tms ns k->Q (.int (k:Int)) H'
theorem zg2 (T:Txt P w K mg) (d:Df K mg "_law_times" zcI ["_law_some"]):FnOk P w K mg base CX0 1 d.f d.fd ["_law_some"] (spTms K):=by
 refine d.F.ok zdn (λvs H Q E h=>?_) (λcdv A outer s H vs Q E hr h=>?_)
 .obtain⟨a,ns,rfl,_⟩:=h;rfl
 .obtain⟨a,ns,rfl,ha,h0,hn,k⟩:=h;have hu64:=hr.units
  refine⟨_,(zac (zbR A8 rfl (zeA (by rfl) T.nrange (pa_C zae (zah (zap zak (by rfl) T.nlen (by rfl) (pa_N (pv 0) zab)) zab))) (nG 1 zdn.nd)
   (zaf (ps_if (zmg (zar op_eq (pe_op zaT (zap zak (by rfl) T.nlen (by rfl) (pa_N (pv 0) zab)) (pv 1)) zae (zan _)) (zkd (zar (zfy hu64) (pe_op zko (zaI zcz (pv 0) za4 (za3 (pv 1))) (pe_op zd9 (zap zak (by rfl) T.nlen (by rfl) (pa_N (pv 0) zab)) (pv 1))) (pv 0) (zan _)))).pt
   (zaf (zai (pe_op zd9 (zap zak (by rfl) T.nlen (by rfl) (pa_N (pv 0) zab)) (pv 1))))
   zau)))
   (zaf (zai zae))),?_⟩
  have e1:(ns.map V.int).length=ns.length:=Af _;refine⟨_,rfl,a,_,rfl,.inl (SqL.of ha),_,_,rfl,⟨by decide,by decide,by lia,by rw[e1];lia⟩,?_⟩;rw[e1];have hσ:L2.start zdX [.ref a]=[some (.ref a),none]:=rfl;rw[hσ];refine zaS (lo:=1) (n:=((ns.length:Int)-1).toNat) (λi σ H2=>∃o,σ=[some (.ref a),o]/\Same H H2/\∀q,0<q->q<1+i->ns.length % q=0->¬ RepL ns q) ⟨_,rfl,Same.refl _,λq h1 h2=>by lia⟩ ?_ ?_
  .rintro i σ H2 hi ⟨o,rfl,s2,hq⟩;have hi':1+i<ns.length:=by lia
   have a2:=s2 _ _ ha;have ez:(1:Int)+(i:Int)=((1+i:Nat):Int):=by lia
   simp only[zbi,Bc,Bd];rw[ez]
   have nxtI:∀H3,Same H2 H3->(ns.length % (1+i)=0->¬ RepL ns (1+i))->∃o,[some (V.ref a),some (V.int ((1+i:Nat):Int))]=[some (.ref a),o]/\Same H H3/\∀q,0<q->q<1+(i+1)->ns.length % q=0->¬ RepL ns q:=λH3 s3 hh=>⟨_,rfl,s2.trans s3,λq h1 h2 h3=>by
    rcases AC q (1+i) with z |z
    .exact hq q h1 z h3
    .have:q=1+i:=by lia
     subst this;exact hh h3⟩
   refine⟨_,rfl,a,_,rfl,.inl (SqL.of a2),_,rfl,_,_,rfl,rfl,(by show (0:Int)<((1+i:Nat):Int);lia),rfl,_,rfl,?_⟩;rw[e1];have em:((ns.length:Int) % ((1+i:Nat):Int))=((ns.length % (1+i):Nat):Int):=by lia
   by_cases hd:ns.length % (1+i)=0
   rotate_left
   .refine iteN (decide_eq_false λz=>hd ?_) ?_
    .injection z with z;have:((ns.length % (1+i):Nat):Int)=0:=by rw[<- em];exact z
     lia
    .exact nxtI H2 (Same.refl _) λz=>absurd z hd
   refine iteY (decide_eq_true ?_) ?_
   .show V.int ((ns.length:Int) % ((1+i:Nat):Int))=V.int 0;rw[em,hd];rfl
   refine⟨_,rfl,_,rfl,_,rfl,a,_,rfl,SqL.of a2,λp1 hp1=>?_⟩;rw[zdw _ (by rw[e1];lia),<- B9];have s3:=Same.up (o:=.lst ((ns.take (1+i)).map V.int)) hp1;have f3:upd H2 p1 (.lst ((ns.take (1+i)).map V.int)) p1=some (.lst ((ns.take (1+i)).map V.int)):=zaa;generalize upd H2 p1 (.lst ((ns.take (1+i)).map V.int))=H3 at s3 f3 ⊢;have ek:((ns.length:Int) / ((1+i:Nat):Int))=((ns.length / (1+i):Nat):Int):=by lia
   have hkn:ns.length / (1+i)*(1+i)=ns.length:=Nat.div_mul_cancel (BV hd);have hkl:ns.length / (1+i)<=ns.length:=Nat.div_le_self _ _;have hRk:RepL ns (1+i) ↔ (Aj (ns.length / (1+i)) (ns.take (1+i))).flatten=ns:=Iff.rfl;generalize ns.length / (1+i)=kk at ek hkn hkl hRk;have hdiv:CDivB ((ns.length:Nat):Int) ((1+i:Nat):Int):=⟨by lia,za2 (by lia) (by lia)⟩;refine⟨_,rfl,a,_,rfl,.inl (SqL.of (s3 _ _ a2)),_,rfl,_,_,rfl,rfl,(by rw[e1];exact hdiv),?_⟩;refine⟨p1,((kk:Nat):Int),_,rfl,(by show V.int (((ns.map V.int).length:Int) / ((1+i:Nat):Int))=_;rw[e1,ek]),f3,by lia,by lia,?_,λp2 hp2=>?_⟩
   .rw[CJ];refine Bg (zaj ?_);rw[Af,Av,DE (by lia),Nat.mul_comm,hkn];lia
   rw[CJ]
   have efl:(Aj (kk) ((ns.take (1+i)).map V.int)).flatten=((Aj (kk) (ns.take (1+i))).flatten).map V.int:=by rw[List.map_flatten,List.map_replicate]
   rw[efl];have s4:=Same.up (o:=.lst (((Aj (kk) (ns.take (1+i))).flatten).map V.int)) hp2;have f4:upd H3 p2 (.lst (((Aj (kk) (ns.take (1+i))).flatten).map V.int)) p2=some (.lst (((Aj (kk) (ns.take (1+i))).flatten).map V.int)):=zaa;generalize upd H3 p2 (.lst (((Aj (kk) (ns.take (1+i))).flatten).map V.int))=H4 at s4 f4 ⊢;refine⟨_,rfl,.list (((Aj (kk) (ns.take (1+i))).flatten).map .int),.list (ns.map .int),.lst (SqL.of f4) (zaL _),.lst (SqL.of ((s3.trans s4) _ _ a2)) (zaL _),zba _,zba _,_,rfl,?_⟩;rw[zhe];refine ite2 (λhy=>?_) (λhn'=>?_)
   .have hR:RepL ns (1+i):=hRk.mpr (of_decide_eq_true hy);refine⟨_,rfl,a,_,rfl,.inl (SqL.of ((s3.trans s4) _ _ a2)),_,rfl,_,_,rfl,rfl,(by rw[e1];exact hdiv),?_⟩;show Q (V.int (((ns.map V.int).length:Int) / ((1+i:Nat):Int))) H4;rw[e1,ek];exact k _ H4 (s2.trans (s3.trans s4)) ⟨1+i,by lia,hkn.symm,hR,λq h1 h2 h3=>hq q h1 h2 h3⟩
   .exact nxtI H4 (s3.trans s4) λ_ z=>hn' (decide_eq_true (hRk.mp z))
  .rintro σ H2 ⟨o,rfl,s2,hq⟩;refine k 1 H2 s2 ⟨ns.length,h0,(Nat.one_mul _).symm,?_,λq h1 h2 h3=>hq q h1 (by lia) h3⟩;unfold RepL;rw[Nat.div_self h0,AO];simp
noncomputable def sameB (ns ms:List Int):Bool:=@decide (SameL ns ms) (Classical.propDecidable _)
theorem zcB{ns ms:List Int}:sameB ns ms=true ↔ SameL ns ms:=by unfold sameB;exact @decide_eq_true_iff _ (Classical.propDecidable _)
theorem zlu{ns ms:List Int}{b:Bool}(h:b=true ↔ SameL ns ms):b=sameB ns ms:=by rw[BN,h,zcB]
theorem zbh(a:List Nat):(rowI a).length=a.length:=Af _
theorem zdq{a b:List Nat}:SameL (rowI a) (rowI b) ↔ RotN a b:=by
 unfold SameL;rw[zbh,zbh];constructor
 .rintro⟨_,h |⟨m,hm,h⟩⟩
  .exact⟨a,[],by simp,by rw[<- zf4 h];rfl⟩
  .refine⟨a.take m,a.drop m,(CC m a).symm,?_⟩
   apply zf4
   rw[zc7,<- h];unfold rowI;rw[CQ,B9]
 .rintro⟨X,Y,rfl,rfl⟩;refine⟨by simp;lia,?_⟩
  cases Y with
  |nil=>left;simp
  |cons y Y =>
   right;refine⟨X.length,by simp,?_⟩;rw[zc7,<- zbh X,List.drop_left,List.take_left,<- zc7]
theorem zkV{row:List Nat}(k:Nat):fur ((2*k:Nat):Int) (rowI row)=rowI (row.map (sh k)):=by
 unfold fur rowI;rw[Bp,Bp];refine BA λs _=>?_
 show ((s:Int)+((2*k:Nat):Int)) % 8=(((s+2*k) % 8:Nat):Int);lia
theorem zhd(p:Nat->Bool)(i:Nat):(AJ (i+1)).filter p=(AJ i).filter p++(if p i=true then [i] else []):=by
 rw[Dd,DK]
 congr 1
 cases h:p i <;> simp[h]
theorem Can.rowlen{C:Cell->Bool}{es:List Edge}{r:Rnd}(h:Can C es r):r.row.length<=es.length:=by rw[h.row];exact Ba (DB _ _) (by rw[Af];exact Ai _)
noncomputable def furB (ns ms:List Int):List Nat:=(AJ 8).filter λb=>sameB (fur (b:Int) ns) ms
noncomputable def zmd(K:W.Frag):Sp:=λvs H Q _=>∃(a b:Addr) (ns ms:List Int),vs=[.ref a,.ref b]/\H a=some (.tup (ns.map V.int))/\H b=some (.tup (ms.map V.int))/\ns.length<=490/\ms.length<=490 /\
 ∀p H',Same H H'->H' p=some (.lst (rowV (furB ns ms)))->Q (.ref p) H'
theorem ze4 (T:Txt P w K mg) (g__law_same:Fn P w K mg base 1 "_law_same" ["_law_one","_law_other"] (zjS K)) (d:Df K mg "_law_further" zaY ["_law_one","_law_other"]):FnOk P w K mg base CX0 2 d.f d.fd ["_law_one","_law_other"] (zmd K):=by
 refine d.F.ok zer (λvs H Q E h=>?_) (λcdv A outer s H vs Q E hr h=>?_)
 .obtain⟨a,b,ns,ms,rfl,_⟩:=h;rfl
 .obtain⟨a,b,ns,ms,rfl,ha,hb,hn,hm,k⟩:=h;have nb0:(["_law_by","_law_other","_law_one"]:List Str).Nodup:=by decide +kernel
  have nb1:(["_law_step","_law_by"]:List Str).Nodup:=by decide +kernel
  refine⟨_,(zaf (zai (zkl (osc:=zad zaY) (N:=zc1) (N':=["_law_by","_law_other","_law_one"]) (sel:=[none,some 1,some 0]) bOC (zbd (by rfl) T.nrange (pa_C zae zab)) (λ_ _ _ _ _=>(zhP (i:=0) nb0 (by rfl) (Or.inr rfl))) (λ_ _ _ _ _=>zcK (zdR (pC g__law_same hr (zah (zds (zfe (K:=K)) (by rfl) T.ntuple (by rfl) (zah (zaM (osc:=relS (zlw zaY) (zad zaY)) (N:=["_law_by","_law_other","_law_one"]) (N':=["_law_step","_law_by"]) (sel:=[none,some 0]) bO (zmM (K:=K) (pv 2)) (λ_ _ _ _ _=>(nG 0 nb1)) (λ_ _ _ _ _=>za8) (λ_ _ _ _ _=>(pe_op zaT (pe_op zaQ (pv 0) (pv 1)) zae))) zab)) (pa_N (pv 1) zab))))) (λ_ _ _ _ _=>(pv 0))))),?_⟩;refine⟨8,rfl,by decide,by decide,λg hg=>?_⟩;refine zaS (lo:=0) (n:=(8:Int).toNat) (λi σ H2=>∃o,σ=[o,some (.ref b),some (.ref a)]/\Same H H2/\H2 g=some (.lst (rowV ((AJ i).filter λb=>sameB (fur (b:Int) ns) ms)))) ⟨_,rfl,Same.up hg,zaa⟩ ?_ ?_
  .rintro i σ H2 hi ⟨o,rfl,s2,e2⟩;simp only[zbi,Bc,Bd];have hi8:i<8:=hi;refine⟨_,rfl,a,rfl,⟨_,SqT.of (s2 _ _ ha)⟩,λp hp=>?_⟩;have e1:(ns.map V.int).length=ns.length:=Af _;refine zgq (K:=K) (a:=a) (xs:=ns.map V.int) (λj σ H3=>∃o,σ=[o,some (.int (0+(i:Int)))]/\Same H2 H3/\H3 p=some (.lst ((fur (i:Int) (ns.take j)).map V.int))) ⟨_,rfl,Same.up hp,zaa⟩ (λj σ H3 _ ⟨_,_,s3,_⟩=>SqT.of (s3 _ _ (s2 _ _ ha))) ?_ ?_
   .rintro j v σ H3 hj ⟨o,rfl,s3,e3⟩;have hjl:j<ns.length:=by have:=(Ad.mp hj).1;rw[e1]at this;exact this
    rw[Ak,Aa hjl]at hj
    cases hj
    refine gN ?_
    refine⟨_,rfl,_,rfl,_,_,rfl,rfl,_,_,rfl,rfl,(by show (0:Int)<8;decide),_,e3,zaj (by unfold fur;simp;lia),_,rfl,zao hp s3,?_⟩;rw[zaa,zaB (Aa hjl)];unfold fur;rw[Ax,Ax,C6];rfl
   .rintro σ H3 ⟨o,rfl,s3,e3⟩;rw[e1,AO]at e3;refine⟨p,_,rfl,.inl ⟨SqL.of e3,λt ht=>?_⟩⟩;have s4:=Same.up (o:=.tup ((fur (i:Int) ns).map V.int)) ht;have e4:upd H3 t (.tup ((fur (i:Int) ns).map V.int)) t=some (.tup ((fur (i:Int) ns).map V.int)):=zaa;generalize upd H3 t (.tup ((fur (i:Int) ns).map V.int))=H4 at s4 e4 ⊢;have s24:=s3.trans s4;refine⟨_,rfl,t,b,fur (i:Int) ns,ms,rfl,.inl ⟨e4,(s2.trans s24) _ _ hb⟩,by unfold fur;rw[Af];lia,by lia,λbb H5 s5 hbb=>⟨_,rfl,?_⟩⟩;have hbe:=zlu hbb;have s25:=s24.trans s5;rw[zhd];refine ite2 (λhy=>?_) (λhn'=>?_)
    .rw[if_pos (by rw[<- hbe];exact hy)];refine⟨_,rfl,_,s25 _ _ e2,zaj ?_,_,rfl,zao hg (s2.trans s25),?_⟩
     .unfold rowV;rw[Af];have:=BC (λb:Nat=>sameB (fur (b:Int) ns) ms) (AJ i);rw[CN]at this;lia
     .rw[zaa,C6];unfold rowV;rw[Ax];rfl
    .rw[if_neg (by rw[<- hbe];exact hn'),A3];exact⟨_,rfl,s2.trans s25,s25 _ _ e2⟩
  .rintro σ H2 ⟨o,rfl,s2,e2⟩;exact k g H2 s2 e2
noncomputable def spOwn:Sp:=λvs H Q _=>∃(v:V) (r:Rnd) (C:Cell->Bool) (es:List Edge),vs=[v]/\rR r v H/\Can C es r/\es.length<=480 /\
 ∀H',Same H H'->Q (.int (((AJ 4).filter λq:Nat=>sameB (fur ((2*q:Nat):Int) (rowI r.row)) (rowI r.row)).length:Nat)) H'
theorem zjs (T:Txt P w K mg) (g_name:Fn P w K mg base 3 "name" ["one"] (zmb K)) (g_turned:Fn P w K mg base 6 "turned" ["one","quarters"] (zfT K)) (d:Df K mg "_law_own" zcU ["_law_one"]):FnOk P w K mg base CX0 7 d.f d.fd ["_law_one"] spOwn:=by
 refine d.F.ok zhI (λvs H Q E h=>?_) (λcdv A outer s H vs Q E hr h=>?_)
 .obtain⟨v,r,C,es,rfl,_⟩:=h;rfl
 .obtain⟨v,r,C,es,rfl,hv,hC,hl,k⟩:=h;have hu64:=hr.units;have nb0:(["_law_quarters","_law_one"]:List Str).Nodup:=by decide +kernel
  refine⟨_,(zaf (zai (zap zak (by rfl) T.nlen (by rfl) (zah (zaM (osc:=zad zcU) (N:=zfH) (N':=["_law_quarters","_law_one"]) (sel:=[none,some 0]) bO (zbd (by rfl) T.nrange (pa_C zae zab)) (λ_ _ _ _ _=>(nG 0 nb0)) (λ_ _ _ _ _=>zcK (zar (zhT (K:=K) hu64) (pC g_name hr (zah (pC g_turned hr (pa_N (pv 1) (pa_N (pv 0) zab))) zab)) (pC g_name hr (pa_N (pv 1) zab)) (zan _))) (λ_ _ _ _ _=>(pv 0))) zab)))),?_⟩;refine⟨4,rfl,by decide,by decide,λg hg=>?_⟩;refine zaS (lo:=0) (n:=(4:Int).toNat) (λi σ H2=>∃o,σ=[o,some v]/\Same H H2/\H2 g=some (.lst (rowV ((AJ i).filter λq:Nat=>sameB (fur ((2*q:Nat):Int) (rowI r.row)) (rowI r.row))))) ⟨_,rfl,Same.up hg,zaa⟩ ?_ ?_
  .rintro i σ H2 hi ⟨o,rfl,s2,e2⟩;simp only[zbi,Bc,Bd];have hi4:i<4:=hi;have hrl:=hC.rowlen;have hqi:((0+(i:Int)) % 4).toNat=i:=by lia
   refine⟨_,rfl,_,rfl,v,0+(i:Int),r,C,es,rfl,rR.kt hv (KT.of s2),hC,by lia,λv1 H3 r1 s3 hv1 hi1=>?_⟩;rw[hqi]at hi1;obtain⟨hso1,X,Y,hr1,hr2⟩:=hC.turned hi1
   have hl1:r1.row.length=r.row.length:=by have:=congrArg List.length hr2;rw[Af,Ap]at this;rw[hr1,Ap];lia
   refine⟨v1,r1,rfl,hv1,by lia,λb1 c1 l1 H4 s4 hL1 f1 g1=>?_⟩;refine⟨_,rfl,v,r,rfl,rR.kt hv (KT.of (s2.trans (s3.trans s4))),by lia,λb2 c2 l2 H5 s5 hL2 f2 g2=>?_⟩;refine⟨dN r1.so l1,dN r.so l2,.tup (SqT.of (s5 _ _ f1)) (.cons (.str _) (.cons (.tup (SqT.of (s5 _ _ g1)) (zaL _)) .nil)),.tup (SqT.of f2) (.cons (.str _) (.cons (.tup (SqT.of g2) (zaL _)) .nil)),zgQ (by rw[hso1,hC.so];exact zcR _) _,zgQ (by rw[hC.so];exact zcR _) _,_,rfl,?_⟩;rw[znY,zhd];have s25:=s3.trans (s4.trans s5)
   have hiff:(r1.so=r.so/\l1=l2) ↔ sameB (fur ((2*i:Nat):Int) (rowI r.row)) (rowI r.row)=true:=by rw[zcB,zkV,zdq];have h3:l1=l2 ↔ SameL (rowI r1.row) (rowI r.row):=zcs.same hL1 hL2;rw[h3,zdq];have h4:RotN (r.row.map (sh i)) r1.row:=⟨Y,X,hr2,hr1⟩;exact⟨λz=>h4.trans z.2,λz=>⟨hso1,h4.symm.trans z⟩⟩
   refine ite2 (λhy=>?_) (λhn'=>?_)
   .rw[if_pos (hiff.mp (of_decide_eq_true hy))];refine⟨_,rfl,_,s25 _ _ e2,zaj ?_,_,rfl,zao hg (s2.trans s25),?_⟩
    .unfold rowV;rw[Af];have:=BC (λq:Nat=>sameB (fur ((2*q:Nat):Int) (rowI r.row)) (rowI r.row)) (AJ i);rw[CN]at this;lia
    .rw[zaa,C6];unfold rowV;rw[Ax];rfl
   .rw[if_neg (λz=>hn' (decide_eq_true (hiff.mpr z))),A3];exact⟨_,rfl,s2.trans s25,s25 _ _ e2⟩
  .rintro σ H2 ⟨o,rfl,s2,e2⟩;refine⟨g,_,rfl,.inl (SqL.of e2),?_⟩;have:(rowV ((AJ (4:Int).toNat).filter λq:Nat=>sameB (fur ((2*q:Nat):Int) (rowI r.row)) (rowI r.row))).length=((AJ 4).filter λq:Nat=>sameB (fur ((2*q:Nat):Int) (rowI r.row)) (rowI r.row)).length:=Af ..;rw[this];exact k H2 s2
theorem zf9(k:Nat)(h:k<4)(C:Cell->Bool):pb (false,(k:Int)) C=rCn k C:=by unfold pb;show rCn ((k:Int) % 4).toNat _=_;rw[show ((k:Int) % 4).toNat=k by lia];rfl
theorem zfQ{k:Nat}(h:k<4):trns[k]?=some (false,(k:Int)):=(by decide:∀k<4,trns[k]?=some (false,((k:Nat):Int))) k h
theorem zjM:∀i<8,4<=i->∃n:Int,trns[i]?=some (true,n):=by
 intro i h1 h2;have:i=4∨i=5∨i=6∨i=7:=by lia
 rcases this with rfl |rfl |rfl |rfl <;> exact⟨_,rfl⟩
theorem zh7{C D:Cell->Bool}{i:Nat}{q:Bool×Int}{d:Cell}(h:zll C D i q d):q.1=false ↔ ∃k,k<4/\∃d,D=mvP d (rCn k C):=by
 obtain⟨h1,h2,h3⟩:=h;have hi8:i<8:=(Ad.mp h1).1;constructor
 .intro hq
  have hi4:i<4:=by
   rcases AC i 4 with z |z
   .exact z
   .obtain⟨n,hn⟩:=zjM i hi8 z;rw[hn]at h1
    cases h1
    cases hq
  rw[zfQ hi4]at h1
  cases h1
  rw[zf9 i hi4]at h2;exact⟨i,hi4,d,h2⟩
 .rintro⟨k,hk,d',e⟩;rcases AC i 4 with z |z
  .rw[zfQ z]at h1
   cases h1
   rfl
  .exact absurd (by rw[zf9 k hk];exact e) (h3 k _ (by lia) (zfQ hk) d')
theorem zjv{C D:Cell->Bool}(h:zlf C D):¬ ∃k,k<4/\∃d,D=mvP d (rCn k C):=by rintro⟨k,hk,d,e⟩;exact h k _ (zfQ hk) d (by rw[zf9 k hk];exact e)
theorem zea{ns ms:List Int}{b:Nat}:b∈furB ns ms ↔ b<8/\SameL (fur (b:Int) ns) ms:=by unfold furB;rw[List.mem_filter,List.mem_range,zcB]
theorem zmk{α:Type}{l:List α}:l≠[] ↔ ∃x,x∈l:=by
 cases l with
 |nil=>simp
 |cons a l=>simp
theorem Can.stp{C:Cell->Bool}{es:List Edge}{r:Rnd}(h:Can C es r):Stp (rowI r.row):=λx hx=>by obtain⟨n,hn,rfl⟩:=AF.mp hx;rw[h.row]at hn;obtain⟨o,ho,eo⟩:=List.mem_filterMap.mp hn;simp only[id]at eo;subst eo;have:=zmA (λe he=>(h.cl.1.2.2.1 e he).1) ho;lia
theorem zkW(l:List Nat):∀j,j<=l.length->∀x,l[j]?=some x->(l.take (j+1)).filter (λb=>decide (b % 2=0))=(l.take j).filter (λb=>decide (b % 2=0))++(if x % 2=0 then [x] else []):=λj _ x h=>by
 rw[zaB h,DK]
 congr 1
 by_cases z:x % 2=0 <;> simp[z]
theorem znZ{K:W.Frag}{σ : St}{H:Hp}{Q:VK}{a a' p:Addr}{s1 s2:Str}{x1 x2:List V}{L:List Nat}(h0 : σ[0]? = some (some (.ref a)))(h1 : σ[1]? = some (some (.ref a')))(h2 : σ[2]? = some (some (.ref p)))
  (q1:H a=some (.tup (.str s1::x1))) (q2:H a'=some (.tup (.str s2::x2))) (q3:H p=some (.lst (rowV L))) (hL:L.length<=8) (k:∀bd H',Same H H'->(bd=true ↔ s1=s2/\∃b∈L,b % 2=0)->Q (.bl bd) H') :
  tAndV (tOp rEq (tOp (rIxT K) (tVar 0) (tC (V.int 0))) (tOp (rIxT K) (tVar 1) (tC (V.int 0)))) (tOp (rNeD K) (zgJ (iList K (tVar 2)) [none] (gName 0) (tTest (tOp rEq (tOp (rI (λx j=>0<j) λi j=>V.int (i % j)) (tVar 0) (tC (V.int 2))) (tC (V.int 0)))) (tVar 0)) (tLst tNil)) σ H Q:=by
 refine⟨_,h0,a,_,_,_,rfl,rfl,SqT.of q1,zal (j:=0) rfl,_,h1,a',_,_,_,rfl,rfl,SqT.of q2,zal (j:=0) rfl,rfl,_,rfl,?_⟩;refine ite2 (λhy=>?_) (λhn=>?_)
 rotate_left
 .refine k false H (Same.refl _) ⟨λz=>(nomatch z),λz=>absurd ?_ hn⟩;exact decide_eq_true (by rw[z.1])
 have hs:s1=s2:=by have:=of_decide_eq_true hy;injection this
 refine⟨_,h2,p,rfl,⟨_,SqL.of q3⟩,λg hg=>?_⟩;have eL:(rowV L).length=L.length:=Af ..;refine zay (K:=K) (a:=p) (xs:=rowV L) (λj σ H2=>∃o,σ=[o]/\Same H H2/\H2 g=some (.lst (rowV ((L.take j).filter λb=>decide (b % 2=0))))) ⟨_,rfl,Same.up hg,zaa⟩ (λj σ H2 _ ⟨_,_,s2,_⟩=>SqL.of (s2 _ _ q3)) ?_ ?_
 .rintro j v σ H2 hj ⟨o,rfl,s2,e2⟩;have hjl:j<L.length:=by have:=(Ad.mp hj).1;rw[eL]at this;exact this
  unfold rowV at hj;rw[Ak,Aa hjl]at hj
  cases hj
  simp only[zbi,Bc,Bd];refine⟨_,rfl,_,_,rfl,rfl,(by show (0:Int)<2;decide),rfl,_,rfl,?_⟩;rw[zkW L j (by lia) _ (Aa hjl)];refine ite2 (λhy=>?_) (λhn=>?_)
  .have hz:L[j] % 2=0 := by have:=of_decide_eq_true hy;injection this with this;lia
   rw[if_pos hz];refine⟨_,rfl,_,e2,zaj ?_,_,rfl,zao hg s2,?_⟩
   .unfold rowV;rw[Af];have:=BC (λb:Nat=>decide (b % 2=0)) (L.take j);rw[Av]at this;lia
   .rw[zaa];unfold rowV;rw[Ax];rfl
  .have hz:L[j] % 2 ≠ 0 := λz => hn (decide_eq_true (by
    show V.int ((L[j]:Int) % 2)=V.int 0;rw[show ((L[j]:Nat):Int) % 2=0 by lia]))
   rw[if_neg hz,A3];exact⟨_,rfl,s2,e2⟩
 .rintro σ H2 ⟨o,rfl,s2,e2⟩;rw[eL,AO]at e2;refine⟨(by show 0<=sizeLine;decide),λl hl=>?_⟩;have s3:=Same.up (o:=.lst []) hl;have e3:upd H2 l (.lst []) l=some (.lst []):=zaa;generalize upd H2 l (.lst [])=H3 at s3 e3 ⊢;have e2':=s3 _ _ e2;rw[zfv]at e2';refine⟨.list ((rowI (L.filter λb=>decide (b % 2=0))).map .int),.list (([]:List Int).map .int),.lst (SqL.of e2') (zaL _),.lst (SqL.of e3) .nil,zba _,zba _,?_⟩;rw[zhe];refine k _ H3 (s2.trans s3) ?_
  have hd:(!decide (rowI (L.filter λb=>decide (b % 2=0))=[]))=true ↔ ∃b∈L,b % 2=0:=by
   rw[Bool.not_eq_true',decide_eq_false_iff_not];unfold rowI;rw[List.map_eq_nil_iff];rw[<- ne_eq,zmk];constructor
   .rintro⟨x,hx⟩;have:=Cc.mp hx;exact⟨x,this.1,of_decide_eq_true this.2⟩
   .rintro⟨x,hx,hz⟩;exact⟨x,Cc.mpr ⟨hx,decide_eq_true hz⟩⟩
  rw[hd];exact⟨λz=>⟨hs,z⟩,λz=>z.2⟩
theorem zfw{K:W.Frag}{D:Ends}{H:Hp}{a a' p:Addr}{s1 s2:Str}{x1 x2:List V}{L:List Nat}{how:V}{hb:Bool}{o4:Option V}
  (q1:H a=some (.tup (.str s1::x1))) (q2:H a'=some (.tup (.str s2::x2))) (q3:H p=some (.lst (rowV L))) (hL:L.length<=8) (hbd:hb=true ↔ s1=s2/\∃b∈L,b % 2=0)
  (hread:∀(σ:St) (H7:Hp) (Q7:VK),Same H H7->σ[3]?=some (some how)->Q7 (.bl hb) H7->(tAndV (tOp (λx y H Q=>y=V.non/\Q (V.bl !decide (x=V.non)) H) (tVar 3) (tC V.non)) (tOp (λx y H Q=>∃a b,x=V.bl a/\y=V.bl b/\Q (V.bl (a == b)) H) (tOp (rIxT K) (tVar 3) (tC (V.int 0))) (tC (V.bl false)))) σ H7 Q7) (k:∀H',Same H H'->D.rt (.bl true) H') :
  tSeq (tAsg (tAndV (tOp rEq (tOp (rIxT K) (tVar 0) (tC (V.int 0))) (tOp (rIxT K) (tVar 1) (tC (V.int 0)))) (tOp (rNeD K) (zgJ (iList K (tVar 2)) [none] (gName 0) (tTest (tOp rEq (tOp (rI (λx j=>0<j) λi j=>V.int (i % j)) (tVar 0) (tC (V.int 2))) (tC (V.int 0)))) (tVar 0)) (tLst tNil))) (gName 4)) (tRet (tOp rEq (tAndV (tOp (λx y H Q=>y=V.non/\Q (V.bl !decide (x=V.non)) H) (tVar 3) (tC V.non)) (tOp (λx y H Q=>∃a b,x=V.bl a/\y=V.bl b/\Q (V.bl (a == b)) H) (tOp (rIxT K) (tVar 3) (tC (V.int 0))) (tC (V.bl false)))) (tVar 4))) D [some (.ref a),some (.ref a'),some (.ref p),some how,o4] H:=by
 refine znZ (K:=K) rfl rfl rfl q1 q2 q3 hL λbd H6 s6 hbd'=>?_
 simp only[zbi,Bc,Bd];have e:hb=bd:=by rw[BN,hbd,hbd']
 subst e;refine hread _ H6 _ s6 rfl ⟨_,rfl,by cases hb <;> rfl,?_⟩;have e2:decide (V.bl hb=V.bl hb)=true:=decide_eq_true rfl;have:=k H6 s6;rw[<- e2]at this;exact this
noncomputable def zfU:Sp:=λvs H Q _=>∃(v u:V) (r t:Rnd) (C D:Cell->Bool) (es fs:List Edge),vs=[v,u]/\rR r v H/\rR t u H/\Can C es r/\Can D fs t/\es.length<=480/\fs.length<=480/\∀H',Same H H'->Q (.bl true) H'
theorem zg3 (T:Txt P w K mg) (g__law_further:Fn P w K mg base 2 "_law_further" ["_law_one", "_law_other"] (zmd K)) (g__law_same:Fn P w K mg base 1 "_law_same" ["_law_one", "_law_other"] (zjS K)) (g__law_gone_round:Fn P w K mg base 3 "_law_gone_round" ["_law_row"] (spGr K))
  (g_alike:Fn P w K mg base 10 "alike" ["one","other"] (zmc K)) (d:Df K mg "_law_right" zbZ ["_law_one","_law_other"]):FnOk P w K mg base CX0 11 d.f d.fd ["_law_one","_law_other"] zfU:=by
 refine d.F.ok zbH (λvs H Q E h=>?_) (λcdv A outer s H vs Q E hr h=>?_)
 .obtain⟨v,u,r,t,C,D,es,fs,rfl,_⟩:=h;rfl
 .obtain⟨v,u,r,t,C,D,es,fs,rfl,hv,hu,hC,hD,hes,hfs,k⟩:=h;have hu64:=hr.units;have nb0:(["_law_number"]:List Str).Nodup:=by decide +kernel
  refine⟨_,(zac (sE 2 zbH.nd (pC g__law_further hr (zah (pe_ix zaV (pv 0) zae (λ_ _=>rfl)) (zah (pe_ix zaV (pv 1) zae (λ_ _=>rfl)) zab))))
   (zac (ps_if (zar op_ne (pC g__law_same hr (zah (pC g__law_gone_round hr (zah (pe_ix zaV (pv 0) zae (λ_ _=>rfl)) zab)) (zah (pC g__law_gone_round hr (zah (pe_ix zaV (pv 1) zae (λ_ _=>rfl)) zab)) zab))) (zaK (zgY hu64) (pv 2) (zbu zab) (zan _)) (zan _))
   (zaf (zai pe_bl))
   zau)
   (zac (sE 3 zbH.nd (pC g_alike hr (pa_N (pv 0) (pa_N (pv 1) zab))))
   (zac (sE 4 zbH.nd (ziF (zaK op_eq (pe_ix zaV (pv 0) zae (λ_ _=>rfl)) (pe_ix zaV (pv 1) zae (λ_ _=>rfl)) (zan _)) (zeB (zaK (zgY hu64) (zaM (osc:=zad zbZ) (N:=zcO) (N':=["_law_number"]) (sel:=[none]) bO (zaP (pv 2)) (λ_ _ _ _ _=>(nG 0 nb0)) (λ_ _ _ _ _=>zcK (zar op_eq (pe_op zaT (pv 0) zae) zae (zan _))) (λ_ _ _ _ _=>(pv 0))) (zbu zab) (zan _)))))
   (zaf (zai (zaK op_eq (ziF (zaK zdI (pv 3) zbf (zan _)) (zeB (zaK znI (pe_ix zaV (pv 3) zae (λ_ _=>rfl)) pe_bl (zan _)))) (pv 4) (zan _)))))))),?_⟩
  obtain⟨a,b,rfl,q1,q2⟩:=id hv;obtain⟨a',b',rfl,q1',q2'⟩:=id hu;have hl1:=hC.rowlen;have hl2:=hD.rowlen;rw[zfv]at q2 q2';have hσ:L2.start zcO [.ref a,.ref a']=[some (.ref a),some (.ref a'),none,none,none]:=rfl;rw[hσ];refine⟨_,rfl,a,_,_,_,rfl,rfl,SqT.of q1,zal (j:=3) rfl,_,rfl,a',_,_,_,rfl,rfl,SqT.of q1',zal (j:=3) rfl,b,b',rowI r.row,rowI t.row,rfl,q2,q2',by rw[zbh];lia,by rw[zbh];lia,λp H1 s1 e1=>?_⟩;simp only[zbi,Bc,Bd];refine⟨_,rfl,a,_,_,_,rfl,rfl,SqT.of (s1 _ _ q1),zal (j:=3) rfl,b,rowI r.row,rfl,s1 _ _ q2,by rw[zbh];lia,λp2 H2 s2 e2=>?_⟩;have s02:=s1.trans s2;refine⟨_,rfl,a',_,_,_,rfl,rfl,SqT.of (s02 _ _ q1'),zal (j:=3) rfl,b',rowI t.row,rfl,s02 _ _ q2',by rw[zbh];lia,λp3 H3 s3 e3=>?_⟩;have s03:=s02.trans s3;have cl:∀ns:List Int,(cyT ns).length=ns.length:=λns=>zaG _ _
  refine⟨p2,p3,cyT (rowI r.row),cyT (rowI t.row),rfl,.inr ⟨s3 _ _ e2,e3⟩,by rw[cl,zbh];lia,by rw[cl,zbh];lia,λbb H4 s4 hbb=>?_⟩;have s04:=s03.trans s4;have e14:=(s2.trans (s3.trans s4)) _ _ e1;have hst1:=hC.stp;have hst2:=hD.stp
  have hfl:(furB (rowI r.row) (rowI t.row)).length<=8:=by unfold furB;have:=BC (λb:Nat=>sameB (fur (b:Int) (rowI r.row)) (rowI t.row)) (AJ 8);rw[CN]at this;exact this
  refine⟨_,rfl,(by show 0<=sizeLine;decide),λl5 hl5=>?_⟩;have s5:=Same.up (o:=.lst []) hl5;have e5:upd H4 l5 (.lst []) l5=some (.lst []):=zaa;generalize upd H4 l5 (.lst [])=H5 at s5 e5 ⊢;have s05:=s04.trans s5;have e15:=s5 _ _ e14;have e15':=e15;rw[zfv]at e15';refine⟨.list ((rowI (furB (rowI r.row) (rowI t.row))).map .int),.list (([]:List Int).map .int),.lst (SqL.of e15') (zaL _),.lst (SqL.of e5) .nil,zba _,zba _,by cases bb <;> rfl,_,rfl,?_⟩;rw[zhe]
  have hbe:bb=!decide (rowI (furB (rowI r.row) (rowI t.row))=[]):=by
   rw[BN,hbb,zhJ hst1 hst2,Bool.not_eq_true',decide_eq_false_iff_not];unfold rowI;rw[List.map_eq_nil_iff,<- ne_eq,zmk];constructor
   .rintro⟨x,hx,hz⟩;exact⟨x,zea.mpr ⟨hx,hz⟩⟩
   .rintro⟨x,hx⟩;exact⟨x,zea.mp hx⟩
  refine iteN (by rw[<- hbe];simp) ?_
  have on1:=hC.alone';have on2:=hD.alone'
  have hev:(∃b∈furB (rowI r.row) (rowI t.row),b % 2=0) ↔ ∃q,q<4/\RotN (r.row.map (sh q)) t.row:=by
   constructor
   .rintro⟨x,hx,hz⟩;obtain⟨h8,hx⟩:=zea.mp hx;refine⟨x / 2,by lia,?_⟩;rw[show x=2*(x / 2) by lia,zkV,zdq]at hx;exact hx
   .rintro⟨q,hq,hz⟩;refine⟨2*q,zea.mpr ⟨by lia,?_⟩,by lia⟩;rw[zkV,zdq];exact hz
  have lik:=zlJ on1 on2;refine⟨_,rfl,_,rfl,CD es (mOf r.so),CD fs (mOf t.so),.ref a,.ref a',es,fs,r,t,rfl,rR.kt hv (KT.of s05),rR.kt hu (KT.of s05),on1,on2,hes,hfs,λpt H6 i q dd s6 e6 hF=>?_,λH6 s6 hN=>?_⟩
  .simp only[zbi,Bc,Bd];refine zfw (K:=K) (hb:=q.1 == false) ((s05.trans s6) _ _ q1) ((s05.trans s6) _ _ q1') (s6 _ _ e15) hfl ?_ (λσ H7 Q7 s7 h3 hQ=>?_) λH7 s7=>k H7 (s05.trans (s6.trans s7))
   .rw[beq_iff_eq,zh7 hF,lik,hev]
   .refine⟨_,h3,rfl,_,rfl,iteY (by simp) ?_⟩;exact⟨_,h3,pt,_,_,_,rfl,rfl,SqT.of (s7 _ _ e6),zal (j:=0) rfl,_,_,rfl,rfl,hQ⟩
  .simp only[zbi,Bc,Bd];refine zfw (K:=K) (hb:=false) ((s05.trans s6) _ _ q1) ((s05.trans s6) _ _ q1') (s6 _ _ e15) hfl ?_ (λσ H7 Q7 s7 h3 hQ=>?_) λH7 s7=>k H7 (s05.trans (s6.trans s7))
   .refine⟨λz=>(nomatch z),λz=>absurd ?_ (zjv hN)⟩;rw[lik,<- hev];exact z
   .exact⟨_,h3,rfl,_,rfl,iteN (by simp) hQ⟩
noncomputable def ownN (r:Rnd):Nat:=((AJ 4).filter λq:Nat=>sameB (fur ((2*q:Nat):Int) (rowI r.row)) (rowI r.row)).length
theorem zkm{r:Rnd}(h:r.row=[]):ownN r=4:=by
 unfold ownN
 have:∀q∈AJ 4,sameB (fur ((2*q:Nat):Int) (rowI r.row)) (rowI r.row)=true:=λq _=>by rw[zcB,h];exact⟨rfl,.inl rfl⟩
 rw[List.filter_eq_self.mpr this];rfl
theorem znG{C:Cell->Bool}{es:List Edge}{r:Rnd}{k:Nat}(h:Can C es r)(hn:r.row≠[])(hk:Tms (cyT (rowI r.row)) k):ownN r=min 4 k :=
 zkn h.stp (by rw[zbh];exact List.length_pos_iff.mpr hn) (h.turn8 hn) hk _ λq _=>zcB
theorem ziH{K:W.Frag}{D:Ends}{H:Hp}{x0 x1:Option V}{pc b1:Addr}{m n4:Nat}{us:List V}{R:List Rnd}{C:Cell -> Bool}{es:List Edge}{r:Rnd}
  (e:H pc=some (.lst us)) (hv:VR us R rR H) (hR:∀r∈R,∃es,Can C es r/\es.length<=480) (hu:us.length<=20) (hr:rR r (.ref b1) H) (hc:Can C es r) (hes:es.length<=480) (hm:m<us.length) (h4:n4=ownN r)
  (k:∀H',Same H H'->D.nx [x0,x1,some (.ref pc),some (.int (m:Int)),some (.ref b1),some (.int (n4:Int))] H') :
  tIfS (tOr (tTest (tOp rNe (tCall spOwn [] E0 (tCons (tVar 4) tNil)) (tVar 5))) (tNot (tB (tCB (λxs H_1 Q=>∃p bs,xs=[V.ref p]/\SqL K H_1 p (List.map V.bl bs)/\Q (V.bl (bs.all id)) H_1) (tCons (zgJ (iList K (tSl (rSlL K) (tVar 2) zdA (tPart (tOp (rI0 λi j=>V.int (i+j)) (tVar 3) (tC (V.int 1)))))) [none,some 4] (gName 0) (λx H Q=>Q true H) (tCall zfU [] E0 (tCons (tVar 1) (tCons (tVar 0) tNil)))) tNil))))) (tRet (tC (V.bl false))) tNext D [x0,x1,some (.ref pc),some (.int (m:Int)),some (.ref b1),some (.int (n4:Int))] H:=by
 refine⟨_,rfl,.ref b1,r,C,es,rfl,hr,hc,hes,λH1 s1=>?_⟩;refine⟨_,rfl,rfl,_,rfl,iteN ?_ ?_⟩
 .have:V.int ((ownN r:Nat):Int)=V.int (n4:Int):=by rw[h4]
  show (!decide (V.int ((ownN r:Nat):Int)=V.int (n4:Int)))=false;rw[decide_eq_true this];rfl
 refine⟨_,rfl,_,rfl,_,_,rfl,rfl,_,rfl,pc,_,rfl,SqL.of (s1 _ _ e),λp2 hp2=>?_⟩
 have hcut:cutV us none (some ((m:Int)+1))=us.take (m+1):=by rw[show (m:Int)+1=((m+1:Nat):Int) by lia];exact zdw us (by lia)
 have s2:=Same.up (o:=.lst (us.take (m+1))) hp2;have e2:upd H1 p2 (.lst (us.take (m+1))) p2=some (.lst (us.take (m+1))):=zaa;rw[hcut];generalize upd H1 p2 (.lst (us.take (m+1)))=H2 at s2 e2 ⊢;have s02:=s1.trans s2;refine⟨p2,rfl,⟨_,SqL.of e2⟩,λg hg=>?_⟩;refine zay (K:=K) (a:=p2) (xs:=us.take (m+1)) (λj σ H3=>∃o,σ=[o,some (.ref b1)]/\Same H2 H3/\H3 g=some (.lst ((Aj j true).map V.bl))) ⟨_,rfl,Same.up hg,zaa⟩ (λj σ H3 _ ⟨_,_,s3,_⟩=>SqL.of (s3 _ _ e2)) ?_ ?_
 .rintro j v σ H3 hj ⟨o,rfl,s3,e3⟩
  have hj2:us[j]?=some v:=by
   rw[Cz]at hj
   by_cases z:j<m+1
   .rw[if_pos z]at hj;exact hj
   .rw[if_neg z]at hj;cases hj
  obtain⟨t,ht,hvt⟩:=hv.at hj2;have hjl:j<us.length:=(Ad.mp hj2).1;obtain⟨fs,hct,hfs⟩:=hR t (Ah ht);have s03:=s02.trans s3;refine gN ?_
  refine⟨_,rfl,_,rfl,.ref b1,v,r,t,C,C,es,fs,rfl,rR.kt hr (KT.of s03),rR.kt hvt (KT.of s03),hc,hct,hes,hfs,λH4 s4=>?_⟩;refine⟨_,s4 _ _ e3,zaj (by simp;lia),_,rfl,zao hg (s3.trans s4),?_⟩;rw[zaa,List.replicate_succ',Ax];rfl
 .rintro σ H3 ⟨o,rfl,s3,e3⟩;refine⟨g,Aj (us.take (m+1)).length true,rfl,SqL.of e3,_,rfl,?_⟩;rw[show (Aj (us.take (m+1)).length true).all id=true by simp];refine iteF ?_
  exact k H3 (s02.trans s3)
noncomputable def spLaw(K:W.Frag):Sp:=λvs H Q _=>∃(a:Addr) (ns:List Int),vs=[.ref a]/\SqL K H a (ns.map V.int)/\ns.length<=63/\∀H',Q (.bl true) H'
theorem znJ (T:Txt P w K mg) (g__law_cell_at:Fn P w K mg base 1 "_law_cell_at" ["_law_script", "_law_k"] (zit K)) (g__law_picture:Fn P w K mg base 3 "_law_picture" ["_law_pen", "_law_most"] (zgK K)) (g_rounds:Fn P w K mg base 7 "rounds" ["picture"] (zis K))
  (g__law_times:Fn P w K mg base 1 "_law_times" ["_law_some"] (spTms K)) (g__law_gone_round:Fn P w K mg base 3 "_law_gone_round" ["_law_row"] (spGr K)) (g__law_own:Fn P w K mg base 7 "_law_own" ["_law_one"] spOwn) (g__law_right:Fn P w K mg base 11 "_law_right" ["_law_one","_law_other"] zfU)
  (d:Df K mg "law" s_law ["_law_script"]):FnOk P w K mg base CX0 12 d.f d.fd ["_law_script"] (spLaw K):=by
 refine d.F.ok zeq (λvs H Q E h=>?_) (λcdv A outer s H vs Q E hr h=>?_)
 .obtain⟨a,ns,rfl,_⟩:=h;rfl
 .obtain⟨a,ns,rfl,hS,hlen,k⟩:=h;have hu64:=hr.units;have nb0:(["_law_other","_law_one"]:List Str).Nodup:=by decide +kernel
  refine⟨_,(zac (zbR A8 rfl (zbd (by rfl) T.nrange (zah (zap (zla rfl) (by rfl) T.nmax (by rfl) (pa_C zae (zah (zap (zhi rfl) (by rfl) T.nmin (by rfl) (pa_C zae (zah (zap zak (by rfl) T.nlen (by rfl) (pa_N (pv 0) zab)) zab))) zab))) zab)) (nG 1 zeq.nd)
   (zac (sE 2 zeq.nd (zaI zcz (pC g_rounds hr (zah (pC g__law_picture hr (zah (zbu (zah (pC g__law_cell_at hr (pa_N (pv 0) (pa_N (pv 1) zab))) (pa_C zae zab))) (zah (pe_ix zaD (zbu (pa_C zae (pa_C zae zab))) (zds zhj (by rfl) T.nint (by rfl) (zah (zaK op_gt (pv 1) zae (zan _)) zab)) (λ_ _=>rfl)) zab))) zab)) za4 (za3 zae)))
   (zaf (zbR A8 rfl (zmN (by rfl) T.nenumerate (pa_N (pv 2) zab)) (zbe (by rfl) (zag (nG 3 zeq.nd) (zag (zhP (i:=4) zeq.nd (by rfl) (Or.inr rfl)) zas)))
   (zac (sE 5 zeq.nd zae)
   (zac (ps_if (zar (zgY hu64) (pe_ix zaV (pv 4) zae (λ_ _=>rfl)) (zax zab) (zan _))
   (zaf (sE 5 zeq.nd (zap (zhi rfl) (by rfl) T.nmin (by rfl) (pa_C zae (zah (pC g__law_times hr (zah (pC g__law_gone_round hr (zah (pe_ix zaV (pv 4) zae (λ_ _=>rfl)) zab)) zab)) zab)))))
   zau)
   (zaf (ps_if (pw_or (zar op_ne (pC g__law_own hr (pa_N (pv 4) zab)) (pv 5) (zan _)) (zmf (zez (zdR (zap (zlb rfl) (by rfl) T.nall (by rfl) (zah (zaM (osc:=zad s_law) (N:=N_law) (N':=["_law_other","_law_one"]) (sel:=[none,some 4]) bO (zaP (zaI zcz (pv 2) za4 (za3 (pe_op zaQ (pv 3) zae)))) (λ_ _ _ _ _=>(nG 0 nb0)) (λ_ _ _ _ _=>za8) (λ_ _ _ _ _=>(pC g__law_right hr (pa_N (pv 1) (pa_N (pv 0) zab))))) zab)))))).pt
   (zaf (zai pe_bl))
   zau))))))))
   (zaf (zai pe_bl))),?_⟩
  refine⟨_,rfl,a,_,rfl,.inl hS,_,_,rfl,_,_,rfl,_,rfl,?_,?_,?_⟩
  .split <;> lia
  .split
   .split <;> lia
   .decide
  have hσ:L2.start N_law [.ref a]=[some (.ref a),none,none,none,none,none]:=rfl;rw[hσ];refine zaS (lo:=0) (λi σ H5=>∃o1 o2 o3 o4 o5,σ=[some (.ref a),o1,o2,o3,o4,o5]/\Same H H5) ⟨_,_,_,_,_,rfl,Same.refl _⟩ ?_ ?_
  .rintro i σ H5 hi ⟨o1,o2,o3,o4,o5,rfl,s5⟩;simp only[zbi,Bc,Bd];refine⟨_,rfl,_,rfl,a,ns,i,(by rw[show ((0:Int)+(i:Int))=(i:Int) by lia];rfl),s5.seq hS,λc=>⟨two,λp hp=>?_⟩⟩;have hp0:H p=none:=s5.free hp;have sp:Same H (upd H5 p (.lst [.int c,.int 0])):=s5.trans (Same.up hp);have pen0:HasB (upd H5 p (.lst [.int c,.int 0])) p 200000:=⟨c,0,zaa,by decide,by decide⟩;generalize upd H5 p (.lst [.int c,.int 0])=H6 at sp pen0;refine⟨two,λl hl=>?_⟩;have s7:=Same.up (o:=.lst [.int 60,.int 30]) hl;have e7:upd H6 l (.lst [.int 60,.int 30]) l=some (.lst [.int 60,.int 30]):=zaa;generalize upd H6 l (.lst [.int 60,.int 30])=H7 at s7 e7 ⊢;refine⟨_,rfl,_,_,rfl,rfl,.inr ⟨_,rfl,?_⟩⟩
   obtain⟨v,hv,m,rfl,hm1,hm⟩:∃v,atI [V.int 60,V.int 30] (if decide ((0:Int)<0+(i:Int))=true then 1 else 0)=some v/\∃m:Nat,v=.int m/\1<=m/\m<=60:=by
    by_cases hz:decide ((0:Int)<0+(i:Int))=true
    .rw[if_pos hz];exact⟨_,rfl,30,rfl,by decide,by decide⟩
    .rw[if_neg hz];exact⟨_,rfl,60,rfl,by decide,by decide⟩
   refine⟨l,_,_,_,rfl,rfl,SqL.of e7,hv,p,1000,m,rfl,(pen0.same s7).le (by lia),hm1,by lia,λap cs H8 hap b8 p8 hLR hord hbox hcl hcB=>?_⟩;have s8:Same H H8:=λz o h=>b8 z o (zaq h hp0) ((sp.trans s7) z o h)
   refine⟨ap,cs,rfl,(let ⟨vs,h1,h2⟩:=hLR;⟨vs,SqL.of h1,h2⟩),hord,by lia,λpr H9 rv R R0 hpr s9 e9 hvr hpm _ hwh=>?_⟩;have s09:=s8.trans s9;obtain⟨ESS,hcans⟩:=hwh.cans hpm
   have hCan:∀r∈R,∃es,Can (isIn cs) es r/\es.length<=480:=λr hr'=>by obtain⟨i,hi,rfl⟩:=AQ hr';obtain⟨es,_,hcan⟩:=hcans.so (Aa hi);exact⟨es,hcan,by have:=hcan.cl.1.short;lia⟩
   refine⟨_,rfl,pr,_,rfl,SqL.of e9,λpc hpc=>?_⟩;have s10:=Same.up (o:=.lst (cutV rv none (some 20))) hpc;have e10:upd H9 pc (.lst (cutV rv none (some 20))) pc=some (.lst (cutV rv none (some 20))):=zaa
   have hcut:cutV rv none (some 20)=rv.take 20:=by
    rcases AC rv.length 20 with z |z
    .rw[BH (by lia)];unfold cutV;rw[show (20:Int)=((20:Nat):Int) from rfl,HT.sIx_nat,Nat.min_eq_right (by lia)];show List.take (rv.length-0) (List.drop 0 rv)=rv;simp
    .exact zdw rv (j:=20) z
   generalize upd H9 pc (.lst (cutV rv none (some 20)))=H10 at s10 e10 ⊢;rw[hcut]at e10
   have hv10:VR (rv.take 20) (R.take 20) rR H10:=by
    refine⟨by rw[Av,Av,hvr.1],λi x v h1 h2=>?_⟩;rw[Cz]at h1 h2
    by_cases z:i<20
    .rw[if_pos z]at h1 h2;exact rR.kt (hvr.2 i x v h1 h2) (KT.of s10)
    .rw[if_neg z]at h1;cases h1
   have hCan':∀r∈R.take 20,∃es,Can (isIn cs) es r/\es.length<=480:=λr hr'=>hCan r (Do hr')
   have hl20:(rv.take 20).length<=20:=by rw[Av];lia
   generalize R.take 20=R' at hv10 hCan';generalize rv.take 20=us at e10 hv10 hl20;have s010:=s09.trans s10;simp only[zbi,Bc,Bd];refine⟨_,rfl,pc,rfl,⟨_,SqL.of e10⟩,?_⟩;refine zlQ (K:=K) (a:=pc) (xs:=us) (λm σ H3=>∃o3 o4 o5,σ=[some (.ref a),some (.int (0+(i:Int))),some (.ref pc),o3,o4,o5]/\Same H10 H3) ⟨_,_,_,rfl,Same.refl _⟩ (λm σ H3 _ ⟨_,_,_,_,s3⟩=>SqL.of (s3 _ _ e10)) ?_ ?_
   .rintro m y σ H3 t hy ⟨o3,o4,o5,rfl,s3⟩ ht;obtain⟨r,hrm,hry⟩:=hv10.at hy;obtain⟨es,hcan,hes⟩:=hCan' r (Ah hrm);have s4:=Same.up (o:=.tup [.int m,y]) ht;have e4:upd H3 t (.tup [.int m,y]) t=some (.tup [.int m,y]):=zaa;generalize upd H3 t (.tup [.int m,y])=H4 at s4 e4 ⊢;have s104:=s3.trans s4;obtain⟨b1,c1,rfl,q1,q2⟩:=rR.kt hry (KT.of s104);refine⟨t,_,rfl,SqT.of e4,rfl,_,_,rfl,_,_,rfl,rfl,?_⟩;simp only[zbi,Bc,Bd];have hml:m<us.length:=(Ad.mp hy).1;rw[zfv]at q2;refine⟨_,rfl,b1,_,_,_,rfl,rfl,SqT.of q1,zal (j:=3) rfl,(by show 0<=sizeLine;decide),λt5 ht5=>?_⟩;have s5:=Same.up (o:=.tup []) ht5;have e5:upd H4 t5 (.tup []) t5=some (.tup []):=zaa;generalize upd H4 t5 (.tup [])=H5' at s5 e5 ⊢;refine⟨tI (rowI r.row),tI [],.tup (SqT.of (s5 _ _ q2)) (zaL _),.tup (SqT.of e5) .nil,zav _,zav _,_,rfl,?_⟩;rw[zcv];have s105:=s104.trans s5
    by_cases hrow:r.row=[]
    .refine iteN (by rw[decide_eq_true (by rw[hrow];rfl)];rfl) ?_
     refine ziH (K:=K) (n4:=4) (s105 _ _ e10) (hv10.mono λx v h=>rR.kt h (KT.of s105)) hCan' hl20 (rR.kt hry (KT.of s105)) hcan hes hml (zkm hrow).symm λH6 s6=>?_
     exact⟨_,_,_,rfl,s105.trans s6⟩
    .refine iteY (by rw[decide_eq_false (show ¬ rowI r.row=[] from λz=>hrow (BX.mp z))];rfl) ?_
     have hl1:=hcan.rowlen;refine⟨_,rfl,b1,_,_,_,rfl,rfl,SqT.of (s5 _ _ q1),zal (j:=3) rfl,c1,rowI r.row,rfl,s5 _ _ q2,by rw[zbh];lia,λp6 H6 s6 e6=>?_⟩;have cl:(cyT (rowI r.row)).length=r.row.length:=by rw[show (cyT (rowI r.row)).length=(rowI r.row).length from zaG _ _,zbh]
     refine⟨p6,cyT (rowI r.row),rfl,e6,by rw[cl];exact List.length_pos_iff.mpr hrow,by lia,λkk H7 s7 hkk=>?_⟩;refine⟨_,_,rfl,?_⟩;simp only[zbi,Bc,Bd];have hmin:(if (kk:Int)<4 then (kk:Int) else 4)=((min 4 kk:Nat):Int):=by split <;> lia
     rw[hmin];have s107:=s105.trans (s6.trans s7);refine ziH (K:=K) (n4:=min 4 kk) (s107 _ _ e10) (hv10.mono λx v h=>rR.kt h (KT.of s107)) hCan' hl20 (rR.kt hry (KT.of s107)) hcan hes hml (znG hcan hrow hkk).symm λH8 s8=>?_
     exact⟨_,_,_,rfl,s107.trans s8⟩
   .rintro σ H3 ⟨o3,o4,o5,rfl,s3⟩;exact⟨_,_,_,_,_,rfl,s010.trans s3⟩
  .rintro σ H5 ⟨o1,o2,o3,o4,o5,rfl,s5⟩;exact k H5
end
theorem all_mk {l:W.OpenLaw}{w:A1}{K:W.Frag}{h:Heap}{mg:Str -> Option Ab}{fa:Addr}(X:K.In h) (G:h.Ns AG mg) (hfa:mg "law" = some (.ref fa)){fx60:Addr}{od60 an60:Option Addr}{sl60:Array (Option Ab)}{oc60 kV60 dc60 pm60 ct60 cd60:Ab}
  (h0:DA K "turn_between" zb0)
  (h1:DA K "turns_of" zcS)
  (h2:DA K "cell_order" zcG)
  (h3:DA K "ask_picture" zco)
  (h4:DA K "gone" zj7)
  (h5:DA K "cell_table" zbY)
  (h6:DA K "gap_beside" zcE)
  (h7:DA K "all_edges" zbO)
  (h8:DA K "straight_step" zbM)
  (h9:DA K "slant_step" zcD)
  (h10:DA K "step_behind" zcg)
  (h11:DA K "is_slant" zdE)
  (h12:DA K "edge_behind" zcm)
  (h13:DA K "walk_from" zc3)
  (h14:DA K "lefts_and_slants" zaH)
  (h15:DA K "lefts_less_slants" zbk)
  (h16:DA K "sort_of" zey)
  (h17:DA K "begin_of" zcT)
  (h18:DA K "round_of" zbI)
  (h19:DA K "round_order" zch)
  (h20:DA K "rounds_along" zb2)
  (h21:DA K "rounds" zf2)
  (h22:DA K "begin_edge" zcH)
  (h23:DA K "way_for" zev)
  (h24:DA K "deeds_along" zcn)
  (h25:DA K "walk_by" zex)
  (h26:DA K "walk_along" zcC)
  (h27:DA K "seen_between" zb1)
  (h28:DA K "gainsaid_at" zcl)
  (h29:DA K "comes_back" zcF)
  (h30:DA K "is_closed" zc4)
  (h31:DA K "walk_of" zew)
  (h32:DA K "in_order" zdF)
  (h33:DA K "moved" zhK)
  (h34:DA K "moved_all" zci)
  (h35:DA K "quarter_edge" zb4)
  (h36:DA K "quarter_step" zb3)
  (h37:DA K "turned" zd7)
  (h38:DA K "turned_all" zbX)
  (h39:DA K "mirror_edge" zck)
  (h40:DA K "mirror_step" zcj)
  (h41:DA K "mirrored" zcb)
  (h42:DA K "mirrored_all" zbz)
  (h43:DA K "become" zf3)
  (h44:DA K "shift_between" zbN)
  (h45:DA K "alike" zhL)
  (h46:DA K "alike_all" zc5)
  (h47:DA K "least_beginning" zaO)
  (h48:DA K "name" zj6)
  (h49:DA K "_law_cell_at" zb6)
  (h50:DA K "_law_take" zc6)
  (h51:DA K "_law_far" zdG)
  (h52:DA K "_law_is_there" zbQ)
  (h53:DA K "_law_picture" zb5)
  (h54:DA K "_law_gone_round" zbx)
  (h55:DA K "_law_times" zcI)
  (h56:DA K "_law_same" zbP)
  (h57:DA K "_law_further" zaY)
  (h58:DA K "_law_own" zcU)
  (h59:DA K "_law_right" zbZ)
  (a60:CS K AG "law" = some (some (.ref fx60))) (l60:K.lookup fx60=some ⟨oc60,od60,.func (Dj "law" "law" (za9 s_law) (za0 s_law) (zad s_law) .none kV60 dc60 pm60 an60 cd60 ct60),sl60⟩) (c60:W.codeIn K cd60 "law" = true) (k60:W.keepIn K (.ref fx60)=true)
  {M m0 m1 m2 m3 m4 m5 m6 m7:Addr}{odM:Option Addr}{nM:Nat}{slM:Array (Option Ab)}
  (aM:CS K AG "MOVES" = some (some (.ref M))) (lM:K.lookup M=some ⟨.type "tuple",odM,.seq #[.ref m0,.ref m1,.ref m2,.ref m3,.ref m4,.ref m5,.ref m6,.ref m7] nM,slM⟩)
  {odm0:Option Addr}{nm0:Nat}{slm0:Array (Option Ab)}{tm0 um0:Tok} (x0:K.lookup m0=some ⟨.type "tuple",odm0,.seq #[.int (1) tm0,.int (0) um0] nm0,slm0⟩)
  {odm1:Option Addr}{nm1:Nat}{slm1:Array (Option Ab)}{tm1 um1:Tok} (x1:K.lookup m1=some ⟨.type "tuple",odm1,.seq #[.int (1) tm1,.int (1) um1] nm1,slm1⟩)
  {odm2:Option Addr}{nm2:Nat}{slm2:Array (Option Ab)}{tm2 um2:Tok} (x2:K.lookup m2=some ⟨.type "tuple",odm2,.seq #[.int (0) tm2,.int (1) um2] nm2,slm2⟩)
  {odm3:Option Addr}{nm3:Nat}{slm3:Array (Option Ab)}{tm3 um3:Tok} (x3:K.lookup m3=some ⟨.type "tuple",odm3,.seq #[.int (-1) tm3,.int (1) um3] nm3,slm3⟩)
  {odm4:Option Addr}{nm4:Nat}{slm4:Array (Option Ab)}{tm4 um4:Tok} (x4:K.lookup m4=some ⟨.type "tuple",odm4,.seq #[.int (-1) tm4,.int (0) um4] nm4,slm4⟩)
  {odm5:Option Addr}{nm5:Nat}{slm5:Array (Option Ab)}{tm5 um5:Tok} (x5:K.lookup m5=some ⟨.type "tuple",odm5,.seq #[.int (-1) tm5,.int (-1) um5] nm5,slm5⟩)
  {odm6:Option Addr}{nm6:Nat}{slm6:Array (Option Ab)}{tm6 um6:Tok} (x6:K.lookup m6=some ⟨.type "tuple",odm6,.seq #[.int (0) tm6,.int (-1) um6] nm6,slm6⟩)
  {odm7:Option Addr}{nm7:Nat}{slm7:Array (Option Ab)}{tm7 um7:Tok} (x7:K.lookup m7=some ⟨.type "tuple",odm7,.seq #[.int (1) tm7,.int (-1) um7] nm7,slm7⟩)
  {B:Addr}{t1 t2 t3 t4:Tok}{nB:Nat} (aB:CS K AG "BEGIN_WAYS" = some (some (.ref B))) (lB:K.lookup B=some ⟨.type "dict",none,.dict #[⟨BG w.params "rim",.str "rim" t1,.int 0 t2⟩,⟨BG w.params "hole",.str "hole" t3,.int 2 t4⟩] nB,#[]⟩)
  {B2:Addr}{u1 u2 u3 u4:Tok}{nB2:Nat} (aB2:CS K AG "MORE_LEFTS" = some (some (.ref B2))) (lB2:K.lookup B2=some ⟨.type "dict",none,.dict #[⟨BG w.params "rim",.str "rim" u1,.int 4 u2⟩,⟨BG w.params "hole",.str "hole" u3,.int (-4) u4⟩] nB2,#[]⟩)
  {MTURNS TURNS0 TURNS1 TURNS2 TURNS3 TURNS4 TURNS5 TURNS6 TURNS7:Addr}{odTURNS:Option Addr}{nTURNS:Nat}{slTURNS:Array (Option Ab)}
  (aTURNS:CS K AG "TURNS" = some (some (.ref MTURNS))) (lTURNS:K.lookup MTURNS=some ⟨.type "tuple",odTURNS,.seq #[.ref TURNS0,.ref TURNS1,.ref TURNS2,.ref TURNS3,.ref TURNS4,.ref TURNS5,.ref TURNS6,.ref TURNS7] nTURNS,slTURNS⟩)
  {odTURNS0:Option Addr}{nTURNS0:Nat}{slTURNS0:Array (Option Ab)}{uTURNS0:Tok} (xTURNS0:K.lookup TURNS0=some ⟨.type "tuple",odTURNS0,.seq #[.bool false,.int (0) uTURNS0] nTURNS0,slTURNS0⟩)
  {odTURNS1:Option Addr}{nTURNS1:Nat}{slTURNS1:Array (Option Ab)}{uTURNS1:Tok} (xTURNS1:K.lookup TURNS1=some ⟨.type "tuple",odTURNS1,.seq #[.bool false,.int (1) uTURNS1] nTURNS1,slTURNS1⟩)
  {odTURNS2:Option Addr}{nTURNS2:Nat}{slTURNS2:Array (Option Ab)}{uTURNS2:Tok} (xTURNS2:K.lookup TURNS2=some ⟨.type "tuple",odTURNS2,.seq #[.bool false,.int (2) uTURNS2] nTURNS2,slTURNS2⟩)
  {odTURNS3:Option Addr}{nTURNS3:Nat}{slTURNS3:Array (Option Ab)}{uTURNS3:Tok} (xTURNS3:K.lookup TURNS3=some ⟨.type "tuple",odTURNS3,.seq #[.bool false,.int (3) uTURNS3] nTURNS3,slTURNS3⟩)
  {odTURNS4:Option Addr}{nTURNS4:Nat}{slTURNS4:Array (Option Ab)}{uTURNS4:Tok} (xTURNS4:K.lookup TURNS4=some ⟨.type "tuple",odTURNS4,.seq #[.bool true,.int (0) uTURNS4] nTURNS4,slTURNS4⟩)
  {odTURNS5:Option Addr}{nTURNS5:Nat}{slTURNS5:Array (Option Ab)}{uTURNS5:Tok} (xTURNS5:K.lookup TURNS5=some ⟨.type "tuple",odTURNS5,.seq #[.bool true,.int (1) uTURNS5] nTURNS5,slTURNS5⟩)
  {odTURNS6:Option Addr}{nTURNS6:Nat}{slTURNS6:Array (Option Ab)}{uTURNS6:Tok} (xTURNS6:K.lookup TURNS6=some ⟨.type "tuple",odTURNS6,.seq #[.bool true,.int (2) uTURNS6] nTURNS6,slTURNS6⟩)
  {odTURNS7:Option Addr}{nTURNS7:Nat}{slTURNS7:Array (Option Ab)}{uTURNS7:Tok} (xTURNS7:K.lookup TURNS7=some ⟨.type "tuple",odTURNS7,.seq #[.bool true,.int (3) uTURNS7] nTURNS7,slTURNS7⟩)
  (z_range:CS K AG "range" = some none)
  (z_len:CS K AG "len" = some none)
  (z_min:CS K AG "min" = some none)
  (z_max:CS K AG "max" = some none)
  (z_sorted:CS K AG "sorted" = some none)
  (z_tuple:CS K AG "tuple" = some none)
  (z_int:CS K AG "int" = some none)
  (z_bool:CS K AG "bool" = some none)
  (z_abs:CS K AG "abs" = some none)
  (z_all:CS K AG "all" = some none)
  (z_isinstance:CS K AG "isinstance" = some none)
  (z_list:CS K AG "list" = some none)
  (z_zip:CS K AG "zip" = some none)
  (z_enumerate:CS K AG "enumerate" = some none)
  (z_any:CS K AG "any" = some none) :
  ∃fd:Br,(∀(s:Ae) (v:Ab),BindsTo s fd ⟨[v],[]⟩ [("_law_script",v)])/\∀base:Heap,K.In base->base.Ns AG mg->FnOk l.prog w K mg base CX0 12 fa fd ["_law_script"] (spLaw K):=by
 have e:=hfa.symm.trans (W.mg_of X G a60)
 cases e
 have moves:∃M,mg "MOVES" = some (.ref M)/\∀H,∃ms:List Addr,SqT K H M (ms.map V.ref)/\ms.length=8/\∀(i:Nat) a,ms[i]?=some a->SqT K H a [.int (mv i).1,.int (mv i).2]:=by
  refine⟨M,W.mg_of X G aM,λH=>⟨[m0,m1,m2,m3,m4,m5,m6,m7],.inr ⟨_,_,_,lM,rfl,rfl,(by show 8<=sizeLine;decide),.cons rfl (.cons rfl (.cons rfl (.cons rfl (.cons rfl (.cons rfl (.cons rfl (.cons rfl .nil)))))))⟩,rfl,λi a e=>?_⟩⟩
  match i,e with
  | 0,e=>cases e;exact .inr ⟨_,_,_,x0,rfl,rfl,(by show 2<=sizeLine;decide),.cons ⟨_,rfl⟩ (.cons ⟨_,rfl⟩ .nil)⟩
  | 1,e=>cases e;exact .inr ⟨_,_,_,x1,rfl,rfl,(by show 2<=sizeLine;decide),.cons ⟨_,rfl⟩ (.cons ⟨_,rfl⟩ .nil)⟩
  | 2,e=>cases e;exact .inr ⟨_,_,_,x2,rfl,rfl,(by show 2<=sizeLine;decide),.cons ⟨_,rfl⟩ (.cons ⟨_,rfl⟩ .nil)⟩
  | 3,e=>cases e;exact .inr ⟨_,_,_,x3,rfl,rfl,(by show 2<=sizeLine;decide),.cons ⟨_,rfl⟩ (.cons ⟨_,rfl⟩ .nil)⟩
  | 4,e=>cases e;exact .inr ⟨_,_,_,x4,rfl,rfl,(by show 2<=sizeLine;decide),.cons ⟨_,rfl⟩ (.cons ⟨_,rfl⟩ .nil)⟩
  | 5,e=>cases e;exact .inr ⟨_,_,_,x5,rfl,rfl,(by show 2<=sizeLine;decide),.cons ⟨_,rfl⟩ (.cons ⟨_,rfl⟩ .nil)⟩
  | 6,e=>cases e;exact .inr ⟨_,_,_,x6,rfl,rfl,(by show 2<=sizeLine;decide),.cons ⟨_,rfl⟩ (.cons ⟨_,rfl⟩ .nil)⟩
  | 7,e=>cases e;exact .inr ⟨_,_,_,x7,rfl,rfl,(by show 2<=sizeLine;decide),.cons ⟨_,rfl⟩ (.cons ⟨_,rfl⟩ .nil)⟩
  |i+8,e=>exact absurd (Ad.mp e).1 (by simp)
 have ways:Ways l.prog w K mg:=⟨⟨B,t1,t2,t3,t4,nB,W.mg_of X G aB,lB⟩⟩
 have htTURNS:∃M,mg "TURNS" = some (.ref M)/\∀H,∃ms:List Addr,SqT K H M (ms.map V.ref)/\ms.length=8/\∀(i:Nat) a,ms[i]?=some a->∃q,([(false,0),(false,1),(false,2),(false,3),(true,0),(true,1),(true,2),(true,3)]:List (Bool×Int))[i]?=some q/\SqT K H a [.bl q.1,.int q.2]:=by
  refine⟨MTURNS,W.mg_of X G aTURNS,λH=>⟨[TURNS0,TURNS1,TURNS2,TURNS3,TURNS4,TURNS5,TURNS6,TURNS7],.inr ⟨_,_,_,lTURNS,rfl,rfl,(by show 8<=sizeLine;decide),(.cons rfl (.cons rfl (.cons rfl (.cons rfl (.cons rfl (.cons rfl (.cons rfl (.cons rfl .nil))))))))⟩,rfl,λi a e=>?_⟩⟩
  match i,e with
  | 0,e=>cases e;exact⟨_,rfl,.inr ⟨_,_,_,xTURNS0,rfl,rfl,(by show 2<=sizeLine;decide),.cons rfl (.cons ⟨_,rfl⟩ .nil)⟩⟩
  | 1,e=>cases e;exact⟨_,rfl,.inr ⟨_,_,_,xTURNS1,rfl,rfl,(by show 2<=sizeLine;decide),.cons rfl (.cons ⟨_,rfl⟩ .nil)⟩⟩
  | 2,e=>cases e;exact⟨_,rfl,.inr ⟨_,_,_,xTURNS2,rfl,rfl,(by show 2<=sizeLine;decide),.cons rfl (.cons ⟨_,rfl⟩ .nil)⟩⟩
  | 3,e=>cases e;exact⟨_,rfl,.inr ⟨_,_,_,xTURNS3,rfl,rfl,(by show 2<=sizeLine;decide),.cons rfl (.cons ⟨_,rfl⟩ .nil)⟩⟩
  | 4,e=>cases e;exact⟨_,rfl,.inr ⟨_,_,_,xTURNS4,rfl,rfl,(by show 2<=sizeLine;decide),.cons rfl (.cons ⟨_,rfl⟩ .nil)⟩⟩
  | 5,e=>cases e;exact⟨_,rfl,.inr ⟨_,_,_,xTURNS5,rfl,rfl,(by show 2<=sizeLine;decide),.cons rfl (.cons ⟨_,rfl⟩ .nil)⟩⟩
  | 6,e=>cases e;exact⟨_,rfl,.inr ⟨_,_,_,xTURNS6,rfl,rfl,(by show 2<=sizeLine;decide),.cons rfl (.cons ⟨_,rfl⟩ .nil)⟩⟩
  | 7,e=>cases e;exact⟨_,rfl,.inr ⟨_,_,_,xTURNS7,rfl,rfl,(by show 2<=sizeLine;decide),.cons rfl (.cons ⟨_,rfl⟩ .nil)⟩⟩
  |i+8,e=>exact absurd (Ad.mp e).1 (by simp)
 have T:Txt l.prog w K mg:={ moves:=moves,ways:=ways,more:=⟨⟨B2,u1,u2,u3,u4,nB2,W.mg_of X G aB2,lB2⟩⟩,tTURNS:=htTURNS,nrange:=BF X G z_range,nlen:=BF X G z_len,nmin:=BF X G z_min,nmax:=BF X G z_max,nsorted:=BF X G z_sorted,ntuple:=BF X G z_tuple,nint:=BF X G z_int,nbool:=BF X G z_bool,nabs:=BF X G z_abs,nall:=BF X G z_all,nisinstance:=BF X G z_isinstance,nlist:=BF X G z_list,nzip:=BF X G z_zip,nenumerate:=BF X G z_enumerate,nany:=BF X G z_any };obtain⟨d'0⟩:=h0.d2 X G (p0:="step") (p1:="other");obtain⟨d'1⟩:=h1.d1 X G (p0:="row");obtain⟨d'2⟩:=h2.d1 X G (p0:="cell");obtain⟨d'3⟩:=h3.d1 X G (p0:="picture");obtain⟨d'4⟩:=h4.d3 X G (p0:="x") (p1:="y") (p2:="step");obtain⟨d'5⟩:=h5.d1 X G (p0:="picture");obtain⟨d'6⟩:=h6.d1 X G (p0:="edge");obtain⟨d'7⟩:=h7.d1 X G (p0:="picture");obtain⟨d'8⟩:=h8.d1 X G (p0:="way");obtain⟨d'9⟩:=h9.d1 X G (p0:="way");obtain⟨d'a⟩:=h10.d2 X G (p0:="table") (p1:="edge");obtain⟨d'b⟩:=h11.d1 X G (p0:="step");obtain⟨d'c⟩:=h12.d2 X G (p0:="edge") (p1:="step");obtain⟨d'd⟩:=h13.d2 X G (p0:="table") (p1:="begin");obtain⟨d'e⟩:=h14.d1 X G (p0:="walk");obtain⟨d'f⟩:=h15.d1 X G (p0:="walk");obtain⟨d'10⟩:=h16.d1 X G (p0:="walk");obtain⟨d'11⟩:=h17.d2 X G (p0:="walk") (p1:="sort");obtain⟨d'12⟩:=h18.d1 X G (p0:="walk");obtain⟨d'13⟩:=h19.d1 X G (p0:="one");obtain⟨d'14⟩:=h20.d2 X G (p0:="table") (p1:="edges");obtain⟨d'15⟩:=h21.d1 X G (p0:="picture");obtain⟨d'16⟩:=h22.d1 X G (p0:="one");obtain⟨d'17⟩:=h23.d1 X G (p0:="step");obtain⟨d'18⟩:=h24.d2 X G (p0:="begin_way") (p1:="row");obtain⟨d'19⟩:=h25.d2 X G (p0:="begin") (p1:="deeds");obtain⟨d'1a⟩:=h26.d2 X G (p0:="begin") (p1:="row");obtain⟨d'1b⟩:=h27.d2 X G (p0:="edge") (p1:="step");obtain⟨d'1c⟩:=h28.d1 X G (p0:="walk");obtain⟨d'1d⟩:=h29.d1 X G (p0:="walk");obtain⟨d'1e⟩:=h30.d2 X G (p0:="walk") (p1:="sort");obtain⟨d'1f⟩:=h31.d1 X G (p0:="one");obtain⟨d'20⟩:=h32.d1 X G (p0:="some");obtain⟨d'21⟩:=h33.d3 X G (p0:="one") (p1:="dx") (p2:="dy");obtain⟨d'22⟩:=h34.d3 X G (p0:="some") (p1:="dx") (p2:="dy");obtain⟨d'23⟩:=h35.d1 X G (p0:="edge");obtain⟨d'24⟩:=h36.d1 X G (p0:="step");obtain⟨d'25⟩:=h37.d2 X G (p0:="one") (p1:="quarters");obtain⟨d'26⟩:=h38.d2 X G (p0:="some") (p1:="quarters");obtain⟨d'27⟩:=h39.d1 X G (p0:="edge");obtain⟨d'28⟩:=h40.d1 X G (p0:="step");obtain⟨d'29⟩:=h41.d1 X G (p0:="one");obtain⟨d'2a⟩:=h42.d1 X G (p0:="some");obtain⟨d'2b⟩:=h43.d3 X G (p0:="some") (p1:="mirror") (p2:="quarters");obtain⟨d'2c⟩:=h44.d2 X G (p0:="some") (p1:="others");obtain⟨d'2d⟩:=h45.d2 X G (p0:="one") (p1:="other");obtain⟨d'2e⟩:=h46.d2 X G (p0:="some") (p1:="others");obtain⟨d'2f⟩:=h47.d1 X G (p0:="row");obtain⟨d'30⟩:=h48.d1 X G (p0:="one");obtain⟨d'31⟩:=h49.d2 X G (p0:="_law_script") (p1:="_law_k");obtain⟨d'32⟩:=h50.d2 X G (p0:="_law_pen") (p1:="_law_base");obtain⟨d'33⟩:=h51.d1 X G (p0:="_law_pen");obtain⟨d'34⟩:=h52.d6 X G (p0:="_law_pen") (p1:="_law_way") (p2:="_law_x") (p3:="_law_y") (p4:="_law_wide") (p5:="_law_high");obtain⟨d'35⟩:=h53.d2 X G (p0:="_law_pen") (p1:="_law_most");obtain⟨d'36⟩:=h54.d1 X G (p0:="_law_row");obtain⟨d'37⟩:=h55.d1 X G (p0:="_law_some");obtain⟨d'38⟩:=h56.d2 X G (p0:="_law_one") (p1:="_law_other");obtain⟨d'39⟩:=h57.d2 X G (p0:="_law_one") (p1:="_law_other");obtain⟨d'3a⟩:=h58.d1 X G (p0:="_law_one");obtain⟨d'3b⟩:=h59.d2 X G (p0:="_law_one") (p1:="_law_other");have F60:=zdv (st:=s_law) l60 c60 k60;have b60:=F60.b1 (p0:="_law_script");refine⟨Dj "law" "law" (za9 s_law) (za0 s_law) (zad s_law) .none kV60 dc60 pm60 an60 cd60 ct60,λs v=>.of_eq rfl,λbase _ _=>?_⟩;have fn:∀{k:Nat}{x:Str}{s:Stmt}{ps:List Str}{sp:Sp} (d:Df K mg x s ps),FnOk l.prog w K mg base CX0 k d.f d.fd ps sp->Fn l.prog w K mg base k x ps sp:=λd h=>d.fn h
 have g'3c:=fn d'2 (zgg d'2);have g'3d:=fn d'4 (zmW T d'4);have g'3e:=fn d'8 (zd0 d'8);have g'3f:=fn d'9 (zgc d'9);have g'40:=fn d'b (zhZ d'b);have g'41:=fn d'6 (zgd g'3d d'6);have g'42:=fn d'3 (ze9 T g'3c d'3);have g'43:=fn d'5 (zgf d'5);have g'44:=fn d'a (zeZ g'3d g'3f g'3e d'a);have g'45:=fn d'c (ze7 g'3d g'40 d'c);have g'46:=fn d'7 (zg5 T g'43 g'41 d'7);have g'47:=fn d'd (zg0 g'44 g'45 d'd);have g'48:=fn d'e (zc8 T g'40 d'e);have g'49:=fn d'f (zcX g'48 d'f);have g'4a:=fn d'10 (zjr g'49 d'10);have g'4b:=fn d'11 (zh1 T g'3c d'11);have g'4c:=fn d'12 (zhV T g'4a g'4b d'12);have g'4d:=fn d'13 (ze0 d'13);have g'4e:=fn d'14 (zeE T g'47 g'4c g'4d d'14);have g'4f:=fn d'15 (zkt T g'42 g'43 g'46 g'4e d'15);have g'50:=fn d'16 (zgh T d'16);have g'51:=fn d'17 (zjo d'17);have g'52:=fn d'18 (ze8 g'51 d'18);have g'53:=fn d'19 (zjq g'45 d'19);have g'54:=fn d'1a (zga g'53 g'52 d'1a);have g'55:=fn d'1b (zeD g'45 g'41 g'40 g'3d g'3f g'3e d'1b);have g'56:=fn d'1c (ze6 g'55 d'1c);have g'57:=fn d'1d (zge g'45 d'1d);have g'58:=fn d'1e (zg4 T g'57 g'49 d'1e);have g'59:=fn d'1f (zjp g'50 g'54 g'56 g'58 g'4b d'1f);have g'5a:=fn d'27 (ze2 d'27);have g'5b:=fn d'28 (ze1 d'28);have g'5c:=fn d'20 (zh0 T g'4d d'20);have g'5d:=fn d'29 (zhW T g'59 g'5a g'5b g'4c d'29);have g'5e:=fn d'2a (zeH T g'5d g'5c d'2a);have g'5f:=fn d'23 (zeG d'23);have g'60:=fn d'24 (zeF d'24);have g'61:=fn d'25 (zks T g'59 g'5f g'60 g'4c d'25);have g'62:=fn d'26 (zgb T g'61 g'5c d'26);have g'63:=fn d'21 (zlE d'21);have g'64:=fn d'22 (zg1 T g'63 g'5c d'22);have g'65:=fn d'2b (zju g'62 g'5e d'2b);have g'66:=fn d'2c (zdJ T g'64 d'2c);have g'67:=fn d'2e (zgi T g'65 g'66 d'2e);have g'68:=fn d'2d (zlF g'67 d'2d);have g'69:=fn d'0 (zeC d'0);have g'6a:=fn d'1 (zhU T g'69 d'1);have g'6b:=fn d'2f (zdt T d'2f);have g'6c:=fn d'30 (zmV g'6b d'30);have g'6d:=fn d'31 (ze5 T d'31);have g'6e:=fn d'32 (tk_of (zhX T d'32));have g'6f:=fn d'33 (zjt g'6e d'33);have g'70:=fn d'34 (zeI T g'6e d'34);have g'71:=fn d'35 (ze3 T g'6e g'6f g'70 d'35);have g'72:=fn d'36 (zdK T g'6a d'36);have g'73:=fn d'37 (zg2 T d'37);have g'74:=fn d'38 (zhY T d'38);have g'75:=fn d'39 (ze4 T g'74 d'39);have g'76:=fn d'3a (zjs T g'6c g'61 d'3a);have g'77:=fn d'3b (zg3 T g'75 g'74 g'72 g'68 d'3b);exact znJ T g'6d g'71 g'4f g'73 g'72 g'76 g'77 ⟨_,_,F60,W.mg_of X G a60,b60⟩
theorem walk{l:W.OpenLaw}{q:AH}{loose:List Str}{XP:(Str -> Option Ab) -> Heap -> Prop}{YP:A1 -> Heap -> Prop}{d:DefRec}{K:Params -> W.Frag}(hn:l.most=some 63)(hdf:d.params.defaults = [])
  (hY:∀(w:A1) (h:Heap),YP w h->(K w.params).In h)
  (F:∀(w:A1) (mg:Str->Option Ab) (fa:Addr) (h:Heap),(K w.params).In h->h.Ns AG mg->mg d.name=some (.ref fa) ->
   ∃fd:Br,(∀(s:Ae) (u:Ab),BindsTo s fd ⟨[u],[]⟩ [("_law_script",u)])/\∀base:Heap,(K w.params).In base->base.Ns AG mg->FnOk l.prog w (K w.params) mg base CX0 12 fa fd ["_law_script"] (spLaw (K w.params))) :
  W.WalkO q loose XP YP l.row.toRowW d [] (λf vs=>PySem.call f vs) :=
 L2.walk_of (n:=63) (k:=12) (x:="_law_script") (CX:=λ_=>CX0) (sp:=λw=>spLaw (K w.params)) hn (by decide) hdf ⟨rfl,by decide,by decide,rfl⟩ hY F (λ_ _ a ns hl _ hS=>⟨a,ns,rfl,hS,hl,λ_=>rfl⟩) λ_ _ _ _ _ z=>z
end RR
namespace PySem.W.Fast
noncomputable def tw14144908322151749839:=()
noncomputable def tw10489100258086269295:=()
noncomputable def tw16120968313332742150:=()
noncomputable def tw9053349971541073901:=()
noncomputable def tw9071820553630648520:=()
noncomputable def tw508774695528282069:=()
noncomputable def tw225783442765135872:=()
noncomputable def tw8045776284158005631:=()
noncomputable def tw9073432511911898756:=()
noncomputable def tw13545611062606728784:=()
noncomputable def tw12949239251192945088:=()
noncomputable def tw6965203854055949912:=()
noncomputable def tw3973754293308678686:=()
noncomputable def tw11323406546449681482:=()
noncomputable def tw5328428193979623941:=()
noncomputable def tw13403868337766805426:=()
noncomputable def tw10566707436182191795:=()
noncomputable def tw17100269394554625636:=()
noncomputable def tw12302817890117935608:=()
noncomputable def tw10010492757853335692:=()
noncomputable def tw17002260769462665878:=()
noncomputable def tw971474238051451482:=()
noncomputable def tw9503260114568894070:=()
noncomputable def tw12225581588709280603:=()
noncomputable def tw1382682819021080310:=()
noncomputable def tw3133454788969187459:=()
noncomputable def tw3257851369219516484:=()
noncomputable def tw11484245837819998152:=()
noncomputable def tw7678417930675756861:=()
noncomputable def tw17392152265228638830:=()
noncomputable def tw14626323626262062833:=()
noncomputable def tw9772236574155569008:=()
noncomputable def tw7136307494477862192:=()
noncomputable def tw457667216512224217:=()
noncomputable def tw13320225610435065354:=()
noncomputable def tw10756909209221674472:=()
noncomputable def tw7076578904047202842:=()
noncomputable def tw10995533249489961287:=()
noncomputable def tw536912919661408272:=()
noncomputable def tw16892504614876907061:=()
noncomputable def tw7121928409665830636:=()
noncomputable def tw12656919825315812614:=()
noncomputable def tw6793859827728863718:=()
noncomputable def tw4035774268884114023:=()
noncomputable def tw791468004981313549:=()
noncomputable def tw13193378107327574308:=()
noncomputable def tw3738225186543624136:=()
noncomputable def tw10034497785551576728:=()
noncomputable def tw6533389712256729088:=()
noncomputable def tw6501670843224987930:=()
noncomputable def tw11083960375050368825:=()
noncomputable def tw5994719672861732052:=()
noncomputable def tw8877977378509848013:=()
noncomputable def tw5128191644018701935:=()
noncomputable def tw10937530817920911853:=()
noncomputable def tw597861937833532919:=()
noncomputable def tw16170895277167105626:=()
noncomputable def tw12349787738620298728:=()
noncomputable def tw1659473175203835744:=()
noncomputable def tw15750141221370846150:=()
noncomputable def tw10523425653490445307:=()
noncomputable def tw11037600437972765298:=()
noncomputable def tw4099010903152649874:=()
noncomputable def tw13204562572158340966:=()
noncomputable def tw2662754667769093983:=()
noncomputable def tw9895607182549182426:=()
noncomputable def tw3183683866796677114:=()
noncomputable def tw12369413278161463407:=()
noncomputable def tw17224604816153120519:=()
noncomputable def tw17546025617734271109:=()
noncomputable def tw11392989155262683128:=()
noncomputable def tw10431850894444462679:=()
noncomputable def tw2145394660568388309:=()
noncomputable def tw1361828120962335043:=()
noncomputable def tw5826481296536602544:=()
noncomputable def tw3313131609645175676:=()
noncomputable def tw7458038817801357322:=()
noncomputable def tw1444593782659403256:=()
noncomputable def tw1169511875511885048:=()
noncomputable def tw12892737202456940183:=()
noncomputable def tw7242682729613384337:=()
noncomputable def tw10511159143336391968:=()
noncomputable def tw15534329859185700883:=()
noncomputable def tw14487974018184366188:=()
noncomputable def tw10586799765367271891:=()
noncomputable def tw13589320365555380935:=()
noncomputable def tw7800373741243475860:=()
noncomputable def tw14494150467836257664:=()
noncomputable def tw6640219868712459657:=()
noncomputable def tw9729991104518544833:=()
noncomputable def tw466943139773527711:=()
noncomputable def tw18042096613700850566:=()
noncomputable def tw5786076011283906057:=()
noncomputable def tw14048064048565072496:=()
noncomputable def tw10994974974033635986:=()
noncomputable def tw18043803651085927723:=()
noncomputable def tw12739911126717309237:=()
noncomputable def tw18431788616385732737:=()
noncomputable def tw8045871904254922615:=()
noncomputable def tw17775214557949626893:=()
noncomputable def tw15351674247483595149:=()
noncomputable def tw8796860192716227777:=()
noncomputable def tw1881670956954423206:=()
noncomputable def tw8437990593311109286:=()
noncomputable def tw13274080847874607197:=()
noncomputable def tw750133962603799757:=()
noncomputable def tw17102659425060829955:=()
noncomputable def tw4360713939906261822:=()
noncomputable def tw11719453211285691992:=()
noncomputable def tw15895259732801197645:=()
noncomputable def tw12141925207463066579:=()
noncomputable def tw8804643398688320712:=()
noncomputable def tw2326937466579918586:=()
noncomputable def tw2640211578170743967:=()
noncomputable def tw2755555914735808927:=()
noncomputable def tw7323259292270199011:=()
noncomputable def tw14406550788482133299:=()
noncomputable def tw11930812807365876209:=()
noncomputable def tw8824843850605033446:=()
noncomputable def tw5585928027153153304:=()
noncomputable def tw5448165599382207589:=()
noncomputable def tw17933565632124960233:=()
noncomputable def tw15868951857905014898:=()
noncomputable def tw6788098274617551353:=()
noncomputable def tw18222817436889567384:=()
noncomputable def tw17175987424220813260:=()
noncomputable def tw4737998310002348895:=()
noncomputable def tw5872120460205485741:=()
noncomputable def tw14595941639020262566:=()
noncomputable def tw1662446460840817273:=()
noncomputable def tw10853336053698851161:=()
noncomputable def tw15505835940338224638:=()
noncomputable def tw4842808272056107989:=()
noncomputable def tw11030160375276925574:=()
noncomputable def tw9665377336118595273:=()
noncomputable def tw1017830266982970869:=()
noncomputable def tw4908590323548782067:=()
noncomputable def tw8466302304750910636:=()
noncomputable def tw15183614162905110609:=()
noncomputable def tw11683288418155705818:=()
noncomputable def tw13317616539301792905:=()
noncomputable def tw8962448085950468222:=()
noncomputable def tw4786056901629509805:=()
noncomputable def tw6674017819670602860:=()
noncomputable def tw14643482552254701398:=()
noncomputable def tw16319574402413759500:=()
noncomputable def tw557350304933003231:=()
noncomputable def tw1243899030765206740:=()
noncomputable def tw3499044862267761658:=()
noncomputable def tw13840457858530867753:=()
noncomputable def tw6417256507544472104:=()
noncomputable def tw2486079826428077435:=()
noncomputable def tw16052534493489289793:=()
noncomputable def tw17926470516348225280:=()
noncomputable def tw8623374675640657297:=()
noncomputable def tw7510551970006892600:=()
noncomputable def tw1277379754427344512:=()
noncomputable def tw16596414515878931126:=()
noncomputable def tw17877395875789394041:=()
noncomputable def tw6186925127853683787:=()
noncomputable def tw6297090863582003543:=()
noncomputable def tw1126549880124295270:=()
noncomputable def tw4103967935122723097:=()
noncomputable def tw10698978125591745803:=()
noncomputable def tw17712206173371781244:=()
noncomputable def tw9612464356388638258:=()
noncomputable def tw13710346475718215880:=()
noncomputable def tw1926833301023902529:=()
noncomputable def tw8431404998061647083:=()
noncomputable def tw5482268546014662877:=()
noncomputable def tw11521149663125623564:=()
noncomputable def tw1166484042491441240:=()
noncomputable def tw4492390346480068832:=()
noncomputable def tw14183787907320568336:=()
noncomputable def tw18383120671466153453:=()
noncomputable def tw4171953215688733094:=()
noncomputable def tw8450998776394702162:=()
noncomputable def tw10267701771297234134:=()
noncomputable def tw1171232587422916566:=()
noncomputable def tw3515818020108374192:=()
noncomputable def tw14521703411831671405:=()
noncomputable def tw2181049219778411053:=()
noncomputable def tw15373530694788336807:=()
noncomputable def tw8800875682718641892:=()
noncomputable def tw1858450734374232620:=()
noncomputable def tw9302493549320155001:=()
noncomputable def tw9172462146873425072:=()
noncomputable def tw18072904372740643929:=()
noncomputable def tw6979925568467264239:=()
noncomputable def tw8880805383188246333:=()
noncomputable def tw6125621710639216565:=()
noncomputable def tw11825955365890601989:=()
noncomputable def tw14075980044621879109:=()
noncomputable def tw13355587261074142214:=()
noncomputable def tw7826288384152072788:=()
noncomputable def tw3787826719231052930:=()
noncomputable def tw15159001797865402121:=()
noncomputable def tw6798355897802379456:=()
noncomputable def tw12310129235022236024:=()
noncomputable def tw12637745374394851806:=()
noncomputable def tw15943121183626325312:=()
noncomputable def tw149027517963505857:=()
noncomputable def tw12389975385164681897:=()
noncomputable def tw3187808314691452646:=()
noncomputable def tw9367382332493578472:=()
noncomputable def tw6775318042008556086:=()
noncomputable def tw730524542551533422:=()
noncomputable def tw9706858612343015207:=()
noncomputable def tw1163047860142281191:=()
noncomputable def tw8107553836946881222:=()
noncomputable def tw869828317445019939:=()
noncomputable def tw7021273611171295653:=()
noncomputable def tw4392920756032987945:=()
noncomputable def tw2786854279567438640:=()
noncomputable def tw685583146971585183:=()
noncomputable def tw9356007038632079339:=()
noncomputable def tw9626927129036220596:=()
noncomputable def tw15717198864047348351:=()
noncomputable def tw12620518616875205115:=()
noncomputable def tw17753507786513230866:=()
noncomputable def tw14286650682682068502:=()
noncomputable def tw1613325339892084565:=()
noncomputable def tw12844317969805005709:=()
noncomputable def tw8067036963445060042:=()
noncomputable def tw9302927912741047949:=()
noncomputable def tw9955491569404155011:=()
noncomputable def tw8602024415380360100:=()
noncomputable def tw3099849789415419634:=()
noncomputable def tw15720728683176363538:=()
noncomputable def tw764484827993657091:=()
noncomputable def tw10127613397129801559:=()
noncomputable def tw9856696108624958575:=()
noncomputable def tw4190011843923825018:=()
noncomputable def tw2311665349176217581:=()
noncomputable def tw2466861644414648450:=()
noncomputable def tw6188552732686111439:=()
noncomputable def tw10462108016524382156:=()
noncomputable def tw8422365340463837279:=()
noncomputable def tw6513921254381235982:=()
noncomputable def tw2449348862426188936:=()
noncomputable def tw4947706356349743736:=()
noncomputable def tw11106408254924735764:=()
noncomputable def tw3995473121773231606:=()
noncomputable def tw15524331677017361629:=()
noncomputable def tw10558718438111463598:=()
noncomputable def tw2048017770735966307:=()
noncomputable def tw6053216626202741622:=()
noncomputable def tw7999401189713937931:=()
noncomputable def tw18058850105260229305:=()
noncomputable def tw11474368620632286840:=()
noncomputable def tw11399308008201737825:=()
noncomputable def tw2087857942436033230:=()
noncomputable def tw10651760091963005520:=()
noncomputable def tw7924507555651174851:=()
noncomputable def tw11567710535661216037:=()
noncomputable def tw342035668024372571:=()
noncomputable def tw2252903245043381795:=()
noncomputable def tw17329927951298955555:=()
noncomputable def tw1818585821261806745:=()
noncomputable def tw13365120109934675909:=()
noncomputable def tw5230925889356075326:=()
noncomputable def tw5596040733665648561:=()
noncomputable def tw4408705448792361641:=()
noncomputable def tw9466042554749596856:=()
noncomputable def tw13125178501309620333:=()
noncomputable def tw10853497255974899925:=()
noncomputable def tw9098478275472043114:=()
noncomputable def tw8971847641675789024:=()
noncomputable def tw4224861425696245423:=()
noncomputable def tw5350650662088034278:=()
noncomputable def tw13849870422707053485:=()
noncomputable def tw3457572732655677838:=()
noncomputable def tw18446661897896777311:=()
noncomputable def tw4885781461996509069:=()
noncomputable def tw4765572628040396798:=()
noncomputable def tw12583420523369409247:=()
noncomputable def tw9001981621478983574:=()
noncomputable def tw2868792551534094777:=()
noncomputable def tw8938393411059152573:=()
noncomputable def tw16291736493389133093:=()
noncomputable def tw11933937171949026681:=()
noncomputable def tw16263717483177289361:=()
noncomputable def tw15799749224237348475:=()
noncomputable def tw8309136528785268876:=()
noncomputable def tw1891903667884114368:=()
noncomputable def tw16482123559683103989:=()
noncomputable def tw4760747381429840181:=()
noncomputable def tw12903811876019992958:=()
noncomputable def tw7092566090613911777:=()
noncomputable def tw14679356163761102473:=()
noncomputable def tw17585407758270770233:=()
noncomputable def tw7459515533624068090:=()
noncomputable def tw9007814135171106805:=()
noncomputable def tw18176403724317783746:=()
noncomputable def tw15854888099213350739:=()
noncomputable def tw3922243886324508609:=()
noncomputable def tw754758137289264632:=()
noncomputable def tw12570771490837262191:=()
noncomputable def tw12270919750068119390:=()
noncomputable def tw17890997082251966065:=()
noncomputable def tw8739161007053368945:=()
noncomputable def tw6499784873542341871:=()
noncomputable def tw7285836160003169660:=()
noncomputable def tw9101787207813151612:=()
noncomputable def tw15446059336906884876:=()
noncomputable def tw1327168743839749055:=()
noncomputable def tw18188685575901181458:=()
noncomputable def tw7844864078754209512:=()
noncomputable def tw3734583675970760773:=()
noncomputable def tw8775442691909957066:=()
noncomputable def tw7964314465253406578:=()
noncomputable def tw17233953078623296896:=()
noncomputable def tw1755233536458352864:=()
noncomputable def tw17781637915506775852:=()
noncomputable def tw17850739524357750822:=()
noncomputable def tw14509341287509847820:=()
noncomputable def tw3607335467933581221:=()
noncomputable def tw7734460214500660113:=()
noncomputable def tw14891968356346806443:=()
noncomputable def tw17725321644049261027:=()
noncomputable def tw7157278931873920056:=()
end PySem.W.Fast
open PySem PySem.W PyProof.Rows
set_option maxRecDepth 100000 in
set_option maxHeartbeats 0 in
theorem PySem.Challenge.cw_rimsteps_k73_whole_turns_tell_turnings_holds : PySem.Challenge.rw_rimsteps_k73_whole_turns_tell_turnings.Holds := by
 w_on;o_law;k_head;(case hw=>w_witness2)
 k_fill
 refine RR.walk (l:=PySem.Challenge.rw_rimsteps_k73_whole_turns_tell_turnings) rfl rfl (λw h Y=>W.kIn_of Y) ?F
 case F =>
  intro w mg fa h KX G hmg
  refine' RR.all_mk KX G hmg (.mk ?a0 ?l0 ?c0 ?k0) (.mk ?a1 ?l1 ?c1 ?k1) (.mk ?a2 ?l2 ?c2 ?k2) (.mk ?a3 ?l3 ?c3 ?k3) (.mk ?a4 ?l4 ?c4 ?k4) (.mk ?a5 ?l5 ?c5 ?k5) (.mk ?a6 ?l6 ?c6 ?k6) (.mk ?a7 ?l7 ?c7 ?k7) (.mk ?a8 ?l8 ?c8 ?k8) (.mk ?a9 ?l9 ?c9 ?k9) (.mk ?a10 ?l10 ?c10 ?k10) (.mk ?a11 ?l11 ?c11 ?k11) (.mk ?a12 ?l12 ?c12 ?k12) (.mk ?a13 ?l13 ?c13 ?k13) (.mk ?a14 ?l14 ?c14 ?k14) (.mk ?a15 ?l15 ?c15 ?k15) (.mk ?a16 ?l16 ?c16 ?k16) (.mk ?a17 ?l17 ?c17 ?k17) (.mk ?a18 ?l18 ?c18 ?k18) (.mk ?a19 ?l19 ?c19 ?k19) (.mk ?a20 ?l20 ?c20 ?k20) (.mk ?a21 ?l21 ?c21 ?k21) (.mk ?a22 ?l22 ?c22 ?k22) (.mk ?a23 ?l23 ?c23 ?k23) (.mk ?a24 ?l24 ?c24 ?k24) (.mk ?a25 ?l25 ?c25 ?k25) (.mk ?a26 ?l26 ?c26 ?k26) (.mk ?a27 ?l27 ?c27 ?k27) (.mk ?a28 ?l28 ?c28 ?k28) (.mk ?a29 ?l29 ?c29 ?k29) (.mk ?a30 ?l30 ?c30 ?k30) (.mk ?a31 ?l31 ?c31 ?k31) (.mk ?a32 ?l32 ?c32 ?k32) (.mk ?a33 ?l33 ?c33 ?k33) (.mk ?a34 ?l34 ?c34 ?k34) (.mk ?a35 ?l35 ?c35 ?k35) (.mk ?a36 ?l36 ?c36 ?k36) (.mk ?a37 ?l37 ?c37 ?k37) (.mk ?a38 ?l38 ?c38 ?k38) (.mk ?a39 ?l39 ?c39 ?k39) (.mk ?a40 ?l40 ?c40 ?k40) (.mk ?a41 ?l41 ?c41 ?k41) (.mk ?a42 ?l42 ?c42 ?k42) (.mk ?a43 ?l43 ?c43 ?k43) (.mk ?a44 ?l44 ?c44 ?k44) (.mk ?a45 ?l45 ?c45 ?k45) (.mk ?a46 ?l46 ?c46 ?k46) (.mk ?a47 ?l47 ?c47 ?k47) (.mk ?a48 ?l48 ?c48 ?k48) (.mk ?a49 ?l49 ?c49 ?k49) (.mk ?a50 ?l50 ?c50 ?k50) (.mk ?a51 ?l51 ?c51 ?k51) (.mk ?a52 ?l52 ?c52 ?k52) (.mk ?a53 ?l53 ?c53 ?k53) (.mk ?a54 ?l54 ?c54 ?k54) (.mk ?a55 ?l55 ?c55 ?k55) (.mk ?a56 ?l56 ?c56 ?k56) (.mk ?a57 ?l57 ?c57 ?k57) (.mk ?a58 ?l58 ?c58 ?k58) (.mk ?a59 ?l59 ?c59 ?k59) ?a60 ?l60 ?c60 ?k60 ?aM ?lM ?x0 ?x1 ?x2 ?x3 ?x4 ?x5 ?x6 ?x7 ?aB ?lB ?aB2 ?lB2 ?aTURNS ?lTURNS ?xTURNS0 ?xTURNS1 ?xTURNS2 ?xTURNS3 ?xTURNS4 ?xTURNS5 ?xTURNS6 ?xTURNS7 ?z_range ?z_len ?z_min ?z_max ?z_sorted ?z_tuple ?z_int ?z_bool ?z_abs ?z_all ?z_isinstance ?z_list ?z_zip ?z_enumerate ?z_any
  (case a0=>k_is)
  (case l0=>k_is)
  (case c0=>k_is)
  (case k0=>k_is)
  (case a1=>k_is)
  (case l1=>k_is)
  (case c1=>k_is)
  (case k1=>k_is)
  (case a2=>k_is)
  (case l2=>k_is)
  (case c2=>k_is)
  (case k2=>k_is)
  (case a3=>k_is)
  (case l3=>k_is)
  (case c3=>k_is)
  (case k3=>k_is)
  (case a4=>k_is)
  (case l4=>k_is)
  (case c4=>k_is)
  (case k4=>k_is)
  (case a5=>k_is)
  (case l5=>k_is)
  (case c5=>k_is)
  (case k5=>k_is)
  (case a6=>k_is)
  (case l6=>k_is)
  (case c6=>k_is)
  (case k6=>k_is)
  (case a7=>k_is)
  (case l7=>k_is)
  (case c7=>k_is)
  (case k7=>k_is)
  (case a8=>k_is)
  (case l8=>k_is)
  (case c8=>k_is)
  (case k8=>k_is)
  (case a9=>k_is)
  (case l9=>k_is)
  (case c9=>k_is)
  (case k9=>k_is)
  (case a10=>k_is)
  (case l10=>k_is)
  (case c10=>k_is)
  (case k10=>k_is)
  (case a11=>k_is)
  (case l11=>k_is)
  (case c11=>k_is)
  (case k11=>k_is)
  (case a12=>k_is)
  (case l12=>k_is)
  (case c12=>k_is)
  (case k12=>k_is)
  (case a13=>k_is)
  (case l13=>k_is)
  (case c13=>k_is)
  (case k13=>k_is)
  (case a14=>k_is)
  (case l14=>k_is)
  (case c14=>k_is)
  (case k14=>k_is)
  (case a15=>k_is)
  (case l15=>k_is)
  (case c15=>k_is)
  (case k15=>k_is)
  (case a16=>k_is)
  (case l16=>k_is)
  (case c16=>k_is)
  (case k16=>k_is)
  (case a17=>k_is)
  (case l17=>k_is)
  (case c17=>k_is)
  (case k17=>k_is)
  (case a18=>k_is)
  (case l18=>k_is)
  (case c18=>k_is)
  (case k18=>k_is)
  (case a19=>k_is)
  (case l19=>k_is)
  (case c19=>k_is)
  (case k19=>k_is)
  (case a20=>k_is)
  (case l20=>k_is)
  (case c20=>k_is)
  (case k20=>k_is)
  (case a21=>k_is)
  (case l21=>k_is)
  (case c21=>k_is)
  (case k21=>k_is)
  (case a22=>k_is)
  (case l22=>k_is)
  (case c22=>k_is)
  (case k22=>k_is)
  (case a23=>k_is)
  (case l23=>k_is)
  (case c23=>k_is)
  (case k23=>k_is)
  (case a24=>k_is)
  (case l24=>k_is)
  (case c24=>k_is)
  (case k24=>k_is)
  (case a25=>k_is)
  (case l25=>k_is)
  (case c25=>k_is)
  (case k25=>k_is)
  (case a26=>k_is)
  (case l26=>k_is)
  (case c26=>k_is)
  (case k26=>k_is)
  (case a27=>k_is)
  (case l27=>k_is)
  (case c27=>k_is)
  (case k27=>k_is)
  (case a28=>k_is)
  (case l28=>k_is)
  (case c28=>k_is)
  (case k28=>k_is)
  (case a29=>k_is)
  (case l29=>k_is)
  (case c29=>k_is)
  (case k29=>k_is)
  (case a30=>k_is)
  (case l30=>k_is)
  (case c30=>k_is)
  (case k30=>k_is)
  (case a31=>k_is)
  (case l31=>k_is)
  (case c31=>k_is)
  (case k31=>k_is)
  (case a32=>k_is)
  (case l32=>k_is)
  (case c32=>k_is)
  (case k32=>k_is)
  (case a33=>k_is)
  (case l33=>k_is)
  (case c33=>k_is)
  (case k33=>k_is)
  (case a34=>k_is)
  (case l34=>k_is)
  (case c34=>k_is)
  (case k34=>k_is)
  (case a35=>k_is)
  (case l35=>k_is)
  (case c35=>k_is)
  (case k35=>k_is)
  (case a36=>k_is)
  (case l36=>k_is)
  (case c36=>k_is)
  (case k36=>k_is)
  (case a37=>k_is)
  (case l37=>k_is)
  (case c37=>k_is)
  (case k37=>k_is)
  (case a38=>k_is)
  (case l38=>k_is)
  (case c38=>k_is)
  (case k38=>k_is)
  (case a39=>k_is)
  (case l39=>k_is)
  (case c39=>k_is)
  (case k39=>k_is)
  (case a40=>k_is)
  (case l40=>k_is)
  (case c40=>k_is)
  (case k40=>k_is)
  (case a41=>k_is)
  (case l41=>k_is)
  (case c41=>k_is)
  (case k41=>k_is)
  (case a42=>k_is)
  (case l42=>k_is)
  (case c42=>k_is)
  (case k42=>k_is)
  (case a43=>k_is)
  (case l43=>k_is)
  (case c43=>k_is)
  (case k43=>k_is)
  (case a44=>k_is)
  (case l44=>k_is)
  (case c44=>k_is)
  (case k44=>k_is)
  (case a45=>k_is)
  (case l45=>k_is)
  (case c45=>k_is)
  (case k45=>k_is)
  (case a46=>k_is)
  (case l46=>k_is)
  (case c46=>k_is)
  (case k46=>k_is)
  (case a47=>k_is)
  (case l47=>k_is)
  (case c47=>k_is)
  (case k47=>k_is)
  (case a48=>k_is)
  (case l48=>k_is)
  (case c48=>k_is)
  (case k48=>k_is)
  (case a49=>k_is)
  (case l49=>k_is)
  (case c49=>k_is)
  (case k49=>k_is)
  (case a50=>k_is)
  (case l50=>k_is)
  (case c50=>k_is)
  (case k50=>k_is)
  (case a51=>k_is)
  (case l51=>k_is)
  (case c51=>k_is)
  (case k51=>k_is)
  (case a52=>k_is)
  (case l52=>k_is)
  (case c52=>k_is)
  (case k52=>k_is)
  (case a53=>k_is)
  (case l53=>k_is)
  (case c53=>k_is)
  (case k53=>k_is)
  (case a54=>k_is)
  (case l54=>k_is)
  (case c54=>k_is)
  (case k54=>k_is)
  (case a55=>k_is)
  (case l55=>k_is)
  (case c55=>k_is)
  (case k55=>k_is)
  (case a56=>k_is)
  (case l56=>k_is)
  (case c56=>k_is)
  (case k56=>k_is)
  (case a57=>k_is)
  (case l57=>k_is)
  (case c57=>k_is)
  (case k57=>k_is)
  (case a58=>k_is)
  (case l58=>k_is)
  (case c58=>k_is)
  (case k58=>k_is)
  (case a59=>k_is)
  (case l59=>k_is)
  (case c59=>k_is)
  (case k59=>k_is)
  (case a60=>k_is)
  (case l60=>k_is)
  (case c60=>k_is)
  (case k60=>k_is)
  (case aM=>k_is)
  (case lM=>k_is)
  (case x0=>k_is)
  (case x1=>k_is)
  (case x2=>k_is)
  (case x3=>k_is)
  (case x4=>k_is)
  (case x5=>k_is)
  (case x6=>k_is)
  (case x7=>k_is)
  (case aB=>k_is)
  (case lB=>k_is)
  (case aB2=>k_is)
  (case lB2=>k_is)
  (case aTURNS=>k_is)
  (case lTURNS=>k_is)
  (case xTURNS0=>k_is)
  (case xTURNS1=>k_is)
  (case xTURNS2=>k_is)
  (case xTURNS3=>k_is)
  (case xTURNS4=>k_is)
  (case xTURNS5=>k_is)
  (case xTURNS6=>k_is)
  (case xTURNS7=>k_is)
  (case z_range=>k_is)
  (case z_len=>k_is)
  (case z_min=>k_is)
  (case z_max=>k_is)
  (case z_sorted=>k_is)
  (case z_tuple=>k_is)
  (case z_int=>k_is)
  (case z_bool=>k_is)
  (case z_abs=>k_is)
  (case z_all=>k_is)
  (case z_isinstance=>k_is)
  (case z_list=>k_is)
  (case z_zip=>k_is)
  (case z_enumerate=>k_is)
  (case z_any=>k_is)
